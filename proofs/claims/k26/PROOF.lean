import PyProof.Rows.All
import HandS.ForMost
import HandS.Set
import HandS.SetFor
import HandS.SetTxt0
import HandS.Strs
import KE.SortData
import KE.SortLaws
import KE.SortKeyHeap
import KE.SortUse
import Wide.All
import OpenK.AllK
import Wide.FinOn
import HandS.Wide
import HandS.Flow
import PySem.Challenge.RW_mendnumber_k26_whole_rows_by_all_words
import HandS.IsInst
import HandS.StrMore
import HandS.Walk
import HandS.MakeKwOnly
import HandS.ClsMeth
import HandS.DictComp
import HandS.Conv
import HandS.Iter
import HandS.Dict
import KE.KDictWalk
import HandS.More
import PyProof.Rows.SortStr
import KE.KDictSum
import HandS.Flt
import PyProof.Draws
import PyProof.EnumMake
import HandS.Defaults
import KE.KDictDisplayH
import PyProof.DictTable
import HandS.Property
import HandS.Small
import HandS.DictTup
import HandS.OwnEq
import KE.KCallOwn
import KE.KFmtOwn
import PyProof.InstNe
import PyProof.FactsAll.enumerate_1
import OpenK.KMeth
import PyProof.P3In
import HandS.Exc
import HandS.ExcOwn
import HandS.WordsExc
import HandS.DictEq
import KE.KDictList
import KE.KDictCopyH
import KE.KItemsList
import KE.DataMinMax
import HandS.Sort
import HandS.FStr
import HandS.TupLen
import KE.KDictPairs
import PyProof.ListStr
import HandS.Text
import HandS.TryOnly
import HandS.Deep
import HandS.Style
import KE.KRevSl
import HandS.Zip
import KE.GoesMore
import KE.GoesEnum
import HandS.Lambda
import HandS.TryMany
import PyProof.StrLawsRepr
import KE.DatumOrd
import KE.KExcSuper
import HandS.ExcField
import HandS.ExcInit
import HandS.ExcValue
import PyProof.NeKinds
import PyProof.EnumIter
import PyProof.CollectWalk
import HandS.TupAny
import KE.KDictKeyed
import KE.KeyNested
import KE.KIntText
import KE.KDictZip
import PyProof.EqAt
import HandS.ListEq
import HandS.RaiseMore
section
open PySem PySem.W PyProof.Rows
set_option maxRecDepth 100000
set_option maxHeartbeats 0
set_option Elab.async false
theorem PySem.W.Fast.te4110290226886642065 : True := trivial
theorem PySem.W.Fast.te5369427470323729400 : True := trivial
open_top head26 for PySem.Challenge.rw_mendnumber_k26_whole_rows_by_all_words
end
set_option Elab.async false
set_option linter.all false
set_option maxRecDepth 100000
set_option maxHeartbeats 4000000
namespace Mk
open PySem PySem.Spec PyProof.Rows L2 PySem.Froz

/-- the table of a payload can be walked -/
def Wk (w : World) (D : SD) : Prop := Ris D.2.2.place.toList ∧ (w.params.followText "set-order" = true ∨ D.2.2.led = true)
/-- the payload holds just the unlike texts l, and can be walked -/
structure Tx (P : Program) (w : World) (D : SD) (l : List Str) : Prop where
  ok : TxOk P w D l
  wk : Wk w D
  nd : l.Nodup

section
variable {P : Program} {w : World} {A : Around} {E : Value → Shared → Prop} {s : Shared}
theorem plain_wk {t : SetTable} (h : Ris t.place.toList ∧ (w.params.followText "set-order" = true ∨ t.led = true)) :
    Ris (if t.plain = true then { t with plain := false } else t).place.toList ∧ (w.params.followText "set-order" = true ∨ (if t.plain = true then { t with plain := false } else t).led = true) := by
  by_cases c : t.plain = true
  · rw [if_pos c]; exact h
  · rw [if_neg c]; exact h
theorem tail_wk {ep : Nat} {es : Array (Int × Value)} {t : SetTable} {b : Bool} (h : Ris t.place.toList ∧ (w.params.followText "set-order" = true ∨ t.led = true)) : Wk w (tailTx ep es t b) := by
  unfold tailTx
  by_cases c : (!b && t.tooFull) = true
  · rw [if_pos c]
    refine ⟨relayAll_ris t es _, h.2.imp id fun z => ?_⟩
    show (relayAll t es (SetTable.grown es.size)).2.1.led = true
    rw [relayAll_led t es _]
    exact z
  · rw [if_neg c]; exact h
theorem add_wk {D : SD} (h : Int) (v : Value) (k : Wk w D) : Wk w (addTx h v D) := by
  unfold addTx
  refine tail_wk (plain_wk ⟨layNew_ris D.2.2 D.1 h v k.1, k.2.imp id fun z => ?_⟩)
  rw [layNew_led D.2.2 D.1 h v]
  exact z
theorem Tx.add {D : SD} {l : List Str} {k : Str} (u : Tok) (x : Tx P w D l) (hk : k ∉ l) : Tx P w (addTx (hashStr w k) (.str k u) D) (k :: l) :=
  ⟨add_ok u x.ok, add_wk _ _ x.wk, List.nodup_cons.mpr ⟨hk, x.nd⟩⟩

/-- an add of a text that is there -/
theorem dup_x {a : Addr} {T : String} {D : SD} {l : List Str} {k : Str} {u : Tok} {Q : Bool → Shared → Prop} (ho : s.heap.get? a = some (sObj T D)) (x : TxOk P w D l) (hk : k ∈ l) (hb : l.length < scanBound)
    (h : Q false s) : wpAny (model P w) A (setAddHashed a (.str k u) (hashStr w k)) Q E s := by
  obtain ⟨es, ep, t⟩ := D
  have d0 : (sObj T (es, ep, t)).data = .set es ep t := rfl
  have f0 : t.fits es.size = true := x.fit
  have e0 : ElemsOf (PySem.strKind P w) es.toList := x.el
  have z0 : es.size = l.length := x.sz
  have b0 : es.size < scanBound := by omega
  have k0 : (PySem.strKind P w).is k (.str k u) = true := is_str k u
  obtain ⟨e, he, hq⟩ := (x.mem k).mp hk
  unfold setAddHashed setAddHashedIn
  refine wpAny_holding (wpAny_bind (wpAny_setState_of ho d0 f0 ?_))
  dsimp only
  rw [byScan_of rfl b0 e0]
  simp only [↓reduceIte]
  unfold setAddByScan
  refine wpAny_bind (wpAny_bind (wpAny_rule ?_))
  refine wpAny_bind (wpAny_setScan_of (knd := PySem.strKind P w) (k := k) k0 ho d0 f0 e0 ?_)
  cases r : List.findIdx? (fun e => (PySem.strKind P w).is k e.2) es.toList with
  | none =>
    have := List.findIdx?_eq_none_iff.mp r e he
    rw [hq] at this
    cases this
  | some j => exact wpAny_pure (wpAny_pure h)

/-- at a stands the set of just the unlike texts l -/
def SetS (P : Program) (w : World) (h : Heap) (a : Addr) (l : List Str) : Prop := ∃ D : SD, h.get? a = some (sObj "set" D) ∧ Tx P w D l
theorem SetS.at {h h' : Heap} {a : Addr} {l : List Str} (x : SetS P w h a l) (k : ∀ o, h.get? a = some o → h'.get? a = some o) : SetS P w h' a l :=
  let ⟨D, e, t⟩ := x
  ⟨D, k _ e, t⟩
/-- l holds just the first i of xs -/
def Firsts (xs : List Str) (i : Nat) (l : List Str) : Prop := (∀ y, y ∈ l ↔ y ∈ xs.take i) ∧ l.length ≤ i
theorem put_x {a : Addr} {l : List Str} {k : Str} {u : Tok} {Q : Bool → Shared → Prop} (x : SetS P w s.heap a l) (hb : l.length + 1 < scanBound)
    (h : ∀ (b : Bool) (h' : Heap) (l' : List Str), Heap.SameBut a s.heap h' → SetS P w h' a l' → (∀ y, y ∈ l' ↔ y ∈ l ∨ y = k) → l'.length ≤ l.length + 1 → Q b { s with heap := h' }) :
    wpAny (model P w) A (setAddHashed a (.str k u) (hashStr w k)) Q E s := by
  obtain ⟨D, e, t⟩ := x
  by_cases hk : k ∈ l
  · refine dup_x e t.ok hk (by omega) (h false s.heap l (Heap.SameBut.refl a s.heap) ⟨D, e, t⟩ (fun y => ⟨.inl, fun z => z.elim id fun q => q ▸ hk⟩) (Nat.le_succ _))
  · refine add_x e t.ok hk hb (h true _ (k :: l) ?_ ⟨_, ?_, t.add u hk⟩ (fun y => ?_) (by simp))
    · exact Heap.SameBut.update _ _ _
    · exact get_upd _ e rfl
    · rw [List.mem_cons]
      exact Or.comm

theorem grow_x {I : Addr} {fp wr : List Addr} {G : Array GenState → Array GenState → Prop} {n : Nat} {Pv : Nat → Value → Prop} {St : Nat → Shared → Prop} {R : Result → Shared → Prop}
    (W : WalksS P w A.in1 I fp wr G n Pv St) (a : Addr) (ha : a ∉ fp) (xs : List Str) (hn : n = xs.length) (hb : xs.length + 1 < scanBound) (hv : ∀ i v, Pv i v → ∃ y t, xs[i]? = some y ∧ v = .str y t) :
    ∀ (m i : Nat) (s : Shared), n - i = m → i ≤ n → St i s → (∃ l, Firsts xs i l ∧ SetS P w s.heap a l) →
      (∀ s' l, Moved (a :: wr) G s s' → Firsts xs n l → SetS P w s'.heap a l → R (.ok (.ret .none)) s') →
      codeAny (model P w) A (.builtin "set.update.loop" ⟨[.ref a, .ref I], []⟩) R s := by
  have aw : a ∉ wr := fun z => ha (W.sub _ z)
  have more : ∀ b ∈ wr, b ∈ a :: wr := fun b z => List.mem_cons_of_mem _ z
  intro m
  induction m with
  | zero =>
    intro i s hm hi st ⟨l, hf, x⟩ hR
    obtain rfl : i = n := by omega
    refine codeAny_builtin PyProof.Rows.F.entry_set_update_loop ?_
    rw [Around.under_plainId PyProof.Rows.F.plain_set_update_loop _]
    show wpAny _ A.in1 (pyNext (.ref I) >>= _) _ _ s
    refine wpAny_bind (W.done s _ _ st fun s1 mv => wpAny_pure ?_)
    exact hR s1 l (mv.mono more) hf (x.at fun o e => mv.heap a o aw e)
  | succ m ih =>
    intro i s hm hi st ⟨l, hf, x⟩ hR
    have lt : i < n := by omega
    refine codeAny_builtin PyProof.Rows.F.entry_set_update_loop ?_
    rw [Around.under_plainId PyProof.Rows.F.plain_set_update_loop _]
    show wpAny _ A.in1 (pyNext (.ref I) >>= _) _ _ s
    refine wpAny_bind (W.item i s _ _ lt st fun v s1 pv st1 mv => ?_)
    obtain ⟨y, t, hy, rfl⟩ := hv i v pv
    have x1 : SetS P w s1.heap a l := x.at fun o e => mv.heap a o aw e
    show wpAny _ A.in1 (holding [Value.str y t] (setAdd a (.str y t)) >>= _) _ _ s1
    refine wpAny_bind (wpAny_holding ?_)
    unfold setAdd
    refine wpAny_holding (wpAny_bind ((PySem.strKind P w).pyHash (k := y) (is_str y t) ?_))
    refine put_x (s := { s1 with toks := s1.toks + 1 }) x1 (by have := hf.2; omega) fun b h1 l1 sb x2 hm2 hl2 => ?_
    have hf1 : Firsts xs (i + 1) l1 := ⟨fun z => by
      rw [hm2, hf.1, List.take_add_one, hy, List.mem_append]
      simp, by have := hf.2; omega⟩
    refine wpAny_pure ⟨plainId_quiet PyProof.Rows.F.plain_set_update_loop _, ih (i + 1) _ (by omega) lt (W.frame _ s1 _ _ st1 (Nat.le_succ _) fun b hb o e => ?_) ⟨l1, hf1, x2⟩ fun s2 l2 mv2 hf2 x3 => ?_⟩
    · exact (sb.2 b fun z => ha (z ▸ hb)).trans e
    · refine hR s2 l2 (Moved.trans W.gtrans ((mv.mono more).then_heap (Nat.le_succ _) fun b o hb e => ?_) mv2) hf2 x3
      exact (sb.2 b fun z => hb (z ▸ List.mem_cons_self)).trans e

/-- a set just made -/
abbrev ob0 (w : World) : Obj := { cls := .type "set", dict := none, data := .set #[] 0 (.fresh 0 0 (!w.params.followText "set-order")) }
theorem setS_new {h : Heap} {a : Addr} (e : h.get? a = some (ob0 w)) : SetS P w h a [] :=
  ⟨(#[], 0, .fresh 0 0 (!w.params.followText "set-order")), e, TxOk.nil rfl, ⟨List.Pairwise.nil, by
    show _ ∨ (!w.params.followText "set-order") = true
    cases w.params.followText "set-order"
    · exact .inr rfl
    · exact .inl rfl⟩, List.nodup_nil⟩

set_option maxHeartbeats 3200000 in
end
end Mk

set_option Elab.async false
set_option linter.all false
set_option maxRecDepth 100000
set_option maxHeartbeats 4000000
namespace Mk
open PySem PySem.Spec PyProof.Rows L2 PySem.Froz

theorem perm_sub {α : Type} [BEq α] [LawfulBEq α] : ∀ {l m : List α}, l.Nodup → (∀ x ∈ l, x ∈ m) → m.length = l.length → m.Perm l
  | [], m, _, _, h => by
    have e : m = [] := List.length_eq_zero_iff.mp (by simpa using h)
    rw [e]
  | a :: l, m, nd, h, hl => by
    have ha := h a List.mem_cons_self
    obtain ⟨n1, n2⟩ := List.nodup_cons.mp nd
    have p := List.perm_cons_erase ha
    refine p.trans (List.Perm.cons a (perm_sub n2 (fun x hx => ?_) ?_))
    · have hne : x ≠ a := fun e => n1 (e ▸ hx)
      exact (List.mem_erase_of_ne hne).mpr (h x (List.mem_cons_of_mem _ hx))
    · have := p.length_eq
      rw [List.length_cons] at this hl
      omega
/-- a value that is the text y -/
abbrev IsTx (v : Value) (y : Str) : Prop := ∃ t, v = .str y t
def txOf (v : Value) : Str := match v with
  | .str y _ => y
  | _ => Str.empty
theorem each_tx : ∀ (vs : List Value), (∀ v ∈ vs, ∃ y t, v = .str y t) → PySem.W.EachIs IsTx vs (vs.map txOf)
  | [], _ => .nil
  | v :: vs, h => by
    obtain ⟨y, t, rfl⟩ := h v List.mem_cons_self
    exact .cons ⟨t, rfl⟩ (each_tx vs fun u hu => h u (List.mem_cons_of_mem _ hu))
theorem each_len {α β : Type} {R : α → β → Prop} : ∀ {as : List α} {bs : List β}, PySem.W.EachIs R as bs → as.length = bs.length
  | _, _, .nil => rfl
  | _, _, .cons _ t => by rw [List.length_cons, List.length_cons, each_len t]
theorem each_mono {α β : Type} {R R' : α → β → Prop} (h : ∀ a b, R a b → R' a b) : ∀ {as : List α} {bs : List β}, PySem.W.EachIs R as bs → PySem.W.EachIs R' as bs
  | _, _, .nil => .nil
  | _, _, .cons r t => .cons (h _ _ r) (each_mono h t)
theorem each_vals : ∀ {vs : List Value} {ys : List Str}, PySem.W.EachIs IsTx vs ys → Vals (ys.map V.str) vs
  | _, _, .nil => .nil
  | _, _, .cons r t => .cons r (each_vals t)
section
variable {P : Program} {w : World} {A : Around} {E : Value → Shared → Prop} {s : Shared}
theorem Tx.texts {D : SD} {l : List Str} (x : Tx P w D l) : (∀ v ∈ D.1.toList.map (·.2), ∃ y t, v = .str y t) ∧ ((D.1.toList.map (·.2)).map txOf).Perm l := by
  have h1 : ∀ v ∈ D.1.toList.map (·.2), ∃ y t, v = Value.str y t := fun v hv => by
    obtain ⟨e, he, rfl⟩ := List.mem_map.mp hv
    obtain ⟨⟨k, hk, _⟩, _⟩ := x.ok.el e he
    obtain ⟨t, q⟩ := Value.isStrOf_shape (show Value.isStrOf k e.2 = true from hk)
    exact ⟨k, t, q⟩
  refine ⟨h1, perm_sub x.nd (fun k hk => ?_) (by rw [List.length_map, List.length_map, Array.length_toList]; exact x.ok.sz)⟩
  obtain ⟨e, he, hq⟩ := (x.ok.mem k).mp hk
  obtain ⟨t, q⟩ := Value.isStrOf_shape (show Value.isStrOf k e.2 = true from hq)
  exact List.mem_map.mpr ⟨e.2, List.mem_map.mpr ⟨e, he, rfl⟩, by rw [q]; rfl⟩

/-- texts by their codes -/
abbrev byCs (x y : Str) : Bool := decide (x.cps.toList ≤ y.cps.toList)
theorem enc_le : PySem.W.dataLe false (fun x : Str => PyData.str x) = byCs := PySem.W.dataLe_str (fun x => x)
/-- sorted(set) of texts -/
theorem sorted_setX {a : Addr} {l : List Str} {Q : Value → Shared → Prop} (x : SetS P w s.heap a l) (hh : A.handled = none) (hb : l.length < scanBound) (hu : A.units + 60 < cLine)
    (hQ : ∀ s' p (out : List Value) (c : Nat) (ys : List Str), (∀ b o, s.heap.get? b = some o → s'.heap.get? b = some o) → s'.gens = s.gens → s'.os = s.os → s.heap.objs.size ≤ p →
      s'.heap.get? p = some (seqObj "list" out.toArray c) → PySem.W.EachIs IsTx out (ys.mergeSort byCs) → ys.Perm l → Q (.ref p) s') :
    wpAny (model P w) A (call (.builtin "sorted") [.ref a]) Q E s := by
  obtain ⟨D, e0, t0⟩ := x
  obtain ⟨tx, pm0⟩ := t0.texts
  refine Calls.call_function_entry kind_sorted plain_sorted entry_sorted (args_sorted1 _) ?_
  unfold Builtin.«sorted»
  refine wpAny_bind (m := checkCount "sorted" 1 1 _) (wpAny_pure ?_)
  have z0 : D.1.size < scanBound := by rw [t0.ok.sz]; exact hb
  refine wpAny_bind (collect_set (A := A.in1) (es := D.1) (ep := D.2.1) (t := D.2.2) hh ⟨_, e0, rfl, rfl⟩ t0.ok.fit z0 t0.wk.1 t0.wk.2 fun s1 vs kp hz g1 o1 pm => ?_)
  have lv : vs.length = l.length := by rw [pm.length_eq, List.length_map, Array.length_toList]; exact t0.ok.sz
  have txv : ∀ v ∈ vs, ∃ y t, v = Value.str y t := fun v hv => tx v (pm.mem_iff.mp hv)
  have ev := each_tx vs txv
  have fit : l.length ≤ sizeLine := Nat.le_trans (Nat.le_of_lt hb) (by decide)
  refine wpAny_bind (wpAny_newList ?_ (by rw [lv]; exact fit))
  have at0 : (s1.heap.push (seqObj "list" vs.toArray 0)).get? s1.heap.objs.size = some (seqObj "list" vs.toArray 0) := Heap.get?_push_size _ rfl
  refine wpAny_bind (wpAny_holding (PySem.W.list_sort_data (s := { s1 with heap := s1.heap.push (seqObj "list" vs.toArray 0) }) (enc := fun x : Str => PyData.str x) at0 ev (each_mono (fun v y ⟨t, q⟩ => ⟨[], by rw [q]; exact .str y t, (fun z => nomatch z)⟩) ev)
    (PySem.W.AllAlike.of fun _ _ => rfl) (PySem.W.Sortable.others fun _ => ⟨(fun z => nomatch z), (fun _ z => nomatch z)⟩) (by rw [List.length_map, lv]; exact fit) (fun y _ => ?_) fun out lo eo => ?_))
  · show A.units + 1 + 1 + 0 < cLine
    omega
  obtain ⟨c, hc⟩ := sortedHeap_at (vs := vs) (out := out.toArray) at0
  rw [enc_le] at eo
  refine wpAny_pure ⟨_, rfl, hQ _ s1.heap.objs.size out c _ (fun b u e => ?_) g1 o1 hz hc eo ((pm.map txOf).trans pm0)⟩
  have q := kp b u e
  have lt := Heap.lt_size q
  show (sortedHeap (s1.heap.push (seqObj "list" vs.toArray 0)) s1.heap.objs.size vs out.toArray).get? b = some u
  rw [sortedHeap_old (Nat.ne_of_lt lt) (by rw [size_push']; exact Nat.lt_succ_of_lt lt)]
  exact Heap.get?_push_of_some _ q
end
end Mk

set_option Elab.async false
set_option linter.all false
set_option maxRecDepth 100000
set_option maxHeartbeats 4000000
namespace Mk
open PySem PySem.Spec PyProof.Rows L2 PySem.Froz

/-- the set of the unlike texts l at a -/
def SetSO (P : Program) (w : World) (a : Addr) (l : List Str) : HO := .ext fun h => SetS P w h a l
section
variable {X : Cx}
theorem setSO_new {P : Program} {w : World} {H : Hp} {h : Heap} {a : Addr} {l : List Str} (x : SetS P w h a l) : ObjOk P w H h a (SetSO P w a l) := by
  obtain ⟨D, e, t⟩ := id x
  exact ⟨x, ⟨_, e⟩, fun h1 h2 y k => y.at k⟩
theorem setSO_get {pins : List (Addr × Obj)} {σ : L2.St} {H : Hp} {s : Shared} {a : Addr} {l : List Str} (I : Inv X pins σ H s) (ha : H a = some (SetSO X.prog X.w a l)) : SetS X.prog X.w s.heap a l := (I.hok a _ ha).1
theorem strs_of : ∀ {ys : List Str} {us : List Value}, Vals (ys.map V.str) us → StrsAre us ys
  | [], _, .nil => .nil
  | y :: ys, _, .cons r t => by
    obtain ⟨k, rfl⟩ := r
    exact .cons y k (strs_of t)
/-- sorted(set of texts) -/
def rSortedSX (P : Program) (w : World) : List V → Hp → VK → Prop := fun vs H Q => ∃ (a : Addr) (l : List Str), vs = [.ref a] ∧ H a = some (SetSO P w a l) ∧ l.length < scanBound ∧
  ∀ (ys : List Str) (p : Addr), ys.Perm l → H p = none → Q (.ref p) (upd H p (.lst ((ys.mergeSort byCs).map V.str)))
theorem cr_sortedSX (hc : X.calm = true) (hu : X.A.units + 60 < cLine) : CallR X (.builtin "sorted") (rSortedSX X.prog X.w) := by
  intro pins s σ H vs us Q I r h
  obtain ⟨a, l, rfl, ha, hb, q⟩ := h
  rw [Vals.ref1 r]
  refine sorted_setX (setSO_get I ha) (I.ok.hd hc) hb hu fun s' p out c ys k g o hp hg he hm => ?_
  have lo : ((ys.mergeSort byCs).map V.str).length ≤ sizeLine := by
    rw [List.length_map, (List.mergeSort_perm ys byCs).length_eq, hm.length_eq]
    exact Nat.le_trans (Nat.le_of_lt hb) (by decide)
  have hn : H p = none := I.hok.fresh hp
  have J : Inv X pins σ (upd H p (.lst ((ys.mergeSort byCs).map V.str))) { s with heap := s'.heap, gens := s'.gens, drawn := s'.drawn, toks := s'.toks } :=
    I.call (ch := []) (Un.laid k hp hn) (I.hok.laid k hp ⟨lo, out, c, each_vals he, hg⟩) (by rw [g]; exact I.bare) (fun _ z => nomatch z)
  have e : s' = { s with heap := s'.heap, gens := s'.gens, drawn := s'.drawn, toks := s'.toks } := by
    obtain ⟨s1, s2, s3, s4, s5⟩ := s'
    obtain ⟨t1, t2, t3, t4, t5⟩ := s
    obtain rfl : s5 = t5 := o
    rfl
  rw [e]
  exact ⟨.ref p, _, J, rfl, q ys p hm hn⟩
end
end Mk

set_option Elab.async false
set_option maxRecDepth 100000
set_option maxHeartbeats 4000000
namespace Mk
open PySem L2

/-! ### rules of our own -/
section
variable {X : Cx}
def CPowW (i j : Int) : Prop := 0 ≤ j ∧ (Builtin.Int.intBits i : Int) * j ≤ 2 ^ 27
theorem op_powW : OpR X (binaryOp .Pow) (rI CPowW fun i j => .int (i ^ j.toNat)) := opI fun _ _ _ _ _ _ _ hc q => PyProof.Rows.pow_int hc.1 hc.2 q
end

/-! ### the pot -/
abbrev PB : Nat := 4294967296
/-- the pot at p: its count is at most n -/
def Pot (H : Hp) (p : Addr) (n : Nat) : Prop := ∃ u m c : Int, H p = some (.lst [.int u, .int m, .int c]) ∧ 0 ≤ u ∧ u < 2 ^ 2000 ∧ 0 ≤ m ∧ m < 2 ^ 62 ∧ 0 ≤ c ∧ c ≤ (n : Int)
theorem Pot.mono {H : Hp} {p : Addr} {n k : Nat} (h : Pot H p n) (hk : n ≤ k) : Pot H p k := by
  obtain ⟨u, m, c, e, h1, h2, h3, h4, h5, h6⟩ := h
  exact ⟨u, m, c, e, h1, h2, h3, h4, h5, by omega⟩
/-- all but p is as it was -/
def But (p : Addr) (H H' : Hp) : Prop := ∀ b o, b ≠ p → H b = some o → H' b = some o

/-! rules for a comprehension's block, the written part told -/
section
variable {X : Cx} {K : PySem.W.Frag}
theorem ix_listK (K : PySem.W.Frag) (hK : X.K = K := by rfl) : IxR X (rIxL K) := by
  subst hK
  exact ix_list
theorem call_lenK (K : PySem.W.Frag) (hK : X.K = K := by rfl) : CallR X (.builtin "len") (fun xs H Q => ∃ p ys, xs = [.ref p] ∧ (SqL K H p ys ∨ SqT K H p ys) ∧ Q (.int ys.length) H) := by
  subst hK
  exact call_len_seq
end
/-! ### words -/
/-- the codes of a text -/
abbrev cs (z : Str) : List Nat := z.cps.toList
/-- a text of signs a .. e -/
def IsW (z : Str) : Prop := ∀ c ∈ cs z, 97 ≤ c ∧ c ≤ 101
theorem cs_append (x y : Str) : cs (x ++ y) = cs x ++ cs y := by
  show (x.cps ++ y.cps).toList = _
  rw [Array.toList_append]
theorem len_cs (z : Str) : z.length = (cs z).length := rfl
theorem cs_join : ∀ ys : List Str, cs (Txt.join "" ys) = (ys.map cs).flatten := by
  intro ys
  show cs (Builtin.Str.glued "" ys) = _
  rw [StrLaws.glued_eq_join]
  induction ys with
  | nil => rfl
  | cons x r ih =>
    cases r with
    | nil => simp [Str.join]
    | cons y t =>
      show cs (x ++ "" ++ Str.join "" (y :: t)) = _
      rw [cs_append, cs_append, ih]
      simp
      rfl
theorem at_ofA {α : Type} {xs : List α} {z : Int} {j : Nat} {v : α} (e : z = (j : Int)) (h : xs[j]? = some v) : atI xs z = some v := by
  rw [e]
  exact atI_nat h
theorem But.refl {p : Addr} {H : Hp} : But p H H := fun _ _ _ e => e
theorem But.trans {p : Addr} {H H1 H2 : Hp} (a : But p H H1) (b : But p H1 H2) : But p H H2 := fun c o h e => b c o h (a c o h e)
theorem But.of_same {p : Addr} {H H' : Hp} (h : Same H H') : But p H H' := fun b o _ e => h b o e
theorem Same.new {H : Hp} {l : Addr} {o : HO} (hl : H l = none) : Same H (upd H l o) := fun b u e => by
  rw [upd_ne (ne_of_none e hl)]
  exact e
/-- a store at an address that was new -/
theorem But.up {p l : Addr} {o : HO} {H H1 : Hp} (a : But p H H1) (hl : H l = none) : But p H (upd H1 l o) := fun b u h e => by
  rw [upd_ne (ne_of_none e hl)]
  exact a b u h e
theorem Pot.up {H : Hp} {p l : Addr} {n : Nat} {o : HO} (h : Pot H p n) (hn : p ≠ l) : Pot (upd H l o) p n := by
  obtain ⟨u, m, c, e, r⟩ := h
  exact ⟨u, m, c, by rw [upd_ne hn]; exact e, r⟩
theorem Pot.ne {H : Hp} {p l : Addr} {n : Nat} (h : Pot H p n) (hn : H l = none) : p ≠ l := by
  obtain ⟨u, m, c, e, r⟩ := h
  exact ne_of_none e hn
theorem join_e {b : Bool} {te1 te2 : TE} {σ : L2.St} {H : Hp} {C : VK} (R : V → Prop) (hC : ∀ z, R z → C z H) (h1 : b = true → (∀ z, R z → C z H) → te1 σ H C) (h2 : b = false → (∀ z, R z → C z H) → te2 σ H C) :
    (fun (c : Bool) (H1 : Hp) => if c = true then te1 σ H1 C else te2 σ H1 C) b H := by
  cases b with
  | true => exact iteT (h1 rfl hC)
  | false => exact iteF (h2 rfl hC)
def wide_nz (j : Int) : Prop := j ≠ 0
theorem nz600 : (fun (_ j : Int) => j ≠ 0) 0 ((10 ^ Int.toNat 60) ^ Int.toNat 8) := by decide +kernel
/-! ### the text by places -/
def top (i : Nat) : Stmt := PySem.Challenge.pw_mendnumber_k26_whole_rows_by_all_words.main.body.getD i (.Pass ⟨0, 0, 0, 0⟩)
/-- the names of the builtins that the text leaves alone -/
structure Bn (mg : Str → Option Value) : Prop where
  len : mg "len" = none
  int : mg "int" = none
  abs : mg "abs" = none
  max : mg "max" = none
  min : mg "min" = none
  range : mg "range" = none
  list : mg "list" = none

def spFilled (K : PySem.W.Frag) : Sp := fun vs H Q _ => ∃ (a : Addr) (ns : List Int) (k : Nat), vs = [.ref a, .int k] ∧ SqL K H a (ns.map V.int) ∧ ns.length ≤ 63 ∧ k ≤ 63 ∧
  ∀ H' p, Same H H' → H p = none → Pot H' p 0 → Q (.ref p) H'
def spDip : Sp := fun vs H Q _ => ∃ (p : Addr) (n : Nat) (t : Int), vs = [.ref p, .int t] ∧ Pot H p n ∧ n < PB ∧ 0 < t ∧ t < 1073741824 ∧
  ∀ H' (k : Int), But p H H' → (∀ b, H b = none → H' b = none) → Pot H' p (n + 1) → 0 ≤ k → k < t → Q (.int k) H'

section
variable {P : Program} {w : World} {K : PySem.W.Frag} {mg : Str → Option Value} {base : Heap}
end
end Mk

set_option Elab.async false
set_option maxRecDepth 100000
set_option maxHeartbeats 4000000
namespace Mk
open PySem L2

/-- the pot at p has been drawn from -/
structure Nx (p : Addr) (n : Nat) (H H' : Hp) : Prop where
  but : But p H H'
  fresh : ∀ b, H b = none → H' b = none
  pot : Pot H' p n

section
variable {P : Program} {w : World} {K : PySem.W.Frag} {mg : Str → Option Value} {base : Heap}
/-- a def of the text that is called by its name -/
structure Cd (P : Program) (w : World) (K : PySem.W.Frag) (mg : Str → Option Value) (base : Heap) (k : Nat) (x : Str) (ps : List Str) (sp : Sp) : Prop where
  ex : ∃ (f : Addr) (fd : FuncData), FnOk P w K mg base CX0 k f fd ps sp ∧ mg x = some (.ref f) ∧ PySem.W.keepIn K (.ref f) = true ∧ Binds K fd ps []
end
end Mk

set_option Elab.async false
set_option maxRecDepth 100000
set_option maxHeartbeats 4000000
namespace Mk
open PySem L2

/-! ### strip -/
def gB (c : Nat) : Bool := decide (97 ≤ c) && decide (c ≤ 101)
def wB (z : Str) : Bool := (cs z).all gB
theorem isW_of {z : Str} (h : wB z = true) : IsW z := fun c hc => by
  have := List.all_eq_true.mp h c hc
  simpa [gB] using this
theorem tw_full {p : Nat → Bool} : ∀ {l : List Nat}, (l.takeWhile p).length = l.length → l.all p = true
  | [], _ => rfl
  | a :: l, h => by
    rw [List.takeWhile_cons] at h
    cases e : p a with
    | false => rw [e] at h; simp at h
    | true =>
      rw [e] at h
      rw [List.all_cons, e, tw_full (l := l) (by simpa using h)]
      rfl
theorem tw_drop {p : Nat → Bool} : ∀ {l : List Nat}, (l.drop (l.takeWhile p).length).all p = true → l.all p = true
  | [], _ => rfl
  | a :: l, h => by
    rw [List.takeWhile_cons] at h
    cases e : p a with
    | false =>
      rw [e] at h
      simp [e] at h
    | true =>
      rw [e] at h
      rw [List.all_cons, e, tw_drop (l := l) (by simpa using h)]
      rfl
theorem tw_all {p : Nat → Bool} : ∀ {l : List Nat}, l.all p = true → l.takeWhile p = l
  | [], _ => rfl
  | a :: l, h => by
    rw [List.all_cons, Bool.and_eq_true] at h
    rw [List.takeWhile_cons, h.1, if_pos rfl, tw_all h.2]
theorem goes_eq (c : Nat) : ("abcde" : Str).cps.contains c = gB c := by
  have e : ("abcde" : Str).cps = #[97, 98, 99, 100, 101] := by decide +kernel
  rw [e, Bool.eq_iff_iff]
  simp [gB]
  omega
theorem strip_len (z : Str) : (Txt.stripChars z "abcde").length = 0 ↔ wB z = true := by
  have hg : ("abcde" : Str).cps.contains = gB := funext goes_eq
  unfold Txt.stripChars
  rw [hg]
  unfold Txt.stripBy
  have hlo : stripLo gB true z = ((cs z).takeWhile gB).length := rfl
  have hhi : stripHi gB true z (stripLo gB true z) = (cs z).length - (((cs z).drop (stripLo gB true z)).reverse.takeWhile gB).length := rfl
  have hle : ((cs z).takeWhile gB).length ≤ (cs z).length := (List.takeWhile_sublist _).length_le
  have key : wB z = true ∨ stripLo gB true z < stripHi gB true z (stripLo gB true z) := by
    cases e : wB z with
    | true => exact .inl rfl
    | false =>
      refine .inr ?_
      rw [hhi, hlo]
      have h1 : (((cs z).drop ((cs z).takeWhile gB).length).reverse.takeWhile gB).length ≠ (((cs z).drop ((cs z).takeWhile gB).length).reverse).length := fun h => by
        have := tw_full h
        rw [List.all_reverse] at this
        have q : wB z = true := tw_drop this
        rw [e] at q
        cases q
      have h2 : (((cs z).drop ((cs z).takeWhile gB).length).reverse.takeWhile gB).length ≤ (((cs z).drop ((cs z).takeWhile gB).length).reverse).length := (List.takeWhile_sublist _).length_le
      rw [List.length_reverse, List.length_drop] at h1 h2
      omega
  by_cases hs : stripSame gB true true z = true
  · rw [if_pos hs]
    constructor
    · intro h
      show (cs z).all gB = true
      rw [List.length_eq_zero_iff.mp (show (cs z).length = 0 from h)]
      rfl
    · intro h
      have e1 : stripLo gB true z = z.length := by
        rw [hlo, tw_all h]
        rfl
      unfold stripSame at hs
      rw [Bool.and_eq_true, beq_iff_eq] at hs
      omega
  · rw [if_neg hs]
    have hl : (stripped gB true true z).length = stripHi gB true z (stripLo gB true z) - stripLo gB true z := by
      show ((z.cps.extract (stripLo gB true z) (stripHi gB true z (stripLo gB true z)))).size = _
      rw [Array.size_extract]
      have : stripHi gB true z (stripLo gB true z) ≤ z.cps.size := by
        rw [hhi]
        exact Nat.sub_le _ _
      omega
    rw [hl]
    constructor
    · intro h
      rcases key with k | k
      · exact k
      · omega
    · intro h
      have e1 : stripLo gB true z = (cs z).length := by rw [hlo, tw_all h]
      have e2 : stripHi gB true z (stripLo gB true z) ≤ (cs z).length := by
        rw [hhi]
        exact Nat.sub_le _ _
      omega
theorem strip_dec (z : Str) : decide (V.str (Txt.stripChars z "abcde") = V.str "") = wB z := by
  rw [Bool.eq_iff_iff, decide_eq_true_iff, ← strip_len z]
  constructor
  · intro h
    injection h with h
    rw [h]
    decide +kernel
  · intro h
    have : Txt.stripChars z "abcde" = "" := by
      generalize Txt.stripChars z "abcde" = y at h
      obtain ⟨a⟩ := y
      have : a = #[] := Array.eq_empty_of_size_eq_zero h
      subst this
      decide +kernel
    rw [this]
end Mk

set_option Elab.async false
set_option maxRecDepth 100000
set_option maxHeartbeats 4000000
namespace Mk
open PySem L2

abbrev sIsSign : Stmt := top 20
abbrev sIsWord : Stmt := top 21
/-- a value that is no text, of a kind that isinstance tells -/
def NoStr (K : PySem.W.Frag) (H : Hp) (v : V) : Prop := ∃ t : Value, TyX K H v t ∧ PySem.W.kitOne K t (.type "str") = some false
def sgB (z : Str) : Bool := decide (z.length = 1) && wB z
/-- a def that judges a value, reading alone -/
def spJudge (g : Str → Bool) (K : PySem.W.Frag) : Sp := fun vs H Q _ => ∃ v : V, vs = [v] ∧ ((∃ z : Str, v = .str z ∧ z.length ≤ 100000 ∧ Q (.bl (g z)) H) ∨ (NoStr K H v ∧ Q (.bl false) H))
structure Wn (mg : Str → Option Value) : Prop where
  isi : mg "isinstance" = none
  str : mg "str" = none
  sg : ∃ t, mg "SIGNS" = some (.str "abcde" t)
section
variable {P : Program} {w : World} {K : PySem.W.Frag} {mg : Str → Option Value} {base : Heap}
theorem scIsSign : FnScope ["value"] ["value"] (defScope sIsSign) := ⟨rfl, rfl, rfl, by decide +kernel, rfl, by decide +kernel, by decide +kernel⟩
theorem len_one {z : Str} (h : z.length = 1) : ∃ c, z = ⟨#[c]⟩ := by
  obtain ⟨a⟩ := z
  obtain ⟨l⟩ := a
  match l, h with
  | [c], _ => exact ⟨c, rfl⟩
theorem ok_isSign {f : Addr} {fd : FuncData} (F : Fun K "is_sign" "is_sign" sIsSign f fd) (B : Bn mg) (W : Wn mg) : FnOk P w K mg base CX0 1 f fd ["value"] (spJudge sgB K) := by
  obtain ⟨t, hsg⟩ := W.sg
  refine F.ok scIsSign (fun vs H Q E h => ?_) (fun cdv A outer s H vs Q E hr h => ?_)
  · obtain ⟨v, rfl, _⟩ := h
    rfl
  · obtain ⟨v, rfl, h⟩ := h
    refine ⟨_, pss_one (ps_ret (pe_and (pe_callB call_isi (by rfl) W.isi (by decide +kernel) (pa_cons (pv 0) (pa_cons (pe_bltn (v := .ty "str") (u := .type "str") (by rfl) W.str (by decide +kernel) rfl) pa_nil)))
      (pe_and (pe_cmpR op_eq (pe_callB call_len (by rfl) B.len PySem.boot_len (pa_cons (pv 0) pa_nil)) pe_int (nomark _)) (pe_one (pe_cmpR op_in_sign (pv 0) (pe_glob (v := .str "abcde") (by rfl) hsg ⟨_, rfl⟩) (by rfl)))))), ?_⟩
    rcases h with ⟨z, rfl, hz, q⟩ | ⟨⟨tv, hty, hk⟩, q⟩
    · have hz2 : z.length ≤ sizeLine := Nat.le_trans hz (by decide)
      refine ⟨_, rfl, _, _, _, _, true, rfl, .ty "str", .base (.str z), kit_ty (by decide +kernel), _, rfl, iteT ?_⟩
      refine ⟨_, rfl, _, z.length, rfl, ⟨hz2, rfl⟩, rfl, _, rfl, ?_⟩
      have e1 : decide (V.int (z.length : Nat) = V.int 1) = decide (z.length = 1) := by
        rw [dec_int, Bool.eq_iff_iff]
        simp
        omega
      rw [e1]
      by_cases h1 : z.length = 1
      · rw [decide_eq_true h1]
        refine iteT ?_
        obtain ⟨c, rfl⟩ := len_one h1
        refine ⟨_, rfl, c, "abcde", rfl, rfl, ?_⟩
        have e2 : decide (c ∈ ("abcde" : Str).cps.toList) = sgB ⟨#[c]⟩ := by
          have e3 : ("abcde" : Str).cps.toList = [97, 98, 99, 100, 101] := by decide +kernel
          rw [e3, Bool.eq_iff_iff]
          simp [sgB, wB, gB, cs, Str.length]
          omega
        rw [e2]
        exact q
      · rw [decide_eq_false h1]
        refine iteF ?_
        have e2 : sgB z = false := by simp [sgB, h1]
        rw [e2] at q
        exact q
    · refine ⟨_, rfl, _, _, _, _, false, rfl, .ty "str", hty, hk, _, rfl, iteF q⟩
theorem scIsWord : FnScope ["value"] ["value"] (defScope sIsWord) := ⟨rfl, rfl, rfl, by decide +kernel, rfl, by decide +kernel, by decide +kernel⟩
theorem ok_isWord {f : Addr} {fd : FuncData} (F : Fun K "is_word" "is_word" sIsWord f fd) (W : Wn mg) : FnOk P w K mg base CX0 1 f fd ["value"] (spJudge wB K) := by
  obtain ⟨t, hsg⟩ := W.sg
  refine F.ok scIsWord (fun vs H Q E h => ?_) (fun cdv A outer s H vs Q E hr h => ?_)
  · obtain ⟨v, rfl, _⟩ := h
    rfl
  · obtain ⟨v, rfl, h⟩ := h
    refine ⟨_, pss_one (ps_ret (pe_and (pe_callB call_isi (by rfl) W.isi (by decide +kernel) (pa_cons (pv 0) (pa_cons (pe_bltn (v := .ty "str") (u := .type "str") (by rfl) W.str (by decide +kernel) rfl) pa_nil)))
      (pe_one (pe_cmpR op_eq (pe_bm PySem.F.plainAttrs_str PySem.F.slot_str_strip PySem.F.type_str_strip mt_stripChars (pv 0) (pa_cons (pe_glob (v := .str "abcde") (by rfl) hsg ⟨_, rfl⟩) pa_nil)) pe_str (nomark _))))), ?_⟩
    rcases h with ⟨z, rfl, hz, q⟩ | ⟨⟨tv, hty, hk⟩, q⟩
    · have hz2 : z.length ≤ sizeLine := Nat.le_trans hz (by decide)
      refine ⟨_, rfl, _, _, _, _, true, rfl, .ty "str", .base (.str z), kit_ty (by decide +kernel), _, rfl, iteT ?_⟩
      refine ⟨_, rfl, rfl, _, _, rfl, rfl, hz2, rfl, ?_⟩
      rw [strip_dec]
      exact q
    · refine ⟨_, rfl, _, _, _, _, false, rfl, .ty "str", hty, hk, _, rfl, iteF q⟩
end
end Mk

set_option Elab.async false
set_option linter.all false
set_option maxRecDepth 100000
set_option maxHeartbeats 4000000
namespace Mk
open PySem L2

theorem cs_inj {x y : Str} (h : cs x = cs y) : x = y := by
  obtain ⟨⟨a⟩⟩ := x
  obtain ⟨⟨b⟩⟩ := y
  have : a = b := h
  rw [this]
theorem byCs_trans (a b c : Str) (h1 : byCs a b = true) (h2 : byCs b c = true) : byCs a c = true := by
  simp only [byCs, decide_eq_true_eq] at *
  exact List.le_trans h1 h2
theorem byCs_total (a b : Str) : (byCs a b || byCs b a) = true := by
  simp only [byCs, Bool.or_eq_true, decide_eq_true_eq]
  exact List.le_total _ _
structure On (mg : Str → Option Value) : Prop where
  tuple : mg "tuple" = none
  all : mg "all" = none
  sorted : mg "sorted" = none
  set : mg "set" = none
end Mk

set_option Elab.async false
set_option linter.all false
set_option maxRecDepth 100000
set_option maxHeartbeats 4000000
namespace Mk
open PySem PySem.Spec PyProof.Rows L2

/-- a def's promise where nothing is being printed -/
structure FnG (P : Program) (w : World) (K : PySem.W.Frag) (mg : Str → Option Value) (base : Heap) (CX : CXT) (k : Nat) (f : Addr) (fd : FuncData) (ps : List Str) (sp : Sp) : Prop where
  len : ∀ vs H Q E, sp vs H Q E → vs.length = ps.length
  go : ∀ (A : Around) (outer : List Env) (s : Shared) (H : Hp) (args : Args) (us : List Value) (vs : List V) (Q : VK) (E : XK), Room k A → A.guards = some [] → Env0 P w K mg base A outer s H → BindsTo s fd args (ps.zip us) → Vals vs us → sp vs H Q E →
    codeAny (model P w) A (.call (.ref f) args) (CR CX outer P w H s Q E) s

section
variable {P : Program} {w : World} {K : PySem.W.Frag} {mg : Str → Option Value} {base : Heap} {CX : CXT} {k : Nat} {f : Addr} {sp : Sp} {N ps : List Str}
theorem fn_ofG {name qual : Str} {params : Arguments} {body : List Stmt} {scope : Scope} {dV kV doc pm cdv ct oc : Value} {an od : Option Addr} {osl : Array (Option Value)}
    (at0 : K.lookup f = some ⟨oc, od, .func (PySem.W.fnOf name qual params body scope dV kV doc pm an cdv ct), osl⟩) (cd0 : PySem.W.codeIn K cdv qual = true) (S : FnScope N ps scope)
    (len : ∀ vs H Q E, sp vs H Q E → vs.length = ps.length)
    (hb : ∀ (A : Around) (outer : List Env) (s : Shared) (H : Hp) (vs : List V) (Q : VK) (E : XK), Room k (A.deeper (envOfC qual scope s.heap.objs.size f cdv)) → A.guards = some [] → sp vs H Q E →
      ∃ t, PSs (cxOf CX P w K mg base N qual scope f cdv A outer s H E) body t ∧ t { nx := fun _ H' => Q .non H', rt := Q } (start N vs) H) :
    FnG P w K mg base CX (k + 1) f (PySem.W.fnOf name qual params body scope dV kV doc pm an cdv ct) ps sp := by
  refine ⟨len, fun A outer s H args us vs Q E hr gd e0 bd rel hsp => ?_⟩
  have lv := len _ _ _ _ hsp
  have kin : K.In s.heap := e0.mod.kin.keeps fun b o e => (e0.bs b o e).1
  have nol : s.heap.NoLimit := e0.mod.nolimit.keeps fun b o e => (e0.bs b o e).1
  have kinds : ∀ y ∈ ps.zip us, scope.names.lookup y.1 = some .local ∨ (scope.names.lookup y.1 = some .cell ∧ ((cellsFrom (s.heap.objs.size + 1) scope.names []).lookup y.1).isSome = true) := by
    rintro ⟨n, v⟩ hy
    exact (S.par n (List.of_mem_zip hy).1).imp id fun q => ⟨q, PySem.W.cellsFrom_some _ _ _ (.inl q)⟩
  refine codeAny_call_function hr.depth (kin _ _ at0) rfl S.co S.gen rfl (PySem.W.codeRec_of kin cd0) (bd _ _ _ _ ?_)
  refine wpAny_newFunctionEnv_cells S.kind kinds fun env he s1 x => ?_
  subst he
  obtain ⟨t, ht, hq⟩ := hb A outer s H vs Q E (hr.deeper _) gd hsp
  have I : Inv (cxOf CX P w K mg base N qual scope f cdv A outer s H E) [] (start N vs) H s1 := inv_start S hr.hd e0 lv rel x
  refine ⟨nol.keeps x.toInCall.keep, codeAny_func (wpAny_mono (ht.run [] s1 (start N vs) H _ I hq) (fun fl s' z => ?_) fun e s' z => z)⟩
  match fl, z with
  | .ret u, ⟨v, σ', H', J, rv, q⟩ => exact ⟨v, H', J.os, J.bare, J.base, J.hok, rv, q⟩
  | .next, ⟨σ', H', J, q⟩ => exact ⟨V.non, H', J.os, J.bare, J.base, J.hok, rfl, q⟩
  | .brk, ⟨_, _, _, q⟩ => exact q.elim
  | .cont, ⟨_, _, _, q⟩ => exact q.elim
/-- the rule for a def, where nothing is being printed -/
theorem Fun_okG {x qual : Str} {st : Stmt} {fd : FuncData} (F : Fun K x qual st f fd) (S : FnScope N ps (defScope st)) (len : ∀ vs H Q E, sp vs H Q E → vs.length = ps.length)
    (hb : ∀ (cdv : Value) (A : Around) (outer : List Env) (s : Shared) (H : Hp) (vs : List V) (Q : VK) (E : XK), Room k (A.deeper (envOfC qual (defScope st) s.heap.objs.size f cdv)) → A.guards = some [] → sp vs H Q E →
      ∃ t, PSs (cxOf CX0 P w K mg base N qual (defScope st) f cdv A outer s H E).nox (defBody st) t ∧ t { nx := fun _ H' => Q .non H', rt := Q } (start N vs) H) : FnG P w K mg base CX0 (k + 1) f fd ps sp := by
  obtain ⟨oc, od, kV, doc, pm, an, cdv, ct, osl, rfl, at0, cd0⟩ := F.ex
  refine fn_ofG at0 cd0 S len fun A outer s H vs Q E hr gd hsp => ?_
  obtain ⟨t, h, q⟩ := hb cdv A outer s H vs Q E hr gd hsp
  exact ⟨t, h.nox, q⟩
end
section
variable {X : Cx} {CX : CXT} {k : Nat} {f : Addr} {fd : FuncData} {ps : List Str} {sp : Sp} {E : XK} {x : Str} {p pos : Pos} {e : Expr} {es : List Expr} {t : TA}
end

section
variable {P : Program} {w : World} {K : PySem.W.Frag} {mg mb : Str → Option Value} {CX : CXT} {k : Nat} {fa a : Addr} {fd : FuncData} {x : Str} {sp : Sp} {s1 : Shared} {vs : List Value} {ns : List Int}
theorem law_callG (kin : K.In s1.heap) (hns : s1.heap.Ns mainGlobals mg) (hb : s1.heap.Ns builtinsNs mb) (hbb : ∀ x : Str, x ≠ "__name__" → mb x = bootBuiltins x) (nol : s1.heap.NoLimit) (hg : s1.gens = #[])
    (at0 : s1.heap.get? a = some { cls := .type "list", data := .seq vs.toArray }) (hi : IntsAre vs ns) (hl : ns.length ≤ sizeLine) (hr : Room k callerA)
    (F : ∀ base : Heap, K.In base → base.Ns mainGlobals mg → FnG P w K mg base CX k fa fd [x] sp) (bd : ∀ (s : Shared) (u : Value), BindsTo s fd ⟨[u], []⟩ [(x, u)])
    (hsp : ∀ H : Hp, Only H → SqL K H a (ns.map V.int) → sp [.ref a] H (fun v _ => v = .bl true) fun _ _ _ => False)
    (hCX : ∀ H e s', CX [] H s1 (fun _ _ _ => False) e s' → False) :
    codeAny (model P w) callerA (.call (.ref fa) ⟨[.ref a], []⟩) (fun r s' => r = .ok (.ret (.bool true)) ∧ OldK s1.heap s'.heap ∧ s'.os = s1.os ∧ AllBare s'.gens) s1 := by
  have rv := vals_ints hi
  have core : ∀ H : Hp, Only H → SqL K H a (ns.map V.int) → HOk P w H s1.heap → (∀ b, H b ≠ none → b = a) → (H a ≠ none → K.lookup a = none) →
      codeAny (model P w) callerA (.call (.ref fa) ⟨[.ref a], []⟩) (fun r s' => r = .ok (.ret (.bool true)) ∧ OldK s1.heap s'.heap ∧ s'.os = s1.os ∧ AllBare s'.gens) s1 := by
    intro H hO hS ok only noK
    have free : ∀ {b : Addr} {o : Obj}, s1.heap.get? b = some o → b ≠ a → H b = none := fun {b o} _ ne => by
      cases q : H b with
      | none => rfl
      | some u => exact absurd (only b (by rw [q]; exact fun z => nomatch z)) ne
    have nsH : ∀ {b : Addr} {m : Str → Option Value}, s1.heap.Ns b m → (hidT s1.heap H).Ns b m := fun {b m} ⟨o, es, ep, e, d, r⟩ => by
      refine ⟨o, es, ep, hidT_get e (free e fun z => ?_), d, r⟩
      rw [z, at0] at e
      cases e
      cases d
    have kinH : K.In (hidT s1.heap H) := fun b o e => by
      have e1 := kin b o e
      cases q : H b with
      | none => exact hidT_get e1 q
      | some u =>
        have z := only b (by rw [q]; exact fun z => nomatch z)
        subst z
        rw [noK (by rw [q]; exact fun z => nomatch z)] at e
        cases e
    have M0 : Mod K mg (hidT s1.heap H) := ⟨kinH, nsH hns, ⟨mb, nsH hb, hbb⟩, let ⟨mc, h1, h2⟩ := nol; ⟨mc, nsH h1, h2⟩⟩
    have e0 : Env0 P w K mg (hidT s1.heap H) callerA [] s1 H := ⟨rfl, M0, fun b o e => of_hidT e, Nat.le_of_eq (hidT_size _ _), trivial, fun b z => absurd (show b ∈ ([] : List Addr) from z) (by simp), ok, .of_eq hg⟩
    refine codeAny_mono ((F _ kinH (nsH hns)).go callerA [] s1 H ⟨[.ref a], []⟩ [.ref a] [.ref a] _ _ hr rfl e0 (bd s1 (.ref a)) (.cons rfl .nil) (hsp H hO hS)) fun r s' z => ?_
    match r, z with
    | .error e, z => exact (hCX H e s' z).elim
    | .ok .next, z => exact False.elim z
    | .ok .brk, z => exact False.elim z
    | .ok .cont, z => exact False.elim z
    | .ok (.ret u), ⟨v, H', os, bare, un, ok', rel, q⟩ =>
      obtain rfl : v = V.bl true := q
      obtain rfl : u = Value.bool true := rel
      refine ⟨rfl, OldK.of_keep fun b o e => ?_, os, bare⟩
      rcases hO b with z | ⟨ob, xs, z⟩
      · exact un.keep b o e z (fun q => absurd (show b ∈ ([] : List Addr) from q) (by simp)) (by simp)
      · have e1 := (ok b _ z).1
        have e2 := (ok' b _ (un.frzs b ob _ z)).1
        rw [e] at e1
        cases e1
        exact e2
  cases q : K.lookup a with
  | some o =>
    have e := kin a o q
    rw [at0] at e
    cases e
    refine core (fun _ => none) (fun _ => .inl rfl) (.inr ⟨_, vs.toArray, _, q, rfl, rfl, rfl, by rw [List.size_toArray, hi.length]; exact hl, by simpa using rv⟩) (fun b u z => nomatch z) (fun b z => absurd rfl z) fun z => absurd rfl z
  | none =>
    have self : ∀ {b : Addr} {u : HO}, (if b = a then some (HO.frz { cls := .type "list", data := .seq vs.toArray } (.lst (ns.map V.int))) else none) = some u → b = a ∧ u = .frz { cls := .type "list", data := .seq vs.toArray } (.lst (ns.map V.int)) := fun {b u} z => by
      by_cases c : b = a
      · rw [if_pos c] at z
        exact ⟨c, (Option.some.inj z).symm⟩
      · rw [if_neg c] at z
        cases z
    refine core (fun b => if b = a then some (.frz { cls := .type "list", data := .seq vs.toArray } (.lst (ns.map V.int))) else none) (fun b => ?_) (.inl (.inr ⟨_, if_pos rfl⟩)) (fun b u z => ?_) (fun b z => ?_) fun _ => q
    · by_cases c : b = a
      · exact .inr ⟨_, _, if_pos c⟩
      · exact .inl (if_neg c)
    · obtain ⟨rfl, rfl⟩ := self z
      exact ⟨at0, by rw [List.length_map]; exact hl, vs, _, rv, at0⟩
    · by_cases c : b = a
      · exact c
      · exact absurd (if_neg c) z
end
/-- the goal that k_head leaves, from the law's promise -/
theorem walk_ofG {l : PySem.W.OpenLaw} {n k : Nat} {q : Program} {loose : List Str} {XP : (Str → Option Value) → Heap → Prop} {YP : World → Heap → Prop} {d : DefRec} {K : Params → PySem.W.Frag} {sp : World → Sp} {x : Str}
    (hn : l.most = some n) (hn2 : n ≤ sizeLine) (hdf : d.params.defaults = []) (hr : Room k callerA) (hY : ∀ (w : World) (h : Heap), YP w h → (K w.params).In h)
    (F : ∀ (w : World) (mg : Str → Option Value) (fa : Addr) (h : Heap), (K w.params).In h → h.Ns mainGlobals mg → XP mg h → mg d.name = some (.ref fa) →
      ∃ fd : FuncData, (∀ (s : Shared) (u : Value), BindsTo s fd ⟨[u], []⟩ [(x, u)]) ∧ ∀ base : Heap, (K w.params).In base → base.Ns mainGlobals mg → FnG l.prog w (K w.params) mg base CX0 k fa fd [x] (sp w))
    (hsp : ∀ (w : World) (H : Hp) (a : Addr) (ns : List Int), ns.length ≤ n → Only H → SqL (K w.params) H a (ns.map V.int) → sp w [.ref a] H (fun v _ => v = .bl true) fun _ _ _ => False) :
    PySem.W.WalkO q loose XP YP l.row.toRowW d [] (fun f vs => PySem.call f vs) := by
  refine Att.attach_call hn hdf fun w s0 s1 mg mb fa o pm cd doc a vs ns G Y ho hd hcd hmg hobj hints hlen hg => ?_
  have kin := hY w _ Y
  obtain ⟨fd, bd, hF⟩ := F w mg fa _ kin G.T.g G.X hmg
  exact law_callG kin G.T.g G.T.b G.T.builtins G.T.nolimit hg hobj hints (Nat.le_trans hlen hn2) hr hF bd (fun H hO hS => hsp w H a ns hlen hO hS) fun _ _ _ z => z
end Mk

set_option Elab.async false
set_option linter.all false
set_option maxRecDepth 100000
set_option maxHeartbeats 4000000
namespace Mk
open PySem L2

abbrev sIsNum : Stmt := top 12
abbrev sIsNumW : Stmt := top 13
abbrev LG : Int := 999999999999999999999999999999999999999999999999999999999999
def nuB (i : Int) : Bool := decide (-LG ≤ i) && decide (i ≤ LG)
def nwB (i a b : Int) : Bool := nuB i && (decide (a ≤ i) && decide (i ≤ b))
def spIsNum : Sp := fun vs H Q _ => ∃ i : Int, vs = [.int i] ∧ Q (.bl (nuB i)) H
def spIsNumW : Sp := fun vs H Q _ => ∃ i a b : Int, vs = [.int i, .int a, .int b] ∧ Q (.bl (nwB i a b)) H
structure Nn (mg : Str → Option Value) : Prop where
  bool : mg "bool" = none
  lg : ∃ t, mg "LARGEST" = some (.int LG t)
section
variable {P : Program} {w : World} {K : PySem.W.Frag} {mg : Str → Option Value} {base : Heap}
theorem scIsNum : FnScope ["value"] ["value"] (defScope sIsNum) := ⟨rfl, rfl, rfl, by decide +kernel, rfl, by decide +kernel, by decide +kernel⟩
theorem ok_isNum {f : Addr} {fd : FuncData} (F : Fun K "is_number" "is_number" sIsNum f fd) (B : Bn mg) (W : Wn mg) (N : Nn mg) : FnOk P w K mg base CX0 1 f fd ["value"] spIsNum := by
  obtain ⟨t, hL⟩ := N.lg
  refine F.ok scIsNum (fun vs H Q E h => ?_) (fun cdv A outer s H vs Q E hr h => ?_)
  · obtain ⟨i, rfl, _⟩ := h
    rfl
  · obtain ⟨i, rfl, q⟩ := h
    refine ⟨_, pss_cons (ps_if (PW.pt (pw_or (pt_val (pe_callB call_isi (by rfl) W.isi (by decide +kernel) (pa_cons (pv 0) (pa_cons (pe_bltn (v := .ty "bool") (u := .type "bool") (by rfl) N.bool (by decide +kernel) rfl) pa_nil))))
        (pw_or1 (pt_not (pt_val (pe_callB call_isi (by rfl) W.isi (by decide +kernel) (pa_cons (pv 0) (pa_cons (pe_bltn (v := .ty "int") (u := .type "int") (by rfl) B.int (by decide +kernel) rfl) pa_nil)))))))) (pss_one (ps_ret pe_bl)) pss_nil)
      (pss_one (ps_ret (pe_chain op_le op_le (pe_un un_neg (pe_glob (v := .int LG) (by rfl) hL ⟨_, rfl⟩)) (pv 0) (pe_glob (v := .int LG) (by rfl) hL ⟨_, rfl⟩)))), ?_⟩
    refine ⟨_, rfl, _, _, _, _, false, rfl, .ty "bool", .base (.int i), kit_ty (by decide +kernel), _, rfl, iteF ?_⟩
    refine ⟨_, rfl, _, _, _, _, true, rfl, .ty "int", .base (.int i), kit_ty (by decide +kernel), _, rfl, iteF ?_⟩
    refine ⟨_, rfl, _, rfl, _, _, rfl, rfl, _, rfl, ?_⟩
    by_cases h1 : -LG ≤ i
    · rw [decide_eq_true h1]
      refine iteT ⟨_, _, rfl, rfl, ?_⟩
      have e : decide (i ≤ LG) = nuB i := by
        unfold nuB
        rw [decide_eq_true h1, Bool.true_and]
      rw [← e] at q
      exact q
    · rw [decide_eq_false h1]
      have e : nuB i = false := by
        unfold nuB
        rw [decide_eq_false h1, Bool.false_and]
      rw [e] at q
      exact iteF q
theorem scIsNumW : FnScope ["value", "least", "most"] ["value", "least", "most"] (defScope sIsNumW) := ⟨rfl, rfl, rfl, by decide +kernel, rfl, by decide +kernel, by decide +kernel⟩
theorem ok_isNumW {f : Addr} {fd : FuncData} (F : Fun K "is_number_within" "is_number_within" sIsNumW f fd) (J : Cd P w K mg base 1 "is_number" ["value"] spIsNum) : FnOk P w K mg base CX0 2 f fd ["value", "least", "most"] spIsNumW := by
  obtain ⟨j, dj, G, gm, gk, gb⟩ := J.ex
  refine F.ok scIsNumW (fun vs H Q E h => ?_) (fun cdv A outer s H vs Q E hr h => ?_)
  · obtain ⟨i, a, b, rfl, _⟩ := h
    rfl
  · obtain ⟨i, a, b, rfl, q⟩ := h
    refine ⟨_, pss_one (ps_ret (pe_and (pe_call G hr (by rfl) gm gk gb .nil pass0 (pa_cons (pv 0) pa_nil)) (pe_one (pe_chain op_le op_le (pv 1) (pv 0) (pv 2))))), ?_⟩
    refine ⟨_, rfl, i, rfl, _, rfl, ?_⟩
    unfold nwB at q
    cases e : nuB i with
    | false =>
      rw [e, Bool.false_and] at q
      exact iteF q
    | true =>
      rw [e, Bool.true_and] at q
      refine iteT ⟨_, rfl, _, rfl, _, _, rfl, rfl, _, rfl, ?_⟩
      by_cases h1 : a ≤ i
      · rw [decide_eq_true h1] at q ⊢
        rw [Bool.true_and] at q
        exact iteT ⟨_, rfl, _, _, rfl, rfl, q⟩
      · rw [decide_eq_false h1] at q ⊢
        exact iteF q
theorem dpAll_str {K : PySem.W.Frag} {H : Hp} : ∀ zs : List Str, DpAll K H (zs.map V.str) (zs.map PyData.str)
  | [] => .nil
  | z :: zs => .cons (.str z) (dpAll_str zs)
theorem lay_strs : ∀ zs : List Str, (∀ z ∈ zs, PyData.strOk z = true) → PyData.canLayAll0 (zs.map PyData.str) = true
  | [], _ => by simp [PyData.canLayAll0]
  | z :: zs, h => by simp [PyData.canLayAll0, PyData.canLay0, h z List.mem_cons_self, lay_strs zs fun y hy => h y (List.mem_cons_of_mem _ hy)]
theorem depth_strs : ∀ zs : List Str, PyData.depthAll (zs.map PyData.str) = 0
  | [] => by simp [PyData.depthAll]
  | z :: zs => by simp [PyData.depthAll, PyData.depth, depth_strs zs]
theorem ok_of_wB {z : Str} (h : wB z = true) : PyData.strOk z = true := by
  unfold PyData.strOk
  rw [← Array.all_toList]
  refine List.all_eq_true.mpr fun c hc => ?_
  have := isW_of h c hc
  simp
  omega
theorem byCs_anti (a b : Str) (h1 : byCs a b = true) (h2 : byCs b a = true) : a = b := by
  simp only [byCs, decide_eq_true_eq] at h1 h2
  exact cs_inj (List.le_antisymm h1 h2)
end
end Mk

set_option Elab.async false
set_option linter.all false
set_option maxRecDepth 100000
set_option maxHeartbeats 4000000
/-! d.values() of a dict whose keys are tuples -/
namespace Mk
open PySem PySem.Spec PyProof.Rows PySem.W L2

section
variable {X : Cx} {pins : List (Addr × Obj)} {σ : L2.St} {H : Hp} {s : Shared} {d : Addr} {o : Obj}
theorem frzV {kvs : List (List Key × V)} (I : Inv X pins σ H s) (hf : H d = some (.frz o (.dT kvs))) :
    (d == sysModules) = false ∧ ∃ (es : Array DictEntry) (ep : Nat), o.data = .dict es ep ∧ es.size = kvs.length ∧ s.heap.DictRaw d es ep ∧
      ∀ (i : Nat) (k : List Key) (v : V), kvs[i]? = some (k, v) → ∃ en : DictEntry, es[i]? = some en ∧ RelV v en.val := by
  obtain ⟨ho1, zl, hsm, xs, pr, o', es, ep, ho2, hx, hdt, he, _⟩ := I.hok d _ hf
  obtain rfl : o = o' := Option.some.inj (ho1.symm.trans ho2)
  refine ⟨hsm, es, ep, hdt, ?_, ⟨o, ho1, hx, hdt⟩, fun i k v e => ?_⟩
  · exact (size_of_entries he).trans (Paired.length pr).symm
  · obtain ⟨b, hb, _, _, e3⟩ := paired_get pr e
    have q := entry_at he i
    rw [hb] at q
    exact ⟨_, q, e3⟩
end
/-- the values of the locked dict at d, whose keys are tuples -/
def Itdt (d : Addr) (o : Obj) (kvs : List (List Key × V)) : It where
  go := fun i H => H d = some (.frz o (.dT kvs)) ∧ i < kvs.length
  yld := fun i H x H' => H' = H ∧ ∃ k, kvs[i]? = some (k, x)
  stop := fun i H => H d = some (.frz o (.dT kvs)) ∧ kvs.length ≤ i
theorem walk_valuesT {d : Addr} {o : Obj} {kvs : List (List Key × V)} : Walk (Itdt d o kvs) kvs.length (fun H => H d = some (.frz o (.dT kvs))) (fun i H x H' => H' = H ∧ ∃ k, kvs[i]? = some (k, x)) where
  goes := fun i _ hi q => ⟨q, hi⟩
  stops := fun _ q => ⟨q, Nat.le_refl _⟩
  yields := fun _ _ _ _ _ _ y => y
section
variable {P : Program} {w : World} {K : PySem.W.Frag} {tg : Expr} {d : Addr} {o : Obj} {es : Array DictEntry} {ep : Nat}
theorem turn_valsT {kvs : List (List Key × V)} (it : Addr) (hod : o.data = .dict es ep) : Turn P w K tg (Itdt d o kvs) [it] it (fun i h => h.IsValIter it d i kvs.length ep) where
  mem := List.mem_singleton.mpr rfl
  obj := fun i h st b hb => by
    obtain rfl := List.mem_singleton.mp hb
    obtain ⟨oi, e, c, dd⟩ := st
    refine ⟨oi, e, fun v z => ?_⟩
    rw [dd] at z
    cases z
  keep := fun i h h' st k => st.at fun oi e => k it (List.mem_singleton.mpr rfl) oi e
  item := by
    intro X hP hw hK hc i pins s σ H E I hf st hg
    subst hP hw hK
    have ⟨f0, f1, f2, f3, f4, f5⟩ := hf it (List.mem_singleton.mpr rfl)
    have ⟨hsm, es', ep', hdt, hsz, hr, ent⟩ := frzV I hg.1
    obtain ⟨rfl, rfl⟩ := dict_ep hod hdt
    have hgi : i < kvs.length := hg.2
    have hkv : kvs[i]? = some kvs[i] := List.getElem?_eq_getElem hgi
    obtain ⟨en, hen, ru⟩ := ent i _ _ hkv
    have hlt : i < es'.size := by rw [hsz]; exact hg.2
    have een : es'[i] = en := Option.some.inj ((Array.getElem?_eq_getElem hlt).symm.trans hen)
    rw [← hsz] at st ⊢
    refine wpAny_pyNext_values_item_raw st hr hlt fun h' st' sb => ?_
    have I1 := I.turned (t' := s.toks) (h' := h') (fun b ob hb e => (sb.2 b hb).trans e) f0 f1 f3 f4 f5
    have ⟨oi, e, c, dd⟩ := id st'
    exact ⟨_, rfl, go_of (s := { s with heap := h' }) e c dd (by decide) ⟨_, H, I1, by rw [een]; exact ru, ⟨rfl, _, hkv⟩, st', fun b hb => (hf b hb).1⟩⟩
  done := by
    intro X hP hw hK hc i pins s σ H E I hf st hg
    subst hP hw hK
    have ⟨f0, f1, f2, f3, f4, f5⟩ := hf it (List.mem_singleton.mpr rfl)
    have ⟨hsm, es', ep', hdt, hsz, hr, ent⟩ := frzV I hg.1
    obtain ⟨rfl, rfl⟩ := dict_ep hod hdt
    rw [← hsz] at st
    refine wpAny_pyNext_values_end_raw (I.ok.hd hc) st hr (by rw [hsz]; exact hg.2) fun h' eb => ?_
    exact ⟨rfl, I.turned (t' := s.toks) (fun b ob hb e => eb b ob hb e) f0 f1 f3 f4 f5⟩
  self := fun A i s Q E st h => wpAny_pyIter_valiter st h
end
def iValsT (td : TE) : TI := fun σ H R => td σ H fun x H1 => ∃ d o kvs, x = .ref d ∧ H1 d = some (.frz o (.dT kvs)) ∧ R (Itdt d o kvs) H1
section
variable {X : Cx} {tg e : Expr} {td : TE} {apos cpos : Pos}
theorem pi_valuesT (he : PE X e td) (hbase : attributeBase e "values" X.env (eval e X.env) = eval e X.env := by rfl) (hline : (apos.endLine == cpos.line) = true := by rfl) : PI X tg (.Call (.Attribute e "values" apos) [] [] cpos) (iValsT td) := by
  refine ⟨fun pins s σ H R I h => ?_⟩
  refine wpAny_Call_method (T := "dict") (id := "dict.values") hbase rfl hline F.plainAttrs_dict F.slot_dict_values F.type_dict_values (thn (he.run pins s σ H _ I h) fun u s1 z => ?_)
  obtain ⟨x, H1, I1, rx, d, o, kvs, rfl, hd, q⟩ := z
  obtain rfl : u = Value.ref d := rx
  have ⟨hsm, es, ep, hdt, hsz, hr, ent⟩ := frzV I1 hd
  have ⟨o1, ho1, hx1, hd1⟩ := id hr
  have I2 := I1.kept (t' := s1.toks) (h' := s1.heap.push { cls := .type "dict_values", data := .fields #[.ref d] }) fun b ob q => Heap.get?_push_of_some _ q
  have fin : wpAny (model X.prog X.w) X.A (pyIter (.ref s1.heap.objs.size)) (PIE X pins σ tg R) X.xe { s1 with heap := s1.heap.push { cls := .type "dict_values", data := .fields #[.ref d] } } := by
    refine wpAny_pyIter_values_raw (d := d) (es := es) (ep := ep) ⟨_, Heap.get?_push_size _ rfl, rfl, rfl⟩ ⟨o1, Heap.get?_push_of_some _ ho1, hx1, hd1⟩ (pi_one (tk := s1.toks) I2 _ (turn_valsT _ hdt) ⟨_, Heap.get?_push_size _ rfl, rfl, ?_⟩ q)
    rw [hsz] <;> rfl
  refine ⟨⟨o1, ho1, hx1.1⟩, ?_, ?_⟩
  · intro b e
    cases e
    exact ⟨o1, ho1, hx1.2.1⟩
  · exact method_meetsIn F.slot_dict_values F.entry_dict_values rfl (PySem.evalArgs_none ⟨rfl, ⟨o1, ho1, hx1.1⟩, F.args_dict_values_1 _, _, meets_dict_values_raw d hsm, ⟨⟨es, ep, hr⟩, fin⟩⟩)
end
end Mk

set_option Elab.async false
set_option linter.all false
set_option maxRecDepth 100000
set_option maxHeartbeats 4000000
namespace Mk
open PySem L2

abbrev sAreT : Stmt := top 30
abbrev sIsST : Stmt := top 31
abbrev sHasP : Stmt := top 32
abbrev sIsPair : Stmt := top 33

/-! ### tables of prices -/
abbrev PTab := List (Str × Int)
abbrev STab := List ((Str × Str) × Int)
def kvsP (t : PTab) : List (Key × V) := t.map fun p => (Sum.inr p.1, V.int p.2)
def kvsS (t : STab) : List (List Key × V) := t.map fun p => ([Sum.inr p.1.1, Sum.inr p.1.2], V.int p.2)
structure Pn (mg : Str → Option Value) : Prop where
  dict : mg "dict" = none
  mp : ∃ t, mg "MAX_PRICE" = some (.int 9 t)
  ms : ∃ t, mg "MAX_SWAP_PRICE" = some (.int 18 t)
/-- a generic walk: a comprehension of booleans -/
theorem wk_any {J : It} {n : Nat} {Gd : Hp → Prop} {Y : Nat → Hp → V → Hp → Prop} (wk : Walk J n Gd Y) {Body : V → Hp → (Hp → Prop) → Prop} {H0 : Hp} {Qd : Hp → Prop} (Pv : Nat → Hp → Prop) (h0 : Pv 0 H0) (hG : ∀ i H, i ≤ n → Pv i H → Gd H)
    (hs : ∀ i x H H', i < n → Pv i H → Y i H x H' → Body x H' (Pv (i + 1))) (hd : ∀ H, Pv n H → Qd H) :
    ∃ W : Nat → Nat → Hp → Prop, (∃ m, W 0 m H0) ∧ ∀ i m H, W i m H → (J.stop i H ∧ Qd H) ∨ (J.go i H ∧ ∃ Nx : Hp → Prop, (∀ H', Nx H' → ∃ m', m' < m ∧ W (i + 1) m' H') ∧ ∀ x H', J.yld i H x H' → Body x H' Nx) := by
  refine ⟨fun i m H => m = n - i ∧ i ≤ n ∧ Pv i H, ⟨n, by simp, Nat.zero_le _, h0⟩, ?_⟩
  rintro i m H ⟨rfl, le, p⟩
  by_cases lt : i < n
  · exact .inr ⟨wk.goes i H lt (hG i H le p), Pv (i + 1), fun H' p' => ⟨n - (i + 1), by omega, rfl, lt, p'⟩, fun x H' y => hs i x H H' lt p (wk.yields i H x H' lt (hG i H le p) y)⟩
  · obtain rfl : i = n := by omega
    exact .inl ⟨wk.stops H (hG _ H le p), hd H p⟩
theorem Same.upN {H H1 : Hp} {l : Addr} {o : HO} (a : Same H H1) (hl : H l = none) : Same H (upd H1 l o) := fun b u e => by
  rw [upd_ne (ne_of_none e hl)]
  exact a b u e
section
variable {X : Cx} {tg e : Expr} {td : TE} {apos cpos : Pos}
/-- d.values(), keys of either kind -/
theorem pi_valuesU (he : PE X e td) (hbase : attributeBase e "values" X.env (eval e X.env) = eval e X.env := by rfl) (hline : (apos.endLine == cpos.line) = true := by rfl) : PI X tg (.Call (.Attribute e "values" apos) [] [] cpos) (fun σ H R => iVals td σ H R ∨ iValsT td σ H R) :=
  ⟨fun pins s σ H R I h => h.elim (fun h => (pi_values he hbase hline).run pins s σ H R I h) (fun h => (pi_valuesT he hbase hline).run pins s σ H R I h)⟩
end
/-- d is a dict of prices: of signs, or of pairs -/
def IsTab (H : Hp) (d : Addr) (ns : List Int) : Prop := (∃ t : PTab, H d = some (.dK (kvsP t)) ∧ ns = t.map (·.2)) ∨ ∃ t : STab, H d = some (.dT (kvsS t)) ∧ ns = t.map (·.2)
def spHasP : Sp := fun vs H Q _ => ∃ (d : Addr) (m : Int) (ns : List Int), vs = [.ref d, .int m] ∧ IsTab H d ns ∧ ns.length ≤ 30 ∧ ∀ H', Same H H' → Q (.bl (ns.all fun i => nwB i 1 m)) H'
section
variable {P : Program} {w : World} {K : PySem.W.Frag} {mg : Str → Option Value} {base : Heap}
theorem scHasP : FnScope ["value", "most", "price"] ["value", "most"] (defScope sHasP) := ⟨rfl, rfl, rfl, by decide +kernel, rfl, by decide +kernel, by decide +kernel⟩
/-- what stands behind the walk over the locked dict at d: the list D of answers -/
structure Bls (H H1 : Hp) (d D : Addr) (u : HO) (bs : List Bool) : Prop where
  but : ∀ b o, b ≠ d → H b = some o → H1 b = some o
  at_ : H1 d = some u
  out : H1 D = some (.lst (bs.map V.bl))
theorem Bls.start {H : Hp} {d D : Addr} {u : HO} (hD : upd H d u D = none) : D ≠ d ∧ H D = none ∧ Bls H (upd (upd H d u) D (.lst [])) d D u [] := by
  have ne : D ≠ d := fun e => by
    rw [e, upd_same] at hD
    cases hD
  have h0 : H D = none := by rwa [upd_ne ne] at hD
  refine ⟨ne, h0, fun b o hb e => ?_, ?_, upd_same⟩
  · rw [upd_ne (ne_of_none e h0), upd_ne hb]
    exact e
  · rw [upd_ne ne.symm]
    exact upd_same
theorem Bls.push {H H1 : Hp} {d D : Addr} {u : HO} {bs : List Bool} (W : Bls H H1 d D u bs) (ne : D ≠ d) (h0 : H D = none) (b : Bool) : Bls H (upd H1 D (.lst (bs.map V.bl ++ [.bl b]))) d D u (bs ++ [b]) := by
  refine ⟨fun a o hb e => ?_, ?_, ?_⟩
  · rw [upd_ne (ne_of_none e h0)]
    exact W.but a o hb e
  · rw [upd_ne ne.symm]
    exact W.at_
  · rw [upd_same, List.map_append]
    rfl
theorem Bls.done {H H1 : Hp} {d D : Addr} {u u0 : HO} {bs : List Bool} (W : Bls H H1 d D u bs) (hd : H d = some u0) : Same H (upd H1 d u0) := fun b o e => by
  by_cases hb : b = d
  · subst hb
    rw [hd] at e
    cases e
    exact upd_same
  · rw [upd_ne hb]
    exact W.but b o hb e
theorem ok_hasP {f : Addr} {fd : FuncData} (F : Fun K "_has_prices" "_has_prices" sHasP f fd) (W : Wn mg) (O : On mg) (N : Pn mg) (J : Cd P w K mg base 2 "is_number_within" ["value", "least", "most"] spIsNumW) : FnOk P w K mg base CX0 3 f fd ["value", "most"] spHasP := by
  obtain ⟨j, dj, G, gm, gk, gb⟩ := J.ex
  refine F.ok scHasP (fun vs H Q E h => ?_) (fun cdv A outer s H vs Q E hr h => ?_)
  · obtain ⟨d, m, ns, rfl, _⟩ := h
    rfl
  · obtain ⟨d, m, ns, rfl, ht, hl, q⟩ := h
    refine ⟨_, pss_cons (ps_if (pt_not (pt_val (pe_callB call_isi (by rfl) W.isi (by decide +kernel) (pa_cons (pv 0) (pa_cons (pe_bltn (v := .ty "dict") (u := .type "dict") (by rfl) N.dict (by decide +kernel) rfl) pa_nil))))) (pss_one (ps_ret pe_bl)) pss_nil)
      (pss_one (ps_ret (pe_callB (cr_all rfl) (by rfl) O.all (by decide +kernel) (pa_cons (pe_lock (pe_lc (own := [("price", 2)]) (g := gName 2) (tt := tYes) rfl scHasP.nd (pi_valuesU (pv 0)) (blkOk_by (N := ["value", "most", "price"]) (sc := defScope sHasP) (by decide +kernel))
          (fun _ _ _ _ _ => pg_name (i := 2) scHasP.nd rfl (Or.inl rfl)) (fun _ _ _ _ _ => pts_nil) (fun _ _ _ _ _ => pe_call G hr (by rfl) gm gk gb .nil pass0 (pa_cons (pv 2) (pa_cons pe_int (pa_cons (pv 1) pa_nil)))))) pa_nil)))), ?_⟩
    have small : ns.length < sizeLine := Nat.lt_of_lt_of_le (by omega : ns.length < 4000) (by decide)
    rcases ht with ⟨t, hd, rfl⟩ | ⟨t, hd, rfl⟩
    · refine ⟨_, rfl, _, _, _, _, true, rfl, .ty "dict", .base (.dK hd), kit_ty (by decide +kernel), _, rfl, iteF ?_⟩
      refine ⟨d, _, hd, trivial, fun od => .inl ⟨_, rfl, d, od, kvsP t, rfl, upd_same, fun D hD => ?_⟩⟩
      obtain ⟨ne, h0, st⟩ := Bls.start hD
      refine wk_any (walk_values (d := d) (o := od) (kvs := kvsP t)) (fun i H1 => Bls H H1 d D (.frz od (.dK (kvsP t))) ((t.take i).map fun p => nwB p.2 1 m)) st (fun i H1 _ h1 => h1.at_) ?_ ?_
      · rintro i x H1 H2 hi h1 ⟨rfl, k, hx⟩
        have hi2 : i < t.length := by simpa [kvsP] using hi
        have e : x = V.int t[i].2 := by
          unfold kvsP at hx
          rw [List.getElem?_map, List.getElem?_eq_getElem hi2] at hx
          have := Option.some.inj hx
          injection this with _ e2
          exact e2.symm
        subst e
        refine ⟨rfl, _, rfl, _, rfl, t[i].2, 1, m, rfl, _, h1.out, ?_, ?_⟩
        · rw [List.length_map, List.length_map, List.length_take]
          rw [List.length_map] at small
          omega
        · have := h1.push ne h0 (nwB t[i].2 1 m)
          rw [List.take_add_one, List.getElem?_eq_getElem hi2, List.map_append]
          exact this
      · rintro H1 h1
        have e : (kvsP t).length = t.length := by simp [kvsP]
        rw [e, List.take_length] at h1
        refine ⟨h1.at_, D, _, rfl, SqL.of (by rw [upd_ne ne]; exact h1.out), ?_⟩
        rw [List.all_map]
        have := q _ (h1.done hd)
        rw [List.all_map] at this
        exact this
    · refine ⟨_, rfl, _, _, _, _, true, rfl, .ty "dict", .base (.dT hd), kit_ty (by decide +kernel), _, rfl, iteF ?_⟩
      refine ⟨d, _, hd, trivial, fun od => .inr ⟨_, rfl, d, od, kvsS t, rfl, upd_same, fun D hD => ?_⟩⟩
      obtain ⟨ne, h0, st⟩ := Bls.start hD
      refine wk_any (walk_valuesT (d := d) (o := od) (kvs := kvsS t)) (fun i H1 => Bls H H1 d D (.frz od (.dT (kvsS t))) ((t.take i).map fun p => nwB p.2 1 m)) st (fun i H1 _ h1 => h1.at_) ?_ ?_
      · rintro i x H1 H2 hi h1 ⟨rfl, k, hx⟩
        have hi2 : i < t.length := by simpa [kvsS] using hi
        have e : x = V.int t[i].2 := by
          unfold kvsS at hx
          rw [List.getElem?_map, List.getElem?_eq_getElem hi2] at hx
          have := Option.some.inj hx
          injection this with _ e2
          exact e2.symm
        subst e
        refine ⟨rfl, _, rfl, _, rfl, t[i].2, 1, m, rfl, _, h1.out, ?_, ?_⟩
        · rw [List.length_map, List.length_map, List.length_take]
          rw [List.length_map] at small
          omega
        · have := h1.push ne h0 (nwB t[i].2 1 m)
          rw [List.take_add_one, List.getElem?_eq_getElem hi2, List.map_append]
          exact this
      · rintro H1 h1
        have e : (kvsS t).length = t.length := by simp [kvsS]
        rw [e, List.take_length] at h1
        refine ⟨h1.at_, D, _, rfl, SqL.of (by rw [upd_ne ne]; exact h1.out), ?_⟩
        rw [List.all_map]
        have := q _ (h1.done hd)
        rw [List.all_map] at this
        exact this
end
end Mk

set_option Elab.async false
set_option linter.all false
set_option maxRecDepth 100000
set_option maxHeartbeats 4000000
namespace Mk
open PySem PySem.Spec PyProof.Rows L2

section
variable {prog : Program} {w : World} {A : Around} {E : Value → Shared → Prop} {s : Shared} {r d : Addr} {n : Nat} {Pi : Nat → Value → Prop} {OK : Heap → Prop}
theorem new_tuple_d {Q1 : Value → Shared → Prop} (Kd : PySem.W.KdlSrc prog w "dict" r d n Pi OK) (hh : A.handled = none) (hok : OK s.heap) (hn : n ≤ sizeLine) (hT : s.TypeIs (.ref r) "dict")
    (h : ∀ (h' : Heap) (tk : Nat) (acc : Array Value), (∀ b o, s.heap.get? b = some o → h'.get? b = some o) → ItemsOf Pi acc n → Q1 (.ref h'.objs.size) { s with heap := h'.push { cls := .type "tuple", data := .seq acc }, toks := tk }) :
    codeAny (model prog w) A (.call (.builtin "tuple.__new__") ⟨[.type "tuple", .ref r], []⟩) (wants Q1 E) s := by
  refine codeAny_of_tree ?_
  show wpAny _ A.in1 (do checkBuiltinCall "tuple.__new__" ⟨[.type "tuple", .ref r], []⟩; again (.builtin "tuple.__new__" ⟨[.type "tuple", .ref r], []⟩)) _ _ s
  refine wpAny_bind (wpAny_of_eq (F.newCall_tuple_1 _) (wpAny_pure ⟨plainId_quiet F.plain_tuple_new _, codeAny_builtin F.entry_tuple_new ?_⟩))
  rw [Around.under_plainId F.plain_tuple_new _]
  have s1 := sub_tuple_self
  have s2 := init_tuple_lookup
  have s3 := madeHere_tuple
  have h1 : A.in1.handled = none := hh
  wp_walk using wpAny_typeOf hT, PySem.W.kdu_collect (A := A.in1) Kd h1 hok hn
  intro h' tk acc k it
  show wpAny _ _ (Builtin.Tuple.tupleExact acc.toList.toArray >>= fun v => ret v) _ _ _
  unfold Builtin.Tuple.tupleExact
  have e : acc.toList.toArray = acc := by simp
  rw [e]
  refine wpAny_bind (wpAny_newObj_type ?_ (by show acc.size ≤ sizeLine; rw [it.1]; exact hn))
  exact wpAny_pure (h h' tk acc k it)
theorem call_tuple_d {Q : Value → Shared → Prop} (Kd : PySem.W.KdlSrc prog w "dict" r d n Pi OK) (hh : A.handled = none) (hok : OK s.heap) (hn : n ≤ sizeLine) (hT : s.TypeIs (.ref r) "dict")
    (h : ∀ (h' : Heap) (tk : Nat) (acc : Array Value), (∀ b o, s.heap.get? b = some o → h'.get? b = some o) → ItemsOf Pi acc n → Q (.ref h'.objs.size) { s with heap := h'.push { cls := .type "tuple", data := .seq acc }, toks := tk }) :
    wpAny (model prog w) A (call (.type "tuple") [.ref r]) Q E s := by
  refine callType_codes (Q₁ := fun v s1 => s1.TypeIs v "tuple" ∧ Q v s1) F.called_tuple (F.typeCall_tuple_1 _) F.entry_object_init
    (new_tuple_d (A := A.in1) Kd hh hok hn hT fun h' tk acc k it => ⟨⟨_, Heap.get?_push_size _ rfl, rfl⟩, h h' tk acc k it⟩) fun v s1 z => ?_
  exact ⟨z.1, F.args_object_init_2 v _, object_init_meets F.called_tuple.init.lookup F.called_tuple.made (by decide) prog w A.in1 _ s1 ⟨z.1, rfl, z.2⟩⟩
end
/-- tuple(d): its keys -/
def rTupD : List V → Hp → VK → Prop := fun xs H Q => ∃ (p : Addr) (kvs : List (Key × V)), xs = [.ref p] ∧ H p = some (.dK kvs) ∧ ∀ q, H q = none → Q (.ref q) (upd H q (.tup (kvs.map fun kv => kV kv.1)))
theorem cr_tupD {X : Cx} (hc : X.calm = true) : CallR X (.type "tuple") rTupD := by
  intro pins s σ H xs us Q I r h
  obtain ⟨p, kvs, rfl, hk, q⟩ := h
  rw [Vals.ref1 r]
  obtain ⟨z, lo, vs, rk, hd⟩ := (show ObjOk X.prog X.w H s.heap p (.dK kvs) from I.hok p _ hk)
  obtain ⟨ep, hat⟩ := hd.dictAt
  have hl : kvs.length = vs.length := Paired.length rk
  have hT : s.TypeIs (.ref p) "dict" := by
    obtain ⟨o, es, ep2, e, ex, _⟩ := hd
    exact ⟨o, e, ex.1⟩
  refine call_tuple_d (PySem.W.kdl_dict (knd := mixKind X.prog X.w) (kvs := vs) (ep := ep) lo) (I.ok.hd hc) hat (by rw [← hl]; exact z) hT fun h' tk acc k it => ?_
  have I1 : Inv X pins σ H { s with heap := h', toks := tk } := I.kept k
  have fr : H h'.objs.size = none := I1.hok.fresh (Nat.le_refl _)
  have el : acc.toList.length = acc.size := by simp
  have rv : Vals (kvs.map fun kv => kV kv.1) acc.toList := vals_of_at (by rw [List.length_map, el, it.1, hl]) fun j x v h1 h2 => by
    obtain ⟨ky, y, e1, e2⟩ := it.2 j v (by rw [← Array.getElem?_toList]; exact h2)
    have e3 : (kvs.map (·.1))[j]? = some ky := by
      rw [KV.keys rk, List.getElem?_map, e1]
      rfl
    have e4 : (kvs.map fun kv => kV kv.1) = (kvs.map (·.1)).map kV := by
      rw [List.map_map]
      rfl
    rw [e4, List.getElem?_map, e3] at h1
    obtain rfl : kV ky = x := Option.some.inj h1
    exact keyIs_rel e2
  refine ⟨.ref _, upd H h'.objs.size (.tup (kvs.map fun kv => kV kv.1)), I1.laid (t' := tk) (fun b o e => Heap.get?_push_of_some _ e) (Nat.le_refl _) ⟨by rw [List.length_map]; exact z, acc.toList, rv, ?_⟩, rfl, q _ fr⟩
  rw [Array.toArray_toList]
  exact ⟨_, Heap.get?_push_size _ rfl, rfl, _, rfl⟩
end Mk

set_option Elab.async false
set_option linter.all false
set_option maxRecDepth 100000
set_option maxHeartbeats 4000000
namespace Mk
open PySem L2

theorem kvsP_len (t : PTab) : (kvsP t).length = t.length := by simp [kvsP]
theorem kvsS_len (t : STab) : (kvsS t).length = t.length := by simp [kvsS]
theorem kvsP_keys (t : PTab) : (kvsP t).map (·.1) = (t.map (·.1)).map Sum.inr := by simp [kvsP]
theorem kvsP_at {t : PTab} {i : Nat} (h : i < t.length) : (kvsP t)[i]? = some (Sum.inr t[i].1, V.int t[i].2) := by
  unfold kvsP
  rw [List.getElem?_map, List.getElem?_eq_getElem h]
  rfl
theorem kvsS_at {t : STab} {i : Nat} (h : i < t.length) : (kvsS t)[i]? = some ([Sum.inr t[i].1.1, Sum.inr t[i].1.2], V.int t[i].2) := by
  unfold kvsS
  rw [List.getElem?_map, List.getElem?_eq_getElem h]
  rfl
def okP (t : PTab) (m : Int) : Bool := t.all fun p => nwB p.2 1 m
def okS (t : STab) (m : Int) : Bool := t.all fun p => nwB p.2 1 m
def spIsST : Sp := fun vs H Q _ => ∃ (d : Addr) (t : PTab), vs = [.ref d] ∧ H d = some (.dK (kvsP t)) ∧ t.length ≤ 5 ∧ (∀ p ∈ t, sgB p.1 = true) ∧ ∀ H', Same H H' → Q (.bl (okP t 9 && !t.isEmpty)) H'
def spPair : Sp := fun vs H Q _ => ∃ (q t : Addr) (x y : Str) (zs : List Str), vs = [.ref q, .ref t] ∧ H q = some (.tup [.str x, .str y]) ∧ H t = some (.tup (zs.map V.str)) ∧ Q (.bl (decide (x ∈ zs) && (decide (y ∈ zs) && decide (x ≠ y)))) H
theorem inV_dec (x : Str) (zs : List Str) : inV (.str x) (zs.map V.str) = decide (x ∈ zs) := by
  unfold inV
  rw [List.any_map, Bool.eq_iff_iff, decide_eq_true_iff, List.any_eq_true]
  constructor
  · rintro ⟨y, hy, e⟩
    have : eqV (.str y) (.str x) = true := e
    simp [eqV] at this
    rw [← this]
    exact hy
  · intro h
    refine ⟨x, h, ?_⟩
    show eqV (.str x) (.str x) = true
    simp [eqV]
theorem flat_str (zs : List Str) : (zs.map V.str).all flatV = true := by
  rw [List.all_map]
  exact List.all_eq_true.mpr fun _ _ => rfl
section
variable {P : Program} {w : World} {K : PySem.W.Frag} {mg : Str → Option Value} {base : Heap}
theorem scIsPair : FnScope ["value", "signs"] ["value", "signs"] (defScope sIsPair) := ⟨rfl, rfl, rfl, by decide +kernel, rfl, by decide +kernel, by decide +kernel⟩
theorem ok_isPair {f : Addr} {fd : FuncData} (F : Fun K "_is_pair" "_is_pair" sIsPair f fd) (B : Bn mg) (W : Wn mg) (O : On mg) : FnOk P w K mg base CX0 1 f fd ["value", "signs"] spPair := by
  refine F.ok scIsPair (fun vs H Q E h => ?_) (fun cdv A outer s H vs Q E hr h => ?_)
  · obtain ⟨q, t, x, y, zs, rfl, _⟩ := h
    rfl
  · obtain ⟨q, t, x, y, zs, rfl, hq, ht, k⟩ := h
    refine ⟨_, pss_cons (ps_if (PW.pt (pw_or (pt_not (pt_val (pe_callB call_isi (by rfl) W.isi (by decide +kernel) (pa_cons (pv 0) (pa_cons (pe_bltn (v := .ty "tuple") (u := .type "tuple") (by rfl) O.tuple (by decide +kernel) rfl) pa_nil)))))
        (pw_or1 (pt_cmpR op_ne (pe_callB call_len_seq (by rfl) B.len PySem.boot_len (pa_cons (pv 0) pa_nil)) pe_int (nomark _))))) (pss_one (ps_ret pe_bl)) pss_nil)
      (pss_one (ps_ret (pe_and (pe_cmpR op_in_seq (pe_ix ix_tup (pv 0) pe_int (fun _ _ => rfl)) (pv 1) (by rfl)) (pe_and (pe_cmpR op_in_seq (pe_ix ix_tup (pv 0) pe_int (fun _ _ => rfl)) (pv 1) (by rfl))
        (pe_one (pe_cmpR op_ne (pe_ix ix_tup (pv 0) pe_int (fun _ _ => rfl)) (pe_ix ix_tup (pv 0) pe_int (fun _ _ => rfl)) (nomark _))))))), ?_⟩
    refine ⟨_, rfl, _, _, _, _, true, rfl, .ty "tuple", .base (.tup hq), kit_ty (by decide +kernel), _, rfl, iteF ?_⟩
    refine ⟨_, rfl, q, _, rfl, .inr (SqT.of hq), rfl, _, rfl, iteF ?_⟩
    refine ⟨_, rfl, q, _, 0, _, rfl, rfl, SqT.of hq, rfl, _, rfl, t, _, rfl, .inr (SqT.of ht), rfl, flat_str zs, _, rfl, ?_⟩
    rw [inV_dec]
    cases e1 : decide (x ∈ zs) with
    | false =>
      rw [e1] at k
      exact iteF k
    | true =>
      rw [e1] at k
      refine iteT ⟨_, rfl, q, _, 1, _, rfl, rfl, SqT.of hq, rfl, _, rfl, t, _, rfl, .inr (SqT.of ht), rfl, flat_str zs, _, rfl, ?_⟩
      rw [inV_dec]
      cases e2 : decide (y ∈ zs) with
      | false =>
        rw [e2] at k
        exact iteF k
      | true =>
        rw [e2] at k
        refine iteT ⟨_, rfl, q, _, 0, _, rfl, rfl, SqT.of hq, rfl, _, rfl, q, _, 1, _, rfl, rfl, SqT.of hq, rfl, rfl, ?_⟩
        have e3 : (!decide (V.str x = V.str y)) = decide (x ≠ y) := by
          rw [Bool.eq_iff_iff]
          simp
        rw [e3]
        exact k
end
end Mk

set_option Elab.async false
set_option linter.all false
set_option maxRecDepth 100000
set_option maxHeartbeats 4000000
namespace Mk
open PySem L2

theorem sg_len {z : Str} (h : sgB z = true) : z.length ≤ 100000 := by
  unfold sgB at h
  rw [Bool.and_eq_true, decide_eq_true_eq] at h
  omega
theorem sg_ok {z : Str} (h : sgB z = true) : PyData.strOk z = true := by
  unfold sgB at h
  rw [Bool.and_eq_true] at h
  exact ok_of_wB h.2
section
variable {P : Program} {w : World} {K : PySem.W.Frag} {mg : Str → Option Value} {base : Heap}
theorem scIsST : FnScope ["value", "sign"] ["value"] (defScope sIsST) := ⟨rfl, rfl, rfl, by decide +kernel, rfl, by decide +kernel, by decide +kernel⟩
theorem ok_isST {f : Addr} {fd : FuncData} (F : Fun K "_is_sign_table" "_is_sign_table" sIsST f fd) (O : On mg) (N : Pn mg) (J : Cd P w K mg base 3 "_has_prices" ["value", "most"] spHasP) (S : Cd P w K mg base 1 "is_sign" ["value"] (spJudge sgB K)) : FnOk P w K mg base CX0 4 f fd ["value"] spIsST := by
  obtain ⟨j, dj, G, gm, gk, gb⟩ := J.ex
  obtain ⟨c, dc, Gc, cm, ck, cb⟩ := S.ex
  obtain ⟨tm, hm9⟩ := N.mp
  refine F.ok scIsST (fun vs H Q E h => ?_) (fun cdv A outer s H vs Q E hr h => ?_)
  · obtain ⟨d, t, rfl, _⟩ := h
    rfl
  · obtain ⟨d, t, rfl, hd, hl, hv, q⟩ := h
    refine ⟨_, pss_cons (ps_if (PW.pt (pw_or (pt_not (pt_val (pe_call G hr (by rfl) gm gk gb .nil pass0 (pa_cons (pv 0) (pa_cons (pe_glob (v := .int 9) (by rfl) hm9 ⟨_, rfl⟩) pa_nil)))))
        (pw_or1 (pt_not (pt_truth (pv 0) (by intro _; rfl)))))) (pss_one (ps_ret pe_bl)) pss_nil)
      (pss_one (ps_ret (pe_callB (cr_all rfl) (by rfl) O.all (by decide +kernel) (pa_cons (pe_lock (pe_lc (own := [("sign", 1)]) (g := gName 1) (tt := tYes) rfl scIsST.nd (pi_keys (pv 0)) (blkOk_by (N := ["value", "sign"]) (sc := defScope sIsST) (by decide +kernel))
          (fun _ _ _ _ _ => pg_name (i := 1) scIsST.nd rfl (Or.inl rfl)) (fun _ _ _ _ _ => pts_nil) (fun _ _ _ _ _ => pe_call Gc (hr.mono (by decide)) (by rfl) cm ck cb .nil pass0 (pa_cons (pv 1) pa_nil)))) pa_nil)))), ?_⟩
    refine ⟨_, rfl, d, 9, t.map (·.2), rfl, .inl ⟨t, hd, rfl⟩, by rw [List.length_map]; omega, fun H1 hS => ⟨_, rfl, ?_⟩⟩
    have ea : ((t.map (·.2)).all fun i => nwB i 1 9) = okP t 9 := by
      unfold okP
      rw [List.all_map]
      rfl
    rw [ea]
    cases e1 : okP t 9 with
    | false =>
      rw [e1] at q
      exact iteT (q _ hS)
    | true =>
    rw [e1] at q
    have hd1 := hS _ _ hd
    refine iteF ⟨_, rfl, _, .inr (.inr ⟨_, hd1, rfl⟩), ?_⟩
    cases t with
    | nil => exact iteT (q _ hS)
    | cons a l =>
    refine iteF ⟨d, _, hd1, trivial, fun od => ?_⟩
    generalize hT : (a :: l) = t at *
    have q : ∀ H', Same H H' → Q (.bl true) H' := by
      intro H' h
      have := q H' h
      rw [← hT] at this
      exact this
    refine ⟨_, rfl, d, od, rfl, .inl ⟨kvsP t, upd_same, fun D hD => ?_⟩⟩
    obtain ⟨ne, h0, st⟩ := Bls.start hD
    refine wk_any (walk_keys (d := d) (o := od) (kvs := kvsP t)) (fun i H2 => Bls H1 H2 d D (.frz od (.dK (kvsP t))) (List.replicate i true)) st (fun i H2 _ h2 => h2.at_) ?_ ?_
    · rintro i x H2 H3 hi h2 ⟨rfl, k, v, hx, rfl⟩
      have hi2 : i < t.length := by rwa [kvsP_len] at hi
      rw [kvsP_at hi2] at hx
      cases hx
      have sg := hv _ (List.getElem_mem hi2)
      refine ⟨rfl, _, rfl, _, rfl, .inl ⟨t[i].1, rfl, sg_len sg, _, h2.out, ?_, ?_⟩⟩
      · rw [List.length_map, List.length_replicate]
        exact Nat.lt_of_lt_of_le (by omega : i < 4000) (by decide)
      · rw [sg, List.replicate_succ']
        exact h2.push ne h0 true
    · rintro H2 h2
      have ea : (List.replicate (kvsP t).length true).all id = true := List.all_eq_true.mpr fun b hb => (List.mem_replicate.mp hb).2
      refine ⟨h2.at_, D, _, rfl, SqL.of (by rw [upd_ne ne]; exact h2.out), ?_⟩
      rw [ea]
      exact q _ (Same.trans hS (h2.done hd1))
end
end Mk

set_option Elab.async false
set_option linter.all false
set_option maxRecDepth 100000
set_option maxHeartbeats 4000000
namespace Mk
open PySem PySem.Spec L2 PyProof.Rows

theorem rise_up : ∀ {r : List Str} {p : Str}, risingS p r = true → (p :: r).Pairwise (fun a b => byCs a b = true)
  | [], p, _ => List.pairwise_singleton _ _
  | x :: r, p, h => by
    unfold risingS at h
    rw [Bool.and_eq_true, ltCps_eq] at h
    have hp : byCs p x = true := by
      unfold byCs
      have h1 := h.1
      simp only [Bool.not_eq_true', decide_eq_false_iff_not] at h1
      rw [decide_eq_true_iff]
      exact List.not_lt.mp h1
    have ih := rise_up h.2
    refine List.pairwise_cons.mpr ⟨fun y hy => ?_, ih⟩
    rcases List.mem_cons.mp hy with rfl | hy
    · exact hp
    · exact byCs_trans p x y hp ((List.pairwise_cons.mp ih).1 y hy)
theorem sorted_up : ∀ {l : List Str}, sortedS l = true → l.Pairwise (fun a b => byCs a b = true)
  | [], _ => .nil
  | _ :: _, h => rise_up h
theorem sorted_one {xs ys : List Str} (p : xs.Perm ys) (h1 : sortedS xs = true) (h2 : sortedS ys = true) : xs = ys :=
  List.Perm.eq_of_pairwise (fun a b _ _ k1 k2 => byCs_anti a b k1 k2) (sorted_up h1) (sorted_up h2) p
theorem shaped_strsL {zs : List Str} (h : ∀ z ∈ zs, PyData.strOk z = true) : SeqAt.shaped (.list (zs.map PyData.str)) = true := by
  unfold SeqAt.shaped
  simp [PyData.canLay0, PyData.depth, lay_strs zs h, depth_strs]
/-- three tables that agree in their signs -/
structure Agree (t1 t2 : PTab) (t3 : STab) : Prop where
  sg : ∀ p ∈ t1, sgB p.1 = true
  nd : (t1.map (·.1)).Nodup
  l1 : t1.length ≤ 5
  pm : (t2.map (·.1)).Perm (t1.map (·.1))
  l3 : t3.length ≤ 20
  pr : ∀ p ∈ t3, p.1.1 ∈ t1.map (·.1) ∧ p.1.2 ∈ t1.map (·.1) ∧ p.1.1 ≠ p.1.2
theorem Agree.sg2 {t1 t2 : PTab} {t3 : STab} (a : Agree t1 t2 t3) : ∀ p ∈ t2, sgB p.1 = true := fun p hp => by
  obtain ⟨q, hq, e⟩ := List.mem_map.mp (a.pm.mem_iff.mp (List.mem_map.mpr ⟨p, hp, rfl⟩))
  rw [← e]
  exact a.sg q hq
theorem Agree.l2 {t1 t2 : PTab} {t3 : STab} (a : Agree t1 t2 t3) : t2.length ≤ 5 := by
  have := a.pm.length_eq
  rw [List.length_map, List.length_map] at this
  rw [this]
  exact a.l1
/-- they stand in the heap -/
structure Tabs (H : Hp) (p o s : Addr) (t1 t2 : PTab) (t3 : STab) : Prop where
  p : H p = some (.dK (kvsP t1))
  o : H o = some (.dK (kvsP t2))
  s : H s = some (.dT (kvsS t3))
theorem Tabs.same {H H' : Hp} {p o s : Addr} {t1 t2 : PTab} {t3 : STab} (h : Tabs H p o s t1 t2 t3) (k : Same H H') : Tabs H' p o s t1 t2 t3 := ⟨k _ _ h.p, k _ _ h.o, k _ _ h.s⟩
def rightB (t1 t2 : PTab) (t3 : STab) : Bool := okP t1 9 && (!t1.isEmpty && (okP t2 9 && okS t3 18))
def spAreT : Sp := fun vs H Q _ => ∃ (p o s : Addr) (t1 t2 : PTab) (t3 : STab), vs = [.ref p, .ref o, .ref s] ∧ Tabs H p o s t1 t2 t3 ∧ Agree t1 t2 t3 ∧ ∀ H', Same H H' → Q (.bl (rightB t1 t2 t3)) H'
section
variable {P : Program} {w : World} {K : PySem.W.Frag} {mg : Str → Option Value} {base : Heap}
theorem scAreT : FnScope ["put", "out", "swap", "signs", "pair"] ["put", "out", "swap"] (defScope sAreT) := ⟨rfl, rfl, rfl, by decide +kernel, rfl, by decide +kernel, by decide +kernel⟩
theorem ok_areT {f : Addr} {fd : FuncData} (F : Fun K "_are_tables" "_are_tables" sAreT f fd) (O : On mg) (N : Pn mg) (J : Cd P w K mg base 4 "_is_sign_table" ["value"] spIsST) (S : Cd P w K mg base 3 "_has_prices" ["value", "most"] spHasP) (R : Cd P w K mg base 1 "_is_pair" ["value", "signs"] spPair) : FnOk P w K mg base CX0 5 f fd ["put", "out", "swap"] spAreT := by
  obtain ⟨j, dj, G, gm, gk, gb⟩ := J.ex
  obtain ⟨c, dc, Gc, cm, ck, cb⟩ := S.ex
  obtain ⟨e, de, Ge, em, ek, eb⟩ := R.ex
  obtain ⟨tm, hm18⟩ := N.ms
  refine F.ok scAreT (fun vs H Q E h => ?_) (fun cdv A outer s H vs Q E hr h => ?_)
  · obtain ⟨p, o, s, t1, t2, t3, rfl, _⟩ := h
    rfl
  · obtain ⟨p, o, sw, t1, t2, t3, rfl, hT, ag, q⟩ := h
    have hu2 : A.units + 3 + 64 < cLine := by
      have h2 : A.units + 3 + 16 * 4 + 200 < cLine := hr.un
      omega
    refine ⟨_, pss_cons (ps_if (PW.pt (pw_or (pt_not (pt_val (pe_call G hr (by rfl) gm gk gb .nil pass0 (pa_cons (pv 0) pa_nil)))) (pw_or (pt_not (pt_val (pe_call G hr (by rfl) gm gk gb .nil pass0 (pa_cons (pv 1) pa_nil))))
        (pw_or1 (pt_cmpR (op_neD hu2) (pe_callB (call_sortedD rfl) (by rfl) O.sorted (by decide +kernel) (pa_cons (pv 0) pa_nil)) (pe_callB (call_sortedD rfl) (by rfl) O.sorted (by decide +kernel) (pa_cons (pv 1) pa_nil)) (nomark _)))))) (pss_one (ps_ret pe_bl)) pss_nil)
      (pss_cons (ps_if (pt_not (pt_val (pe_call Gc (hr.mono (by decide)) (by rfl) cm ck cb .nil pass0 (pa_cons (pv 2) (pa_cons (pe_glob (v := .int 18) (by rfl) hm18 ⟨_, rfl⟩) pa_nil))))) (pss_one (ps_ret pe_bl)) pss_nil)
      (pss_cons (ps_set (i := 3) scAreT.nd rfl (.inr rfl) (pe_callTy (cr_tupD rfl) (by rfl) O.tuple (by decide +kernel) (pa_cons (pv 0) pa_nil)))
      (pss_one (ps_ret (pe_callB (cr_all rfl) (by rfl) O.all (by decide +kernel) (pa_cons (pe_lock (pe_lc (own := [("pair", 4)]) (g := gName 4) (tt := tYes) rfl scAreT.nd (pi_keys (pv 2)) (blkOk_by (N := ["put", "out", "swap", "signs", "pair"]) (sc := defScope sAreT) (by decide +kernel))
          (fun _ _ _ _ _ => pg_name (i := 4) scAreT.nd rfl (Or.inl rfl)) (fun _ _ _ _ _ => pts_nil) (fun _ _ _ _ _ => pe_call Ge (hr.mono (by decide)) (by rfl) em ek eb .nil pass0 (pa_cons (pv 4) (pa_cons (pv 3) pa_nil))))) pa_nil)))))), ?_⟩
    unfold rightB at q
    refine ⟨_, rfl, p, t1, rfl, hT.p, ag.l1, ag.sg, fun H1 s1 => ⟨_, rfl, ?_⟩⟩
    cases e1 : okP t1 9 with
    | false =>
      rw [e1] at q
      exact iteT (q _ s1)
    | true =>
    rw [e1] at q
    cases e2 : t1.isEmpty with
    | true =>
      rw [e2] at q
      exact iteT (q _ s1)
    | false =>
    rw [e2] at q
    refine iteF ?_
    have hT1 := hT.same s1
    refine ⟨_, rfl, o, t2, rfl, hT1.o, ag.l2, ag.sg2, fun H2 s2 => ⟨_, rfl, ?_⟩⟩
    have s12 := Same.trans s1 s2
    have ne2 : t2.isEmpty = false := by
      have := ag.pm.length_eq
      rw [List.length_map, List.length_map] at this
      cases t2 with
      | nil =>
        cases t1 with
        | nil => cases e2
        | cons a l => simp at this
      | cons a l => rfl
    rw [ne2]
    cases e3 : okP t2 9 with
    | false =>
      rw [e3] at q
      exact iteT (q _ s12)
    | true =>
    rw [e3] at q
    have hT2 := hT.same s12
    refine iteF ⟨_, rfl, p, kvsP t1, t1.map (·.1), rfl, .inl hT2.p, kvsP_keys t1, by rw [List.length_map]; have := ag.l1; omega, fun xs a perm sa ha => ?_⟩
    have hoa : (upd H2 a (.lst (xs.map V.str))) o = some (.dK (kvsP t2)) := (Same.new ha) _ _ hT2.o
    refine ⟨_, rfl, o, kvsP t2, t2.map (·.1), rfl, .inl hoa, kvsP_keys t2, by rw [List.length_map]; have := ag.l2; omega, fun ys b perm2 sb hb => ?_⟩
    obtain rfl : ys = xs := sorted_one ((perm2.trans ag.pm).trans perm.symm) sb sa
    have zo : ∀ y ∈ ys, PyData.strOk y = true := fun y hy => by
      obtain ⟨r, hr1, e⟩ := List.mem_map.mp (perm.mem_iff.mp hy)
      rw [← e]
      exact sg_ok (ag.sg r hr1)
    have nab : a ≠ b := ne_of_none (upd_same : upd H2 a (.lst (ys.map V.str)) a = some _) hb
    refine ⟨.list (ys.map PyData.str), .list (ys.map PyData.str), .lst (SqL.of (by rw [upd_ne nab]; exact upd_same)) (dpAll_str ys), .lst (SqL.of upd_same) (dpAll_str ys), shaped_strsL zo, shaped_strsL zo, _, rfl, ?_⟩
    rw [SeqAt.eqv_refl _ (SeqAt.canLay_of_shaped (shaped_strsL zo))]
    have s3 : Same H (upd (upd H2 a (.lst (ys.map V.str))) b (.lst (ys.map V.str))) := Same.trans (Same.trans s12 (Same.new ha)) (Same.new hb)
    have hT3 := hT.same s3
    refine iteF ⟨_, rfl, sw, 18, t3.map (·.2), rfl, .inr ⟨t3, hT3.s, rfl⟩, by rw [List.length_map]; have := ag.l3; omega, fun H4 s4 => ⟨_, rfl, ?_⟩⟩
    have ea : ((t3.map (·.2)).all fun i => nwB i 1 18) = okS t3 18 := by
      unfold okS
      rw [List.all_map]
      rfl
    rw [ea]
    have s34 := Same.trans s3 s4
    cases e4 : okS t3 18 with
    | false =>
      rw [e4] at q
      exact iteT (q _ s34)
    | true =>
    rw [e4] at q
    have hT4 := hT.same s34
    refine iteF ⟨_, rfl, p, _, rfl, hT4.p, fun t ht => ?_⟩
    have ek : (kvsP t1).map (fun kv => kV kv.1) = (t1.map (·.1)).map V.str := by
      unfold kvsP
      rw [List.map_map, List.map_map]
      rfl
    have eT : upd H4 t (.tup ((kvsP t1).map fun kv => kV kv.1)) = upd H4 t (.tup ((t1.map (·.1)).map V.str)) := by rw [ek]
    rw [eT]
    have s5 : Same H (upd H4 t (.tup ((t1.map (·.1)).map V.str))) := Same.trans s34 (Same.new ht)
    have hT5 := hT.same s5
    have x5 : upd H4 t (.tup ((t1.map (·.1)).map V.str)) t = some (.tup ((t1.map (·.1)).map V.str)) := upd_same
    generalize upd H4 t (.tup ((t1.map (·.1)).map V.str)) = H5 at s5 hT5 x5 ⊢
    refine ⟨sw, _, hT5.s, trivial, fun od => ⟨_, rfl, sw, od, rfl, .inr ⟨kvsS t3, upd_same, fun D hD => ?_⟩⟩⟩
    obtain ⟨ne, h0, st⟩ := Bls.start hD
    have nts : t ≠ sw := fun e => by
      rw [e, hT5.s] at x5
      cases x5
    refine wk_any (walk_keysT (d := sw) (o := od) (kvs := kvsS t3)) (fun i H6 => Bls H5 H6 sw D (.frz od (.dT (kvsS t3))) (List.replicate i true)) st (fun i H6 _ h6 => h6.at_) ?_ ?_
    · rintro i x H6 H7 hi h6 ⟨rfl, k, v, qa, hx, rfl, hq⟩
      have hi2 : i < t3.length := by rwa [kvsS_len] at hi
      rw [kvsS_at hi2] at hx
      cases hx
      have hpr := ag.pr _ (List.getElem_mem hi2)
      refine ⟨rfl, _, rfl, _, rfl, qa, t, t3[i].1.1, t3[i].1.2, t1.map (·.1), rfl, hq, h6.but _ _ nts x5, _, h6.out, ?_, ?_⟩
      · rw [List.length_map, List.length_replicate]
        exact Nat.lt_of_lt_of_le (by have := ag.l3; omega : i < 4000) (by decide)
      · rw [decide_eq_true hpr.1, decide_eq_true hpr.2.1, decide_eq_true hpr.2.2, List.replicate_succ']
        exact h6.push ne h0 true
    · rintro H6 h6
      have ea2 : (List.replicate (kvsS t3).length true).all id = true := List.all_eq_true.mpr fun b hb => (List.mem_replicate.mp hb).2
      refine ⟨h6.at_, D, _, rfl, SqL.of (by rw [upd_ne ne]; exact h6.out), ?_⟩
      rw [ea2]
      exact q _ (Same.trans s5 (h6.done hT5.s))
end
end Mk

set_option Elab.async false
set_option linter.all false
set_option maxRecDepth 100000
set_option maxHeartbeats 4000000
/-! sorted(d) of a dict whose keys are pairs of texts -/
namespace Mk
open PySem PySem.Spec PyProof.Rows L2

abbrev enc2 (k : Str × Str) : PyData := .tuple [.str k.1, .str k.2]
def le2 (a b : Str × Str) : Bool := decide (a.1.cps.toList < b.1.cps.toList) || (decide (a.1 = b.1) && decide (a.2.cps.toList ≤ b.2.cps.toList))
theorem enc2_le : PySem.W.dataLe false enc2 = le2 := by
  funext a b
  show (!PySem.W.dataLt (enc2 b) (enc2 a)) = le2 a b
  unfold enc2 le2
  rw [PySem.W.dataLt_pair (by simp [PySem.W.alike]) (by simp [PySem.W.alike]), PySem.W.dataLt_str, PySem.W.dataLt_str]
  have inj : ∀ {x y : Str}, x.cps.toList = y.cps.toList → x = y := by
    rintro ⟨⟨x⟩⟩ ⟨⟨y⟩⟩ h
    have h : x = y := h
    rw [h]
  by_cases e1 : b.1 = a.1
  · have q1 : PyData.eqv (.str b.1) (.str a.1) = true := by simp [PyData.eqv, e1]
    rw [if_pos q1, e1]
    have n1 : ¬ (a.1.cps.toList < a.1.cps.toList) := List.lt_irrefl _
    rw [decide_eq_false n1]
    by_cases e2 : b.2 = a.2
    · have q2 : PyData.eqv (.str b.2) (.str a.2) = true := by simp [PyData.eqv, e2]
      rw [if_pos q2, e2]
      simp
    · have q2 : ¬ PyData.eqv (.str b.2) (.str a.2) = true := by simp [PyData.eqv, e2]
      rw [if_neg q2]
      rw [Bool.eq_iff_iff]
      simp
  · have q1 : ¬ PyData.eqv (.str b.1) (.str a.1) = true := by simp [PyData.eqv, e1]
    rw [if_neg q1, decide_eq_false (fun h => e1 h.symm : ¬ a.1 = b.1)]
    rw [Bool.eq_iff_iff]
    simp
    constructor
    · intro h
      rcases Classical.em (a.1.cps.toList < b.1.cps.toList) with k | k
      · exact k
      · exact absurd (inj (List.le_antisymm h (List.not_lt.mp k))) (fun e => e1 e.symm)
    · intro h
      exact List.le_of_lt h
/-- the tuples at qs are the pairs ks -/
abbrev Pairs (H : Hp) (qs : List Addr) (ks : List (Str × Str)) : Prop := Paired (fun (q : Addr) (k : Str × Str) => H q = some (.tup [.str k.1, .str k.2])) qs ks
abbrev keyOf (k : Str × Str) : List Key := [Sum.inr k.1, Sum.inr k.2]
def rSortT2 : List V → Hp → VK → Prop := fun vs H Q => ∃ (d : Addr) (kvs : List (List Key × V)) (ks : List (Str × Str)), vs = [.ref d] ∧ Rd H d (.dT kvs) ∧ kvs.map (·.1) = ks.map keyOf ∧ ks.length ≤ 100 ∧
  ∀ (p : Addr) (qs : List Addr), H p = none → Pairs H qs (ks.mergeSort le2) → Q (.ref p) (upd H p (.lst (qs.map V.ref)))
/-- a value that is such a pair -/
def IsPr (H : Hp) (v : Value) (k : Str × Str) : Prop := ∃ q : Addr, v = .ref q ∧ H q = some (.tup [.str k.1, .str k.2])
theorem prs_of {H : Hp} : ∀ {kvs : List (List Key × V)} {xs : List (List Key × Addr × Value)} {ks : List (Str × Str)}, KT H kvs xs → kvs.map (·.1) = ks.map keyOf → PySem.W.EachIs (IsPr H) ((xs.map fun x => x.2.1).map Value.ref) ks
  | _, _, [], .nil, _ => .nil
  | _, _, _ :: _, .nil, h => nomatch h
  | _, _, [], .cons _ _, h => nomatch h
  | p :: kvs, x :: xs, k :: ks, .cons r t, h => by
    rw [List.map_cons, List.map_cons] at h
    injection h with h1 h2
    refine .cons ⟨_, rfl, ?_⟩ (prs_of t h2)
    rw [r.2.1, h1]
    rfl
theorem prs_pairs {H : Hp} : ∀ {out : List Value} {ks : List (Str × Str)}, PySem.W.EachIs (IsPr H) out ks → ∃ qs : List Addr, out = qs.map Value.ref ∧ Pairs H qs ks
  | _, _, .nil => ⟨[], rfl, .nil⟩
  | _, _, .cons ⟨q, e, h⟩ t => by
    obtain ⟨qs, e2, h2⟩ := prs_pairs t
    exact ⟨q :: qs, by rw [e, e2]; rfl, .cons h h2⟩
theorem each_mono2 {α β : Type} {R R' : α → β → Prop} (h : ∀ a b, R a b → R' a b) : ∀ {as : List α} {bs : List β}, PySem.W.EachIs R as bs → PySem.W.EachIs R' as bs
  | _, _, .nil => .nil
  | _, _, .cons r t => .cons (h _ _ r) (each_mono2 h t)
section
variable {X : Cx}
theorem cr_sortT2 (hc : X.calm = true) (hu : X.A.units + 60 < cLine) : CallR X (.builtin "sorted") rSortT2 := by
  intro pins s σ H xs us Q I r h
  obtain ⟨d, kvs, ks, rfl, hd, hks, hl, q⟩ := h
  obtain ⟨u, rfl, rx⟩ := r.one
  cases rx
  obtain ⟨z, hs, es', pr, o, es, ep, ho, hx, hdt, he, hn⟩ := (show ObjOk X.prog X.w H s.heap d (.dT kvs) from hd.ok I.hok)
  have l1 : es.size = es'.length := size_of_entries he
  have l2 : kvs.length = es'.length := Paired.length pr
  have l3 : kvs.length = ks.length := by
    have := congrArg List.length hks
    rwa [List.length_map, List.length_map] at this
  have lim : 100 ≤ sizeLine := by decide
  refine Calls.call_function_entry kind_sorted plain_sorted entry_sorted (args_sorted1 _) ?_
  unfold Builtin.«sorted»
  refine wpAny_bind (m := checkCount "sorted" 1 1 _) (wpAny_pure ?_)
  refine wpAny_bind (PySem.W.kdu_collect (A := X.A.in1) (kdl_raw hs hx hdt) (I.ok.hd hc) ho (by omega) fun h' tk acc kp it => ?_)
  have ea : acc.toList = (es'.map fun x => x.2.1).map Value.ref := by
    have hl : acc.toList.length = es'.length := by rw [Array.length_toList, it.1]; exact l1
    refine List.ext_getElem (by rw [hl, List.length_map, List.length_map]) fun j h1 h2 => ?_
    have hj : j < es'.length := by omega
    obtain ⟨en, hen, hv⟩ := it.2 j acc.toList[j] (by rw [← Array.getElem?_toList]; exact List.getElem?_eq_getElem h1)
    have qe := entry_at he j
    rw [hen, List.getElem?_eq_getElem hj] at qe
    rw [hv, Option.some.inj qe, List.getElem_map, List.getElem_map]
    rfl
  have ev : PySem.W.EachIs (IsPr H) acc.toList ks := by
    rw [ea]
    exact prs_of pr hks
  have lv : acc.toList.length = ks.length := by
    rw [ea, List.length_map, List.length_map]
    omega
  have I1 : Inv X pins σ H { s with heap := h', toks := tk } := I.kept kp
  refine wpAny_bind (wpAny_newList ?_ (by rw [lv]; omega))
  have at0 : (h'.push (seqObj "list" acc.toList.toArray 0)).get? h'.objs.size = some (seqObj "list" acc.toList.toArray 0) := Heap.get?_push_size _ rfl
  have I2 : Inv X pins σ H { s with heap := h'.push (seqObj "list" acc.toList.toArray 0), toks := tk } := I.kept fun b ob e => Heap.get?_push_of_some _ (kp b ob e)
  have rd : ∀ v k, IsPr H v k → ∃ as, Reads (h'.push (seqObj "list" acc.toList.toArray 0)) v (enc2 k) as ∧ h'.objs.size ∉ as := by
    rintro v k ⟨a, rfl, ha⟩
    obtain ⟨its, rv, ⟨ob, e1, e2, n, e3⟩, _⟩ := I2.tuple (SqT.of ha)
    cases rv with
    | cons r1 t1 =>
      obtain ⟨k1, rfl⟩ := r1
      cases t1 with
      | cons r2 t2 =>
        obtain ⟨k2, rfl⟩ := r2
        cases t2
        exact ⟨_, .tuple e1 e2 e3 (.cons (.str _ _) (.cons (.str _ _) .nil)), fun z => nomatch z⟩
  refine wpAny_bind (wpAny_holding (PySem.W.list_sort_data (s := { s with heap := h'.push (seqObj "list" acc.toList.toArray 0), toks := tk }) (enc := enc2) at0 ev (each_mono2 rd ev)
    (PySem.W.AllAlike.of fun _ _ => by simp [PySem.W.alike, PySem.W.alikeAll]) (PySem.W.Sortable.tuples fun k => ⟨_, _, rfl⟩) (by omega) (fun k _ => ?_) fun out lo eo => ?_))
  · show X.A.units + 1 + 1 + (enc2 k).depth < cLine
    have : (enc2 k).depth ≤ 2 := by simp [enc2, PyData.depth, PyData.depthAll]
    omega
  rw [enc2_le] at eo
  obtain ⟨qs, rfl, hq⟩ := prs_pairs eo
  obtain ⟨c, hcc⟩ := sortedHeap_at (vs := acc.toList) (out := (qs.map Value.ref).toArray) at0
  have lq : qs.length = ks.length := by rw [← lo, List.length_map]
  refine wpAny_pure ⟨_, rfl, .ref h'.objs.size, upd H h'.objs.size (.lst (qs.map V.ref)), I1.laid (t' := tk) (o := .lst (qs.map V.ref)) (fun b u e => ?_) (Nat.le_refl _) ⟨by rw [List.length_map]; omega, _, c, vals_refs qs, hcc⟩, rfl, q _ qs (I1.hok.fresh (Nat.le_refl _)) hq⟩
  have lt := Heap.lt_size e
  rw [sortedHeap_old (Nat.ne_of_lt lt) (by rw [size_push']; exact Nat.lt_succ_of_lt lt)]
  exact Heap.get?_push_of_some _ e
end
end Mk

set_option Elab.async false
set_option linter.all false
set_option maxRecDepth 100000
set_option maxHeartbeats 4000000
/-! dict comprehensions, whatever the keys are: told by what a store into the new dict wants -/
namespace Mk
open PySem PySem.Spec PyProof.Rows L2

/-- what a store of z under y into the dict at D wants: the heap behind it is in C -/
abbrev PutK := Addr → V → V → Hp → (Hp → Prop) → Prop
/-- such a store is made by the dict's own step -/
structure PutOk (P : Program) (w : World) (E0 : HO) (Put : PutK) : Prop where
  start : ∀ (H : Hp) (h : Heap), sysModules < h.objs.size → ObjOk P w H (h.push { cls := .type "dict", data := .dict #[] }) h.objs.size E0
  store : ∀ (Y : Cx), Y.prog = P → Y.w = w → Y.calm = true → Y.A.units + 1 < cLine → ∀ (pins : List (Addr × Obj)) (σ : L2.St) (H : Hp) (s : Shared) (D : Addr) (y z : V) (u r : Value) (C : Hp → Prop) (Q : Unit → Shared → Prop) (E : Value → Shared → Prop),
    Inv Y pins σ H s → RelV y u → RelV z r → Put D y z H C → (∀ H' s', C H' → Inv Y pins σ H' s' → Q () s') → wpAny (model P w) Y.A (dictSet D u r) Q E s
/-- one turn of the comprehension behind the walk's step -/
def turnG (Put : PutK) (g : TG) (tt : TT) (tk tv : TE) (vs : List Nat) (σ : L2.St) (D : Addr) (x : V) (H : Hp) (Nx : Hp → Prop) : Prop :=
  g x (wipe σ vs) H fun σ2 H2 => wipe σ2 vs = wipe σ vs ∧ tt σ2 H2 fun b H3 => if b = true then tk σ2 H3 fun y H4 => tv σ2 H4 fun z H5 => Put D y z H5 Nx else Nx H3
def tDcG (E0 : HO) (Put : PutK) (wi : TI) (g : TG) (tt : TT) (tk tv : TE) (vs : List Nat) : TE := fun σ H Q => wi σ H fun J H1 => ∀ D, H1 D = none → ∃ W : Nat → Nat → Hp → Prop, (∃ m, W 0 m (upd H1 D E0)) ∧
  ∀ i m H, W i m H → (J.stop i H ∧ Q (.ref D) H) ∨ (J.go i H ∧ ∃ Nx : Hp → Prop, (∀ H', Nx H' → ∃ m', m' < m ∧ W (i + 1) m' H') ∧ ∀ x H', J.yld i H x H' → turnG Put g tt tk tv vs σ D x H' Nx)
section
variable {X : Cx}
/-- the block's context stands: its own things are its own -/
theorem blk_own {s0 : Shared} {H0 : Hp} {scope : Scope} {ce : Env} {fp : List Addr} {σ : L2.St} {H : Hp} {s : Shared} (I : Inv (X.blk s0 H0 scope ce fp) [] σ H s) (hn : ∀ b ∈ fp, H b = none) : ∀ b ∈ fp, FpOk (X.blk s0 H0 scope ce fp) [] H b := by
  intro b hb
  have ⟨e1, e2⟩ := I.ok.exf b hb
  refine ⟨hn b hb, e1, I.ok.exfs b hb, Or.inl hb, fun x c e => e2 x c e, fun p hp => ?_⟩
  cases hp
/-- one turn, in the block's context -/
theorem turn_blk {E0 : HO} {Put : PutK} (K : PutOk X.prog X.w E0 Put) {kx vx tg : Expr} {ifs : List Expr} {g : TG} {tt : TT} {tk tv : TE} {vs : List Nat} {σ : L2.St} {D : Addr} {s0 : Shared} {H0 : Hp} {scope : Scope} {ce : Env} {fp : List Addr} {tn : Nat → Heap → Prop} {J : It} {it : Addr}
    (cm : X.calm = true) (un : (X.blk s0 H0 scope ce fp).A.units + 1 < cLine) (T : Turn X.prog X.w X.K tg J fp it tn) (pg : PG (X.blk s0 H0 scope ce fp) tg g) (pt : PTs (X.blk s0 H0 scope ce fp) ifs tt) (pk : PE (X.blk s0 H0 scope ce fp) kx tk) (pe : PE (X.blk s0 H0 scope ce fp) vx tv)
    {i : Nat} {s : Shared} {H : Hp} {Nx : Hp → Prop} {Goal : Shared → Prop} {E : Value → Shared → Prop} (I : Inv (X.blk s0 H0 scope ce fp) [] (wipe σ vs) H s) (nf : ∀ b ∈ fp, H b = none) (st : tn (i + 1) s.heap) {x : V} {u : Value} (rx : RelV x u)
    (step : turnG Put g tt tk tv vs σ D x H Nx) (hE : ∀ e s', (X.blk s0 H0 scope ce fp).xe e s' → E e s')
    (fin : ∀ H' s', Nx H' → Inv (X.blk s0 H0 scope ce fp) [] (wipe σ vs) H' s' → tn (i + 1) s'.heap → (∀ b ∈ fp, H' b = none) → Goal s') :
    wpAny (model X.prog X.w) (X.blk s0 H0 scope ce fp).A (assign tg (X.blk s0 H0 scope ce fp).env u) (fun _ s2 => wpAny (model X.prog X.w) (X.blk s0 H0 scope ce fp).A (forIn ifs true fun c r => if r = true then do let ok ← isTrue c (X.blk s0 H0 scope ce fp).env (eval c (X.blk s0 H0 scope ce fp).env); pure (ForInStep.yield ok) else pure (ForInStep.yield r))
      (fun ok s3 => if ok = true then wpAny (model X.prog X.w) (X.blk s0 H0 scope ce fp).A (eval kx (X.blk s0 H0 scope ce fp).env) (fun kv s4 => wpAny (model X.prog X.w) (X.blk s0 H0 scope ce fp).A (eval vx (X.blk s0 H0 scope ce fp).env) (fun vv s5 =>
          wpAny (model X.prog X.w) (X.blk s0 H0 scope ce fp).A (dictSet D kv vv) (fun _ s6 => Goal s6) E s5) E s4) E s3 else Goal s3) E s2) E s := by
  have objs := T.obj _ _ st
  have Ip := I.pinned (blk_own I nf) objs
  -- the walk's own things are held fast while the target is set and the two expressions run
  have back : ∀ {σ8 : L2.St} {H' : Hp} {s' : Shared}, wipe σ8 vs = wipe σ vs → Inv (X.blk s0 H0 scope ce fp) ([] ++ pinsAt fp s.heap) σ8 H' s' → Nx H' → Goal s' := by
    intro σ8 H' s' hw I' nx
    have held : ∀ b ∈ fp, ∀ o, s.heap.get? b = some o → s'.heap.get? b = some o ∧ H' b = none := fun b hb o e => by
      have z := I'.pin (b, o) (List.mem_append_right _ (List.mem_append_right _ (mem_pinsAt hb e)))
      exact ⟨z.1, z.2.1⟩
    refine fin H' s' nx ((I'.unpinned (pins := [])).weak ?_ fun j v e => ?_) (T.keep _ _ _ st fun b hb o e => (held b hb o e).1) fun b hb => ?_
    · rw [← hw, wipe_length]
    · rw [← hw] at e
      exact (wipe_some e).1
    · have ⟨o, e, _⟩ := objs b hb
      exact (held b hb o e).2
  refine wpAny_mono (pg.run _ s _ H x u _ Ip rx step) (fun _ s2 z => ?_) hE
  obtain ⟨σ2, H2, I2, hw, q2⟩ := z
  refine wpAny_mono (pt.run _ s2 σ2 H2 _ I2 q2) (fun ok s3 z => ?_) hE
  obtain ⟨H3, I3, q3⟩ := z
  by_cases c : ok = true
  · rw [if_pos c] at q3 ⊢
    refine wpAny_mono (pk.run _ s3 σ2 H3 _ I3 q3) (fun kv s4 z => ?_) hE
    obtain ⟨y, H4, I4, ry, q4⟩ := z
    refine wpAny_mono (pe.run _ s4 σ2 H4 _ I4 q4) (fun vv s5 z => ?_) hE
    obtain ⟨z, H5, I5, rz, q5⟩ := z
    exact K.store (X.blk s0 H0 scope ce fp) rfl rfl cm un _ σ2 H5 s5 D y z kv vv Nx _ E I5 ry rz q5 fun H6 s6 nx I6 => back hw I6 nx
  · rw [if_neg c] at q3 ⊢
    exact back hw I3 q3
/-- the block's loop -/
theorem loop_blk {E0 : HO} {Put : PutK} (K : PutOk X.prog X.w E0 Put) {kx vx tg iter : Expr} {ifs : List Expr} {scope sc2 : Scope} {pos : Pos} {g : TG} {tt : TT} {tk tv : TE} {vs : List Nat} {σ : L2.St} {D : Addr} {s0 : Shared} {H0 : Hp} {ce : Env} {fp : List Addr} {tn : Nat → Heap → Prop} {J : It} {it : Addr} {Qd : Hp → Prop} {R : Result → Shared → Prop}
    (cm : X.calm = true) (un : (X.blk s0 H0 scope ce fp).A.units + 1 < cLine) (T : Turn X.prog X.w X.K tg J fp it tn) (pg : PG (X.blk s0 H0 scope ce fp) tg g) (pt : PTs (X.blk s0 H0 scope ce fp) ifs tt) (pk : PE (X.blk s0 H0 scope ce fp) kx tk) (pe : PE (X.blk s0 H0 scope ce fp) vx tv)
    {W : Nat → Nat → Hp → Prop} (turn : ∀ i m H, W i m H → (J.stop i H ∧ Qd H) ∨ (J.go i H ∧ ∃ Nx : Hp → Prop, (∀ H', Nx H' → ∃ m', m' < m ∧ W (i + 1) m' H') ∧ ∀ x H', J.yld i H x H' → turnG Put g tt tk tv vs σ D x H' Nx))
    (hE : ∀ e s', (X.blk s0 H0 scope ce fp).xe e s' → notedBy (model X.prog X.w) (X.blk s0 H0 scope ce fp).A (X.blk s0 H0 scope ce fp).env (fun e s' => R (.error e) s') e s')
    (hR : ∀ s' H', Inv (X.blk s0 H0 scope ce fp) [] (wipe σ vs) H' s' → (∀ b ∈ fp, H' b = none) → Qd H' → R (.ok .next) s')
    {m0 : Nat} {s : Shared} {H : Hp} (I : Inv (X.blk s0 H0 scope ce fp) [] (wipe σ vs) H s) (st : tn 0 s.heap) (nf : ∀ b ∈ fp, H b = none) (w0 : W 0 m0 H) :
    codeAny (model X.prog X.w) (X.blk s0 H0 scope ce fp).A (.compLoop (.DictComp kx vx [⟨tg, iter, ifs, 0⟩] sc2 pos) 0 (.ref it) (.ref D) (X.blk s0 H0 scope ce fp).env) R s := by
  refine compLoop_anyD (fun m s' => ∃ i H', Inv (X.blk s0 H0 scope ce fp) [] (wipe σ vs) H' s' ∧ tn i s'.heap ∧ (∀ b ∈ fp, H' b = none) ∧ W i m H') ?_ m0 ⟨0, H, I, st, nf, w0⟩
  rintro m s5 ⟨i, H5, I5, st5, n5, w5⟩
  rcases turn i m H5 w5 with ⟨stop, qd⟩ | ⟨go, Nx, less, step⟩
  · have e := T.done (X.blk s0 H0 scope ce fp) rfl rfl rfl cm i [] s5 _ H5 (fun _ _ => False) I5 (blk_own I5 n5) st5 stop
    refine wpAny_mono e (fun r s6 z => ?_) fun _ _ z => z.elim
    obtain ⟨rfl, I6⟩ := z
    exact hR s6 H5 I6 n5 qd
  · have e := T.item (X.blk s0 H0 scope ce fp) rfl rfl rfl cm i [] s5 _ H5 (fun _ _ => False) I5 (blk_own I5 n5) st5 go
    refine wpAny_mono e (fun r s6 z => ?_) fun _ _ z => z.elim
    obtain ⟨u, rfl, z⟩ := z
    refine wpAny_mono z (fun _ s7 z => ?_) fun _ _ z => z.elim
    obtain ⟨x, H7, I7, rx, y7, st7, n7⟩ := z
    refine turn_blk K cm un T pg pt pk pe I7 n7 st7 rx (step x H7 y7) hE fun H' s' nx I' st' n' => ?_
    obtain ⟨m', lt, w'⟩ := less H' nx
    exact ⟨m', lt, i + 1, H', I', st', n', w'⟩
/-- the whole comprehension, as a value -/
theorem pe_dcG {E0 : HO} {Put : PutK} (K : PutOk X.prog X.w E0 Put) {kx vx tg iter : Expr} {ifs : List Expr} {scope : Scope} {own : List (Str × Nat)} {pos : Pos} {wi : TI} {g : TG} {tt : TT} {tk tv : TE} (cm : X.calm = true) (nd : X.N.Nodup) (un : X.A.units + 20 < cLine) (hi : PI X tg iter wi) (ok : BlkOk X.N X.env.scope scope own)
    (hg : ∀ s H C cl fr, PG (X.blk s H scope (compEnvC scope cl C X.env) fr) tg g) (ht : ∀ s H C cl fr, PTs (X.blk s H scope (compEnvC scope cl C X.env) fr) ifs tt) (hk : ∀ s H C cl fr, PE (X.blk s H scope (compEnvC scope cl C X.env) fr) kx tk) (hv : ∀ s H C cl fr, PE (X.blk s H scope (compEnvC scope cl C X.env) fr) vx tv)
    (fs : ∀ x, foldedSetIterable iter X.env x = pure x := by intro _; rfl) : PE X (.DictComp kx vx [⟨tg, iter, ifs, 0⟩] scope pos) (tDcG E0 Put wi g tt tk tv (own.map (·.2))) := by
  refine ⟨fun pins s σ H Q I h => ?_⟩
  rw [arm_eval_DictComp]
  have cl : ∀ y ∈ scope.names, y.2 = .free → ∃ c, X.env.cells.lookup y.1 = some c := fun y hy e => I.ok.has _ ((ok.free y hy e).elim .inl .inr)
  refine wpAny_comprehension_free rfl fs (closure_ok cl) ok.kind (fun y hy e => by rw [ok.uniq y hy, e]) (thn (hi.run pins s σ H _ I h) fun xv s1 z1 => thn z1 fun itv s2 z2 => ?_)
  obtain ⟨it, fp, tn, J, H2, rfl, I2, T, st2, f2, q⟩ := z2
  refine wpAny_newObj_type (newEnv_comp ?_)
  obtain ⟨W, ⟨m0, w0⟩, turn⟩ := q s2.heap.objs.size (I2.hok.fresh (Nat.le_refl _))
  have I3 : Inv X pins σ (upd H2 s2.heap.objs.size E0) { s2 with heap := s2.heap.push { cls := .type "dict", data := .dict #[] } } :=
    I2.laid (t' := s2.toks) (fun b o e => Heap.get?_push_of_some _ e) (Nat.le_refl _) (K.start _ _ I2.big)
  have old : ∀ b ∈ fp, b < s2.heap.objs.size := fun b hb => have ⟨_, e, _⟩ := T.obj _ _ st2 b hb; Heap.lt_size e
  have f3 : ∀ b ∈ fp, FpOk X pins (upd H2 s2.heap.objs.size E0) b ∧ b < (s2.heap.push { cls := .type "dict", data := .dict #[] }).objs.size := fun b hb =>
    ⟨⟨by rw [upd_ne (Nat.ne_of_lt (old b hb))]; exact (f2 b hb).1, (f2 b hb).2⟩, by rw [Heap.size_push]; exact Nat.lt_succ_of_lt (old b hb)⟩
  have I4 := block_start I3 ok nd f3
  have nfp : ∀ b ∈ fp, upd H2 s2.heap.objs.size E0 b = none := fun b hb => (f3 b hb).1.1
  have st4 := T.keep 0 _ (pushCells ((s2.heap.push { cls := .type "dict", data := .dict #[] }).push { cls := .type "dict", data := .dict #[] }) scope.names) st2 fun b _ o e => pushCells_keeps _ _ _ _ (Heap.get?_push_of_some _ (Heap.get?_push_of_some _ e))
  have pg := hg { s2 with heap := s2.heap.push { cls := .type "dict", data := .dict #[] } } (upd H2 s2.heap.objs.size E0) (s2.heap.push { cls := .type "dict", data := .dict #[] }).objs.size (cellsFrom ((s2.heap.push { cls := .type "dict", data := .dict #[] }).objs.size + 1) scope.names (cloFrom X.env.cells scope.names [])) fp
  have pt := ht { s2 with heap := s2.heap.push { cls := .type "dict", data := .dict #[] } } (upd H2 s2.heap.objs.size E0) (s2.heap.push { cls := .type "dict", data := .dict #[] }).objs.size (cellsFrom ((s2.heap.push { cls := .type "dict", data := .dict #[] }).objs.size + 1) scope.names (cloFrom X.env.cells scope.names [])) fp
  have pk := hk { s2 with heap := s2.heap.push { cls := .type "dict", data := .dict #[] } } (upd H2 s2.heap.objs.size E0) (s2.heap.push { cls := .type "dict", data := .dict #[] }).objs.size (cellsFrom ((s2.heap.push { cls := .type "dict", data := .dict #[] }).objs.size + 1) scope.names (cloFrom X.env.cells scope.names [])) fp
  have pw := hv { s2 with heap := s2.heap.push { cls := .type "dict", data := .dict #[] } } (upd H2 s2.heap.objs.size E0) (s2.heap.push { cls := .type "dict", data := .dict #[] }).objs.size (cellsFrom ((s2.heap.push { cls := .type "dict", data := .dict #[] }).objs.size + 1) scope.names (cloFrom X.env.cells scope.names [])) fp
  have loop := loop_blk (kx := kx) (vx := vx) (iter := iter) (sc2 := scope) (pos := pos) (R := compPost (model X.prog X.w) X.A X.xe none (EP X pins σ Q) (.ref s2.heap.objs.size) (s2.heap.push { cls := .type "dict", data := .dict #[] }).objs.size)
    K cm (by show X.A.units + 1 < cLine; omega) T pg pt pk pw turn (fun _ _ z => False.elim z) (fun s6 H6 I6 n6 qd => ?_) I4 st4 nfp w0
  · exact codeAny_compStart_dict loop (T.self X.A 0 _ _ _ st4 loop)
  · have I7 : Inv X pins σ H6 s6 := I3.call' (ch := fp) I6.os I6.base I6.hok I6.bare fun b hb => by
      have ⟨_, e2, e3, e4, e5, e6⟩ := (f3 b hb).1
      exact ⟨e4, e2, e5, e6⟩
    obtain ⟨m, hn, _⟩ := I6.loc
    have nC : H6 (s2.heap.push { cls := .type "dict", data := .dict #[] }).objs.size = none := I6.free
    obtain ⟨e0, e1, e2, e3, e4, e5⟩ := I3.fpOk (Nat.le_refl _) nC
    exact ⟨m, hn, fun h'' sb => ⟨.ref s2.heap.objs.size, H6, I7.turned (t' := s6.toks) (fun b o hb e => (sb.2 b hb).trans e) e0 e1 e3 e4 e5, rfl, qd⟩⟩
end
/-- keys that are tuples of ints and texts -/
def putT : PutK := fun D y z H C => ∃ (kvs : List (List Key × V)) (k : List Key) (b : Addr), y = .ref b ∧ H b = some (.tup (k.map kV)) ∧ H D = some (.dT kvs) ∧ kvs.length < sizeLine ∧ C (upd H D (.dT (L2.putK kvs k z)))
/-- keys that are ints and texts -/
def putP : PutK := fun D y z H C => ∃ (kvs : List (Key × V)) (k : Key), y = kV k ∧ H D = some (.dK kvs) ∧ kvs.length < sizeLine ∧ C (upd H D (.dK (L2.putK kvs k z)))
theorem putP_ok {P : Program} {w : World} : PutOk P w (.dK []) putP where
  start := fun H h big => dk_empty h big
  store := by
    intro Y hP hw cm hu pins σ H s D y z u r C Q E I ry rz st fin
    subst hP hw
    obtain ⟨kvs, k, rfl, hD, hl, hC⟩ := st
    exact d_dictSet I hD hl ry rz fun s' J => fin _ s' hC J
theorem putT_ok {P : Program} {w : World} : PutOk P w (.dT []) putT where
  start := fun H h big => dt_empty h big
  store := by
    intro Y hP hw cm hu pins σ H s D y z u r C Q E I ry rz st fin
    subst hP hw
    obtain ⟨kvs, k, b, rfl, hb, hD, hl, hC⟩ := st
    obtain rfl : u = Value.ref b := ry
    have ⟨lo, hs, xs, rel, dd⟩ := dt_of I.hok hD
    have lx : xs.length ≤ sizeLine := by rw [← Paired.length rel]; exact lo
    have ln : (L2.putK kvs k z).length ≤ sizeLine := Nat.le_trans (length_putK kvs k z) hl
    refine wpAny_dictSet_heap (hsz := lx) (show (tupleKind (mixKind Y.prog Y.w)).room Y.A from Nat.lt_of_succ_lt hu) (key_of I.hok hb) dd fun h' dd' ext => fin _ _ hC ?_
    have ⟨o, es, ep, ho, h2, h3, h4, _, h5⟩ := dd'
    have rel2 := (rel.put k hb rz).keeps (H' := upd H D (.dT (L2.putK kvs k z))) fun c ys ec => by
      have ne : c ≠ D := fun e => by
        rw [e, hD] at ec
        cases ec
      rw [upd_ne ne]
      exact ec
    exact d_write I (by rw [hD]; exact True.intro) ext ⟨o, ho⟩ ⟨ln, hs, _, rel2, o, es, ep, ho, h2, h3, h4, h5⟩
end Mk

set_option Elab.async false
set_option linter.all false
set_option maxRecDepth 100000
set_option maxHeartbeats 4000000
namespace Mk
open PySem PySem.Spec L2 PyProof.Rows

abbrev sAsc : Stmt := top 16
/-! ### a table in another order -/
section
variable {α : Type} [DecidableEq α]
def look (t : List (α × Int)) (k : α) : Int := ((t.find? fun p => decide (p.1 = k)).map (·.2)).getD 0
theorem look_mem : ∀ {t : List (α × Int)}, (t.map (·.1)).Nodup → ∀ p ∈ t, look t p.1 = p.2
  | [], _, _, h => nomatch h
  | a :: t, nd, p, h => by
    rw [List.map_cons, List.nodup_cons] at nd
    unfold look
    by_cases e : a.1 = p.1
    · rw [List.find?_cons_of_pos (by simpa using e)]
      rcases List.mem_cons.mp h with rfl | m
      · rfl
      · exact absurd (List.mem_map.mpr ⟨p, m, e.symm⟩) nd.1
    · rw [List.find?_cons_of_neg (by simpa using e)]
      rcases List.mem_cons.mp h with rfl | m
      · exact absurd rfl e
      · exact look_mem nd.2 p m
def put (t : List (α × Int)) (ys : List α) : List (α × Int) := ys.map fun k => (k, look t k)
theorem put_perm {t : List (α × Int)} (nd : (t.map (·.1)).Nodup) {ys : List α} (p : ys.Perm (t.map (·.1))) : (put t ys).Perm t := by
  have e : (t.map (·.1)).map (fun k => (k, look t k)) = t := by
    rw [List.map_map]
    conv => rhs; rw [← List.map_id t]
    exact List.map_congr_left fun q hq => by
      show (q.1, look t q.1) = q
      rw [look_mem nd q hq]
  have := p.map fun k => (k, look t k)
  rw [e] at this
  exact this
theorem put_keys (t : List (α × Int)) (ys : List α) : (put t ys).map (·.1) = ys := by
  unfold put
  rw [List.map_map]
  conv => rhs; rw [← List.map_id ys]
  rfl
end
theorem valP {t : PTab} {k : Str} (h : k ∈ t.map (·.1)) : valV (kvsP t) (Sum.inr k) = some (V.int (look t k)) := by
  induction t with
  | nil => exact nomatch h
  | cons a t ih =>
    unfold look
    by_cases e : a.1 = k
    · rw [List.find?_cons_of_pos (by simpa using e)]
      exact valV_pos (by show (Sum.inr a.1 : Key) = Sum.inr k; rw [e])
    · rw [List.find?_cons_of_neg (by simpa using e)]
      have ne : ¬ (Sum.inr a.1 : Key) = Sum.inr k := fun q => e (Sum.inr.inj q)
      refine (valV_neg ne).trans (ih ?_)
      rcases List.mem_cons.mp (by rw [List.map_cons] at h; exact h) with q | q
      · exact absurd q.symm e
      · exact q
theorem noP {t : PTab} {k : Str} (h : k ∉ t.map (·.1)) : valV (kvsP t) (Sum.inr k) = none := by
  induction t with
  | nil => rfl
  | cons a t ih =>
    rw [List.map_cons, List.mem_cons, not_or] at h
    have ne : ¬ (Sum.inr a.1 : Key) = Sum.inr k := fun q => h.1 (Sum.inr.inj q).symm
    exact (valV_neg ne).trans (ih h.2)
theorem key_inj {a b : Str × Str} (h : keyOf a = keyOf b) : a = b := by
  obtain ⟨a1, a2⟩ := a
  obtain ⟨b1, b2⟩ := b
  injection h with h1 h2
  injection h2 with h2 _
  have e1 : a1 = b1 := Sum.inr.inj h1
  have e2 : a2 = b2 := Sum.inr.inj h2
  rw [e1, e2]
theorem valS {t : STab} {k : Str × Str} (h : k ∈ t.map (·.1)) : valV (kvsS t) (keyOf k) = some (V.int (look t k)) := by
  induction t with
  | nil => exact nomatch h
  | cons a t ih =>
    unfold look
    by_cases e : a.1 = k
    · rw [List.find?_cons_of_pos (by simpa using e)]
      exact valV_pos (by show keyOf a.1 = keyOf k; rw [e])
    · rw [List.find?_cons_of_neg (by simpa using e)]
      have ne : ¬ keyOf a.1 = keyOf k := fun q => e (key_inj q)
      refine (valV_neg ne).trans (ih ?_)
      rcases List.mem_cons.mp (by rw [List.map_cons] at h; exact h) with q | q
      · exact absurd q.symm e
      · exact q
theorem noS {t : STab} {k : Str × Str} (h : k ∉ t.map (·.1)) : valV (kvsS t) (keyOf k) = none := by
  induction t with
  | nil => rfl
  | cons a t ih =>
    rw [List.map_cons, List.mem_cons, not_or] at h
    have ne : ¬ keyOf a.1 = keyOf k := fun q => h.1 (key_inj q).symm
    exact (valV_neg ne).trans (ih h.2)
theorem putP_new {t : PTab} {k : Str} {n : Int} (h : k ∉ t.map (·.1)) : L2.putK (kvsP t) (Sum.inr k) (V.int n) = kvsP (t ++ [(k, n)]) := by
  rw [putK_new _ (noP h)]
  simp [kvsP]
theorem putS_new {t : STab} {k : Str × Str} {n : Int} (h : k ∉ t.map (·.1)) : L2.putK (kvsS t) (keyOf k) (V.int n) = kvsS (t ++ [(k, n)]) := by
  rw [putK_new _ (noS h)]
  simp [kvsS]
theorem take_put {α : Type} [DecidableEq α] (t : List (α × Int)) {ys : List α} {i : Nat} (h : i < ys.length) : put t (ys.take (i + 1)) = put t (ys.take i) ++ [(ys[i], look t ys[i])] := by
  unfold put
  rw [List.take_add_one, List.getElem?_eq_getElem h, List.map_append]
  rfl
theorem not_before {α : Type} {ys : List α} (nd : ys.Nodup) {i : Nat} (h : i < ys.length) : ys[i] ∉ ys.take i := fun m => by
  obtain ⟨j, hj, e⟩ := List.getElem_of_mem m
  rw [List.length_take] at hj
  rw [List.getElem_take] at e
  have := (List.getElem_inj nd).mp e
  omega
theorem le2_total (a b : Str × Str) : (le2 a b || le2 b a) = true := by
  unfold le2
  simp only [Bool.or_eq_true, Bool.and_eq_true, decide_eq_true_eq]
  by_cases e : a.1 = b.1
  · rcases List.le_total a.2.cps.toList b.2.cps.toList with h | h
    · exact .inl (.inr ⟨e, h⟩)
    · exact .inr (.inr ⟨e.symm, h⟩)
  · rcases Classical.em (a.1.cps.toList < b.1.cps.toList) with h | h
    · exact .inl (.inl h)
    · rcases Classical.em (b.1.cps.toList < a.1.cps.toList) with k | k
      · exact .inr (.inl k)
      · exact absurd (cs_inj (List.le_antisymm (List.not_lt.mp k) (List.not_lt.mp h))) e
theorem le2_trans (a b c : Str × Str) (h1 : le2 a b = true) (h2 : le2 b c = true) : le2 a c = true := by
  unfold le2 at *
  simp only [Bool.or_eq_true, Bool.and_eq_true, decide_eq_true_eq] at *
  rcases h1 with h1 | ⟨e1, h1⟩
  · rcases h2 with h2 | ⟨e2, h2⟩
    · exact .inl (List.lt_trans h1 h2)
    · rw [← e2]
      exact .inl h1
  · rcases h2 with h2 | ⟨e2, h2⟩
    · rw [e1]
      exact .inl h2
    · exact .inr ⟨e1.trans e2, List.le_trans h1 h2⟩
theorem le2_anti (a b : Str × Str) (h1 : le2 a b = true) (h2 : le2 b a = true) : a = b := by
  unfold le2 at *
  simp only [Bool.or_eq_true, Bool.and_eq_true, decide_eq_true_eq] at *
  obtain ⟨a1, a2⟩ := a
  obtain ⟨b1, b2⟩ := b
  have stop : ∀ {x y : Str}, x.cps.toList < y.cps.toList → y.cps.toList < x.cps.toList → False := fun h k => List.lt_asymm h k
  rcases h1 with h1 | ⟨e1, h1⟩
  · rcases h2 with h2 | ⟨e2, h2⟩
    · exact (stop h1 h2).elim
    · have e2 : b1 = a1 := e2
      have h1 : a1.cps.toList < b1.cps.toList := h1
      rw [e2] at h1
      exact (List.lt_irrefl _ h1).elim
  · have e1 : a1 = b1 := e1
    subst e1
    rcases h2 with h2 | ⟨_, h2⟩
    · exact (List.lt_irrefl _ h2).elim
    · have : a2 = b2 := cs_inj (List.le_antisymm h1 h2)
      rw [this]
def spAsc : Sp := fun vs H Q _ => ∃ d : Addr, vs = [.ref d] ∧
  ((∃ t : PTab, H d = some (.dK (kvsP t)) ∧ (t.map (·.1)).Nodup ∧ t.length ≤ 60 ∧ ∀ H' D (t' : PTab), Same H H' → H D = none → H' D = some (.dK (kvsP t')) → t'.Perm t → (t'.map (·.1)).Pairwise (fun a b => byCs a b = true) → Q (.ref D) H') ∨
   ∃ t : STab, H d = some (.dT (kvsS t)) ∧ (t.map (·.1)).Nodup ∧ t.length ≤ 60 ∧ ∀ H' D (t' : STab), Same H H' → H D = none → H' D = some (.dT (kvsS t')) → t'.Perm t → (t'.map (·.1)).Pairwise (fun a b => le2 a b = true) → Q (.ref D) H')
section
variable {P : Program} {w : World} {K : PySem.W.Frag} {mg : Str → Option Value} {base : Heap}
theorem scAsc : FnScope ["table", "key"] ["table"] (defScope sAsc) := ⟨rfl, rfl, rfl, by decide +kernel, rfl, by decide +kernel, by decide +kernel⟩
theorem ok_asc {f : Addr} {fd : FuncData} (F : Fun K "ascending_dict" "ascending_dict" sAsc f fd) (O : On mg) : FnOk P w K mg base CX0 1 f fd ["table"] spAsc := by
  refine F.ok scAsc (fun vs H Q E h => ?_) (fun cdv A outer s H vs Q E hr h => ?_)
  · obtain ⟨d, rfl, _⟩ := h
    rfl
  · have hu := hu_of hr
    have h3 : A.units + 3 + 60 < cLine := by
      have h2 : A.units + 3 + 16 * 0 + 200 < cLine := hr.un
      omega
    obtain ⟨d, rfl, ⟨t, hd, nd, hl, q⟩ | ⟨t, hd, nd, hl, q⟩⟩ := h
    · refine ⟨_, pss_one (ps_ret (pe_dcG putP_ok (own := [("key", 1)]) (g := gName 1) (tt := tYes) rfl scAsc.nd (by show A.units + 3 + 20 < cLine; omega) (pi_list (pe_callB (call_sortedD rfl) (by rfl) O.sorted (by decide +kernel) (pa_cons (pv 0) pa_nil))) (blkOk_by (N := ["table", "key"]) (sc := defScope sAsc) (by decide +kernel))
        (fun _ _ _ _ _ => pg_name (i := 1) scAsc.nd rfl (Or.inl rfl)) (fun _ _ _ _ _ => pts_nil) (fun _ _ _ _ _ => pv 1) (fun _ _ _ _ _ => pe_dget hu (pv 0) (pv 1) (fun _ _ => rfl)))), ?_⟩
      refine ⟨_, rfl, d, kvsP t, t.map (·.1), rfl, .inl hd, kvsP_keys t, by rw [List.length_map]; omega, fun ys p perm so hp => ?_⟩
      have ndy : ys.Nodup := perm.nodup_iff.mpr nd
      have ly : ys.length ≤ 60 := by rw [perm.length_eq, List.length_map]; exact hl
      refine ⟨p, rfl, ⟨_, SqL.of upd_same⟩, fun D hD => ?_⟩
      have ne : D ≠ p := fun e => by rw [e, upd_same] at hD; cases hD
      have hD0 : H D = none := by rwa [upd_ne ne] at hD
      refine wk_any (walk_list (K := K) (a := p) (xs := ys.map V.str)) (fun i H1 => Same H H1 ∧ H1 p = some (.lst (ys.map V.str)) ∧ H1 D = some (.dK (kvsP (put t (ys.take i))))) ?_ (fun i H1 _ h1 => SqL.of h1.2.1) ?_ ?_
      · refine ⟨Same.trans (Same.new hp) (Same.new hD), ?_, upd_same⟩
        rw [upd_ne ne.symm]
        exact upd_same
      · rintro i x H1 H2 hi ⟨hS, hP, hDc⟩ ⟨rfl, hx⟩
        rw [List.length_map] at hi
        have ex : x = V.str ys[i] := by
          rw [List.getElem?_map, List.getElem?_eq_getElem hi] at hx
          exact (Option.some.inj hx).symm
        subst ex
        have mk : ys[i] ∈ t.map (·.1) := perm.mem_iff.mp (List.getElem_mem hi)
        have nin : ys[i] ∉ (put t (ys.take i)).map (·.1) := by
          rw [put_keys]
          exact not_before ndy hi
        refine ⟨rfl, _, rfl, _, rfl, _, rfl, d, V.int (look t ys[i]), rfl, .inl ⟨kvsP t, Sum.inr ys[i], .inl (hS _ _ hd), rfl, (valP mk).symm⟩, _, Sum.inr ys[i], rfl, hDc, ?_, ?_⟩
        · rw [kvsP_len]
          unfold put
          rw [List.length_map, List.length_take]
          exact Nat.lt_of_lt_of_le (by omega : min i ys.length < 4000) (by decide)
        · refine ⟨Same.upN hS hD0, ?_, ?_⟩
          · rw [upd_ne ne.symm]
            exact hP
          · rw [upd_same, putP_new nin, take_put t hi]
      · rintro H1 ⟨hS, hP, hDc⟩
        rw [List.length_map, List.take_length] at hDc
        exact q _ _ _ hS hD0 hDc (put_perm nd perm) (by rw [put_keys]; exact sorted_up so)
    · refine ⟨_, pss_one (ps_ret (pe_dcG putT_ok (own := [("key", 1)]) (g := gName 1) (tt := tYes) rfl scAsc.nd (by show A.units + 3 + 20 < cLine; omega) (pi_list (pe_callB (cr_sortT2 rfl h3) (by rfl) O.sorted (by decide +kernel) (pa_cons (pv 0) pa_nil))) (blkOk_by (N := ["table", "key"]) (sc := defScope sAsc) (by decide +kernel))
        (fun _ _ _ _ _ => pg_name (i := 1) scAsc.nd rfl (Or.inl rfl)) (fun _ _ _ _ _ => pts_nil) (fun _ _ _ _ _ => pv 1) (fun _ _ _ _ _ => pe_dget hu (pv 0) (pv 1) (fun _ _ => rfl)))), ?_⟩
      have hks : (kvsS t).map (·.1) = (t.map (·.1)).map keyOf := by
        unfold kvsS
        rw [List.map_map, List.map_map]
        rfl
      refine ⟨_, rfl, d, kvsS t, t.map (·.1), rfl, .inl hd, hks, by rw [List.length_map]; omega, fun p qs hp hq => ?_⟩
      have perm := List.mergeSort_perm (t.map (·.1)) le2
      have srt : ((t.map (·.1)).mergeSort le2).Pairwise (fun a b => le2 a b = true) := List.pairwise_mergeSort le2_trans le2_total _
      generalize (t.map (·.1)).mergeSort le2 = ys at hq perm srt
      have ndy : ys.Nodup := perm.nodup_iff.mpr nd
      have ly : ys.length ≤ 60 := by rw [perm.length_eq, List.length_map]; exact hl
      have lq : qs.length = ys.length := Paired.length hq
      refine ⟨p, rfl, ⟨_, SqL.of upd_same⟩, fun D hD => ?_⟩
      have ne : D ≠ p := fun e => by rw [e, upd_same] at hD; cases hD
      have hD0 : H D = none := by rwa [upd_ne ne] at hD
      refine wk_any (walk_list (K := K) (a := p) (xs := qs.map V.ref)) (fun i H1 => Same H H1 ∧ H1 p = some (.lst (qs.map V.ref)) ∧ H1 D = some (.dT (kvsS (put t (ys.take i))))) ?_ (fun i H1 _ h1 => SqL.of h1.2.1) ?_ ?_
      · refine ⟨Same.trans (Same.new hp) (Same.new hD), ?_, upd_same⟩
        rw [upd_ne ne.symm]
        exact upd_same
      · rintro i x H1 H2 hi ⟨hS, hP, hDc⟩ ⟨rfl, hx⟩
        rw [List.length_map] at hi
        have hi2 : i < ys.length := by omega
        have ex : x = V.ref qs[i] := by
          rw [List.getElem?_map, List.getElem?_eq_getElem hi] at hx
          exact (Option.some.inj hx).symm
        subst ex
        obtain ⟨k, hk, eq⟩ := paired_get hq (List.getElem?_eq_getElem hi)
        have ek : k = ys[i] := Option.some.inj (hk.symm.trans (List.getElem?_eq_getElem hi2))
        subst ek
        have mk : ys[i] ∈ t.map (·.1) := perm.mem_iff.mp (List.getElem_mem hi2)
        have nin : ys[i] ∉ (put t (ys.take i)).map (·.1) := by
          rw [put_keys]
          exact not_before ndy hi2
        have eq1 := hS _ _ eq
        refine ⟨rfl, _, rfl, _, rfl, _, rfl, d, V.int (look t ys[i]), rfl, .inr ⟨kvsS t, keyOf ys[i], qs[i], .inl (hS _ _ hd), rfl, eq1, (valS mk).symm⟩, _, keyOf ys[i], qs[i], rfl, eq1, hDc, ?_, ?_⟩
        · rw [kvsS_len]
          unfold put
          rw [List.length_map, List.length_take]
          exact Nat.lt_of_lt_of_le (by omega : min i ys.length < 4000) (by decide)
        · refine ⟨Same.upN hS hD0, ?_, ?_⟩
          · rw [upd_ne ne.symm]
            exact hP
          · rw [upd_same, putS_new nin, take_put t hi2]
      · rintro H1 ⟨hS, hP, hDc⟩
        rw [List.length_map, lq, List.take_length] at hDc
        exact q _ _ _ hS hD0 hDc (put_perm nd perm) (by rw [put_keys]; exact srt)
end
end Mk

set_option Elab.async false
set_option linter.all false
set_option maxRecDepth 100000
set_option maxHeartbeats 1000000
/-! machines: which states can be reached, which reach a last one -/
namespace Mk
open PySem L2

/-- for each state its moves, and whether it is a last one -/
abbrev Mch := List (PTab × Bool)
def mvs (m : Mch) (i : Int) : PTab := (m.getD i.toNat ([], false)).1
def lst? (m : Mch) (i : Int) : Bool := (m.getD i.toNat ([], false)).2
def keysM (t : PTab) : List Str := (t.map (·.1)).mergeSort byCs
structure WF (m : Mch) : Prop where
  nd : ∀ q ∈ m, (q.1.map (·.1)).Nodup
  sg : ∀ q ∈ m, ∀ p ∈ q.1, sgB p.1 = true
  to : ∀ q ∈ m, ∀ p ∈ q.1, 0 ≤ p.2 ∧ p.2 < m.length
inductive Rch (m : Mch) : Int → Int → Prop
  | refl (i : Int) : Rch m i i
  | step {i j k : Int} {s : Str} : Rch m i j → (s, k) ∈ mvs m j → Rch m i k
theorem Rch.trans {m : Mch} {i j k : Int} (a : Rch m i j) (b : Rch m j k) : Rch m i k := by
  induction b with
  | refl => exact a
  | step _ h ih => exact .step ih h
theorem Rch.head {m : Mch} {i j k : Int} {s : Str} (h : (s, j) ∈ mvs m i) (b : Rch m j k) : Rch m i k := Rch.trans (.step (.refl i) h) b
/-! ### lists without repetition -/
section
variable {α : Type} [DecidableEq α]
theorem nd_len : ∀ {l k : List α}, l.Nodup → (∀ x ∈ l, x ∈ k) → l.length ≤ k.length
  | [], _, _, _ => Nat.zero_le _
  | a :: l, k, nd, h => by
    rw [List.nodup_cons] at nd
    have ha := h a List.mem_cons_self
    have ih := nd_len (l := l) (k := k.erase a) nd.2 fun x hx => by
      have hn : x ≠ a := fun e => nd.1 (e ▸ hx)
      exact (List.mem_erase_of_ne hn).mpr (h x (List.mem_cons_of_mem _ hx))
    rw [List.length_erase_of_mem ha] at ih
    have : 0 < k.length := List.length_pos_of_mem ha
    rw [List.length_cons]
    omega
end
def ups (n : Nat) : List Int := (List.range n).map fun i : Nat => (i : Int)
theorem ups_mem {n : Nat} {i : Int} : i ∈ ups n ↔ 0 ≤ i ∧ i < n := by
  unfold ups
  rw [List.mem_map]
  refine ⟨fun ⟨j, hj, e⟩ => ?_, fun h => ⟨i.toNat, ?_, by omega⟩⟩
  · rw [List.mem_range] at hj
    omega
  · rw [List.mem_range]
    omega
theorem nd_map {α β : Type} {f : α → β} (hf : ∀ a b, f a = f b → a = b) : ∀ {l : List α}, l.Nodup → (l.map f).Nodup
  | [], _ => List.nodup_nil
  | a :: l, h => by
    rw [List.nodup_cons] at h
    rw [List.map_cons, List.nodup_cons]
    refine ⟨fun m => ?_, nd_map hf h.2⟩
    obtain ⟨b, hb, e⟩ := List.mem_map.mp m
    exact h.1 (hf _ _ e ▸ hb)
theorem ups_nd (n : Nat) : (ups n).Nodup := nd_map (fun a b h => by omega) List.nodup_range
theorem ups_len (n : Nat) : (ups n).length = n := by
  unfold ups
  rw [List.length_map, List.length_range]
theorem in_len {l : List Int} {n : Nat} (nd : l.Nodup) (h : ∀ x ∈ l, 0 ≤ x ∧ x < n) : l.length ≤ n := by
  have := nd_len (k := ups n) nd fun x hx => ups_mem.mpr (h x hx)
  rwa [ups_len] at this
theorem nd_snoc {α : Type} {l : List α} {a : α} (nd : l.Nodup) (h : a ∉ l) : (l ++ [a]).Nodup :=
  List.nodup_append.mpr ⟨nd, List.nodup_cons.mpr ⟨List.not_mem_nil, List.nodup_nil⟩, fun x hx y hy e => h (by rw [List.mem_singleton.mp hy] at e; exact e ▸ hx)⟩
/-! ### the walk from a state -/
abbrev Fnd := List (Int × Str)
def addF (t : PTab) (w : Str) (f : Fnd) (s : Str) : Fnd := if look t s ∈ f.map (·.1) then f else f ++ [(look t s, w ++ s)]
def bfs (m : Mch) : Nat → Nat → Fnd → Fnd
  | 0, _, f => f
  | n + 1, k, f => match f[k]? with
    | none => f
    | some p => bfs m n (k + 1) ((keysM (mvs m p.1)).foldl (addF (mvs m p.1) p.2) f)
def firstW (m : Mch) (i : Int) : Fnd := bfs m m.length 0 [(i, ("" : Str))]
structure FOk (m : Mch) (f : Fnd) : Prop where
  nd : (f.map (·.1)).Nodup
  rg : ∀ p ∈ f, 0 ≤ p.1 ∧ p.1 < m.length
  le : ∀ p ∈ f, p.2.length < f.length
theorem FOk.len {m : Mch} {f : Fnd} (h : FOk m f) : f.length ≤ m.length := by
  have := in_len (l := f.map (·.1)) (n := m.length) h.nd fun x hx => by
    obtain ⟨p, hp, rfl⟩ := List.mem_map.mp hx
    exact h.rg p hp
  rwa [List.length_map] at this
theorem keysM_perm (t : PTab) : (keysM t).Perm (t.map (·.1)) := List.mergeSort_perm _ _
theorem keysM_mem {t : PTab} {s : Str} : s ∈ keysM t ↔ s ∈ t.map (·.1) := (keysM_perm t).mem_iff
theorem mvs_mem {m : Mch} {i : Int} {p : Str × Int} (h : p ∈ mvs m i) : ∃ q ∈ m, q.1 = mvs m i ∧ p ∈ q.1 := by
  unfold mvs at *
  rw [List.getD_eq_getElem?_getD] at *
  cases e : m[i.toNat]? with
  | none => rw [e] at h; cases h
  | some q =>
    rw [e] at h
    exact ⟨q, List.mem_of_getElem? e, rfl, h⟩
theorem mvs_nd {m : Mch} (w : WF m) (i : Int) : ((mvs m i).map (·.1)).Nodup := by
  unfold mvs
  rw [List.getD_eq_getElem?_getD]
  cases e : m[i.toNat]? with
  | none => exact List.nodup_nil
  | some q => exact w.nd q (List.mem_of_getElem? e)
theorem look_in {t : PTab} (nd : (t.map (·.1)).Nodup) {s : Str} (h : s ∈ t.map (·.1)) : (s, look t s) ∈ t := by
  obtain ⟨p, hp, rfl⟩ := List.mem_map.mp h
  rw [look_mem nd p hp]
  exact hp
theorem look_rg {m : Mch} (w : WF m) {i : Int} {s : Str} (h : s ∈ (mvs m i).map (·.1)) : 0 ≤ look (mvs m i) s ∧ look (mvs m i) s < m.length := by
  have := look_in (mvs_nd w i) h
  obtain ⟨q, hq, _, hp⟩ := mvs_mem this
  exact w.to q hq _ hp
theorem key_sg {m : Mch} (w : WF m) {i : Int} {s : Str} (h : s ∈ (mvs m i).map (·.1)) : sgB s = true := by
  have := look_in (mvs_nd w i) h
  obtain ⟨q, hq, _, hp⟩ := mvs_mem this
  exact w.sg q hq _ hp
theorem addF_pre (t : PTab) (w : Str) (f : Fnd) (s : Str) : ∃ r, addF t w f s = f ++ r := by
  unfold addF
  split
  · exact ⟨[], (List.append_nil _).symm⟩
  · exact ⟨_, rfl⟩
theorem addF_in (t : PTab) (w : Str) (f : Fnd) (s : Str) : look t s ∈ (addF t w f s).map (·.1) := by
  unfold addF
  split
  · assumption
  · rw [List.map_append]
    exact List.mem_append_right _ List.mem_cons_self
theorem addF_ok {m : Mch} {t : PTab} {w : Str} {f : Fnd} {s : Str} (h : FOk m f) (hs : s.length = 1) (hw : w.length < f.length) (ht : 0 ≤ look t s ∧ look t s < m.length) : FOk m (addF t w f s) := by
  unfold addF
  split
  · exact h
  · rename_i hn
    refine ⟨?_, fun p hp => ?_, fun p hp => ?_⟩
    · rw [List.map_append]
      exact nd_snoc h.nd hn
    · rcases List.mem_append.mp hp with hp | hp
      · exact h.rg p hp
      · rw [List.mem_singleton.mp hp]
        exact ht
    · rw [List.length_append, List.length_singleton]
      rcases List.mem_append.mp hp with hp | hp
      · exact Nat.lt_succ_of_lt (h.le p hp)
      · rw [List.mem_singleton.mp hp]
        show (w ++ s).length < _
        have : (w ++ s).length = w.length + s.length := by
          show (w.cps ++ s.cps).size = _
          rw [Array.size_append]
          rfl
        omega
theorem one_of {s : Str} (h : sgB s = true) : s.length = 1 := by
  unfold sgB at h
  simp only [Bool.and_eq_true, decide_eq_true_eq] at h
  exact h.1
/-- some of the signs of a state have been looked at -/
theorem foldF_ok {m : Mch} {t : PTab} {w : Str} : ∀ {ks : List Str} {f : Fnd}, FOk m f → (∀ s ∈ ks, s.length = 1 ∧ 0 ≤ look t s ∧ look t s < m.length) → w.length < f.length → FOk m (ks.foldl (addF t w) f) ∧ (∃ r, ks.foldl (addF t w) f = f ++ r) ∧ ∀ s ∈ ks, look t s ∈ (ks.foldl (addF t w) f).map (·.1)
  | [], f, h, _, _ => ⟨h, ⟨[], (List.append_nil _).symm⟩, fun _ z => nomatch z⟩
  | s :: ks, f, h, hk, hw => by
    obtain ⟨h1, h2, h3⟩ := hk s List.mem_cons_self
    have a := addF_ok (w := w) h h1 hw ⟨h2, h3⟩
    obtain ⟨r, er⟩ := addF_pre t w f s
    obtain ⟨b, ⟨r2, e2⟩, c⟩ := foldF_ok (w := w) (ks := ks) a (fun x hx => hk x (List.mem_cons_of_mem _ hx)) (by rw [er, List.length_append]; omega)
    rw [List.foldl_cons]
    refine ⟨b, ⟨r ++ r2, by rw [e2, er, List.append_assoc]⟩, fun x hx => ?_⟩
    rcases List.mem_cons.mp hx with rfl | hx
    · rw [e2, List.map_append]
      exact List.mem_append_left _ (addF_in t w f x)
    · exact c x hx
/-- the places below k are looked at -/
def Clo (m : Mch) (k : Nat) (f : Fnd) : Prop := ∀ (i : Nat) (p : Int × Str), i < k → f[i]? = some p → ∀ q ∈ mvs m p.1, q.2 ∈ f.map (·.1)
theorem bfs_ok {m : Mch} (w : WF m) : ∀ (n k : Nat) (f : Fnd), FOk m f → k ≤ f.length → m.length ≤ n + k → Clo m k f → FOk m (bfs m n k f) ∧ Clo m (bfs m n k f).length (bfs m n k f) ∧ ∃ r, bfs m n k f = f ++ r
  | 0, k, f, h, hk, hn, hc => by
    have := h.len
    have e : k = f.length := by omega
    exact ⟨h, e ▸ hc, [], (List.append_nil _).symm⟩
  | n + 1, k, f, h, hk, hn, hc => by
    unfold bfs
    cases e : f[k]? with
    | none =>
      have : f.length ≤ k := List.getElem?_eq_none_iff.mp e
      have e2 : k = f.length := by omega
      exact ⟨h, e2 ▸ hc, [], (List.append_nil _).symm⟩
    | some p =>
      have hp := List.mem_of_getElem? e
      have kl := (List.getElem?_eq_some_iff.mp e).1
      obtain ⟨a, ⟨r, er⟩, c⟩ := foldF_ok (t := mvs m p.1) (w := p.2) (ks := keysM (mvs m p.1)) h (fun s hs => by
        have hs := keysM_mem.mp hs
        exact ⟨one_of (key_sg w hs), look_rg w hs⟩) (h.le p hp)
      obtain ⟨b1, b2, r2, e2⟩ := bfs_ok w n (k + 1) _ a (by rw [er, List.length_append]; omega) (by omega) (fun i q hi hq x hx => by
        by_cases hik : i < k
        · rw [er, List.getElem?_append_left (by omega)] at hq
          rw [er, List.map_append]
          exact List.mem_append_left _ (hc i q hik hq x hx)
        · have hik : i = k := by omega
          subst hik
          rw [er, List.getElem?_append_left kl, e] at hq
          cases hq
          have := c x.1 (keysM_mem.mpr (List.mem_map.mpr ⟨x, hx, rfl⟩))
          rwa [look_mem (mvs_nd w p.1) x hx] at this)
      refine ⟨b1, b2, r ++ r2, ?_⟩
      show bfs m n (k + 1) _ = _
      rw [e2, er, List.append_assoc]
theorem clo_rch {m : Mch} {f : Fnd} (h : Clo m f.length f) {i j : Int} (r : Rch m i j) : i ∈ f.map (·.1) → j ∈ f.map (·.1) := by
  induction r with
  | refl => exact id
  | step _ hs ih =>
    intro hi
    obtain ⟨p, hp, e⟩ := List.mem_map.mp (ih hi)
    obtain ⟨n, hn, en⟩ := List.getElem_of_mem hp
    exact h n p hn (by rw [List.getElem?_eq_getElem hn, en]) _ (by rw [e]; exact hs)
theorem start_ok {m : Mch} {i : Int} (hi : 0 ≤ i ∧ i < m.length) : FOk m [(i, ("" : Str))] := ⟨List.nodup_cons.mpr ⟨List.not_mem_nil, List.nodup_nil⟩, fun p hp => by rw [List.mem_singleton.mp hp]; exact hi, fun p hp => by
  rw [List.mem_singleton.mp hp]
  exact (by decide : ("" : Str).length < 1)⟩
theorem first_ok {m : Mch} (w : WF m) {i : Int} (hi : 0 ≤ i ∧ i < m.length) : FOk m (firstW m i) ∧ ∀ j, Rch m i j → j ∈ (firstW m i).map (·.1) := by
  have := bfs_ok w m.length 0 [(i, ("" : Str))] (start_ok hi) (Nat.zero_le _) (by omega) (fun n p hn => absurd hn (Nat.not_lt_zero _))
  obtain ⟨a, b, r, e⟩ := this
  refine ⟨a, fun j hj => clo_rch b hj ?_⟩
  show i ∈ (bfs m m.length 0 [(i, ("" : Str))]).map (·.1)
  rw [e]
  exact List.mem_cons_self
/-! ### the states that reach a last one -/
def lasts (m : Mch) (k : Nat) : List Int := ((List.range k).filter fun i : Nat => lst? m (i : Nat)).map fun i : Nat => (i : Int)
abbrev Near := List (List Int)
def addN (t : PTab) (k : Nat) (nr : Near) (s : Str) : Near := nr.set (look t s).toNat (nr.getD (look t s).toNat [] ++ [(k : Int)])
def nearK (m : Mch) : Nat → Near
  | 0 => List.replicate m.length []
  | k + 1 => ((mvs m (k : Nat)).map (·.1)).foldl (addN (mvs m (k : Nat)) k) (nearK m k)
def addE (f : List Int) (s : Int) : List Int := if s ∈ f then f else f ++ [s]
def bfsE (nr : Near) : Nat → Nat → List Int → List Int
  | 0, _, f => f
  | n + 1, k, f => match f[k]? with
    | none => f
    | some h => bfsE nr n (k + 1) ((nr.getD h.toNat []).foldl addE f)
def endM (m : Mch) : List Int := bfsE (nearK m m.length) m.length 0 (lasts m m.length)
structure EOk (n : Nat) (f : List Int) : Prop where
  nd : f.Nodup
  rg : ∀ x ∈ f, 0 ≤ x ∧ x < n
theorem EOk.len {n : Nat} {f : List Int} (h : EOk n f) : f.length ≤ n := in_len h.nd h.rg
def NOk (n : Nat) (nr : Near) : Prop := nr.length = n ∧ ∀ l ∈ nr, ∀ x ∈ l, 0 ≤ x ∧ x < n
theorem addN_ok {n k : Nat} {t : PTab} {nr : Near} {s : Str} (h : NOk n nr) (hk : k < n) : NOk n (addN t k nr s) := by
  refine ⟨by unfold addN; rw [List.length_set]; exact h.1, fun l hl x hx => ?_⟩
  unfold addN at hl
  rcases List.mem_or_eq_of_mem_set hl with hl | rfl
  · exact h.2 l hl x hx
  · rcases List.mem_append.mp hx with hx | hx
    · rw [List.getD_eq_getElem?_getD] at hx
      cases e : nr[(look t s).toNat]? with
      | none => rw [e] at hx; cases hx
      | some y =>
        rw [e] at hx
        exact h.2 y (List.mem_of_getElem? e) x hx
    · rw [List.mem_singleton.mp hx]
      omega
theorem addN_in {n k : Nat} {t : PTab} {nr : Near} {s : Str} (h : NOk n nr) (ht : 0 ≤ look t s ∧ look t s < n) : (k : Int) ∈ (addN t k nr s).getD (look t s).toNat [] := by
  unfold addN
  rw [List.getD_eq_getElem?_getD, List.getElem?_set_self (by rw [h.1]; omega)]
  exact List.mem_append_right _ List.mem_cons_self
theorem addN_mono {k : Nat} {t : PTab} {nr : Near} {s : Str} {j : Nat} {x : Int} (hx : x ∈ nr.getD j []) : x ∈ (addN t k nr s).getD j [] := by
  unfold addN
  by_cases e : (look t s).toNat = j
  · subst e
    rw [List.getD_eq_getElem?_getD] at hx
    have l : (look t s).toNat < nr.length := by
      cases q : nr[(look t s).toNat]? with
      | none => rw [q] at hx; cases hx
      | some _ => exact (List.getElem?_eq_some_iff.mp q).1
    rw [List.getD_eq_getElem?_getD, List.getElem?_set_self l, List.getD_eq_getElem?_getD]
    exact List.mem_append_left _ hx
  · rw [List.getD_eq_getElem?_getD, List.getElem?_set_ne e, ← List.getD_eq_getElem?_getD]
    exact hx
theorem foldN_ok {n k : Nat} {t : PTab} (hk : k < n) : ∀ {ks : List Str} {nr : Near}, NOk n nr → (∀ s ∈ ks, 0 ≤ look t s ∧ look t s < n) → NOk n (ks.foldl (addN t k) nr) ∧ (∀ j x, x ∈ nr.getD j [] → x ∈ (ks.foldl (addN t k) nr).getD j []) ∧ ∀ s ∈ ks, (k : Int) ∈ (ks.foldl (addN t k) nr).getD (look t s).toNat []
  | [], nr, h, _ => ⟨h, fun _ _ z => z, fun _ z => nomatch z⟩
  | s :: ks, nr, h, hs => by
    obtain ⟨a, b, c⟩ := foldN_ok hk (ks := ks) (addN_ok (t := t) (s := s) h hk) (fun x hx => hs x (List.mem_cons_of_mem _ hx))
    rw [List.foldl_cons]
    refine ⟨a, fun j x hx => b j x (addN_mono hx), fun x hx => ?_⟩
    rcases List.mem_cons.mp hx with rfl | hx
    · exact b _ _ (addN_in h (hs x List.mem_cons_self))
    · exact c x hx
theorem near_ok {m : Mch} (w : WF m) : ∀ k, k ≤ m.length → NOk m.length (nearK m k) ∧ ∀ i : Nat, i < k → ∀ p ∈ mvs m (i : Nat), (i : Int) ∈ (nearK m k).getD p.2.toNat []
  | 0, _ => ⟨⟨List.length_replicate, fun l hl x hx => by rw [List.eq_of_mem_replicate hl] at hx; cases hx⟩, fun i hi => absurd hi (Nat.not_lt_zero _)⟩
  | k + 1, hk => by
    obtain ⟨a, b⟩ := near_ok w k (by omega)
    obtain ⟨c, d, e⟩ := foldN_ok (t := mvs m (k : Nat)) (k := k) (n := m.length) (by omega) (ks := (mvs m (k : Nat)).map (·.1)) a fun s hs => look_rg w hs
    refine ⟨c, fun i hi p hp => ?_⟩
    by_cases h : i < k
    · exact d _ _ (b i h p hp)
    · have h : i = k := by omega
      subst h
      have := e p.1 (List.mem_map.mpr ⟨p, hp, rfl⟩)
      rwa [look_mem (mvs_nd w _) p hp] at this
theorem foldE_ok {n : Nat} : ∀ {l f : List Int}, EOk n f → (∀ x ∈ l, 0 ≤ x ∧ x < n) → EOk n (l.foldl addE f) ∧ (∃ r, l.foldl addE f = f ++ r) ∧ ∀ x ∈ l, x ∈ l.foldl addE f
  | [], f, h, _ => ⟨h, ⟨[], (List.append_nil _).symm⟩, fun _ z => nomatch z⟩
  | s :: l, f, h, hl => by
    have a : EOk n (addE f s) ∧ (∃ r, addE f s = f ++ r) ∧ s ∈ addE f s := by
      unfold addE
      split
      · exact ⟨h, ⟨[], (List.append_nil _).symm⟩, by assumption⟩
      · rename_i hn
        refine ⟨⟨nd_snoc h.nd hn, fun x hx => ?_⟩, ⟨_, rfl⟩, List.mem_append_right _ List.mem_cons_self⟩
        rcases List.mem_append.mp hx with hx | hx
        · exact h.rg x hx
        · rw [List.mem_singleton.mp hx]
          exact hl s List.mem_cons_self
    obtain ⟨a1, ⟨r, er⟩, a3⟩ := a
    obtain ⟨b1, ⟨r2, e2⟩, b3⟩ := foldE_ok (l := l) a1 fun x hx => hl x (List.mem_cons_of_mem _ hx)
    rw [List.foldl_cons]
    refine ⟨b1, ⟨r ++ r2, by rw [e2, er, List.append_assoc]⟩, fun x hx => ?_⟩
    rcases List.mem_cons.mp hx with rfl | hx
    · rw [e2]
      exact List.mem_append_left _ a3
    · exact b3 x hx
theorem near_rg {n : Nat} {nr : Near} (h : NOk n nr) (j : Nat) : ∀ x ∈ nr.getD j [], 0 ≤ x ∧ x < n := fun x hx => by
  rw [List.getD_eq_getElem?_getD] at hx
  cases e : nr[j]? with
  | none => rw [e] at hx; cases hx
  | some y =>
    rw [e] at hx
    exact h.2 y (List.mem_of_getElem? e) x hx
def CloE (nr : Near) (k : Nat) (f : List Int) : Prop := ∀ (i : Nat) (p : Int), i < k → f[i]? = some p → ∀ x ∈ nr.getD p.toNat [], x ∈ f
theorem bfsE_ok {N : Nat} {nr : Near} (hn : NOk N nr) : ∀ (n k : Nat) (f : List Int), EOk N f → k ≤ f.length → N ≤ n + k → CloE nr k f → EOk N (bfsE nr n k f) ∧ CloE nr (bfsE nr n k f).length (bfsE nr n k f) ∧ ∃ r, bfsE nr n k f = f ++ r
  | 0, k, f, h, hk, hl, hc => by
    have := h.len
    have e : k = f.length := by omega
    exact ⟨h, e ▸ hc, [], (List.append_nil _).symm⟩
  | n + 1, k, f, h, hk, hl, hc => by
    unfold bfsE
    cases e : f[k]? with
    | none =>
      have : f.length ≤ k := List.getElem?_eq_none_iff.mp e
      have e2 : k = f.length := by omega
      exact ⟨h, e2 ▸ hc, [], (List.append_nil _).symm⟩
    | some p =>
      have kl := (List.getElem?_eq_some_iff.mp e).1
      obtain ⟨a, ⟨r, er⟩, c⟩ := foldE_ok (l := nr.getD p.toNat []) h (near_rg hn _)
      obtain ⟨b1, b2, r2, e2⟩ := bfsE_ok hn n (k + 1) _ a (by rw [er, List.length_append]; omega) (by omega) (fun i q hi hq x hx => by
        by_cases hik : i < k
        · rw [er, List.getElem?_append_left (by omega)] at hq
          rw [er]
          exact List.mem_append_left _ (hc i q hik hq x hx)
        · have hik : i = k := by omega
          subst hik
          rw [er, List.getElem?_append_left kl, e] at hq
          cases hq
          exact c x hx)
      refine ⟨b1, b2, r ++ r2, ?_⟩
      show bfsE nr n (k + 1) _ = _
      rw [e2, er, List.append_assoc]
theorem lasts_mem {m : Mch} {i : Int} : i ∈ lasts m m.length ↔ 0 ≤ i ∧ i < m.length ∧ lst? m i = true := by
  unfold lasts
  rw [List.mem_map]
  refine ⟨fun ⟨j, hj, e⟩ => ?_, fun h => ⟨i.toNat, List.mem_filter.mpr ⟨List.mem_range.mpr (by omega), ?_⟩, by omega⟩⟩
  · rw [List.mem_filter, List.mem_range] at hj
    subst e
    exact ⟨by omega, by omega, hj.2⟩
  · show lst? m ((i.toNat : Nat) : Int) = true
    rw [show ((i.toNat : Nat) : Int) = i from by omega]
    exact h.2.2
theorem lasts_ok (m : Mch) : EOk m.length (lasts m m.length) := ⟨nd_map (fun a b h => by omega) (List.Nodup.sublist List.filter_sublist List.nodup_range), fun x hx => by
  have := lasts_mem.mp hx
  exact ⟨this.1, this.2.1⟩⟩
theorem rch_rg {m : Mch} (w : WF m) {i j : Int} (r : Rch m i j) (h : 0 ≤ i ∧ i < m.length) : 0 ≤ j ∧ j < m.length := by
  cases r with
  | refl => exact h
  | step _ hs =>
    obtain ⟨q, hq, _, hp⟩ := mvs_mem hs
    exact w.to q hq _ hp
theorem rch_end {m : Mch} (w : WF m) {f : List Int} (hc : CloE (nearK m m.length) f.length f) {i j : Int} (r : Rch m i j) : 0 ≤ i ∧ i < m.length → j ∈ f → i ∈ f := by
  induction r with
  | refl => exact fun _ h => h
  | @step j k s r hs ih =>
    intro hi hk
    have hj := rch_rg w r hi
    refine ih hi ?_
    obtain ⟨n, hn, en⟩ := List.getElem_of_mem hk
    have b := (near_ok w m.length (Nat.le_refl _)).2 j.toNat (by omega) (s, k) (by rw [show ((j.toNat : Nat) : Int) = j from by omega]; exact hs)
    rw [show ((j.toNat : Nat) : Int) = j from by omega] at b
    exact hc n k hn (by rw [List.getElem?_eq_getElem hn, en]) _ b
theorem end_ok {m : Mch} (w : WF m) : EOk m.length (endM m) ∧ ∀ i j : Int, 0 ≤ i ∧ i < m.length → Rch m i j → lst? m j = true → i ∈ endM m := by
  obtain ⟨a, b, r, e⟩ := bfsE_ok (near_ok w m.length (Nat.le_refl _)).1 m.length 0 (lasts m m.length) (lasts_ok m) (Nat.zero_le _) (by omega) (fun n p hn => absurd hn (Nat.not_lt_zero _))
  refine ⟨a, fun i j hi hr hl => rch_end w b hr hi ?_⟩
  have hj := rch_rg w hr hi
  rw [e]
  exact List.mem_append_left _ (lasts_mem.mpr ⟨hj.1, hj.2, hl⟩)
def useful (m : Mch) : List Int := ((firstW m 0).map (·.1)).filter fun i => decide (i ∈ endM m)
/-- every state is reached, and reaches a last one -/
structure GoodM (m : Mch) : Prop where
  wf : WF m
  ne : 1 ≤ m.length
  rc : ∀ i : Int, 0 ≤ i ∧ i < m.length → Rch m 0 i ∧ ∃ j, Rch m i j ∧ lst? m j = true
theorem useful_len {m : Mch} (g : GoodM m) : (useful m).length = m.length := by
  have h0 : (0 : Int) ≤ 0 ∧ (0 : Int) < m.length := ⟨by omega, by have := g.ne; omega⟩
  obtain ⟨a, b⟩ := first_ok g.wf h0
  obtain ⟨c, d⟩ := end_ok g.wf
  have e : useful m = (firstW m 0).map (·.1) := by
    unfold useful
    refine List.filter_eq_self.mpr fun i hi => decide_eq_true ?_
    obtain ⟨p, hp, rfl⟩ := List.mem_map.mp hi
    obtain ⟨_, j, hj, hl⟩ := g.rc _ (a.rg p hp)
    exact d _ j (a.rg p hp) hj hl
  rw [e]
  have l1 := a.len
  have l2 := nd_len (l := ups m.length) (k := (firstW m 0).map (·.1)) (ups_nd _) fun i hi => b i (g.rc i (ups_mem.mp hi)).1
  rw [ups_len] at l2
  rw [List.length_map] at *
  omega
end Mk

set_option Elab.async false
set_option linter.all false
/-! the cost between two words by rows, as the least price of their alignments (words stand here with their last sign first) -/
namespace Mk
section
variable {α : Type} {e : α} {c d : α → α → Int}
/-- the number in the corner -/
def crn (e : α) (c : α → α → Int) : List α → List α → Int
  | [], [] => 0
  | [], b :: v => crn e c [] v + c e b
  | a :: u, [] => crn e c u [] + c a e
  | a :: u, b :: v => min (min (crn e c u (b :: v) + c a e) (crn e c (a :: u) v + c e b)) (crn e c u v + c a b)
termination_by u v => u.length + v.length
inductive Aln (e : α) (c : α → α → Int) : List α → List α → Int → Prop
  | nil : Aln e c [] [] 0
  | put {u v : List α} {b : α} {n : Int} : Aln e c u v n → Aln e c u (b :: v) (n + c e b)
  | out {u v : List α} {a : α} {n : Int} : Aln e c u v n → Aln e c (a :: u) v (n + c a e)
  | sub {u v : List α} {a b : α} {n : Int} : Aln e c u v n → Aln e c (a :: u) (b :: v) (n + c a b)
theorem crn_aln : ∀ (u v : List α), Aln e c u v (crn e c u v)
  | [], [] => by
    rw [crn]
    exact .nil
  | [], b :: v => by
    rw [crn]
    exact .put (crn_aln [] v)
  | a :: u, [] => by
    rw [crn]
    exact .out (crn_aln u [])
  | a :: u, b :: v => by
    rw [crn]
    have h1 := Aln.out (a := a) (crn_aln u (b :: v))
    have h2 := Aln.put (b := b) (crn_aln (a :: u) v)
    have h3 := Aln.sub (a := a) (b := b) (crn_aln u v)
    by_cases k : crn e c u (b :: v) + c a e ≤ crn e c (a :: u) v + c e b
    · rw [Int.min_eq_left k]
      by_cases m : crn e c u (b :: v) + c a e ≤ crn e c u v + c a b
      · rw [Int.min_eq_left m]
        exact h1
      · rw [Int.min_eq_right (by omega)]
        exact h3
    · rw [Int.min_eq_right (by omega : crn e c (a :: u) v + c e b ≤ crn e c u (b :: v) + c a e)]
      by_cases m : crn e c (a :: u) v + c e b ≤ crn e c u v + c a b
      · rw [Int.min_eq_left m]
        exact h2
      · rw [Int.min_eq_right (by omega)]
        exact h3
termination_by u v => u.length + v.length
theorem Aln.ge {u v : List α} {n : Int} (h : Aln e c u v n) : crn e c u v ≤ n := by
  induction h with
  | nil =>
    rw [crn]
    exact Int.le_refl _
  | @put u v b n _ ih =>
    cases u with
    | nil =>
      rw [crn]
      omega
    | cons a u =>
      rw [crn]
      have := Int.min_le_left (min (crn e c u (b :: v) + c a e) (crn e c (a :: u) v + c e b)) (crn e c u v + c a b)
      have := Int.min_le_right (crn e c u (b :: v) + c a e) (crn e c (a :: u) v + c e b)
      omega
  | @out u v a n _ ih =>
    cases v with
    | nil =>
      rw [crn]
      omega
    | cons b v =>
      rw [crn]
      have := Int.min_le_left (min (crn e c u (b :: v) + c a e) (crn e c (a :: u) v + c e b)) (crn e c u v + c a b)
      have := Int.min_le_left (crn e c u (b :: v) + c a e) (crn e c (a :: u) v + c e b)
      omega
  | @sub u v a b n _ ih =>
    rw [crn]
    have := Int.min_le_right (min (crn e c u (b :: v) + c a e) (crn e c (a :: u) v + c e b)) (crn e c u v + c a b)
    omega
theorem Aln.pos {P : α → Prop} (nn : ∀ x y, P x → P y → 0 ≤ c x y) (em : P e) {u v : List α} {n : Int} (h : Aln e c u v n) : (∀ x ∈ u, P x) → (∀ x ∈ v, P x) → 0 ≤ n := by
  induction h with
  | nil => exact fun _ _ => Int.le_refl _
  | @put u v b n _ ih =>
    intro hu hv
    have := ih hu fun x hx => hv x (List.mem_cons_of_mem _ hx)
    have := nn e b em (hv b List.mem_cons_self)
    omega
  | @out u v a n _ ih =>
    intro hu hv
    have := ih (fun x hx => hu x (List.mem_cons_of_mem _ hx)) hv
    have := nn a e (hu a List.mem_cons_self) em
    omega
  | @sub u v a b n _ ih =>
    intro hu hv
    have := ih (fun x hx => hu x (List.mem_cons_of_mem _ hx)) fun x hx => hv x (List.mem_cons_of_mem _ hx)
    have := nn a b (hu a List.mem_cons_self) (hv b List.mem_cons_self)
    omega
/-! first what makes a word shorter, then what makes it longer -/
end
end Mk

set_option Elab.async false
set_option linter.all false
set_option maxRecDepth 100000
set_option maxHeartbeats 1000000
/-! enumerate of a text; the least of three numbers -/
namespace Mk
open PySem PySem.Spec PyProof.Rows L2

/-- each sign of the text with its place, in a new pair -/
def Ites (x : Str) : It := ⟨fun i _ => i < x.cps.size, fun i H v H' => ∃ T c, v = .ref T ∧ H T = none ∧ H' = upd H T (.tup [.int (i : Nat), .str ⟨#[c]⟩]) ∧ x.cps[i]? = some c, fun i _ => x.cps.size ≤ i⟩
theorem draws_text {prog : Program} {w : World} {A : Around} (hh : A.handled = none) (it : Addr) (x : Str) (t : Tok) {ty : String} (hty : ty = "str_ascii_iterator" ∨ ty = "str_iterator") :
    Draws prog w A it [it] x.cps.size (fun i v => ∃ c u, x.cps[i]? = some c ∧ v = .str ⟨#[c]⟩ u) (fun i h => h.IsStrIter it ty x t i) := by
  rcases hty with rfl | rfl
  · exact Draws.strAscii hh it x t
  · exact Draws.strWide hh it x t
theorem iter_type (x : Str) : strIterType x = "str_ascii_iterator" ∨ strIterType x = "str_iterator" := by
  unfold strIterType
  split
  · exact .inl rfl
  · exact .inr rfl
theorem turn_enumS {P : Program} {w : World} {K : PySem.W.Frag} {elts : List Expr} {kk : Nat} {tpos : Pos} (e it : Addr) (x : Str) (t : Tok) {ty : String} (hty : ty = "str_ascii_iterator" ∨ ty = "str_iterator") :
    Turn P w K (.Tuple elts kk tpos) (Ites x) [e, it] e (fun i h => (∃ old, IsEnum h e it ((i : Nat) : Int) old) ∧ h.IsStrIter it ty x t i ∧ e ≠ it ∧ i ≤ x.cps.size) where
  mem := by simp
  obj := fun i h st b hb => by
    obtain ⟨⟨old, he⟩, ⟨o, ho, hc, hd⟩, _⟩ := st
    have e' : b = e ∨ b = it := by simpa using hb
    rcases e' with z | z
    · rw [z]
      exact ⟨_, he, fun v q => nomatch q⟩
    · rw [z]
      exact ⟨o, ho, fun v q => by rw [hd] at q; cases q⟩
  keep := fun i h h' st k => by
    obtain ⟨⟨old, he⟩, ⟨o, ho, r⟩, hne⟩ := st
    exact ⟨⟨old, k e (by simp) _ he⟩, ⟨o, k it (by simp) o ho, r⟩, hne⟩
  item := by
    intro X hP hw hK hc i pins s σ H E I hf st hg
    subst hP hw hK
    obtain ⟨⟨old, he⟩, hit, hne, hle⟩ := st
    have hel : e < s.heap.objs.size := Heap.lt_size he
    have hil : it < s.heap.objs.size := by obtain ⟨_, q, _⟩ := hit; exact Heap.lt_size q
    refine wpAny_pyNext_enum_itemD (draws_text (A := X.A.in1) (I.ok.hd hc) it x t hty) he hit hg hne (by simpa using hne) fun v h' tk hP ho hit' hT hsz hk => ?_
    obtain ⟨c, u, hcx, rfl⟩ := hP
    refine ⟨_, rfl, wpAny_letOwnedTupleGo_enum (s := { s with heap := h', toks := tk + 1 }) ho fun h'' he' sb => ?_⟩
    have hT2 : h''.get? s.heap.objs.size = some { cls := .type "tuple", data := .seq #[.int i tk, .str ⟨#[c]⟩ u] } := (sb.2 _ (Nat.ne_of_gt hel)).trans hT
    have new : ObjOk X.prog X.w (upd H s.heap.objs.size (.tup [.int (i : Nat), .str ⟨#[c]⟩])) h'' s.heap.objs.size (.tup [.int (i : Nat), .str ⟨#[c]⟩]) :=
      ⟨by show 2 ≤ sizeLine; decide, [.int i tk, .str ⟨#[c]⟩ u], .cons ⟨_, rfl⟩ (.cons ⟨_, rfl⟩ .nil), ⟨_, hT2, rfl, _, rfl⟩⟩
    have I1 : Inv X pins σ (upd H s.heap.objs.size (.tup [.int (i : Nat), .str ⟨#[c]⟩])) { s with heap := h'', toks := tk + 1 } :=
      Inv.turnedNew (ch := [e, it]) I (fun b ob hb q => (sb.2 b (fun z => hb (by simp [z]))).trans (hk b ob (fun z => hb (by simp [z])) (fun z => hb (by simp [z])) q)) hf (Nat.le_refl _) new
    refine ⟨.ref s.heap.objs.size, _, I1, rfl, ⟨_, c, rfl, I.hok.fresh (Nat.le_refl _), rfl, hcx⟩, ⟨⟨.str ⟨#[c]⟩ u, ?_⟩, ?_, hne, Nat.succ_le_of_lt hg⟩, fun b hb => ?_⟩
    · have e1 : ((i + 1 : Nat) : Int) = (i : Int) + 1 := by omega
      rw [e1]
      exact he'
    · obtain ⟨o, ho', r⟩ := hit'
      exact ⟨o, (sb.2 it (Ne.symm hne)).trans ho', r⟩
    · have hb' : b < s.heap.objs.size := by
        have e' : b = e ∨ b = it := by simpa using hb
        rcases e' with z | z
        · rw [z]; exact hel
        · rw [z]; exact hil
      rw [upd_ne (Nat.ne_of_lt hb')]
      exact (hf b hb).1
  done := by
    intro X hP hw hK hc i pins s σ H E I hf st hg
    subst hP hw hK
    obtain ⟨⟨old, he⟩, hit, hne, hle⟩ := st
    obtain ⟨f0, f1, f2, f3, f4, f5⟩ := hf it (by simp)
    have D := draws_text (prog := X.prog) (w := X.w) (A := X.A.in1) (I.ok.hd hc) it x t hty
    have hge : x.cps.size ≤ i := hg
    have ei : i = x.cps.size := Nat.le_antisymm hle hge
    rw [ei] at hit
    exact wpAny_pyNext_enum_endD D he hit fun h' eb => ⟨rfl, I.turned (t' := s.toks) (fun b o hb q => eb b o hb q) f0 f1 f3 f4 f5⟩
  self := fun A i s Q E st h => by
    obtain ⟨⟨_, he⟩, _⟩ := st
    exact wpAny_pyIter_enum he h
def iEnumS (ta : TA) : TI := fun σ H R => ta σ H fun vs H1 => ∃ x : Str, vs = [.str x] ∧ R (Ites x) H1
theorem pi_enumS {X : Cx} {e : Expr} {ta : TA} {p pos tpos : Pos} {elts : List Expr} {kk : Nat} (hg : Gl X "enumerate") (hm : X.mg "enumerate" = none) (ha : PA X [e] ta) (hs : starEach [e] X.env = [(false, eval e X.env)] := by rfl) :
    PI X (.Tuple elts kk tpos) (.Call (.Name "enumerate" p) [e] [] pos) (iEnumS ta) := by
  refine ⟨fun pins s σ H R I h => ?_⟩
  refine Call_ (ld_blt I hg hm boot_enumerate (PyProof.Rows.callWith_type1 (thn (ha.run pos pins s σ H _ I h) fun us s1 ⟨vs, H1, I1, r1, q1⟩ => ?_) hs rfl))
  obtain ⟨x, ex, q⟩ := q1
  subst ex
  cases r1 with
  | cons r rr =>
    cases rr
    obtain ⟨t, rfl⟩ := r
    refine call_enumerate_str fun h' he hit hsz hk => wpAny_pyIter_enum he ?_
    have I2 : Inv X pins σ H1 { s1 with heap := h' } := I1.kept (t' := s1.toks) hk
    refine ⟨s1.heap.objs.size + 1, [s1.heap.objs.size + 1, s1.heap.objs.size], _, _, H1, rfl, I2, turn_enumS (s1.heap.objs.size + 1) s1.heap.objs.size x t (iter_type x), ⟨⟨.none, he⟩, hit, Nat.succ_ne_self _, Nat.zero_le _⟩, fun b hb => ?_, q⟩
    have e' : b = s1.heap.objs.size + 1 ∨ b = s1.heap.objs.size := by simpa using hb
    have hle : s1.heap.objs.size ≤ b := by
      rcases e' with z | z
      · rw [z]; exact Nat.le_add_right _ _
      · rw [z]; exact Nat.le_refl _
    exact I1.fpOk hle (I1.hok.fresh hle)
theorem walk_enumS {z : Str} : Walk (Ites z) z.cps.size (fun _ => True) (fun i H v H' => ∃ T c, v = .ref T ∧ H T = none ∧ H' = upd H T (.tup [.int (i : Nat), .str ⟨#[c]⟩]) ∧ z.cps[i]? = some c) :=
  ⟨fun _ _ hi _ => hi, fun _ _ => Nat.le_refl _, fun _ _ _ _ _ _ y => y⟩
theorem min3_int (i j k : Int) : nuMin3 (.int i) (.int j) (.int k) = some (.int (min (min i j) k)) := by
  show ((some (if decide (j < i) = true then V.int j else V.int i)).bind fun m => nuMin2 m (.int k)) = _
  have two : ∀ a : Int, nuMin2 (.int a) (.int k) = some (.int (min a k)) := fun a => by
    show some (if decide (k < a) = true then V.int k else V.int a) = _
    by_cases h : k < a
    · rw [if_pos (decide_eq_true h), Int.min_eq_right (Int.le_of_lt h)]
    · rw [if_neg (by simpa using h), Int.min_eq_left (Int.not_lt.mp h)]
  by_cases h : j < i
  · rw [if_pos (decide_eq_true h), Int.min_eq_right (Int.le_of_lt h)]
    exact two j
  · rw [if_neg (by simpa using h), Int.min_eq_left (Int.not_lt.mp h)]
    exact two i
end Mk

set_option Elab.async false
set_option linter.all false
set_option maxRecDepth 100000
set_option maxHeartbeats 4000000
namespace Mk
open PySem PySem.Spec L2 PyProof.Rows

abbrev sInit : Stmt := inClass (top 26) 0
theorem But.set {x : Addr} {H H1 : Hp} {o : HO} (a : But x H H1) : But x H (upd H1 x o) := fun b u hb e => by
  rw [upd_ne hb]
  exact a b u hb e
theorem But.same {x : Addr} {H H1 H2 : Hp} (a : But x H H1) (b : Same H1 H2) : But x H H2 := fun c o h e => b c o (a c o h e)
theorem putF_len (f : Str) (v : V) : ∀ fs : List (Str × V), (putF f v fs).length ≤ fs.length + 1
  | [] => Nat.le_refl _
  | p :: r => by
    unfold putF
    by_cases h : p.1 = f
    · rw [if_pos h]
      simp
    · rw [if_neg h, List.length_cons, List.length_cons]
      exact Nat.succ_le_succ (putF_len f v r)
theorem short1 (f : Str) (v : V) : (putF f v []).length < 1000 := Nat.lt_of_le_of_lt (putF_len f v []) (by decide)
theorem short2 (f g : Str) (v u : V) : (putF f v (putF g u [])).length < 1000 := by
  have a := putF_len g u []
  have b := putF_len f v (putF g u [])
  simp at a
  omega
theorem short3 (f g k : Str) (v u z : V) : (putF f v (putF g u (putF k z []))).length < 1000 := by
  have a := putF_len k z []
  have b := putF_len g u (putF k z [])
  have c := putF_len f v (putF g u (putF k z []))
  simp at a
  omega
structure Pc (K : PySem.W.Frag) (C : Addr) : Prop where
  cl : Cls K C
  n1 : NoAttr K C "_signs"
  n2 : NoAttr K C "_put"
  n3 : NoAttr K C "_out"
  n4 : NoAttr K C "_swap"
/-- the tables are ascending -/
structure Srt (t1 t2 : PTab) (t3 : STab) : Prop where
  a : (t1.map (·.1)).Pairwise (fun a b => byCs a b = true)
  b : (t2.map (·.1)).Pairwise (fun a b => byCs a b = true)
  c : (t3.map (·.1)).Pairwise (fun a b => le2 a b = true)
abbrev fldP (t a b c : Addr) : List (Str × V) := [("_signs", V.ref t), ("_put", V.ref a), ("_out", V.ref b), ("_swap", V.ref c)]
/-- the prices at x -/
def PrAt (C : Addr) (H : Hp) (x : Addr) (t1 t2 : PTab) (t3 : STab) : Prop := ∃ dx t a b c : Addr, H x = some (.ins C dx (fldP t a b c)) ∧ H t = some (.tup ((t1.map (·.1)).map V.str)) ∧ Tabs H a b c t1 t2 t3
theorem PrAt.same {C : Addr} {H H' : Hp} {x : Addr} {t1 t2 : PTab} {t3 : STab} (h : PrAt C H x t1 t2 t3) (k : Same H H') : PrAt C H' x t1 t2 t3 := by
  obtain ⟨dx, t, a, b, c, h1, h2, h3⟩ := h
  exact ⟨dx, t, a, b, c, k _ _ h1, k _ _ h2, h3.same k⟩
theorem fld_eq (t a b c : Addr) : putF "_swap" (V.ref c) (putF "_out" (V.ref b) (putF "_put" (V.ref a) (putF "_signs" (V.ref t) []))) = fldP t a b c := by
  have n1 : ¬ (("_signs" : Str) = "_put") := by decide +kernel
  have n2 : ¬ (("_signs" : Str) = "_out") := by decide +kernel
  have n3 : ¬ (("_signs" : Str) = "_swap") := by decide +kernel
  have n4 : ¬ (("_put" : Str) = "_out") := by decide +kernel
  have n5 : ¬ (("_put" : Str) = "_swap") := by decide +kernel
  have n6 : ¬ (("_out" : Str) = "_swap") := by decide +kernel
  simp [putF, n1, n2, n3, n4, n5, n6]
def spInit (C : Addr) : Sp := fun vs H Q _ => ∃ (x dx p o s : Addr) (t1 t2 : PTab) (t3 : STab), vs = [.ref x, .ref p, .ref o, .ref s] ∧ H x = some (.ins C dx []) ∧ Tabs H p o s t1 t2 t3 ∧ Agree t1 t2 t3 ∧ (t3.map (·.1)).Nodup ∧ rightB t1 t2 t3 = true ∧
  ∀ H' u1 u2 u3, But x H H' → PrAt C H' x u1 u2 u3 → u1.Perm t1 → u2.Perm t2 → u3.Perm t3 → Srt u1 u2 u3 → Q .non H'
section
variable {P : Program} {w : World} {K : PySem.W.Frag} {mg : Str → Option Value} {base : Heap}
theorem scInit : FnScope ["self", "put", "out", "swap"] ["self", "put", "out", "swap"] (defScope sInit) := ⟨rfl, rfl, rfl, by decide +kernel, rfl, by decide +kernel, by decide +kernel⟩
theorem ok_init {f C : Addr} {fd : FuncData} (F : Fun K "__init__" "Prices.__init__" sInit f fd) (T : Pc K C) (O : On mg) (J : Cd P w K mg base 5 "_are_tables" ["put", "out", "swap"] spAreT) (S : Cd P w K mg base 1 "ascending_dict" ["table"] spAsc) : FnOk P w K mg base CX0 6 f fd ["self", "put", "out", "swap"] (spInit C) := by
  obtain ⟨j, dj, G, gm, gk, gb⟩ := J.ex
  obtain ⟨c, dc, Gc, cm, ck, cb⟩ := S.ex
  refine F.ok scInit (fun vs H Q E h => ?_) (fun cdv A outer s H vs Q E hr h => ?_)
  · obtain ⟨x, dx, p, o, s, t1, t2, t3, rfl, _⟩ := h
    rfl
  · obtain ⟨x, dx, p, o, sw, t1, t2, t3, rfl, hx, hT, ag, nd3, hright, q⟩ := h
    have hr1 : Room 1 _ := hr.mono (by decide)
    refine ⟨_, pss_cons (ps_if (pt_not (pt_val (pe_call G hr (by rfl) gm gk gb .nil pass0 (pa_cons (pv 1) (pa_cons (pv 2) (pa_cons (pv 3) pa_nil)))))) (pss_one ps_never) pss_nil)
      (pss_cons (ps_fld (pv 0) (pe_callTy call_tuple_of (by rfl) O.tuple (by decide +kernel) (pa_cons (pe_callB (call_sortedD rfl) (by rfl) O.sorted (by decide +kernel) (pa_cons (pv 1) pa_nil)) pa_nil)) rfl)
      (pss_cons (ps_fld (pv 0) (pe_call Gc hr1 (by rfl) cm ck cb .nil pass0 (pa_cons (pv 1) pa_nil)) rfl)
      (pss_cons (ps_fld (pv 0) (pe_call Gc hr1 (by rfl) cm ck cb .nil pass0 (pa_cons (pv 2) pa_nil)) rfl)
      (pss_one (ps_fld (pv 0) (pe_call Gc hr1 (by rfl) cm ck cb .nil pass0 (pa_cons (pv 3) pa_nil)) rfl))))), ?_⟩
    refine ⟨_, rfl, _, rfl, _, rfl, p, o, sw, t1, t2, t3, rfl, hT, ag, fun H1 s1 => ⟨_, rfl, ?_⟩⟩
    rw [hright]
    refine iteF ?_
    have px : p ≠ x := ne_of hT.p hx (fun z => nomatch z)
    have ox : o ≠ x := ne_of hT.o hx (fun z => nomatch z)
    have sx : sw ≠ x := ne_of hT.s hx (fun z => nomatch z)
    have nd2 : (t2.map (·.1)).Nodup := ag.pm.nodup_iff.mpr ag.nd
    have hl1 := ag.l1
    have hl2 := ag.l2
    have hl3 := ag.l3
    refine ⟨_, rfl, p, kvsP t1, t1.map (·.1), rfl, .inl (s1 _ _ hT.p), kvsP_keys t1, by rw [List.length_map]; omega, fun ys a perm so ha => ?_⟩
    refine ⟨a, _, rfl, .inl ⟨SqL.of upd_same, fun t ht => ?_⟩⟩
    have s2 : Same H (upd (upd H1 a (.lst (ys.map V.str))) t (.tup (ys.map V.str))) := Same.trans (Same.trans s1 (Same.new ha)) (Same.new ht)
    refine ⟨_, rfl, x, C, dx, [], rfl, s2 _ _ hx, T.cl, T.n1, (by show 0 < 1000; decide), ?_⟩
    have b2 : But x H (upd (upd (upd H1 a (.lst (ys.map V.str))) t (.tup (ys.map V.str))) x (.ins C dx (putF "_signs" (V.ref t) []))) := (But.of_same s2).set
    have x2 : (upd (upd (upd H1 a (.lst (ys.map V.str))) t (.tup (ys.map V.str))) x (.ins C dx (putF "_signs" (V.ref t) []))) x = some (.ins C dx (putF "_signs" (V.ref t) [])) := upd_same
    have tx : t ≠ x := fun e => by
      rw [e] at ht
      rw [(Same.trans s1 (Same.new ha)) _ _ hx] at ht
      cases ht
    have y2 : (upd (upd (upd H1 a (.lst (ys.map V.str))) t (.tup (ys.map V.str))) x (.ins C dx (putF "_signs" (V.ref t) []))) t = some (.tup (ys.map V.str)) := by
      rw [upd_ne tx]
      exact upd_same
    generalize (upd (upd (upd H1 a (.lst (ys.map V.str))) t (.tup (ys.map V.str))) x (.ins C dx (putF "_signs" (V.ref t) []))) = H2 at b2 x2 y2 ⊢
    clear s2 s1 ha ht
    refine ⟨_, rfl, p, rfl, .inl ⟨t1, b2 _ _ px hT.p, ag.nd, by omega, fun H3 D3 u1 s3 f3 e3 p3 r3 => ?_⟩⟩
    have nx3 : D3 ≠ x := fun e => by rw [e, x2] at f3; cases f3
    refine ⟨_, rfl, x, C, dx, _, rfl, s3 _ _ x2, T.cl, T.n2, short1 _ _, ?_⟩
    have b3 : But x H (upd H3 x (.ins C dx (putF "_put" (V.ref D3) (putF "_signs" (V.ref t) [])))) := (b2.same s3).set
    have x3 : (upd H3 x (.ins C dx (putF "_put" (V.ref D3) (putF "_signs" (V.ref t) [])))) x = some (.ins C dx (putF "_put" (V.ref D3) (putF "_signs" (V.ref t) []))) := upd_same
    have y3 : (upd H3 x (.ins C dx (putF "_put" (V.ref D3) (putF "_signs" (V.ref t) [])))) t = some (.tup (ys.map V.str)) := by
      rw [upd_ne tx]
      exact s3 _ _ y2
    have z3 : (upd H3 x (.ins C dx (putF "_put" (V.ref D3) (putF "_signs" (V.ref t) [])))) D3 = some (.dK (kvsP u1)) := by
      rw [upd_ne nx3]
      exact e3
    generalize (upd H3 x (.ins C dx (putF "_put" (V.ref D3) (putF "_signs" (V.ref t) [])))) = H4 at b3 x3 y3 z3 ⊢
    clear s3 e3 f3 x2 y2 b2
    refine ⟨_, rfl, o, rfl, .inl ⟨t2, b3 _ _ ox hT.o, nd2, by omega, fun H5 D5 u2 s5 f5 e5 p5 r5 => ?_⟩⟩
    have nx5 : D5 ≠ x := fun e => by rw [e, x3] at f5; cases f5
    refine ⟨_, rfl, x, C, dx, _, rfl, s5 _ _ x3, T.cl, T.n3, short2 _ _ _ _, ?_⟩
    have b5 : But x H (upd H5 x (.ins C dx (putF "_out" (V.ref D5) (putF "_put" (V.ref D3) (putF "_signs" (V.ref t) []))))) := (b3.same s5).set
    have x5 : (upd H5 x (.ins C dx (putF "_out" (V.ref D5) (putF "_put" (V.ref D3) (putF "_signs" (V.ref t) []))))) x = some (.ins C dx (putF "_out" (V.ref D5) (putF "_put" (V.ref D3) (putF "_signs" (V.ref t) [])))) := upd_same
    have keep5 : ∀ {b : Addr} {u : HO}, b ≠ x → H4 b = some u → (upd H5 x (.ins C dx (putF "_out" (V.ref D5) (putF "_put" (V.ref D3) (putF "_signs" (V.ref t) []))))) b = some u := fun hb e => by
      rw [upd_ne hb]
      exact s5 _ _ e
    have y5 := keep5 tx y3
    have z5 := keep5 nx3 z3
    have v5 : (upd H5 x (.ins C dx (putF "_out" (V.ref D5) (putF "_put" (V.ref D3) (putF "_signs" (V.ref t) []))))) D5 = some (.dK (kvsP u2)) := by
      rw [upd_ne nx5]
      exact e5
    generalize (upd H5 x (.ins C dx (putF "_out" (V.ref D5) (putF "_put" (V.ref D3) (putF "_signs" (V.ref t) []))))) = H6 at b5 x5 y5 z5 v5 ⊢
    clear keep5 s5 e5 f5 x3 y3 z3 b3
    refine ⟨_, rfl, sw, rfl, .inr ⟨t3, b5 _ _ sx hT.s, nd3, by omega, fun H7 D7 u3 s7 f7 e7 p7 r7 => ?_⟩⟩
    have nx7 : D7 ≠ x := fun e => by rw [e, x5] at f7; cases f7
    refine ⟨_, rfl, x, C, dx, _, rfl, s7 _ _ x5, T.cl, T.n4, short3 _ _ _ _ _ _, ?_⟩
    have eys : ys = u1.map (·.1) := List.Perm.eq_of_pairwise (fun a b _ _ k1 k2 => byCs_anti a b k1 k2) (sorted_up so) r3 (perm.trans (p3.map (·.1)).symm)
    have keep7 : ∀ {b : Addr} {u : HO}, b ≠ x → H6 b = some u → (upd H7 x (.ins C dx (putF "_swap" (V.ref D7) (putF "_out" (V.ref D5) (putF "_put" (V.ref D3) (putF "_signs" (V.ref t) [])))))) b = some u := fun hb e => by
      rw [upd_ne hb]
      exact s7 _ _ e
    refine q _ u1 u2 u3 (b5.same s7).set ⟨dx, t, D3, D5, D7, ?_, ?_, ⟨keep7 nx3 z5, keep7 nx5 v5, ?_⟩⟩ p3 p5 p7 ⟨r3, r5, r7⟩
    · rw [upd_same, fld_eq]
    · rw [← eys]
      exact keep7 tx y5
    · rw [upd_ne nx7]
      exact e7
end
end Mk

set_option Elab.async false
set_option linter.all false
set_option maxRecDepth 100000
set_option maxHeartbeats 4000000
namespace Mk
open PySem PySem.Spec L2 PyProof.Rows

abbrev sPairs : Stmt := top 34
def prs (zs : List Str) (x : Str) : List (Str × Str) := (zs.filter fun y => decide (x ≠ y)).map fun y => (x, y)
def pairsOf (zs : List Str) : List (Str × Str) := zs.flatMap (prs zs)
theorem Pairs.keep {H H' : Hp} (k : ∀ q xs, H q = some (.tup xs) → H' q = some (.tup xs)) : ∀ {qs : List Addr} {ks : List (Str × Str)}, Pairs H qs ks → Pairs H' qs ks
  | _, _, .nil => .nil
  | _, _, .cons h t => .cons (k _ _ h) (Pairs.keep k t)
theorem Pairs.snoc {H : Hp} {q : Addr} {k : Str × Str} (hq : H q = some (.tup [.str k.1, .str k.2])) : ∀ {qs : List Addr} {ks : List (Str × Str)}, Pairs H qs ks → Pairs H (qs ++ [q]) (ks ++ [k])
  | _, _, .nil => .cons hq .nil
  | _, _, .cons h t => .cons h (Pairs.snoc hq t)
theorem prs_len (zs : List Str) (x : Str) : (prs zs x).length ≤ zs.length := by
  unfold prs
  rw [List.length_map]
  exact List.length_filter_le _ _
theorem flat_len {α β : Type} (f : α → List β) (n : Nat) (h : ∀ a, (f a).length ≤ n) : ∀ l : List α, (l.flatMap f).length ≤ l.length * n
  | [] => by simp
  | a :: l => by
    rw [List.flatMap_cons, List.length_append, List.length_cons, Nat.succ_mul]
    have := flat_len f n h l
    have := h a
    omega
def spPairs : Sp := fun vs H Q _ => ∃ (t : Addr) (zs : List Str), vs = [.ref t] ∧ H t = some (.tup (zs.map V.str)) ∧ zs.length ≤ 5 ∧
  ∀ H' p qs, Same H H' → H p = none → H' p = some (.lst (qs.map V.ref)) → Pairs H' qs (pairsOf zs) → Q (.ref p) H'
/-- the list that grows at D -/
structure Grow (H H1 : Hp) (D : Addr) (ks : List (Str × Str)) : Prop where
  same : Same H H1
  out : ∃ qs : List Addr, H1 D = some (.lst (qs.map V.ref)) ∧ Pairs H1 qs ks
section
variable {P : Program} {w : World} {K : PySem.W.Frag} {mg : Str → Option Value} {base : Heap}
theorem scPairs : FnScope ["signs", "one", "other"] ["signs"] (defScope sPairs) := ⟨rfl, rfl, rfl, by decide +kernel, rfl, by decide +kernel, by decide +kernel⟩
theorem ok_pairs {f : Addr} {fd : FuncData} (F : Fun K "_pairs" "_pairs" sPairs f fd) : FnOk P w K mg base CX0 1 f fd ["signs"] spPairs := by
  refine F.ok scPairs (fun vs H Q E h => ?_) (fun cdv A outer s H vs Q E hr h => ?_)
  · obtain ⟨t, zs, rfl, _⟩ := h
    rfl
  · obtain ⟨t, zs, rfl, ht, hl, q⟩ := h
    refine ⟨_, pss_one (ps_ret (pe_lc2 (own := [("one", 1), ("other", 2)]) (vs1 := [2]) (g := gName 1) (g1 := gName 2) (tt := tYes) (wi1 := iTup K (tVar 0)) rfl scPairs.nd (pi_tup (pv 0)) (blkOk_by (N := ["signs", "one", "other"]) (sc := defScope sPairs) (by decide +kernel)) (by decide)
      (fun _ _ _ _ _ => pg_name (i := 1) scPairs.nd rfl (Or.inl rfl)) (fun _ _ _ _ _ => pts_nil) (fun _ _ _ _ _ => pi_tup (pv 0)) (fun _ _ _ _ _ => pg_name (i := 2) scPairs.nd rfl (Or.inl rfl))
      (fun _ _ _ _ _ => pts_one (pt_cmpR op_ne (pv 1) (pv 2) (nomark _))) (fun _ _ _ _ _ => pe_tup (pa_cons (pv 1) (pa_cons (pv 2) pa_nil))))), ?_⟩
    refine ⟨_, rfl, t, rfl, ⟨_, SqT.of ht⟩, fun D hD => wk_any (walk_tup (K := K) (a := t) (xs := zs.map V.str)) (fun i H1 => Grow H H1 D ((zs.take i).flatMap (prs zs))) ⟨Same.new hD, [], upd_same, .nil⟩ (fun i H1 _ h1 => SqT.of (h1.same _ _ ht)) ?_ ?_⟩
    · rintro i x H1 H2 hi G1 ⟨rfl, hx⟩
      rw [List.length_map] at hi
      have ex : x = V.str zs[i] := by
        rw [List.getElem?_map, List.getElem?_eq_getElem hi] at hx
        exact (Option.some.inj hx).symm
      subst ex
      refine ⟨rfl, _, rfl, t, rfl, ⟨_, SqT.of (G1.same _ _ ht)⟩, wk_any (walk_tup (K := K) (a := t) (xs := zs.map V.str)) (fun j H3 => Grow H H3 D ((zs.take i).flatMap (prs zs) ++ prs (zs.take j) zs[i])) ?_ (fun j H3 _ h3 => SqT.of (h3.same _ _ ht)) ?_ ?_⟩
      · show Grow H H2 D ((zs.take i).flatMap (prs zs) ++ prs (zs.take 0) zs[i])
        have : prs (zs.take 0) zs[i] = [] := by simp [prs]
        rw [this, List.append_nil]
        exact G1
      · rintro j y H3 H4 hj G3 ⟨rfl, hy⟩
        rw [List.length_map] at hj
        have ey : y = V.str zs[j] := by
          rw [List.getElem?_map, List.getElem?_eq_getElem hj] at hy
          exact (Option.some.inj hy).symm
        subst ey
        have nextK : prs (zs.take (j + 1)) zs[i] = prs (zs.take j) zs[i] ++ (if zs[i] ≠ zs[j] then [(zs[i], zs[j])] else []) := by
          unfold prs
          rw [List.take_add_one, List.getElem?_eq_getElem hj, List.filter_append, List.map_append]
          congr 1
          by_cases c : zs[i] = zs[j] <;> simp [c]
        refine ⟨rfl, _, rfl, _, rfl, rfl, _, rfl, ?_⟩
        by_cases c : zs[i] = zs[j]
        · rw [decide_eq_true (by rw [c] : V.str zs[i] = V.str zs[j])]
          refine iteF ?_
          rw [nextK, if_neg (fun h => h c), List.append_nil]
          exact G3
        · rw [decide_eq_false (fun h => c (by injection h) : ¬ V.str zs[i] = V.str zs[j])]
          obtain ⟨qs, hL, hP⟩ := G3.out
          have hk : qs.length ≤ 60 := by
            have e : qs.length = _ := Paired.length hP
            rw [e, List.length_append]
            have a1 := flat_len (prs zs) 5 (fun a => Nat.le_trans (prs_len zs a) hl) (zs.take i)
            have a2 := prs_len (zs.take j) zs[i]
            rw [List.length_take] at a1 a2
            have : min i zs.length * 5 ≤ 5 * 5 := Nat.mul_le_mul_right 5 (by omega)
            omega
          refine iteT ⟨_, rfl, _, rfl, (by show 2 ≤ sizeLine; decide), fun n hn => ⟨qs.map V.ref, (Same.new hn) _ _ hL, ?_, ?_⟩⟩
          · rw [List.length_map]
            exact Nat.lt_of_le_of_lt hk (by decide)
          · have neD : D ≠ n := ne_of_none hL hn
            have D0 : ∀ b o, H b = some o → b ≠ D := fun b o e z => by
              rw [z] at e
              rw [hD] at e
              cases e
            refine ⟨fun b o e => ?_, qs ++ [n], ?_, ?_⟩
            · rw [upd_ne (D0 b o e), upd_ne (ne_of_none (G3.same _ _ e) hn)]
              exact G3.same _ _ e
            · rw [upd_same, List.map_append]
              rfl
            · rw [nextK, if_pos c, ← List.append_assoc]
              refine Pairs.snoc (k := (zs[i], zs[j])) ?_ (Pairs.keep (fun q xs e => ?_) hP)
              · rw [upd_ne neD.symm]
                exact upd_same
              · rw [upd_ne (fun z => by rw [z, hL] at e; cases e), upd_ne (ne_of_none e hn)]
                exact e
      · intro H3 G3
        rw [List.length_map, List.take_length] at G3
        rw [List.take_add_one, List.getElem?_eq_getElem hi, List.flatMap_append]
        simpa using G3
    · intro H1 G1
      rw [List.length_map, List.take_length] at G1
      obtain ⟨qs, hL, hP⟩ := G1.out
      exact q _ _ _ G1.same hD hL hP
end
end Mk

set_option Elab.async false
set_option linter.all false
set_option maxRecDepth 100000
set_option maxHeartbeats 4000000
namespace Mk
open PySem PySem.Spec L2 PyProof.Rows

section
variable {X : Cx} {CX : CXT} {i k : Nat} {f C : Addr} {fd : FuncData} {ps ks : List Str} {sp : Sp} {E : XK} {x : Str} {p pos : Pos} {kws : List Keyword} {tk : TA} {g : List Value → List Value → List Value} {gV : List V → List V → List V}
end

section
variable {X : Cx}
end
/-! ### even tables -/
theorem mem_prs {zs : List Str} {x : Str} {k : Str × Str} : k ∈ prs zs x ↔ k.1 = x ∧ k.2 ∈ zs ∧ x ≠ k.2 := by
  unfold prs
  rw [List.mem_map]
  constructor
  · rintro ⟨y, hy, rfl⟩
    rw [List.mem_filter, decide_eq_true_iff] at hy
    exact ⟨rfl, hy.1, hy.2⟩
  · rintro ⟨h1, h2, h3⟩
    refine ⟨k.2, ?_, by rw [← h1]⟩
    rw [List.mem_filter, decide_eq_true_iff]
    exact ⟨h2, h3⟩
theorem mem_pairs {zs : List Str} {k : Str × Str} : k ∈ pairsOf zs ↔ k.1 ∈ zs ∧ k.2 ∈ zs ∧ k.1 ≠ k.2 := by
  unfold pairsOf
  rw [List.mem_flatMap]
  constructor
  · rintro ⟨x, hx, hk⟩
    obtain ⟨h1, h2, h3⟩ := mem_prs.mp hk
    rw [h1]
    exact ⟨hx, h2, h3⟩
  · rintro ⟨h1, h2, h3⟩
    exact ⟨k.1, h1, mem_prs.mpr ⟨rfl, h2, h3⟩⟩
theorem nodup_pairs {zs : List Str} (nd : zs.Nodup) : (pairsOf zs).Nodup := by
  unfold pairsOf List.Nodup
  rw [List.pairwise_flatMap]
  refine ⟨fun x _ => ?_, List.Pairwise.imp (fun {x y} ne => ?_) nd⟩
  · unfold prs
    rw [List.pairwise_map]
    exact (nd.sublist List.filter_sublist).imp fun {a b} h e => h (by injection e)
  · intro p hp q hq e
    have h1 := (mem_prs.mp hp).1
    have h2 := (mem_prs.mp hq).1
    exact ne (by rw [← h1, ← h2, e])
theorem len_pairs {zs : List Str} (hl : zs.length ≤ 5) : (pairsOf zs).length ≤ 20 := by
  have one : ∀ x ∈ zs, (prs zs x).length ≤ 4 := fun x hx => by
    unfold prs
    rw [List.length_map]
    have : (zs.filter fun y => decide (x ≠ y)).length < zs.length := List.length_filter_lt_length_iff_exists.mpr ⟨x, hx, by simp⟩
    omega
  have all : ∀ l : List Str, (∀ x ∈ l, (prs zs x).length ≤ 4) → (l.flatMap (prs zs)).length ≤ l.length * 4 := by
    intro l
    induction l with
    | nil => intro _; simp
    | cons a l ih =>
      intro h
      rw [List.flatMap_cons, List.length_append, List.length_cons]
      have a1 := h a List.mem_cons_self
      have a2 := ih fun x hx => h x (List.mem_cons_of_mem _ hx)
      omega
  have := all zs one
  unfold pairsOf
  omega
section
variable {P : Program} {w : World} {K : PySem.W.Frag} {mg : Str → Option Value} {base : Heap}
theorem kbn_init {f : Addr} {fd : FuncData} (F : Fun K "__init__" "Prices.__init__" sInit f fd) : KBn K fd ["self", "put", "out", "swap"] 1 ["put", "out", "swap"] (fun us ws => us ++ ws) (fun vs zs => vs ++ zs) := by
  obtain ⟨oc, od, kV, doc, pm, an, cdv, ct, osl, rfl, lk, hcd⟩ := F.ex
  refine ⟨fun s us ws X l1 l2 => BindsTo.of_eq ?_, fun r1 r2 => r1.append r2⟩
  match us, ws, l1, l2 with
  | [_], [_, _, _], _, _ => rfl
end
end Mk

set_option Elab.async false
set_option linter.all false
set_option maxRecDepth 100000
set_option maxHeartbeats 4000000
namespace Mk
open PySem PySem.Spec L2 PyProof.Rows

abbrev sPutP : Stmt := inClass (top 26) 3
abbrev sOutP : Stmt := inClass (top 26) 4
abbrev sSwapP : Stmt := inClass (top 26) 5
/-- the three tables of the prices at x -/
def spTabP (C : Addr) (g : PTab → PTab → PTab) : Sp := fun vs H Q _ => ∃ (x : Addr) (t1 t2 : PTab) (t3 : STab), vs = [.ref x] ∧ PrAt C H x t1 t2 t3 ∧ ((g t1 t2).map (·.1)).Nodup ∧ (g t1 t2).length ≤ 60 ∧ Srt t1 t2 t3 ∧
  ∀ H' D, Same H H' → H D = none → H' D = some (.dK (kvsP (g t1 t2))) → Q (.ref D) H'
def spTabS (C : Addr) : Sp := fun vs H Q _ => ∃ (x : Addr) (t1 t2 : PTab) (t3 : STab), vs = [.ref x] ∧ PrAt C H x t1 t2 t3 ∧ (t3.map (·.1)).Nodup ∧ t3.length ≤ 60 ∧ Srt t1 t2 t3 ∧
  ∀ H' D, Same H H' → H D = none → H' D = some (.dT (kvsS t3)) → Q (.ref D) H'
theorem tab_one {α : Type} {t u : List (α × Int)} {le : α → α → Bool} (anti : ∀ a b, le a b = true → le b a = true → a = b) (nd : (t.map (·.1)).Nodup) (p : u.Perm t) (s1 : (t.map (·.1)).Pairwise (fun a b => le a b = true)) (s2 : (u.map (·.1)).Pairwise (fun a b => le a b = true)) : u = t := by
  rw [List.pairwise_map] at s1 s2
  refine List.Perm.eq_of_pairwise (fun a b ha hb h1 h2 => ?_) s2 s1 p
  have e := anti _ _ h1 h2
  have ha2 := p.mem_iff.mp ha
  obtain ⟨i, hi, e1⟩ := List.getElem_of_mem ha2
  obtain ⟨j, hj, e2⟩ := List.getElem_of_mem hb
  have hij : (t.map (·.1))[i]'(by rw [List.length_map]; exact hi) = (t.map (·.1))[j]'(by rw [List.length_map]; exact hj) := by
    rw [List.getElem_map, List.getElem_map, e1, e2, e]
  have := (List.getElem_inj nd).mp hij
  subst this
  rw [← e1, ← e2]
section
variable {P : Program} {w : World} {K : PySem.W.Frag} {mg : Str → Option Value} {base : Heap}
theorem look_no {f g : Str} {v : V} {r : List (Str × V)} (h : ¬ f = g) : List.lookup f ((g, v) :: r) = List.lookup f r := by
  have e : (f == g) = false := beq_eq_false_iff_ne.mpr h
  rw [List.lookup_cons, e]
theorem look_yes {f : Str} {v : V} {r : List (Str × V)} : List.lookup f ((f, v) :: r) = some v := by
  rw [List.lookup_cons, beq_self_eq_true]
theorem fld_put (t a b c : Addr) : List.lookup ("_put" : Str) (fldP t a b c) = some (V.ref a) :=
  (look_no (by decide +kernel)).trans look_yes
theorem fld_out (t a b c : Addr) : List.lookup ("_out" : Str) (fldP t a b c) = some (V.ref b) :=
  (look_no (by decide +kernel)).trans ((look_no (by decide +kernel)).trans look_yes)
theorem fld_swap (t a b c : Addr) : List.lookup ("_swap" : Str) (fldP t a b c) = some (V.ref c) :=
  (look_no (by decide +kernel)).trans ((look_no (by decide +kernel)).trans ((look_no (by decide +kernel)).trans look_yes))
theorem fld_signs (t a b c : Addr) : List.lookup ("_signs" : Str) (fldP t a b c) = some (V.ref t) := look_yes
theorem scPutP : FnScope ["self"] ["self"] (defScope sPutP) := ⟨rfl, rfl, rfl, by decide +kernel, rfl, by decide +kernel, by decide +kernel⟩
theorem ok_putP {f C : Addr} {fd : FuncData} (F : Fun K "put" "Prices.put" sPutP f fd) (T : Pc K C) (S : Cd P w K mg base 1 "ascending_dict" ["table"] spAsc) : FnOk P w K mg base CX0 2 f fd ["self"] (spTabP C fun t _ => t) := by
  obtain ⟨c, dc, Gc, cm, ck, cb⟩ := S.ex
  refine F.ok scPutP (fun vs H Q E h => ?_) (fun cdv A outer s H vs Q E hr h => ?_)
  · obtain ⟨x, t1, t2, t3, rfl, _⟩ := h
    rfl
  · obtain ⟨x, t1, t2, t3, rfl, ⟨dx, t, a, b, d, hx, ht, hT⟩, nd, hl, sr, q⟩ := h
    refine ⟨_, pss_one (ps_ret (pe_call Gc hr (by rfl) cm ck cb .nil pass0 (pa_cons (pe_fld (pv 0) rfl) pa_nil))), ?_⟩
    refine ⟨_, rfl, x, C, dx, _, _, rfl, hx, T.cl, T.n2, fld_put t a b d, a, rfl, .inl ⟨t1, hT.p, nd, hl, fun H1 D u s1 f1 e1 p1 r1 => ?_⟩⟩
    obtain rfl := tab_one byCs_anti nd p1 sr.a r1
    exact q _ _ s1 f1 e1
theorem scOutP : FnScope ["self"] ["self"] (defScope sOutP) := ⟨rfl, rfl, rfl, by decide +kernel, rfl, by decide +kernel, by decide +kernel⟩
theorem ok_outP {f C : Addr} {fd : FuncData} (F : Fun K "out" "Prices.out" sOutP f fd) (T : Pc K C) (S : Cd P w K mg base 1 "ascending_dict" ["table"] spAsc) : FnOk P w K mg base CX0 2 f fd ["self"] (spTabP C fun _ t => t) := by
  obtain ⟨c, dc, Gc, cm, ck, cb⟩ := S.ex
  refine F.ok scOutP (fun vs H Q E h => ?_) (fun cdv A outer s H vs Q E hr h => ?_)
  · obtain ⟨x, t1, t2, t3, rfl, _⟩ := h
    rfl
  · obtain ⟨x, t1, t2, t3, rfl, ⟨dx, t, a, b, d, hx, ht, hT⟩, nd, hl, sr, q⟩ := h
    refine ⟨_, pss_one (ps_ret (pe_call Gc hr (by rfl) cm ck cb .nil pass0 (pa_cons (pe_fld (pv 0) rfl) pa_nil))), ?_⟩
    refine ⟨_, rfl, x, C, dx, _, _, rfl, hx, T.cl, T.n3, fld_out t a b d, b, rfl, .inl ⟨t2, hT.o, nd, hl, fun H1 D u s1 f1 e1 p1 r1 => ?_⟩⟩
    obtain rfl := tab_one byCs_anti nd p1 sr.b r1
    exact q _ _ s1 f1 e1
theorem scSwapP : FnScope ["self"] ["self"] (defScope sSwapP) := ⟨rfl, rfl, rfl, by decide +kernel, rfl, by decide +kernel, by decide +kernel⟩
theorem ok_swapP {f C : Addr} {fd : FuncData} (F : Fun K "swap" "Prices.swap" sSwapP f fd) (T : Pc K C) (S : Cd P w K mg base 1 "ascending_dict" ["table"] spAsc) : FnOk P w K mg base CX0 2 f fd ["self"] (spTabS C) := by
  obtain ⟨c, dc, Gc, cm, ck, cb⟩ := S.ex
  refine F.ok scSwapP (fun vs H Q E h => ?_) (fun cdv A outer s H vs Q E hr h => ?_)
  · obtain ⟨x, t1, t2, t3, rfl, _⟩ := h
    rfl
  · obtain ⟨x, t1, t2, t3, rfl, ⟨dx, t, a, b, d, hx, ht, hT⟩, nd, hl, sr, q⟩ := h
    refine ⟨_, pss_one (ps_ret (pe_call Gc hr (by rfl) cm ck cb .nil pass0 (pa_cons (pe_fld (pv 0) rfl) pa_nil))), ?_⟩
    refine ⟨_, rfl, x, C, dx, _, _, rfl, hx, T.cl, T.n4, fld_swap t a b d, d, rfl, .inr ⟨t3, hT.s, nd, hl, fun H1 D u s1 f1 e1 p1 r1 => ?_⟩⟩
    obtain rfl := tab_one le2_anti nd p1 sr.c r1
    exact q _ _ s1 f1 e1
end
end Mk

set_option Elab.async false
set_option linter.all false
set_option maxRecDepth 100000
set_option maxHeartbeats 4000000
namespace Mk
open PySem PySem.Spec L2 PyProof.Rows

section
variable {P : Program} {w : World} {K : PySem.W.Frag} {mg : Str → Option Value} {base : Heap}
end
end Mk

set_option Elab.async false
set_option linter.all false
set_option maxRecDepth 100000
set_option maxHeartbeats 4000000
namespace Mk
open PySem PySem.Spec L2 PyProof.Rows

section
variable {P : Program} {w : World} {K : PySem.W.Frag} {mg : Str → Option Value} {base : Heap}
end
end Mk

set_option Elab.async false
set_option linter.all false
set_option maxRecDepth 100000
set_option maxHeartbeats 4000000
namespace Mk
open PySem PySem.Spec L2 PyProof.Rows

/-! ### a table with another price, or with one less -/
section
variable {α : Type} [DecidableEq α]
def setT (t : List (α × Int)) (k : α) (i : Int) : List (α × Int) := if k ∈ t.map (·.1) then t.map (fun p => if p.1 = k then (p.1, i) else p) else t ++ [(k, i)]
theorem setT_in {t : List (α × Int)} {k : α} {i : Int} (h : k ∈ t.map (·.1)) : (setT t k i).map (·.1) = t.map (·.1) := by
  unfold setT
  rw [if_pos h, List.map_map]
  refine List.map_congr_left fun p _ => ?_
  show (if p.1 = k then (p.1, i) else p).1 = p.1
  split <;> rfl
theorem setT_out {t : List (α × Int)} {k : α} {i : Int} (h : k ∉ t.map (·.1)) : setT t k i = t ++ [(k, i)] := by
  unfold setT
  rw [if_neg h]
theorem setT_nd {t : List (α × Int)} {k : α} {i : Int} (nd : (t.map (·.1)).Nodup) : ((setT t k i).map (·.1)).Nodup := by
  by_cases h : k ∈ t.map (·.1)
  · rw [setT_in h]
    exact nd
  · rw [setT_out h, List.map_append]
    refine List.nodup_append.mpr ⟨nd, by simp, fun a ha b hb e => ?_⟩
    have : b = k := by simpa using hb
    rw [e, this] at ha
    exact h ha
end
theorem putS_set (t : STab) (k : Str × Str) (i : Int) : L2.putK (kvsS t) (keyOf k) (V.int i) = kvsS (setT t k i) := by
  by_cases h : k ∈ t.map (·.1)
  · have a : ((kvsS t).any fun kv => decide (kv.1 = keyOf k)) = true := by
      obtain ⟨p, hp, e⟩ := List.mem_map.mp h
      refine List.any_eq_true.mpr ⟨_, List.mem_map.mpr ⟨p, hp, rfl⟩, ?_⟩
      rw [decide_eq_true_iff, ← e]
    unfold L2.putK setT
    rw [if_pos a, if_pos h]
    unfold kvsS
    rw [List.map_map, List.map_map]
    refine List.map_congr_left fun p _ => ?_
    show (if keyOf p.1 = keyOf k then (keyOf p.1, V.int i) else (keyOf p.1, V.int p.2)) = (keyOf (if p.1 = k then (p.1, i) else p).1, V.int (if p.1 = k then (p.1, i) else p).2)
    by_cases c : p.1 = k
    · rw [if_pos c, if_pos (by rw [c])]
    · rw [if_neg c, if_neg fun z => c (key_inj z)]
  · rw [putS_new h, setT_out h]
/-! ### the three tables stay alike -/
end Mk

set_option Elab.async false
set_option linter.all false
namespace Mk

/-! ### closed costs -/
section
variable {α : Type} {P : List α} {d d' c c' : α → α → Int}
structure IsCl (P : List α) (d c : α → α → Int) : Prop where
  zero : ∀ x ∈ P, c x x = 0
  tri : ∀ x ∈ P, ∀ y ∈ P, ∀ z ∈ P, c x y ≤ c x z + c z y
  le : ∀ x ∈ P, ∀ y ∈ P, c x y ≤ d x y
  max : ∀ F : α → Int, (∀ z ∈ P, ∀ y ∈ P, F y ≤ F z + d z y) → ∀ z ∈ P, ∀ y ∈ P, F y ≤ F z + c z y
theorem IsCl.below (h : IsCl P d c) (h' : IsCl P d c') {x y : α} (hx : x ∈ P) (hy : y ∈ P) : c x y ≤ c' x y := by
  have h2 := h'.max (fun y => c x y) (fun z hz y hy => by
    have h1 := h.tri x hx y hy z hz
    have h2 := h.le z hz y hy
    show c x y ≤ c x z + d z y
    omega) x hx y hy
  have h1 := h.zero x hx
  have h3 : c x y ≤ c x x + c' x y := h2
  omega
theorem IsCl.uniq (h : IsCl P d c) (h' : IsCl P d c') {x y : α} (hx : x ∈ P) (hy : y ∈ P) : c x y = c' x y := by
  have h1 := h.below h' hx hy
  have h2 := h'.below h hx hy
  omega
theorem IsCl.between (h : IsCl P d c) (a : ∀ x ∈ P, ∀ y ∈ P, c x y ≤ d' x y) (b : ∀ x ∈ P, ∀ y ∈ P, d' x y ≤ d x y) : IsCl P d' c :=
  ⟨h.zero, h.tri, a, fun F hF => h.max F fun z hz y hy => by
    have := hF z hz y hy
    have := b z hz y hy
    omega⟩
theorem IsCl.ge [DecidableEq α] (h : IsCl P d c) {m : Int} (m0 : 0 ≤ m) (d0 : ∀ x ∈ P, ∀ y ∈ P, 0 ≤ d x y) (dm : ∀ x ∈ P, ∀ y ∈ P, x ≠ y → m ≤ d x y) {x y : α} (hx : x ∈ P) (hy : y ∈ P) (ne : x ≠ y) : m ≤ c x y := by
  have k := h.max (fun y => if y = x then 0 else m) (fun z hz y hy => by
    show (if y = x then 0 else m) ≤ (if z = x then 0 else m) + d z y
    have a := d0 z hz y hy
    by_cases e : y = x
    · rw [if_pos e]
      split <;> omega
    · rw [if_neg e]
      by_cases f : z = x
      · rw [if_pos f, f]
        have := dm x hx y hy (fun g => e g.symm)
        omega
      · rw [if_neg f]
        omega) x hx y hy
  have k2 : (if y = x then 0 else m) ≤ (if x = x then 0 else m) + c x y := k
  rw [if_neg (fun g => ne g.symm), if_pos rfl] at k2
  omega
end
/-! ### look and setT -/
section
variable {κ : Type} [DecidableEq κ]
theorem look_none {t : List (κ × Int)} {k : κ} (h : k ∉ t.map (·.1)) : t.find? (fun p => decide (p.1 = k)) = none := by
  rw [List.find?_eq_none]
  intro p hp e
  exact h (List.mem_map.mpr ⟨p, hp, of_decide_eq_true e⟩)
theorem look_setT (t : List (κ × Int)) (k k' : κ) (i : Int) : look (setT t k i) k' = if k' = k then i else look t k' := by
  by_cases h : k ∈ t.map (·.1)
  · unfold setT
    rw [if_pos h]
    induction t with
    | nil => cases h
    | cons a t ih =>
      unfold look at ih ⊢
      rw [List.map_cons]
      by_cases e : a.1 = k
      · rw [if_pos e]
        by_cases e2 : k' = k
        · subst e2
          rw [List.find?_cons_of_pos (by simpa using e), if_pos rfl]
          rfl
        · have n1 : ¬ decide (a.1 = k') = true := fun z => e2 ((of_decide_eq_true z).symm.trans e)
          rw [List.find?_cons_of_neg (by exact n1), List.find?_cons_of_neg (by exact n1), if_neg e2]
          by_cases m : k ∈ t.map (·.1)
          · rw [ih m, if_neg e2]
          · congr 2
            have : (t.map fun p => if p.1 = k then (p.1, i) else p) = t := by
              conv => rhs; rw [← List.map_id t]
              refine List.map_congr_left fun p hp => ?_
              rw [if_neg fun z => m (List.mem_map.mpr ⟨p, hp, z⟩)]
              rfl
            rw [this]
      · rw [if_neg e]
        have m : k ∈ t.map (·.1) := by
          rw [List.map_cons] at h
          rcases List.mem_cons.mp h with h | h
          · exact absurd h.symm e
          · exact h
        by_cases e3 : a.1 = k'
        · rw [List.find?_cons_of_pos (by simpa using e3), List.find?_cons_of_pos (by simpa using e3), if_neg (fun z => e (e3.trans z))]
        · rw [List.find?_cons_of_neg (by simpa using e3), List.find?_cons_of_neg (by simpa using e3)]
          exact ih m
  · unfold setT
    rw [if_neg h]
    unfold look
    rw [List.find?_append]
    by_cases e : k' = k
    · subst e
      rw [look_none h, if_pos rfl]
      simp
    · rw [if_neg e]
      cases t.find? (fun p => decide (p.1 = k')) with
      | some p => rfl
      | none =>
        have : ¬ k = k' := fun z => e z.symm
        simp [this]
theorem keys_setT (t : List (κ × Int)) (k k' : κ) (i : Int) : k' ∈ (setT t k i).map (·.1) ↔ k' ∈ t.map (·.1) ∨ k' = k := by
  by_cases h : k ∈ t.map (·.1)
  · rw [setT_in h]
    constructor
    · exact .inl
    · rintro (m | rfl)
      · exact m
      · exact h
  · rw [setT_out h, List.map_append, List.mem_append]
    simp
end
/-! ### the rounds of the program -/
section
variable {α : Type} [DecidableEq α]
abbrev Mt (α : Type) := List ((α × α) × Int)
def relx (D : Mt α) (v x y : α) : Mt α := setT D (x, y) (min (look D (x, y)) (look D (x, v) + look D (v, y)))
def fw3 (P : List α) (v x : α) (D : Mt α) : Mt α := P.foldl (fun D y => relx D v x y) D
def fw2 (P : List α) (v : α) (D : Mt α) : Mt α := P.foldl (fun D x => fw3 P v x D) D
def fw (P : List α) (D : Mt α) : Mt α := P.foldl (fun D v => fw2 P v D) D
def nw (D : Mt α) (v x y : α) : Int := min (look D (x, y)) (look D (x, v) + look D (v, y))
structure Mid (P : List α) (v : α) (D E : Mt α) : Prop where
  mid : ∀ a ∈ P, ∀ b ∈ P, look E (a, b) = look D (a, b) ∨ look E (a, b) = nw D v a b
  to : ∀ a ∈ P, look E (a, v) = look D (a, v)
  of : ∀ b ∈ P, look E (v, b) = look D (v, b)
theorem Mid.step {P : List α} {v x y : α} {D E : Mt α} (h : Mid P v D E) (hv : v ∈ P) (hx : x ∈ P) (hy : y ∈ P) (z : look D (v, v) = 0) : Mid P v D (relx E v x y) ∧ look (relx E v x y) (x, y) = nw D v x y ∧
    ∀ a b, look E (a, b) = nw D v a b → look (relx E v x y) (a, b) = nw D v a b := by
  have key : min (look E (x, y)) (look E (x, v) + look E (v, y)) = nw D v x y := by
    rw [h.to x hx, h.of y hy]
    rcases h.mid x hx y hy with e | e
    · rw [e]; rfl
    · rw [e]; unfold nw; omega
  have at_ : ∀ q, look (relx E v x y) q = if q = (x, y) then nw D v x y else look E q := fun q => by
    unfold relx
    rw [look_setT, key]
  refine ⟨⟨fun a ha b hb => ?_, fun a ha => ?_, fun b hb => ?_⟩, ?_, fun a b e => ?_⟩
  · rw [at_]
    by_cases q : (a, b) = (x, y)
    · cases q
      rw [if_pos rfl]
      exact .inr rfl
    · rw [if_neg q]
      exact h.mid a ha b hb
  · rw [at_]
    by_cases q : (a, v) = (x, y)
    · cases q
      rw [if_pos rfl]
      unfold nw
      omega
    · rw [if_neg q]
      exact h.to a ha
  · rw [at_]
    by_cases q : (v, b) = (x, y)
    · cases q
      rw [if_pos rfl]
      unfold nw
      omega
    · rw [if_neg q]
      exact h.of b hb
  · rw [at_, if_pos rfl]
  · rw [at_]
    by_cases q : (a, b) = (x, y)
    · cases q
      rw [if_pos rfl]
    · rw [if_neg q]
      exact e
theorem fw3_mid {P : List α} {v x : α} {D : Mt α} (hv : v ∈ P) (hx : x ∈ P) (z : look D (v, v) = 0) : ∀ (ys : List α) (E : Mt α), (∀ y ∈ ys, y ∈ P) → Mid P v D E →
    Mid P v D (ys.foldl (fun D y => relx D v x y) E) ∧ (∀ y ∈ ys, look (ys.foldl (fun D y => relx D v x y) E) (x, y) = nw D v x y) ∧ ∀ a b, look E (a, b) = nw D v a b → look (ys.foldl (fun D y => relx D v x y) E) (a, b) = nw D v a b
  | [], E, _, h => ⟨h, fun _ m => (nomatch m), fun _ _ e => e⟩
  | y :: ys, E, hs, h => by
    obtain ⟨s1, s2, s3⟩ := h.step hv hx (hs y List.mem_cons_self) z
    obtain ⟨r1, r2, r3⟩ := fw3_mid hv hx z ys _ (fun y hy => hs y (List.mem_cons_of_mem _ hy)) s1
    rw [List.foldl_cons]
    refine ⟨r1, fun u hu => ?_, fun a b e => r3 a b (s3 a b e)⟩
    rcases List.mem_cons.mp hu with rfl | hu
    · exact r3 _ _ s2
    · exact r2 u hu
theorem fw2_mid {P : List α} {v : α} {D : Mt α} (hv : v ∈ P) (z : look D (v, v) = 0) : ∀ (xs : List α) (E : Mt α), (∀ x ∈ xs, x ∈ P) → Mid P v D E →
    Mid P v D (xs.foldl (fun D x => fw3 P v x D) E) ∧ (∀ x ∈ xs, ∀ y ∈ P, look (xs.foldl (fun D x => fw3 P v x D) E) (x, y) = nw D v x y) ∧ ∀ a b, look E (a, b) = nw D v a b → look (xs.foldl (fun D x => fw3 P v x D) E) (a, b) = nw D v a b
  | [], E, _, h => ⟨h, fun _ m => (nomatch m), fun _ _ e => e⟩
  | x :: xs, E, hs, h => by
    obtain ⟨s1, s2, s3⟩ := fw3_mid hv (hs x List.mem_cons_self) z P E (fun _ h => h) h
    obtain ⟨r1, r2, r3⟩ := fw2_mid hv z xs _ (fun y hy => hs y (List.mem_cons_of_mem _ hy)) s1
    rw [List.foldl_cons]
    refine ⟨r1, fun u hu y hy => ?_, fun a b e => r3 a b (s3 a b e)⟩
    rcases List.mem_cons.mp hu with rfl | hu
    · exact r3 _ _ (s2 y hy)
    · exact r2 u hu y hy
theorem fw2_look {P : List α} {v x y : α} {D : Mt α} (hv : v ∈ P) (z : look D (v, v) = 0) (hx : x ∈ P) (hy : y ∈ P) : look (fw2 P v D) (x, y) = nw D v x y :=
  (fw2_mid hv z P D (fun _ h => h) ⟨fun _ _ _ _ => .inl rfl, fun _ _ => rfl, fun _ _ => rfl⟩).2.1 x hx y hy
structure Part (P S : List α) (d : α → α → Int) (D : Mt α) : Prop where
  zero : ∀ x ∈ P, look D (x, x) = 0
  ge : ∀ x ∈ P, ∀ y ∈ P, 0 ≤ look D (x, y)
  tri : ∀ x ∈ P, ∀ y ∈ P, ∀ z ∈ S, look D (x, y) ≤ look D (x, z) + look D (z, y)
  le : ∀ x ∈ P, ∀ y ∈ P, look D (x, y) ≤ d x y
  max : ∀ F : α → Int, (∀ z ∈ P, ∀ y ∈ P, F y ≤ F z + d z y) → ∀ z ∈ P, ∀ y ∈ P, F y ≤ F z + look D (z, y)
theorem Part.step {P S : List α} {v : α} {d : α → α → Int} {D : Mt α} (h : Part P S d D) (hv : v ∈ P) (hS : ∀ z ∈ S, z ∈ P) : Part P (v :: S) d (fw2 P v D) := by
  have at_ : ∀ {x y}, x ∈ P → y ∈ P → look (fw2 P v D) (x, y) = min (look D (x, y)) (look D (x, v) + look D (v, y)) := fun hx hy => fw2_look hv (h.zero v hv) hx hy
  refine ⟨fun x hx => ?_, fun x hx y hy => ?_, fun x hx y hy z hz => ?_, fun x hx y hy => ?_, fun F hF z hz y hy => ?_⟩
  · rw [at_ hx hx, h.zero x hx]
    have := h.ge x hx v hv
    have := h.ge v hv x hx
    omega
  · rw [at_ hx hy]
    have := h.ge x hx v hv
    have := h.ge v hv y hy
    have := h.ge x hx y hy
    omega
  · have v0 := h.zero v hv
    rcases List.mem_cons.mp hz with rfl | hz
    · rw [at_ hx hy, at_ hx hv, at_ hv hy]
      omega
    · have zp := hS z hz
      have t1 := h.tri x hx y hy z hz
      have t2 := h.tri x hx v hv z hz
      have t3 := h.tri v hv y hy z hz
      have t4 := h.tri v hv v hv z hz
      rw [at_ hx hy, at_ hx zp, at_ zp hy]
      omega
  · rw [at_ hx hy]
    have := h.le x hx y hy
    omega
  · rw [at_ hz hy]
    have a := h.max F hF z hz y hy
    have b := h.max F hF z hz v hv
    have c := h.max F hF v hv y hy
    omega
theorem fw_part {P : List α} {d : α → α → Int} : ∀ (vs S : List α) (D : Mt α), (∀ v ∈ vs, v ∈ P) → (∀ z ∈ S, z ∈ P) → Part P S d D → Part P (vs.reverse ++ S) d (vs.foldl (fun D v => fw2 P v D) D)
  | [], _, _, _, _, h => h
  | v :: vs, S, D, hv, hS, h => by
    have := fw_part vs (v :: S) _ (fun u hu => hv u (List.mem_cons_of_mem _ hu)) (fun z hz => by
      rcases List.mem_cons.mp hz with rfl | hz
      · exact hv _ List.mem_cons_self
      · exact hS z hz) (h.step (hv v List.mem_cons_self) hS)
    rw [List.foldl_cons, List.reverse_cons, List.append_assoc]
    exact this
theorem fw_cl {P : List α} {d : α → α → Int} {D : Mt α} (e : ∀ x ∈ P, ∀ y ∈ P, look D (x, y) = d x y) (z : ∀ x ∈ P, d x x = 0) (g : ∀ x ∈ P, ∀ y ∈ P, 0 ≤ d x y) : IsCl P d (fun x y => look (fw P D) (x, y)) := by
  have p0 : Part P [] d D := ⟨fun x hx => by rw [e x hx x hx]; exact z x hx, fun x hx y hy => by rw [e x hx y hy]; exact g x hx y hy, fun _ _ _ _ _ m => (nomatch m), fun x hx y hy => by rw [e x hx y hy]; exact Int.le_refl _, fun F hF z hz y hy => by rw [e z hz y hy]; exact hF z hz y hy⟩
  have p := fw_part P [] D (fun _ h => h) (fun _ m => (nomatch m)) p0
  exact ⟨p.zero, fun x hx y hy z hz => p.tri x hx y hy z (List.mem_append_left _ (List.mem_reverse.mpr hz)), p.le, p.max⟩
end
end Mk

set_option Elab.async false
set_option linter.all false
set_option maxRecDepth 100000
set_option maxHeartbeats 1000000
/-! the program's direct prices, as plain lists -/
namespace Mk
open PySem L2
section
variable {α : Type} [DecidableEq α]
theorem len_setT (t : List (α × Int)) (k : α) (i : Int) : (setT t k i).length ≤ t.length + 1 := by
  unfold setT
  split
  · rw [List.length_map]; omega
  · rw [List.length_append]; simp
def dget (t : List (α × Int)) (k : α) (d : Int) : Int := if k ∈ t.map (·.1) then look t k else d
end
theorem foldl_take {α β : Type} (f : β → α → β) (a : β) (l : List α) {i : Nat} (h : i < l.length) : (l.take (i + 1)).foldl f a = f ((l.take i).foldl f a) l[i] := by
  rw [List.take_add_one, List.getElem?_eq_getElem h, List.foldl_append]
  rfl
def dirS (t1 t2 : PTab) (t3 : STab) (one : Str) (D : STab) (other : Str) : STab := setT D (one, other) (dget t3 (one, other) (look t2 one + look t1 other))
def dirA (t1 t2 : PTab) (D : STab) (one : Str) : STab := setT (setT D (("" : Str), one) (look t1 one)) (one, ("" : Str)) (look t2 one)
def dirI (t1 t2 : PTab) (t3 : STab) (one : Str) (ys : List Str) (D : STab) : STab := ys.foldl (dirS t1 t2 t3 one) D
def dirO (t1 t2 : PTab) (t3 : STab) (ks : List Str) (D : STab) (one : Str) : STab := setT (dirI t1 t2 t3 one ks (dirA t1 t2 D one)) (one, one) 0
def dir0 : STab := [(("", ""), 0)]
def dirL (t1 t2 : PTab) (t3 : STab) (ks xs : List Str) : STab := xs.foldl (dirO t1 t2 t3 ks) dir0
def dir (t1 t2 : PTab) (t3 : STab) : STab := dirL t1 t2 t3 (t1.map (·.1)) (t1.map (·.1))
theorem dirI_len (t1 t2 : PTab) (t3 : STab) (one : Str) : ∀ (ys : List Str) (D : STab), (dirI t1 t2 t3 one ys D).length ≤ D.length + ys.length
  | [], D => by show D.length ≤ D.length + 0; omega
  | y :: ys, D => by
    have a := dirI_len t1 t2 t3 one ys (dirS t1 t2 t3 one D y)
    have b := len_setT D (one, y) (dget t3 (one, y) (look t2 one + look t1 y))
    show (dirI t1 t2 t3 one ys (dirS t1 t2 t3 one D y)).length ≤ _
    rw [List.length_cons]
    unfold dirS at a ⊢
    omega
theorem dirO_len (t1 t2 : PTab) (t3 : STab) (ks : List Str) (D : STab) (one : Str) : (dirO t1 t2 t3 ks D one).length ≤ D.length + ks.length + 3 := by
  unfold dirO
  have a := len_setT (dirI t1 t2 t3 one ks (dirA t1 t2 D one)) (one, one) 0
  have b := dirI_len t1 t2 t3 one ks (dirA t1 t2 D one)
  unfold dirA at a b ⊢
  have c := len_setT (setT D (("" : Str), one) (look t1 one)) (one, ("" : Str)) (look t2 one)
  have d := len_setT D (("" : Str), one) (look t1 one)
  omega
theorem dirL_len (t1 t2 : PTab) (t3 : STab) (ks : List Str) : ∀ (xs : List Str) (D : STab), (xs.foldl (dirO t1 t2 t3 ks) D).length ≤ D.length + xs.length * (ks.length + 3)
  | [], D => by show D.length ≤ _; omega
  | x :: xs, D => by
    have a := dirL_len t1 t2 t3 ks xs (dirO t1 t2 t3 ks D x)
    have b := dirO_len t1 t2 t3 ks D x
    rw [List.foldl_cons, List.length_cons, Nat.add_mul]
    omega
/-! what stands in it -/
/-- the direct price of a way -/
def dd (t1 t2 : PTab) (t3 : STab) (x y : Str) : Int :=
  if x = y then 0 else if x = "" then look t1 y else if y = "" then look t2 x else dget t3 (x, y) (look t2 x + look t1 y)
theorem dirI_look (t1 t2 : PTab) (t3 : STab) (one : Str) : ∀ (ys : List Str) (D : STab) (q : Str × Str), look (dirI t1 t2 t3 one ys D) q = if q.1 = one ∧ q.2 ∈ ys then dget t3 q (look t2 q.1 + look t1 q.2) else look D q
  | [], D, q => by
    show look D q = _
    rw [if_neg (by rintro ⟨_, h⟩; cases h)]
  | y :: ys, D, q => by
    show look (dirI t1 t2 t3 one ys (dirS t1 t2 t3 one D y)) q = _
    rw [dirI_look t1 t2 t3 one ys]
    unfold dirS
    rw [look_setT]
    by_cases h1 : q.1 = one ∧ q.2 ∈ ys
    · rw [if_pos h1, if_pos ⟨h1.1, List.mem_cons_of_mem _ h1.2⟩]
    · rw [if_neg h1]
      by_cases h2 : q = (one, y)
      · subst h2
        rw [if_pos rfl, if_pos ⟨rfl, List.mem_cons_self⟩]
      · rw [if_neg h2, if_neg]
        rintro ⟨e, m⟩
        rcases List.mem_cons.mp m with m | m
        · exact h2 (by rw [← e, ← m])
        · exact h1 ⟨e, m⟩
theorem dirI_keys (t1 t2 : PTab) (t3 : STab) (one : Str) : ∀ (ys : List Str) (D : STab) (q : Str × Str), q ∈ (dirI t1 t2 t3 one ys D).map (·.1) ↔ (q.1 = one ∧ q.2 ∈ ys) ∨ q ∈ D.map (·.1)
  | [], D, q => by
    show q ∈ D.map (·.1) ↔ _
    simp
  | y :: ys, D, q => by
    show q ∈ (dirI t1 t2 t3 one ys (dirS t1 t2 t3 one D y)).map (·.1) ↔ _
    rw [dirI_keys t1 t2 t3 one ys]
    unfold dirS
    rw [keys_setT, List.mem_cons]
    obtain ⟨a, b⟩ := q
    show (a = one ∧ b ∈ ys) ∨ (a, b) ∈ D.map (·.1) ∨ (a, b) = (one, y) ↔ (a = one ∧ (b = y ∨ b ∈ ys)) ∨ (a, b) ∈ D.map (·.1)
    rw [Prod.mk.injEq]
    constructor
    · rintro (⟨e, m⟩ | m | ⟨e, m⟩)
      · exact .inl ⟨e, .inr m⟩
      · exact .inr m
      · exact .inl ⟨e, .inl m⟩
    · rintro (⟨e, m | m⟩ | m)
      · exact .inr (.inr ⟨e, m⟩)
      · exact .inl ⟨e, m⟩
      · exact .inr (.inl m)
theorem dirO_look (t1 t2 : PTab) (t3 : STab) (ks : List Str) (D : STab) (one : Str) (n1 : one ≠ "") (n0 : ("" : Str) ∉ ks) (q : Str × Str) : look (dirO t1 t2 t3 ks D one) q =
    if q = (one, one) then 0 else if q.1 = one ∧ q.2 ∈ ks then dget t3 q (look t2 q.1 + look t1 q.2) else if q = (one, ("" : Str)) then look t2 one else if q = (("" : Str), one) then look t1 one else look D q := by
  unfold dirO dirA
  rw [look_setT, dirI_look, look_setT, look_setT]
theorem dirO_keys (t1 t2 : PTab) (t3 : STab) (ks : List Str) (D : STab) (one : Str) (q : Str × Str) : q ∈ (dirO t1 t2 t3 ks D one).map (·.1) ↔ q = (one, one) ∨ (q.1 = one ∧ q.2 ∈ ks) ∨ q = (one, ("" : Str)) ∨ q = (("" : Str), one) ∨ q ∈ D.map (·.1) := by
  unfold dirO dirA
  rw [keys_setT, dirI_keys, keys_setT, keys_setT]
  constructor
  · rintro ((h | (h | h) | h) | h)
    · exact .inr (.inl h)
    · exact .inr (.inr (.inr (.inr h)))
    · exact .inr (.inr (.inr (.inl h)))
    · exact .inr (.inr (.inl h))
    · exact .inl h
  · rintro (h | h | h | h | h)
    · exact .inr h
    · exact .inl (.inl h)
    · exact .inl (.inr (.inr h))
    · exact .inl (.inr (.inl (.inr h)))
    · exact .inl (.inr (.inl (.inl h)))
/-- where the walk has been -/
structure DirAt (t1 t2 : PTab) (t3 : STab) (ks xs : List Str) (D : STab) : Prop where
  keys : ∀ x y : Str, (x, y) ∈ D.map (·.1) ↔ (x = "" ∧ y = "") ∨ (x = "" ∧ y ∈ xs) ∨ (x ∈ xs ∧ (y = "" ∨ y ∈ ks))
  val : ∀ x y : Str, (x, y) ∈ D.map (·.1) → look D (x, y) = dd t1 t2 t3 x y
theorem DirAt.next {t1 t2 : PTab} {t3 : STab} {ks xs : List Str} {D : STab} (n0 : ("" : Str) ∉ ks) (h : DirAt t1 t2 t3 ks xs D) {one : Str} (m : one ∈ ks) : DirAt t1 t2 t3 ks (xs ++ [one]) (dirO t1 t2 t3 ks D one) := by
  have n1 : one ≠ "" := fun e => n0 (e ▸ m)
  refine ⟨fun x y => ?_, fun x y hq => ?_⟩
  · rw [dirO_keys, h.keys]
    simp only [Prod.mk.injEq, List.mem_append, List.mem_singleton]
    constructor
    · rintro (⟨rfl, rfl⟩ | ⟨rfl, b⟩ | ⟨rfl, rfl⟩ | ⟨rfl, rfl⟩ | a | ⟨a, b⟩ | ⟨a, b⟩)
      · exact .inr (.inr ⟨.inr rfl, .inr m⟩)
      · exact .inr (.inr ⟨.inr rfl, .inr b⟩)
      · exact .inr (.inr ⟨.inr rfl, .inl rfl⟩)
      · exact .inr (.inl ⟨rfl, .inr rfl⟩)
      · exact .inl a
      · exact .inr (.inl ⟨a, .inl b⟩)
      · exact .inr (.inr ⟨.inl a, b⟩)
    · rintro (a | ⟨a, b | b⟩ | ⟨a | a, b⟩)
      · exact .inr (.inr (.inr (.inr (.inl a))))
      · exact .inr (.inr (.inr (.inr (.inr (.inl ⟨a, b⟩)))))
      · exact .inr (.inr (.inr (.inl ⟨a, b⟩)))
      · exact .inr (.inr (.inr (.inr (.inr (.inr ⟨a, b⟩)))))
      · rcases b with b | b
        · exact .inr (.inr (.inl ⟨a, b⟩))
        · exact .inr (.inl ⟨a, b⟩)
  · rw [dirO_look t1 t2 t3 ks D one n1 n0]
    unfold dd
    by_cases c1 : (x, y) = (one, one)
    · rw [if_pos c1, if_pos (by cases c1; rfl)]
    · rw [if_neg c1]
      by_cases c2 : x = one ∧ y ∈ ks
      · have xy : x ≠ y := fun e => c1 (by rw [← e, c2.1])
        have y0 : y ≠ "" := fun e => n0 (e ▸ c2.2)
        rw [if_pos c2, if_neg xy, if_neg (by rw [c2.1]; exact n1), if_neg y0]
      · rw [if_neg c2]
        by_cases c3 : (x, y) = (one, ("" : Str))
        · cases c3
          rw [if_pos rfl, if_neg n1, if_neg n1, if_pos rfl]
        · rw [if_neg c3]
          by_cases c4 : (x, y) = (("" : Str), one)
          · cases c4
            rw [if_pos rfl, if_neg n1.symm, if_pos rfl]
          · rw [if_neg c4]
            rw [dirO_keys] at hq
            have hq' : (x, y) ∈ D.map (·.1) := by
              rcases hq with a | a | a | a | a
              · exact absurd a c1
              · exact absurd a c2
              · exact absurd a c3
              · exact absurd a c4
              · exact a
            rw [h.val x y hq']
            rfl
theorem dirL_at {t1 t2 : PTab} {t3 : STab} {ks : List Str} (n0 : ("" : Str) ∉ ks) : ∀ (xs ys : List Str) (D : STab), (∀ x ∈ xs, x ∈ ks) → DirAt t1 t2 t3 ks ys D → DirAt t1 t2 t3 ks (ys ++ xs) (xs.foldl (dirO t1 t2 t3 ks) D)
  | [], ys, D, _, h => by rw [List.append_nil]; exact h
  | x :: xs, ys, D, s, h => by
    have := dirL_at n0 xs (ys ++ [x]) _ (fun u hu => s u (List.mem_cons_of_mem _ hu)) (h.next n0 (s x List.mem_cons_self))
    rw [List.append_assoc] at this
    exact this
theorem dir_at {t1 t2 : PTab} {t3 : STab} (n0 : ("" : Str) ∉ t1.map (·.1)) : DirAt t1 t2 t3 (t1.map (·.1)) (t1.map (·.1)) (dir t1 t2 t3) := by
  refine dirL_at n0 _ [] dir0 (fun _ h => h) ⟨fun x y => ?_, fun x y h => ?_⟩
  · unfold dir0
    simp
  · unfold dir0 at h
    simp only [List.map_cons, List.map_nil, List.mem_singleton, Prod.mk.injEq] at h
    obtain ⟨rfl, rfl⟩ := h
    unfold dd
    rw [if_pos rfl]
    rfl
/-- the places of a way -/
abbrev plc (t1 : PTab) : List Str := "" :: t1.map (·.1)
theorem dir_keys {t1 t2 : PTab} {t3 : STab} (n0 : ("" : Str) ∉ t1.map (·.1)) {x y : Str} : (x, y) ∈ (dir t1 t2 t3).map (·.1) ↔ x ∈ plc t1 ∧ y ∈ plc t1 := by
  rw [(dir_at n0).keys, List.mem_cons, List.mem_cons]
  constructor
  · rintro (⟨a, b⟩ | ⟨a, b⟩ | ⟨a, b⟩)
    · exact ⟨.inl a, .inl b⟩
    · exact ⟨.inl a, .inr b⟩
    · exact ⟨.inr a, b⟩
  · rintro ⟨a | a, b | b⟩
    · exact .inl ⟨a, b⟩
    · exact .inr (.inl ⟨a, b⟩)
    · exact .inr (.inr ⟨a, .inl b⟩)
    · exact .inr (.inr ⟨a, .inr b⟩)
theorem dir_val {t1 t2 : PTab} {t3 : STab} (n0 : ("" : Str) ∉ t1.map (·.1)) {x y : Str} (hx : x ∈ plc t1) (hy : y ∈ plc t1) : look (dir t1 t2 t3) (x, y) = dd t1 t2 t3 x y := (dir_at n0).val x y ((dir_keys n0).mpr ⟨hx, hy⟩)
/-! the least costs -/
def lc (t1 t2 : PTab) (t3 : STab) : STab := fw (plc t1) (dir t1 t2 t3)
theorem relx_keys {D : STab} {v x y : Str} (h : (x, y) ∈ D.map (·.1)) : (relx D v x y).map (·.1) = D.map (·.1) := setT_in h
theorem fw3_keys {v x : Str} : ∀ (ys : List Str) (D : STab), (∀ y ∈ ys, (x, y) ∈ D.map (·.1)) → (ys.foldl (fun D y => relx D v x y) D).map (·.1) = D.map (·.1)
  | [], D, _ => rfl
  | y :: ys, D, h => by
    have e := relx_keys (v := v) (h y List.mem_cons_self)
    rw [List.foldl_cons, fw3_keys ys _ (fun u hu => by rw [e]; exact h u (List.mem_cons_of_mem _ hu)), e]
theorem fw2_keys {P : List Str} {v : Str} : ∀ (xs : List Str) (D : STab), (∀ x ∈ xs, ∀ y ∈ P, (x, y) ∈ D.map (·.1)) → (xs.foldl (fun D x => fw3 P v x D) D).map (·.1) = D.map (·.1)
  | [], D, _ => rfl
  | x :: xs, D, h => by
    have e : (fw3 P v x D).map (·.1) = D.map (·.1) := fw3_keys P D (h x List.mem_cons_self)
    rw [List.foldl_cons, fw2_keys xs _ (fun u hu y hy => by rw [e]; exact h u (List.mem_cons_of_mem _ hu) y hy), e]
theorem fw_keys {P : List Str} : ∀ (vs : List Str) (D : STab), (∀ x ∈ P, ∀ y ∈ P, (x, y) ∈ D.map (·.1)) → (vs.foldl (fun D v => fw2 P v D) D).map (·.1) = D.map (·.1)
  | [], D, _ => rfl
  | v :: vs, D, h => by
    have e : (fw2 P v D).map (·.1) = D.map (·.1) := fw2_keys (P := P) P D h
    rw [List.foldl_cons, fw_keys vs _ (fun x hx y hy => by rw [e]; exact h x hx y hy), e]
theorem lc_keys {t1 t2 : PTab} {t3 : STab} (n0 : ("" : Str) ∉ t1.map (·.1)) : (lc t1 t2 t3).map (·.1) = (dir t1 t2 t3).map (·.1) := fw_keys _ _ fun x hx y hy => (dir_keys n0).mpr ⟨hx, hy⟩
/-- what a way costs -/
def cc (t1 t2 : PTab) (t3 : STab) (x y : Str) : Int := look (lc t1 t2 t3) (x, y)
theorem cc_cl {t1 t2 : PTab} {t3 : STab} (n0 : ("" : Str) ∉ t1.map (·.1)) (g : ∀ x ∈ plc t1, ∀ y ∈ plc t1, 0 ≤ dd t1 t2 t3 x y) : IsCl (plc t1) (dd t1 t2 t3) (cc t1 t2 t3) :=
  fw_cl (fun x hx y hy => dir_val n0 hx hy) (fun x _ => by unfold dd; rw [if_pos rfl]) g
end Mk

set_option Elab.async false
set_option linter.all false
set_option maxRecDepth 100000
set_option maxHeartbeats 4000000
/-! a dict display whose keys are tuples -/
namespace Mk
open PySem PySem.Spec PyProof.Rows L2

abbrev Row3 := List Key × Addr × V
def allT (acc : List (List Key × V)) (ks : List Row3) : List (List Key × V) := ks.foldl (fun a k => L2.putK a k.1 k.2.2) acc
def tDispT (trs : List (TE × TE)) : TE := fun σ H Q => ∀ p, H p = none → tPairs trs σ (upd H p (.dT [])) fun ps H2 => H2 p = some (.dT []) ∧ ∃ ks : List Row3, ps = ks.map (fun k => (V.ref k.2.1, k.2.2)) ∧
  (∀ k ∈ ks, H2 k.2.1 = some (.tup (k.1.map kV))) ∧ ks.length ≤ 15 ∧ Q (.ref p) (upd H2 p (.dT (allT [] ks)))
theorem allT_len : ∀ (ks : List Row3) (acc : List (List Key × V)), (allT acc ks).length ≤ acc.length + ks.length
  | [], acc => by show acc.length ≤ acc.length + 0; omega
  | k :: ks, acc => by
    have a := allT_len ks (L2.putK acc k.1 k.2.2)
    have b := length_putK acc k.1 k.2.2
    show (allT (L2.putK acc k.1 k.2.2) ks).length ≤ _
    rw [List.length_cons]
    omega
theorem kt_all {H : Hp} : ∀ {ks : List Row3} {ws : List (Value × Value)} {acc : List (List Key × V)} {xs : List (List Key × Addr × Value)}, KT H acc xs → VV (ks.map fun k => (V.ref k.2.1, k.2.2)) ws → (∀ k ∈ ks, H k.2.1 = some (.tup (k.1.map kV))) →
    ∃ ps : List (List Key × Addr × Value), KT H (allT acc ks) (storedAllH xs ps) ∧ ps.length = ks.length ∧ ws = ps.map (fun p => (Value.ref p.2.1, p.2.2)) ∧ ∀ p ∈ ps, H p.2.1 = some (.tup (p.1.map kV))
  | [], ws, acc, xs, r, v, _ => by
    cases v
    exact ⟨[], r, rfl, rfl, fun _ m => (nomatch m)⟩
  | k :: ks, ws, acc, xs, r, v, h => by
    rw [List.map_cons] at v
    cases v with
    | @cons _ q _ ws hq t =>
      obtain ⟨a1, a2⟩ := hq
      have a1 : q.1 = Value.ref k.2.1 := a1
      obtain ⟨ps, e1, e2, e3, e4⟩ := kt_all (r.put k.1 (h k List.mem_cons_self) a2) t fun k' hk' => h k' (List.mem_cons_of_mem _ hk')
      refine ⟨(k.1, k.2.1, q.2) :: ps, e1, by rw [List.length_cons, e2, List.length_cons], ?_, fun p hp => ?_⟩
      · rw [List.map_cons, ← e3, ← a1]
      · rcases List.mem_cons.mp hp with rfl | hp
        · exact h k List.mem_cons_self
        · exact e4 p hp
theorem carries_all {P : Program} {w : World} {h : Heap} : ∀ {ps : List (List Key × Addr × Value)}, (∀ p ∈ ps, (tupleKind (mixKind P w)).is h p.1 p.2.1) → CarriesH (tupleKind (mixKind P w)) h (ps.map fun p => (Value.ref p.2.1, p.2.2)) ps
  | [], _ => True.intro
  | p :: ps, a => ⟨rfl, rfl, a p List.mem_cons_self, carries_all fun q hq => a q (List.mem_cons_of_mem _ hq)⟩
theorem pe_dispT {X : Cx} {pos : Pos} {keys : List (Option Expr)} {values : List Expr} {trs : List (TE × TE)} (hu : X.A.units + 1 < cLine) (h : PPs X pos keys values trs) (hall : keys.all (·.isSome) = true) (hl : keys.length = values.length) (h0 : keys ≠ [])
    (h15 : keys.length ≤ 15) : PE X (.Dict keys values pos) (tDispT trs) := by
  refine ⟨fun pins s σ H Q I q => ?_⟩
  have nn := I.hok.fresh (Nat.le_refl s.heap.objs.size)
  have I1 := I.laid (a := s.heap.objs.size) (o := .dT []) (t' := s.toks) (fun _ _ z => Heap.get?_push_of_some _ z) (Nat.le_refl _) (dt_empty s.heap I.big)
  have ln := pairTrees_length keys values X.env pos hall hl
  have ne : pairTrees keys values X.env pos ≠ [] := fun e => by
    rw [e] at ln
    exact h0 (List.length_eq_zero_iff.mp ln.symm)
  rw [arm_eval_Dict, zip_pairTrees keys values X.env pos hall hl, dictDisplay_pairs _ ne (by omega)]
  refine wpAny_bind (wpAny_standAt (wpAny_bind ?_))
  refine wpAny_subDictH (knd := tupleKind (mixKind X.prog X.w)) (show (tupleKind (mixKind X.prog X.w)).room X.A from Nat.lt_of_succ_lt hu) (by omega) ?_
  refine thn (h.run pins _ σ _ _ I1 (q _ nn)) fun ws s2 z => ?_
  obtain ⟨ps, H2, I2, rel, e, ks, rfl, hk, lk, q2⟩ := z
  obtain ⟨lo, hs, xs, rk, dd⟩ := dt_of I2.hok e
  cases rk
  obtain ⟨rs, k1, k2, rfl, k4⟩ := kt_all (H := H2) (acc := []) (xs := []) .nil rel hk
  refine ⟨rs, carries_all fun p hp => key_of I2.hok (k4 p hp), dd, fun h' tk dd' ext => wpAny_pure ⟨.ref s.heap.objs.size, _, ?_, rfl, q2⟩⟩
  have k1' := k1.keeps (H' := upd H2 s.heap.objs.size (.dT (allT [] ks))) fun c ys ec => by
    have n : c ≠ s.heap.objs.size := fun z => by
      rw [z, e] at ec
      cases ec
    rw [upd_ne n]
    exact ec
  have lz : (allT [] ks).length ≤ sizeLine := by
    have := allT_len ks []
    rw [List.length_nil] at this
    rw [sizeLine_eq]
    omega
  have ⟨o, es, ep, ho, h2, h3, h4, _, h5⟩ := dd'
  exact d_write I2 (by rw [e]; exact True.intro) ext ⟨o, ho⟩ ⟨lz, hs, _, k1', o, es, ep, ho, h2, h3, h4, h5⟩
end Mk

set_option Elab.async false
set_option linter.all false
set_option maxRecDepth 100000
set_option maxHeartbeats 1000000
/-! _direct_costs -/
namespace Mk
open PySem PySem.Spec L2 PyProof.Rows

abbrev sDirC : Stmt := top 36
/-- all but the dict at c stands, and at c the ways of D have their costs -/
structure Wy (H0 H1 : Hp) (c : Addr) (D : STab) : Prop where
  same : ∀ b o, b ≠ c → H0 b = some o → H1 b = some o
  out : H1 c = some (.dT (kvsS D))
theorem Wy.new {H0 H1 : Hp} {c t : Addr} {D : STab} {o : HO} (W : Wy H0 H1 c D) (ht : H1 t = none) : Wy H0 (upd H1 t o) c D := by
  refine ⟨fun b u n e => ?_, ?_⟩
  · have := W.same b u n e
    rw [upd_ne (ne_of_none this ht)]
    exact this
  · rw [upd_ne (ne_of_none W.out ht)]
    exact W.out
theorem Wy.get {H0 H1 : Hp} {c t : Addr} {D : STab} {x y : Str} (W : Wy H0 H1 c D) (ht : H1 t = none) (hk : (x, y) ∈ D.map (·.1)) : DGet (upd H1 t (.tup [.str x, .str y])) c (.ref t) (some (V.int (look D (x, y)))) :=
  .inr ⟨kvsS D, keyOf (x, y), t, .inl (W.new ht).out, rfl, upd_same, (valS hk).symm⟩
theorem Wy.put {H0 H1 : Hp} {c t : Addr} {D : STab} {x y : Str} {i : Int} (W : Wy H0 H1 c D) (ht : H1 t = none) (hl : D.length < 1000) : ∃ H4, DPut (upd H1 t (.tup [.str x, .str y])) c (.ref t) (.int i) H4 ∧ Wy H0 H4 c (setT D (x, y) i) := by
  have W2 := W.new (o := .tup [.str x, .str y]) ht
  refine ⟨_, .inr ⟨kvsS D, keyOf (x, y), t, W2.out, rfl, upd_same, ?_, rfl⟩, fun b u n e => ?_, ?_⟩
  · rw [kvsS_len]
    exact Nat.lt_of_lt_of_le hl (by decide)
  · rw [upd_ne n]
    exact W2.same b u n e
  · rw [upd_same, putS_set]
theorem getP {H : Hp} {d : Addr} {t : PTab} {k : Str} (h : Rd H d (.dK (kvsP t))) (hk : k ∈ t.map (·.1)) : DGet H d (.str k) (some (V.int (look t k))) := .inl ⟨kvsP t, Sum.inr k, h, rfl, (valP hk).symm⟩
theorem dget_S (t : STab) (k : Str × Str) (z : Int) : (valV (kvsS t) (keyOf k)).getD (V.int z) = V.int (dget t k z) := by
  unfold dget
  by_cases m : k ∈ t.map (·.1)
  · rw [valS m, if_pos m]
    rfl
  · rw [noS m, if_neg m]
    rfl
def spDir : Sp := fun vs H Q _ => ∃ (p o s : Addr) (t1 t2 : PTab) (t3 : STab), vs = [.ref p, .ref o, .ref s] ∧ p ≠ o ∧ Tabs H p o s t1 t2 t3 ∧ (∀ k ∈ t1.map (·.1), k ∈ t2.map (·.1)) ∧ t1.length ≤ 5 ∧
  ∀ H' c, Same H H' → H c = none → H' c = some (.dT (kvsS (dir t1 t2 t3))) → Q (.ref c) H'
abbrev nDir : List Str := ["put", "out", "swap", "costs", "one", "other"]
section
variable {P : Program} {w : World} {K : PySem.W.Frag} {mg : Str → Option Value} {base : Heap}
theorem scDirC : FnScope nDir ["put", "out", "swap"] (defScope sDirC) := ⟨rfl, rfl, rfl, by decide +kernel, rfl, by decide +kernel, by decide +kernel⟩
theorem ok_dir {f : Addr} {fd : FuncData} (F : Fun K "_direct_costs" "_direct_costs" sDirC f fd) : FnOk P w K mg base CX0 1 f fd ["put", "out", "swap"] spDir := by
  refine F.ok scDirC (fun vs H Q E h => ?_) (fun cdv A outer s H vs Q E hr h => ?_)
  · obtain ⟨p, o, s, t1, t2, t3, rfl, _⟩ := h
    rfl
  · have hu := hu_of hr
    obtain ⟨p, o, s, t1, t2, t3, rfl, po, hT, sub, hl, q⟩ := h
    refine ⟨_, pss_cons (ps_set (i := 3) scDirC.nd rfl (.inl rfl) (pe_dispT hu (pps_cons (pe_tup (pa_cons pe_str (pa_cons pe_str pa_nil))) pe_int pps_nil) rfl rfl (by decide) (by decide)))
      (pss_cons (ps_lock (ps_for PassesOwn.never rfl (pi_keys (pv 0)) (pg_name (i := 4) scDirC.nd rfl (.inl rfl))
        (pss_cons (ps_dput hu (pv 3) (pe_tup (pa_cons pe_str (pa_cons (pv 4) pa_nil))) (pe_dget hu (pv 0) (pv 4) (fun _ _ => rfl)) rfl)
        (pss_cons (ps_dput hu (pv 3) (pe_tup (pa_cons (pv 4) (pa_cons pe_str pa_nil))) (pe_dget hu (pv 1) (pv 4) (fun _ _ => rfl)) rfl)
        (pss_cons (ps_for PassesOwn.never rfl (pi_keys (pv 0)) (pg_name (i := 5) scDirC.nd rfl (.inl rfl))
          (pss_one (ps_dput hu (pv 3) (pe_tup (pa_cons (pv 4) (pa_cons (pv 5) pa_nil))) (pe_dget2 hu (pv 2) (pe_tup (pa_cons (pv 4) (pa_cons (pv 5) pa_nil))) (pe_op op_add (pe_dget hu (pv 1) (pv 4) (fun _ _ => rfl)) (pe_dget hu (pv 0) (pv 5) (fun _ _ => rfl))) ⟨rfl, rfl, rfl, rfl⟩) rfl)))
        (pss_one (ps_dput hu (pv 3) (pe_tup (pa_cons (pv 4) (pa_cons (pv 4) pa_nil))) pe_int rfl)))))))
      (pss_one (ps_ret (pv 3)))), ?_⟩
    have n2 : 2 ≤ sizeLine := by decide
    refine fun c hc => ⟨n2, fun t ht => ⟨?_, [([Sum.inr "", Sum.inr ""], t, V.int 0)], rfl, ?_, (by show 1 ≤ 15; decide), ?_⟩⟩
    · rw [upd_ne (ne_of_none upd_same ht)]
      exact upd_same
    · intro k hk
      rw [List.mem_singleton.mp hk]
      exact upd_same
    have hH0 : ∀ b u, H b = some u → (upd (upd (upd H c (.dT [])) t (.tup [.str "", .str ""])) c (.dT (allT [] [([Sum.inr "", Sum.inr ""], t, V.int 0)]))) b = some u := fun b u e => by
      have h1 := ne_of_none e hc
      have h2 : (upd H c (.dT [])) b = some u := by rw [upd_ne h1]; exact e
      rw [upd_ne h1, upd_ne (ne_of_none h2 ht)]
      exact h2
    have hc0 : (upd (upd (upd H c (.dT [])) t (.tup [.str "", .str ""])) c (.dT (allT [] [([Sum.inr "", Sum.inr ""], t, V.int 0)]))) c = some (.dT (kvsS dir0)) := upd_same
    generalize upd (upd (upd H c (.dT [])) t (.tup [.str "", .str ""])) c (.dT (allT [] [([Sum.inr "", Sum.inr ""], t, V.int 0)])) = H0 at hH0 hc0 ⊢
    have pc : p ≠ c := ne_of_none hT.p hc
    have oc : o ≠ c := ne_of_none hT.o hc
    have sc : s ≠ c := ne_of_none hT.s hc
    refine ⟨p, _, hH0 _ _ hT.p, trivial, fun od => ⟨_, rfl, p, od, rfl, .inl ⟨kvsP t1, upd_same, ?_⟩⟩⟩
    have hL : ∀ b u, b ≠ p → H0 b = some u → (upd H0 p (.frz od (.dK (kvsP t1)))) b = some u := fun b u n e => by
      rw [upd_ne n]
      exact e
    have ep : (upd H0 p (.frz od (.dK (kvsP t1)))) p = some (.frz od (.dK (kvsP t1))) := upd_same
    have eo := hL o _ po.symm (hH0 _ _ hT.o)
    have es := hL s _ (fun e => by
      have h1 := hT.s
      rw [e, hT.p] at h1
      cases h1) (hH0 _ _ hT.s)
    have ec := hL c _ pc.symm hc0
    generalize hHL : upd H0 p (.frz od (.dK (kvsP t1))) = HL at hL ep eo es ec ⊢
    have lk : (t1.map (·.1)).length ≤ 5 := by rw [List.length_map]; exact hl
    refine for_it (walk_keys (d := p) (o := od) (kvs := kvsP t1)) (fun i σ H1 => (∃ u v, σ = [some (.ref p), some (.ref o), some (.ref s), some (.ref c), u, v]) ∧ Wy HL H1 c (dirL t1 t2 t3 (t1.map (·.1)) ((t1.map (·.1)).take i))) ?_ (fun i σ H1 _ h1 => h1.2.same _ _ pc ep) ?_ ?_
    · exact ⟨⟨_, _, rfl⟩, fun b u _ e => e, ec⟩
    · rintro i x σ H1 H2 hi ⟨⟨u, v, rfl⟩, W⟩ ⟨rfl, k, vv, hx, rfl⟩
      have hi2 : i < t1.length := by rwa [kvsP_len] at hi
      rw [kvsP_at hi2] at hx
      cases hx
      have mk : t1[i].1 ∈ t1.map (·.1) := List.mem_map.mpr ⟨_, List.getElem_mem hi2, rfl⟩
      have hi3 : i < (t1.map (·.1)).length := by rwa [List.length_map]
      have eone : (t1.map (·.1))[i] = t1[i].1 := List.getElem_map _
      have nx : dirL t1 t2 t3 (t1.map (·.1)) ((t1.map (·.1)).take (i + 1)) = dirO t1 t2 t3 (t1.map (·.1)) (dirL t1 t2 t3 (t1.map (·.1)) ((t1.map (·.1)).take i)) t1[i].1 := by
        rw [← eone]
        exact foldl_take _ _ _ hi3
      have lD : (dirL t1 t2 t3 (t1.map (·.1)) ((t1.map (·.1)).take i)).length ≤ 41 := by
        have a := dirL_len t1 t2 t3 (t1.map (·.1)) ((t1.map (·.1)).take i) dir0
        have b : ((t1.map (·.1)).take i).length ≤ 5 := by rw [List.length_take]; omega
        have c : ((t1.map (·.1)).take i).length * ((t1.map (·.1)).length + 3) ≤ 5 * 8 := Nat.mul_le_mul b (by omega)
        have d : dir0.length = 1 := rfl
        exact Nat.le_trans a (by omega)
      rw [nx]
      generalize dirL t1 t2 t3 (t1.map (·.1)) ((t1.map (·.1)).take i) = D at W lD ⊢
      generalize t1[i].1 = one at mk ⊢
      clear nx eone hi hi2 hi3
      have fp : ∀ {H1 : Hp} {D : STab}, Wy HL H1 c D → Rd H1 p (.dK (kvsP t1)) := fun W => .inr ⟨od, W.same _ _ pc ep⟩
      have fo : ∀ {H1 : Hp} {D : STab}, Wy HL H1 c D → Rd H1 o (.dK (kvsP t2)) := fun W => .inl (W.same _ _ oc eo)
      refine ⟨_, rfl, _, rfl, p, _, rfl, getP (fp W) mk, _, rfl, _, rfl, n2, fun a1 ha1 => ?_⟩
      obtain ⟨H3, d3, W3⟩ := W.put (x := "") (y := one) (i := look t1 one) ha1 (by omega)
      refine ⟨c, H3, rfl, d3, ?_⟩
      refine ⟨_, rfl, _, rfl, o, _, rfl, getP (fo W3) (sub _ mk), _, rfl, _, rfl, n2, fun a2 ha2 => ?_⟩
      have l3 := len_setT D (("" : Str), one) (look t1 one)
      obtain ⟨H4, d4, W4⟩ := W3.put (x := one) (y := "") (i := look t2 one) ha2 (by omega)
      refine ⟨c, H4, rfl, d4, ?_⟩
      have l4 := len_setT (setT D (("" : Str), one) (look t1 one)) (one, ("" : Str)) (look t2 one)
      have e4 : setT (setT D (("" : Str), one) (look t1 one)) (one, ("" : Str)) (look t2 one) = dirA t1 t2 D one := rfl
      rw [e4] at l4 W4
      refine ⟨_, rfl, p, od, rfl, .inl ⟨kvsP t1, W4.same _ _ pc ep, ?_⟩⟩
      refine for_it (walk_keys (d := p) (o := od) (kvs := kvsP t1)) (fun j σ H1 => (∃ v, σ = [some (.ref p), some (.ref o), some (.ref s), some (.ref c), some (.str one), v]) ∧ Wy HL H1 c (dirI t1 t2 t3 one ((t1.map (·.1)).take j) (dirA t1 t2 D one))) ?_ (fun i σ H1 _ h1 => h1.2.same _ _ pc ep) ?_ ?_
      · exact ⟨⟨_, rfl⟩, W4⟩
      · rintro j x σ H5 H6 hj ⟨⟨v, rfl⟩, W5⟩ ⟨rfl, k, vv, hx, rfl⟩
        have hj2 : j < t1.length := by rwa [kvsP_len] at hj
        rw [kvsP_at hj2] at hx
        cases hx
        have mo : t1[j].1 ∈ t1.map (·.1) := List.mem_map.mpr ⟨_, List.getElem_mem hj2, rfl⟩
        have hj3 : j < (t1.map (·.1)).length := by rwa [List.length_map]
        have nx : dirI t1 t2 t3 one ((t1.map (·.1)).take (j + 1)) (dirA t1 t2 D one) = dirS t1 t2 t3 one (dirI t1 t2 t3 one ((t1.map (·.1)).take j) (dirA t1 t2 D one)) t1[j].1 := by
          have e : (t1.map (·.1))[j] = t1[j].1 := List.getElem_map _
          rw [← e]
          exact foldl_take _ _ _ hj3
        have l5 := dirI_len t1 t2 t3 one ((t1.map (·.1)).take j) (dirA t1 t2 D one)
        rw [List.length_take] at l5
        rw [nx]
        generalize dirI t1 t2 t3 one ((t1.map (·.1)).take j) (dirA t1 t2 D one) = D5 at W5 l5 ⊢
        generalize t1[j].1 = other at mo ⊢
        have hs5 := W5.same _ _ sc es
        refine ⟨_, rfl, s, rfl, .inr ⟨_, .inl hs5⟩, _, rfl, _, rfl, n2, fun a3 ha3 => ?_⟩
        have W6 := W5.new (o := .tup [.str one, .str other]) ha3
        refine ⟨_, rfl, _, rfl, o, _, rfl, getP (fo W6) (sub _ mk), _, rfl, _, rfl, p, _, rfl, getP (fp W6) mo, _, _, rfl, rfl, _, .inr ⟨kvsS t3, keyOf (one, other), a3, .inl (W6.same _ _ sc es), rfl, upd_same, rfl⟩, ?_⟩
        rw [dget_S]
        refine ⟨_, rfl, _, rfl, _, rfl, n2, fun a4 ha4 => ?_⟩
        obtain ⟨H7, d7, W7⟩ := W6.put (x := one) (y := other) (i := dget t3 (one, other) (look t2 one + look t1 other)) ha4 (by omega)
        exact ⟨c, H7, rfl, d7, ⟨_, rfl⟩, W7⟩
      · rintro σ H5 ⟨⟨v, rfl⟩, W5⟩
        rw [kvsP_len, ← List.length_map (f := fun x : Str × Int => x.1), List.take_length] at W5
        have l5 := dirI_len t1 t2 t3 one (t1.map (·.1)) (dirA t1 t2 D one)
        refine ⟨_, rfl, _, rfl, _, rfl, n2, fun a3 ha3 => ?_⟩
        obtain ⟨H7, d7, W7⟩ := W5.put (x := one) (y := one) (i := 0) ha3 (by omega)
        exact ⟨c, H7, rfl, d7, ⟨_, _, rfl⟩, W7⟩
    · rintro σ H1 ⟨⟨u, v, rfl⟩, W⟩
      rw [kvsP_len, ← List.length_map (f := fun x : Str × Int => x.1), List.take_length] at W
      refine ⟨W.same _ _ pc ep, _, rfl, q _ c (fun b u e => ?_) hc ?_⟩
      · by_cases hb : b = p
        · subst hb
          rw [hT.p] at e
          cases e
          exact upd_same
        · rw [upd_ne hb]
          exact W.same _ _ (ne_of_none e hc) (hL b u hb (hH0 b u e))
      · rw [upd_ne pc.symm]
        exact W.out
end
end Mk

set_option Elab.async false
set_option linter.all false
set_option maxRecDepth 100000
set_option maxHeartbeats 4000000
namespace Mk
open PySem PySem.Spec L2 PyProof.Rows

/-- a def of the class that is read as a property -/
abbrev tb (a b c : Addr) : List (Key × V) := [(Sum.inr ("put" : Str), V.ref a), (Sum.inr ("out" : Str), V.ref b), (Sum.inr ("swap" : Str), V.ref c)]
structure Pd (P : Program) (w : World) (K : PySem.W.Frag) (mg : Str → Option Value) (base : Heap) (C : Addr) (k : Nat) (f : Str) (sp : Sp) : Prop where
  ex : ∃ (p g : Addr) (fd : FuncData), PropOf K C f p g ∧ FnOk P w K mg base CX0 k g fd ["self"] sp ∧ Binds K fd ["self"] []
section
variable {P : Program} {w : World} {K : PySem.W.Frag} {mg : Str → Option Value} {base : Heap}
end
end Mk

set_option Elab.async false
set_option linter.all false
set_option maxRecDepth 100000
set_option maxHeartbeats 4000000
/-! a class's own len, in, str, == and != -/
namespace Mk
open PySem PySem.Spec L2 PyProof.Rows

/-- the def g of the class at C under this name -/
structure OwnD (K : PySem.W.Frag) (C g : Addr) (name : Str) : Prop where
  find : PySem.W.findIn K (.ref C) name = some (some (.ref g))
  fn : PySem.W.isFn K (.ref g) = true
/-- it, with its promise -/
structure OwnF (X : Cx) (C : Addr) (n : Nat) (name : Str) (ps : List Str) (sp : Sp) : Prop where
  ex : ∃ (g : Addr) (fd : FuncData), OwnD X.K C g name ∧ FnOk X.prog X.w X.K X.mg X.base CX0 n g fd ps sp ∧ Binds X.K fd ps []
section
variable {X : Cx} {n : Nat} {C g : Addr} {fd : FuncData} {ps : List Str} {sp : Sp} {pins : List (Addr × Obj)} {σ : L2.St} {H : Hp} {s : Shared} {name : Str} {Q : VK}
theorem own_run (F : FnOk X.prog X.w X.K X.mg X.base CX0 n g fd ps sp) (hb : Binds X.K fd ps []) {A : Around} (sb : Sub X n A) (I : Inv X pins σ H s) {vs : List V} {us : List Value} (r : Vals vs us) (hsp : sp vs H Q (fun _ _ _ => False)) :
    wpAny (model X.prog X.w) A (call (.ref g) us) (fun v s' => ∃ x H', Inv X pins σ H' s' ∧ RelV x v ∧ Q x H') X.xe s := by
  have e1 := I.env0
  have e0 : Env0 X.prog X.w X.K X.mg X.base A X.stack s H := ⟨sb.fr.trans e1.frames, e1.mod, e1.bs, e1.bsz, e1.funs, e1.frf, e1.hok, e1.bare⟩
  have lu : us.length = ps.length := r.length.symm.trans (F.len _ _ _ _ hsp)
  have bd := hb s us I.kIn (by simpa using lu)
  rw [List.append_nil] at bd
  refine wpAny_call (codeAny_mono (F.run A X.stack s H ⟨us, []⟩ us vs Q _ sb.room e0 bd r hsp) fun res s' z => ?_)
  match res, z with
  | .error e, z => exact pass0 pins σ H s e s' I z
  | .ok (.ret u), z => exact I.after z
  | .ok .next, z => exact z.elim
  | .ok .brk, z => exact z.elim
  | .ok .cont, z => exact z.elim
theorem sub_1 {A : Around} (hr : Room (n + 1) X.A) : Sub X n X.A.in1 := ⟨hr.in1, rfl⟩
/-- what stands behind a token more -/
theorem inv_tok {t : Nat} (I : Inv X pins σ H s) : Inv X pins σ H { s with toks := t } := by
  have := I.kept (h' := s.heap) (t' := t) fun _ _ e => e
  exact this
theorem call_len_own (O : OwnF X C n "__len__" ps sp) (hr : Room (n + 1) X.A) : CallR X (.builtin "len") (fun xs H Q => ∃ a dx fs, xs = [.ref a] ∧ H a = some (.ins C dx fs) ∧ sp [.ref a] H (fun v H' => ∃ k : Nat, v = .int k ∧ k < 2 ^ 63 ∧ Q v H') (fun _ _ _ => False)) := by
  intro pins s σ H xs us Q I r h
  obtain ⟨a, dx, fs, rfl, ha, h⟩ := h
  obtain ⟨u, rfl, hu⟩ := vals1 r
  obtain rfl : u = Value.ref a := hu
  obtain ⟨g, fd, D, F, hb⟩ := O.ex
  obtain ⟨mA, J, _⟩ := ins_get I.hok ha
  obtain ⟨od, J, _⟩ := J.look
  obtain ⟨m, hF⟩ := I.fr
  refine PySem.W.len_K hF I.ok.mod.kin J D.find D.fn (wpAny_mono (own_run F hb (sub_1 (A := X.A) hr) I r h) (fun v s' z => ?_) fun _ _ z => z)
  obtain ⟨x, H', I', rx, k, rfl, hk, q⟩ := z
  obtain ⟨t, rfl⟩ := rx
  exact ⟨⟨by omega, by omega⟩, .int k, H', inv_tok I', ⟨_, rfl⟩, q⟩
/-- x in o -/
def rInOwn (C : Addr) (sp : Sp) : R2 := fun x y H Q => ∃ a dx fs, y = .ref a ∧ H a = some (.ins C dx fs) ∧ sp [.ref a, x] H (fun v H' => ∃ b, v = .bl b ∧ Q v H') (fun _ _ _ => False)
theorem op_in_own (O : OwnF X C n "__contains__" ps sp) (hr : Room n X.A) : OpR X (compareOp .In) (rInOwn C sp) := by
  intro pins s σ H x y v u Q I rx ry h
  obtain ⟨a, dx, fs, rfl, ha, h⟩ := h
  obtain rfl : u = Value.ref a := ry
  obtain ⟨g, fd, D, F, hb⟩ := O.ex
  obtain ⟨mA, J, _⟩ := ins_get I.hok ha
  obtain ⟨od, J, _⟩ := J.look
  obtain ⟨m, hF⟩ := I.fr
  refine PySem.W.in_K hF I.ok.mod.kin J D.find D.fn (wpAny_mono (own_run (vs := [.ref a, x]) F hb ⟨hr, rfl⟩ I (.cons rfl (.cons rx .nil)) h) (fun w s' z => ?_) fun _ _ z => z)
  obtain ⟨x', H', I', rx', b, rfl, q⟩ := z
  obtain rfl : w = Value.bool b := rx'
  exact wpAny_truthy_bool ⟨.bl b, H', I', rfl, q⟩
end
end Mk

set_option Elab.async false
set_option linter.all false
set_option maxRecDepth 100000
set_option maxHeartbeats 1000000
namespace Mk
open PySem PySem.Spec L2 PyProof.Rows

abbrev sContP : Stmt := inClass (top 26) 13
abbrev sHave : Stmt := top 28
/-- data, an empty dict too -/
inductive Da (K : PySem.W.Frag) (H : Hp) : V → PyData → Prop where
  | of {v : V} {d : PyData} : Dp K H v d → SeqAt.shaped d = true → Da K H v d
  | dic {a : Addr} : H a = some (.dK []) → Da K H (.ref a) (.dict [])
/-- it is one of these texts -/
def inS (zs : List Str) : PyData → Bool
  | .str z => decide (z ∈ zs)
  | _ => false
theorem any_inS : ∀ (zs : List Str) (d : PyData), ((zs.map PyData.str).any fun y => PyData.eqv y d) = inS zs d
  | [], .str z => by simp [inS]
  | [], .none | [], .bool _ | [], .int _ | [], .list _ | [], .tuple _ | [], .dict _ => by simp [inS]
  | x :: zs, .str z => by
    have ih := any_inS zs (.str z)
    rw [List.map_cons, List.any_cons, ih]
    unfold inS
    have e : PyData.eqv (.str x) (.str z) = decide (x = z) := by
      show (x == z) = decide (x = z)
      by_cases h : x = z
      · rw [decide_eq_true h, h, beq_self_eq_true]
      · rw [decide_eq_false h, beq_eq_false_iff_ne.mpr h]
    rw [e]
    by_cases h : x = z
    · subst h
      simp
    · have h2 : ¬ z = x := fun k => h k.symm
      simp [h, h2]
  | x :: zs, .none | x :: zs, .bool _ | x :: zs, .int _ | x :: zs, .list _ | x :: zs, .tuple _ | x :: zs, .dict _ => by
    rw [List.map_cons, List.any_cons, any_inS zs _]
    simp [inS, PyData.eqv]
theorem strs_read {h : Heap} : ∀ {zs : List Str} {vs : List Value} {as : List Addr}, ReadsAll h vs (zs.map PyData.str) as → ∀ y ∈ vs, ∃ (z : Str) (t : Tok), y = .str z t
  | [], _, _, .nil, _, hy => nomatch hy
  | z :: zs, _, _, .cons r1 r2, y, hy => by
    rcases List.mem_cons.mp hy with rfl | hy
    · cases r1
      exact ⟨_, _, rfl⟩
    · exact strs_read r2 y hy
theorem lay_strs' (zs : List Str) (h : ∀ z ∈ zs, PyData.strOk z = true) : PyData.canLayAll0 (zs.map PyData.str) = true := lay_strs zs h
section
variable {A : Around} {s : Shared}
/-- a text is no dict -/
theorem eq_str_dict {d : Addr} {o : Obj} {es : Array DictEntry} {ep : Nat} (b : Str) (u : Tok) (ho : s.heap.get? d = some o) (hx : o.ExactDict) (hd : o.data = .dict es ep) (hu : A.units < cLine) : SeqAt.EqAt A s (.str b u) (.ref d) false := fun prog w E Q h => by
  have ty : s.TypeIs (.ref d) "dict" := ⟨o, ho, hx.1⟩
  have f1 : wpAny (model prog w) A (richCompare .Eq (.str b u) (.ref d)) (fun v s' => v = .bool false ∧ s' = s) E s := by
    refine SeqAt.rc_eq_decline_or (k := false) (typeIs_str s b u) ty (by decide) PySem.F.sub_dict_str PySem.F.slot_str_eq PySem.F.slot_dict_eq_refl (fun Q' hq => ?_) (fun Q' hq => ?_) (fun Q' hq => wpAny_of_eq (rfl : isSame (.str b u) (.ref d) = pure false) hq) (.inr hu) ⟨rfl, rfl⟩
    · refine wpAny_call_entry PySem.F.slot_str_eq (typeIs_str s b u) PySem.F.entry_str_eq ?_ (PySem.F.args_str_eq_2 _ _)
      wp_walk using wpAny_load ho
      rw [hd]
      refine wpAny_pure (wpAny_bind (wpAny_rule (wpAny_pure ⟨_, rfl, hq⟩)))
    · refine wpAny_call_entry PySem.F.slot_dict_eq ty PySem.F.entry_dict_eq ?_ (PySem.F.args_dict_eq_2 _ _)
      show wpAny (model prog w) _ (Builtin.Dict.dictSlotArgs "__eq__" ⟨[.ref d, .str b u], []⟩ >>= _) _ _ s
      unfold Builtin.Dict.dictSlotArgs
      refine wpAny_bind (wpAny_bind (wpAny_notOrdered_dict ty ?_))
      show wpAny (model prog w) _ (pure (Value.ref d, Value.str b u)) _ _ s
      refine wpAny_pure (wpAny_bind (wpAny_isInstance (T := "str") (typeIs_str s b u) PySem.F.sub_str_dict ?_))
      simp only [Bool.not_false, ite_true]
      first
        | exact wpAny_bind (wpAny_rule (wpAny_pure ⟨_, rfl, hq⟩))
        | exact wpAny_rule (wpAny_pure ⟨_, rfl, hq⟩)
        | exact wpAny_bind (wpAny_rule (wpAny_bind (wpAny_pure (wpAny_pure ⟨_, rfl, hq⟩))))
  unfold eqBool
  refine wpAny_holding (wpAny_ite_split (fun hab => absurd (eq_of_beq hab) nofun) fun _ => wpAny_bind (wpAny_mono f1 (fun v s' z => ?_) fun _ _ z => z))
  obtain ⟨rfl, rfl⟩ := z
  exact wpAny_truthy_bool h
end
section
variable {X : Cx}
def rInS (K : PySem.W.Frag) : R2 := fun x y H Q => ∃ p d, ∃ zs : List Str, y = .ref p ∧ SqT K H p (zs.map V.str) ∧ (∀ z ∈ zs, PyData.strOk z = true) ∧ Da K H x d ∧ Q (.bl (inS zs d)) H
theorem op_inS (hu : X.A.units + 65 < cLine) : OpR X (compareOp .In) (rInS X.K) := by
  intro pins s σ H x y v u Q I rx ry h
  obtain ⟨p, d, zs, rfl, hp, ok, hd, q⟩ := h
  obtain ⟨bs, r2⟩ := Dp.reads I (.tuple (zs.map PyData.str)) (.ref p) u (.tup hp (dpAll_str zs)) ry
  have dep : PyData.depthAll (zs.map PyData.str) = 0 := depth_strs zs
  have fin : wpAny (model X.prog X.w) X.A (compareOp .In v u) (EP X pins σ Q) X.xe s → wpAny (model X.prog X.w) X.A (compareOp .In v u) (EP X pins σ Q) X.xe s := id
  have last : EP X pins σ Q (Value.bool ((zs.map PyData.str).any fun y => PyData.eqv y d)) s := by
    rw [any_inS]
    exact ⟨.bl (inS zs d), H, I, rfl, q⟩
  cases hd with
  | of h1 h2 =>
    obtain ⟨as, r1⟩ := Dp.reads I d x v h1 rx
    exact SeqAt.in_tuple_reads r2 r1 (lay_strs' zs ok) (SeqAt.canLay_of_shaped h2) (by rw [dep]; omega) last
  | dic h1 =>
    obtain rfl := rx
    obtain ⟨_, _, vs, kv, o, es, ep, ho, hx, hdt, r⟩ := I.hok _ _ h1
    have e0 : vs = [] := by cases kv; rfl
    subst e0
    have ez : es = #[] := by
      have := r.2.1.length
      simpa using this
    subst ez
    have all : ((zs.map PyData.str).any fun y => PyData.eqv y (.dict [])) = false := any_inS zs (.dict [])
    rw [all] at last
    cases r2 with
    | tuple h1 h2 h3 h4 =>
      refine SeqAt.in_tupleAt (fun _ => false) ⟨_, h1, h2, _, h3⟩ (fun y hy => ?_) (by rw [show (Array.any _ fun _ => false) = false from Array.any_eq_false.mpr (by simp)]; exact last)
      obtain ⟨dy, cs, ry, _, _⟩ := SeqAt.readsAll_mem _ _ _ (lay_strs' zs ok) h4 y (by simpa using hy)
      have hs := strs_read h4 y (by simpa using hy)
      obtain ⟨z, tk, rfl⟩ := hs
      exact eq_str_dict z tk ho hx hdt (by show X.A.units + 1 < cLine; omega)
end
def spCont (K : PySem.W.Frag) (C : Addr) : Sp := fun vs H Q _ => ∃ (x : Addr) (v : V) (d : PyData) (t1 t2 : PTab) (t3 : STab), vs = [.ref x, v] ∧ PrAt C H x t1 t2 t3 ∧ (∀ p ∈ t1, sgB p.1 = true) ∧ Da K H v d ∧ Q (.bl (inS (t1.map (·.1)) d)) H
section
variable {P : Program} {w : World} {K : PySem.W.Frag} {mg : Str → Option Value} {base : Heap}
theorem scContP : FnScope ["self", "value"] ["self", "value"] (defScope sContP) := ⟨rfl, rfl, rfl, by decide +kernel, rfl, by decide +kernel, by decide +kernel⟩
theorem ok_contP {f C : Addr} {fd : FuncData} (F : Fun K "__contains__" "Prices.__contains__" sContP f fd) (T : Pc K C) : FnOk P w K mg base CX0 1 f fd ["self", "value"] (spCont K C) := by
  refine F.ok scContP (fun vs H Q E h => ?_) (fun cdv A outer s H vs Q E hr h => ?_)
  · obtain ⟨x, v, d, t1, t2, t3, rfl, _⟩ := h
    rfl
  · obtain ⟨x, v, d, t1, t2, t3, rfl, ⟨dx, t, a, b, e, hx, ht, hT⟩, sg, hd, q⟩ := h
    have hu : A.units + 3 + 65 < cLine := by
      have h2 : A.units + 3 + 16 * 0 + 200 < cLine := hr.un
      omega
    refine ⟨_, pss_one (ps_ret (pe_cmpR (op_inS hu) (pv 1) (pe_fld (pv 0) rfl) (by rfl))), ?_⟩
    exact ⟨_, rfl, _, rfl, x, C, dx, _, _, rfl, hx, T.cl, T.n1, fld_signs t a b e, t, d, t1.map (·.1), rfl, SqT.of ht, fun z hz => by
      obtain ⟨p, hp, rfl⟩ := List.mem_map.mp hz
      exact sg_ok (sg p hp), hd, q⟩
theorem scHave : FnScope ["prices", "signs", "sign"] ["prices", "signs"] (defScope sHave) := ⟨rfl, rfl, rfl, by decide +kernel, rfl, by decide +kernel, by decide +kernel⟩
end
end Mk

set_option Elab.async false
set_option linter.all false
set_option maxRecDepth 100000
set_option maxHeartbeats 4000000
namespace Mk
open PySem PySem.Spec L2 PyProof.Rows

section
variable {X : Cx}
end
section
variable {P : Program} {w : World} {K : PySem.W.Frag} {mg : Str → Option Value} {base : Heap}
end
end Mk

set_option Elab.async false
set_option linter.all false
set_option maxRecDepth 100000
set_option maxHeartbeats 4000000
namespace Mk
open PySem PySem.Spec L2 PyProof.Rows

abbrev sSignsP : Stmt := inClass (top 26) 2
def spSigns (C : Addr) : Sp := fun vs H Q _ => ∃ (x : Addr) (t1 t2 : PTab) (t3 : STab), vs = [.ref x] ∧ PrAt C H x t1 t2 t3 ∧ ∀ t, H t = some (.tup ((t1.map (·.1)).map V.str)) → Q (.ref t) H
section
variable {P : Program} {w : World} {K : PySem.W.Frag} {mg : Str → Option Value} {base : Heap}
theorem scSignsP : FnScope ["self"] ["self"] (defScope sSignsP) := ⟨rfl, rfl, rfl, by decide +kernel, rfl, by decide +kernel, by decide +kernel⟩
theorem ok_signsP {f C : Addr} {fd : FuncData} (F : Fun K "signs" "Prices.signs" sSignsP f fd) (T : Pc K C) : FnOk P w K mg base CX0 1 f fd ["self"] (spSigns C) := by
  refine F.ok scSignsP (fun vs H Q E h => ?_) (fun cdv A outer s H vs Q E hr h => ?_)
  · obtain ⟨x, t1, t2, t3, rfl, _⟩ := h
    rfl
  · obtain ⟨x, t1, t2, t3, rfl, ⟨dx, t, a, b, d, hx, ht, hT⟩, q⟩ := h
    exact ⟨_, pss_one (ps_ret (pe_fld (pv 0) rfl)), _, rfl, x, C, dx, _, _, rfl, hx, T.cl, T.n1, fld_signs t a b d, q t ht⟩
end
end Mk

set_option Elab.async false
set_option linter.all false
set_option maxRecDepth 100000
set_option maxHeartbeats 1000000
namespace Mk
open PySem PySem.Spec L2 PyProof.Rows

theorem ok_bounds {t : PTab} {m : Int} (hm : m ≤ 18) (h : okP t m = true) : ∀ p ∈ t, 0 ≤ p.2 ∧ p.2 ≤ 100 := fun p hp => by
  have := List.all_eq_true.mp h p hp
  unfold nwB at this
  simp only [Bool.and_eq_true, decide_eq_true_eq] at this
  omega
section
variable {P : Program} {w : World} {K : PySem.W.Frag} {mg : Str → Option Value} {base : Heap}
end
end Mk

set_option Elab.async false
set_option linter.all false
set_option maxRecDepth 100000
set_option maxHeartbeats 1000000
/-! == of two tables, keys texts or pairs of texts -/
namespace Mk
open PySem PySem.Spec L2 PyProof.Rows

section
variable {κ : Type} [DecidableEq κ]
end
section
variable {X : Cx}
end
/-! ### tables of ints -/
end Mk

set_option Elab.async false
set_option linter.all false
set_option maxRecDepth 100000
set_option maxHeartbeats 1000000
/-! d.values() and d.items() as values: list(..), sorted(..), min(.., default=..) of them -/
namespace Mk
open PySem PySem.Spec PyProof.Rows L2

theorem paired_ix {α β : Type} {F : α → β → Prop} : ∀ {xs : List α} {ys : List β}, xs.length = ys.length → (∀ (j : Nat) (x : α) (y : β), xs[j]? = some x → ys[j]? = some y → F x y) → Paired F xs ys
  | [], [], _, _ => .nil
  | [], _ :: _, h, _ => nomatch h
  | _ :: _, [], h, _ => nomatch h
  | x :: xs, y :: ys, h, f => .cons (f 0 x y rfl rfl) (paired_ix (by simpa using h) fun j a b h1 h2 => f (j + 1) a b (by simpa using h1) (by simpa using h2))
/-- the pairs in the dict at a, in order -/
def RawAt (h : Heap) (a : Addr) (ps : List (V × V)) : Prop := (a == sysModules) = false ∧ ps.length ≤ sizeLine ∧ ∃ (es : Array DictEntry) (ep : Nat), DT.Raw h a es ep ∧ Paired (fun (p : V × V) (en : DictEntry) => RelV p.1 en.key ∧ RelV p.2 en.val) ps es.toList
section
variable {P : Program} {w : World} {H : Hp} {h : Heap} {a : Addr}
def psK (kvs : List (Key × V)) : List (V × V) := kvs.map fun p => (kV p.1, p.2)
def psT (qs : List Addr) (kvs : List (List Key × V)) : List (V × V) := (qs.zip kvs).map fun z => (V.ref z.1, z.2.2)
theorem rawK {kvs : List (Key × V)} (ok : HOk P w H h) (e : H a = some (.dK kvs)) : RawAt h a (psK kvs) := by
  obtain ⟨z, lo, vs, rk, o, es, ep, ho, hx, hd, hk, hp, hn⟩ := ok a _ e
  have l1 : kvs.length = vs.length := Paired.length rk
  have l2 : es.toList.length = vs.length := hp.length
  refine ⟨lo, by unfold psK; rw [List.length_map]; exact z, es, ep, ⟨o, ho, hx, hd⟩, paired_ix (by unfold psK; rw [List.length_map]; omega) fun j x en h1 h2 => ?_⟩
  unfold psK at h1
  rw [List.getElem?_map] at h1
  obtain ⟨q, hq, rfl⟩ := Option.map_eq_some_iff.mp h1
  obtain ⟨v, hv, e1, e2⟩ := paired_get rk hq
  obtain ⟨k1, v1⟩ := hp.get? (i := j) (e := en) (k := v.1) (v := v.2) h2 hv
  refine ⟨?_, by rw [v1]; exact e2⟩
  show RelV (kV q.1) en.key
  rw [e1]
  exact relV_key (show keyIs v.1 en.key = true from k1)
theorem rawT {kvs : List (List Key × V)} (ok : HOk P w H h) (e : H a = some (.dT kvs)) : ∃ qs, IsKeys H kvs qs ∧ RawAt h a (psT qs kvs) := by
  obtain ⟨z, lo, xs, rk, o, es, ep, ho, hx, hd, he, hi, hn⟩ := dt_of ok e
  have l1 : kvs.length = xs.length := Paired.length rk
  have l2 : es.toList.length = xs.length := by rw [he, List.length_map]
  refine ⟨_, isKeys_of rk, lo, ?_, es, ep, ⟨o, ho, hx, hd⟩, paired_ix ?_ fun j x en h1 h2 => ?_⟩
  · unfold psT
    rw [List.length_map, List.length_zip, List.length_map]
    omega
  · unfold psT
    rw [List.length_map, List.length_zip, List.length_map]
    omega
  unfold psT at h1
  rw [List.getElem?_map] at h1
  obtain ⟨z, hz, rfl⟩ := Option.map_eq_some_iff.mp h1
  obtain ⟨z1, z2⟩ := List.getElem?_zip_eq_some.mp hz
  rw [List.getElem?_map] at z1
  obtain ⟨x, hx1, e1⟩ := Option.map_eq_some_iff.mp z1
  obtain ⟨x', hx2, _, _, e3⟩ := paired_get rk z2
  have : x' = x := Option.some.inj (hx2.symm.trans hx1)
  subst this
  rw [he, List.getElem?_map, hx1] at h2
  have e4 : entryOfKey (tupleKind (mixKind P w)) x' = en := Option.some.inj h2
  subst e4
  refine ⟨?_, e3⟩
  show RelV (V.ref z.1) (.ref x'.2.1)
  rw [← e1]
  rfl
end
def IsDct (H : Hp) (a : Addr) : Prop := (∃ kvs, H a = some (.dK kvs)) ∨ ∃ kvs, H a = some (.dT kvs)
theorem IsDct.raw {P : Program} {w : World} {H : Hp} {h : Heap} {a : Addr} (ok : HOk P w H h) (d : IsDct H a) : (a == sysModules) = false ∧ ∃ (es : Array DictEntry) (ep : Nat), DT.Raw h a es ep := by
  rcases d with ⟨kvs, e⟩ | ⟨kvs, e⟩
  · obtain ⟨lo, _, es, ep, r, _⟩ := rawK ok e
    exact ⟨lo, es, ep, r⟩
  · obtain ⟨qs, _, lo, _, es, ep, r, _⟩ := rawT ok e
    exact ⟨lo, es, ep, r⟩
section
variable {X : Cx}
def rItms : V → List V → Hp → VK → Prop := fun x xs H Q => ∃ a, x = .ref a ∧ xs = [] ∧ IsDct H a ∧ ∀ p, H p = none → Q (.ref p) (upd H p (DX.itemsO p a))
theorem mt_itms : MtR X "dict.items" rItms := by
  intro pins s σ H x xs v us Q I rx rxs h
  obtain ⟨a, rfl, rfl, hd, q⟩ := h
  cases rx
  cases rxs
  obtain ⟨lo, es, ep, r⟩ := hd.raw I.hok
  refine DT.callItems (es := es) (ep := ep) lo r ?_
  have hf : H s.heap.objs.size = none := I.hok.fresh (Nat.le_refl _)
  exact ⟨.ref s.heap.objs.size, upd H s.heap.objs.size (DX.itemsO s.heap.objs.size a), I.laid (t' := s.toks) (fun b u e => Heap.get?_push_of_some _ e) (Nat.le_refl _) (DX.itemsO_ok (Heap.get?_push_size _ rfl)), rfl, q _ hf⟩
end
/-! ### list(d.items()), sorted(d.items()) -/
section
variable {P : Program} {w : World} {A : Around} {E : Value → Shared → Prop} {s : Shared} {es : Array DictEntry} {ep : Nat} {r d : Addr}
theorem listI {Q : Value → Shared → Prop} (hh : A.handled = none) (hv : s.heap.IsItemsView r d) (hm : DT.Raw s.heap d es ep) (hn : es.size ≤ sizeLine)
    (hQ : ∀ (h' : Heap) (tk : Nat) (acc : Array Value) (c : Nat) (as : List Addr), (∀ b o, s.heap.get? b = some o → h'.get? b = some o) → h'.get? s.heap.objs.size = some { cls := .type "list", dict := none, data := .seq acc c, slots := #[] } → as.length = es.size → DT.Made es s.heap.objs.size h' as → acc.toList = as.map Value.ref →
      Q (.ref s.heap.objs.size) { s with heap := h', toks := tk }) : wpAny (model P w) A (call (.type "list") [.ref r]) Q E s := by
  refine callType_codes (Q₁ := fun obj s1 => obj = .ref s.heap.objs.size ∧ s1 = { s with heap := s.heap.push { cls := .type "list", data := .seq #[] } }) PySem.F.called_list (PySem.F.typeCall_list_1 _) PySem.F.entry_list_init (code_list_new _ ⟨rfl, rfl⟩) fun obj s1 h1 => ?_
  obtain ⟨rfl, rfl⟩ := h1
  have e0 : (s.heap.push { cls := .type "list", data := .seq #[] }).get? s.heap.objs.size = some { cls := .type "list", data := .seq #[] } := Heap.get?_push_size _ rfl
  have lr : r < s.heap.objs.size := let ⟨_, ho, _⟩ := hv; Heap.lt_size ho
  have ld : d < s.heap.objs.size := hm.lt
  refine ⟨⟨_, e0, rfl⟩, PySem.F.args_list_init_2 _ _, ?_⟩
  show wpAny (model P w) A.in1.in1 (do let old ← Builtin.List.listItems (.ref s.heap.objs.size); Builtin.List.listUpdate (.ref s.heap.objs.size) (fun _ => #[]); letGo old.toList.reverse; Builtin.List.listExtendWith (.ref s.heap.objs.size) (.ref r) .none) _ _ _
  refine wpAny_bind ?_
  unfold Builtin.List.listItems
  refine wpAny_bind (wpAny_seqItems e0 rfl (wpAny_pure ?_))
  show wpAny (model P w) A.in1.in1 (updateSeq s.heap.objs.size (fun _ => #[]) >>= fun _ => letGo (#[] : Array Value).toList.reverse >>= fun _ => Builtin.List.listExtendWith (.ref s.heap.objs.size) (.ref r) .none) _ _ _
  refine wpAny_bind (wpAny_updateSeq e0 rfl (wpAny_bind (wpAny_letGo ?_)))
  have e1 := Heap.get?_update_self (Obj.mapSeq (fun _ => (#[] : Array Value))) e0 rfl
  have oth : ∀ b o, b ≠ s.heap.objs.size → s.heap.get? b = some o → ((s.heap.push { cls := .type "list", data := .seq #[] }).update s.heap.objs.size (Obj.mapSeq (fun _ => (#[] : Array Value)))).get? b = some o := fun b o hb e => (Heap.get?_update_other _ _ (Ne.symm hb)).trans (Heap.get?_push_of_some _ e)
  refine DT.extI (A := A.in1) (es := es) (ep := ep) hh (let ⟨o, ho, x⟩ := hv; ⟨o, oth r o (Nat.ne_of_lt lr) ho, x⟩) (hm.at' fun o e => oth d o (Nat.ne_of_lt ld) e) s.heap.objs.size (Nat.ne_of_gt lr) (Nat.ne_of_lt ld) .none _ e1 (fun h' tk acc c as hk hS hl hG ha => ?_) hn
  refine ⟨rfl, hQ h' tk acc c as (fun b o e => ?_) hS hl (hG.low ?_) ha⟩
  · have nb := Nat.ne_of_lt (Heap.lt_size e)
    exact hk b o nb (oth b o nb e)
  · exact Nat.le_of_lt (Heap.lt_size e1)
end
section
variable {X : Cx} {pins : List (Addr × Obj)} {s : Shared} {σ : L2.St} {H : Hp}
/-- the tuples that were made are told -/
theorem made_told {H1 : Hp} {h' : Heap} {tk : Nat} {es : Array DictEntry} {lo : Addr} {as : List Addr} {ps : List (V × V)} (I : Inv X pins σ H s) (I1 : Inv X pins σ H1 { s with heap := h', toks := tk }) (lo0 : s.heap.objs.size ≤ lo) (hG : DT.Made es lo h' as) (hl : as.length = ps.length) (hn : ∀ a ∈ as, H1 a = none)
    (pr : Paired (fun (p : V × V) (en : DictEntry) => RelV p.1 en.key ∧ RelV p.2 en.val) ps es.toList) :
    ∃ H2, Inv X pins σ H2 { s with heap := h', toks := tk } ∧ (∀ b o, H1 b = some o → H2 b = some o) ∧ Paired (fun (t : Addr) (p : V × V) => H2 t = some (.tup [p.1, p.2])) as ps := by
  have nd : as.Nodup := List.Pairwise.imp (fun h => Nat.ne_of_lt h) hG.rise
  obtain ⟨H2, I2, g, q⟩ := DX.takeT (P := fun b vs => ∃ (j : Nat) (p : V × V), as[j]? = some b ∧ ps[j]? = some p ∧ vs = [p.1, p.2]) I as H1 I1 nd fun b hb => by
    obtain ⟨j, hj⟩ := List.mem_iff_getElem?.mp hb
    have hj2 : j < ps.length := by
      obtain ⟨h1, _⟩ := List.getElem?_eq_some_iff.mp hj
      omega
    obtain ⟨en, he, r1, r2⟩ := paired_get pr (List.getElem?_eq_getElem hj2)
    obtain ⟨en', he', hg⟩ := hG.pairs j b hj
    rw [Array.getElem?_toList] at he
    have : en' = en := Option.some.inj (he'.symm.trans he)
    subst this
    refine ⟨Nat.le_trans lo0 (Nat.le_of_lt (hG.above b hb)), hn b hb, [ps[j].1, ps[j].2], ⟨j, ps[j], hj, List.getElem?_eq_getElem hj2, rfl⟩, fun H3 => ⟨(by show 2 ≤ sizeLine; decide), [en'.key, en'.val], .cons r1 (.cons r2 .nil), ⟨_, hg, rfl, 0, rfl⟩⟩⟩
  refine ⟨H2, I2, g, paired_ix hl fun j t p h1 h2 => ?_⟩
  obtain ⟨vs, ⟨i, p', i1, i2, e⟩, hH⟩ := q t (List.mem_of_getElem? h1)
  have eij : i = j := (List.getElem?_inj (List.getElem?_eq_some_iff.mp i1).1 nd).mp (i1.trans h1.symm)
  subst eij
  have : p' = p := Option.some.inj (i2.symm.trans h2)
  subst this
  rw [hH, e]
theorem refs_vals : ∀ bs : List Addr, Vals (bs.map V.ref) (bs.map Value.ref)
  | [] => .nil
  | _ :: r => .cons rfl (refs_vals r)
/-- list(d.items()) -/
theorem itms_list {p a : Addr} {ps : List (V × V)} {Q : VK} (hc : X.calm = true) (I : Inv X pins σ H s) (hp : H p = some (DX.itemsO p a)) (hr : RawAt s.heap a ps)
    (q : ∀ (H' : Hp) (l : Addr) (ts : List Addr), Same H H' → H l = none → H' l = some (.lst (ts.map V.ref)) → Paired (fun (t : Addr) (p : V × V) => H' t = some (.tup [p.1, p.2])) ts ps → Q (.ref l) H') :
    wpAny (model X.prog X.w) X.A (call (.type "list") [.ref p]) (EP X pins σ Q) X.xe s := by
  obtain ⟨lo, hz, es, ep, r, pr⟩ := hr
  obtain ⟨vw, _⟩ := I.hok p _ hp
  have vw' : s.heap.IsItemsView p a := vw
  have le : ps.length = es.size := by
    have := Paired.length pr
    simpa using this
  refine listI (es := es) (ep := ep) (I.ok.hd hc) vw' r (by rw [← le]; exact hz) fun h' tk acc c as hk hS hl hG ha => ?_
  have I1 : Inv X pins σ (upd H s.heap.objs.size (.lst (as.map V.ref))) { s with heap := h', toks := tk } := I.laid hk (Nat.le_refl _) ⟨by rw [List.length_map]; omega, acc.toList, c, by rw [ha]; exact refs_vals as, by rw [Array.toArray_toList]; exact hS⟩
  have hn0 : H s.heap.objs.size = none := I.hok.fresh (Nat.le_refl _)
  obtain ⟨H2, I2, g, tp⟩ := made_told I I1 (Nat.le_refl _) hG (by omega) (fun b hb => by
    have := hG.above b hb
    rw [upd_ne (Nat.ne_of_gt this)]
    exact I.hok.fresh (Nat.le_of_lt this)) pr
  exact ⟨.ref s.heap.objs.size, H2, I2, rfl, q H2 _ as (fun b o e => g b o (by rw [upd_ne (ne_of_none e hn0)]; exact e)) hn0 (g _ _ upd_same) tp⟩
def rLstItms : List V → Hp → VK → Prop := fun xs H Q => ∃ p a, xs = [.ref p] ∧ H p = some (DX.itemsO p a) ∧ ((∃ kvs, H a = some (.dK kvs) ∧ ∀ (H' : Hp) (l : Addr) (ts : List Addr), Same H H' → H l = none → H' l = some (.lst (ts.map V.ref)) → Paired (fun (t : Addr) (p : V × V) => H' t = some (.tup [p.1, p.2])) ts (psK kvs) → Q (.ref l) H') ∨
  ∃ kvs, H a = some (.dT kvs) ∧ ∀ (H' : Hp) (l : Addr) (ts qs : List Addr), Same H H' → H l = none → IsKeys H kvs qs → H' l = some (.lst (ts.map V.ref)) → Paired (fun (t : Addr) (p : V × V) => H' t = some (.tup [p.1, p.2])) ts (psT qs kvs) → Q (.ref l) H')
theorem call_listItms (hc : X.calm = true) : CallR X (.type "list") rLstItms := by
  intro pins s σ H xs us Q I r h
  obtain ⟨p, a, rfl, hp, h⟩ := h
  obtain ⟨u, rfl, rx⟩ := vals1 r
  obtain rfl : u = Value.ref p := rx
  rcases h with ⟨kvs, e, q⟩ | ⟨kvs, e, q⟩
  · exact itms_list hc I hp (rawK I.hok e) q
  · obtain ⟨qs, hq, hr⟩ := rawT I.hok e
    exact itms_list hc I hp hr fun H' l ts a1 a2 a3 a4 => q H' l ts qs a1 a2 hq a3 a4
end
end Mk

set_option Elab.async false
set_option linter.all false
set_option maxRecDepth 100000
set_option maxHeartbeats 1000000
/-! min(d.values(), default=e) -/
namespace Mk
open PySem PySem.Spec PyProof.Rows L2

section
variable {X : Cx}
end
end Mk

set_option Elab.async false
set_option linter.all false
set_option maxRecDepth 100000
set_option maxHeartbeats 1000000
namespace Mk
open PySem PySem.Spec L2 PyProof.Rows

/-- what isinstance of a value of the own class leans on -/
structure IsK (K : PySem.W.Frag) (C : Addr) : Prop where
  ha : PySem.W.findIn K (.ref C) "__class__" = some (some (.builtin "object.__class__"))
  hn : PySem.W.specialIn K (.builtin "object.__class__") "__get__" = some (some (.builtin "getset_descriptor.__get__"))
  htk : PySem.W.takesIn K (.builtin "object.__class__") = some true
  hm : PySem.W.mroIn K C (.type "object") = some true
section
variable {P : Program} {w : World} {K : PySem.W.Frag} {mg : Str → Option Value} {base : Heap}
end
end Mk

set_option Elab.async false
set_option linter.all false
set_option maxRecDepth 100000
set_option maxHeartbeats 1000000
/-! sorted(d.items()) of a table -/
namespace Mk
open PySem PySem.Spec PyProof.Rows L2

section
variable {α : Type} [DecidableEq α] {enc : α → PyData} {le : α → α → Bool}
end
section
variable {X : Cx}
end
end Mk

set_option Elab.async false
set_option linter.all false
set_option maxRecDepth 100000
set_option maxHeartbeats 1000000
/-! dict(l) of a list of pairs whose first items are tuples, each there once -/
namespace Mk
open PySem PySem.Spec PyProof.Rows L2

abbrev PrsT (K : PySem.W.Frag) (H : Hp) : List Addr → List (List Key × V) → Prop := Paired fun p kv => ∃ b, H b = some (.tup (kv.1.map kV)) ∧ SqT K H p [.ref b, kv.2]
section
variable {X : Cx}
theorem pairsT_of {pins : List (Addr × Obj)} {σ : L2.St} {H : Hp} {s : Shared} (I : Inv X pins σ H s) : ∀ {ps : List Addr} {kvs : List (List Key × V)}, PrsT X.K H ps kvs →
    ∃ xs : List (List Key × Addr × Value), KT H kvs xs ∧ xs.length = ps.length ∧ ∀ (j : Nat) (q : List Key × Addr × Value), xs[j]? = some q → ∃ p, ps[j]? = some p ∧ IsTup s.heap p #[.ref q.2.1, q.2.2]
  | _, _, .nil => ⟨[], .nil, rfl, fun j q e => by simp at e⟩
  | _, _, .cons (a := p) (b := kv) h t => by
    obtain ⟨xs, r, hl, hp⟩ := pairsT_of I t
    obtain ⟨b, hb, hq⟩ := h
    obtain ⟨its, rv, ht, _⟩ := I.tuple hq
    obtain ⟨u, y, ei, ru, ry⟩ := vals2 rv
    subst ei
    obtain rfl : u = Value.ref b := ru
    refine ⟨(kv.1, b, y) :: xs, .cons ⟨rfl, hb, ry⟩ r, by rw [List.length_cons, List.length_cons, hl], fun j q e => ?_⟩
    cases j with
    | zero =>
      have e' : (kv.1, b, y) = q := Option.some.inj e
      subst e'
      exact ⟨p, rfl, ht⟩
    | succ j =>
      obtain ⟨p', e1, e2⟩ := hp j q (by simpa using e)
      exact ⟨p', by simpa using e1, e2⟩
theorem KT.keys {H : Hp} {kvs : List (List Key × V)} {xs : List (List Key × Addr × Value)} (r : KT H kvs xs) : xs.map (·.1) = kvs.map (·.1) := by
  induction r with
  | nil => rfl
  | cons h t ih => rw [List.map_cons, List.map_cons, ih, h.1]
theorem call_dictPT (hcalm : X.calm = true) (hu : X.A.units + 8 < cLine) : CallR X (.type "dict") (fun xs H Q => ∃ (a : Addr) (ps : List Addr) (kvs : List (List Key × V)), xs = [.ref a] ∧ SqL X.K H a (ps.map V.ref) ∧ PrsT X.K H ps kvs ∧ (kvs.map (·.1)).Nodup ∧
    ∀ p, H p = none → Q (.ref p) (upd H p (.dT kvs))) := by
  intro pins s σ H xs us Q I r q
  obtain ⟨a, ps, kvs, ex, hq, hp, nd, q⟩ := q
  subst ex
  obtain ⟨u, eu, rx⟩ := vals1 r
  subst eu
  cases rx
  obtain ⟨its, rv, pl, hz⟩ := I.list hq
  have ei := refs_at rv
  subst ei
  rw [List.length_map] at hz
  obtain ⟨prs, rel, hl, hpr⟩ := pairsT_of I hp
  obtain ⟨o, n, ho, hc, hd, hdat⟩ := pl
  have hk2 : ∀ x ∈ prs, (tupleKind (mixKind X.prog X.w)).is s.heap x.1 x.2.1 := by
    have all : ∀ {l : List (List Key × V)} {m : List (List Key × Addr × Value)}, KT H l m → ∀ x ∈ m, (tupleKind (mixKind X.prog X.w)).is s.heap x.1 x.2.1 := by
      intro l m q
      induction q with
      | nil => intro x hx; exact nomatch hx
      | @cons p q ps qs hq t ih =>
        intro x hx
        rcases List.mem_cons.mp hx with e | hx
        · subst e
          exact key_of I.hok (by rw [← hq.1]; exact hq.2.1)
        · exact ih x hx
    exact all rel
  have er : storedAllH [] prs = prs := storedAllH_nil_of_nodup prs (by rw [KT.keys rel]; exact nd)
  refine PySem.call_dict_pairsH (knd := tupleKind (mixKind X.prog X.w)) (ps := prs) (PySem.PairArg.list a (ps.map Value.ref).toArray (fun j => ps.getD j 0) (prs.map fun q => (Value.ref q.2.1, q.2.2))) (I.ok.hd hcalm) (show (tupleKind (mixKind X.prog X.w)).room X.A.in1.in1 from ?_) ⟨⟨o, n, ho, hc, hd, hdat⟩, ?_, ?_⟩ ⟨by simp, ?_⟩ ?_ (by rw [List.length_map, hl]; exact hz) fun h' tk hd' k => ?_
  · show X.A.units + 1 + 1 < cLine
    omega
  · simp [hl]
  · intro j k v e
    rw [List.getElem?_map] at e
    obtain ⟨q, eq, e⟩ := Option.map_eq_some_iff.mp e
    cases e
    obtain ⟨p, e1, e2⟩ := hpr j q eq
    refine ⟨?_, .inl ?_⟩
    · simp [e1]
    · simp [e1]
      exact e2
  · intro i key v e
    have e : (prs.map fun q => (Value.ref q.2.1, q.2.2))[i]? = some (key, v) := e
    rw [List.getElem?_map] at e
    obtain ⟨q, eq, e⟩ := Option.map_eq_some_iff.mp e
    cases e
    exact ⟨q.1, q.2.1, eq, rfl⟩
  · intro h' hk x hx
    obtain ⟨o', its, m, h1, h2, h3, h4⟩ := hk2 x hx
    exact ⟨o', its, m, hk _ _ (Nat.ne_of_lt (Heap.lt_size h1)) (fun z => nomatch z) h1, h2, h3, h4⟩
  · rw [er] at hd'
    have hm : (s.heap.objs.size == sysModules) = false := beq_eq_false_iff_ne.mpr (Nat.ne_of_gt I.big)
    have hlen : kvs.length ≤ sizeLine := by
      rw [Paired.length rel, hl]
      exact hz
    have nS : H s.heap.objs.size = none := I.hok.fresh (Nat.le_refl _)
    have rel2 : KT (upd H s.heap.objs.size (.dT kvs)) kvs prs := rel.keeps fun b ys e => by
      rw [upd_ne (ne_of_none e nS)]
      exact e
    obtain ⟨o', es, ep, h1, h2, h3, h4, _, h5⟩ := hd'
    exact ⟨.ref s.heap.objs.size, upd H s.heap.objs.size (.dT kvs), I.laid (t' := tk) (fun b o e => k b o (fun z => nomatch z) e) (Nat.le_refl _) (show ObjOk X.prog X.w _ _ _ (.dT kvs) from ⟨hlen, hm, prs, rel2, o', es, ep, h1, h2, h3, h4, h5⟩), rfl, q _ nS⟩
end
end Mk

set_option Elab.async false
set_option linter.all false
set_option maxRecDepth 100000
set_option maxHeartbeats 1000000
namespace Mk
open PySem PySem.Spec L2 PyProof.Rows

/-- the signs of a text -/
def sgs (z : Str) : List Str := (cs z).map fun c => ⟨#[c]⟩
section
variable {X : Cx}
end
theorem But.nul {p b : Addr} {H H' : Hp} {n : Nat} (B : But p H H') (P : Pot H' p n) (h : H' b = none) : H b = none := by
  cases e : H b with
  | none => rfl
  | some o =>
    have := B b o (P.ne h).symm e
    rw [h] at this
    cases this
section
variable {P : Program} {w : World} {K : PySem.W.Frag} {mg : Str → Option Value} {base : Heap}
end
end Mk

set_option Elab.async false
set_option linter.all false
set_option maxRecDepth 100000
set_option maxHeartbeats 1000000
namespace Mk
open PySem PySem.Spec L2 PyProof.Rows

structure Dn (mg : Str → Option Value) : Prop where
  dict : mg "dict" = none
theorem not_in_append {t : List (Str × Int)} {p : Str × Int} {r : List (Str × Int)} (h : ((t ++ p :: r).map (·.1)).Nodup) : p.1 ∉ t.map (·.1) := fun m => by
  rw [List.map_append, List.map_cons] at h
  exact (List.nodup_append.mp h).2.2 _ m _ List.mem_cons_self rfl
theorem merge_P : ∀ (b a : PTab), ((a ++ b).map (·.1)).Nodup → mergeK (kvsP a) (kvsP b) = kvsP (a ++ b)
  | [], a, _ => by rw [List.append_nil]; rfl
  | p :: b, a, h => by
    show mergeK (L2.putK (kvsP a) (Sum.inr p.1) (V.int p.2)) (kvsP b) = _
    rw [putP_new (not_in_append h)]
    have e : a ++ [(p.1, p.2)] ++ b = a ++ p :: b := by simp
    have := merge_P b (a ++ [(p.1, p.2)]) (by rw [e]; exact h)
    rw [this, e]
theorem merge_P0 {t : PTab} (h : (t.map (·.1)).Nodup) : mergeK [] (kvsP t) = kvsP t := merge_P t [] h
/-- pairs of a sign and a number, told by tuples -/
abbrev Tups (H : Hp) (ts : List Addr) (tab : PTab) : Prop := Paired (fun (t : Addr) (q : Str × Int) => H t = some (.tup [.str q.1, .int q.2])) ts tab
theorem tups_sq {K : PySem.W.Frag} {H : Hp} : ∀ {ts : List Addr} {tab : PTab}, Tups H ts tab → Paired (fun (p : Addr) (kv : Key × V) => SqT K H p [kV kv.1, kv.2]) ts (kvsP tab)
  | _, _, .nil => .nil
  | _, _, .cons h t => .cons (SqT.of h) (tups_sq t)
theorem Paired.snocP {α β : Type} {F : α → β → Prop} {a : α} {b : β} (h : F a b) : ∀ {l : List α} {m : List β}, Paired F l m → Paired F (l ++ [a]) (m ++ [b])
  | _, _, .nil => .cons h .nil
  | _, _, .cons x t => .cons x (Paired.snocP h t)
theorem Paired.appendP {α β : Type} {F : α → β → Prop} : ∀ {l l2 : List α} {m m2 : List β}, Paired F l m → Paired F l2 m2 → Paired F (l ++ l2) (m ++ m2)
  | _, _, _, _, .nil, h => h
  | _, _, _, _, .cons x t, h => .cons x (Paired.appendP t h)
theorem But.new {p l : Addr} {o : HO} {H H1 : Hp} (B : But p H H1) (hl : H1 l = none) : But p H (upd H1 l o) := B.same (Same.new hl)
/-- signs with prices that are dealt out, in the list at D -/
structure Dealt (p : Addr) (H H1 : Hp) (D : Addr) (ws : List Str) (m : Int) (n : Nat) : Prop where
  but : But p H H1
  pot : Pot H1 p n
  ex : ∃ (ts : List Addr) (tab : PTab), H1 D = some (.lst (ts.map V.ref)) ∧ Tups H1 ts tab ∧ tab.map (·.1) = ws ∧ ∀ q ∈ tab, 1 ≤ q.2 ∧ q.2 ≤ m
theorem Tups.keep {H H' : Hp} (k : ∀ b xs, H b = some (.tup xs) → H' b = some (.tup xs)) {ts : List Addr} {tab : PTab} (h : Tups H ts tab) : Tups H' ts tab := L2.Paired.mapP h fun _ _ e => k _ _ e
theorem Dealt.next {p : Addr} {H H1 H2 : Hp} {D t : Addr} {ws : List Str} {z : Str} {m i : Int} {n : Nat} (W : Dealt p H H1 D ws m n) (D0 : H D = none) (b2 : But p H1 H2) (P2 : Pot H2 p (n + 1)) (h1 : 1 ≤ i) (h2 : i ≤ m) (ht : H2 t = none) (nD : D ≠ p) :
    ∃ acc, (upd H2 t (.tup [.str z, .int i])) D = some (.lst acc) ∧ acc.length = ws.length ∧ Dealt p H (upd (upd H2 t (.tup [.str z, .int i])) D (.lst (acc ++ [.ref t]))) D (ws ++ [z]) m (n + 1) := by
  obtain ⟨ts, tab, e1, e2, e3, e4⟩ := W.ex
  have e1' := b2 _ _ nD e1
  have Dt : D ≠ t := ne_of_none e1' ht
  refine ⟨ts.map V.ref, by rw [upd_ne Dt]; exact e1', ?_, ?_, ?_, ts ++ [t], tab ++ [(z, i)], ?_, ?_, ?_, ?_⟩
  · have : ts.length = tab.length := Paired.length e2
    rw [List.length_map, this, ← e3, List.length_map]
  · exact But.up ((W.but.trans b2).new ht) D0
  · exact (P2.up (P2.ne ht)).up nD.symm
  · rw [upd_same, List.map_append]
    rfl
  · refine Paired.snocP ?_ (Tups.keep (fun b xs e => ?_) e2)
    · show (upd (upd H2 t _) D _) t = _
      rw [upd_ne Dt.symm, upd_same]
    · have e' : H2 b = some (.tup xs) := b2 _ _ (fun z => by
        obtain ⟨_, _, _, ep, _⟩ := W.pot
        rw [z, ep] at e
        cases e) e
      have nb : b ≠ D := fun z => by
        rw [z, e1'] at e'
        cases e'
      rw [upd_ne nb, upd_ne (ne_of_none e' ht)]
      exact e'
  · rw [List.map_append, e3]
    rfl
  · intro q hq
    rcases List.mem_append.mp hq with hq | hq
    · exact e4 q hq
    · rw [List.mem_singleton.mp hq]
      exact ⟨h1, h2⟩
theorem pot_same {H H' : Hp} {p : Addr} {n : Nat} (h : Same H H') (P : Pot H p n) : Pot H' p n := by
  obtain ⟨u, m, c, e, r⟩ := P
  exact ⟨u, m, c, h _ _ e, r⟩
theorem kvsS_nd {t : STab} (h : (t.map (·.1)).Nodup) : ((kvsS t).map (·.1)).Nodup := by
  have e : (kvsS t).map (·.1) = (t.map (·.1)).map keyOf := by
    unfold kvsS
    rw [List.map_map, List.map_map]
    rfl
  rw [e]
  exact List.Pairwise.map _ (fun a b n z => n (key_inj z)) h
theorem nw_in {i m : Int} (h1 : 1 ≤ i) (h2 : i ≤ m) (h3 : m ≤ LG) : nwB i 1 m = true := by
  unfold nwB nuB
  have g : (-LG) ≤ 1 := by decide
  simp only [Bool.and_eq_true, decide_eq_true_eq]
  exact ⟨⟨Int.le_trans g h1, Int.le_trans h2 h3⟩, h1, h2⟩
/-- what is right about tables -/
structure RtT (t1 t2 : PTab) (t3 : STab) : Prop where
  ag : Agree t1 t2 t3
  nd : (t3.map (·.1)).Nodup
  rt : rightB t1 t2 t3 = true
section
variable {P : Program} {w : World} {K : PySem.W.Frag} {mg : Str → Option Value} {base : Heap}
end
end Mk

set_option Elab.async false
set_option linter.all false
set_option maxRecDepth 100000
set_option maxHeartbeats 1000000
/-! _least_costs and costs_by_ends -/
namespace Mk
open PySem PySem.Spec L2 PyProof.Rows

abbrev sLeast : Stmt := top 35
abbrev sByEnds : Stmt := top 29
def spLc : Sp := fun vs H Q _ => ∃ (p o s : Addr) (t1 t2 : PTab) (t3 : STab), vs = [.ref p, .ref o, .ref s] ∧ p ≠ o ∧ Tabs H p o s t1 t2 t3 ∧ (∀ k ∈ t1.map (·.1), k ∈ t2.map (·.1)) ∧ t1.length ≤ 5 ∧ ("" : Str) ∉ t1.map (·.1) ∧
  ∀ H' c, Same H H' → H c = none → H' c = some (.dT (kvsS (lc t1 t2 t3))) → Q (.ref c) H'
abbrev nLc : List Str := ["put", "out", "swap", "costs", "places", "via", "one", "other", "way"]
/-- the walk's dict, with the keys that it had -/
structure Wk3 (H0 H1 : Hp) (c : Addr) (D0 D : STab) : Prop where
  wy : Wy H0 H1 c D
  keys : D.map (·.1) = D0.map (·.1)
theorem min_if (i j : Int) : (if j < i then j else i) = min i j := by
  split <;> omega
section
variable {P : Program} {w : World} {K : PySem.W.Frag} {mg : Str → Option Value} {base : Heap}
theorem scLeast : FnScope nLc ["put", "out", "swap"] (defScope sLeast) := ⟨rfl, rfl, rfl, by decide +kernel, rfl, by decide +kernel, by decide +kernel⟩
theorem ok_least {f : Addr} {fd : FuncData} (F : Fun K "_least_costs" "_least_costs" sLeast f fd) (B : Bn mg) (J : Cd P w K mg base 1 "_direct_costs" ["put", "out", "swap"] spDir) : FnOk P w K mg base CX0 2 f fd ["put", "out", "swap"] spLc := by
  obtain ⟨j, dj, G, gm, gk, gb⟩ := J.ex
  refine F.ok scLeast (fun vs H Q E h => ?_) (fun cdv A outer s H vs Q E hr h => ?_)
  · obtain ⟨p, o, s, t1, t2, t3, rfl, _⟩ := h
    rfl
  · have hu := hu_of hr
    obtain ⟨p, o, s, t1, t2, t3, rfl, po, hT, sub, hl, n0, q⟩ := h
    refine ⟨_, pss_cons (ps_set (i := 3) scLeast.nd rfl (.inl rfl) (pe_call G hr (by rfl) gm gk gb .nil pass0 (pa_cons (pv 0) (pa_cons (pv 1) (pa_cons (pv 2) pa_nil)))))
      (pss_cons (ps_set (i := 4) scLeast.nd rfl (.inl rfl) (pe_op op_cat (pe_lst (pa_cons pe_str pa_nil)) (pe_callTy (call_list_dK rfl) (by rfl) B.list (by decide +kernel) (pa_cons (pv 0) pa_nil))))
      (pss_cons (ps_for PassesOwn.never rfl (pi_list (pv 4)) (pg_name (i := 5) scLeast.nd rfl (.inl rfl))
        (pss_one (ps_for PassesOwn.never rfl (pi_list (pv 4)) (pg_name (i := 6) scLeast.nd rfl (.inl rfl))
          (pss_one (ps_for PassesOwn.never rfl (pi_list (pv 4)) (pg_name (i := 7) scLeast.nd rfl (.inl rfl))
            (pss_cons (ps_set (i := 8) scLeast.nd rfl (.inl rfl) (pe_op op_add (pe_dget hu (pv 3) (pe_tup (pa_cons (pv 6) (pa_cons (pv 5) pa_nil))) (fun _ _ => rfl)) (pe_dget hu (pv 3) (pe_tup (pa_cons (pv 5) (pa_cons (pv 7) pa_nil))) (fun _ _ => rfl))))
            (pss_one (ps_dput hu (pv 3) (pe_tup (pa_cons (pv 6) (pa_cons (pv 7) pa_nil))) (pe_callB (call_min2 rfl) (by rfl) B.min (by decide +kernel) (pa_cons (pe_dget hu (pv 3) (pe_tup (pa_cons (pv 6) (pa_cons (pv 7) pa_nil))) (fun _ _ => rfl)) (pa_cons (pv 8) pa_nil))) rfl))))))))
      (pss_one (ps_ret (pv 3))))), ?_⟩
    have n2 : 2 ≤ sizeLine := by decide
    refine ⟨_, rfl, _, rfl, _, rfl, p, o, s, t1, t2, t3, rfl, po, hT, sub, hl, fun H1 c s1 hc ec => ?_⟩
    refine ⟨by show 1 ≤ sizeLine; decide, fun l1 hl1 => ?_⟩
    have s2 := Same.trans s1 (Same.new (o := .lst [V.str ""]) hl1)
    refine ⟨_, rfl, p, _, rfl, s2 _ _ hT.p, fun l2 hl2 => ?_⟩
    have el1 : (upd (upd H1 l1 (.lst [V.str ""])) l2 (.lst ((kvsP t1).map fun kv => kV kv.1))) l1 = some (.lst [V.str ""]) := by
      rw [upd_ne (ne_of_none upd_same hl2)]
      exact upd_same
    have el2 : (kvsP t1).map (fun kv => kV kv.1) = (t1.map (·.1)).map V.str := by
      unfold kvsP
      rw [List.map_map, List.map_map]
      rfl
    refine ⟨l1, l2, _, _, rfl, rfl, el1, upd_same, ?_, fun L hL => ?_⟩
    · rw [List.length_map, kvsP_len, sizeLine_eq]
      show 1 + t1.length ≤ _
      omega
    have ec2 := (Same.new (o := .lst ((kvsP t1).map fun kv => kV kv.1)) hl2) _ _ ((Same.new (o := .lst [V.str ""]) hl1) _ _ ec)
    have s3 := Same.trans (Same.trans s2 (Same.new (o := .lst ((kvsP t1).map fun kv => kV kv.1)) hl2)) (Same.new (o := .lst ([V.str ""] ++ (kvsP t1).map fun kv => kV kv.1)) hL)
    have ec3 := (Same.new (o := .lst ([V.str ""] ++ (kvsP t1).map fun kv => kV kv.1)) hL) _ _ ec2
    have eL : (upd (upd (upd H1 l1 (.lst [V.str ""])) l2 (.lst ((kvsP t1).map fun kv => kV kv.1))) L (.lst ([V.str ""] ++ (kvsP t1).map fun kv => kV kv.1))) L = some (.lst ((plc t1).map V.str)) := by
      rw [upd_same, el2]
      rfl
    have Lc : L ≠ c := (ne_of_none ec2 hL).symm
    generalize upd (upd (upd H1 l1 (.lst [V.str ""])) l2 (.lst ((kvsP t1).map fun kv => kV kv.1))) L (.lst ([V.str ""] ++ (kvsP t1).map fun kv => kV kv.1)) = HL at s3 ec3 eL ⊢
    clear ec2 el1 el2 s2 hL hl1 hl2
    have hk : ∀ x ∈ plc t1, ∀ y ∈ plc t1, (x, y) ∈ (dir t1 t2 t3).map (·.1) := fun x hx y hy => (dir_keys n0).mpr ⟨hx, hy⟩
    have hq : ∀ H', Wy HL H' c (lc t1 t2 t3) → Q (.ref c) H' := fun H' W => q H' c (fun b u e => W.same _ _ (ne_of_none e hc) (s3 _ _ e)) hc W.out
    have hq2 : ∀ H', Wy HL H' c (fw (plc t1) (dir t1 t2 t3)) → Q (.ref c) H' := hq
    have hlen : (dir t1 t2 t3).length ≤ 41 := by
      have a := dirL_len t1 t2 t3 (t1.map (·.1)) (t1.map (·.1)) dir0
      have b : (t1.map (·.1)).length ≤ 5 := by rw [List.length_map]; exact hl
      have c : (t1.map (·.1)).length * ((t1.map (·.1)).length + 3) ≤ 5 * 8 := Nat.mul_le_mul b (by omega)
      have d : dir0.length = 1 := rfl
      exact Nat.le_trans a (by omega)
    generalize dir t1 t2 t3 = D0 at hk hq2 hlen ec3
    generalize plc t1 = Z at hk hq2 eL
    clear hq ec
    have at_ : ∀ {i : Nat} {x : V} (hi : i < (Z.map V.str).length), (Z.map V.str)[i]? = some x → ∃ h : i < Z.length, x = V.str Z[i] := fun {i x} hi hx => by
      have h : i < Z.length := by rwa [List.length_map] at hi
      rw [List.getElem?_map, List.getElem?_eq_getElem h] at hx
      exact ⟨h, (Option.some.inj hx).symm⟩
    have kl : ∀ {D : STab}, D.map (·.1) = D0.map (·.1) → D.length < 1000 := fun {D} e => by
      have : D.length = D0.length := by
        have := congrArg List.length e
        rwa [List.length_map, List.length_map] at this
      omega
    refine ⟨_, rfl, L, rfl, ⟨_, SqL.of eL⟩, for_it (walk_list (K := K) (a := L) (xs := Z.map V.str)) (fun i σ H2 => (∃ a b d e, σ = [some (.ref p), some (.ref o), some (.ref s), some (.ref c), some (.ref L), a, b, d, e]) ∧ Wk3 HL H2 c D0 ((Z.take i).foldl (fun D v => fw2 Z v D) D0)) ?_ (fun i σ H2 _ h2 => SqL.of (h2.2.wy.same _ _ Lc eL)) ?_ ?_⟩
    · exact ⟨⟨_, _, _, _, rfl⟩, ⟨fun b u _ e => e, ec3⟩, rfl⟩
    · rintro i x σ H2 H3 hi ⟨⟨a, b, d, e, rfl⟩, W⟩ ⟨rfl, hx⟩
      obtain ⟨hi2, rfl⟩ := at_ hi hx
      have nx : (Z.take (i + 1)).foldl (fun D v => fw2 Z v D) D0 = fw2 Z Z[i] ((Z.take i).foldl (fun D v => fw2 Z v D) D0) := foldl_take _ _ _ hi2
      rw [nx]
      generalize (Z.take i).foldl (fun D v => fw2 Z v D) D0 = D1 at W ⊢
      have mv : Z[i] ∈ Z := List.getElem_mem hi2
      generalize Z[i] = via at mv ⊢
      clear nx hi hi2 hx
      refine ⟨_, rfl, L, rfl, ⟨_, SqL.of (W.wy.same _ _ Lc eL)⟩, for_it (walk_list (K := K) (a := L) (xs := Z.map V.str)) (fun i σ H2 => (∃ b d e, σ = [some (.ref p), some (.ref o), some (.ref s), some (.ref c), some (.ref L), some (.str via), b, d, e]) ∧ Wk3 HL H2 c D0 ((Z.take i).foldl (fun D x => fw3 Z via x D) D1)) ?_ (fun i σ H2 _ h2 => SqL.of (h2.2.wy.same _ _ Lc eL)) ?_ ?_⟩
      · exact ⟨⟨_, _, _, rfl⟩, W⟩
      · rintro i x σ H2 H3 hi ⟨⟨b, d, e, rfl⟩, W⟩ ⟨rfl, hx⟩
        obtain ⟨hi2, rfl⟩ := at_ hi hx
        have nx : (Z.take (i + 1)).foldl (fun D x => fw3 Z via x D) D1 = fw3 Z via Z[i] ((Z.take i).foldl (fun D x => fw3 Z via x D) D1) := foldl_take _ _ _ hi2
        rw [nx]
        generalize (Z.take i).foldl (fun D x => fw3 Z via x D) D1 = D2 at W ⊢
        have mx : Z[i] ∈ Z := List.getElem_mem hi2
        generalize Z[i] = one at mx ⊢
        clear nx hi hi2 hx
        refine ⟨_, rfl, L, rfl, ⟨_, SqL.of (W.wy.same _ _ Lc eL)⟩, for_it (walk_list (K := K) (a := L) (xs := Z.map V.str)) (fun i σ H2 => (∃ d e, σ = [some (.ref p), some (.ref o), some (.ref s), some (.ref c), some (.ref L), some (.str via), some (.str one), d, e]) ∧ Wk3 HL H2 c D0 ((Z.take i).foldl (fun D y => relx D via one y) D2)) ?_ (fun i σ H2 _ h2 => SqL.of (h2.2.wy.same _ _ Lc eL)) ?_ ?_⟩
        · exact ⟨⟨_, _, rfl⟩, W⟩
        · rintro i x σ H2 H3 hi ⟨⟨d, e, rfl⟩, W⟩ ⟨rfl, hx⟩
          obtain ⟨hi2, rfl⟩ := at_ hi hx
          have nx : (Z.take (i + 1)).foldl (fun D y => relx D via one y) D2 = relx ((Z.take i).foldl (fun D y => relx D via one y) D2) via one Z[i] := foldl_take _ _ _ hi2
          rw [nx]
          generalize (Z.take i).foldl (fun D y => relx D via one y) D2 = D3 at W ⊢
          have my : Z[i] ∈ Z := List.getElem_mem hi2
          generalize Z[i] = other at my ⊢
          clear nx hi hi2 hx
          have k1 : (one, via) ∈ D3.map (·.1) := by rw [W.keys]; exact hk _ mx _ mv
          have k2 : (via, other) ∈ D3.map (·.1) := by rw [W.keys]; exact hk _ mv _ my
          have k3 : (one, other) ∈ D3.map (·.1) := by rw [W.keys]; exact hk _ mx _ my
          refine ⟨_, rfl, _, rfl, _, rfl, n2, fun a1 h1 => ⟨c, _, rfl, W.wy.get h1 k1, ?_⟩⟩
          have W1 := W.wy.new (o := .tup [.str one, .str via]) h1
          refine ⟨_, rfl, _, rfl, _, rfl, n2, fun a2 h2 => ⟨c, _, rfl, W1.get h2 k2, _, _, rfl, rfl, ?_⟩⟩
          have W2 := W1.new (o := .tup [.str via, .str other]) h2
          refine ⟨_, rfl, _, rfl, _, rfl, n2, fun a3 h3 => ⟨c, _, rfl, W2.get h3 k3, _, rfl, _, _, rfl, ?_⟩⟩
          have W3 := W2.new (o := .tup [.str one, .str other]) h3
          refine ⟨_, rfl, _, rfl, _, rfl, n2, fun a4 h4 => ?_⟩
          obtain ⟨H7, d7, W7⟩ := W3.put (x := one) (y := other) (i := min (look D3 (one, other)) (look D3 (one, via) + look D3 (via, other))) h4 (kl W.keys)
          rw [min_if]
          exact ⟨c, H7, rfl, d7, ⟨_, _, rfl⟩, W7, (relx_keys k3).trans W.keys⟩
        · rintro σ H2 ⟨⟨d, e, rfl⟩, W⟩
          rw [List.length_map, List.take_length] at W
          exact ⟨⟨_, _, _, rfl⟩, W⟩
      · rintro σ H2 ⟨⟨b, d, e, rfl⟩, W⟩
        rw [List.length_map, List.take_length] at W
        exact ⟨⟨_, _, _, _, rfl⟩, W⟩
    · rintro σ H2 ⟨⟨a, b, d, e, rfl⟩, W⟩
      rw [List.length_map, List.take_length] at W
      exact ⟨_, rfl, hq2 _ W.wy⟩
/-! costs_by_ends -/
def spBy (C : Addr) : Sp := fun vs H Q _ => ∃ (x : Addr) (t1 t2 : PTab) (t3 : STab), vs = [.ref x] ∧ PrAt C H x t1 t2 t3 ∧ RtT t1 t2 t3 ∧ Srt t1 t2 t3 ∧
  ∀ H' c, Same H H' → H c = none → H' c = some (.dT (kvsS (lc t1 t2 t3))) → Q (.ref c) H'
theorem scByEnds : FnScope ["prices"] ["prices"] (defScope sByEnds) := ⟨rfl, rfl, rfl, by decide +kernel, rfl, by decide +kernel, by decide +kernel⟩
theorem em_no {t1 t2 : PTab} {t3 : STab} (a : Agree t1 t2 t3) : ("" : Str) ∉ t1.map (·.1) := fun m => by
  obtain ⟨p, hp, e⟩ := List.mem_map.mp m
  have := a.sg p hp
  rw [e] at this
  exact absurd this (by decide +kernel)
theorem ok_by {f C : Addr} {fd : FuncData} (F : Fun K "costs_by_ends" "costs_by_ends" sByEnds f fd) (T : Pc K C) (J : Cd P w K mg base 2 "_least_costs" ["put", "out", "swap"] spLc) (P1 : Pd P w K mg base C 2 "put" (spTabP C fun t _ => t)) (P2 : Pd P w K mg base C 2 "out" (spTabP C fun _ t => t)) (P3 : Pd P w K mg base C 2 "swap" (spTabS C)) : FnOk P w K mg base CX0 4 f fd ["prices"] (spBy C) := by
  obtain ⟨j, dj, G, gm, gk, gb⟩ := J.ex
  obtain ⟨pa, ga, da, oa, Fa, ba⟩ := P1.ex
  obtain ⟨pb, gb2, db, ob, Fb, bb⟩ := P2.ex
  obtain ⟨pc, gc, dc, oc, Fc, bc⟩ := P3.ex
  refine F.ok scByEnds (fun vs H Q E h => ?_) (fun cdv A outer s H vs Q E hr h => ?_)
  · obtain ⟨x, t1, t2, t3, rfl, _⟩ := h
    rfl
  · obtain ⟨x, t1, t2, t3, rfl, hx, R, sr, q⟩ := h
    refine ⟨_, pss_one (ps_ret (pe_call G (hr.mono (by decide)) (by rfl) gm gk gb .nil pass0 (pa_cons (pe_prop (pv 0) T.cl oa Fa hr ba .nil pass0 rfl) (pa_cons (pe_prop (pv 0) T.cl ob Fb hr bb .nil pass0 rfl) (pa_cons (pe_prop (pv 0) T.cl oc Fc hr bc .nil pass0 rfl) pa_nil))))), ?_⟩
    have ag := R.ag
    have hl1 := ag.l1
    have hl2 := ag.l2
    have hl3 := ag.l3
    have nd2 : (t2.map (·.1)).Nodup := ag.pm.nodup_iff.mpr ag.nd
    obtain ⟨dx, t, a, b, d, hx0, ht, hT⟩ := id hx
    refine ⟨_, rfl, x, dx, _, rfl, hx0, x, t1, t2, t3, rfl, hx, ag.nd, (by show t1.length ≤ 60; omega), sr, fun H1 D1 s1 f1 e1 => ?_⟩
    refine ⟨_, rfl, x, dx, _, rfl, s1 _ _ hx0, x, t1, t2, t3, rfl, hx.same s1, nd2, (by show t2.length ≤ 60; omega), sr, fun H2 D2 s2 f2 e2 => ?_⟩
    have s12 := Same.trans s1 s2
    refine ⟨_, rfl, x, dx, _, rfl, s12 _ _ hx0, x, t1, t2, t3, rfl, hx.same s12, R.nd, by omega, sr, fun H3 D3 s3 f3 e3 => ?_⟩
    have g1 : H2 D1 = some (.dK (kvsP t1)) := s2 _ _ e1
    refine ⟨D1, D2, D3, t1, t2, t3, rfl, ne_of_none e1 f2, ⟨s3 _ _ g1, s3 _ _ e2, e3⟩, fun k hk => ag.pm.mem_iff.mpr hk, ag.l1, em_no ag, fun H4 c s4 hc ec => ?_⟩
    have s14 := Same.trans (Same.trans s12 s3) s4
    exact q _ c s14 ((Same.trans s12 s3).free hc) ec
end
end Mk

set_option Elab.async false
set_option linter.all false
set_option maxRecDepth 100000
set_option maxHeartbeats 1000000
/-! closed tables -/
namespace Mk
open PySem L2

theorem IsCl.perm {α : Type} {P P' : List α} {d c : α → α → Int} (h : IsCl P d c) (e : ∀ x, x ∈ P' → x ∈ P) (e' : ∀ x, x ∈ P → x ∈ P') : IsCl P' d c :=
  ⟨fun x hx => h.zero x (e x hx), fun x hx y hy z hz => h.tri x (e x hx) y (e y hy) z (e z hz), fun x hx y hy => h.le x (e x hx) y (e y hy),
    fun F hF z hz y hy => h.max F (fun z hz y hy => hF z (e' z hz) y (e' y hy)) z (e z hz) y (e y hy)⟩
section
variable {κ : Type} [DecidableEq κ]
theorem look_out {t : List (κ × Int)} {k : κ} (h : k ∉ t.map (·.1)) : look t k = 0 := by
  unfold look
  rw [look_none h]
  rfl
theorem look_is {t : List (κ × Int)} {k : κ} (h : k ∈ t.map (·.1)) : ∃ p ∈ t, p.1 = k ∧ look t k = p.2 := by
  obtain ⟨q, hq, e⟩ := List.mem_map.mp h
  cases f : t.find? (fun p => decide (p.1 = k)) with
  | none =>
    have := List.find?_eq_none.mp f q hq
    exact absurd e (by simpa using this)
  | some p =>
    refine ⟨p, List.mem_of_find?_eq_some f, by simpa using List.find?_some f, ?_⟩
    unfold look
    rw [f]
    rfl
theorem look_prm {t u : List (κ × Int)} (p : t.Perm u) (nd : (t.map (·.1)).Nodup) (k : κ) : look t k = look u k := by
  have nu : (u.map (·.1)).Nodup := (p.map (·.1)).nodup_iff.mp nd
  by_cases h : k ∈ t.map (·.1)
  · obtain ⟨q, hq, rfl, e⟩ := look_is h
    rw [e, look_mem nu q (p.mem_iff.mp hq)]
  · rw [look_out h, look_out (fun m => h ((p.map (·.1)).mem_iff.mpr m))]
theorem look_b {t : List (κ × Int)} {a b : Int} (h : ∀ p ∈ t, a ≤ p.2 ∧ p.2 ≤ b) {k : κ} (hk : k ∈ t.map (·.1)) : a ≤ look t k ∧ look t k ≤ b := by
  obtain ⟨p, hp, _, e⟩ := look_is hk
  rw [e]
  exact h p hp
end
def tabP (ks : List Str) (f : Str → Int) : PTab := ks.map fun z => (z, f z)
def tabS (ks : List (Str × Str)) (c : Str → Str → Int) : STab := ks.map fun k => (k, c k.1 k.2)
theorem tabP_keys (ks : List Str) (f : Str → Int) : (tabP ks f).map (·.1) = ks := by
  unfold tabP
  rw [List.map_map]
  exact List.map_id _
theorem tabS_keys (ks : List (Str × Str)) (c : Str → Str → Int) : (tabS ks c).map (·.1) = ks := by
  unfold tabS
  rw [List.map_map]
  exact List.map_id _
theorem tabP_look {ks : List Str} {f : Str → Int} {k : Str} (h : k ∈ ks) : look (tabP ks f) k = f k := by
  obtain ⟨p, hp, e, e2⟩ := look_is (t := tabP ks f) (by rw [tabP_keys]; exact h)
  obtain ⟨z, _, rfl⟩ := List.mem_map.mp hp
  rw [e2, ← e]
theorem tabS_look {ks : List (Str × Str)} {c : Str → Str → Int} {k : Str × Str} (h : k ∈ ks) : look (tabS ks c) k = c k.1 k.2 := by
  obtain ⟨p, hp, e, e2⟩ := look_is (t := tabS ks c) (by rw [tabS_keys]; exact h)
  obtain ⟨z, _, rfl⟩ := List.mem_map.mp hp
  rw [e2, ← e]
/-- r are the closed tables of t -/
structure CtW (t1 t2 : PTab) (t3 : STab) (r1 r2 : PTab) (r3 : STab) (c : Str → Str → Int) : Prop where
  cl : IsCl (plc t1) (dd t1 t2 t3) c
  p1 : r1.Perm (tabP (t1.map (·.1)) (c ""))
  p2 : r2.Perm (tabP (t1.map (·.1)) fun z => c z "")
  p3 : r3.Perm (tabS (pairsOf (t1.map (·.1))) c)
theorem ab1 {t : PTab} {m : Int} (h : okP t m = true) : ∀ p ∈ t, 1 ≤ p.2 ∧ p.2 ≤ m := fun p hp => by
  have := List.all_eq_true.mp h p hp
  unfold nwB at this
  simp only [Bool.and_eq_true, decide_eq_true_eq] at this
  exact this.2
theorem ab3 {t : STab} {m : Int} (h : okS t m = true) : ∀ p ∈ t, 1 ≤ p.2 ∧ p.2 ≤ m := fun p hp => by
  have := List.all_eq_true.mp h p hp
  unfold nwB at this
  simp only [Bool.and_eq_true, decide_eq_true_eq] at this
  exact this.2
structure Bds (t1 t2 : PTab) (t3 : STab) : Prop where
  b1 : ∀ p ∈ t1, 1 ≤ p.2 ∧ p.2 ≤ 9
  b2 : ∀ p ∈ t2, 1 ≤ p.2 ∧ p.2 ≤ 9
  b3 : ∀ p ∈ t3, 1 ≤ p.2 ∧ p.2 ≤ 18
  ne : t1 ≠ []
theorem RtT.bds {t1 t2 : PTab} {t3 : STab} (R : RtT t1 t2 t3) : Bds t1 t2 t3 := by
  have h := R.rt
  unfold rightB at h
  simp only [Bool.and_eq_true] at h
  exact ⟨ab1 h.1, ab1 h.2.2.1, ab3 h.2.2.2, by simpa using h.2.1⟩
section
variable {t1 t2 : PTab} {t3 : STab}
theorem pl_em {x : Str} (h : x ∈ plc t1) (n : x ≠ "") : x ∈ t1.map (·.1) := (List.mem_cons.mp h).resolve_left n
theorem em_not {t1 t2 : PTab} {t3 : STab} (a : Agree t1 t2 t3) : ("" : Str) ∉ t1.map (·.1) := fun m => by
  obtain ⟨p, hp, e⟩ := List.mem_map.mp m
  have := a.sg p hp
  rw [e] at this
  exact absurd this (by decide +kernel)
theorem dd_ne (a : Agree t1 t2 t3) {m : Int} (m0 : 0 ≤ m) (h1 : ∀ p ∈ t1, m ≤ p.2 ∧ p.2 ≤ 9) (h2 : ∀ p ∈ t2, m ≤ p.2 ∧ p.2 ≤ 9) (h3 : ∀ p ∈ t3, m ≤ p.2 ∧ p.2 ≤ 18) {x y : Str} (hx : x ∈ plc t1) (hy : y ∈ plc t1) (ne : x ≠ y) : m ≤ dd t1 t2 t3 x y := by
  unfold dd
  rw [if_neg ne]
  by_cases c1 : x = ""
  · rw [if_pos c1]
    exact (look_b h1 (pl_em hy fun e => ne (c1.trans e.symm))).1
  · rw [if_neg c1]
    have x2 : x ∈ t2.map (·.1) := a.pm.mem_iff.mpr (pl_em hx c1)
    by_cases c2 : y = ""
    · rw [if_pos c2]
      exact (look_b h2 x2).1
    · rw [if_neg c2]
      unfold dget
      by_cases c3 : (x, y) ∈ t3.map (·.1)
      · rw [if_pos c3]
        exact (look_b h3 c3).1
      · rw [if_neg c3]
        have a1 := (look_b h2 x2).1
        have a2 := (look_b h1 (pl_em hy c2)).1
        omega
theorem dd_self (x : Str) : dd t1 t2 t3 x x = 0 := by
  unfold dd
  rw [if_pos rfl]
theorem dd_ge (a : Agree t1 t2 t3) (b : Bds t1 t2 t3) {x y : Str} (hx : x ∈ plc t1) (hy : y ∈ plc t1) : 0 ≤ dd t1 t2 t3 x y := by
  by_cases c : x = y
  · rw [c, dd_self]
    exact Int.le_refl _
  · exact Int.le_trans (by decide) (dd_ne a (m := 1) (by decide) b.b1 b.b2 b.b3 hx hy c)
theorem cl_of (R : RtT t1 t2 t3) : IsCl (plc t1) (dd t1 t2 t3) (cc t1 t2 t3) := cc_cl (em_not R.ag) fun x hx y hy => dd_ge R.ag R.bds hx hy
theorem cl_least {c : Str → Str → Int} (a : Agree t1 t2 t3) (h : IsCl (plc t1) (dd t1 t2 t3) c) {m : Int} (m0 : 0 ≤ m) (h1 : ∀ p ∈ t1, m ≤ p.2 ∧ p.2 ≤ 9) (h2 : ∀ p ∈ t2, m ≤ p.2 ∧ p.2 ≤ 9) (h3 : ∀ p ∈ t3, m ≤ p.2 ∧ p.2 ≤ 18) {x y : Str} (hx : x ∈ plc t1) (hy : y ∈ plc t1) (ne : x ≠ y) : m ≤ c x y :=
  h.ge m0 (fun x hx y hy => by
    by_cases c : x = y
    · rw [c, dd_self]
      exact Int.le_refl _
    · exact Int.le_trans m0 (dd_ne a m0 h1 h2 h3 hx hy c)) (fun x hx y hy ne => dd_ne a m0 h1 h2 h3 hx hy ne) hx hy ne
theorem em_in : ("" : Str) ∈ plc t1 := List.mem_cons_self
theorem cl_put {c : Str → Str → Int} (a : Agree t1 t2 t3) (h : IsCl (plc t1) (dd t1 t2 t3) c) {s : Str} (hs : s ∈ t1.map (·.1)) : c "" s ≤ look t1 s := by
  have := h.le "" em_in s (List.mem_cons_of_mem _ hs)
  have n : s ≠ "" := fun e => em_not a (e ▸ hs)
  unfold dd at this
  rwa [if_neg n.symm, if_pos rfl] at this
theorem cl_out {c : Str → Str → Int} (a : Agree t1 t2 t3) (h : IsCl (plc t1) (dd t1 t2 t3) c) {s : Str} (hs : s ∈ t1.map (·.1)) : c s "" ≤ look t2 s := by
  have := h.le s (List.mem_cons_of_mem _ hs) "" em_in
  have n : s ≠ "" := fun e => em_not a (e ▸ hs)
  unfold dd at this
  rwa [if_neg n, if_neg n, if_pos rfl] at this
theorem CtW.keys1 {r1 r2 : PTab} {r3 : STab} {c : Str → Str → Int} (w : CtW t1 t2 t3 r1 r2 r3 c) : (r1.map (·.1)).Perm (t1.map (·.1)) := by
  have := w.p1.map (·.1)
  rwa [tabP_keys] at this
theorem CtW.keys2 {r1 r2 : PTab} {r3 : STab} {c : Str → Str → Int} (w : CtW t1 t2 t3 r1 r2 r3 c) : (r2.map (·.1)).Perm (t1.map (·.1)) := by
  have := w.p2.map (·.1)
  rwa [tabP_keys] at this
theorem CtW.keys3 {r1 r2 : PTab} {r3 : STab} {c : Str → Str → Int} (w : CtW t1 t2 t3 r1 r2 r3 c) : (r3.map (·.1)).Perm (pairsOf (t1.map (·.1))) := by
  have := w.p3.map (·.1)
  rwa [tabS_keys] at this
theorem CtW.rt {r1 r2 : PTab} {r3 : STab} {c : Str → Str → Int} (R : RtT t1 t2 t3) (w : CtW t1 t2 t3 r1 r2 r3 c) : RtT r1 r2 r3 := by
  have a := R.ag
  have b := R.bds
  have lo : ∀ {x y : Str}, x ∈ plc t1 → y ∈ plc t1 → x ≠ y → 1 ≤ c x y := fun hx hy ne => cl_least a w.cl (by decide) b.b1 b.b2 b.b3 hx hy ne
  have nz : ∀ {z : Str}, z ∈ t1.map (·.1) → z ≠ "" := fun hz e => em_not a (e ▸ hz)
  have up1 : ∀ {z : Str}, z ∈ t1.map (·.1) → c "" z ≤ 9 := fun hz => Int.le_trans (cl_put a w.cl hz) (look_b b.b1 hz).2
  have up2 : ∀ {z : Str}, z ∈ t1.map (·.1) → c z "" ≤ 9 := fun hz => Int.le_trans (cl_out a w.cl hz) (look_b b.b2 (a.pm.mem_iff.mpr hz)).2
  have pl : ∀ {z : Str}, z ∈ t1.map (·.1) → z ∈ plc t1 := fun hz => List.mem_cons_of_mem _ hz
  refine ⟨⟨fun p hp => ?_, w.keys1.nodup_iff.mpr a.nd, ?_, w.keys2.trans w.keys1.symm, ?_, fun p hp => ?_⟩, ?_, ?_⟩
  · have m := w.keys1.mem_iff.mp (List.mem_map.mpr ⟨p, hp, rfl⟩)
    obtain ⟨q, hq, e⟩ := List.mem_map.mp m
    have := a.sg q hq
    rwa [e] at this
  · have := w.keys1.length_eq
    rw [List.length_map, List.length_map] at this
    have := a.l1
    omega
  · have e := w.keys3.length_eq
    rw [List.length_map] at e
    have l := len_pairs (zs := t1.map (·.1)) (by rw [List.length_map]; exact a.l1)
    omega
  · have m := mem_pairs.mp (w.keys3.mem_iff.mp (List.mem_map.mpr ⟨p, hp, rfl⟩))
    exact ⟨w.keys1.mem_iff.mpr m.1, w.keys1.mem_iff.mpr m.2.1, m.2.2⟩
  · exact w.keys3.nodup_iff.mpr (nodup_pairs a.nd)
  · have e1 : okP r1 9 = true := List.all_eq_true.mpr fun p hp => by
      obtain ⟨z, hz, rfl⟩ := List.mem_map.mp (w.p1.mem_iff.mp hp)
      exact nw_in (lo em_in (pl hz) (nz hz).symm) (up1 hz) (by decide)
    have e2 : okP r2 9 = true := List.all_eq_true.mpr fun p hp => by
      obtain ⟨z, hz, rfl⟩ := List.mem_map.mp (w.p2.mem_iff.mp hp)
      exact nw_in (lo (pl hz) em_in (nz hz)) (up2 hz) (by decide)
    have e3 : okS r3 18 = true := List.all_eq_true.mpr fun p hp => by
      obtain ⟨k, hk, rfl⟩ := List.mem_map.mp (w.p3.mem_iff.mp hp)
      obtain ⟨h1, h2, h3⟩ := mem_pairs.mp hk
      have t := w.cl.tri k.1 (pl h1) k.2 (pl h2) "" em_in
      have u1 := up1 h2
      have u2 := up2 h1
      exact nw_in (lo (pl h1) (pl h2) h3) (by show c k.1 k.2 ≤ 18; omega) (by decide)
    have e4 : r1.isEmpty = false := by
      cases r1 with
      | nil =>
        have := w.keys1.length_eq
        rw [List.length_map, List.length_map] at this
        exact absurd (List.length_eq_zero_iff.mp this.symm) b.ne
      | cons _ _ => rfl
    unfold rightB
    rw [e1, e2, e3, e4]
    rfl
/-- what the closed tables cost -/
theorem CtW.dd {r1 r2 : PTab} {r3 : STab} {c : Str → Str → Int} (R : RtT t1 t2 t3) (w : CtW t1 t2 t3 r1 r2 r3 c) {x y : Str} (hx : x ∈ plc t1) (hy : y ∈ plc t1) : Mk.dd r1 r2 r3 x y = c x y := by
  have Rr := w.rt R
  unfold Mk.dd
  by_cases c0 : x = y
  · rw [if_pos c0, c0, w.cl.zero y hy]
  · rw [if_neg c0]
    by_cases c1 : x = ""
    · rw [if_pos c1, c1, look_prm w.p1 Rr.ag.nd, tabP_look (pl_em hy fun e => c0 (c1.trans e.symm))]
    · rw [if_neg c1]
      have hx' := pl_em hx c1
      by_cases c2 : y = ""
      · rw [if_pos c2, c2, look_prm w.p2 (Rr.ag.pm.nodup_iff.mpr Rr.ag.nd), tabP_look hx']
      · rw [if_neg c2]
        have m : (x, y) ∈ pairsOf (t1.map (·.1)) := mem_pairs.mpr ⟨hx', pl_em hy c2, c0⟩
        unfold dget
        rw [if_pos (w.keys3.mem_iff.mpr m), look_prm w.p3 Rr.nd, tabS_look m]
theorem plc_iff {r1 : PTab} (p : (r1.map (·.1)).Perm (t1.map (·.1))) (x : Str) : x ∈ plc r1 ↔ x ∈ plc t1 := by
  rw [List.mem_cons, List.mem_cons, p.mem_iff]
theorem perm_pairs {zs ws : List Str} (nz : zs.Nodup) (p : zs.Perm ws) : (pairsOf zs).Perm (pairsOf ws) := by
  have nw := p.nodup_iff.mp nz
  refine (List.perm_ext_iff_of_nodup (nodup_pairs nz) (nodup_pairs nw)).mpr fun k => ?_
  rw [mem_pairs, mem_pairs, p.mem_iff, p.mem_iff]
/-- tables with the same signs whose costs lie between have the same closed tables -/
theorem CtW.between {u1 u2 r1 r2 : PTab} {u3 r3 : STab} {c : Str → Str → Int} (w : CtW t1 t2 t3 r1 r2 r3 c) (nd : (t1.map (·.1)).Nodup) (p : (u1.map (·.1)).Perm (t1.map (·.1))) (lo : ∀ x ∈ plc t1, ∀ y ∈ plc t1, c x y ≤ Mk.dd u1 u2 u3 x y) (hi : ∀ x ∈ plc t1, ∀ y ∈ plc t1, Mk.dd u1 u2 u3 x y ≤ Mk.dd t1 t2 t3 x y) : CtW u1 u2 u3 r1 r2 r3 c where
  cl := (w.cl.between lo hi).perm (fun x hx => (plc_iff p x).mp hx) (fun x hx => (plc_iff p x).mpr hx)
  p1 := w.p1.trans (p.symm.map _)
  p2 := w.p2.trans (p.symm.map _)
  p3 := w.p3.trans ((perm_pairs nd p.symm).map _)
theorem CtW.self {r1 r2 : PTab} {r3 : STab} {c : Str → Str → Int} (R : RtT t1 t2 t3) (w : CtW t1 t2 t3 r1 r2 r3 c) : CtW r1 r2 r3 r1 r2 r3 c :=
  w.between R.ag.nd w.keys1 (fun x hx y hy => by rw [w.dd R hx hy]; exact Int.le_refl _) (fun x hx y hy => by rw [w.dd R hx hy]; exact w.cl.le x hx y hy)
/-- tables in another order -/
theorem dd_perm {u1 u2 : PTab} {u3 : STab} (a : Agree t1 t2 t3) (n3 : (t3.map (·.1)).Nodup) (p1 : u1.Perm t1) (p2 : u2.Perm t2) (p3 : u3.Perm t3) (x y : Str) : Mk.dd u1 u2 u3 x y = Mk.dd t1 t2 t3 x y := by
  have nd2 : (t2.map (·.1)).Nodup := a.pm.nodup_iff.mpr a.nd
  have e1 : ∀ k, look u1 k = look t1 k := fun k => (look_prm p1.symm a.nd k).symm
  have e2 : ∀ k, look u2 k = look t2 k := fun k => (look_prm p2.symm nd2 k).symm
  have e3 : ∀ k, look u3 k = look t3 k := fun k => (look_prm p3.symm n3 k).symm
  have e4 : ∀ k, k ∈ u3.map (·.1) ↔ k ∈ t3.map (·.1) := fun k => (p3.map (·.1)).mem_iff
  have e5 : dget u3 (x, y) (look u2 x + look u1 y) = dget t3 (x, y) (look t2 x + look t1 y) := by
    unfold dget
    by_cases m : (x, y) ∈ t3.map (·.1)
    · rw [if_pos m, if_pos ((e4 _).mpr m), e3]
    · rw [if_neg m, if_neg (fun z => m ((e4 _).mp z)), e1, e2]
  unfold Mk.dd
  rw [e5, e1, e2]
theorem CtW.perm {s1 s2 r1 r2 : PTab} {s3 r3 : STab} {c : Str → Str → Int} (w : CtW t1 t2 t3 r1 r2 r3 c) (p1 : s1.Perm r1) (p2 : s2.Perm r2) (p3 : s3.Perm r3) : CtW t1 t2 t3 s1 s2 s3 c := ⟨w.cl, p1.trans w.p1, p2.trans w.p2, p3.trans w.p3⟩
theorem ct_of (R : RtT t1 t2 t3) : CtW t1 t2 t3 (tabP (t1.map (·.1)) (cc t1 t2 t3 "")) (tabP (t1.map (·.1)) fun z => cc t1 t2 t3 z "") (tabS (pairsOf (t1.map (·.1))) (cc t1 t2 t3)) (cc t1 t2 t3) := ⟨cl_of R, .refl _, .refl _, .refl _⟩
end
end Mk

set_option Elab.async false
set_option linter.all false
set_option maxRecDepth 100000
set_option maxHeartbeats 1000000
/-! closed, is_closed, is_at_most -/
namespace Mk
open PySem PySem.Spec L2 PyProof.Rows

abbrev sClosed : Stmt := inClass (top 26) 7
abbrev sChkPr : Stmt := top 27
def spClosed (C : Addr) : Sp := fun vs H Q _ => ∃ (x : Addr) (t1 t2 : PTab) (t3 : STab), vs = [.ref x] ∧ PrAt C H x t1 t2 t3 ∧ RtT t1 t2 t3 ∧ Srt t1 t2 t3 ∧
  ∀ H' y r1 r2 r3 c, Same H H' → H y = none → PrAt C H' y r1 r2 r3 → CtW t1 t2 t3 r1 r2 r3 c → Srt r1 r2 r3 → Q (.ref y) H'
theorem lc_in {t1 t2 : PTab} {t3 : STab} (a : Agree t1 t2 t3) {x y : Str} (hx : x ∈ plc t1) (hy : y ∈ plc t1) : (x, y) ∈ (lc t1 t2 t3).map (·.1) := by
  rw [lc_keys (em_not a)]
  exact (dir_keys (em_not a)).mpr ⟨hx, hy⟩
theorem tabP_take (ks : List Str) (f : Str → Int) {i : Nat} (h : i < ks.length) : tabP (ks.take (i + 1)) f = tabP (ks.take i) f ++ [(ks[i], f ks[i])] := by
  unfold tabP
  rw [List.take_add_one, List.getElem?_eq_getElem h, List.map_append]
  rfl
theorem tabS_take (ks : List (Str × Str)) (c : Str → Str → Int) {i : Nat} (h : i < ks.length) : tabS (ks.take (i + 1)) c = tabS (ks.take i) c ++ [(ks[i], c ks[i].1 ks[i].2)] := by
  unfold tabS
  rw [List.take_add_one, List.getElem?_eq_getElem h, List.map_append]
  rfl
section
variable {P : Program} {w : World} {K : PySem.W.Frag} {mg : Str → Option Value} {base : Heap}
theorem scClosed : FnScope ["self", "costs", "sign", "pair"] ["self"] (defScope sClosed) := ⟨rfl, rfl, rfl, by decide +kernel, rfl, by decide +kernel, by decide +kernel⟩
theorem ok_closed {f fi C : Addr} {fd fdi : FuncData} (F : Fun K "closed" "Prices.closed" sClosed f fd) (T : Pc K C) (M : L2.Mk K C fi) (FI : Fun K "__init__" "Prices.__init__" sInit fi fdi) (I : FnOk P w K mg base CX0 6 fi fdi ["self", "put", "out", "swap"] (spInit C)) (mgC : mg "Prices" = some (.ref C))
    (A1 : Cd P w K mg base 4 "costs_by_ends" ["prices"] (spBy C)) (A2 : Cd P w K mg base 1 "_pairs" ["signs"] spPairs) : FnOk P w K mg base CX0 8 f fd ["self"] (spClosed C) := by
  obtain ⟨j, dj, G, gm, gk, gb⟩ := A1.ex
  obtain ⟨e, de, Ge, em, ek, eb⟩ := A2.ex
  refine F.ok scClosed (fun vs H Q E h => ?_) (fun cdv A outer s H vs Q E hr h => ?_)
  · obtain ⟨x, t1, t2, t3, rfl, _⟩ := h
    rfl
  · obtain ⟨x, t1, t2, t3, rfl, hx, R, sr, q⟩ := h
    have hu := hu_of hr
    have h20 : A.units + 3 + 20 < cLine := by
      have h2 : A.units + 3 + 16 * 7 + 200 < cLine := hr.un
      omega
    refine ⟨_, pss_cons (ps_set (i := 1) scClosed.nd rfl (.inr rfl) (pe_call G (hr.mono (by decide)) (by rfl) gm gk gb .nil pass0 (pa_cons (pv 0) pa_nil)))
      (pss_one (ps_ret (pe_makeK0 M I hr (by rfl) mgC (kbn_init FI) pass0
        (pk_cons (pe_dcG putP_ok (own := [("sign", 2)]) (g := gName 2) (tt := tYes) rfl scClosed.nd h20 (pi_tup (pe_fld (pv 0) rfl)) (blkOk_by (N := ["self", "costs", "sign", "pair"]) (sc := defScope sClosed) (by decide +kernel)) (fun _ _ _ _ _ => pg_name (i := 2) scClosed.nd rfl (Or.inl rfl)) (fun _ _ _ _ _ => pts_nil) (fun _ _ _ _ _ => pv 2) (fun _ _ _ _ _ => pe_dget hu (pv 1) (pe_tup (pa_cons pe_str (pa_cons (pv 2) pa_nil))) (fun _ _ => rfl)))
        (pk_cons (pe_dcG putP_ok (own := [("sign", 2)]) (g := gName 2) (tt := tYes) rfl scClosed.nd h20 (pi_tup (pe_fld (pv 0) rfl)) (blkOk_by (N := ["self", "costs", "sign", "pair"]) (sc := defScope sClosed) (by decide +kernel)) (fun _ _ _ _ _ => pg_name (i := 2) scClosed.nd rfl (Or.inl rfl)) (fun _ _ _ _ _ => pts_nil) (fun _ _ _ _ _ => pv 2) (fun _ _ _ _ _ => pe_dget hu (pv 1) (pe_tup (pa_cons (pv 2) (pa_cons pe_str pa_nil))) (fun _ _ => rfl)))
        (pk_cons (pe_dcG putT_ok (own := [("pair", 3)]) (g := gName 3) (tt := tYes) rfl scClosed.nd h20 (pi_list (pe_call Ge (hr.mono (by decide)) (by rfl) em ek eb .nil pass0 (pa_cons (pe_fld (pv 0) rfl) pa_nil))) (blkOk_by (N := ["self", "costs", "sign", "pair"]) (sc := defScope sClosed) (by decide +kernel)) (fun _ _ _ _ _ => pg_name (i := 3) scClosed.nd rfl (Or.inl rfl)) (fun _ _ _ _ _ => pts_nil) (fun _ _ _ _ _ => pv 3) (fun _ _ _ _ _ => pe_dget hu (pv 1) (pv 3) (fun _ _ => rfl)))
        pk_nil)))))), ?_⟩
    obtain ⟨dx, t, a, b, d, hx0, ht, hT⟩ := id hx
    have ag := R.ag
    refine ⟨_, rfl, x, t1, t2, t3, rfl, hx, R, sr, fun H1 ca s1 fa ea => ?_⟩
    have pl : ∀ {z : Str}, z ∈ t1.map (·.1) → z ∈ plc t1 := fun hz => List.mem_cons_of_mem _ hz
    have W := ct_of R
    have hin : ∀ {x y : Str}, x ∈ plc t1 → y ∈ plc t1 → (x, y) ∈ (lc t1 t2 t3).map (·.1) := fun hx hy => lc_in ag hx hy
    have hcc : ∀ x y, look (lc t1 t2 t3) (x, y) = cc t1 t2 t3 x y := fun _ _ => rfl
    generalize cc t1 t2 t3 = c at W hcc
    generalize lc t1 t2 t3 = Dl at ea hin hcc
    generalize ezs : t1.map (·.1) = zs at ht pl W
    have ndz : zs.Nodup := by rw [← ezs]; exact ag.nd
    have hl : zs.length ≤ 5 := by rw [← ezs, List.length_map]; exact ag.l1
    have n2 : 2 ≤ sizeLine := by decide
    have gW : ∀ {H' : Hp} {tt : Addr} {x y : Str}, H' ca = some (.dT (kvsS Dl)) → H' tt = none → x ∈ plc t1 → y ∈ plc t1 → DGet (upd H' tt (.tup [.str x, .str y])) ca (.ref tt) (some (V.int (c x y))) := fun {H' tt x y} e ht hx hy => by
      have := Wy.get (H0 := H') (H1 := H') ⟨fun b u _ e => e, e⟩ ht (hin hx hy)
      rwa [hcc] at this
    have ht1 := s1 _ _ ht
    have hx1 := s1 _ _ hx0
    refine ⟨_, rfl, x, C, dx, _, _, rfl, hx1, T.cl, T.n1, fld_signs t a b d, t, rfl, ⟨_, SqT.of ht1⟩, fun D1 hD1 => wk_any (walk_tup (K := K) (a := t) (xs := zs.map V.str)) (fun i H' => Same H1 H' ∧ H' D1 = some (.dK (kvsP (tabP (zs.take i) (c ""))))) ⟨Same.new hD1, upd_same⟩ (fun i H' _ h => SqT.of (h.1 _ _ ht1)) ?_ ?_⟩
    · rintro i z H' H'' hi ⟨hS, hL⟩ ⟨rfl, hz⟩
      rw [List.length_map] at hi
      have ez : z = V.str zs[i] := by
        rw [List.getElem?_map, List.getElem?_eq_getElem hi] at hz
        exact (Option.some.inj hz).symm
      subst ez
      have nin : zs[i] ∉ (tabP (zs.take i) (c "")).map (·.1) := by
        rw [tabP_keys]
        exact not_before ndz hi
      refine ⟨rfl, _, rfl, _, rfl, _, rfl, n2, fun tt htt => ⟨ca, _, rfl, gW (hS _ _ ea) htt em_in (pl (List.getElem_mem hi)), _, Sum.inr zs[i], rfl, (Same.new htt) _ _ hL, ?_, fun b0 o0 e0 => ?_, ?_⟩⟩
      · rw [kvsP_len]
        unfold tabP
        rw [List.length_map, List.length_take]
        exact Nat.lt_of_lt_of_le (by omega : min i zs.length < 4000) (by decide)
      · rw [upd_ne (ne_of_none e0 hD1)]
        exact (Same.new htt) _ _ (hS _ _ e0)
      · rw [upd_same, putP_new nin, tabP_take zs (c "") hi]
    rintro H3 ⟨hS3, hL3⟩
    rw [List.length_map, List.take_length] at hL3
    have ht3 := hS3 _ _ ht1
    have hx3 := hS3 _ _ hx1
    refine ⟨_, rfl, x, C, dx, _, _, rfl, hx3, T.cl, T.n1, fld_signs t a b d, t, rfl, ⟨_, SqT.of ht3⟩, fun D2 hD2 => wk_any (walk_tup (K := K) (a := t) (xs := zs.map V.str)) (fun i H' => Same H3 H' ∧ H' D2 = some (.dK (kvsP (tabP (zs.take i) fun z => c z "")))) ⟨Same.new hD2, upd_same⟩ (fun i H' _ h => SqT.of (h.1 _ _ ht3)) ?_ ?_⟩
    · rintro i z H' H'' hi ⟨hS, hL⟩ ⟨rfl, hz⟩
      rw [List.length_map] at hi
      have ez : z = V.str zs[i] := by
        rw [List.getElem?_map, List.getElem?_eq_getElem hi] at hz
        exact (Option.some.inj hz).symm
      subst ez
      have nin : zs[i] ∉ (tabP (zs.take i) fun z => c z "").map (·.1) := by
        rw [tabP_keys]
        exact not_before ndz hi
      refine ⟨rfl, _, rfl, _, rfl, _, rfl, n2, fun tt htt => ⟨ca, _, rfl, gW (hS _ _ (hS3 _ _ ea)) htt (pl (List.getElem_mem hi)) em_in, _, Sum.inr zs[i], rfl, (Same.new htt) _ _ hL, ?_, fun b0 o0 e0 => ?_, ?_⟩⟩
      · rw [kvsP_len]
        unfold tabP
        rw [List.length_map, List.length_take]
        exact Nat.lt_of_lt_of_le (by omega : min i zs.length < 4000) (by decide)
      · rw [upd_ne (ne_of_none e0 hD2)]
        exact (Same.new htt) _ _ (hS _ _ e0)
      · rw [upd_same, putP_new nin, tabP_take zs (fun z => c z "") hi]
    rintro H4 ⟨hS4, hL4⟩
    rw [List.length_map, List.take_length] at hL4
    have s13 := Same.trans hS3 hS4
    refine ⟨_, rfl, x, C, dx, _, _, rfl, hS4 _ _ hx3, T.cl, T.n1, fld_signs t a b d, t, zs, rfl, hS4 _ _ ht3, hl, fun H5 p qs s5 hp hP hq => ?_⟩
    have s15 := Same.trans s13 s5
    have ndp := nodup_pairs ndz
    have lp := len_pairs hl
    have mp : ∀ k ∈ pairsOf zs, k.1 ∈ plc t1 ∧ k.2 ∈ plc t1 := fun k hk => ⟨pl (mem_pairs.mp hk).1, pl (mem_pairs.mp hk).2.1⟩
    have ev : tabS (pairsOf zs) c = tabS (pairsOf zs) c := rfl
    have Wp3 := W.p3
    have Wq : ∀ ks, pairsOf zs = ks → tabS (pairsOf zs) c = tabS ks c := fun ks e => by rw [e]
    generalize hks : pairsOf zs = ks at hq ndp lp mp
    have lq : qs.length = ks.length := Paired.length hq
    refine ⟨p, rfl, ⟨_, SqL.of hP⟩, fun D3 hD3 => wk_any (walk_list (K := K) (a := p) (xs := qs.map V.ref)) (fun n H6 => Same H5 H6 ∧ H6 D3 = some (.dT (kvsS (tabS (ks.take n) c)))) ⟨Same.new hD3, upd_same⟩ (fun n H6 _ h6 => SqL.of (h6.1 _ _ hP)) ?_ ?_⟩
    · rintro n z H6 H7 hn ⟨s6, hE⟩ ⟨rfl, hz⟩
      rw [List.length_map] at hn
      have hn2 : n < ks.length := by omega
      have ez : z = V.ref qs[n] := by
        rw [List.getElem?_map, List.getElem?_eq_getElem hn] at hz
        exact (Option.some.inj hz).symm
      subst ez
      obtain ⟨k, hk, eq⟩ := paired_get hq (List.getElem?_eq_getElem hn)
      have ek : k = ks[n] := Option.some.inj (hk.symm.trans (List.getElem?_eq_getElem hn2))
      subst ek
      obtain ⟨m1, m2⟩ := mp _ (List.getElem_mem hn2)
      have nin : ks[n] ∉ (tabS (ks.take n) c).map (·.1) := by
        rw [tabS_keys]
        exact not_before ndp hn2
      have gv : valV (kvsS Dl) (keyOf ks[n]) = some (V.int (c ks[n].1 ks[n].2)) := by
        have := valS (hin m1 m2)
        rwa [hcc] at this
      refine ⟨rfl, _, rfl, _, rfl, _, rfl, ca, _, rfl, .inr ⟨kvsS Dl, keyOf ks[n], qs[n], .inl (s6 _ _ (s15 _ _ ea)), rfl, s6 _ _ eq, gv.symm⟩, _, keyOf ks[n], qs[n], rfl, s6 _ _ eq, hE, ?_, fun b0 o0 e0 => ?_, ?_⟩
      · rw [kvsS_len]
        unfold tabS
        rw [List.length_map, List.length_take]
        exact Nat.lt_of_lt_of_le (by omega : min n ks.length < 4000) (by decide)
      · rw [upd_ne (ne_of_none e0 hD3)]
        exact s6 _ _ e0
      · rw [upd_same, putS_new nin, tabS_take ks c hn2]
    rintro H6 ⟨s6, hE⟩
    rw [List.length_map, lq, List.take_length] at hE
    refine ⟨rfl, rfl, fun y dy hy hdy ne => ?_⟩
    have s16 : Same H H6 := Same.trans (Same.trans s1 s15) s6
    have sN : Same H6 (upd (upd H6 dy (.own y)) y (.ins C dy [])) := fun b o e => by
      rw [upd_ne (ne_of_none e hy), upd_ne (ne_of_none e hdy)]
      exact e
    have w1 := s6 _ _ (s5 _ _ (hS4 _ _ hL3))
    have w2 := s6 _ _ (s5 _ _ hL4)
    subst ezs
    subst hks
    have Rr := W.rt R
    refine ⟨y, dy, D1, D2, D3, _, _, _, rfl, upd_same, ⟨sN _ _ w1, sN _ _ w2, sN _ _ hE⟩, Rr.ag, Rr.nd, Rr.rt, fun H9 u1 u2 u3 b9 pr k1 k2 k3 sr9 => ⟨rfl, ?_⟩⟩
    refine q _ y u1 u2 u3 c (fun b o e => ?_) (s16.free hy) pr (W.perm k1 k2 k3) sr9
    have nb : b ≠ y := fun z => by
      have := s16 _ _ e
      rw [z, hy] at this
      cases this
    exact b9 _ _ nb (sN _ _ (s16 _ _ e))
end
end Mk

set_option Elab.async false
set_option linter.all false
set_option maxRecDepth 100000
set_option maxHeartbeats 1000000
namespace Mk
open PySem PySem.Spec L2 PyProof.Rows

/-- the record at L has these tables -/
structure Rec (H : Hp) (L a b c : Addr) (t1 t2 : PTab) (t3 : STab) : Prop where
  l : H L = some (.lst [.ref a, .ref b, .ref c])
  t : Tabs H a b c t1 t2 t3
theorem Rec.same {H H' : Hp} {L a b c : Addr} {t1 t2 : PTab} {t3 : STab} (r : Rec H L a b c t1 t2 t3) (s : Same H H') : Rec H' L a b c t1 t2 t3 := ⟨s _ _ r.l, r.t.same s⟩
def spMade (C : Addr) : Sp := fun vs H Q _ => ∃ (L a b c : Addr) (t1 t2 : PTab) (t3 : STab), vs = [.ref L] ∧ Rec H L a b c t1 t2 t3 ∧ RtT t1 t2 t3 ∧
  ∀ H' y u1 u2 u3, Same H H' → H y = none → PrAt C H' y u1 u2 u3 → u1.Perm t1 → u2.Perm t2 → u3.Perm t3 → Srt u1 u2 u3 → Q (.ref y) H'
theorem itms_T {K : PySem.W.Frag} {H : Hp} : ∀ {kvs : List (List Key × V)} {qs ts : List Addr}, IsKeys H kvs qs → Paired (fun (t : Addr) (p : V × V) => H t = some (.tup [p.1, p.2])) ts (psT qs kvs) → PrsT K H ts kvs
  | _, _, _, .nil, h => by
    cases h
    exact .nil
  | _, _, _, .cons (b := q) k r, h => by
    unfold psT at h
    rw [List.zip_cons_cons, List.map_cons] at h
    cases h with
    | cons a t => exact .cons ⟨q, k, SqT.of a⟩ (itms_T r t)
section
variable {X : Cx}
end
section
variable {P : Program} {w : World} {K : PySem.W.Frag} {mg : Str → Option Value} {base : Heap}
end
end Mk

set_option Elab.async false
set_option linter.all false
set_option maxRecDepth 100000
set_option maxHeartbeats 1000000
namespace Mk
open PySem PySem.Spec L2 PyProof.Rows

section
variable {α : Type} [DecidableEq α]
end
theorem okP_perm {t u : PTab} (p : u.Perm t) {m : Int} (h : okP t m = true) : okP u m = true := List.all_eq_true.mpr fun q hq => List.all_eq_true.mp h q (p.mem_iff.mp hq)
theorem okS_perm {t u : STab} (p : u.Perm t) {m : Int} (h : okS t m = true) : okS u m = true := List.all_eq_true.mpr fun q hq => List.all_eq_true.mp h q (p.mem_iff.mp hq)
theorem Agree.perm {t1 t2 u1 u2 : PTab} {t3 u3 : STab} (a : Agree t1 t2 t3) (p1 : u1.Perm t1) (p2 : u2.Perm t2) (p3 : u3.Perm t3) : Agree u1 u2 u3 where
  sg := fun p hp => a.sg p (p1.mem_iff.mp hp)
  nd := (p1.map (·.1)).nodup_iff.mpr a.nd
  l1 := by rw [p1.length_eq]; exact a.l1
  pm := ((p2.map (·.1)).trans a.pm).trans (p1.map (·.1)).symm
  l3 := by rw [p3.length_eq]; exact a.l3
  pr := fun p hp => by
    have h := a.pr p (p3.mem_iff.mp hp)
    exact ⟨(p1.map (·.1)).mem_iff.mpr h.1, (p1.map (·.1)).mem_iff.mpr h.2.1, h.2.2⟩
theorem right_perm {t1 t2 u1 u2 : PTab} {t3 u3 : STab} (h : rightB t1 t2 t3 = true) (p1 : u1.Perm t1) (p2 : u2.Perm t2) (p3 : u3.Perm t3) : rightB u1 u2 u3 = true := by
  unfold rightB at h ⊢
  simp only [Bool.and_eq_true] at h ⊢
  refine ⟨okP_perm p1 h.1, ?_, okP_perm p2 h.2.2.1, okS_perm p3 h.2.2.2⟩
  have h2 := h.2.1
  cases u1 with
  | nil =>
    have := List.Perm.nil_eq p1
    rw [← this] at h2
    exact h2
  | cons _ _ => rfl
theorem RtT.perm {t1 t2 u1 u2 : PTab} {t3 u3 : STab} (r : RtT t1 t2 t3) (p1 : u1.Perm t1) (p2 : u2.Perm t2) (p3 : u3.Perm t3) : RtT u1 u2 u3 :=
  ⟨r.ag.perm p1 p2 p3, (p3.map (·.1)).nodup_iff.mpr r.nd, right_perm r.rt p1 p2 p3⟩
section
variable {t1 t2 : PTab} {t3 : STab}
end
section
variable {C p x L a b c : Addr} {H H' : Hp} {n : Nat} {t1 t2 : PTab} {t3 : STab}
theorem Pot.not {o : HO} (P : Pot H p n) (e : H b = some o) (h : ∀ i j k : Int, o ≠ .lst [.int i, .int j, .int k]) : b ≠ p := fun z => by
  obtain ⟨u, m, k, ep, _⟩ := P
  rw [z, ep] at e
  exact h _ _ _ (Option.some.inj e).symm
end
/-- a method of the class -/
structure Md (P : Program) (w : World) (K : PySem.W.Frag) (mg : Str → Option Value) (base : Heap) (C : Addr) (CX : CXT) (k : Nat) (m : Str) (ps : List Str) (sp : Sp) : Prop where
  ex : ∃ (g : Addr) (fd : FuncData), Meth K C m g ∧ FnOk P w K mg base CX k g fd ps sp ∧ Binds K fd ps []
end Mk

set_option Elab.async false
set_option linter.all false
set_option maxRecDepth 100000
set_option maxHeartbeats 1000000
namespace Mk
open PySem PySem.Spec L2 PyProof.Rows

def spChkPr (C : Addr) : Sp := fun vs H Q _ => ∃ (x : Addr) (t1 t2 : PTab) (t3 : STab), vs = [.ref x] ∧ PrAt C H x t1 t2 t3 ∧ Q .non H
section
variable {P : Program} {w : World} {K : PySem.W.Frag} {mg : Str → Option Value} {base : Heap}
theorem scChkPr : FnScope ["prices"] ["prices"] (defScope sChkPr) := ⟨rfl, rfl, rfl, by decide +kernel, rfl, by decide +kernel, by decide +kernel⟩
theorem ok_chkPr {f C : Addr} {fd : FuncData} (F : Fun K "check_prices" "check_prices" sChkPr f fd) (T : Pc K C) (O : IsK K C) (mgC : mg "Prices" = some (.ref C)) (hi : mg "isinstance" = none) : FnOk P w K mg base CX0 1 f fd ["prices"] (spChkPr C) := by
  refine F.ok scChkPr (fun vs H Q E h => ?_) (fun cdv A outer s H vs Q E hr h => ?_)
  · obtain ⟨x, t1, t2, t3, rfl, _⟩ := h
    rfl
  · obtain ⟨x, t1, t2, t3, rfl, ⟨dx, t, a, b, d, hx, ht, hT⟩, q⟩ := h
    refine ⟨_, pss_one (ps_if (pt_not (pt_val (pe_callB call_isi (by rfl) hi (by decide +kernel) (pa_cons (pv 0) (pa_cons (pe_glob (v := .ref C) (by rfl) mgC rfl) pa_nil))))) (pss_one ps_never) pss_nil), ?_⟩
    exact ⟨_, rfl, .ref x, .ref C, .ref C, .ref C, true, rfl, .own C, .base (.ins hx T.cl O.ha O.hn O.htk O.hm), if_pos (beq_self_eq_true _), true, rfl, iteF q⟩
end
end Mk

set_option Elab.async false
set_option linter.all false
set_option maxRecDepth 100000
set_option maxHeartbeats 1000000
/-! _cost_rows -/
namespace Mk
open PySem PySem.Spec L2 PyProof.Rows

abbrev sRows : Stmt := top 91
abbrev sBetw : Stmt := top 90
abbrev nRows : List Str := ["one", "other", "costs", "rows", "sign", "old", "above", "row", "at", "new"]
structure En (mg : Str → Option Value) : Prop where
  en : mg "enumerate" = none
/-- a dict of closed costs -/
def Cst6 (H : Hp) (ca : Addr) (P : List Str) (c : Str → Str → Int) : Prop := ∃ Dl : STab, H ca = some (.dT (kvsS Dl)) ∧ ∀ x ∈ P, ∀ y ∈ P, (x, y) ∈ Dl.map (·.1) ∧ look Dl (x, y) = c x y
theorem Cst6.keep {H H' : Hp} {ca : Addr} {P : List Str} {c : Str → Str → Int} (h : Cst6 H ca P c) (k : ∀ o, H ca = some o → H' ca = some o) : Cst6 H' ca P c := by
  obtain ⟨Dl, e, q⟩ := h
  exact ⟨Dl, k _ e, q⟩
theorem Cst6.get {H : Hp} {ca t : Addr} {P : List Str} {c : Str → Str → Int} {x y : Str} (h : Cst6 H ca P c) (ht : H t = none) (hx : x ∈ P) (hy : y ∈ P) : DGet (upd H t (.tup [.str x, .str y])) ca (.ref t) (some (V.int (c x y))) := by
  obtain ⟨Dl, e, q⟩ := h
  obtain ⟨q1, q2⟩ := q x hx y hy
  have := Wy.get (H0 := H) (H1 := H) ⟨fun b u _ e => e, e⟩ ht q1
  rwa [q2] at this
theorem at_last {xs : List V} {v : V} : atI (xs ++ [v]) (-1) = some v := by
  unfold atI ixN
  simp
  rw [if_pos (by omega)]
  have e : (-1 + ((xs.length : Int) + 1)).toNat = xs.length := by omega
  simp [e]
/-! the cells -/
section
variable (c : Str → Str → Int) (su sv : List Str)
def cel (i j : Nat) : Int := crn ("" : Str) c (su.take i).reverse (sv.take j).reverse
def rowL (i k : Nat) : List V := (List.range k).map fun j => V.int (cel c su sv i j)
variable {c su sv}
theorem take_rev {α : Type} {l : List α} {i : Nat} (h : i < l.length) : (l.take (i + 1)).reverse = l[i] :: (l.take i).reverse := by
  rw [List.take_add_one, List.getElem?_eq_getElem h, List.reverse_append]
  rfl
theorem cel_00 : cel c su sv 0 0 = 0 := by
  unfold cel
  rw [List.take_zero, List.take_zero, List.reverse_nil, crn]
theorem cel_0s {j : Nat} (h : j < sv.length) : cel c su sv 0 (j + 1) = cel c su sv 0 j + c "" sv[j] := by
  unfold cel
  rw [take_rev h, List.take_zero, List.reverse_nil, crn]
theorem cel_s0 {i : Nat} (h : i < su.length) : cel c su sv (i + 1) 0 = cel c su sv i 0 + c su[i] "" := by
  unfold cel
  rw [take_rev h, List.take_zero, List.reverse_nil, crn]
theorem cel_ss {i j : Nat} (h : i < su.length) (g : j < sv.length) : cel c su sv (i + 1) (j + 1) = min (min (cel c su sv i (j + 1) + c su[i] "") (cel c su sv (i + 1) j + c "" sv[j])) (cel c su sv i j + c su[i] sv[j]) := by
  unfold cel
  rw [take_rev h, take_rev g, crn]
theorem rowL_len (i k : Nat) : (rowL c su sv i k).length = k := by
  unfold rowL
  rw [List.length_map, List.length_range]
theorem rowL_succ (i k : Nat) : rowL c su sv i (k + 1) = rowL c su sv i k ++ [.int (cel c su sv i k)] := by
  unfold rowL
  rw [List.range_succ, List.map_append]
  rfl
theorem rowL_at {i j k : Nat} (h : j < k) : atI (rowL c su sv i k) (j : Int) = some (.int (cel c su sv i j)) := by
  refine atI_nat ?_
  unfold rowL
  rw [List.getElem?_map, List.getElem?_range h]
  rfl
theorem rowL_last (i k : Nat) : atI (rowL c su sv i (k + 1)) (-1) = some (.int (cel c su sv i k)) := by
  rw [rowL_succ]
  exact at_last
end
theorem sgs_at {z : Str} {i c : Nat} (h : z.cps[i]? = some c) : (sgs z)[i]? = some ⟨#[c]⟩ := by
  have : (cs z)[i]? = some c := by rw [← h]; simp [cs]
  unfold sgs
  rw [List.getElem?_map, this]
  rfl
theorem sgs_len (z : Str) : (sgs z).length = z.cps.size := by
  unfold sgs
  rw [List.length_map]
  rfl
def spRows : Sp := fun vs H Q _ => ∃ (u v : Str) (ca : Addr) (P : List Str) (c : Str → Str → Int), vs = [.str u, .str v, .ref ca] ∧ Cst6 H ca P c ∧ ("" : Str) ∈ P ∧ (∀ x ∈ sgs u, x ∈ P) ∧ (∀ x ∈ sgs v, x ∈ P) ∧ u.cps.size ≤ 300 ∧ v.cps.size ≤ 300 ∧
  ∀ H' R r (rs ns : List V), Same H H' → H' R = some (.lst (rs ++ [.ref r])) → H' r = some (.lst (ns ++ [.int (crn ("" : Str) c (sgs u).reverse (sgs v).reverse)])) → Q (.ref R) H'
def spBetw : Sp := fun vs H Q _ => ∃ (u v : Str) (ca : Addr) (P : List Str) (c : Str → Str → Int), vs = [.str u, .str v, .ref ca] ∧ Cst6 H ca P c ∧ ("" : Str) ∈ P ∧ (∀ x ∈ sgs u, x ∈ P) ∧ (∀ x ∈ sgs v, x ∈ P) ∧ u.cps.size ≤ 300 ∧ v.cps.size ≤ 300 ∧
  ∀ H', Same H H' → Q (.int (crn ("" : Str) c (sgs u).reverse (sgs v).reverse)) H'
section
variable {P : Program} {w : World} {K : PySem.W.Frag} {mg : Str → Option Value} {base : Heap}
theorem scRows : FnScope nRows ["one", "other", "costs"] (defScope sRows) := ⟨rfl, rfl, rfl, by decide +kernel, rfl, by decide +kernel, by decide +kernel⟩
theorem ok_rows {f : Addr} {fd : FuncData} (F : Fun K "_cost_rows" "_cost_rows" sRows f fd) (B : Bn mg) (En : En mg) : FnOk P w K mg base CX0 1 f fd ["one", "other", "costs"] spRows := by
  refine F.ok scRows (fun vs H Q E h => ?_) (fun cdv A outer s H vs Q E hr h => ?_)
  · obtain ⟨u, v, ca, Pl, c, rfl, _⟩ := h
    rfl
  · obtain ⟨u, v, ca, Pl, c, rfl, hc, e0, pu, pv', lu, lv, q⟩ := h
    have hu := hu_of hr
    refine ⟨_, pss_cons (ps_set (i := 3) scRows.nd rfl (.inl rfl) (pe_lst (pa_cons (pe_lst (pa_cons pe_int pa_nil)) pa_nil)))
      (pss_cons (ps_for PassesOwn.never rfl (pi_str (pv 1)) (pg_name (i := 4) scRows.nd rfl (.inl rfl))
        (pss_one (ps_expr (pe_bm PySem.F.plainAttrs_list PySem.F.slot_list_append PySem.F.type_list_append mt_append (pe_ix ix_list (pv 3) pe_int (fun _ _ => rfl)) (pa_cons (pe_op op_add (pe_ix ix_list (pe_ix ix_list (pv 3) pe_int (fun _ _ => rfl)) (pe_un un_neg pe_int) (fun _ _ => rfl)) (pe_dget hu (pv 2) (pe_tup (pa_cons pe_str (pa_cons (pv 4) pa_nil))) (fun _ _ => rfl))) pa_nil)))))
      (pss_cons (ps_for PassesOwn.never rfl (pi_str (pv 0)) (pg_name (i := 5) scRows.nd rfl (.inl rfl))
        (pss_cons (ps_set (i := 6) scRows.nd rfl (.inl rfl) (pe_ix ix_list (pv 3) (pe_un un_neg pe_int) (fun _ _ => rfl)))
        (pss_cons (ps_set (i := 7) scRows.nd rfl (.inl rfl) (pe_lst (pa_cons (pe_op op_add (pe_ix ix_list (pv 6) pe_int (fun _ _ => rfl)) (pe_dget hu (pv 2) (pe_tup (pa_cons (pv 5) (pa_cons pe_str pa_nil))) (fun _ _ => rfl))) pa_nil)))
        (pss_cons (ps_for PassesOwn.never rfl (pi_enumS (by rfl) En.en (pa_cons (pv 1) pa_nil)) (pg_tup rfl (pgs_cons (pg_name (i := 8) scRows.nd rfl (.inl rfl)) (pgs_cons (pg_name (i := 9) scRows.nd rfl (.inl rfl)) pgs_nil)))
          (pss_one (ps_expr (pe_bm PySem.F.plainAttrs_list PySem.F.slot_list_append PySem.F.type_list_append mt_append (pv 7) (pa_cons (pe_callB (call_min3Nu rfl) (by rfl) B.min (by decide +kernel)
            (pa_cons (pe_op op_add (pe_ix ix_list (pv 6) (pe_op op_add (pv 8) pe_int) (fun _ _ => rfl)) (pe_dget hu (pv 2) (pe_tup (pa_cons (pv 5) (pa_cons pe_str pa_nil))) (fun _ _ => rfl)))
            (pa_cons (pe_op op_add (pe_ix ix_list (pv 7) (pv 8) (fun _ _ => rfl)) (pe_dget hu (pv 2) (pe_tup (pa_cons pe_str (pa_cons (pv 9) pa_nil))) (fun _ _ => rfl)))
            (pa_cons (pe_op op_add (pe_ix ix_list (pv 6) (pv 8) (fun _ _ => rfl)) (pe_dget hu (pv 2) (pe_tup (pa_cons (pv 5) (pa_cons (pv 9) pa_nil))) (fun _ _ => rfl))) pa_nil)))) pa_nil)))))
        (pss_one (ps_expr (pe_bm PySem.F.plainAttrs_list PySem.F.slot_list_append PySem.F.type_list_append mt_append (pv 3) (pa_cons (pv 7) pa_nil))))))))
      (pss_one (ps_ret (pv 3))))), ?_⟩
    have n1 : 1 ≤ sizeLine := by decide
    have n2 : 2 ≤ sizeLine := by decide
    have lt1 : ∀ {n : Nat}, n ≤ 1000 → n < sizeLine := fun h1 => by rw [sizeLine_eq]; omega
    refine ⟨n1, fun r0 hr0 => ⟨n1, fun R hR => ?_⟩⟩
    have s0 : Same H (upd (upd H r0 (.lst [.int 0])) R (.lst [.ref r0])) := Same.trans (Same.new hr0) (Same.new hR)
    have Rr : R ≠ r0 := (ne_of_none upd_same hR).symm
    have x0 : (upd (upd H r0 (.lst [.int 0])) R (.lst [.ref r0])) r0 = some (.lst (rowL c (sgs u) (sgs v) 0 1)) := by
      rw [upd_ne Rr.symm, upd_same, rowL_succ, cel_00]
      rfl
    have xR : (upd (upd H r0 (.lst [.int 0])) R (.lst [.ref r0])) R = some (.lst [.ref r0]) := upd_same
    have R0 : H R = none := by
      rw [upd_ne Rr] at hR
      exact hR
    have cn : ca ≠ r0 ∧ ca ≠ R := by
      obtain ⟨Dl, e, _⟩ := hc
      exact ⟨ne_of_none e hr0, ne_of_none e R0⟩
    have hc1 := hc.keep (s0 ca)
    generalize upd (upd H r0 (.lst [.int 0])) R (.lst [.ref r0]) = H1 at s0 x0 xR hc1 ⊢
    have lsu := sgs_len u
    have lsv := sgs_len v
    generalize hsu : sgs u = su at *
    generalize hsv : sgs v = sv at *
    refine ⟨_, rfl, v, rfl, for_it walk_str (fun j σ H2 => (∃ o4 o5 o6 o7 o8 o9, σ = [some (.str u), some (.str v), some (.ref ca), some (.ref R), o4, o5, o6, o7, o8, o9]) ∧ But r0 H1 H2 ∧ H2 r0 = some (.lst (rowL c su sv 0 (j + 1)))) ?_ (fun _ _ _ _ _ => trivial) ?_ ?_⟩
    · exact ⟨⟨_, _, _, _, _, _, rfl⟩, But.refl, x0⟩
    · rintro j x σ H2 H3 hj ⟨⟨o4, o5, o6, o7, o8, o9, rfl⟩, b2, e2⟩ ⟨rfl, cd, hx, rfl⟩
      have hj2 : j < sv.length := by omega
      have ex : (⟨#[cd]⟩ : Str) = sv[j] := by
        have := sgs_at hx
        rw [hsv, List.getElem?_eq_getElem hj2] at this
        exact (Option.some.inj this).symm
      rw [ex]
      have mj : sv[j] ∈ Pl := pv' _ (List.getElem_mem hj2)
      have eR := b2 _ _ Rr xR
      have hc2 := hc1.keep (fun o e => b2 _ _ cn.1 e)
      refine ⟨_, rfl, R, _, _, _, rfl, rfl, SqL.of eR, atI_nat (j := 0) rfl, .inl ⟨rfl, _, SqL.of e2⟩, ?_⟩
      refine ⟨_, rfl, R, _, _, _, rfl, rfl, SqL.of eR, atI_nat (j := 0) rfl, _, rfl, r0, _, _, _, rfl, rfl, SqL.of e2, rowL_last 0 j, ?_⟩
      refine ⟨_, rfl, _, rfl, n2, fun t ht => ⟨ca, _, rfl, hc2.get ht e0 mj, _, _, rfl, rfl, ?_⟩⟩
      have nt : r0 ≠ t := ne_of_none e2 ht
      refine ⟨r0, _, _, rfl, rfl, by rw [upd_ne nt]; exact e2, lt1 (by rw [rowL_len]; omega), ⟨_, _, _, _, _, _, rfl⟩, fun b o n e => ?_, ?_⟩
      · have e' := b2 _ _ n e
        rw [upd_ne n, upd_ne (ne_of_none e' ht)]
        exact e'
      · rw [upd_same, rowL_succ 0 (j + 1), cel_0s hj2]
    · rintro σ H2 ⟨⟨o4, o5, o6, o7, o8, o9, rfl⟩, b2, e2⟩
      have b2' : But r0 H H2 := (But.of_same s0).trans b2
      have eR := b2 _ _ Rr xR
      have s2 : Same H H2 := fun b o e => b2' _ _ (ne_of_none e hr0) e
      have hc2 := hc1.keep (fun o e => b2 _ _ cn.1 e)
      clear b2 b2' x0 xR hc1 s0
      refine ⟨_, rfl, u, rfl, for_it walk_str (fun i σ H3 => (∃ o4 o5 o6 o7 o8 o9, σ = [some (.str u), some (.str v), some (.ref ca), some (.ref R), o4, o5, o6, o7, o8, o9]) ∧ But R H2 H3 ∧ ∃ (rs : List V) (r : Addr), H3 R = some (.lst (rs ++ [.ref r])) ∧ rs.length = i ∧ r ≠ R ∧ H3 r = some (.lst (rowL c su sv i (v.cps.size + 1)))) ?_ (fun _ _ _ _ _ => trivial) ?_ ?_⟩
      · exact ⟨⟨_, _, _, _, _, _, rfl⟩, But.refl, [], r0, eR, rfl, Rr.symm, e2⟩
      · rintro i x σ H3 H4 hi ⟨⟨p4, p5, p6, p7, p8, p9, rfl⟩, b3, rs, r, f1, f2, f3, f4⟩ ⟨rfl, cd, hx, rfl⟩
        have hi2 : i < su.length := by omega
        have ex : (⟨#[cd]⟩ : Str) = su[i] := by
          have := sgs_at hx
          rw [hsu, List.getElem?_eq_getElem hi2] at this
          exact (Option.some.inj this).symm
        rw [ex]
        have mi : su[i] ∈ Pl := pu _ (List.getElem_mem hi2)
        have hc3 := hc2.keep (fun o e => b3 _ _ cn.2 e)
        refine ⟨_, rfl, _, rfl, R, _, _, _, rfl, rfl, SqL.of f1, at_last, ?_⟩
        refine ⟨_, rfl, r, _, _, _, rfl, rfl, SqL.of f4, rowL_at (j := 0) (Nat.succ_pos _), _, rfl, _, rfl, n2, fun t ht => ⟨ca, _, rfl, hc3.get ht mi e0, _, _, rfl, rfl, n1, fun w hw => ?_⟩⟩
        have sW : Same H4 (upd (upd H4 t (.tup [.str su[i], .str ""])) w (.lst [.int (cel c su sv i 0 + c su[i] "")])) := Same.trans (Same.new ht) (Same.new hw)
        have w0 : H4 w = none := by
          cases e : H4 w with
          | none => rfl
          | some o =>
            have := (Same.new (o := .tup [.str su[i], .str ""]) ht) _ _ e
            rw [hw] at this
            cases this
        have eW : (upd (upd H4 t (.tup [.str su[i], .str ""])) w (.lst [.int (cel c su sv i 0 + c su[i] "")])) w = some (.lst (rowL c su sv (i + 1) 1)) := by
          rw [upd_same, rowL_succ, cel_s0 hi2]
          rfl
        have wr : r ≠ w := ne_of_none f4 w0
        have wR : R ≠ w := ne_of_none f1 w0
        have wc : ca ≠ w := by
          obtain ⟨Dl, e, _⟩ := hc3
          exact ne_of_none e w0
        have gr := sW _ _ f4
        have gR := sW _ _ f1
        have hc4 := hc3.keep (sW ca)
        show _
        generalize upd (upd H4 t (.tup [.str su[i], .str ""])) w (.lst [.int (cel c su sv i 0 + c su[i] "")]) = H5 at sW eW gr gR hc4 ⊢
        refine ⟨_, rfl, v, rfl, for_it walk_enumS (fun j σ H6 => (∃ o8 o9, σ = [some (.str u), some (.str v), some (.ref ca), some (.ref R), p4, some (.str su[i]), some (.ref r), some (.ref w), o8, o9]) ∧ But w H5 H6 ∧ H6 w = some (.lst (rowL c su sv (i + 1) (j + 1)))) ?_ (fun _ _ _ _ _ => trivial) ?_ ?_⟩
        · exact ⟨⟨_, _, rfl⟩, But.refl, eW⟩
        · rintro j x σ H6 H7 hj ⟨⟨p8, p9, rfl⟩, b6, e6⟩ ⟨T, cd, rfl, hT, rfl, hx⟩
          have hj2 : j < sv.length := by omega
          have ex : (⟨#[cd]⟩ : Str) = sv[j] := by
            have := sgs_at hx
            rw [hsv, List.getElem?_eq_getElem hj2] at this
            exact (Option.some.inj this).symm
          rw [ex]
          have mj : sv[j] ∈ Pl := pv' _ (List.getElem_mem hj2)
          have nT : w ≠ T := ne_of_none e6 hT
          have b7 : But w H5 (upd H6 T (.tup [.int (j : Nat), .str sv[j]])) := fun b o n e => by
            have e' := b6 _ _ n e
            rw [upd_ne (ne_of_none e' hT)]
            exact e'
          have e7 : (upd H6 T (.tup [.int (j : Nat), .str sv[j]])) w = some (.lst (rowL c su sv (i + 1) (j + 1))) := by
            rw [upd_ne nT]
            exact e6
          have eT : (upd H6 T (.tup [.int (j : Nat), .str sv[j]])) T = some (.tup [.int (j : Nat), .str sv[j]]) := upd_same
          generalize upd H6 T (.tup [.int (j : Nat), .str sv[j]]) = H7 at b7 e7 eT ⊢
          have g7 := b7 _ _ wr gr
          have hc7 := hc4.keep (fun o e => b7 _ _ wc e)
          refine ⟨T, _, rfl, SqT.of eT, rfl, _, _, rfl, _, _, rfl, rfl, ?_⟩
          refine ⟨_, rfl, .inl ⟨rfl, _, SqL.of e7⟩, ?_⟩
          have ej : (j : Int) + 1 = ((j + 1 : Nat) : Int) := by omega
          refine ⟨_, rfl, _, rfl, _, _, rfl, rfl, r, _, _, _, rfl, rfl, SqL.of g7, (by show atI _ ((j : Int) + 1) = _; rw [ej]; exact rowL_at (by omega)), _, rfl, _, rfl, n2, fun t1 ht1 => ⟨ca, _, rfl, hc7.get ht1 mi e0, _, _, rfl, rfl, ?_⟩⟩
          have s1 := Same.new (o := .tup [.str su[i], .str ""]) ht1
          have hc8 := hc7.keep (s1 ca)
          refine ⟨_, rfl, _, rfl, w, _, _, _, rfl, rfl, SqL.of (s1 _ _ e7), rowL_at (by omega), _, rfl, _, rfl, n2, fun t2 ht2 => ⟨ca, _, rfl, hc8.get ht2 e0 mj, _, _, rfl, rfl, ?_⟩⟩
          have s2 := Same.trans s1 (Same.new (o := .tup [.str "", .str sv[j]]) ht2)
          have hc9 := hc7.keep (s2 ca)
          refine ⟨_, rfl, _, rfl, r, _, _, _, rfl, rfl, SqL.of (s2 _ _ g7), rowL_at (by omega), _, rfl, _, rfl, _, rfl, n2, fun t3 ht3 => ⟨ca, _, rfl, hc9.get ht3 mi mj, _, _, rfl, rfl, ?_⟩⟩
          have s3 := Same.trans s2 (Same.new (o := .tup [.str su[i], .str sv[j]]) ht3)
          refine ⟨_, _, _, _, rfl, min3_int _ _ _, ?_⟩
          refine ⟨w, _, _, rfl, rfl, s3 _ _ e7, lt1 (by rw [rowL_len]; omega), ⟨_, _, rfl⟩, fun b o n e => ?_, ?_⟩
          · rw [upd_ne n]
            exact s3 _ _ (b7 _ _ n e)
          · rw [upd_same, rowL_succ (i + 1) (j + 1), cel_ss hi2 hj2]
        · rintro σ H6 ⟨⟨p8, p9, rfl⟩, b6, e6⟩
          have g6 := b6 _ _ wR gR
          refine ⟨_, rfl, .inl ⟨rfl, _, SqL.of g6⟩, _, rfl, R, _, _, rfl, rfl, g6, lt1 (by rw [List.length_append, f2]; show i + 1 ≤ 1000; omega), ⟨_, _, _, _, _, _, rfl⟩, fun b o n e => ?_, rs ++ [.ref r], w, upd_same, ?_, wR.symm, ?_⟩
          · rw [upd_ne n]
            have e' := b3 _ _ n e
            exact b6 _ _ (ne_of_none e' w0) (sW _ _ e')
          · rw [List.length_append, f2]
            rfl
          · rw [upd_ne wR.symm]
            exact e6
      · rintro σ H3 ⟨⟨p4, p5, p6, p7, p8, p9, rfl⟩, b3, rs, r, f1, f2, f3, f4⟩
        refine ⟨_, rfl, q _ R r rs (rowL c su sv u.cps.size v.cps.size) (fun b o e => b3 _ _ (ne_of_none e R0) (s2 _ _ e)) f1 ?_⟩
        rw [f4, rowL_succ]
        unfold cel
        rw [List.take_of_length_le (Nat.le_of_eq lsu), List.take_of_length_le (Nat.le_of_eq lsv)]
theorem scBetw : FnScope ["one", "other", "costs"] ["one", "other", "costs"] (defScope sBetw) := ⟨rfl, rfl, rfl, by decide +kernel, rfl, by decide +kernel, by decide +kernel⟩
theorem ok_betw {f : Addr} {fd : FuncData} (F : Fun K "_cost_between" "_cost_between" sBetw f fd) (J : Cd P w K mg base 1 "_cost_rows" ["one", "other", "costs"] spRows) : FnOk P w K mg base CX0 2 f fd ["one", "other", "costs"] spBetw := by
  obtain ⟨j, dj, G, gm, gk, gb⟩ := J.ex
  refine F.ok scBetw (fun vs H Q E h => ?_) (fun cdv A outer s H vs Q E hr h => ?_)
  · obtain ⟨u, v, ca, Pl, c, rfl, _⟩ := h
    rfl
  · obtain ⟨u, v, ca, Pl, c, rfl, hc, e0, pu, pv', lu, lv, q⟩ := h
    refine ⟨_, pss_one (ps_ret (pe_ix ix_list (pe_ix ix_list (pe_call G hr (by rfl) gm gk gb .nil pass0 (pa_cons (pv 0) (pa_cons (pv 1) (pa_cons (pv 2) pa_nil)))) (pe_un un_neg pe_int) (fun _ _ => rfl)) (pe_un un_neg pe_int) (fun _ _ => rfl))), ?_⟩
    refine ⟨_, rfl, _, rfl, _, rfl, u, v, ca, Pl, c, rfl, hc, e0, pu, pv', lu, lv, fun H1 R r rs ns s1 e1 e2 => ?_⟩
    exact ⟨_, rfl, R, _, _, _, rfl, rfl, SqL.of e1, at_last, _, rfl, r, _, _, _, rfl, rfl, SqL.of e2, at_last, q _ s1⟩
end
end Mk

set_option Elab.async false
set_option linter.all false
set_option maxRecDepth 100000
set_option maxHeartbeats 1000000
/-! the law's words behind one change -/
namespace Mk
open PySem PySem.Spec L2 PyProof.Rows

theorem app_len (x y : Str) : (x ++ y).length = x.length + y.length := by
  rw [len_cs, cs_append, List.length_append, ← len_cs, ← len_cs]
section
variable {P : Program} {w : World} {K : PySem.W.Frag} {mg : Str → Option Value} {base : Heap}
end
end Mk

set_option Elab.async false
set_option linter.all false
set_option maxRecDepth 100000
set_option maxHeartbeats 1000000
/-! values of any kind; is one of them a change -/
namespace Mk
open PySem PySem.Spec L2 PyProof.Rows

mutual
theorem Dp.keep {K : PySem.W.Frag} {H H' : Hp} (k : Same H H') : ∀ {v : V} {d : PyData}, Dp K H v d → Dp K H' v d
  | _, _, .non => .non
  | _, _, .bl b => .bl b
  | _, _, .int i => .int i
  | _, _, .str x => .str x
  | _, _, .lst h t => .lst (k.seq h) (DpAll.keep k t)
  | _, _, .tup h t => .tup (h.imp (fun r => r.imp (k _ _) fun ⟨o, e⟩ => ⟨o, k _ _ e⟩) id) (DpAll.keep k t)
theorem DpAll.keep {K : PySem.W.Frag} {H H' : Hp} (k : Same H H') : ∀ {vs : List V} {ds : List PyData}, DpAll K H vs ds → DpAll K H' vs ds
  | _, _, .nil => .nil
  | _, _, .cons a t => .cons (Dp.keep k a) (DpAll.keep k t)
end
section
variable {K : PySem.W.Frag}
end
section
variable {P : Program} {w : World} {K : PySem.W.Frag} {mg : Str → Option Value} {base : Heap}
end
end Mk

set_option Elab.async false
set_option linter.all false
set_option maxRecDepth 100000
set_option maxHeartbeats 1000000
/-! is a value a change -/
namespace Mk
open PySem PySem.Spec L2 PyProof.Rows

section
variable {P : Program} {w : World} {K : PySem.W.Frag} {mg : Str → Option Value} {base : Heap}
end
end Mk

set_option Elab.async false
set_option linter.all false
set_option maxRecDepth 100000
set_option maxHeartbeats 1000000
/-! xs[a:c] = ys -/
namespace Mk
open PySem PySem.Spec PyProof.Rows L2

end Mk

set_option Elab.async false
set_option linter.all false
set_option maxRecDepth 100000
set_option maxHeartbeats 1000000
/-! words near words, and the least costs through them -/
namespace Mk
open PySem L2

theorem sgs_app (x y : Str) : sgs (x ++ y) = sgs x ++ sgs y := by
  unfold sgs
  rw [cs_append, List.map_append]
theorem mk_len {x : Str} (h : x.length = 1) : sgs x = [x] := by
  obtain ⟨a⟩ := x
  obtain ⟨l⟩ := a
  match l, h with
  | [c], _ => rfl
/-- the word of these signs -/
def wd (l : List Str) : Str := ⟨(l.flatMap cs).toArray⟩
theorem sgs_wd : ∀ {l : List Str}, (∀ x ∈ l, x.length = 1) → sgs (wd l) = l
  | [], _ => rfl
  | x :: l, h => by
    have e : wd (x :: l) = x ++ wd l := by
      apply cs_inj
      rw [cs_append]
      simp [wd, cs]
    rw [e, sgs_app, mk_len (h x List.mem_cons_self), sgs_wd fun y hy => h y (List.mem_cons_of_mem _ hy)]
    rfl
theorem sgs_length (z : Str) : (sgs z).length = z.length := by
  unfold sgs
  rw [List.length_map]
  rfl
/-! changed words -/
end Mk

set_option Elab.async false
set_option linter.all false
set_option maxRecDepth 100000
set_option maxHeartbeats 1000000
/-! the steps that a row of changes tells -/
namespace Mk
open PySem PySem.Spec L2 PyProof.Rows

/-- a step: the place, the sign that goes, the sign that comes -/
abbrev St3 := Nat × Str × Str
section
variable {H0 H1 : Hp} {S L : Addr} {sg : List Str} {ts : List Addr} {st : List St3}
end
section
variable {P : Program} {w : World} {K : PySem.W.Frag} {mg : Str → Option Value} {base : Heap}
end
end Mk

set_option Elab.async false
set_option linter.all false
set_option maxRecDepth 100000
set_option maxHeartbeats 1000000
/-! words are asked for; the steps of a row that must be one; the word behind them; a change of a step -/
namespace Mk
open PySem PySem.Spec L2 PyProof.Rows

abbrev sChkW : Stmt := top 22
theorem wd_join (ys : List Str) : Txt.join "" ys = wd ys := by
  apply cs_inj
  rw [cs_join, ← List.flatMap_def]
  simp [wd, cs]
theorem wB_sg {z : Str} (h : wB z = true) : ∀ x ∈ sgs z, sgB x = true := fun x hx => by
  obtain ⟨c, hc, rfl⟩ := List.mem_map.mp hx
  have := List.all_eq_true.mp h c hc
  unfold sgB wB
  have e : cs (⟨#[c]⟩ : Str) = [c] := by simp [cs]
  rw [e]
  show (true && ([c].all gB)) = true
  simp [this]
theorem wB_ofs {z : Str} (h : ∀ x ∈ sgs z, sgB x = true) : wB z = true := by
  unfold wB
  refine List.all_eq_true.mpr fun c hc => ?_
  have := h _ (List.mem_map.mpr ⟨c, hc, rfl⟩)
  unfold sgB wB at this
  simp only [Bool.and_eq_true] at this
  exact List.all_eq_true.mp this.2 c (by simp [cs])
def spChkW : Sp := fun vs H Q _ => ∃ z : Str, vs = [.str z] ∧ wB z = true ∧ z.length ≤ 1000 ∧ Q .non H
section
variable {P : Program} {w : World} {K : PySem.W.Frag} {mg : Str → Option Value} {base : Heap}
theorem scChkW : FnScope ["word"] ["word"] (defScope sChkW) := ⟨rfl, rfl, rfl, by decide +kernel, rfl, by decide +kernel, by decide +kernel⟩
theorem ok_chkW {f : Addr} {fd : FuncData} (F : Fun K "check_word" "check_word" sChkW f fd) (B : Bn mg) (hm : ∃ t, mg "MAX_WORD" = some (.int 1000 t)) (J : Cd P w K mg base 1 "is_word" ["value"] (spJudge wB K)) : FnOk P w K mg base CX0 2 f fd ["word"] spChkW := by
  obtain ⟨j, dj, G, gm, gk, gb⟩ := J.ex
  obtain ⟨tm, hm⟩ := hm
  refine F.ok scChkW (fun vs H Q E h => ?_) (fun cdv A outer s H vs Q E hr h => ?_)
  · obtain ⟨z, rfl, _⟩ := h
    rfl
  · obtain ⟨z, rfl, hz, hl, q⟩ := h
    refine ⟨_, pss_one (ps_if (PW.pt (pw_or (pt_not (pt_val (pe_call G hr (by rfl) gm gk gb .nil pass0 (pa_cons (pv 0) pa_nil)))) (pw_or1 (pt_cmpR op_gt (pe_callB call_len_str (by rfl) B.len PySem.boot_len (pa_cons (pv 0) pa_nil)) (pe_glob (v := .int 1000) (by rfl) hm ⟨_, rfl⟩) (nomark _))))) (pss_one ps_never) pss_nil), ?_⟩
    refine ⟨_, rfl, _, rfl, .inl ⟨z, rfl, by omega, _, rfl, ?_⟩⟩
    rw [hz]
    refine iteF ⟨_, rfl, z, rfl, Nat.le_trans hl (by decide), _, _, rfl, rfl, _, rfl, ?_⟩
    rw [decide_eq_false (by omega)]
    exact iteF q
theorem sum_wd {l : List Str} (h : ∀ x ∈ l, x.length = 1) : (l.map (·.length)).sum = l.length := by
  induction l with
  | nil => rfl
  | cons x l ih =>
    rw [List.map_cons, List.sum_cons, ih fun y hy => h y (List.mem_cons_of_mem _ hy), h x List.mem_cons_self, List.length_cons]
    omega
end
end Mk

set_option Elab.async false
set_option linter.all false
set_option maxRecDepth 100000
set_option maxHeartbeats 1000000
/-! what is asked of words and prices; the cost between two words -/
namespace Mk
open PySem PySem.Spec L2 PyProof.Rows

abbrev sPair6 : Stmt := top 89
abbrev sDist : Stmt := top 88
def spHaveS (C : Addr) : Sp := fun vs H Q _ => ∃ (x : Addr) (z : Str) (t1 t2 : PTab) (t3 : STab), vs = [.ref x, .str z] ∧ PrAt C H x t1 t2 t3 ∧ (∀ p ∈ t1, sgB p.1 = true) ∧ z.length ≤ 4000 ∧ (∀ y ∈ sgs z, y ∈ t1.map (·.1)) ∧ ∀ H', Same H H' → Q (.bl true) H'
def spPair6 (C : Addr) : Sp := fun vs H Q _ => ∃ (u v : Str) (x : Addr) (t1 t2 : PTab) (t3 : STab), vs = [.str u, .str v, .ref x] ∧ PrAt C H x t1 t2 t3 ∧ (∀ p ∈ t1, sgB p.1 = true) ∧ (∀ y ∈ sgs u, y ∈ t1.map (·.1)) ∧ (∀ y ∈ sgs v, y ∈ t1.map (·.1)) ∧ u.length ≤ 200 ∧ v.length ≤ 200 ∧ ∀ H', Same H H' → Q .non H'
/-- the cost from u to v -/
def ds (t1 t2 : PTab) (t3 : STab) (u v : Str) : Int := crn ("" : Str) (cc t1 t2 t3) (sgs u).reverse (sgs v).reverse
def spDist (C : Addr) : Sp := fun vs H Q _ => ∃ (u v : Str) (x : Addr) (t1 t2 : PTab) (t3 : STab), vs = [.str u, .str v, .ref x] ∧ PrAt C H x t1 t2 t3 ∧ RtT t1 t2 t3 ∧ Srt t1 t2 t3 ∧ (∀ y ∈ sgs u, y ∈ t1.map (·.1)) ∧ (∀ y ∈ sgs v, y ∈ t1.map (·.1)) ∧ u.length ≤ 200 ∧ v.length ≤ 200 ∧ ∀ H', Same H H' → Q (.int (ds t1 t2 t3 u v)) H'
theorem wB_sgs {ks : List Str} (sg : ∀ k ∈ ks, sgB k = true) {z : Str} (h : ∀ y ∈ sgs z, y ∈ ks) : wB z = true := by
  unfold wB
  refine List.all_eq_true.mpr fun c hc => ?_
  have m : (⟨#[c]⟩ : Str) ∈ sgs z := List.mem_map.mpr ⟨c, hc, rfl⟩
  have := sg _ (h _ m)
  unfold sgB wB at this
  simp only [Bool.and_eq_true] at this
  exact List.all_eq_true.mp this.2 c (by simp [cs])
structure Mx2 (mg : Str → Option Value) : Prop where
  mw : ∃ t, mg "MAX_WORD" = some (.int 1000 t)
  mc : ∃ t, mg "MAX_COMPARED" = some (.int 200 t)
section
variable {P : Program} {w : World} {K : PySem.W.Frag} {mg : Str → Option Value} {base : Heap}
theorem ok_haveS {f g C : Addr} {fd fdg : FuncData} (F : Fun K "have_signs" "have_signs" sHave f fd) (O : On mg) (D : OwnD K C g "__contains__") (G : FnOk P w K mg base CX0 1 g fdg ["self", "value"] (spCont K C)) (hb : Binds K fdg ["self", "value"] []) : FnOk P w K mg base CX0 2 f fd ["prices", "signs"] (spHaveS C) := by
  refine F.ok scHave (fun vs H Q E h => ?_) (fun cdv A outer s H vs Q E hr h => ?_)
  · obtain ⟨x, z, t1, t2, t3, rfl, _⟩ := h
    rfl
  · obtain ⟨x, z, t1, t2, t3, rfl, hx, sg, hl, sub, q⟩ := h
    refine ⟨_, pss_one (ps_ret (pe_callB (cr_all rfl) (by rfl) O.all (by decide +kernel) (pa_cons (pe_lc (own := [("sign", 2)]) (g := gName 2) (tt := tYes) rfl scHave.nd (pi_str (pv 1)) (blkOk_by (N := ["prices", "signs", "sign"]) (sc := defScope sHave) (by decide +kernel))
          (fun _ _ _ _ _ => pg_name (i := 2) scHave.nd rfl (Or.inl rfl)) (fun _ _ _ _ _ => pts_nil) (fun _ _ _ _ _ => pe_cmpR (op_in_own (n := 1) ⟨g, fdg, D, G, hb⟩ hr) (pv 2) (pv 0) (by rfl))) pa_nil))), ?_⟩
    refine ⟨_, rfl, z, rfl, fun D0 hD => wk_any walk_str (fun i H2 => Same H H2 ∧ H2 D0 = some (.lst ((List.replicate i true).map V.bl))) ⟨Same.new hD, upd_same⟩ (fun _ _ _ _ => trivial) ?_ ?_⟩
    · rintro i y H2 H3 hi ⟨hS, hL⟩ ⟨rfl, cd, hz, rfl⟩
      have m : (⟨#[cd]⟩ : Str) ∈ sgs z := List.mem_of_getElem? (sgs_at hz)
      have hz' : z.length = z.cps.size := rfl
      obtain ⟨dx, t', a, b, e, hx0, _⟩ := id (hx.same hS)
      have mz := sub _ m
      have okz : PyData.strOk ⟨#[cd]⟩ = true := by
        obtain ⟨p, hp, e⟩ := List.mem_map.mp mz
        rw [← e]
        exact sg_ok (sg p hp)
      refine ⟨rfl, _, rfl, _, rfl, x, dx, _, rfl, hx0, x, V.str ⟨#[cd]⟩, PyData.str ⟨#[cd]⟩, t1, t2, t3, rfl, hx.same hS, sg, .of (.str _) (by simp [SeqAt.shaped, PyData.canLay0, PyData.depth, okz]), _, rfl, _, hL, ?_, fun b0 o0 e0 => ?_, ?_⟩
      · rw [List.length_map, List.length_replicate]
        exact Nat.lt_of_lt_of_le (by omega : i < 4001) (by decide)
      · rw [upd_ne (ne_of_none e0 hD)]
        exact hS _ _ e0
      · have e1 : inS (t1.map (·.1)) (.str ⟨#[cd]⟩) = true := decide_eq_true mz
        rw [upd_same, e1, List.replicate_succ', List.map_append]
        rfl
    rintro H2 ⟨hS, hL⟩
    have ea : (List.replicate z.cps.size true).all id = true := List.all_eq_true.mpr fun b hb => (List.mem_replicate.mp hb).2
    refine ⟨_, _, rfl, SqL.of hL, ?_⟩
    rw [ea]
    exact q _ hS
theorem scPair6 : FnScope ["one", "other", "prices"] ["one", "other", "prices"] (defScope sPair6) := ⟨rfl, rfl, rfl, by decide +kernel, rfl, by decide +kernel, by decide +kernel⟩
theorem ok_pair6 {f C : Addr} {fd : FuncData} (F : Fun K "_check_pair" "_check_pair" sPair6 f fd) (B : Bn mg) (M : Mx2 mg) (J : Cd P w K mg base 2 "check_word" ["word"] spChkW) (J2 : Cd P w K mg base 1 "check_prices" ["prices"] (spChkPr C)) (J3 : Cd P w K mg base 2 "have_signs" ["prices", "signs"] (spHaveS C)) : FnOk P w K mg base CX0 3 f fd ["one", "other", "prices"] (spPair6 C) := by
  obtain ⟨j, dj, G, gm, gk, gb⟩ := J.ex
  obtain ⟨e, de, Ge, em, ek, eb⟩ := J2.ex
  obtain ⟨i, di, Gi, im, ik, ib⟩ := J3.ex
  obtain ⟨tm, hm⟩ := M.mc
  refine F.ok scPair6 (fun vs H Q E h => ?_) (fun cdv A outer s H vs Q E hr h => ?_)
  · obtain ⟨u, v, x, t1, t2, t3, rfl, _⟩ := h
    rfl
  · obtain ⟨u, v, x, t1, t2, t3, rfl, hx, sg, su, sv, lu, lv, q⟩ := h
    refine ⟨_, pss_cons (ps_expr (pe_call G hr (by rfl) gm gk gb .nil pass0 (pa_cons (pv 0) pa_nil)))
      (pss_cons (ps_expr (pe_call G hr (by rfl) gm gk gb .nil pass0 (pa_cons (pv 1) pa_nil)))
      (pss_cons (ps_expr (pe_call Ge (hr.mono (by decide)) (by rfl) em ek eb .nil pass0 (pa_cons (pv 2) pa_nil)))
      (pss_cons (ps_if (pt_not (pt_val (pe_call Gi hr (by rfl) im ik ib .nil pass0 (pa_cons (pv 2) (pa_cons (pe_op op_add_str (pv 0) (pv 1)) pa_nil))))) (pss_one ps_never) pss_nil)
      (pss_one (ps_if (pt_cmpR op_gt (pe_callB (call_max2 rfl) (by rfl) B.max (by decide +kernel) (pa_cons (pe_callB call_len_str (by rfl) B.len PySem.boot_len (pa_cons (pv 0) pa_nil)) (pa_cons (pe_callB call_len_str (by rfl) B.len PySem.boot_len (pa_cons (pv 1) pa_nil)) pa_nil))) (pe_glob (v := .int 200) (by rfl) hm ⟨_, rfl⟩) (nomark _)) (pss_one ps_never) pss_nil))))), ?_⟩
    have sg' : ∀ k ∈ t1.map (·.1), sgB k = true := fun k hk => by
      obtain ⟨p, hp, rfl⟩ := List.mem_map.mp hk
      exact sg p hp
    refine ⟨_, rfl, u, rfl, wB_sgs sg' su, by omega, _, rfl, v, rfl, wB_sgs sg' sv, by omega, _, rfl, x, t1, t2, t3, rfl, hx, ?_⟩
    have lA : (u ++ v).length = u.length + v.length := app_len u v
    refine ⟨_, rfl, _, rfl, _, rfl, _, _, rfl, rfl, Nat.le_trans (by omega : u.length + v.length ≤ 4000) (by decide), x, u ++ v, t1, t2, t3, rfl, hx, sg, by omega, fun y hy => ?_, fun H1 s1 => ⟨_, rfl, iteF ?_⟩⟩
    · rw [sgs_app] at hy
      exact (List.mem_append.mp hy).elim (su y) (sv y)
    · refine ⟨_, rfl, u, rfl, Nat.le_trans lu (by decide), _, rfl, v, rfl, Nat.le_trans lv (by decide), _, _, rfl, _, _, rfl, rfl, _, rfl, ?_⟩
      rw [decide_eq_false (by split <;> omega)]
      exact iteF (q _ s1)
theorem scDist : FnScope ["one", "other", "prices"] ["one", "other", "prices"] (defScope sDist) := ⟨rfl, rfl, rfl, by decide +kernel, rfl, by decide +kernel, by decide +kernel⟩
theorem ok_dist {f C : Addr} {fd : FuncData} (F : Fun K "distance" "distance" sDist f fd) (J : Cd P w K mg base 3 "_check_pair" ["one", "other", "prices"] (spPair6 C)) (J2 : Cd P w K mg base 4 "costs_by_ends" ["prices"] (spBy C)) (J3 : Cd P w K mg base 2 "_cost_between" ["one", "other", "costs"] spBetw) : FnOk P w K mg base CX0 5 f fd ["one", "other", "prices"] (spDist C) := by
  obtain ⟨j, dj, G, gm, gk, gb⟩ := J.ex
  obtain ⟨e, de, Ge, em, ek, eb⟩ := J2.ex
  obtain ⟨i, di, Gi, im, ik, ib⟩ := J3.ex
  refine F.ok scDist (fun vs H Q E h => ?_) (fun cdv A outer s H vs Q E hr h => ?_)
  · obtain ⟨u, v, x, t1, t2, t3, rfl, _⟩ := h
    rfl
  · obtain ⟨u, v, x, t1, t2, t3, rfl, hx, R, sr, su, sv, lu, lv, q⟩ := h
    refine ⟨_, pss_cons (ps_expr (pe_call G (hr.mono (by decide)) (by rfl) gm gk gb .nil pass0 (pa_cons (pv 0) (pa_cons (pv 1) (pa_cons (pv 2) pa_nil)))))
      (pss_one (ps_ret (pe_call Gi (hr.mono (by decide)) (by rfl) im ik ib .nil pass0 (pa_cons (pv 0) (pa_cons (pv 1) (pa_cons (pe_call Ge hr (by rfl) em ek eb .nil pass0 (pa_cons (pv 2) pa_nil)) pa_nil)))))), ?_⟩
    refine ⟨_, rfl, _, rfl, _, rfl, u, v, x, t1, t2, t3, rfl, hx, R.ag.sg, su, sv, lu, lv, fun H1 s1 => ?_⟩
    refine ⟨_, rfl, _, rfl, _, rfl, x, t1, t2, t3, rfl, hx.same s1, R, sr, fun H2 ca s2 fa ea => ?_⟩
    have em0 := em_not R.ag
    have pl : ∀ {z : Str}, z ∈ t1.map (·.1) → z ∈ plc t1 := fun hz => List.mem_cons_of_mem _ hz
    refine ⟨u, v, ca, plc t1, cc t1 t2 t3, rfl, ⟨_, ea, fun x hx y hy => ⟨lc_in R.ag hx hy, rfl⟩⟩, em_in, fun y hy => pl (su y hy), fun y hy => pl (sv y hy), ?_, ?_, fun H3 s3 => q _ (Same.trans (Same.trans s1 s2) s3)⟩
    · show u.length ≤ 300
      omega
    · show v.length ≤ 300
      omega
end
end Mk

set_option Elab.async false
set_option linter.all false
set_option maxRecDepth 100000
set_option maxHeartbeats 1000000
/-! some signs drawn -/
namespace Mk
open PySem PySem.Spec L2 PyProof.Rows

section
variable {P : Program} {w : World} {K : PySem.W.Frag} {mg : Str → Option Value} {base : Heap}
end
end Mk

set_option Elab.async false
set_option linter.all false
set_option maxRecDepth 100000
set_option maxHeartbeats 1000000
/-! drawn tables -/
namespace Mk
open PySem PySem.Spec L2 PyProof.Rows

/-- the turns that grow at T -/
structure Trn (zs : List Str) (p T : Addr) (H0 H1 : Hp) (t : STab) (k n : Nat) : Prop where
  but : ∀ b o, b ≠ p → b ≠ T → H0 b = some o → H1 b = some o
  out : H1 T = some (.dT (kvsS t))
  pot : Pot H1 p n
  nd : (t.map (·.1)).Nodup
  le : t.length ≤ k
  ok : ∀ q ∈ t, 1 ≤ q.2 ∧ q.2 ≤ 18
  key : ∀ q ∈ t.map (·.1), q.1 ∈ zs ∧ q.2 ∈ zs ∧ q.1 ≠ q.2
theorem mem_setT {κ : Type} [DecidableEq κ] {t : List (κ × Int)} {k : κ} {i : Int} {q : κ × Int} (h : q ∈ setT t k i) : q ∈ t ∨ q = (k, i) := by
  unfold setT at h
  split at h
  · obtain ⟨p, hp, e⟩ := List.mem_map.mp h
    split at e
    · rename_i hk
      exact .inr (by rw [← e, ← hk])
    · exact .inl (e ▸ hp)
  · rcases List.mem_append.mp h with e | e
    · exact .inl e
    · exact .inr (List.mem_singleton.mp e)
section
variable {P : Program} {w : World} {K : PySem.W.Frag} {mg : Str → Option Value} {base : Heap}
end
end Mk

set_option Elab.async false
set_option linter.all false
set_option maxRecDepth 100000
set_option maxHeartbeats 1000000
/-! the prices of single changes, by what they take away and set -/
namespace Mk
open PySem PySem.Spec L2 PyProof.Rows

section
variable {t1 t2 : PTab} {t3 : STab} {ks : List Str} {ps : List (Str × Str)} {D : STab}
end
section
variable {P : Program} {w : World} {K : PySem.W.Frag} {mg : Str → Option Value} {base : Heap}
end
end Mk

set_option Elab.async false
set_option linter.all false
set_option maxRecDepth 100000
set_option maxHeartbeats 1000000
/-! the price of steps -/
namespace Mk
open PySem PySem.Spec L2 PyProof.Rows

section
variable {P : Program} {w : World} {K : PySem.W.Frag} {mg : Str → Option Value} {base : Heap}
end
end Mk

set_option Elab.async false
set_option linter.all false
set_option maxRecDepth 100000
set_option maxHeartbeats 4000000
namespace Mk
open PySem PySem.Spec PyProof.Rows L2

section
variable {prog : Program} {w : World} {A : Around} {E : Value → Shared → Prop} {s : Shared}
end
section
variable {X : Cx}
end
end Mk

set_option Elab.async false
set_option linter.all false
set_option maxRecDepth 100000
set_option maxHeartbeats 4000000
/-! xs[::-1], a list -/
namespace Mk
open PySem PySem.Spec PyProof.Rows L2
section
variable {X : Cx}
end
end Mk

set_option Elab.async false
set_option linter.all false
set_option maxRecDepth 100000
set_option maxHeartbeats 1000000
/-! changed, undone, price_of -/
namespace Mk
open PySem PySem.Spec L2 PyProof.Rows

section
variable {P : Program} {w : World} {K : PySem.W.Frag} {mg : Str → Option Value} {base : Heap}
end
end Mk

set_option Elab.async false
set_option linter.all false
set_option maxRecDepth 100000
set_option maxHeartbeats 1000000
/-! words and steps that the law draws -/
namespace Mk
open PySem PySem.Spec L2 PyProof.Rows

theorem sgB_len {z : Str} (h : sgB z = true) : z.length = 1 := by
  unfold sgB at h
  simp only [Bool.and_eq_true, decide_eq_true_eq] at h
  exact h.1
section
variable {P : Program} {w : World} {K : PySem.W.Frag} {mg : Str → Option Value} {base : Heap}
theorem flat_sgs : ∀ {ys : List Str}, (∀ y ∈ ys, y.length = 1) → sgs (Txt.join "" ys) = ys := fun {ys} h => by rw [wd_join, sgs_wd h]
end
end Mk

set_option Elab.async false
set_option linter.all false
set_option maxRecDepth 100000
set_option maxHeartbeats 2000000
/-! the law's word behind a change -/
namespace Mk
open PySem PySem.Spec L2 PyProof.Rows

abbrev three : List Str := ["put", "out", "swap"]
section
variable {P : Program} {w : World} {K : PySem.W.Frag} {mg : Str → Option Value} {base : Heap}
end
end Mk

set_option Elab.async false
set_option linter.all false
set_option maxRecDepth 100000
set_option maxHeartbeats 1000000
/-! rows of changes and their ways back -/
namespace Mk
open PySem PySem.Spec L2

end Mk

set_option Elab.async false
set_option linter.all false
set_option maxRecDepth 100000
set_option maxHeartbeats 1000000
/-! rows that the law draws; the words of a row -/
namespace Mk
open PySem PySem.Spec L2 PyProof.Rows

/-- the heap without the cup -/
def cutH (p : Addr) (H : Hp) : Hp := fun b => if b = p then none else H b
theorem cutH_ne {p b : Addr} {H : Hp} (h : b ≠ p) : cutH p H b = H b := if_neg h
theorem But.cut {p : Addr} {H H' : Hp} (B : But p H H') : Same (cutH p H) (cutH p H') := fun b o e => by
  by_cases h : b = p
  · rw [h] at e
    rw [show cutH p H p = none from if_pos rfl] at e
    cases e
  · rw [cutH_ne h] at e ⊢
    exact B b o h e
section
variable {P : Program} {w : World} {K : PySem.W.Frag} {mg : Str → Option Value} {base : Heap}
end
end Mk

set_option Elab.async false
set_option linter.all false
set_option maxRecDepth 100000
set_option maxHeartbeats 1000000
/-! the words of a row -/
namespace Mk
open PySem PySem.Spec L2 PyProof.Rows

section
variable {P : Program} {w : World} {K : PySem.W.Frag} {mg : Str → Option Value} {base : Heap}
theorem atI_neg1 {α : Type} {xs ws : List α} {v : α} (h : xs = ws ++ [v]) : atI xs (-1) = some v := by
  rw [h]
  exact atI_last ws v
end
end Mk

set_option Elab.async false
set_option linter.all false
set_option maxRecDepth 100000
set_option maxHeartbeats 1000000
/-! zip of a list and a tuple -/
namespace Mk
open PySem PySem.Spec PyProof.Rows L2

end Mk

set_option Elab.async false
set_option linter.all false
set_option maxRecDepth 100000
set_option maxHeartbeats 1000000
/-! what a row costs, by the law; the way back, by the law -/
namespace Mk
open PySem PySem.Spec L2 PyProof.Rows

section
variable {P : Program} {w : World} {K : PySem.W.Frag} {mg : Str → Option Value} {base : Heap}
end
end Mk

set_option Elab.async false
set_option linter.all false
set_option maxRecDepth 100000
set_option maxHeartbeats 1000000
/-! the way back, by the law -/
namespace Mk
open PySem PySem.Spec L2 PyProof.Rows

section
variable {P : Program} {w : World} {K : PySem.W.Frag} {mg : Str → Option Value} {base : Heap}
end
end Mk

set_option Elab.async false
set_option linter.all false
set_option maxRecDepth 100000
set_option maxHeartbeats 1000000
/-! what a call tells -/
namespace Mk
open PySem PySem.Spec L2 PyProof.Rows

end Mk

set_option Elab.async false
set_option linter.all false
set_option maxRecDepth 100000
set_option maxHeartbeats 1000000
/-! data that repr can show, and how long their texts are -/
namespace Mk
open PySem PySem.Spec L2 PyProof.Rows

theorem depth_all {k : Nat} : ∀ {xs : List PyData}, (∀ x ∈ xs, x.depth ≤ k) → PyData.depthAll xs ≤ k
  | [], _ => by simp only [PyData.depthAll]; exact Nat.zero_le _
  | x :: xs, h => by
    have h1 := h x List.mem_cons_self
    have h2 := depth_all fun y hy => h y (List.mem_cons_of_mem _ hy)
    simp only [PyData.depthAll]
    omega
section
variable {xs : List PyData} {n k : Nat}
end
/-- a sign is one of five -/
theorem sign_in {z : Str} (h : sgB z = true) : z ∈ sgs "abcde" := by
  unfold sgB at h
  simp only [Bool.and_eq_true, decide_eq_true_eq] at h
  have hw := isW_of h.2
  have hl : (cs z).length = 1 := h.1
  obtain ⟨c, hc⟩ := List.length_eq_one_iff.mp hl
  have h2 := hw c (by rw [hc]; exact List.mem_singleton.mpr rfl)
  have ez : z = ⟨#[c]⟩ := cs_inj (by rw [hc])
  have e : sgs "abcde" = [⟨#[97]⟩, ⟨#[98]⟩, ⟨#[99]⟩, ⟨#[100]⟩, ⟨#[101]⟩] := by decide +kernel
  rw [ez, e]
  rcases (by omega : c = 97 ∨ c = 98 ∨ c = 99 ∨ c = 100 ∨ c = 101) with rfl | rfl | rfl | rfl | rfl <;> simp
end Mk

set_option Elab.async false
set_option linter.all false
set_option maxRecDepth 100000
set_option maxHeartbeats 1000000
/-! values that stay while tables of code grow; their texts -/
namespace Mk
open PySem PySem.Spec L2 PyProof.Rows

theorem SqL.extN {K : PySem.W.Frag} {H H' : Hp} {a : Addr} {xs : List V} (k : LamX.ExtN H H') (h : SqL K H a xs) : SqL K H' a xs := h.imp (fun r => r.imp (fun e => k _ _ e (fun _ z => nomatch z)) fun ⟨o, e⟩ => ⟨o, k _ _ e (fun _ z => nomatch z)⟩) id
theorem SqT.extN {K : PySem.W.Frag} {H H' : Hp} {a : Addr} {xs : List V} (k : LamX.ExtN H H') (h : SqT K H a xs) : SqT K H' a xs := h.imp (fun r => r.imp (fun e => k _ _ e (fun _ z => nomatch z)) fun ⟨o, e⟩ => ⟨o, k _ _ e (fun _ z => nomatch z)⟩) id
mutual
theorem Dp.extN {K : PySem.W.Frag} {H H' : Hp} (k : LamX.ExtN H H') : ∀ {v : V} {d : PyData}, Dp K H v d → Dp K H' v d
  | _, _, .non => .non
  | _, _, .bl b => .bl b
  | _, _, .int i => .int i
  | _, _, .str x => .str x
  | _, _, .lst h t => .lst (SqL.extN k h) (DpAll.extN k t)
  | _, _, .tup h t => .tup (SqT.extN k h) (DpAll.extN k t)
theorem DpAll.extN {K : PySem.W.Frag} {H H' : Hp} (k : LamX.ExtN H H') : ∀ {vs : List V} {ds : List PyData}, DpAll K H vs ds → DpAll K H' vs ds
  | _, _, .nil => .nil
  | _, _, .cons a t => .cons (Dp.extN k a) (DpAll.extN k t)
end
theorem sameN {H H' : Hp} (k : Same H H') : LamX.ExtN H H' := fun b o e _ => k b o e
mutual
theorem Dp.noDict {K : PySem.W.Frag} {H : Hp} : ∀ {v : V} {d : PyData}, Dp K H v d → d.hasDict = false
  | _, _, .non => by simp only [PyData.hasDict]
  | _, _, .bl b => by simp only [PyData.hasDict]
  | _, _, .int i => by simp only [PyData.hasDict]
  | _, _, .str x => by simp only [PyData.hasDict]
  | _, _, .lst h t => by simp only [PyData.hasDict]; exact DpAll.noDict t
  | _, _, .tup h t => by simp only [PyData.hasDict]; exact DpAll.noDict t
theorem DpAll.noDict {K : PySem.W.Frag} {H : Hp} : ∀ {vs : List V} {ds : List PyData}, DpAll K H vs ds → PyData.hasDictAll ds = false
  | _, _, .nil => by simp only [PyData.hasDictAll]
  | _, _, .cons a t => by simp only [PyData.hasDictAll, Dp.noDict a, DpAll.noDict t, Bool.or_self]
end
section
variable {X : Cx}
end
end Mk

set_option Elab.async false
set_option linter.all false
set_option maxRecDepth 100000
set_option maxHeartbeats 1000000
/-! what the calls tell of a row -/
namespace Mk
open PySem PySem.Spec L2 PyProof.Rows

section
variable {K : PySem.W.Frag} {H : Hp} {Q : VK} {C CI CO x : Addr} {z : Str} {v : V} {d : PyData} {t1 t2 : PTab} {t3 : STab}
end
/-! texts of them -/
theorem sgB_ok {y : Str} (h : sgB y = true) : PyData.strOk y = true := by
  have : ∀ z ∈ sgs "abcde", PyData.strOk z = true := by decide +kernel
  exact this y (sign_in h)
theorem canLay_all : ∀ {xs : List PyData}, (∀ x ∈ xs, x.canLay0 = true) → PyData.canLayAll0 xs = true
  | [], _ => by simp only [PyData.canLayAll0]
  | x :: xs, h => by
    simp only [PyData.canLayAll0, h x List.mem_cons_self, canLay_all fun y hy => h y (List.mem_cons_of_mem _ hy), Bool.and_self]
end Mk

set_option Elab.async false
set_option linter.all false
set_option maxRecDepth 100000
set_option maxHeartbeats 1000000
/-! rows that are judged by the law -/
namespace Mk
open PySem PySem.Spec L2 PyProof.Rows

/-! the texts of what is told -/
section
variable {d : PyData} {z : Str} {t1 t2 : PTab} {t3 : STab}
end
end Mk

set_option Elab.async false
set_option linter.all false
set_option maxRecDepth 100000
set_option maxHeartbeats 1000000
/-! ways of single changes from a sign to a sign -/
namespace Mk
open PySem PySem.Spec L2 PyProof.Rows

section
variable {t1 t2 : PTab} {t3 : STab}
theorem sgs_em : sgs ("" : Str) = [] := rfl
theorem sgs_sg {x : Str} (h : sgB x = true) : sgs x = [x] := mk_len (sgB_len h)
end
end Mk

set_option Elab.async false
set_option linter.all false
set_option maxRecDepth 100000
set_option maxHeartbeats 1000000
/-! pairs of places, and the rows of changes that they lead to -/
namespace Mk
open PySem PySem.Spec L2 PyProof.Rows

abbrev PairN := Option Nat × Option Nat
section
variable {su sv : List Str} {c : Str → Str → Int}
end
section
variable {t1 t2 : PTab} {t3 : STab}
end
end Mk

set_option Elab.async false
set_option linter.all false
set_option maxRecDepth 100000
set_option maxHeartbeats 1000000
/-! min of a list of texts; a cheapest way, sign by sign -/
namespace Mk
open PySem PySem.Spec L2 PyProof.Rows

section
variable {X : Cx}
end
/-! the way that is told: the least sign first -/
section
variable {t1 t2 : PTab} {t3 : STab}
end
/-! _way -/
theorem cc_le (R : RtT t1 t2 t3) {x e : Str} (hx : x ∈ plc t1) (he : e ∈ plc t1) : cc t1 t2 t3 x e ≤ 200 := by
  have C := cl_of R
  have rt := R.rt
  unfold rightB at rt
  simp only [Bool.and_eq_true] at rt
  have b1 := ok_bounds (m := 9) (by decide) rt.1
  have b2 := ok_bounds (m := 9) (by decide) rt.2.2.1
  have nd2 : (t2.map (·.1)).Nodup := R.ag.pm.nodup_iff.mpr R.ag.nd
  have lk : ∀ {t : PTab} {k : Str}, (t.map (·.1)).Nodup → (∀ p ∈ t, 0 ≤ p.2 ∧ p.2 ≤ 100) → k ∈ t.map (·.1) → look t k ≤ 100 := fun {t k} nd b m => by
    obtain ⟨q, hq, rfl⟩ := List.mem_map.mp m
    rw [look_mem nd q hq]
    exact (b q hq).2
  have d1 : dd t1 t2 t3 x "" ≤ 100 := by
    unfold dd
    by_cases e0 : x = ""
    · rw [if_pos e0]; decide
    · rw [if_neg e0, if_neg e0, if_pos rfl]
      exact lk nd2 b2 (R.ag.pm.mem_iff.mpr ((List.mem_cons.mp hx).resolve_left e0))
  have d2 : dd t1 t2 t3 "" e ≤ 100 := by
    unfold dd
    by_cases e0 : ("" : Str) = e
    · rw [if_pos e0]; decide
    · rw [if_neg e0, if_pos rfl]
      exact lk R.ag.nd b1 ((List.mem_cons.mp he).resolve_left (Ne.symm e0))
  have h1 := C.tri x hx e he "" em_in
  have h2 := C.le x hx "" em_in
  have h3 := C.le "" em_in e he
  omega
theorem cc_ge (R : RtT t1 t2 t3) {x e : Str} (hx : x ∈ plc t1) (he : e ∈ plc t1) : 0 ≤ cc t1 t2 t3 x e := by
  by_cases c : x = e
  · rw [c, (cl_of R).zero e he]
    exact Int.le_refl _
  · have C := cl_of R
    have := C.tri x hx x hx e he
    have z := C.zero x hx
    refine Int.le_trans (by decide : (0 : Int) ≤ 1) (cl_least R.ag C (m := 1) (by decide) R.bds.b1 R.bds.b2 R.bds.b3 hx he c)
section
variable {P : Program} {w : World} {K : PySem.W.Frag} {mg : Str → Option Value} {base : Heap}
end
end Mk

set_option Elab.async false
set_option linter.all false
set_option maxRecDepth 100000
set_option maxHeartbeats 1000000
/-! all rows of costs; the pairs of an alignment of least price -/
namespace Mk
open PySem PySem.Spec L2 PyProof.Rows

section
variable {P : Program} {w : World} {K : PySem.W.Frag} {mg : Str → Option Value} {base : Heap}
end
end Mk

set_option Elab.async false
set_option linter.all false
set_option maxRecDepth 100000
set_option maxHeartbeats 1000000
namespace Mk
open PySem PySem.Spec L2 PyProof.Rows

section
variable {c : Str → Str → Int} {su sv : List Str}
end
section
variable {P : Program} {w : World} {K : PySem.W.Frag} {mg : Str → Option Value} {base : Heap}
end
end Mk

set_option Elab.async false
set_option linter.all false
set_option maxRecDepth 100000
set_option maxHeartbeats 1000000
namespace Mk
open PySem PySem.Spec L2 PyProof.Rows

section
variable {P : Program} {w : World} {K : PySem.W.Frag} {mg : Str → Option Value} {base : Heap}
end
end Mk

set_option Elab.async false
set_option linter.all false
set_option maxRecDepth 100000
set_option maxHeartbeats 1000000
namespace Mk
open PySem PySem.Spec L2 PyProof.Rows

section
variable {P : Program} {w : World} {K : PySem.W.Frag} {mg : Str → Option Value} {base : Heap}
end
end Mk

set_option Elab.async false
set_option linter.all false
set_option maxRecDepth 100000
set_option maxHeartbeats 1000000
namespace Mk
open PySem PySem.Spec L2 PyProof.Rows

section
variable {t1 t2 : PTab} {t3 : STab} {u v : Str} {st : List St3}
end
section
variable {P : Program} {w : World} {K : PySem.W.Frag} {mg : Str → Option Value} {base : Heap}
end
end Mk

set_option Elab.async false
set_option linter.all false
set_option maxRecDepth 100000
set_option maxHeartbeats 1000000
/-! prices made of tables -/
namespace Mk
open PySem PySem.Spec L2 PyProof.Rows

section
variable {P : Program} {w : World} {K : PySem.W.Frag} {mg : Str → Option Value} {base : Heap}
end
end Mk

set_option Elab.async false
set_option linter.all false
set_option maxRecDepth 100000
set_option maxHeartbeats 1000000
/-! the law's own closed costs -/
namespace Mk
open PySem PySem.Spec L2 PyProof.Rows

section
variable {t1 t2 : PTab} {t3 : STab}
end
section
variable {P : Program} {w : World} {K : PySem.W.Frag} {mg : Str → Option Value} {base : Heap}
end
end Mk

set_option Elab.async false
set_option linter.all false
set_option maxRecDepth 100000
set_option maxHeartbeats 1000000
/-! the law's own sums, from the ends -/
namespace Mk
open PySem PySem.Spec L2 PyProof.Rows

/-! dicts with pairs of numbers as keys -/
abbrev ITab := List ((Nat × Nat) × Int)
abbrev keyI (k : Nat × Nat) : List Key := [Sum.inl (k.1 : Int), Sum.inl (k.2 : Int)]
def kvsI (t : ITab) : List (List Key × V) := t.map fun p => (keyI p.1, V.int p.2)
theorem keyI_inj {k l : Nat × Nat} (h : keyI k = keyI l) : k = l := by
  obtain ⟨a, b⟩ := k
  obtain ⟨c, d⟩ := l
  simp only [keyI, List.cons.injEq, Sum.inl.injEq, and_true] at h
  obtain ⟨h1, h2⟩ := h
  rw [Int.ofNat_inj.mp h1, Int.ofNat_inj.mp h2]
theorem kvsI_len (t : ITab) : (kvsI t).length = t.length := by unfold kvsI; rw [List.length_map]
theorem valI {t : ITab} {k : Nat × Nat} (h : k ∈ t.map (·.1)) : valV (kvsI t) (keyI k) = some (V.int (look t k)) := by
  induction t with
  | nil => exact nomatch h
  | cons a t ih =>
    unfold look
    by_cases e : a.1 = k
    · rw [List.find?_cons_of_pos (by simpa using e)]
      exact valV_pos (by show keyI a.1 = keyI k; rw [e])
    · rw [List.find?_cons_of_neg (by simpa using e)]
      have ne : ¬ keyI a.1 = keyI k := fun q => e (keyI_inj q)
      have m : k ∈ t.map (·.1) := by
        rcases List.mem_cons.mp h with h | h
        · exact absurd h.symm e
        · exact h
      exact (valV_neg (by show ¬ keyI a.1 = keyI k; exact ne)).trans (ih m)
theorem putI_set (t : ITab) (k : Nat × Nat) (i : Int) : L2.putK (kvsI t) (keyI k) (V.int i) = kvsI (setT t k i) := by
  by_cases h : k ∈ t.map (·.1)
  · have a : ((kvsI t).any fun kv => decide (kv.1 = keyI k)) = true := by
      obtain ⟨p, hp, e⟩ := List.mem_map.mp h
      refine List.any_eq_true.mpr ⟨_, List.mem_map.mpr ⟨p, hp, rfl⟩, ?_⟩
      rw [decide_eq_true_iff, ← e]
    unfold L2.putK setT
    rw [if_pos a, if_pos h]
    unfold kvsI
    rw [List.map_map, List.map_map]
    refine List.map_congr_left fun p _ => ?_
    show (if keyI p.1 = keyI k then (keyI p.1, V.int i) else (keyI p.1, V.int p.2)) = (keyI (if p.1 = k then (p.1, i) else p).1, V.int (if p.1 = k then (p.1, i) else p).2)
    by_cases c : p.1 = k
    · rw [if_pos (congrArg keyI c), if_pos c]
    · rw [if_neg fun q => c (keyI_inj q), if_neg c]
  · have a : ¬ ((kvsI t).any fun kv => decide (kv.1 = keyI k)) = true := fun c => by
      obtain ⟨q, hq, e⟩ := List.any_eq_true.mp c
      obtain ⟨p, hp, rfl⟩ := List.mem_map.mp hq
      exact h (List.mem_map.mpr ⟨p, hp, keyI_inj (of_decide_eq_true e)⟩)
    unfold L2.putK setT
    rw [if_neg a, if_neg h]
    unfold kvsI
    rw [List.map_append]
    rfl
structure WyI (H0 H1 : Hp) (c : Addr) (D : ITab) : Prop where
  same : ∀ b o, b ≠ c → H0 b = some o → H1 b = some o
  out : H1 c = some (.dT (kvsI D))
theorem WyI.new {H0 H1 : Hp} {c t : Addr} {D : ITab} {o : HO} (W : WyI H0 H1 c D) (ht : H1 t = none) : WyI H0 (upd H1 t o) c D := by
  refine ⟨fun b u n e => ?_, ?_⟩
  · have := W.same b u n e
    rw [upd_ne (ne_of_none this ht)]
    exact this
  · rw [upd_ne (ne_of_none W.out ht)]
    exact W.out
theorem WyI.get {H0 H1 : Hp} {c t : Addr} {D : ITab} {x y : Nat} (W : WyI H0 H1 c D) (ht : H1 t = none) (hk : (x, y) ∈ D.map (·.1)) : DGet (upd H1 t (.tup [.int x, .int y])) c (.ref t) (some (V.int (look D (x, y)))) :=
  .inr ⟨kvsI D, keyI (x, y), t, .inl (W.new ht).out, rfl, upd_same, (valI hk).symm⟩
/-! the sums -/
section
variable (c : Str → Str → Int) (su sv : List Str)
variable {c su sv}
end
section
variable {P : Program} {w : World} {K : PySem.W.Frag} {mg : Str → Option Value} {base : Heap}
end
end Mk

set_option Elab.async false
set_option linter.all false
set_option maxRecDepth 100000
set_option maxHeartbeats 1000000
/-! mathematics of the costs between states: tables with pairs of numbers as keys, some of which are missing -/
namespace Mk
open PySem L2

section
variable {κ : Type} [DecidableEq κ]
def vl (D : List (κ × Int)) (k : κ) : Option Int := if k ∈ D.map (·.1) then some (look D k) else none
def mn : Option Int → Option Int → Option Int
  | some a, some b => some (min a b)
  | some a, none => some a
  | none, b => b
def ad : Option Int → Option Int → Option Int
  | some a, some b => some (a + b)
  | _, _ => none
def lowT (D : List (κ × Int)) (k : κ) (n : Int) : List (κ × Int) := setT D k (min n (dget D k n))
theorem vl_some {D : List (κ × Int)} {k : κ} (h : k ∈ D.map (·.1)) : vl D k = some (look D k) := if_pos h
theorem vl_none {D : List (κ × Int)} {k : κ} (h : k ∉ D.map (·.1)) : vl D k = none := if_neg h
theorem vl_isSome {D : List (κ × Int)} {k : κ} : (vl D k).isSome = true ↔ k ∈ D.map (·.1) := by
  unfold vl
  by_cases m : k ∈ D.map (·.1)
  · rw [if_pos m]
    exact ⟨fun _ => m, fun _ => rfl⟩
  · rw [if_neg m]
    exact ⟨fun h => Bool.noConfusion h, fun h => absurd h m⟩
theorem vl_look {D : List (κ × Int)} {k : κ} {i : Int} (h : vl D k = some i) : k ∈ D.map (·.1) ∧ look D k = i := by
  have m := vl_isSome.mp (by rw [h]; rfl : (vl D k).isSome = true)
  rw [vl_some m] at h
  exact ⟨m, Option.some.inj h⟩
theorem vl_setT (D : List (κ × Int)) (k k' : κ) (i : Int) : vl (setT D k i) k' = if k' = k then some i else vl D k' := by
  unfold vl
  rw [look_setT]
  by_cases e : k' = k
  · rw [if_pos ((keys_setT _ _ _ _).mpr (.inr e)), if_pos e, if_pos e]
  · rw [if_neg e, if_neg e]
    by_cases m : k' ∈ D.map (·.1)
    · rw [if_pos ((keys_setT _ _ _ _).mpr (.inl m)), if_pos m]
    · rw [if_neg fun c => ((keys_setT _ _ _ _).mp c).elim m e, if_neg m]
theorem vl_low (D : List (κ × Int)) (k k' : κ) (n : Int) : vl (lowT D k n) k' = if k' = k then mn (vl D k) (some n) else vl D k' := by
  unfold lowT
  rw [vl_setT]
  by_cases e : k' = k
  · rw [if_pos e, if_pos e]
    unfold dget
    by_cases m : k ∈ D.map (·.1)
    · rw [if_pos m, vl_some m, Int.min_comm]
      rfl
    · rw [if_neg m, vl_none m, Int.min_self]
      rfl
  · rw [if_neg e, if_neg e]
theorem low_nd {D : List (κ × Int)} {k : κ} {n : Int} (nd : (D.map (·.1)).Nodup) : ((lowT D k n).map (·.1)).Nodup := setT_nd nd
theorem low_key {D : List (κ × Int)} {k k' : κ} {n : Int} : k' ∈ (lowT D k n).map (·.1) ↔ k' ∈ D.map (·.1) ∨ k' = k := keys_setT _ _ _ _
theorem mn_none (x : Option Int) : mn x none = x := by cases x <;> rfl
theorem mn_some {x : Option Int} {n : Int} : ∃ i, mn x (some n) = some i ∧ i ≤ n ∧ (x = none → i = n) ∧ ∀ j, x = some j → i = min j n := by
  cases x with
  | none => exact ⟨n, rfl, Int.le_refl n, fun _ => rfl, fun j h => nomatch h⟩
  | some j => exact ⟨min j n, rfl, Int.min_le_right .., (fun h => nomatch h), fun j' h => by cases h; rfl⟩
theorem mn_isSome {x y : Option Int} : (mn x y).isSome = (x.isSome || y.isSome) := by
  cases x <;> cases y <;> rfl
theorem ad_isSome {x y : Option Int} : (ad x y).isSome = (x.isSome && y.isSome) := by
  cases x <;> cases y <;> rfl
end
/-- all keys are pairs of numbers below n, each once -/
structure KOk (n : Nat) (D : ITab) : Prop where
  nd : (D.map (·.1)).Nodup
  rg : ∀ k ∈ D.map (·.1), k.1 < n ∧ k.2 < n
theorem KOk.low {n : Nat} {D : ITab} {k : Nat × Nat} {i : Int} (h : KOk n D) (hk : k.1 < n ∧ k.2 < n) : KOk n (lowT D k i) := ⟨low_nd h.nd, fun k' hk' => by
  rcases low_key.mp hk' with h' | rfl
  · exact h.rg _ h'
  · exact hk⟩
def sq (n : Nat) : List (Nat × Nat) := (List.range n).flatMap fun i => (List.range n).map fun j => (i, j)
theorem sq_mem {n : Nat} {k : Nat × Nat} : k ∈ sq n ↔ k.1 < n ∧ k.2 < n := by
  unfold sq
  rw [List.mem_flatMap]
  constructor
  · rintro ⟨i, hi, h⟩
    obtain ⟨j, hj, rfl⟩ := List.mem_map.mp h
    exact ⟨List.mem_range.mp hi, List.mem_range.mp hj⟩
  · rintro ⟨h1, h2⟩
    exact ⟨k.1, List.mem_range.mpr h1, List.mem_map.mpr ⟨k.2, List.mem_range.mpr h2, rfl⟩⟩
theorem sq_len (n : Nat) : (sq n).length = n * n := by
  unfold sq
  have : ∀ l : List Nat, (l.flatMap fun i => (List.range n).map fun j => (i, j)).length = l.length * n := by
    intro l
    induction l with
    | nil => simp
    | cons a l ih => rw [List.flatMap_cons, List.length_append, List.length_map, List.length_range, ih, List.length_cons, Nat.add_mul]; omega
  rw [this, List.length_range]
theorem KOk.len {n : Nat} {D : ITab} (h : KOk n D) : D.length ≤ n * n := by
  have := nd_len h.nd (k := sq n) fun k hk => sq_mem.mpr (h.rg k hk)
  rwa [List.length_map, sq_len] at this
theorem KOk.lt {n : Nat} {D : ITab} (h : KOk n D) (hn : n ≤ 8) : D.length < 1000 := by
  have h1 := h.len
  have h2 : n * n ≤ 8 * 8 := Nat.mul_le_mul hn hn
  omega
/-! the moves, each one a way -/
def pc0 (n : Nat) : ITab := (List.range n).map fun i => ((i, i), (0 : Int))
def pcS (t : PTab) (c : Str → Int) (k : Nat) (D : ITab) (s : Str) : ITab := lowT D (k, (look t s).toNat) (c s)
def pcE (m : Mch) (c : Str → Int) (D : ITab) (k : Nat) : ITab := ((mvs m (k : Int)).map (·.1)).foldl (pcS (mvs m (k : Int)) c k) D
def rlx (v i : Nat) (D : ITab) (j : Nat) : ITab := if (i, v) ∈ D.map (·.1) ∧ (v, j) ∈ D.map (·.1) then lowT D (i, j) (look D (i, v) + look D (v, j)) else D
def pcI (n v : Nat) (D : ITab) (i : Nat) : ITab := (List.range n).foldl (rlx v i) D
def pcV (n : Nat) (D : ITab) (v : Nat) : ITab := (List.range n).foldl (pcI n v) D
def gapsT (m : Mch) (c : Str → Int) : ITab := (List.range m.length).foldl (pcV m.length) ((List.range m.length).foldl (pcE m c) (pc0 m.length))
/-- the cheapest move from a state to another one -/
def edgS (t : PTab) (c : Str → Int) (j : Nat) (x : Option Int) (s : Str) : Option Int := if (look t s).toNat = j then mn x (some (c s)) else x
def edg (m : Mch) (c : Str → Int) (i j : Nat) : Option Int := ((mvs m (i : Int)).map (·.1)).foldl (edgS (mvs m (i : Int)) c j) (if i = j then some 0 else none)
/-- the costs through states below k -/
def Eg (m : Mch) (c : Str → Int) : Nat → Nat → Nat → Option Int
  | 0, i, j => edg m c i j
  | k + 1, i, j => mn (Eg m c k i j) (ad (Eg m c k i k) (Eg m c k k j))
theorem foldl_ind {α β : Type} {f : β → α → β} {l : List α} {b : β} (P : Nat → β → Prop) (h0 : P 0 b) (hs : ∀ i (h : i < l.length) b, P i b → P (i + 1) (f b l[i])) : P l.length (l.foldl f b) := by
  have : ∀ i, i ≤ l.length → P i ((l.take i).foldl f b) := by
    intro i
    induction i with
    | zero => intro _; exact h0
    | succ i ih =>
      intro hi
      have := hs i (by omega) _ (ih (by omega))
      rwa [← foldl_take f b l (by omega : i < l.length)] at this
  have h := this l.length (Nat.le_refl _)
  rwa [List.take_length] at h
theorem range_ind {β : Type} {f : β → Nat → β} {n : Nat} {b : β} (P : Nat → β → Prop) (h0 : P 0 b) (hs : ∀ i, i < n → ∀ b, P i b → P (i + 1) (f b i)) : P n ((List.range n).foldl f b) := by
  have := foldl_ind (f := f) (l := List.range n) (b := b) P h0 fun i h b hp => by
    rw [List.length_range] at h
    rw [List.getElem_range]
    exact hs i h b hp
  rwa [List.length_range] at this
theorem pc0_keys (n : Nat) : (pc0 n).map (·.1) = (List.range n).map fun i => (i, i) := by
  unfold pc0
  rw [List.map_map]
  rfl
theorem pc0_ok (n : Nat) : KOk n (pc0 n) := by
  refine ⟨?_, fun k hk => ?_⟩
  · rw [pc0_keys]
    exact nd_map (fun a b h => (Prod.mk.inj h).1) List.nodup_range
  · rw [pc0_keys] at hk
    obtain ⟨i, hi, rfl⟩ := List.mem_map.mp hk
    have := List.mem_range.mp hi
    exact ⟨this, this⟩
theorem vl_pc0 {n i j : Nat} (hi : i < n) : vl (pc0 n) (i, j) = if i = j then some 0 else none := by
  by_cases e : i = j
  · subst e
    have m : (i, i) ∈ (pc0 n).map (·.1) := by
      rw [pc0_keys]
      exact List.mem_map.mpr ⟨i, List.mem_range.mpr hi, rfl⟩
    rw [vl_some m, if_pos rfl]
    obtain ⟨p, hp, e, h⟩ := look_is m
    rw [h]
    unfold pc0 at hp
    obtain ⟨q, _, rfl⟩ := List.mem_map.mp hp
    rfl
  · rw [if_neg e, vl_none]
    intro m
    rw [pc0_keys] at m
    obtain ⟨q, _, h⟩ := List.mem_map.mp m
    exact e ((Prod.mk.inj h).1.symm.trans (Prod.mk.inj h).2)
theorem pcS_vl {t : PTab} {c : Str → Int} {k : Nat} : ∀ (ks : List Str) (D : ITab) (i j : Nat), vl (ks.foldl (pcS t c k) D) (i, j) = if i = k then ks.foldl (edgS t c j) (vl D (i, j)) else vl D (i, j)
  | [], D, i, j => by split <;> rfl
  | s :: ks, D, i, j => by
    rw [List.foldl_cons, pcS_vl ks, List.foldl_cons]
    unfold pcS edgS
    rw [vl_low]
    by_cases e : i = k
    · subst e
      rw [if_pos rfl, if_pos rfl]
      by_cases e2 : (look t s).toNat = j
      · subst e2
        rw [if_pos rfl, if_pos rfl]
      · rw [if_neg fun h => e2 (Prod.mk.inj h).2.symm, if_neg e2]
    · rw [if_neg e, if_neg e, if_neg fun h => e (Prod.mk.inj h).1]
theorem pcS_ok {t : PTab} {c : Str → Int} {k n : Nat} (hk : k < n) : ∀ (ks : List Str) (D : ITab), (∀ s ∈ ks, 0 ≤ look t s ∧ look t s < n) → KOk n D → KOk n (ks.foldl (pcS t c k) D)
  | [], D, _, h => h
  | s :: ks, D, hs, h => pcS_ok hk ks _ (fun s' h' => hs s' (List.mem_cons_of_mem _ h')) (h.low ⟨hk, by
      have := hs s List.mem_cons_self
      show (look t s).toNat < n
      omega⟩)
theorem mvs_to {m : Mch} (w : WF m) {k : Nat} : ∀ s ∈ (mvs m (k : Int)).map (·.1), 0 ≤ look (mvs m (k : Int)) s ∧ look (mvs m (k : Int)) s < m.length := fun s hs => look_rg w hs
theorem pcE_vl {m : Mch} {c : Str → Int} {n : Nat} (a : Nat) (D : ITab) (h0 : ∀ i j, i < n → vl D (i, j) = if i = j then some 0 else none) (ha : a ≤ n) : ∀ i j, i < n → vl ((List.range a).foldl (pcE m c) D) (i, j) = if i < a then edg m c i j else if i = j then some 0 else none := by
  refine range_ind (f := pcE m c) (n := a) (b := D) (fun a D' => ∀ i j, i < n → vl D' (i, j) = if i < a then edg m c i j else if i = j then some 0 else none) ?_ ?_
  · intro i j hi
    rw [if_neg (by omega), h0 i j hi]
  · intro a ha D' ih i j hi
    unfold pcE
    rw [pcS_vl, ih i j hi]
    by_cases e : i = a
    · subst e
      rw [if_pos rfl, if_neg (Nat.lt_irrefl _), if_pos (Nat.lt_succ_self _)]
      rfl
    · rw [if_neg e]
      by_cases e2 : i < a
      · rw [if_pos e2, if_pos (by omega)]
      · have e3 : ¬ i < a + 1 := by omega
        rw [if_neg e2, if_neg e3]
def pc1 (m : Mch) (c : Str → Int) : ITab := (List.range m.length).foldl (pcE m c) (pc0 m.length)
theorem pc1_vl {m : Mch} {c : Str → Int} {i j : Nat} (hi : i < m.length) : vl (pc1 m c) (i, j) = edg m c i j := by
  have := pcE_vl (m := m) (c := c) m.length (pc0 m.length) (fun i j h => vl_pc0 h) (Nat.le_refl _) i j hi
  rwa [if_pos hi] at this
theorem pc1_ok {m : Mch} {c : Str → Int} (w : WF m) : KOk m.length (pc1 m c) := range_ind (f := pcE m c) (n := m.length) (b := pc0 m.length) (fun _ D => KOk m.length D) (pc0_ok _) fun i hi D h => pcS_ok hi _ _ (mvs_to w) h
theorem rlx_vl (v i : Nat) (D : ITab) (j : Nat) (k : Nat × Nat) : vl (rlx v i D j) k = if k = (i, j) then mn (vl D (i, j)) (ad (vl D (i, v)) (vl D (v, j))) else vl D k := by
  unfold rlx
  by_cases h : (i, v) ∈ D.map (·.1) ∧ (v, j) ∈ D.map (·.1)
  · rw [if_pos h, vl_low, vl_some h.1, vl_some h.2]
    rfl
  · rw [if_neg h]
    split
    · rename_i e
      subst e
      have : ad (vl D (i, v)) (vl D (v, j)) = none := by
        by_cases h1 : (i, v) ∈ D.map (·.1)
        · rw [vl_none fun h2 => h ⟨h1, h2⟩]
          cases vl D (i, v) <;> rfl
        · rw [vl_none h1]
          rfl
      rw [this, mn_none]
    · rfl
theorem rlx_ok {n v i j : Nat} {D : ITab} (hi : i < n) (hj : j < n) (h : KOk n D) : KOk n (rlx v i D j) := by
  unfold rlx
  split
  · exact h.low ⟨hi, hj⟩
  · exact h
/-- costs that are nothing from a state to itself, and not below nothing -/
structure Nng (n : Nat) (E : Nat → Nat → Option Int) : Prop where
  se : ∀ i, i < n → E i i = some 0
  nn : ∀ i j x, i < n → j < n → E i j = some x → 0 ≤ x
theorem mn_self {x : Option Int} (h : ∀ i, x = some i → 0 ≤ i) : mn (some 0) x = some 0 := by
  cases x with
  | none => rfl
  | some i =>
    have := h i rfl
    show some (min 0 i) = some 0
    rw [Int.min_eq_left this]
theorem mn_add0 (x : Option Int) : mn x (ad x (some 0)) = x := by
  cases x with
  | none => rfl
  | some i =>
    show some (min i (i + 0)) = some i
    rw [Int.add_zero, Int.min_self]
theorem mn_0add (x : Option Int) : mn x (ad (some 0) x) = x := by
  cases x with
  | none => rfl
  | some i =>
    show some (min i (0 + i)) = some i
    rw [Int.zero_add, Int.min_self]
def stp (E : Nat → Nat → Option Int) (v i j : Nat) : Option Int := mn (E i j) (ad (E i v) (E v j))
theorem stp_col {n v i : Nat} {E : Nat → Nat → Option Int} (h : Nng n E) (hv : v < n) : stp E v i v = E i v := by
  unfold stp
  rw [h.se v hv, mn_add0]
theorem stp_row {n v j : Nat} {E : Nat → Nat → Option Int} (h : Nng n E) (hv : v < n) : stp E v v j = E v j := by
  unfold stp
  rw [h.se v hv, mn_0add]
theorem Nng.stp {n v : Nat} {E : Nat → Nat → Option Int} (h : Nng n E) (hv : v < n) : Nng n (stp E v) := by
  constructor
  · intro i hi
    unfold Mk.stp
    rw [h.se i hi]
    refine mn_self fun x hx => ?_
    cases h1 : E i v with
    | none => rw [h1] at hx; exact nomatch hx
    | some a =>
      cases h2 : E v i with
      | none => rw [h1, h2] at hx; exact nomatch hx
      | some b =>
        rw [h1, h2] at hx
        have := h.nn _ _ _ hi hv h1
        have := h.nn _ _ _ hv hi h2
        have e : a + b = x := Option.some.inj hx
        omega
  · intro i j x hi hj hx
    unfold Mk.stp at hx
    cases h1 : E i v with
    | none =>
      rw [h1] at hx
      have : mn (E i j) none = some x := hx
      rw [mn_none] at this
      exact h.nn _ _ _ hi hj this
    | some a =>
      cases h2 : E v j with
      | none =>
        rw [h1, h2] at hx
        have : mn (E i j) none = some x := hx
        rw [mn_none] at this
        exact h.nn _ _ _ hi hj this
      | some b =>
        have ha := h.nn _ _ _ hi hv h1
        have hb := h.nn _ _ _ hv hj h2
        rw [h1, h2] at hx
        cases h3 : E i j with
        | none =>
          rw [h3] at hx
          have e : a + b = x := Option.some.inj hx
          omega
        | some d =>
          rw [h3] at hx
          have hd := h.nn _ _ _ hi hj h3
          have e : min d (a + b) = x := Option.some.inj hx
          omega
/-- the program's steps, one in the other, are one step -/
theorem pcI_vl {n v i : Nat} {D : ITab} {E : Nat → Nat → Option Int} (h : Nng n E) (hv : v < n) (hi : i < n) (hD : ∀ a b, a < n → b < n → vl D (a, b) = if a < i then stp E v a b else E a b) :
    ∀ a b, a < n → b < n → vl (pcI n v D i) (a, b) = if a < i + 1 then stp E v a b else E a b := by
  have key := range_ind (f := rlx v i) (n := n) (b := D) (fun j0 D' => ∀ a b, a < n → b < n → vl D' (a, b) = if a < i ∨ (a = i ∧ b < j0) then stp E v a b else E a b) (fun a b ha hb => by
      rw [hD a b ha hb]
      by_cases e : a < i
      · rw [if_pos e, if_pos (.inl e)]
      · rw [if_neg e, if_neg (by omega)]) fun j hj D' ih a b ha hb => by
    rw [rlx_vl]
    have r1 : vl D' (i, v) = E i v := by
      rw [ih i v hi hv]
      split
      · exact stp_col h hv
      · rfl
    have r2 : vl D' (v, j) = E v j := by
      rw [ih v j hv hj]
      split
      · exact stp_row h hv
      · rfl
    by_cases e : (a, b) = (i, j)
    · rw [if_pos e]
      cases e
      rw [r1, r2, ih i j hi hj, if_neg (by omega), if_pos (by omega)]
      rfl
    · rw [if_neg e, ih a b ha hb]
      have ne : ¬ (a = i ∧ b = j) := fun c => e (by rw [c.1, c.2])
      by_cases e2 : a < i ∨ (a = i ∧ b < j)
      · rw [if_pos e2, if_pos (by omega)]
      · rw [if_neg e2, if_neg (by omega)]
  intro a b ha hb
  have := key a b ha hb
  unfold pcI
  rw [this]
  by_cases e : a < i + 1
  · rw [if_pos e, if_pos (by omega)]
  · rw [if_neg e, if_neg (by omega)]
theorem pcV_vl {n v : Nat} {D : ITab} {E : Nat → Nat → Option Int} (h : Nng n E) (hv : v < n) (hD : ∀ a b, a < n → b < n → vl D (a, b) = E a b) : ∀ a b, a < n → b < n → vl (pcV n D v) (a, b) = stp E v a b := by
  have key := range_ind (f := pcI n v) (n := n) (b := D) (fun i D' => ∀ a b, a < n → b < n → vl D' (a, b) = if a < i then stp E v a b else E a b) (fun a b ha hb => by
      rw [hD a b ha hb, if_neg (by omega)]) fun i hi D' ih => pcI_vl h hv hi ih
  intro a b ha hb
  have := key a b ha hb
  unfold pcV
  rw [this, if_pos ha]
theorem edg_nn {m : Mch} {c : Str → Int} {i j : Nat} {x : Int} (hc : ∀ q ∈ m, ∀ p ∈ q.1, 0 ≤ c p.1) (h : edg m c i j = some x) : 0 ≤ x := by
  have key := foldl_ind (f := edgS (mvs m (i : Int)) c j) (l := (mvs m (i : Int)).map (·.1)) (b := if i = j then some 0 else none) (fun _ y => ∀ x, y = some x → 0 ≤ x) (fun x hx => by
      split at hx
      · cases hx; omega
      · cases hx) fun a ha y ih x hx => by
    unfold edgS at hx
    split at hx
    · obtain ⟨z, e, _, h1, h2⟩ := mn_some (x := y) (n := c ((mvs m (i : Int)).map (·.1))[a])
      rw [e] at hx
      cases hx
      obtain ⟨p, hp, e2⟩ := List.mem_map.mp (List.getElem_mem ha)
      obtain ⟨q, hq, _, hpq⟩ := mvs_mem hp
      have hn := hc q hq p hpq
      rw [e2] at hn
      cases y with
      | none => have := h1 rfl; omega
      | some d =>
        have := ih d rfl
        have := h2 d rfl
        omega
    · exact ih x hx
  exact key x h
theorem edg_self {m : Mch} {c : Str → Int} {i : Nat} (hc : ∀ q ∈ m, ∀ p ∈ q.1, 0 ≤ c p.1) : edg m c i i = some 0 := by
  refine foldl_ind (f := edgS (mvs m (i : Int)) c i) (l := (mvs m (i : Int)).map (·.1)) (b := if i = i then some 0 else none) (fun _ y => y = some 0) (if_pos rfl) fun a ha y ih => ?_
  unfold edgS
  split
  · rw [ih]
    refine mn_self fun z hz => ?_
    obtain ⟨p, hp, e2⟩ := List.mem_map.mp (List.getElem_mem ha)
    obtain ⟨q, hq, _, hpq⟩ := mvs_mem hp
    have hn := hc q hq p hpq
    rw [e2] at hn
    cases hz
    exact hn
  · exact ih
theorem Eg_nng {m : Mch} {c : Str → Int} (hc : ∀ q ∈ m, ∀ p ∈ q.1, 0 ≤ c p.1) : ∀ k, k ≤ m.length → Nng m.length (Eg m c k)
  | 0, _ => ⟨fun _ _ => edg_self hc, fun _ _ _ _ _ h => edg_nn hc h⟩
  | k + 1, h => (Eg_nng hc k (by omega)).stp (by omega)
theorem gaps_vl {m : Mch} {c : Str → Int} (hc : ∀ q ∈ m, ∀ p ∈ q.1, 0 ≤ c p.1) : ∀ i j, i < m.length → j < m.length → vl (gapsT m c) (i, j) = Eg m c m.length i j := by
  have key : ∀ n, n ≤ m.length → ∀ i j, i < m.length → j < m.length → vl ((List.range n).foldl (pcV m.length) (pc1 m c)) (i, j) = Eg m c n i j := fun n hn =>
    range_ind (f := pcV m.length) (n := n) (b := pc1 m c) (fun k D => ∀ i j, i < m.length → j < m.length → vl D (i, j) = Eg m c k i j) (fun i j hi _ => pc1_vl hi) fun v hv D ih i j hi hj => pcV_vl (Eg_nng hc v (by omega)) (by omega) ih i j hi hj
  exact key _ (Nat.le_refl _)
theorem pcI_ok {n v i : Nat} {D : ITab} (hi : i < n) (h : KOk n D) : KOk n (pcI n v D i) := range_ind (f := rlx v i) (n := n) (b := D) (fun _ D => KOk n D) h fun j hj D' h' => rlx_ok hi hj h'
theorem pcV_ok {n v : Nat} {D : ITab} (h : KOk n D) : KOk n (pcV n D v) := range_ind (f := pcI n v) (n := n) (b := D) (fun _ D => KOk n D) h fun i hi D' h' => pcI_ok hi h'
theorem gaps_ok {m : Mch} {c : Str → Int} (w : WF m) : KOk m.length (gapsT m c) := range_ind (f := pcV m.length) (n := m.length) (b := pc1 m c) (fun _ D => KOk m.length D) (pc1_ok w) fun v hv D h => pcV_ok h
/-- ways through states below k go together -/
theorem Eg_trans {m : Mch} {c : Str → Int} : ∀ (k v i j : Nat), v < k → (Eg m c k i v).isSome = true → (Eg m c k v j).isSome = true → (Eg m c k i j).isSome = true
  | k + 1, v, i, j, hv, h1, h2 => by
    unfold Eg at h1 h2 ⊢
    rw [mn_isSome, ad_isSome, Bool.or_eq_true, Bool.and_eq_true] at h1 h2 ⊢
    by_cases e : v = k
    · subst e
      have a : (Eg m c v i v).isSome = true := h1.elim id (·.1)
      have b : (Eg m c v v j).isSome = true := h2.elim id (·.2)
      exact .inr ⟨a, b⟩
    · have hk : v < k := by omega
      have T := fun i j => Eg_trans (m := m) (c := c) k v i j hk
      rcases h1 with h1 | ⟨h1, h1'⟩
      · rcases h2 with h2 | ⟨h2, h2'⟩
        · exact .inl (T _ _ h1 h2)
        · exact .inr ⟨T _ _ h1 h2, h2'⟩
      · rcases h2 with h2 | ⟨h2, h2'⟩
        · exact .inr ⟨h1, T _ _ h1' h2⟩
        · exact .inr ⟨h1, h2'⟩
theorem Eg_mono {m : Mch} {c : Str → Int} {i j : Nat} (h : (edg m c i j).isSome = true) : ∀ k, (Eg m c k i j).isSome = true
  | 0 => h
  | k + 1 => by
    unfold Eg
    rw [mn_isSome, Bool.or_eq_true]
    exact .inl (Eg_mono h k)
theorem edg_move {m : Mch} {c : Str → Int} (w : WF m) {i : Nat} {s : Str} {j : Int} (h : (s, j) ∈ mvs m (i : Int)) : (edg m c i j.toNat).isSome = true := by
  have nd := mvs_nd w (i : Int)
  have hs : s ∈ (mvs m (i : Int)).map (·.1) := List.mem_map.mpr ⟨_, h, rfl⟩
  have hj : look (mvs m (i : Int)) s = j := by
    have h2 := look_in nd hs
    obtain ⟨a, b, e⟩ := List.mem_iff_getElem.mp h
    obtain ⟨a', b', e'⟩ := List.mem_iff_getElem.mp h2
    have : a = a' := (List.getElem_inj (h₀ := by rwa [List.length_map]) (h₁ := by rwa [List.length_map]) nd).mp (by rw [List.getElem_map, List.getElem_map, e, e'])
    subst this
    rw [e] at e'
    exact (Prod.mk.inj e').2.symm
  have key : ∀ (ks : List Str) (x : Option Int), (s ∈ ks ∨ x.isSome = true) → (ks.foldl (edgS (mvs m (i : Int)) c j.toNat) x).isSome = true := by
    intro ks
    induction ks with
    | nil => intro x h; exact h.elim (fun h => nomatch h) id
    | cons a ks ih =>
      intro x h
      refine ih _ ?_
      rcases h with h | h
      · rcases List.mem_cons.mp h with rfl | h
        · right
          unfold edgS
          rw [hj, if_pos rfl, mn_isSome, Bool.or_eq_true]
          exact .inr rfl
        · exact .inl h
      · right
        unfold edgS
        split
        · rw [mn_isSome, h]
          rfl
        · exact h
  exact key _ _ (.inl hs)
theorem gaps_rch {m : Mch} {c : Str → Int} (w : WF m) {i j : Int} (hi : 0 ≤ i ∧ i < m.length) (r : Rch m i j) : (Eg m c m.length i.toNat j.toNat).isSome = true := by
  induction r with
  | refl =>
    refine Eg_mono ?_ _
    have : ∀ (ks : List Str) (t : PTab) (j : Nat) (x : Option Int), x.isSome = true → (ks.foldl (edgS t c j) x).isSome = true := by
      intro ks t j
      induction ks with
      | nil => exact fun x h => h
      | cons a ks ih =>
        intro x h
        refine ih _ ?_
        unfold edgS
        split
        · rw [mn_isSome, h]
          rfl
        · exact h
    refine this _ _ _ _ ?_
    rw [if_pos rfl]
    rfl
  | @step j k s r h ih =>
    have hj := rch_rg w r hi
    have e : ((j.toNat : Nat) : Int) = j := by omega
    have := edg_move (c := c) w (i := j.toNat) (s := s) (j := k) (by rw [e]; exact h)
    exact Eg_trans _ j.toNat _ _ (by omega) ih (Eg_mono this _)
end Mk

set_option Elab.async false
set_option linter.all false
set_option maxRecDepth 100000
set_option maxHeartbeats 4000000
/-! name = {..} of a dict comprehension, whatever the keys are -/
namespace Mk
open PySem PySem.Spec PyProof.Rows L2

section
variable {X : Cx}
theorem dcG_core {E0 : HO} {Put : PutK} (K : PutOk X.prog X.w E0 Put) {pins : List (Addr × Obj)} {s : Shared} {σ : L2.St} {H : Hp} {Q : VK} {kx vx tg iter : Expr} {ifs : List Expr} {scope : Scope} {own : List (Str × Nat)} {pos pos' : Pos} {wi : TI} {g : TG} {tt : TT} {tk tv : TE} {use : Option (Value → Sem Unit)} {Qf : Value → Shared → Prop}
    (cm : X.calm = true) (nd : X.N.Nodup) (un : X.A.units + 20 < cLine) (I : Inv X pins σ H s) (hi : PI X tg iter wi) (ok : BlkOk X.N X.env.scope scope own)
    (hg : ∀ s H C cl fr, PG (X.blk s H scope (compEnvC scope cl C X.env) fr) tg g) (ht : ∀ s H C cl fr, PTs (X.blk s H scope (compEnvC scope cl C X.env) fr) ifs tt) (hk : ∀ s H C cl fr, PE (X.blk s H scope (compEnvC scope cl C X.env) fr) kx tk) (hv : ∀ s H C cl fr, PE (X.blk s H scope (compEnvC scope cl C X.env) fr) vx tv)
    (fs : ∀ x, foldedSetIterable iter X.env x = pure x) (h : tDcG E0 Put wi g tt tk tv (own.map (·.2)) σ H Q)
    (hRR : ∀ D C s' m H', Inv X pins σ H' s' → Q (.ref D) H' → s'.heap.Ns C m → FpOk X pins H' C → compPost (model X.prog X.w) X.A X.xe use Qf (.ref D) C (.ok .next) s') :
    wpAny (model X.prog X.w) X.A (comprehension (.DictComp kx vx [⟨tg, iter, ifs, 0⟩] scope pos) scope X.env pos' newDict false (eval iter X.env) use) Qf X.xe s := by
  have cl : ∀ y ∈ scope.names, y.2 = .free → ∃ c, X.env.cells.lookup y.1 = some c := fun y hy e => I.ok.has _ ((ok.free y hy e).elim .inl .inr)
  refine wpAny_comprehension_free (use := use) rfl fs (closure_ok cl) ok.kind (fun y hy e => by rw [ok.uniq y hy, e]) (thn (hi.run pins s σ H _ I h) fun xv s1 z1 => thn z1 fun itv s2 z2 => ?_)
  obtain ⟨it, fp, tn, J, H2, rfl, I2, T, st2, f2, q⟩ := z2
  refine wpAny_newObj_type (newEnv_comp ?_)
  obtain ⟨W, ⟨m0, w0⟩, turn⟩ := q s2.heap.objs.size (I2.hok.fresh (Nat.le_refl _))
  have I3 : Inv X pins σ (upd H2 s2.heap.objs.size E0) { s2 with heap := s2.heap.push { cls := .type "dict", data := .dict #[] } } :=
    I2.laid (t' := s2.toks) (fun b o e => Heap.get?_push_of_some _ e) (Nat.le_refl _) (K.start _ _ I2.big)
  have old : ∀ b ∈ fp, b < s2.heap.objs.size := fun b hb => have ⟨_, e, _⟩ := T.obj _ _ st2 b hb; Heap.lt_size e
  have f3 : ∀ b ∈ fp, FpOk X pins (upd H2 s2.heap.objs.size E0) b ∧ b < (s2.heap.push { cls := .type "dict", data := .dict #[] }).objs.size := fun b hb =>
    ⟨⟨by rw [upd_ne (Nat.ne_of_lt (old b hb))]; exact (f2 b hb).1, (f2 b hb).2⟩, by rw [Heap.size_push]; exact Nat.lt_succ_of_lt (old b hb)⟩
  have I4 := block_start I3 ok nd f3
  have nfp : ∀ b ∈ fp, upd H2 s2.heap.objs.size E0 b = none := fun b hb => (f3 b hb).1.1
  have st4 := T.keep 0 _ (pushCells ((s2.heap.push { cls := .type "dict", data := .dict #[] }).push { cls := .type "dict", data := .dict #[] }) scope.names) st2 fun b _ o e => pushCells_keeps _ _ _ _ (Heap.get?_push_of_some _ (Heap.get?_push_of_some _ e))
  have pg := hg { s2 with heap := s2.heap.push { cls := .type "dict", data := .dict #[] } } (upd H2 s2.heap.objs.size E0) (s2.heap.push { cls := .type "dict", data := .dict #[] }).objs.size (cellsFrom ((s2.heap.push { cls := .type "dict", data := .dict #[] }).objs.size + 1) scope.names (cloFrom X.env.cells scope.names [])) fp
  have pt := ht { s2 with heap := s2.heap.push { cls := .type "dict", data := .dict #[] } } (upd H2 s2.heap.objs.size E0) (s2.heap.push { cls := .type "dict", data := .dict #[] }).objs.size (cellsFrom ((s2.heap.push { cls := .type "dict", data := .dict #[] }).objs.size + 1) scope.names (cloFrom X.env.cells scope.names [])) fp
  have pk := hk { s2 with heap := s2.heap.push { cls := .type "dict", data := .dict #[] } } (upd H2 s2.heap.objs.size E0) (s2.heap.push { cls := .type "dict", data := .dict #[] }).objs.size (cellsFrom ((s2.heap.push { cls := .type "dict", data := .dict #[] }).objs.size + 1) scope.names (cloFrom X.env.cells scope.names [])) fp
  have pw := hv { s2 with heap := s2.heap.push { cls := .type "dict", data := .dict #[] } } (upd H2 s2.heap.objs.size E0) (s2.heap.push { cls := .type "dict", data := .dict #[] }).objs.size (cellsFrom ((s2.heap.push { cls := .type "dict", data := .dict #[] }).objs.size + 1) scope.names (cloFrom X.env.cells scope.names [])) fp
  have loop := loop_blk (kx := kx) (vx := vx) (iter := iter) (sc2 := scope) (pos := pos) (R := compPost (model X.prog X.w) X.A X.xe use Qf (.ref s2.heap.objs.size) (s2.heap.push { cls := .type "dict", data := .dict #[] }).objs.size)
    K cm (by show X.A.units + 1 < cLine; omega) T pg pt pk pw turn (fun _ _ z => False.elim z) (fun s6 H6 I6 n6 qd => ?_) I4 st4 nfp w0
  · exact codeAny_compStart_dict loop (T.self X.A 0 _ _ _ st4 loop)
  · have I7 : Inv X pins σ H6 s6 := I3.call' (ch := fp) I6.os I6.base I6.hok I6.bare fun b hb => by
      have ⟨_, e2, e3, e4, e5, e6⟩ := (f3 b hb).1
      exact ⟨e4, e2, e5, e6⟩
    obtain ⟨m, hn, _⟩ := I6.loc
    have nC : H6 (s2.heap.push { cls := .type "dict", data := .dict #[] }).objs.size = none := I6.free
    exact hRR _ _ s6 m H6 I7 qd hn (I3.fpOk (Nat.le_refl _) nC)
/-- name = {..} of a dict comprehension, the name a local -/
theorem ps_setDcG {E0 : HO} {Put : PutK} (K : PutOk X.prog X.w E0 Put) {i : Nat} {y : Str} {py : Pos} {kx vx tg iter : Expr} {ifs : List Expr} {scope : Scope} {own : List (Str × Nat)} {pos spos : Pos} {wi : TI} {g : TG} {tt : TT} {tk tv : TE} (cm : X.calm = true) (nd : X.N.Nodup) (un : X.A.units + 20 < cLine) (hy : X.N[i]? = some y) (lo : X.env.scope.names.lookup y = some .local)
    (sw : swapsWith (.DictComp kx vx [⟨tg, iter, ifs, 0⟩] scope pos) (some (.Name y py)) spos.line X.env = pure true) (hi : PI X tg iter wi) (ok : BlkOk X.N X.env.scope scope own)
    (hg : ∀ s H C cl fr, PG (X.blk s H scope (compEnvC scope cl C X.env) fr) tg g) (ht : ∀ s H C cl fr, PTs (X.blk s H scope (compEnvC scope cl C X.env) fr) ifs tt) (hk : ∀ s H C cl fr, PE (X.blk s H scope (compEnvC scope cl C X.env) fr) kx tk) (hv : ∀ s H C cl fr, PE (X.blk s H scope (compEnvC scope cl C X.env) fr) vx tv)
    (fs : ∀ x, foldedSetIterable iter X.env x = pure x := by intro _; rfl) : PS X (.Assign [.Name y py] (.DictComp kx vx [⟨tg, iter, ifs, 0⟩] scope pos) spos) (tAsg (tDcG E0 Put wi g tt tk tv (own.map (·.2))) (gName i)) := by
  refine ⟨fun pins s σ H D I h => ?_⟩
  rw [exec_Assign_Name_used _ _ _ _ sw]
  refine wpAny_bind (wpAny_standAt (wpAny_bind ?_))
  show wpAny _ X.A (do let _ ← comprehension (.DictComp kx vx [⟨tg, iter, ifs, 0⟩] scope pos) scope X.env (firstIterPos [⟨tg, iter, ifs, 0⟩] pos) newDict false (eval iter X.env) (some (assign (.Name y py) X.env))) _ _ s
  have h2 : tDcG E0 Put wi g tt tk tv (own.map (·.2)) σ H (fun x H1 => gName i x σ H1 D.nx) := h
  refine wpAny_bind (thn (dcG_core (Qf := fun _ s' => SP X pins D .next s') K cm nd un I hi ok hg ht hk hv fs h2 fun L C s' m H' J q hn f => ?_) fun _ s' z => wpAny_pure (wpAny_pure z))
  show wpAny _ _ (assign (.Name y py) X.env (.ref L)) _ _ _
  refine wpAny_assign_Name (store_ok2 (v := V.ref L) J nd hy (.inl lo) rfl (fun s2 J2 ⟨a, sb, ha⟩ => ?_) (.inr lo))
  obtain ⟨f0, f1, f2, f3, f4, f5⟩ := f
  have ne : C ≠ a := ha.elim (fun z => z ▸ f1) fun z e => f4 y a z e.symm
  exact ⟨m, hn.sameBut sb ne, fun h3 sb3 => ⟨_, H', J2.turned (t' := s2.toks) (fun b o hb e => (sb3.2 b hb).trans e) f0 f1 f3 f4 f5, q⟩⟩
end
end Mk

set_option Elab.async false
set_option linter.all false
set_option maxRecDepth 100000
set_option maxHeartbeats 2000000
/-! zip of a tuple and a list, in either order; enumerate of a tuple -/
namespace Mk
open PySem PySem.Spec PyProof.Rows L2

/-- a list or a tuple -/
inductive Kd | l | t
def Kd.seq (k : Kd) (K : PySem.W.Frag) (H : Hp) (a : Addr) (xs : List V) : Prop := match k with
  | .l => SqL K H a xs
  | .t => SqT K H a xs
def Kd.it (k : Kd) (h : Heap) (i a : Addr) (n : Nat) : Prop := match k with
  | .l => h.IsListIter i a n
  | .t => h.IsTupleIter i a n
def Kd.is (k : Kd) (h : Heap) (a : Addr) (us : Array Value) : Prop := match k with
  | .l => h.IsList a us
  | .t => h.IsTuple a us
def Kd.obj (k : Kd) (a : Addr) : Obj := match k with
  | .l => { cls := .type "list_iterator", data := .fields #[.ref a, .int 0 0] }
  | .t => { cls := .type "tuple_iterator", data := .fields #[.ref a, .int 0 0] }
section
variable {X : Cx} {pins : List (Addr × Obj)} {σ : L2.St} {H : Hp} {s : Shared} {a b : Addr} {xs ys : List V} {k k1 k2 : Kd}
theorem Kd.at_ (I : Inv X pins σ H s) (h : k.seq X.K H a xs) : ∃ us : Array Value, k.is s.heap a us ∧ us.size = xs.length ∧ ∀ (i : Nat) (x : V), xs[i]? = some x → ∃ u, us[i]? = some u ∧ RelV x u := by
  cases k with
  | l =>
    obtain ⟨its, rv, p, hz⟩ := I.list h
    refine ⟨its.toArray, p.isList, by rw [List.size_toArray, ← rv.length], fun i x hx => ?_⟩
    obtain ⟨u, hu, ru⟩ := rv.get hx
    exact ⟨u, by simpa using hu, ru⟩
  | t =>
    obtain ⟨its, rv, p, hz⟩ := I.tuple h
    refine ⟨its.toArray, p, by rw [List.size_toArray, ← rv.length], fun i x hx => ?_⟩
    obtain ⟨u, hu, ru⟩ := rv.get hx
    exact ⟨u, by simpa using hu, ru⟩
theorem Kd.inj (I : Inv X pins σ H s) (h : k.seq X.K H a xs) (g : k.seq X.K H a ys) : xs = ys := by
  cases k with
  | l => exact I.list_inj h g
  | t => exact I.tuple_inj h g
theorem Kd.lt {h : Heap} {us : Array Value} (g : k.is h a us) : a < h.objs.size := by
  cases k with
  | l =>
    obtain ⟨o, e, _⟩ := id g
    exact Heap.lt_size e
  | t =>
    obtain ⟨o, e, _⟩ := id g
    exact Heap.lt_size e
theorem Kd.live {h : Heap} {i n : Nat} (g : k.it h i a n) : ∃ o, h.get? i = some o ∧ ∀ v, o.data ≠ .cell v := by
  cases k with
  | l =>
    obtain ⟨o, e, _, d⟩ := id g
    exact ⟨o, e, fun v q => by rw [d] at q; cases q⟩
  | t =>
    obtain ⟨o, e, _, d⟩ := id g
    exact ⟨o, e, fun v q => by rw [d] at q; cases q⟩
theorem Kd.on {h h' : Heap} {i n : Nat} (g : k.it h i a n) (e : ∀ o, h.get? i = some o → h'.get? i = some o) : k.it h' i a n := by
  cases k with
  | l =>
    obtain ⟨o, q, r⟩ := id g
    exact ⟨o, e _ q, r⟩
  | t =>
    obtain ⟨o, q, r⟩ := id g
    exact ⟨o, e _ q, r⟩
theorem Kd.draws {prog : Program} {w : World} {A : Around} (hh : A.handled = none) (k : Kd) (i a : Addr) (ne : a ≠ i) (us : Array Value) :
    Draws prog w A i [i, a] us.size (fun n v => us[n]? = some v) (fun n h => k.it h i a n ∧ k.is h a us) := by
  cases k with
  | l => exact Draws.list hh i a ne us
  | t => exact Draws.tuple hh i a ne us
theorem Kd.begins (k : Kd) (a : Addr) (us : Array Value) : Begins (.ref a) (k.obj a) fun h => k.is h a us := by
  cases k with
  | l => exact begins_list a us
  | t => exact begins_tuple a us
theorem Kd.start {h : Heap} {i : Addr} (e : h.get? i = some (k.obj a)) : k.it h i a 0 := by
  cases k with
  | l => exact ⟨_, e, rfl, rfl⟩
  | t => exact ⟨_, e, rfl, rfl⟩
end
/-- the items of both, pair by pair, in new tuples -/
def Itm (K : PySem.W.Frag) (k1 k2 : Kd) (a b : Addr) : It where
  go := fun i H => ∃ (xs ys : List V) (x y : V), k1.seq K H a xs ∧ k2.seq K H b ys ∧ xs[i]? = some x ∧ ys[i]? = some y
  yld := fun i H v H' => ∃ T x y, v = .ref T ∧ H T = none ∧ H' = upd H T (.tup [x, y]) ∧ (∀ xs, k1.seq K H a xs → xs[i]? = some x) ∧ ∀ ys, k2.seq K H b ys → ys[i]? = some y
  stop := fun i H => ∃ xs ys : List V, k1.seq K H a xs ∧ k2.seq K H b ys ∧ i ≤ xs.length ∧ i ≤ ys.length ∧ (xs.length = i ∨ ys.length = i)
structure Far5 (z TI TO i1 i2 a b : Addr) : Prop where
  s : ZipSep2 z TI TO i1 i2 [i1, a] [i2, b]
  ai : a ≠ i1
  bi : b ≠ i2
theorem far5 {n a b : Nat} (ha : a < n) (hb : b < n) : Far5 (n + 4) (n + 2) (n + 3) n (n + 1) a b := by
  have ne : ∀ {p q : Nat}, p ≠ q → ((p : Addr) : Addr) ≠ q := fun h => h
  refine ⟨⟨ne (by omega), ne (by omega), ne (by omega), ne (by omega), by simp, ?_, ?_, ne (by omega), by simp, ?_, ?_, ?_, ?_⟩, ne (by omega), ne (by omega)⟩
  all_goals
    intro h
    simp only [List.mem_cons, List.not_mem_nil, or_false] at h
    rcases h with h | h
    all_goals
      have h : (_ : Nat) = _ := h
      omega
theorem turn_m {P : Program} {w : World} {K : PySem.W.Frag} {elts : List Expr} {kk : Nat} {tpos : Pos} {k1 k2 : Kd} {a b z TI TO i1 i2 : Addr} (D : Far5 z TI TO i1 i2 a b) :
    Turn P w K (.Tuple elts kk tpos) (Itm K k1 k2 a b) [z, TI, TO, i1, i2] z (fun i h => IsZip h z TI TO .none ∧ IsTupOf2 h TI (.ref i1) (.ref i2) ∧ (∃ x y, IsTupOf2 h TO x y) ∧ k1.it h i1 a i ∧ k2.it h i2 b i) where
  mem := by simp
  obj := fun i h st c hc => by
    obtain ⟨hz, hI, ⟨x, y, hO⟩, h1, h2⟩ := st
    simp only [List.mem_cons, List.not_mem_nil, or_false] at hc
    rcases hc with rfl | rfl | rfl | rfl | rfl
    · exact ⟨_, hz, fun v q => nomatch q⟩
    · exact ⟨_, hI, fun v q => nomatch q⟩
    · exact ⟨_, hO, fun v q => nomatch q⟩
    · exact Kd.live h1
    · exact Kd.live h2
  keep := fun i h h' st k => by
    obtain ⟨hz, hI, ⟨x, y, hO⟩, h1, h2⟩ := st
    exact ⟨k _ (by simp) _ hz, k _ (by simp) _ hI, ⟨x, y, k _ (by simp) _ hO⟩, Kd.on h1 fun o q => k _ (by simp) o q, Kd.on h2 fun o q => k _ (by simp) o q⟩
  item := by
    intro X hP hw hK hc i pins s σ H E I hf st hg
    subst hP hw hK
    obtain ⟨hz, hI, ⟨x0, y0, hO⟩, h1, h2⟩ := st
    obtain ⟨xs, ys, x, y, gx, gy, hx, hy⟩ := hg
    obtain ⟨us, u1, lu, ru⟩ := Kd.at_ I gx
    obtain ⟨vs, v1, lv, rv⟩ := Kd.at_ I gy
    obtain ⟨u, eu, xu⟩ := ru i x hx
    obtain ⟨v, ev, yv⟩ := rv i y hy
    have iu : i < us.size := by rw [lu]; exact (List.getElem?_eq_some_iff.mp hx).1
    have iv : i < vs.size := by rw [lv]; exact (List.getElem?_eq_some_iff.mp hy).1
    have lz : z < s.heap.objs.size := Heap.lt_size hz
    refine wpAny_pyNext_zipD2_item D.s (k1.draws (A := X.A.in1) (I.ok.hd hc) i1 a D.ai us) (k2.draws (A := X.A.in1) (I.ok.hd hc) i2 b D.bi vs) hz hI hO ⟨h1, u1⟩ ⟨h2, v1⟩ iu iv fun p1 p2 h' tk e1 e2 z' O' g1 g2 hT hsz hk => ?_
    rw [eu] at e1
    rw [ev] at e2
    cases e1
    cases e2
    refine ⟨_, rfl, wpAny_letOwnedTupleGo_zip (s := { s with heap := h', toks := tk }) z' fun h2' z2 sb => ?_⟩
    have up : ∀ {c : Addr} {o : Obj}, c ≠ z → h'.get? c = some o → h2'.get? c = some o := fun {c o} n q => (sb.2 c n).trans q
    have hT2 : h2'.get? s.heap.objs.size = some { cls := .type "tuple", data := .seq #[u, v] } := up (Nat.ne_of_gt lz) hT
    have ob : ObjOk X.prog X.w (upd H s.heap.objs.size (.tup [x, y])) h2' s.heap.objs.size (.tup [x, y]) := ⟨(by show 2 ≤ sizeLine; decide), [u, v], .cons xu (.cons yv .nil), ⟨_, hT2, rfl, _, rfl⟩⟩
    have J : Inv X pins σ (upd H s.heap.objs.size (.tup [x, y])) { s with heap := h2', toks := tk } := by
      refine I.turnedNew (ch := [z, TI, TO, i1, i2]) (fun c o hb q => ?_) hf (Nat.le_refl _) ob
      simp only [List.mem_cons, List.not_mem_nil, or_false, not_or] at hb
      exact up hb.1 (hk c o hb.1 hb.2.2.1 hb.2.2.2.1 hb.2.2.2.2 q)
    have nz := D.s.zi1
    have nz2 := D.s.zi2
    refine ⟨.ref s.heap.objs.size, _, J, rfl, ⟨_, x, y, rfl, I.hok.fresh (Nat.le_refl _), rfl, fun l hl => by rw [Kd.inj I hl gx]; exact hx, fun l hl => by rw [Kd.inj I hl gy]; exact hy⟩, ⟨z2, ?_, ⟨_, _, up D.s.TOz O'⟩, Kd.on g1.1 fun o q => up nz.symm q, Kd.on g2.1 fun o q => up nz2.symm q⟩, fun c hc => ?_⟩
    · refine up D.s.TIz (hk _ _ D.s.TIz D.s.TITO D.s.TIi1 D.s.TIi2 hI)
    · have lc : c < s.heap.objs.size := by
        simp only [List.mem_cons, List.not_mem_nil, or_false] at hc
        rcases hc with rfl | rfl | rfl | rfl | rfl
        · exact lz
        · exact Heap.lt_size hI
        · exact Heap.lt_size hO
        · exact Heap.lt_size (Kd.live h1).choose_spec.1
        · exact Heap.lt_size (Kd.live h2).choose_spec.1
      rw [upd_ne (Nat.ne_of_lt lc)]
      exact (hf c hc).1
  done := by
    intro X hP hw hK hc i pins s σ H E I hf st hg
    subst hP hw hK
    obtain ⟨hz, hI, ⟨x0, y0, hO⟩, h1, h2⟩ := st
    obtain ⟨xs, ys, gx, gy, ix, iy, hend⟩ := hg
    obtain ⟨us, u1, lu, _⟩ := Kd.at_ I gx
    obtain ⟨vs, v1, lv, _⟩ := Kd.at_ I gy
    refine wpAny_pyNext_zipD2_end D.s (k1.draws (A := X.A.in1) (I.ok.hd hc) i1 a D.ai us) (k2.draws (A := X.A.in1) (I.ok.hd hc) i2 b D.bi vs) hz hI hO ⟨h1, u1⟩ ⟨h2, v1⟩ (by omega) (by omega) (by omega) fun h' tk hk => ⟨rfl, ?_⟩
    refine I.turnedL (ch := [z, TI, TO, i1, i2]) (fun c o hb q => ?_) hf
    simp only [List.mem_cons, List.not_mem_nil, or_false, not_or] at hb
    exact hk c o hb.1 hb.2.2.1 hb.2.2.2.1 hb.2.2.2.2 q
  self := fun A i s Q E st h => wpAny_pyIter_zip st.1 h
def iZipM (K : PySem.W.Frag) (ta : TA) : TI := fun σ H R => ta σ H fun vs H1 => ∃ (k1 k2 : Kd) (a b : Addr) (xs ys : List V), vs = [.ref a, .ref b] ∧ k1.seq K H1 a xs ∧ k2.seq K H1 b ys ∧ R (Itm K k1 k2 a b) H1
theorem pi_zipM {X : Cx} {e e2 : Expr} {ta : TA} {p pos tpos : Pos} {elts : List Expr} {kk : Nat} (hg : Gl X "zip") (hm : X.mg "zip" = none) (ha : PA X [e, e2] ta)
    (hs : starEach [e, e2] X.env = (false, eval e X.env) :: starEach [e2] X.env := by rfl) (hpl : (backTo pos (starEach [e2] X.env)).any (·.1) = false := by rfl) :
    PI X (.Tuple elts kk tpos) (.Call (.Name "zip" p) [e, e2] [] pos) (iZipM X.K ta) := by
  refine ⟨fun pins s σ H R I h => ?_⟩
  refine Call_ (ld_blt I hg hm PyProof.Rows.boot_zip (PyProof.Rows.callWith_type1 (thn (ha.run pos pins s σ H _ I h) fun us s1 ⟨vs, H1, I1, r1, q1⟩ => ?_) hs hpl))
  obtain ⟨k1, k2, a, b, xs, ys, rfl, gx, gy, q⟩ := q1
  cases r1 with
  | cons r rr =>
  cases rr with
  | cons r' rr =>
  cases rr
  cases r
  cases r'
  obtain ⟨us, u1, _⟩ := Kd.at_ I1 gx
  obtain ⟨vs, v1, _⟩ := Kd.at_ I1 gy
  refine zip_begins2 (k1.begins a us) (k2.begins b vs) u1 v1 fun h' hz hI hO e1 e2 hsz hk => wpAny_pyIter_zip hz ?_
  have I2 : Inv X pins σ H1 { s1 with heap := h' } := I1.kept (t' := s1.toks) hk
  refine ⟨s1.heap.objs.size + 4, [s1.heap.objs.size + 4, s1.heap.objs.size + 2, s1.heap.objs.size + 3, s1.heap.objs.size, s1.heap.objs.size + 1], _, _, H1, rfl, I2, turn_m (far5 (Kd.lt u1) (Kd.lt v1)), ⟨hz, hI, ⟨_, _, hO⟩, Kd.start e1, Kd.start e2⟩, fun c hc => ?_, q⟩
  have hle : s1.heap.objs.size ≤ c := by
    simp only [List.mem_cons, List.not_mem_nil, or_false] at hc
    rcases hc with rfl | rfl | rfl | rfl | rfl
    · exact Nat.le_add_right _ 4
    · exact Nat.le_add_right _ 2
    · exact Nat.le_add_right _ 3
    · exact Nat.le_refl _
    · exact Nat.le_add_right _ 1
  exact I1.fpOk hle (I1.hok.fresh hle)
end Mk

set_option Elab.async false
set_option linter.all false
set_option maxRecDepth 100000
set_option maxHeartbeats 2000000
/-! enumerate of a tuple -/
namespace Mk
open PySem PySem.Spec PyProof.Rows L2

/-- each item of the list or tuple with its place, in a new pair -/
def Itn (K : PySem.W.Frag) (k : Kd) (a : Addr) : It where
  go := fun i H => ∃ (xs : List V) (x : V), k.seq K H a xs ∧ xs[i]? = some x
  yld := fun i H v H' => ∃ T x, v = .ref T ∧ H T = none ∧ H' = upd H T (.tup [.int (i : Nat), x]) ∧ ∀ xs, k.seq K H a xs → xs[i]? = some x
  stop := fun i H => ∃ xs : List V, k.seq K H a xs ∧ xs.length = i
theorem turn_n {P : Program} {w : World} {K : PySem.W.Frag} {elts : List Expr} {kk : Nat} {tpos : Pos} {k : Kd} {a e it : Addr} (ne : a ≠ it) (nae : e ≠ a) (nei : e ≠ it) :
    Turn P w K (.Tuple elts kk tpos) (Itn K k a) [e, it] e (fun i h => (∃ old, IsEnum h e it ((i : Nat) : Int) old) ∧ k.it h it a i) where
  mem := by simp
  obj := fun i h st c hc => by
    obtain ⟨⟨old, he⟩, h1⟩ := st
    simp only [List.mem_cons, List.not_mem_nil, or_false] at hc
    rcases hc with rfl | rfl
    · exact ⟨_, he, fun v q => nomatch q⟩
    · exact Kd.live h1
  keep := fun i h h' st k => by
    obtain ⟨⟨old, he⟩, h1⟩ := st
    exact ⟨⟨old, k _ (by simp) _ he⟩, Kd.on h1 fun o q => k _ (by simp) o q⟩
  item := by
    intro X hP hw hK hc i pins s σ H E I hf st hg
    subst hP hw hK
    obtain ⟨⟨old, he⟩, h1⟩ := st
    obtain ⟨xs, x, gx, hx⟩ := hg
    obtain ⟨us, u1, lu, ru⟩ := Kd.at_ I gx
    obtain ⟨u, eu, xu⟩ := ru i x hx
    have iu : i < us.size := by rw [lu]; exact (List.getElem?_eq_some_iff.mp hx).1
    have le : e < s.heap.objs.size := Heap.lt_size he
    refine wpAny_pyNext_enum_itemD (k.draws (A := X.A.in1) (I.ok.hd hc) it a ne us) he ⟨h1, u1⟩ iu nei (by simp [nei, nae]) fun p h' tk e1 ho g1 hT hsz hk => ?_
    rw [eu] at e1
    cases e1
    refine ⟨_, rfl, wpAny_letOwnedTupleGo_enum (s := { s with heap := h', toks := tk + 1 }) ho fun h2' e2 sb => ?_⟩
    have up : ∀ {c : Addr} {o : Obj}, c ≠ e → h'.get? c = some o → h2'.get? c = some o := fun {c o} n q => (sb.2 c n).trans q
    have hT2 : h2'.get? s.heap.objs.size = some { cls := .type "tuple", data := .seq #[.int i tk, u] } := up (Nat.ne_of_gt le) hT
    have ob : ObjOk X.prog X.w (upd H s.heap.objs.size (.tup [.int (i : Nat), x])) h2' s.heap.objs.size (.tup [.int (i : Nat), x]) := ⟨(by show 2 ≤ sizeLine; decide), [.int i tk, u], .cons ⟨_, rfl⟩ (.cons xu .nil), ⟨_, hT2, rfl, _, rfl⟩⟩
    have J : Inv X pins σ (upd H s.heap.objs.size (.tup [.int (i : Nat), x])) { s with heap := h2', toks := tk + 1 } := by
      refine I.turnedNew (ch := [e, it]) (fun c o hb q => ?_) hf (Nat.le_refl _) ob
      simp only [List.mem_cons, List.not_mem_nil, or_false, not_or] at hb
      exact up hb.1 (hk c o hb.1 hb.2 q)
    refine ⟨.ref s.heap.objs.size, _, J, rfl, ⟨_, x, rfl, I.hok.fresh (Nat.le_refl _), rfl, fun l hl => by rw [Kd.inj I hl gx]; exact hx⟩, ⟨⟨u, ?_⟩, Kd.on g1.1 fun o q => up nei.symm q⟩, fun c hc => ?_⟩
    · rw [show (((i + 1 : Nat) : Nat) : Int) = (i : Int) + 1 from by omega]
      exact e2
    · have lc : c < s.heap.objs.size := by
        simp only [List.mem_cons, List.not_mem_nil, or_false] at hc
        rcases hc with rfl | rfl
        · exact le
        · exact Heap.lt_size (Kd.live h1).choose_spec.1
      rw [upd_ne (Nat.ne_of_lt lc)]
      exact (hf c hc).1
  done := by
    intro X hP hw hK hc i pins s σ H E I hf st hg
    subst hP hw hK
    obtain ⟨⟨old, he⟩, h1⟩ := st
    obtain ⟨xs, gx, ix⟩ := hg
    obtain ⟨us, u1, lu, _⟩ := Kd.at_ I gx
    have ei : us.size = i := by omega
    obtain ⟨f0, f1, f2, f3, f4, f5⟩ := hf it (by simp)
    refine wpAny_pyNext_enum_endD (k.draws (A := X.A.in1) (I.ok.hd hc) it a ne us) he ⟨by rw [ei]; exact h1, u1⟩ fun h' eb => ⟨rfl, I.turned (t' := s.toks) (fun b o hb q => eb b o hb q) f0 f1 f3 f4 f5⟩
  self := fun A i s Q E st h => by
    obtain ⟨⟨_, he⟩, _⟩ := st
    exact wpAny_pyIter_enum he h
theorem meets_enumT (t : Addr) (us : Array Value) :
    Meets (Builtin.«enumerate.__new__» ⟨[.type "enumerate", .ref t], []⟩) (fun _ R s => s.heap.IsTuple t us ∧
      R (.ok (.ret (.ref (s.heap.push (Kd.obj .t t)).objs.size))) { s with heap := (s.heap.push (Kd.obj .t t)).push { cls := .type "enumerate", data := .fields #[.none, .bool false, .ref s.heap.objs.size, rawInt 0, .none, .none] } }) :=
  .of_wp fun prog w A R s h => by
    obtain ⟨hp, g, d, tk, os⟩ := s
    obtain ⟨hl, h⟩ := h
    obtain ⟨⟨c, dct, dt, sl⟩, hl0, hc, n, hd⟩ := id hl
    have hc : c = .type "tuple" := hc
    have hd : dt = .seq us n := hd
    subst hc hd
    have hsub := sub_enumerate
    have hL : Heap.IsTuple (Shared.heap ⟨hp, g, d, tk, os⟩) t us := hl
    wp_walk using AutoSeq1.wpAny_loadPart' hl0
    refine wpAny_stack_any fun st => wpAny_pure ?_
    split
    · rename_i c' _ _ _ _ _
      cases (c' == Value.type "enumerate")
      all_goals
        wp_walk using AutoSeq1.wpAny_loadPart' hl0, wpAny_pyIter_tuple hL
        exact ⟨_, rfl, h⟩
    · wp_walk using AutoSeq1.wpAny_loadPart' hl0, wpAny_pyIter_tuple hL
      exact ⟨_, rfl, h⟩
theorem call_enumT {prog : Program} {w : World} {A : Around} {E : Value → Shared → Prop} {s : Shared} {t : Addr} {us : Array Value} {Q : Value → Shared → Prop} (hL : s.heap.IsTuple t us)
    (h : ∀ h', IsEnum h' (s.heap.objs.size + 1) s.heap.objs.size 0 .none → h'.get? s.heap.objs.size = some (Kd.obj .t t) → (∀ b o, s.heap.get? b = some o → h'.get? b = some o) → Q (.ref (s.heap.objs.size + 1)) { s with heap := h' }) :
    wpAny (model prog w) A (call (.type "enumerate") [.ref t]) Q E s := by
  refine callType_new F.called_enumerate (by decide) (F.typeCall_enumerate_1 _) (F.newCall_enumerate_1 _) (fun obj => F.args_object_init_2 obj _) F.entry_enumerate_new (meets_enumT t us) ⟨hL, ?_⟩
  have hz : (s.heap.push (Kd.obj .t t)).objs.size = s.heap.objs.size + 1 := Heap.size_push ..
  have he := Heap.get?_push_size (s.heap.push (Kd.obj .t t)) (o := { cls := .type "enumerate", data := .fields #[.none, .bool false, .ref s.heap.objs.size, rawInt 0, .none, .none] }) rfl
  rw [hz] at he
  show _ ∧ _
  rw [hz]
  exact ⟨⟨_, he, rfl⟩, h _ he (Heap.get?_push_of_some _ (Heap.get?_push_size _ rfl)) fun b o x => Heap.get?_push_of_some _ (Heap.get?_push_of_some _ x)⟩
def iEnumT (K : PySem.W.Frag) (ta : TA) : TI := fun σ H R => ta σ H fun vs H1 => ∃ (a : Addr) (xs : List V), vs = [.ref a] ∧ SqT K H1 a xs ∧ R (Itn K .t a) H1
theorem pi_enumT {X : Cx} {e : Expr} {ta : TA} {p pos tpos : Pos} {elts : List Expr} {kk : Nat} (hg : Gl X "enumerate") (hm : X.mg "enumerate" = none) (ha : PA X [e] ta) (hs : starEach [e] X.env = [(false, eval e X.env)] := by rfl) :
    PI X (.Tuple elts kk tpos) (.Call (.Name "enumerate" p) [e] [] pos) (iEnumT X.K ta) := by
  refine ⟨fun pins s σ H R I h => ?_⟩
  refine Call_ (ld_blt I hg hm boot_enumerate (PyProof.Rows.callWith_type1 (thn (ha.run pos pins s σ H _ I h) fun us s1 ⟨vs, H1, I1, r1, q1⟩ => ?_) hs rfl))
  obtain ⟨a, xs, rfl, gx, q⟩ := q1
  cases r1 with
  | cons r rr =>
  cases rr
  cases r
  obtain ⟨us, u1, _⟩ := Kd.at_ (k := .t) I1 gx
  have la := Kd.lt (k := .t) u1
  refine call_enumT u1 fun h' he hit hk => wpAny_pyIter_enum he ?_
  have I2 : Inv X pins σ H1 { s1 with heap := h' } := I1.kept (t' := s1.toks) hk
  have n1 : (a : Nat) ≠ s1.heap.objs.size := Nat.ne_of_lt la
  have n2 : (s1.heap.objs.size + 1 : Nat) ≠ a := Nat.ne_of_gt (Nat.lt_succ_of_lt la)
  refine ⟨s1.heap.objs.size + 1, [s1.heap.objs.size + 1, s1.heap.objs.size], _, _, H1, rfl, I2, turn_n (k := .t) (a := a) (it := s1.heap.objs.size) n1 n2 (Nat.succ_ne_self _), ⟨⟨.none, he⟩, Kd.start (k := .t) hit⟩, fun c hc => ?_, q⟩
  have hle : s1.heap.objs.size ≤ c := by
    simp only [List.mem_cons, List.not_mem_nil, or_false] at hc
    rcases hc with rfl | rfl
    · exact Nat.le_add_right _ 1
    · exact Nat.le_refl _
  exact I1.fpOk hle (I1.hok.fresh hle)
section
variable {K : PySem.W.Frag} {a b : Addr} {xs ys : List V} {k k1 k2 : Kd}
theorem walk_n : Walk (Itn K k a) xs.length (fun H => k.seq K H a xs) (fun i H v H' => ∃ T x, v = .ref T ∧ H T = none ∧ H' = upd H T (.tup [.int (i : Nat), x]) ∧ xs[i]? = some x) :=
  ⟨fun i H hi h => ⟨xs, _, h, List.getElem?_eq_getElem hi⟩, fun H h => ⟨xs, h, rfl⟩, fun i H v H' hi h ⟨T, x, e1, e2, e3, e4⟩ => ⟨T, x, e1, e2, e3, e4 _ h⟩⟩
theorem walk_m (hl : xs.length = ys.length) : Walk (Itm K k1 k2 a b) xs.length (fun H => k1.seq K H a xs ∧ k2.seq K H b ys) (fun i H v H' => ∃ T x y, v = .ref T ∧ H T = none ∧ H' = upd H T (.tup [x, y]) ∧ xs[i]? = some x ∧ ys[i]? = some y) :=
  ⟨fun i H hi h => ⟨xs, ys, _, _, h.1, h.2, List.getElem?_eq_getElem hi, List.getElem?_eq_getElem (hl ▸ hi)⟩, fun H h => ⟨xs, ys, h.1, h.2, Nat.le_refl _, Nat.le_of_eq hl, .inl rfl⟩, fun i H v H' hi h ⟨T, x, y, e1, e2, e3, e4, e5⟩ => ⟨T, x, y, e1, e2, e3, e4 _ h.1, e5 _ h.2⟩⟩
end
end Mk

set_option Elab.async false
set_option linter.all false
set_option maxRecDepth 100000
set_option maxHeartbeats 2000000
/-! raise TooMany(e): an own class over OverflowError, whose __init__ calls super().__init__ and stores one field -/
namespace Mk
open PySem PySem.Spec L2 PyProof.Rows PySem.W

section
open Builtin Builtin.ObjectAttr
variable {prog : Program} {w : World} {A : Around} {E : Value → Shared → Prop} {hp : Heap} {g : Array GenState} {d : Drawn} {t : Nat} {os : OsState}
end

section
variable {prog : Program} {w : World} {A : Around} {K : Frag} {mg : Str → Option Value} {C : Addr} {hp : Heap} {g : Array GenState} {dr : Drawn} {tk : Nat} {os : OsState}
end

end Mk

set_option Elab.async false
set_option linter.all false
set_option maxRecDepth 100000
set_option maxHeartbeats 2000000
/-! == and != against an instance of an own class with its own ==, whose kind the other value is not -/
namespace Mk
open PySem PySem.Spec L2 PyProof.Rows

section
open AutoSeq1 (wpAny_loadPart')
variable {prog : Program} {w : World} {A : Around} {E : Value → Shared → Prop} {s : Shared} {p C : Addr} {op : Obj} {Q : Option Value → Shared → Prop}
end
end Mk

set_option Elab.async false
set_option linter.all false
set_option maxRecDepth 100000
set_option maxHeartbeats 2000000
namespace Mk
open PySem PySem.Spec L2 PyProof.Rows

section
variable {prog : Program} {w : World} {A : Around} {E : Value → Shared → Prop} {s : Shared} {K : W.Frag} {p C f : Addr} {ox : Obj} {od : Option Obj} {u : Value}
end
end Mk

set_option Elab.async false
set_option linter.all false
set_option maxRecDepth 100000
set_option maxHeartbeats 2000000
namespace Mk
open PySem PySem.Spec L2 PyProof.Rows

section
variable {X : Cx} {pins : List (Addr × Obj)} {σ : L2.St} {H : Hp} {s : Shared} {x : V} {u : Value} {T : String} {p C dx : Addr} {fs : List (Str × V)}
end

section
variable {X : Cx} {CX : CXT} {k : Nat} {C f : Addr} {fd : FuncData} {ps : List Str} {sp : Sp}
end
end Mk

set_option Elab.async false
set_option linter.all false
set_option maxRecDepth 100000
set_option maxHeartbeats 1000000
/-! any values in the places of words and prices; what is raised for them -/
namespace Mk
open PySem PySem.Spec L2 PyProof.Rows

def hasB (t1 : PTab) (z : Str) : Bool := (sgs z).all fun y => decide (y ∈ t1.map (·.1))
def spHaveX (C : Addr) : Sp := fun vs H Q _ => ∃ (x : Addr) (z : Str) (t1 t2 : PTab) (t3 : STab), vs = [.ref x, .str z] ∧ PrAt C H x t1 t2 t3 ∧ (∀ p ∈ t1, sgB p.1 = true) ∧ wB z = true ∧ z.length ≤ 4000 ∧ ∀ H', Same H H' → Q (.bl (hasB t1 z)) H'
section
variable {P : Program} {w : World} {K : PySem.W.Frag} {mg : Str → Option Value} {base : Heap}
theorem wB_sg1 {z : Str} (h : wB z = true) {i c : Nat} (hz : z.cps[i]? = some c) : sgB ⟨#[c]⟩ = true := wB_sg h _ (List.mem_of_getElem? (sgs_at hz))
theorem ok_haveX {f g C : Addr} {fd fdg : FuncData} (F : Fun K "have_signs" "have_signs" sHave f fd) (O : On mg) (D : OwnD K C g "__contains__") (G : FnOk P w K mg base CX0 1 g fdg ["self", "value"] (spCont K C)) (hb : Binds K fdg ["self", "value"] []) : FnOk P w K mg base CX0 2 f fd ["prices", "signs"] (spHaveX C) := by
  refine F.ok scHave (fun vs H Q E h => ?_) (fun cdv A outer s H vs Q E hr h => ?_)
  · obtain ⟨x, z, t1, t2, t3, rfl, _⟩ := h
    rfl
  · obtain ⟨x, z, t1, t2, t3, rfl, hx, sg, hw, hl, q⟩ := h
    refine ⟨_, pss_one (ps_ret (pe_callB (cr_all rfl) (by rfl) O.all (by decide +kernel) (pa_cons (pe_lc (own := [("sign", 2)]) (g := gName 2) (tt := tYes) rfl scHave.nd (pi_str (pv 1)) (blkOk_by (N := ["prices", "signs", "sign"]) (sc := defScope sHave) (by decide +kernel))
          (fun _ _ _ _ _ => pg_name (i := 2) scHave.nd rfl (Or.inl rfl)) (fun _ _ _ _ _ => pts_nil) (fun _ _ _ _ _ => pe_cmpR (op_in_own (n := 1) ⟨g, fdg, D, G, hb⟩ hr) (pv 2) (pv 0) (by rfl))) pa_nil))), ?_⟩
    refine ⟨_, rfl, z, rfl, fun D0 hD => wk_any walk_str (fun i H2 => Same H H2 ∧ H2 D0 = some (.lst ((((sgs z).take i).map fun y => decide (y ∈ t1.map (·.1))).map V.bl))) ⟨Same.new hD, upd_same⟩ (fun _ _ _ _ => trivial) ?_ ?_⟩
    · rintro i y H2 H3 hi ⟨hS, hL⟩ ⟨rfl, cd, hz, rfl⟩
      have hz' : z.length = z.cps.size := rfl
      obtain ⟨dx, t', a, b, e, hx0, _⟩ := id (hx.same hS)
      have okz : PyData.strOk ⟨#[cd]⟩ = true := sgB_ok (wB_sg1 hw hz)
      refine ⟨rfl, _, rfl, _, rfl, x, dx, _, rfl, hx0, x, V.str ⟨#[cd]⟩, PyData.str ⟨#[cd]⟩, t1, t2, t3, rfl, hx.same hS, sg, .of (.str _) (by simp [SeqAt.shaped, PyData.canLay0, PyData.depth, okz]), _, rfl, _, hL, ?_, fun b0 o0 e0 => ?_, ?_⟩
      · rw [List.length_map, List.length_map, List.length_take]
        exact Nat.lt_of_le_of_lt (Nat.min_le_left _ _) (Nat.lt_of_lt_of_le (by omega : i < 4001) (by decide))
      · rw [upd_ne (ne_of_none e0 hD)]
        exact hS _ _ e0
      · rw [upd_same, List.take_add_one, sgs_at hz, List.map_append, List.map_append]
        rfl
    rintro H2 ⟨hS, hL⟩
    have ez : z.cps.size = (sgs z).length := (sgs_length z).symm
    rw [ez, List.take_length] at hL
    refine ⟨_, _, rfl, SqL.of hL, ?_⟩
    have ea : (((sgs z).map fun y => decide (y ∈ t1.map (·.1))).all id) = hasB t1 z := by
      unfold hasB
      rw [List.all_map]
      rfl
    rw [ea]
    exact q _ hS
end
end Mk

set_option Elab.async false
set_option linter.all false
set_option maxRecDepth 100000
set_option maxHeartbeats 2000000
/-! one row, judged by the law -/
namespace Mk
open PySem PySem.Spec L2 PyProof.Rows

section
variable {P : Program} {w : World} {K : PySem.W.Frag} {mg : Str → Option Value} {base : Heap} {k : Nat} {f : Addr} {sp : Sp} {N ps : List Str}
end

/-! what is told while a list grows -/
theorem ExtN.intoCut {H H1 : Hp} {l : Addr} (k : LamX.ExtN H H1) (hl : H l = none) : LamX.ExtN H (cutH l H1) := fun b u e n => by
  have nb : b ≠ l := fun z => by rw [z, hl] at e; cases e
  rw [cutH_ne nb]
  exact k b u e n
end Mk

set_option Elab.async false
set_option linter.all false
set_option maxRecDepth 100000
set_option maxHeartbeats 4000000
/-! one row, judged by the law: the def -/
namespace Mk
open PySem PySem.Spec L2 PyProof.Rows

section
variable {P : Program} {w : World} {K : PySem.W.Frag} {mg : Str → Option Value} {base : Heap}
end
end Mk

set_option Elab.async false
set_option linter.all false
set_option maxRecDepth 100000
set_option maxHeartbeats 2000000
/-! values that stand in the place of a change -/
namespace Mk
open PySem PySem.Spec L2 PyProof.Rows

/-! displays of data -/
section
variable {X : Cx} {p : Addr} {φ : L2.St → Prop} {d : PyData} {ds : List PyData} {e : Expr} {es : List Expr} {pos : Pos}
end
/-! small values -/
section
variable {z : Str}
end
section
variable {P : Program} {w : World} {K : PySem.W.Frag} {mg : Str → Option Value} {base : Heap}
end
end Mk

set_option Elab.async false
set_option linter.all false
set_option maxRecDepth 100000
set_option maxHeartbeats 1000000
/-! a text so many times -/
namespace Mk
open PySem L2 PyProof.Rows

section
variable {X : Cx}
end
end Mk

set_option Elab.async false
set_option linter.all false
set_option maxRecDepth 100000
set_option maxHeartbeats 2000000
/-! displays of values of which a property is told; one of them is drawn -/
namespace Mk
open PySem PySem.Spec L2 PyProof.Rows

abbrev Prop1 : Type := Hp → V → Prop
abbrev Ctx1 : Type := L2.St → Hp → Prop
section
variable {X : Cx} {p : Addr} {Ψ : Ctx1} {R : Prop1} {n : Nat} {e : Expr} {es : List Expr} {pos : Pos}
end
section
variable {P : Program} {w : World} {K : PySem.W.Frag} {mg : Str → Option Value} {base : Heap}
end
end Mk

set_option Elab.async false
set_option linter.all false
set_option maxRecDepth 100000
set_option maxHeartbeats 2000000
/-! machines in the heap; first_words -/
namespace Mk
open PySem PySem.Spec L2 PyProof.Rows

abbrev sFirstW : Stmt := top 49
abbrev nFirstW : List Str := ["machine", "start", "found", "queue", "at", "state", "moves", "sign", "to"]
/-- a state at s -/
def StA (H : Hp) (s : Addr) (q : PTab × Bool) : Prop := ∃ d, H s = some (.tup [.ref d, .bl q.2]) ∧ H d = some (.dK (kvsP q.1))
/-- a machine at t -/
def MAt (H : Hp) (t : Addr) (m : Mch) : Prop := ∃ ss : List Addr, H t = some (.tup (ss.map V.ref)) ∧ Paired (StA H) ss m
theorem StA.keep {H H' : Hp} {s : Addr} {q : PTab × Bool} (k : Same H H') (h : StA H s q) : StA H' s q := h.imp fun d ⟨a, b⟩ => ⟨k _ _ a, k _ _ b⟩
theorem MAt.keep {H H' : Hp} {t : Addr} {m : Mch} (k : Same H H') (h : MAt H t m) : MAt H' t m := h.imp fun ss ⟨a, b⟩ => ⟨k _ _ a, L2.Paired.mapP b fun _ _ e => e.keep k⟩
theorem MAt.at_ {H : Hp} {t : Addr} {m : Mch} (h : MAt H t m) {i : Int} (hi : 0 ≤ i ∧ i < m.length) : ∃ (ss : List Addr) (s d : Addr), H t = some (.tup (ss.map V.ref)) ∧ atI (ss.map V.ref) i = some (.ref s) ∧ H s = some (.tup [.ref d, .bl (lst? m i)]) ∧ H d = some (.dK (kvsP (mvs m i))) := by
  obtain ⟨ss, e, p⟩ := h
  have l := Paired.length p
  have hl : i.toNat < ss.length := by omega
  obtain ⟨q, hq, d, e1, e2⟩ := L2.paired_get p (List.getElem?_eq_getElem hl)
  have eq : m.getD i.toNat ([], false) = q := by rw [List.getD_eq_getElem?_getD, hq]; rfl
  refine ⟨ss, ss[i.toNat], d, e, at_ofA (j := i.toNat) (by omega) (by rw [List.getElem?_map, List.getElem?_eq_getElem hl]; rfl), ?_, ?_⟩
  · unfold lst?
    rw [eq]
    exact e1
  · unfold mvs
    rw [eq]
    exact e2
def kvsF (f : Fnd) : List (Key × V) := f.map fun p => (Sum.inl p.1, V.str p.2)
theorem kvsF_val : ∀ {f : Fnd} {i : Int}, valV (kvsF f) (Sum.inl i) = (f.find? fun p => decide (p.1 = i)).map fun p => V.str p.2
  | [], i => rfl
  | p :: f, i => by
    by_cases e : p.1 = i
    · rw [List.find?_cons_of_pos (by simpa using e)]
      exact valV_pos (by show (Sum.inl p.1 : Key) = Sum.inl i; rw [e])
    · rw [List.find?_cons_of_neg (by simpa using e)]
      have ne : ¬ (Sum.inl p.1 : Key) = Sum.inl i := fun q => e (Sum.inl.inj q)
      exact (valV_neg ne).trans kvsF_val
theorem kvsF_some {f : Fnd} {i : Int} : (valV (kvsF f) (Sum.inl i)).isSome = decide (i ∈ f.map (·.1)) := by
  rw [kvsF_val, Option.isSome_map, Bool.eq_iff_iff, List.find?_isSome]
  simp only [decide_eq_true_eq, List.mem_map]
theorem kvsF_at {f : Fnd} (nd : (f.map (·.1)).Nodup) {p : Int × Str} (h : p ∈ f) : valV (kvsF f) (Sum.inl p.1) = some (V.str p.2) := by
  induction f with
  | nil => cases h
  | cons a f ih =>
    rw [List.map_cons, List.nodup_cons] at nd
    rcases List.mem_cons.mp h with rfl | h
    · exact valV_pos rfl
    · have ne : ¬ (Sum.inl a.1 : Key) = Sum.inl p.1 := fun q => nd.1 (List.mem_map.mpr ⟨p, h, (Sum.inl.inj q).symm⟩)
      exact (valV_neg ne).trans (ih nd.2 h)
theorem kvsF_put {f : Fnd} {i : Int} {w : Str} (h : i ∉ f.map (·.1)) : L2.putK (kvsF f) (Sum.inl i) (V.str w) = kvsF (f ++ [(i, w)]) := by
  have : valV (kvsF f) (Sum.inl i) = none := by
    have e := kvsF_some (f := f) (i := i)
    rw [decide_eq_false h] at e
    exact Option.isNone_iff_eq_none.mp (by rw [← Option.not_isSome, e]; rfl)
  rw [putK_new _ this]
  simp [kvsF]
theorem sorted_keys {t : PTab} {ys : List Str} (p : ys.Perm (t.map (·.1))) (so : sortedS ys = true) : ys = keysM t :=
  List.Perm.eq_of_pairwise (fun a b _ _ k1 k2 => byCs_anti a b k1 k2) (sorted_up so) (List.pairwise_mergeSort byCs_trans byCs_total _) (p.trans (keysM_perm t).symm)
theorem bfs_step {m : Mch} {n k : Nat} {f : Fnd} {p : Int × Str} (h : f[k]? = some p) : bfs m (n + 1) k f = bfs m n (k + 1) ((keysM (mvs m p.1)).foldl (addF (mvs m p.1) p.2) f) := by
  conv => lhs; unfold bfs
  simp only [h]
/-- found and queue as they grow -/
structure Bfs (H0 H1 : Hp) (D L : Addr) (f : Fnd) : Prop where
  same : Same H0 H1
  d : H1 D = some (.dK (kvsF f))
  l : H1 L = some (.lst (f.map fun p => V.int p.1))
section
variable {H0 H1 H2 : Hp} {D L : Addr} {f : Fnd}
theorem Bfs.go (B : Bfs H0 H1 D L f) (k : Same H1 H2) : Bfs H0 H2 D L f := ⟨B.same.trans k, k _ _ B.d, k _ _ B.l⟩
theorem Bfs.add (B : Bfs H0 H1 D L f) (fd : H0 D = none) (fl : H0 L = none) (ne : D ≠ L) {p : Int × Str} : Bfs H0 (upd (upd H1 D (.dK (kvsF (f ++ [p])))) L (.lst (f.map (fun p => V.int p.1) ++ [V.int p.1]))) D L (f ++ [p]) :=
  ⟨Same.upN (Same.upN B.same fd) fl, (upd_ne ne).trans upd_same, by rw [List.map_append]; exact upd_same⟩
end
def spFirstW : Sp := fun vs H Q _ => ∃ (t : Addr) (m : Mch) (i : Int), vs = [.ref t, .int i] ∧ MAt H t m ∧ WF m ∧ m.length ≤ 40 ∧ (∀ q ∈ m, q.1.length ≤ 5) ∧ (0 ≤ i ∧ i < m.length) ∧ ∀ H' d, Same H H' → H d = none → H' d = some (.dK (kvsF (firstW m i))) → Q (.ref d) H'
section
variable {P : Program} {w : World} {K : PySem.W.Frag} {mg : Str → Option Value} {base : Heap}
theorem scFirstW : FnScope nFirstW ["machine", "start"] (defScope sFirstW) := ⟨rfl, rfl, rfl, by decide +kernel, rfl, by decide +kernel, by decide +kernel⟩
theorem ok_firstW {f : Addr} {fd : FuncData} (F : FunD K "first_words" "first_words" (defArgs sFirstW) (defBody sFirstW) (defScope sFirstW) [.int 0] [] f fd) (B : Bn mg) (O : On mg) : FnOk P w K mg base CX0 1 f fd ["machine", "start"] spFirstW := by
  refine F.ok scFirstW (fun vs H Q E h => ?_) (fun cdv A outer s H vs Q E hr h => ?_)
  · obtain ⟨t, m, i, rfl, _⟩ := h
    rfl
  · have hu := hu_of hr
    obtain ⟨t, m, i, rfl, hm, wf, lm, l5, hi, q⟩ := h
    refine ⟨_, PSs.nox (pss_cons (ps_set (i := 2) scFirstW.nd rfl (.inl rfl) (pe_disp (L2.pps_cons (pv 1) pe_str L2.pps_nil) rfl rfl (by exact fun z => nomatch z) (by decide)))
      (pss_cons (ps_set (i := 3) scFirstW.nd rfl (.inl rfl) (pe_lst (pa_cons (pv 1) pa_nil)))
      (pss_cons (ps_set (i := 4) scFirstW.nd rfl (.inl rfl) pe_int)
      (pss_cons (ps_while PassesOwn.never (pt_cmpR op_lt (pv 4) (pe_callB call_len_seq (by rfl) B.len PySem.boot_len (pa_cons (pv 3) pa_nil)) (nomark _))
        (pss_cons (ps_set (i := 5) scFirstW.nd rfl (.inl rfl) (pe_ix ix_list (pv 3) (pv 4) (fun _ _ => rfl)))
        (pss_cons (ps_set (i := 6) scFirstW.nd rfl (.inl rfl) (pe_ix ix_tup (pe_ix ix_tup (pv 0) (pv 5) (fun _ _ => rfl)) pe_int (fun _ _ => rfl)))
        (pss_cons (ps_for PassesOwn.never rfl (pi_list (pe_callB (call_sortedD rfl) (by rfl) O.sorted (by decide +kernel) (pa_cons (pv 6) pa_nil))) (pg_name (i := 7) scFirstW.nd rfl (.inl rfl))
          (pss_cons (ps_set (i := 8) scFirstW.nd rfl (.inl rfl) (pe_dget hu (pv 6) (pv 7) (fun _ _ => rfl)))
          (pss_one (ps_if (pt_cmp (pc_dnotin hu (pv 8) (pv 2)))
            (pss_cons (ps_dput hu (pv 2) (pv 8) (pe_op op_add_str (pe_dget hu (pv 2) (pv 5) (fun _ _ => rfl)) (pv 7)) rfl)
            (pss_one (ps_expr (pe_bm PySem.F.plainAttrs_list PySem.F.slot_list_append PySem.F.type_list_append mt_append (pv 3) (pa_cons (pv 8) pa_nil))))) pss_nil))))
        (pss_one (ps_aug (i := 4) scFirstW.nd rfl (.inl rfl) pe_int ip_add))))))
      (pss_one (ps_ret (pv 2))))))), ?_⟩
    have lt1 : ∀ {n : Nat}, n ≤ 4999 → n < sizeLine := fun h1 => by rw [sizeLine_eq]; omega
    have h2 : (2 : Nat) < sizeLine := lt1 (by decide)
    refine fun D hD => ⟨_, rfl, upd_same, [(Sum.inl i, V.str "")], rfl, (by show 1 ≤ 15; decide), ?_⟩
    have em : mergeK [] [((Sum.inl i : Key), V.str "")] = kvsF [(i, "")] := rfl
    rw [em]
    have sD : Same H (upd (upd H D (.dK [])) D (.dK (kvsF [(i, "")]))) := fun b o e => by
      have nb := ne_of_none e hD
      rw [upd_ne nb, upd_ne nb]
      exact e
    have eD : (upd (upd H D (.dK [])) D (.dK (kvsF [(i, "")]))) D = some (.dK (kvsF [(i, "")])) := upd_same
    generalize upd (upd H D (.dK [])) D (.dK (kvsF [(i, "")])) = H1 at sD eD ⊢
    refine ⟨_, rfl, Nat.le_of_lt (lt1 (n := 1) (by decide)), fun L hL => ?_⟩
    have hL0 : H L = none := sD.free hL
    have ne : D ≠ L := ne_of_none eD hL
    have B0 : Bfs H (upd H1 L (.lst [V.int i])) D L [(i, "")] := ⟨sD.trans (Same.new hL), (upd_ne ne).trans eD, upd_same⟩
    generalize upd H1 L (.lst [V.int i]) = H2 at B0 ⊢
    clear sD eD hL H1 em
    refine while_by (fun σ H3 => ∃ (k : Nat) (f : Fnd) (o5 o6 o7 o8 : Option V), σ = [some (.ref t), some (.int i), some (.ref D), some (.ref L), some (.int k), o5, o6, o7, o8] ∧ Bfs H H3 D L f ∧ FOk m f ∧ k ≤ f.length ∧ firstW m i = bfs m (m.length - k) k f)
      (fun σ _ => match σ[4]? with | some (some (V.int k)) => m.length - k.toNat | _ => 0) ?_ ?_ ?_
    · exact ⟨0, _, none, none, none, none, rfl, B0, start_ok hi, Nat.zero_le _, rfl⟩
    · rintro σ H3 ⟨k, f, o5, o6, o7, o8, rfl, B3, ok, kl, ef⟩
      have fl := ok.len
      refine ⟨_, rfl, _, rfl, L, _, rfl, .inl (SqL.of B3.l), _, _, rfl, rfl, _, rfl, ?_⟩
      rw [List.length_map]
      by_cases hk : k < f.length
      · rw [decide_eq_true (by omega : (k : Int) < (f.length : Nat))]
        obtain ⟨p, hp⟩ : ∃ p, f[k]? = some p := ⟨_, List.getElem?_eq_getElem hk⟩
        have pm := List.mem_of_getElem? hp
        have pr := ok.rg p pm
        obtain ⟨ss, s', d, g1, e2, g3, g4⟩ := hm.at_ pr
        have e1 := B3.same _ _ g1
        have e3 := B3.same _ _ g3
        have e4 := B3.same _ _ g4
        have nd := mvs_nd wf p.1
        have l6 : (mvs m p.1).length ≤ 5 := by
          unfold mvs
          rw [List.getD_eq_getElem?_getD]
          cases e : m[p.1.toNat]? with
          | none => exact Nat.zero_le _
          | some q => exact l5 q (List.mem_of_getElem? e)
        refine iteT ⟨_, rfl, _, rfl, L, _, _, V.int p.1, rfl, rfl, SqL.of B3.l, atI_nat (by rw [List.getElem?_map, hp]; rfl), ?_⟩
        refine ⟨_, rfl, _, rfl, t, _, _, _, rfl, rfl, SqT.of e1, e2, s', _, 0, _, rfl, rfl, SqT.of e3, at_ofA (j := 0) rfl rfl, ?_⟩
        refine ⟨_, rfl, d, kvsP (mvs m p.1), (mvs m p.1).map (·.1), rfl, .inl e4, kvsP_keys _, by rw [List.length_map]; omega, fun ys S perm so hS => ?_⟩
        obtain rfl := sorted_keys perm so
        have B4 := B3.go (Same.new (o := .lst ((keysM (mvs m p.1)).map V.str)) hS)
        have eS : (upd H3 S (.lst ((keysM (mvs m p.1)).map V.str))) S = some (.lst ((keysM (mvs m p.1)).map V.str)) := upd_same
        have e4 := Same.new (o := .lst ((keysM (mvs m p.1)).map V.str)) hS _ _ e4
        have nSD : S ≠ D := (ne_of_none B3.d hS).symm
        have nSL : S ≠ L := (ne_of_none B3.l hS).symm
        have ndD : d ≠ D := ne_of_none g4 hD
        have ndL : d ≠ L := ne_of_none g4 hL0
        generalize upd H3 S (.lst ((keysM (mvs m p.1)).map V.str)) = H4 at B4 eS e4 ⊢
        refine ⟨S, rfl, ⟨_, SqL.of eS⟩, for_list (xs := (keysM (mvs m p.1)).map V.str) (fun j σ H5 => (∃ o7 o8, σ = [some (.ref t), some (.int i), some (.ref D), some (.ref L), some (.int k), some (.int p.1), some (.ref d), o7, o8]) ∧ Bfs H H5 D L (((keysM (mvs m p.1)).take j).foldl (addF (mvs m p.1) p.2) f) ∧ H5 S = some (.lst ((keysM (mvs m p.1)).map V.str)) ∧ H5 d = some (.dK (kvsP (mvs m p.1)))) ?_ (fun j σ H5 _ h5 => SqL.of h5.2.2.1) ?_ ?_⟩
        · exact ⟨⟨_, _, rfl⟩, B4, eS, e4⟩
        · rintro j x σ H5 hx ⟨⟨o7, o8, rfl⟩, B5, eS5, e5⟩
          have jl : j < (keysM (mvs m p.1)).length := by
            have := (List.getElem?_eq_some_iff.mp hx).1
            rwa [List.length_map] at this
          obtain ⟨s, hs⟩ : ∃ s, (keysM (mvs m p.1))[j]? = some s := ⟨_, List.getElem?_eq_getElem jl⟩
          rw [List.getElem?_map, hs] at hx
          obtain rfl : V.str s = x := Option.some.inj hx
          have sm := keysM_mem.mp (List.mem_of_getElem? hs)
          have tk : ∀ g : Fnd, ((keysM (mvs m p.1)).take (j + 1)).foldl (addF (mvs m p.1) p.2) g = addF (mvs m p.1) p.2 (((keysM (mvs m p.1)).take j).foldl (addF (mvs m p.1) p.2) g) s := fun g => by
            rw [List.take_add_one, hs, List.foldl_append]
            rfl
          have fo := foldF_ok (m := m) (t := mvs m p.1) (w := p.2) (ks := (keysM (mvs m p.1)).take j) (f := f) ok (fun y hy => by
            have hy := keysM_mem.mp (List.mem_of_mem_take hy)
            exact ⟨one_of (key_sg wf hy), look_rg wf hy⟩) (ok.le p pm)
          obtain ⟨fo1, ⟨r, er⟩, _⟩ := fo
          refine ⟨_, rfl, _, rfl, d, V.int (look (mvs m p.1) s), rfl, .inl ⟨kvsP (mvs m p.1), Sum.inr s, .inl e5, rfl, (valP sm).symm⟩, ?_⟩
          have tk := tk f
          generalize ((keysM (mvs m p.1)).take j).foldl (addF (mvs m p.1) p.2) f = f' at B5 fo1 er tk
          refine ⟨_, rfl, _, rfl, D, _, rfl, DGet.k (k := Sum.inl (look (mvs m p.1) s)) B5.d, _, rfl, ?_⟩
          rw [kvsF_some]
          have pf : p ∈ f' := by rw [er]; exact List.mem_append_left _ pm
          have l1 := one_of (key_sg wf sm)
          have lw := fo1.le p pf
          have lf := fo1.len
          by_cases hin : look (mvs m p.1) s ∈ f'.map (·.1)
          · rw [decide_eq_true hin]
            refine iteF ⟨⟨_, _, rfl⟩, ?_, eS5, e5⟩
            rw [tk]
            unfold addF
            rw [if_pos hin]
            exact B5
          · rw [decide_eq_false hin]
            refine iteT ⟨_, rfl, _, rfl, D, _, rfl, .inl ⟨kvsF f', Sum.inl p.1, .inl B5.d, rfl, (kvsF_at fo1.nd pf).symm⟩, _, rfl, _, _, rfl, rfl, Nat.le_of_lt (lt1 (by omega)), _, rfl, _, rfl, D, _, rfl, DPut.k (k := Sum.inl (look (mvs m p.1) s)) B5.d (lt1 (by unfold kvsF; rw [List.length_map]; omega)), ?_⟩
            rw [kvsF_put hin]
            have eL5 : (upd H5 D (.dK (kvsF (f' ++ [(look (mvs m p.1) s, p.2 ++ s)])))) L = some (.lst (f'.map fun p => V.int p.1)) := (upd_ne ne.symm).trans B5.l
            refine ⟨_, rfl, .inl ⟨rfl, _, SqL.of eL5⟩, _, rfl, L, _, _, rfl, rfl, eL5, lt1 (by rw [List.length_map]; omega), ⟨_, _, rfl⟩, ?_, ?_, ?_⟩
            · rw [tk]
              unfold addF
              rw [if_neg hin]
              exact B5.add hD hL0 ne
            · rw [upd_ne nSL, upd_ne nSD]
              exact eS5
            · rw [upd_ne ndL, upd_ne ndD]
              exact e5
        · rintro σ H5 ⟨⟨o7, o8, rfl⟩, B5, _, _⟩
          rw [List.length_map, List.take_length] at B5
          obtain ⟨fo1, ⟨r, er⟩, _⟩ := foldF_ok (m := m) (t := mvs m p.1) (w := p.2) (ks := keysM (mvs m p.1)) (f := f) ok (fun y hy => by
            have hy := keysM_mem.mp hy
            exact ⟨one_of (key_sg wf hy), look_rg wf hy⟩) (ok.le p pm)
          refine ⟨_, rfl, _, _, rfl, rfl, ⟨k + 1, _, some (.int p.1), some (.ref d), o7, o8, rfl, B5, fo1, by rw [er, List.length_append]; omega, ?_⟩, ?_⟩
          · rw [ef, show m.length - k = (m.length - (k + 1)) + 1 from by omega]
            exact bfs_step hp
          · show m.length - ((k : Int) + 1).toNat < m.length - (k : Int).toNat
            omega
      · rw [decide_eq_false (by omega : ¬ (k : Int) < (f.length : Nat))]
        refine iteF ⟨_, rfl, ?_⟩
        have ek : k = f.length := by omega
        have e0 : bfs m (m.length - k) k f = f := by
          have hn : f[k]? = none := by rw [ek]; exact List.getElem?_eq_none (Nat.le_refl _)
          cases e : m.length - k with
          | zero => rfl
          | succ n =>
            unfold bfs
            rw [hn]
        refine q _ D B3.same hD ?_
        rw [ef, e0]
        exact B3.d
    · rintro σ H3 Q1 Q2 hq ⟨v1, h1, v2, h2, a1, ys, e1, e2, i1, j1, e3, e4, b, e5, h⟩
      exact ⟨v1, h1, v2, h2, a1, ys, e1, e2, i1, j1, e3, e4, b, e5, hq _ _ h⟩
end
end Mk

set_option Elab.async false
set_option linter.all false
set_option maxRecDepth 100000
set_option maxHeartbeats 2000000
/-! the law's own alignments -/
namespace Mk
open PySem PySem.Spec L2 PyProof.Rows

section
variable {c : Str → Str → Int} {su sv : List Str}
end
section
variable {P : Program} {w : World} {K : PySem.W.Frag} {mg : Str → Option Value} {base : Heap}
end
end Mk

set_option Elab.async false
set_option linter.all false
set_option maxRecDepth 100000
set_option maxHeartbeats 2000000
/-! the law's own ways, and their rows -/
namespace Mk
open PySem PySem.Spec L2 PyProof.Rows

section
variable {t1 t2 : PTab} {t3 : STab}
end
section
variable {P : Program} {w : World} {K : PySem.W.Frag} {mg : Str → Option Value} {base : Heap}
end
end Mk

set_option Elab.async false
set_option linter.all false
set_option maxRecDepth 100000
set_option maxHeartbeats 4000000
/-! list(enumerate(xs)); xs[::k] -/
namespace Mk
open PySem PySem.Spec PyProof.Rows L2

section
variable {prog : Program} {w : World} {A : Around} {E : Value → Shared → Prop} {s : Shared}
end
section
variable {prog : Program} {w : World} {A : Around} {s : Shared} {R : Result → Shared → Prop} {items : Array Value}
end
section
variable {P : Program} {w : World} {A : Around} {E : Value → Shared → Prop} {s : Shared} {items : Array Value} {l : Addr}
end
section
variable {X : Cx}
end
end Mk

set_option Elab.async false
set_option linter.all false
set_option maxRecDepth 100000
set_option maxHeartbeats 2000000
/-! spoiled rows -/
namespace Mk
open PySem PySem.Spec L2 PyProof.Rows

section
variable {P : Program} {w : World} {K : PySem.W.Frag} {mg : Str → Option Value} {base : Heap}
end
end Mk

set_option Elab.async false
set_option linter.all false
set_option maxRecDepth 100000
set_option maxHeartbeats 2000000
/-! the law's own rows, from either end -/
namespace Mk
open PySem PySem.Spec L2 PyProof.Rows

section
variable {t1 t2 : PTab} {t3 : STab} {su sv : List Str} {ps : List PairN}
end
section
variable {X : Cx}
theorem ix_tupK (K : PySem.W.Frag) (hK : X.K = K := by rfl) : IxR X (rIxT K) := by
  subst hK
  exact ix_tup
end
section
variable {P : Program} {w : World} {K : PySem.W.Frag} {mg : Str → Option Value} {base : Heap}
end
end Mk

set_option Elab.async false
set_option linter.all false
set_option maxRecDepth 100000
set_option maxHeartbeats 2000000
/-! is a value a row of the price that is due -/
namespace Mk
open PySem PySem.Spec L2 PyProof.Rows

section
variable {P : Program} {w : World} {K : PySem.W.Frag} {mg : Str → Option Value} {base : Heap}
end
end Mk

set_option Elab.async false
set_option linter.all false
set_option maxRecDepth 100000
set_option maxHeartbeats 4000000
/-! the law -/
namespace Mk
open PySem PySem.Spec L2 PyProof.Rows

section
variable {P : Program} {w : World} {K : PySem.W.Frag} {mg : Str → Option Value} {base : Heap}
end
end Mk

set_option Elab.async false
set_option linter.all false
set_option maxRecDepth 100000
set_option maxHeartbeats 4000000
/-! values beside a row -/
namespace Mk
open PySem PySem.Spec L2 PyProof.Rows

section
variable {D p b : Addr} {H H' : Hp}
end
/-- t + u, told alike in all cases -/
def rCatB : R2 := fun x y H Q => ∃ a b xs ys, x = .ref a ∧ y = .ref b ∧ H a = some (.tup xs) ∧ H b = some (.tup ys) ∧ xs.length + ys.length ≤ sizeLine ∧ ∀ H' p, Same H H' → H' p = some (.tup (xs ++ ys)) → Q (.ref p) H'
theorem op_catB {X : Cx} : OpR X (binaryOp .Add) rCatB := by
  intro pins s σ H x y v u Q I rx ry h
  obtain ⟨a, b, xs, ys, rfl, rfl, ha, hb, hz, q⟩ := h
  refine op_catA pins s σ H _ _ v u Q I rx ry ⟨a, b, xs, ys, rfl, rfl, SqT.of ha, SqT.of hb, hz, fun e => q H b (Same.refl _) (by rw [e]; exact hb), fun _ e => q H a (Same.refl _) (by rw [e, List.append_nil]; exact ha), fun _ _ p hp => q _ p (Same.new hp) upd_same⟩
section
variable {P : Program} {w : World} {K : PySem.W.Frag} {mg : Str → Option Value} {base : Heap}
end
end Mk

set_option Elab.async false
set_option linter.all false
set_option maxRecDepth 100000
set_option maxHeartbeats 1000000
/-! a dict whose keys are rows of pairs -/
namespace Mk
open PySem PySem.Spec L2 PyProof.Rows

section
variable {P : Program} {w : World} {H : Hp} {h : Heap}
end
section
variable {X : Cx} {o i : Expr} {pos : Pos} {td ty : TE}
end
end Mk

set_option Elab.async false
set_option linter.all false
set_option maxRecDepth 100000
set_option maxHeartbeats 1000000
/-! rows of pairs as data -/
namespace Mk
open PySem PySem.Spec L2 PyProof.Rows

/-! what a value tells -/
section
variable {su sv : List Str}
end
/-! all alignments -/
section
variable {su sv : List Str}
end
end Mk

set_option Elab.async false
set_option linter.all false
set_option maxRecDepth 100000
set_option maxHeartbeats 1000000
/-! two values of one text: a row of pairs is one only -/
namespace Mk
open PySem PySem.Spec L2 PyProof.Rows

end Mk

set_option Elab.async false
set_option linter.all false
set_option maxRecDepth 100000
set_option maxHeartbeats 1000000
/-! items of a tuple that are told, left out, looked at -/
namespace Mk
open PySem PySem.Spec L2 PyProof.Rows

section
variable {K : PySem.W.Frag} {a : Addr} {xs : List V} {ds : List PyData} {i : Nat} {tt : TT} {te : TE} {vs : List Nat} {σ : L2.St} {H1 : Hp} {D : Addr} {Qd : Hp → Prop}
end
/-! isinstance, None within a comprehension -/
section
variable {X : Cx}
end
/-! lists of numbers -/
theorem shaped_lst8 {ds : List PyData} (h : ∀ d ∈ ds, d.canLay0 = true ∧ d.depth ≤ 60) : SeqAt.shaped (.list ds) = true := by
  unfold SeqAt.shaped
  rw [Bool.and_eq_true]
  refine ⟨?_, decide_eq_true ?_⟩
  · simp only [PyData.canLay0]
    exact canLay_all fun y hy => (h y hy).1
  · have := depth_all (k := 60) fun x hx => (h x hx).2
    simp only [PyData.depth]
    omega
theorem shaped_ints (as : List Int) : SeqAt.shaped (.list (as.map .int)) = true := shaped_lst8 fun d hd => by
  obtain ⟨i, _, rfl⟩ := List.mem_map.mp hd
  exact ⟨rfl, by simp [PyData.depth]⟩
theorem eqv_nil : ∀ ds : List PyData, PyData.eqv (.list ds) (.list []) = decide (ds = [])
  | [] => by simp [PyData.eqv, PyData.eqvAll]
  | _ :: _ => by simp [PyData.eqv, PyData.eqvAll]
theorem dpall_ints {K : PySem.W.Frag} {H : Hp} : ∀ as : List Int, DpAll K H (as.map V.int) (as.map PyData.int)
  | [] => .nil
  | a :: as => .cons (.int a) (dpall_ints as)
/-! what the program asks of a pair -/
end Mk

set_option Elab.async false
set_option linter.all false
set_option maxRecDepth 100000
set_option maxHeartbeats 4000000
/-! _states_ahead_of_last -/
namespace Mk
open PySem PySem.Spec L2 PyProof.Rows

abbrev sEndM : Stmt := top 59
abbrev nEndM : List Str := ["machine", "_", "near", "state", "moves", "sign", "queue", "found", "at", "here", "last"]
def kvsE (f : List Int) : List (Key × V) := f.map fun i => (Sum.inl i, V.bl true)
theorem kvsE_some : ∀ {f : List Int} {i : Int}, (valV (kvsE f) (Sum.inl i)).isSome = decide (i ∈ f)
  | [], i => rfl
  | p :: f, i => by
    by_cases e : p = i
    · have : valV (kvsE (p :: f)) (Sum.inl i) = some (V.bl true) := valV_pos (by show (Sum.inl p : Key) = Sum.inl i; rw [e])
      rw [this, decide_eq_true (by rw [e]; exact List.mem_cons_self)]
      rfl
    · have ne : ¬ (Sum.inl p : Key) = Sum.inl i := fun q => e (Sum.inl.inj q)
      have : valV (kvsE (p :: f)) (Sum.inl i) = valV (kvsE f) (Sum.inl i) := valV_neg ne
      rw [this, kvsE_some, Bool.eq_iff_iff, decide_eq_true_eq, decide_eq_true_eq, List.mem_cons]
      exact ⟨.inr, fun h => h.resolve_left fun z => e z.symm⟩
theorem kvsE_put {f : List Int} {i : Int} (h : i ∉ f) : L2.putK (kvsE f) (Sum.inl i) (V.bl true) = kvsE (f ++ [i]) := by
  have : valV (kvsE f) (Sum.inl i) = none := by
    have e := kvsE_some (f := f) (i := i)
    rw [decide_eq_false h] at e
    exact Option.isNone_iff_eq_none.mp (by rw [← Option.not_isSome, e]; rfl)
  rw [putK_new _ this]
  simp [kvsE]
section
variable {K : PySem.W.Frag} {H H0 H1 H2 H' : Hp} {N d p : Addr} {xs ys : List V} {o : HO} {nr : Near}
/-- the tuples of the states from which one comes -/
def NrA (H : Hp) (N : Addr) (nr : Near) : Prop := ∃ ps : List Addr, H N = some (.lst (ps.map V.ref)) ∧ Paired (fun (p : Addr) (l : List Int) => H p = some (.tup (l.map V.int))) ps nr
theorem NrA.keep (k : Same H H') (h : NrA H N nr) : NrA H' N nr := h.imp fun ps ⟨e, p⟩ => ⟨k _ _ e, L2.Paired.mapP p fun _ _ g => k _ _ g⟩
theorem NrA.at_ (h : NrA H N nr) {i : Nat} (hi : i < nr.length) : ∃ (ps : List Addr) (p : Addr), H N = some (.lst (ps.map V.ref)) ∧ (ps.map V.ref)[i]? = some (.ref p) ∧ H p = some (.tup ((nr.getD i []).map V.int)) ∧ ps.length = nr.length := by
  obtain ⟨ps, e, pp⟩ := h
  have l := Paired.length pp
  have hl : i < ps.length := by omega
  obtain ⟨q, hq, g⟩ := L2.paired_get pp (List.getElem?_eq_getElem hl)
  refine ⟨ps, ps[i], e, by rw [List.getElem?_map, List.getElem?_eq_getElem hl]; rfl, ?_, l⟩
  rw [List.getD_eq_getElem?_getD, hq]
  exact g
theorem paired_set {α β : Type} {F : α → β → Prop} : ∀ {xs : List α} {ys : List β}, Paired F xs ys → ∀ {i : Nat} {a : α} {b : β}, F a b → Paired F (xs.set i a) (ys.set i b)
  | _, _, .nil, _, _, _, _ => .nil
  | _, _, .cons _ t, 0, _, _, h => .cons h t
  | _, _, .cons g t, i + 1, _, _, h => .cons g (paired_set t h)
theorem NrA.put (h : NrA H N nr) {i : Nat} {q : Addr} {l : List Int} (e : ∀ ps : List Addr, H N = some (.lst (ps.map V.ref)) → H' N = some (.lst ((ps.set i q).map V.ref))) (k : ∀ p xs, H p = some (.tup xs) → H' p = some (.tup xs)) (hq : H' q = some (.tup (l.map V.int))) : NrA H' N (nr.set i l) := by
  obtain ⟨ps, e1, pp⟩ := h
  exact ⟨_, e ps e1, paired_set (L2.Paired.mapP pp fun _ _ g => k _ _ g) hq⟩
theorem unlock_same {od : Obj} {u : HO} (s : Same H0 H2) (e : H2 d = some u) (k : ∀ b o, b ≠ N → (upd H2 d (.frz od u)) b = some o → H' b = some o) (hN : H0 N = none) : Same H0 (upd H' d u) := fun b o eb => by
  have nb := ne_of_none eb hN
  have e2 := s _ _ eb
  by_cases c : b = d
  · subst c
    rw [e] at e2
    cases e2
    exact upd_same
  · rw [upd_ne c]
    exact k b o nb ((upd_ne c).trans e2)
end
def NLe (c : Nat) (nr : Near) : Prop := ∀ l ∈ nr, l.length ≤ c
theorem addN_le {c k : Nat} {t : PTab} {nr : Near} {s : Str} (h : NLe c nr) : NLe (c + 1) (addN t k nr s) := fun l hl => by
  unfold addN at hl
  rcases List.mem_or_eq_of_mem_set hl with hl | rfl
  · exact Nat.le_succ_of_le (h l hl)
  · rw [List.length_append, List.length_singleton, List.getD_eq_getElem?_getD]
    cases e : nr[(look t s).toNat]? with
    | none => show 0 + 1 ≤ c + 1; omega
    | some y =>
      have := h y (List.mem_of_getElem? e)
      show y.length + 1 ≤ c + 1
      omega
theorem foldN_le {k : Nat} {t : PTab} : ∀ {ks : List Str} {c : Nat} {nr : Near}, NLe c nr → NLe (c + ks.length) (ks.foldl (addN t k) nr)
  | [], c, nr, h => h
  | s :: ks, c, nr, h => by
    have := foldN_le (t := t) (k := k) (ks := ks) (addN_le (t := t) (k := k) (s := s) h)
    rw [List.foldl_cons, List.length_cons, show c + (ks.length + 1) = c + 1 + ks.length from by omega]
    exact this
theorem near_le {m : Mch} (l5 : ∀ q ∈ m, q.1.length ≤ 5) : ∀ k, NLe (5 * k) (nearK m k)
  | 0 => fun l hl => by rw [List.eq_of_mem_replicate hl]; exact Nat.zero_le _
  | k + 1 => by
    have := foldN_le (t := mvs m (k : Nat)) (k := k) (ks := (mvs m (k : Nat)).map (·.1)) (near_le l5 k)
    have l : (mvs m (k : Nat)).length ≤ 5 := by
      unfold mvs
      rw [List.getD_eq_getElem?_getD]
      cases e : m[((k : Nat) : Int).toNat]? with
      | none => exact Nat.zero_le _
      | some q => exact l5 q (List.mem_of_getElem? e)
    rw [List.length_map] at this
    intro x hx
    exact Nat.le_trans (this x hx) (by omega)
theorem nle_at {c j : Nat} {nr : Near} (h : NLe c nr) : (nr.getD j []).length ≤ c := by
  rw [List.getD_eq_getElem?_getD]
  cases e : nr[j]? with
  | none => exact Nat.zero_le _
  | some y => exact h y (List.mem_of_getElem? e)
theorem lasts_succ (m : Mch) (k : Nat) : lasts m (k + 1) = lasts m k ++ if lst? m (k : Nat) = true then [(k : Int)] else [] := by
  unfold lasts
  rw [List.range_succ, List.filter_append, List.map_append]
  congr 1
  by_cases h : lst? m (k : Nat) = true
  · simp [h]
  · simp [h]
theorem bfsE_step {nr : Near} {n k : Nat} {f : List Int} {p : Int} (h : f[k]? = some p) : bfsE nr (n + 1) k f = bfsE nr n (k + 1) ((nr.getD p.toNat []).foldl addE f) := by
  conv => lhs; unfold bfsE
  simp only [h]
/-- found and queue as they grow -/
structure Bfe (H0 H1 : Hp) (D L N : Addr) (nr : Near) (f : List Int) : Prop where
  same : Same H0 H1
  d : H1 D = some (.dK (kvsE f))
  l : H1 L = some (.lst (f.map V.int))
  n : NrA H1 N nr
theorem Bfe.add {H0 H1 : Hp} {D L N : Addr} {nr : Near} {f : List Int} (B : Bfe H0 H1 D L N nr f) (fd : H0 D = none) (fl : H0 L = none) (ne : D ≠ L) (nd : N ≠ D) (nl : N ≠ L) {p : Int} : Bfe H0 (upd (upd H1 D (.dK (kvsE (f ++ [p])))) L (.lst (f.map V.int ++ [V.int p]))) D L N nr (f ++ [p]) := by
  refine ⟨Same.upN (Same.upN B.same fd) fl, (upd_ne ne).trans upd_same, by rw [List.map_append]; exact upd_same, ?_⟩
  obtain ⟨ps, a, b⟩ := B.n
  refine ⟨ps, ?_, L2.Paired.mapP b fun _ _ e => ?_⟩
  · rw [upd_ne nl, upd_ne nd]
    exact a
  · have l := B.l
    have d := B.d
    refine (upd_ne fun c => ?_).trans ((upd_ne fun c => ?_).trans e)
    · rw [c, l] at e
      cases e
    · rw [c, d] at e
      cases e
def spEndM : Sp := fun vs H Q _ => ∃ (t : Addr) (m : Mch), vs = [.ref t] ∧ MAt H t m ∧ WF m ∧ m.length ≤ 40 ∧ (∀ q ∈ m, q.1.length ≤ 5) ∧ ∀ H' d, Same H H' → H d = none → H' d = some (.dK (kvsE (endM m))) → Q (.ref d) H'
section
variable {P : Program} {w : World} {K : PySem.W.Frag} {mg : Str → Option Value} {base : Heap}
theorem scEndM : FnScope nEndM ["machine"] (defScope sEndM) := ⟨rfl, rfl, rfl, by decide +kernel, rfl, by decide +kernel, by decide +kernel⟩
theorem ok_endM {f : Addr} {fd : FuncData} (F : Fun K "_states_ahead_of_last" "_states_ahead_of_last" sEndM f fd) (B : Bn mg) (En : En mg) : FnOk P w K mg base CX0 1 f fd ["machine"] spEndM := by
  refine F.ok scEndM (fun vs H Q E h => ?_) (fun cdv A outer s H vs Q E hr h => ?_)
  · obtain ⟨t, m, rfl, _⟩ := h
    rfl
  · have hu := hu_of hr
    obtain ⟨t, m, rfl, hm, wf, lm, l5, q⟩ := h
    refine ⟨_, pss_cons (ps_setLc (i := 2) (own := [("_", 1)]) (g := gName 1) (tt := tYes) rfl scEndM.nd rfl rfl rfl (pi_tup (pv 0)) (blkOk_by (N := nEndM) (sc := defScope sEndM) (by decide +kernel))
          (fun _ _ _ _ _ => pg_name (i := 1) scEndM.nd rfl (Or.inl rfl)) (fun _ _ _ _ _ => pts_nil) (fun _ _ _ _ _ => pe_tup pa_nil))
      (pss_cons (ps_for PassesOwn.never rfl (pi_enumT (by rfl) En.en (pa_cons (pv 0) pa_nil)) (pg_tup rfl (pgs_cons (pg_name (i := 3) scEndM.nd rfl (.inl rfl)) (pgs_cons (pg_tup rfl (pgs_cons (pg_name (i := 4) scEndM.nd rfl (.inl rfl)) (pgs_cons (pg_name (i := 1) scEndM.nd rfl (.inl rfl)) pgs_nil))) pgs_nil)))
          (pss_one (ps_lock (ps_for PassesOwn.never rfl (pi_keys (pv 4)) (pg_name (i := 5) scEndM.nd rfl (.inl rfl))
            (pss_one (ps_asg (pe_op op_catB (pe_ix ix_list (pv 2) (pe_dget hu (pv 4) (pv 5) (fun _ _ => rfl)) (fun _ _ => rfl)) (pe_tup (pa_cons (pv 3) pa_nil))) (pg_sub (pv 2) (pe_dget hu (pv 4) (pv 5) (fun _ _ => rfl)) set_list)))))))
      (pss_cons (ps_setLc (i := 6) (own := [("state", 3), ("_", 1), ("last", 10)]) (g := gTup K 2 (gCons (gName 3) (gCons (gTup K 2 (gCons (gName 1) (gCons (gName 10) gNil))) gNil))) rfl scEndM.nd rfl rfl rfl (pi_enumT (by rfl) En.en (pa_cons (pv 0) pa_nil)) (blkOk_by (N := nEndM) (sc := defScope sEndM) (by decide +kernel))
          (fun _ _ _ _ _ => pg_tup rfl (pgs_cons (pg_name (i := 3) scEndM.nd rfl (Or.inl rfl)) (pgs_cons (pg_tup rfl (pgs_cons (pg_name (i := 1) scEndM.nd rfl (Or.inl rfl)) (pgs_cons (pg_name (i := 10) scEndM.nd rfl (Or.inl rfl)) pgs_nil))) pgs_nil))) (fun _ _ _ _ _ => pts_one (pt_val (pv 10))) (fun _ _ _ _ _ => pv 3))
      (pss_cons (ps_set (i := 7) scEndM.nd rfl (.inl rfl) pe_dnewK)
      (pss_cons (ps_for PassesOwn.never rfl (pi_list (pv 6)) (pg_name (i := 3) scEndM.nd rfl (.inl rfl))
          (pss_one (ps_dput hu (pv 7) (pv 3) pe_bl rfl)))
      (pss_cons (ps_set (i := 8) scEndM.nd rfl (.inl rfl) pe_int)
      (pss_cons (ps_while PassesOwn.never (pt_cmpR op_lt (pv 8) (pe_callB call_len_seq (by rfl) B.len PySem.boot_len (pa_cons (pv 6) pa_nil)) (nomark _))
        (pss_cons (ps_set (i := 9) scEndM.nd rfl (.inl rfl) (pe_ix ix_list (pv 6) (pv 8) (fun _ _ => rfl)))
        (pss_cons (ps_for PassesOwn.never rfl (pi_tup (pe_ix ix_list (pv 2) (pv 9) (fun _ _ => rfl))) (pg_name (i := 3) scEndM.nd rfl (.inl rfl))
          (pss_one (ps_if (pt_cmp (pc_dnotin hu (pv 3) (pv 7)))
            (pss_cons (ps_dput hu (pv 7) (pv 3) pe_bl rfl)
            (pss_one (ps_expr (pe_bm PySem.F.plainAttrs_list PySem.F.slot_list_append PySem.F.type_list_append mt_append (pv 6) (pa_cons (pv 3) pa_nil))))) pss_nil)))
        (pss_one (ps_aug (i := 8) scEndM.nd rfl (.inl rfl) pe_int ip_add)))))
      (pss_one (ps_ret (pv 7))))))))), ?_⟩
    have lt1 : ∀ {n : Nat}, n ≤ 4999 → n < sizeLine := fun h1 => by rw [sizeLine_eq]; omega
    have le1 : ∀ {n : Nat}, n ≤ 4999 → n ≤ sizeLine := fun h1 => Nat.le_of_lt (lt1 h1)
    obtain ⟨ss, et, pt⟩ := id hm
    have ls : ss.length = m.length := Paired.length pt
    -- near, empty
    refine ⟨_, rfl, t, rfl, ⟨_, SqT.of et⟩, fun N hN => lc_it (walk_tup (K := K) (a := t) (xs := ss.map V.ref)) (fun i H1 => Same H H1 ∧ NrA H1 N (List.replicate i [])) ⟨Same.new hN, [], upd_same, .nil⟩ (fun i H1 _ h1 => SqT.of (h1.1 _ _ et)) ?_ ?_⟩
    · rintro i x H1 H2 hi ⟨s1, ps, e1, pp⟩ ⟨rfl, hx⟩
      rw [List.length_map] at hi
      refine ⟨rfl, Nat.zero_le _, fun p hp => ?_⟩
      have np : N ≠ p := ne_of_none e1 hp
      have lp := Paired.length pp
      rw [List.length_replicate] at lp
      refine ⟨_, (upd_ne np).trans e1, lt1 (by rw [List.length_map]; omega), Same.upN (s1.trans (Same.new hp)) hN, ps ++ [p], ?_, ?_⟩
      · rw [upd_same, List.map_append]
        rfl
      · rw [List.replicate_succ']
        have k : ∀ q xs, H2 q = some (.tup xs) → (upd (upd H2 p (.tup [])) N (.lst (ps.map V.ref ++ [V.ref p]))) q = some (.tup xs) := fun q xs e => by
          rw [upd_ne (fun c => by rw [c, e1] at e; cases e), upd_ne (ne_of_none e hp)]
          exact e
        refine Paired.appendP (L2.Paired.mapP pp fun q l e => k _ _ e) (.cons ?_ .nil)
        rw [upd_ne np.symm, upd_same]
        rfl
    rintro H1 ⟨s1, n1⟩
    rw [List.length_map, ls] at n1
    -- from which state each one comes
    refine ⟨_, rfl, t, _, rfl, SqT.of (s1 _ _ et), for_it (walk_n (K := K) (k := .t) (a := t) (xs := ss.map V.ref)) (fun k σ H2 => (∃ o1 o3 o4 o5, σ = [some (.ref t), o1, some (.ref N), o3, o4, o5, none, none, none, none, none]) ∧ Same H H2 ∧ NrA H2 N (nearK m k)) ⟨⟨_, _, _, _, rfl⟩, s1, n1⟩ (fun i σ H2 _ h2 => SqT.of (h2.2.1 _ _ et)) ?_ ?_⟩
    · rintro k x σ H2 H3 hk ⟨⟨o1, o3, o4, o5, rfl⟩, s2, n2⟩ ⟨T, y, rfl, hT, rfl, hy⟩
      rw [List.length_map] at hk
      obtain ⟨⟨mv, la⟩, hq, d, g1, g2⟩ := L2.paired_get pt (List.getElem?_eq_getElem hk)
      have emv : mvs m (k : Nat) = mv := by
        unfold mvs
        rw [Int.toNat_natCast, List.getD_eq_getElem?_getD, hq]
        rfl
      have ey : V.ref ss[k] = y := by
        rw [List.getElem?_map, List.getElem?_eq_getElem hk] at hy
        exact Option.some.inj hy
      subst ey
      have nd := emv ▸ mvs_nd wf (k : Nat)
      have km : k < m.length := by omega
      have s3 := s2.trans (Same.new (o := .tup [V.int (k : Nat), V.ref ss[k]]) hT)
      have n3 := n2.keep (Same.new (o := .tup [V.int (k : Nat), V.ref ss[k]]) hT)
      have eT : (upd H2 T (.tup [V.int (k : Nat), V.ref ss[k]])) T = some (.tup [V.int (k : Nat), V.ref ss[k]]) := upd_same
      refine ⟨T, _, rfl, SqT.of eT, rfl, _, _, rfl, _, _, rfl, ?_⟩
      generalize upd H2 T (.tup [V.int (k : Nat), V.ref ss[k]]) = H3 at s3 n3 ⊢
      clear eT hT hy s2 n2 H2
      refine ⟨ss[k], _, rfl, SqT.of (s3 _ _ g1), rfl, _, _, rfl, _, _, rfl, rfl, rfl, ?_⟩
      have e3 := s3 _ _ g2
      have nN : d ≠ N := ne_of_none g2 hN
      refine ⟨d, _, e3, trivial, fun od => ⟨_, rfl, d, od, rfl, .inl ⟨kvsP mv, upd_same, ?_⟩⟩⟩
      have eD : (upd H3 d (.frz od (.dK (kvsP mv)))) d = some (.frz od (.dK (kvsP mv))) := upd_same
      have nL : NrA (upd H3 d (.frz od (.dK (kvsP mv)))) N (nearK m k) := by
        obtain ⟨ps, a, b⟩ := n3
        exact ⟨ps, (upd_ne nN.symm).trans a, L2.Paired.mapP b fun _ _ e => (upd_ne fun c => by rw [c, e3] at e; cases e).trans e⟩
      refine for_it (walk_keys (d := d) (o := od) (kvs := kvsP mv)) (fun j σ H4 => (∃ o5, σ = [some (.ref t), some (.bl la), some (.ref N), some (.int (k : Nat)), some (.ref d), o5, none, none, none, none, none]) ∧ (∀ b o, b ≠ N → (upd H3 d (.frz od (.dK (kvsP mv)))) b = some o → H4 b = some o) ∧ NrA H4 N (((mv.map (·.1)).take j).foldl (addN mv k) (nearK m k))) ⟨⟨_, rfl⟩, fun _ _ _ e => e, nL⟩ (fun j σ H4 _ h4 => h4.2.1 _ _ nN eD) ?_ ?_
      · rintro j x σ H4 H5 hj ⟨⟨o5', rfl⟩, k4, n4⟩ ⟨rfl, ky, vv, hx, rfl⟩
        have hj2 : j < mv.length := by rwa [kvsP_len] at hj
        rw [kvsP_at hj2] at hx
        cases hx
        have sm : mv[j].1 ∈ mv.map (·.1) := List.mem_map.mpr ⟨_, List.getElem_mem hj2, rfl⟩
        have rg := look_rg wf (i := (k : Nat)) (s := mv[j].1) (by rw [emv]; exact sm)
        rw [emv] at rg
        have eD4 := k4 _ _ nN eD
        have gD : ∀ {H : Hp}, H d = some (.frz od (.dK (kvsP mv))) → DGet H d (.str mv[j].1) (some (V.int (look mv mv[j].1))) := fun e => .inl ⟨kvsP mv, Sum.inr mv[j].1, .inr ⟨od, e⟩, rfl, (valP sm).symm⟩
        have tk : ((mv.map (·.1)).take (j + 1)).foldl (addN mv k) (nearK m k) = addN mv k (((mv.map (·.1)).take j).foldl (addN mv k) (nearK m k)) mv[j].1 := by
          rw [List.take_add_one, List.getElem?_map, List.getElem?_eq_getElem hj2, List.foldl_append]
          rfl
        have ok := (foldN_ok (t := mv) (k := k) (n := m.length) km (ks := (mv.map (·.1)).take j) (near_ok wf k (by omega)).1 (fun s hs => by
          have := look_rg wf (i := (k : Nat)) (s := s) (by rw [emv]; exact List.mem_of_mem_take hs)
          rwa [emv] at this)).1
        have nle := foldN_le (t := mv) (k := k) (ks := (mv.map (·.1)).take j) (near_le l5 k)
        have lmv : mv.length ≤ 5 := l5 _ (List.mem_of_getElem? hq)
        rw [List.length_take, List.length_map] at nle
        rw [tk]
        generalize ((mv.map (·.1)).take j).foldl (addN mv k) (nearK m k) = nr at n4 ok nle ⊢
        generalize mv[j].1 = sg at sm rg gD ⊢
        clear tk
        have lr : (look mv sg).toNat < nr.length := by rw [ok.1]; omega
        obtain ⟨ps, p, e1, e2, e5, lp⟩ := n4.at_ lr
        have ix : ixN (ps.map V.ref).length (look mv sg) = some (look mv sg).toNat := by
          unfold ixN
          rw [List.length_map, if_pos rg.1, if_pos (by rw [lp, ok.1]; exact rg.2)]
        have at_ : atI (ps.map V.ref) (look mv sg) = some (.ref p) := by
          unfold atI
          rw [ix]
          exact e2
        refine ⟨_, rfl, _, rfl, _, rfl, d, _, rfl, gD eD4, N, _, _, V.ref p, rfl, rfl, SqL.of e1, at_, _, rfl, le1 (show 1 ≤ 4999 by decide), fun qa hqa => ?_⟩
        have k5 := Same.new (o := .tup [V.int (k : Nat)]) hqa
        have lnr : (nr.getD (look mv sg).toNat []).length ≤ 500 := Nat.le_trans (nle_at nle) (by omega)
        refine ⟨p, qa, _, _, rfl, rfl, k5 _ _ e5, upd_same, le1 (by rw [List.length_map]; show _ + 1 ≤ 4999; omega), fun H6 r s6 e6 => ?_⟩
        have s46 := k5.trans s6
        refine ⟨_, rfl, _, rfl, _, rfl, d, _, rfl, gD (s46 _ _ eD4), N, _, _, _, rfl, rfl, s46 _ _ e1, ix, ⟨_, rfl⟩, fun b o nb e => ?_, ?_⟩
        · rw [upd_ne nb]
          exact s46 _ _ (k4 b o nb e)
        · unfold addN
          have eN6 := s46 _ _ e1
          refine n4.put (q := r) (fun ps' e' => ?_) (fun p xs e => ?_) ?_
          · have : ps = ps' := by
              have := e1.symm.trans e'
              injection this with this
              injection this with this
              exact List.map_inj_right (fun a b h => by injection h) |>.mp this
            subst this
            rw [upd_same, List.map_set]
          · rw [upd_ne fun c => by rw [c, e1] at e; cases e]
            exact s46 _ _ e
          · refine (upd_ne fun c => ?_).trans (e6.trans ?_)
            · rw [c, eN6] at e6
              cases e6
            · rw [List.map_append]
              rfl
      · rintro σ H4 ⟨⟨o5', rfl⟩, k4, n4⟩
        rw [kvsP_len, ← List.length_map (f := (·.1)), List.take_length] at n4
        refine ⟨k4 _ _ nN eD, ⟨_, _, _, _, rfl⟩, unlock_same s3 e3 k4 hN, ?_⟩
        have e : nearK m (k + 1) = (mv.map (·.1)).foldl (addN mv k) (nearK m k) := by
          show ((mvs m (k : Nat)).map (·.1)).foldl (addN (mvs m (k : Nat)) k) (nearK m k) = _
          rw [emv]
        rw [e]
        have e4 := k4 _ _ nN eD
        obtain ⟨ps, a, b⟩ := n4
        exact ⟨ps, (upd_ne nN.symm).trans a, L2.Paired.mapP b fun _ _ e => (upd_ne fun c => by rw [c, e4] at e; cases e).trans e⟩
    rintro σ H2 ⟨⟨o1, o3, o4, o5, rfl⟩, s2, n2⟩
    rw [List.length_map, ls] at n2
    -- the last ones
    refine ⟨_, rfl, t, _, rfl, SqT.of (s2 _ _ et), fun L hL => lc_it (walk_n (K := K) (k := .t) (a := t) (xs := ss.map V.ref)) (fun k H3 => Same H H3 ∧ NrA H3 N (nearK m m.length) ∧ H3 L = some (.lst ((lasts m k).map V.int))) ⟨s2.trans (Same.new hL), n2.keep (Same.new hL), upd_same⟩ (fun i H3 _ h3 => SqT.of (h3.1 _ _ et)) ?_ ?_⟩
    · rintro k x H3 H4 hk ⟨s3, n3, e3⟩ ⟨T, y, rfl, hT, rfl, hy⟩
      rw [List.length_map] at hk
      obtain ⟨⟨mv, la⟩, hq, d, g1, g2⟩ := L2.paired_get pt (List.getElem?_eq_getElem hk)
      have ey : V.ref ss[k] = y := by
        rw [List.getElem?_map, List.getElem?_eq_getElem hk] at hy
        exact Option.some.inj hy
      subst ey
      have ela : lst? m (k : Nat) = la := by
        unfold lst?
        rw [Int.toNat_natCast, List.getD_eq_getElem?_getD, hq]
        rfl
      have s4 := s3.trans (Same.new (o := .tup [V.int (k : Nat), V.ref ss[k]]) hT)
      have k4 := Same.new (o := .tup [V.int (k : Nat), V.ref ss[k]]) hT
      have eT : (upd H3 T (.tup [V.int (k : Nat), V.ref ss[k]])) T = some (.tup [V.int (k : Nat), V.ref ss[k]]) := upd_same
      refine ⟨T, _, rfl, SqT.of eT, rfl, _, _, rfl, _, _, rfl, ss[k], _, rfl, SqT.of (s4 _ _ g1), rfl, _, _, rfl, _, _, rfl, rfl, rfl, rfl, _, rfl, _, rfl, ?_⟩
      generalize upd H3 T (.tup [V.int (k : Nat), V.ref ss[k]]) = H4 at s4 k4 ⊢
      rw [lasts_succ, ela]
      cases la with
      | false =>
        refine iteF ⟨s4, n3.keep k4, ?_⟩
        rw [if_neg (by decide), List.append_nil]
        exact k4 _ _ e3
      | true =>
        have e4 := k4 _ _ e3
        have lk : (lasts m k).length ≤ 40 := by
          unfold lasts
          rw [List.length_map]
          exact Nat.le_trans (List.length_filter_le _ _) (by rw [List.length_range]; omega)
        refine iteT ⟨_, rfl, _, e4, lt1 (by rw [List.length_map]; omega), ?_, ?_, ?_⟩
        · exact Same.upN s4 ((s2.free hL))
        · obtain ⟨ps, a, b⟩ := n3.keep k4
          refine ⟨ps, (upd_ne ?_).trans a, L2.Paired.mapP b fun _ _ e => (upd_ne fun c => by rw [c, e4] at e; cases e).trans e⟩
          obtain ⟨ps2, a2, _⟩ := n2
          exact ne_of_none a2 hL
        · rw [upd_same, if_pos rfl, List.map_append]
          rfl
    rintro H3 ⟨s3, n3, e3⟩
    rw [List.length_map, ls] at e3
    have hL0 := s2.free hL
    have nNL : N ≠ L := by
      obtain ⟨ps2, a2, _⟩ := n2
      exact ne_of_none a2 hL
    have lo := lasts_ok m
    clear s2 n2 hL
    -- the ones that are found at first
    refine fun D hD => ?_
    have hD0 := s3.free hD
    have neDL : D ≠ L := (ne_of_none e3 hD).symm
    have neND : N ≠ D := by
      obtain ⟨ps2, a2, _⟩ := n3
      exact ne_of_none a2 hD
    have k4 := Same.new (o := .dK []) hD
    have B0 : Bfe H (upd H3 D (.dK [])) D L N (nearK m m.length) [] → True := fun _ => trivial
    have e4 := k4 _ _ e3
    refine ⟨_, rfl, L, rfl, ⟨_, SqL.of e4⟩, for_list (xs := (lasts m m.length).map V.int) (fun j σ H5 => (∃ o1 o3 o4 o5, σ = [some (.ref t), o1, some (.ref N), o3, o4, o5, some (.ref L), some (.ref D), none, none, none]) ∧ Same H H5 ∧ NrA H5 N (nearK m m.length) ∧ H5 L = some (.lst ((lasts m m.length).map V.int)) ∧ H5 D = some (.dK (kvsE ((lasts m m.length).take j)))) ⟨⟨_, _, _, _, rfl⟩, s3.trans k4, n3.keep k4, e4, upd_same⟩ (fun j σ H5 _ h5 => SqL.of h5.2.2.2.1) ?_ ?_⟩
    · rintro j x σ H5 hx ⟨⟨o1', o3', o4', o5', rfl⟩, s5, n5, l5', d5⟩
      have jl : j < (lasts m m.length).length := by
        have := (List.getElem?_eq_some_iff.mp hx).1
        rwa [List.length_map] at this
      rw [List.getElem?_map, List.getElem?_eq_getElem jl] at hx
      obtain rfl : V.int (lasts m m.length)[j] = x := Option.some.inj hx
      have nin := not_before lo.nd jl
      have ll := lo.len
      refine ⟨_, rfl, _, rfl, D, _, rfl, DPut.k (k := Sum.inl (lasts m m.length)[j]) d5 (lt1 (by unfold kvsE; rw [List.length_map, List.length_take]; omega)), ⟨_, _, _, _, rfl⟩, Same.upN s5 hD0, ?_, (upd_ne neDL.symm).trans l5', ?_⟩
      · obtain ⟨ps, a, b⟩ := n5
        exact ⟨ps, (upd_ne neND).trans a, L2.Paired.mapP b fun _ _ e => (upd_ne fun c => by rw [c, d5] at e; cases e).trans e⟩
      · rw [kvsE_put nin, upd_same, List.take_add_one, List.getElem?_eq_getElem jl]
        rfl
    rintro σ H5 ⟨⟨o1', o3', o4', o5', rfl⟩, s5, n5, l5', d5⟩
    rw [List.length_map, List.take_length] at d5
    have B5 : Bfe H H5 D L N (nearK m m.length) (lasts m m.length) := ⟨s5, d5, l5', n5⟩
    clear s5 n5 l5' d5 B0 e4 k4 hD e3 s3 n3
    have nk := (near_ok wf m.length (Nat.le_refl _)).1
    have nle := near_le l5 m.length
    -- and those from which they are reached
    refine while_by (fun σ H6 => ∃ (k : Nat) (f : List Int) (o1 o3 o4 o5 o9 : Option V), σ = [some (.ref t), o1, some (.ref N), o3, o4, o5, some (.ref L), some (.ref D), some (.int k), o9, none] ∧ Bfe H H6 D L N (nearK m m.length) f ∧ EOk m.length f ∧ k ≤ f.length ∧ endM m = bfsE (nearK m m.length) (m.length - k) k f)
      (fun σ _ => match σ[8]? with | some (some (V.int k)) => m.length - k.toNat | _ => 0) ?_ ?_ ?_
    · exact ⟨0, _, _, _, _, _, none, rfl, B5, lo, Nat.zero_le _, rfl⟩
    · rintro σ H6 ⟨k, f, p1, p3, p4, p5, p9, rfl, B6, ok, kl, ef⟩
      have fl := ok.len
      refine ⟨_, rfl, _, rfl, L, _, rfl, .inl (SqL.of B6.l), _, _, rfl, rfl, _, rfl, ?_⟩
      rw [List.length_map]
      by_cases hk : k < f.length
      · rw [decide_eq_true (by omega : (k : Int) < (f.length : Nat))]
        obtain ⟨h, hp⟩ : ∃ h, f[k]? = some h := ⟨_, List.getElem?_eq_getElem hk⟩
        have pr := ok.rg h (List.mem_of_getElem? hp)
        have lr : h.toNat < (nearK m m.length).length := by rw [nk.1]; omega
        obtain ⟨ps, p, e1, e2, e5, lp⟩ := B6.n.at_ lr
        have at_ : atI (ps.map V.ref) h = some (.ref p) := at_ofA (j := h.toNat) (by omega) e2
        refine iteT ⟨_, rfl, _, rfl, L, _, _, V.int h, rfl, rfl, SqL.of B6.l, atI_nat (by rw [List.getElem?_map, hp]; rfl), ?_⟩
        refine ⟨_, rfl, _, rfl, N, _, _, V.ref p, rfl, rfl, SqL.of e1, at_, p, rfl, ⟨_, SqT.of e5⟩, for_tup (xs := ((nearK m m.length).getD h.toNat []).map V.int) (fun j σ H7 => (∃ o3, σ = [some (.ref t), p1, some (.ref N), o3, p4, p5, some (.ref L), some (.ref D), some (.int k), some (.int h), none]) ∧ Bfe H H7 D L N (nearK m m.length) ((((nearK m m.length).getD h.toNat []).take j).foldl addE f) ∧ H7 p = some (.tup (((nearK m m.length).getD h.toNat []).map V.int))) ⟨⟨_, rfl⟩, B6, e5⟩ (fun j σ H7 _ h7 => SqT.of h7.2.2) ?_ ?_⟩
        · rintro j x σ H7 hx ⟨⟨o3', rfl⟩, B7, e7⟩
          have jl : j < ((nearK m m.length).getD h.toNat []).length := by
            have := (List.getElem?_eq_some_iff.mp hx).1
            rwa [List.length_map] at this
          rw [List.getElem?_map, List.getElem?_eq_getElem jl] at hx
          obtain rfl : V.int ((nearK m m.length).getD h.toNat [])[j] = x := Option.some.inj hx
          have xr := near_rg nk h.toNat _ (List.getElem_mem jl)
          have tk : (((nearK m m.length).getD h.toNat []).take (j + 1)).foldl addE f = addE ((((nearK m m.length).getD h.toNat []).take j).foldl addE f) ((nearK m m.length).getD h.toNat [])[j] := by
            rw [List.take_add_one, List.getElem?_eq_getElem jl, List.foldl_append]
            rfl
          have fo := (foldE_ok (n := m.length) (l := ((nearK m m.length).getD h.toNat []).take j) ok fun x hx => near_rg nk h.toNat x (List.mem_of_mem_take hx)).1
          rw [tk]
          generalize (((nearK m m.length).getD h.toNat []).take j).foldl addE f = f' at B7 fo ⊢
          generalize ((nearK m m.length).getD h.toNat [])[j] = z at xr ⊢
          have lf := fo.len
          refine ⟨_, rfl, _, rfl, D, _, rfl, DGet.k (k := Sum.inl z) B7.d, _, rfl, ?_⟩
          rw [kvsE_some]
          by_cases hin : z ∈ f'
          · rw [decide_eq_true hin]
            refine iteF ⟨⟨_, rfl⟩, ?_, e7⟩
            unfold addE
            rw [if_pos hin]
            exact B7
          · rw [decide_eq_false hin]
            refine iteT ⟨_, rfl, _, rfl, D, _, rfl, DPut.k (k := Sum.inl z) B7.d (lt1 (by unfold kvsE; rw [List.length_map]; omega)), ?_⟩
            rw [kvsE_put hin]
            have eL7 : (upd H7 D (.dK (kvsE (f' ++ [z])))) L = some (.lst (f'.map V.int)) := (upd_ne neDL.symm).trans B7.l
            refine ⟨_, rfl, .inl ⟨rfl, _, SqL.of eL7⟩, _, rfl, L, _, _, rfl, rfl, eL7, lt1 (by rw [List.length_map]; omega), ⟨_, rfl⟩, ?_, ?_⟩
            · unfold addE
              rw [if_neg hin]
              exact B7.add hD0 hL0 neDL neND nNL
            · have l := B7.l
              have d := B7.d
              refine (upd_ne fun c => ?_).trans ((upd_ne fun c => ?_).trans e7)
              · rw [c, l] at e7
                cases e7
              · rw [c, d] at e7
                cases e7
        · rintro σ H7 ⟨⟨o3', rfl⟩, B7, _⟩
          rw [List.length_map, List.take_length] at B7
          obtain ⟨fo, ⟨r, er⟩, _⟩ := foldE_ok (n := m.length) (l := (nearK m m.length).getD h.toNat []) ok (near_rg nk h.toNat)
          refine ⟨_, rfl, _, _, rfl, rfl, ⟨k + 1, _, p1, o3', p4, p5, some (.int h), rfl, B7, fo, by rw [er, List.length_append]; omega, ?_⟩, ?_⟩
          · rw [ef, show m.length - k = (m.length - (k + 1)) + 1 from by omega]
            exact bfsE_step hp
          · show m.length - ((k : Int) + 1).toNat < m.length - (k : Int).toNat
            omega
      · rw [decide_eq_false (by omega : ¬ (k : Int) < (f.length : Nat))]
        refine iteF ⟨_, rfl, ?_⟩
        have ek : k = f.length := by omega
        have e0 : bfsE (nearK m m.length) (m.length - k) k f = f := by
          have hn : f[k]? = none := by rw [ek]; exact List.getElem?_eq_none (Nat.le_refl _)
          cases e : m.length - k with
          | zero => rfl
          | succ n =>
            unfold bfsE
            rw [hn]
        refine q _ D B6.same hD0 ?_
        rw [ef, e0]
        exact B6.d
    · rintro σ H3 Q1 Q2 hq ⟨v1, h1, v2, h2, a1, ys, e1, e2, i1, j1, e3, e4, b, e5, h⟩
      exact ⟨v1, h1, v2, h2, a1, ys, e1, e2, i1, j1, e3, e4, b, e5, hq _ _ h⟩
end
end Mk

set_option Elab.async false
set_option linter.all false
set_option maxRecDepth 100000
set_option maxHeartbeats 4000000
/-! _lower, put_costs -/
namespace Mk
open PySem PySem.Spec L2 PyProof.Rows

abbrev sLower : Stmt := top 41
abbrev sPutC : Stmt := top 39
abbrev nPutC : List Str := ["states", "costs", "at", "found", "moves", "_", "sign", "via", "near", "to"]
theorem noI {t : ITab} {k : Nat × Nat} (h : k ∉ t.map (·.1)) : valV (kvsI t) (keyI k) = none := by
  induction t with
  | nil => rfl
  | cons a t ih =>
    have ne : ¬ keyI a.1 = keyI k := fun q => h (by rw [← keyI_inj q]; exact List.mem_cons_self)
    exact (valV_neg (by show ¬ keyI a.1 = keyI k; exact ne)).trans (ih fun m => h (List.mem_cons_of_mem _ m))
theorem dget_I (t : ITab) (k : Nat × Nat) (z : Int) : (valV (kvsI t) (keyI k)).getD (V.int z) = V.int (dget t k z) := by
  unfold dget
  by_cases m : k ∈ t.map (·.1)
  · rw [valI m, if_pos m]
    rfl
  · rw [noI m, if_neg m]
    rfl
theorem isSome_I (t : ITab) (k : Nat × Nat) : (valV (kvsI t) (keyI k)).isSome = decide (k ∈ t.map (·.1)) := by
  by_cases m : k ∈ t.map (·.1)
  · rw [valI m, decide_eq_true m]
    rfl
  · rw [noI m, decide_eq_false m]
    rfl
def spLower : Sp := fun vs H Q _ => ∃ (d t : Addr) (D : ITab) (i j : Nat) (n : Int), vs = [.ref d, .ref t, .int n] ∧ H d = some (.dT (kvsI D)) ∧ H t = some (.tup [.int i, .int j]) ∧ D.length < 1000 ∧ ∀ H', WyI H H' d (lowT D (i, j) n) → Q .non H'
/-- the costs between states, as a dict -/
def GpAt (H : Hp) (d : Addr) (n : Nat) (E : Nat → Nat → Option Int) : Prop := ∃ D : ITab, H d = some (.dT (kvsI D)) ∧ KOk n D ∧ ∀ i j, i < n → j < n → vl D (i, j) = E i j
def spPutC : Sp := fun vs H Q _ => ∃ (t ca : Addr) (m : Mch) (P : List Str) (c : Str → Str → Int), vs = [.ref t, .ref ca] ∧ MAt H t m ∧ WF m ∧ m.length ≤ 8 ∧ (∀ q ∈ m, q.1.length ≤ 5) ∧ Cst6 H ca P c ∧ ("" : Str) ∈ P ∧ (∀ q ∈ m, ∀ p ∈ q.1, p.1 ∈ P) ∧ (∀ q ∈ m, ∀ p ∈ q.1, 0 ≤ c "" p.1) ∧
  ∀ H' d, Same H H' → H d = none → GpAt H' d m.length (Eg m (c "") m.length) → Q (.ref d) H'
section
variable {P : Program} {w : World} {K : PySem.W.Frag} {mg : Str → Option Value} {base : Heap}
theorem scLower : FnScope ["table", "key", "number"] ["table", "key", "number"] (defScope sLower) := ⟨rfl, rfl, rfl, by decide +kernel, rfl, by decide +kernel, by decide +kernel⟩
theorem ok_lower {f : Addr} {fd : FuncData} (F : Fun K "_lower" "_lower" sLower f fd) (B : Bn mg) : FnOk P w K mg base CX0 1 f fd ["table", "key", "number"] spLower := by
  refine F.ok scLower (fun vs H Q E h => ?_) (fun cdv A outer s H vs Q E hr h => ?_)
  · obtain ⟨d, t, D, i, j, n, rfl, _⟩ := h
    rfl
  · have hu := hu_of hr
    obtain ⟨d, t, D, i, j, n, rfl, hd, ht, ln, q⟩ := h
    refine ⟨_, pss_one (ps_dput hu (pv 0) (pv 1) (pe_callB (call_min2 rfl) (by rfl) B.min (by decide +kernel) (pa_cons (pv 2) (pa_cons (pe_dget2 hu (pv 0) (pv 1) (pv 2) ⟨rfl, rfl, rfl, rfl⟩) pa_nil))) rfl), ?_⟩
    refine ⟨_, rfl, _, rfl, d, rfl, .inr ⟨_, .inl hd⟩, _, rfl, _, rfl, _, .inr ⟨kvsI D, keyI (i, j), t, .inl hd, rfl, ht, rfl⟩, ?_⟩
    rw [dget_I]
    refine ⟨_, _, rfl, ?_⟩
    rw [min_if]
    refine ⟨_, rfl, _, rfl, d, _, rfl, .inr ⟨kvsI D, keyI (i, j), t, hd, rfl, ht, ?_, rfl⟩, ?_⟩
    · rw [kvsI_len]
      exact Nat.lt_of_lt_of_le ln (by decide)
    · refine q _ ⟨fun b o nb e => (upd_ne nb).trans e, ?_⟩
      rw [upd_same, putI_set]
      rfl
theorem WyI.same0 {H H1 H2 : Hp} {d : Addr} {D : ITab} (W : WyI H1 H2 d D) (s : Same H H1) (n : H d = none) : Same H H2 := fun b o e => W.same b o (ne_of_none e n) (s b o e)
theorem walk_rg {n : Nat} : Walk (Itr 0 n) n (fun _ => True) (fun i H v H' => v = V.int (i : Nat) ∧ H' = H) := ⟨fun _ _ hi _ => hi, fun _ _ => Nat.le_refl _, fun i H v H' _ _ y => by
  obtain ⟨e, h⟩ := y
  first
    | exact ⟨by rw [h, Int.zero_add], e⟩
    | exact ⟨by rw [e, Int.zero_add], h⟩⟩
theorem scPutC : FnScope nPutC ["states", "costs"] (defScope sPutC) := ⟨rfl, rfl, rfl, by decide +kernel, rfl, by decide +kernel, by decide +kernel⟩
theorem ok_putC {f : Addr} {fd : FuncData} (F : Fun K "put_costs" "put_costs" sPutC f fd) (B : Bn mg) (En : En mg) (J : Cd P w K mg base 1 "_lower" ["table", "key", "number"] spLower) : FnOk P w K mg base CX0 2 f fd ["states", "costs"] spPutC := by
  obtain ⟨a1, d1, G1, m1, k1, b1⟩ := J.ex
  refine F.ok scPutC (fun vs H Q E h => ?_) (fun cdv A outer s H vs Q E hr h => ?_)
  · obtain ⟨t, ca, m, Pl, c, rfl, _⟩ := h
    rfl
  · have hu := hu_of hr
    have hu3 : A.units + 3 + 20 < cLine := by
      have h2 : A.units + 3 + 16 * 1 + 200 < cLine := hr.un
      omega
    obtain ⟨t, ca, m, Pl, c, rfl, hm, wf, lm, l5, hca, emP, mvP, mv0, q⟩ := h
    refine ⟨_, pss_cons (ps_setDcG putT_ok (i := 3) (own := [("at", 2)]) (g := gName 2) (tt := tYes) rfl scPutC.nd hu3 rfl rfl (by rfl) (pi_range1 (by rfl) B.range (pa_cons (pe_callB call_len_seq (by rfl) B.len PySem.boot_len (pa_cons (pv 0) pa_nil)) pa_nil)) (blkOk_by (N := nPutC) (sc := defScope sPutC) (by decide +kernel))
          (fun _ _ _ _ _ => pg_name (i := 2) scPutC.nd rfl (Or.inl rfl)) (fun _ _ _ _ _ => pts_nil) (fun _ _ _ _ _ => pe_tup (pa_cons (pv 2) (pa_cons (pv 2) pa_nil))) (fun _ _ _ _ _ => pe_int))
      (pss_cons (ps_for PassesOwn.never rfl (pi_enumT (by rfl) En.en (pa_cons (pv 0) pa_nil)) (pg_tup rfl (pgs_cons (pg_name (i := 2) scPutC.nd rfl (.inl rfl)) (pgs_cons (pg_tup rfl (pgs_cons (pg_name (i := 4) scPutC.nd rfl (.inl rfl)) (pgs_cons (pg_name (i := 5) scPutC.nd rfl (.inl rfl)) pgs_nil))) pgs_nil)))
          (pss_one (ps_lock (ps_for PassesOwn.never rfl (pi_keys (pv 4)) (pg_name (i := 6) scPutC.nd rfl (.inl rfl))
            (pss_one (ps_expr (pe_call G1 hr (by rfl) m1 k1 b1 .nil pass0 (pa_cons (pv 3) (pa_cons (pe_tup (pa_cons (pv 2) (pa_cons (pe_dget hu (pv 4) (pv 6) (fun _ _ => rfl)) pa_nil))) (pa_cons (pe_dget hu (pv 1) (pe_tup (pa_cons pe_str (pa_cons (pv 6) pa_nil))) (fun _ _ => rfl)) pa_nil))))))))))
      (pss_cons (ps_for PassesOwn.never rfl (pi_range1 (by rfl) B.range (pa_cons (pe_callB call_len_seq (by rfl) B.len PySem.boot_len (pa_cons (pv 0) pa_nil)) pa_nil)) (pg_name (i := 7) scPutC.nd rfl (.inl rfl))
        (pss_one (ps_for PassesOwn.never rfl (pi_range1 (by rfl) B.range (pa_cons (pe_callB call_len_seq (by rfl) B.len PySem.boot_len (pa_cons (pv 0) pa_nil)) pa_nil)) (pg_name (i := 8) scPutC.nd rfl (.inl rfl))
          (pss_one (ps_for PassesOwn.never rfl (pi_range1 (by rfl) B.range (pa_cons (pe_callB call_len_seq (by rfl) B.len PySem.boot_len (pa_cons (pv 0) pa_nil)) pa_nil)) (pg_name (i := 9) scPutC.nd rfl (.inl rfl))
            (pss_one (ps_if (PW.pt (pw_and (pt_cmp (pc_din hu (pe_tup (pa_cons (pv 8) (pa_cons (pv 7) pa_nil))) (pv 3))) (pw_and1 (pt_cmp (pc_din hu (pe_tup (pa_cons (pv 7) (pa_cons (pv 9) pa_nil))) (pv 3))))))
              (pss_one (ps_expr (pe_call G1 hr (by rfl) m1 k1 b1 .nil pass0 (pa_cons (pv 3) (pa_cons (pe_tup (pa_cons (pv 8) (pa_cons (pv 9) pa_nil))) (pa_cons (pe_op op_add (pe_dget hu (pv 3) (pe_tup (pa_cons (pv 8) (pa_cons (pv 7) pa_nil))) (fun _ _ => rfl)) (pe_dget hu (pv 3) (pe_tup (pa_cons (pv 7) (pa_cons (pv 9) pa_nil))) (fun _ _ => rfl))) pa_nil)))))) pss_nil)))))))
      (pss_one (ps_ret (pv 3))))), ?_⟩
    have n2 : 2 ≤ sizeLine := by decide
    obtain ⟨ss, et, pt⟩ := id hm
    have ls : ss.length = m.length := Paired.length pt
    have h62 : ∀ {n : Nat}, n ≤ 8 → -(2 ^ 62) ≤ ((n : Nat) : Int) ∧ ((n : Nat) : Int) < 2 ^ 62 := fun h => by omega
    -- found
    refine ⟨_, rfl, t, _, rfl, .inr (SqT.of et), _, rfl, ?_⟩
    rw [List.length_map, ls]
    obtain ⟨b1, b2⟩ := h62 lm
    refine ⟨b1, b2, fun fd hfd => wk_any (walk_rg (n := m.length)) (fun i H1 => Same H H1 ∧ H1 fd = some (.dT (kvsI ((pc0 m.length).take i)))) ⟨Same.new hfd, upd_same⟩ (fun _ _ _ _ => trivial) ?_ ?_⟩
    · rintro i x H1 H2 hi ⟨s1, e1⟩ ⟨rfl, rfl⟩
      have lp : (pc0 m.length).length = m.length := by unfold pc0; rw [List.length_map, List.length_range]
      have gi : (pc0 m.length)[i]? = some ((i, i), 0) := by
        unfold pc0
        rw [List.getElem?_map, List.getElem?_range hi]
        rfl
      have nin : (i, i) ∉ ((pc0 m.length).take i).map (·.1) := by
        rw [List.map_take, pc0_keys]
        intro hm
        rw [← List.map_take, List.take_range] at hm
        obtain ⟨j, hj, e⟩ := List.mem_map.mp hm
        have := List.mem_range.mp hj
        have := (Prod.mk.inj e).1
        omega
      refine ⟨rfl, _, rfl, _, rfl, n2, fun q1 hq1 => ⟨_, keyI (i, i), q1, rfl, upd_same, (Same.new hq1) _ _ e1, ?_, ?_, ?_⟩⟩
      · rw [kvsI_len, List.length_take]
        exact Nat.lt_of_lt_of_le (by omega : min i (pc0 m.length).length < 4000) (by decide)
      · exact Same.upN (s1.trans (Same.new hq1)) hfd
      · rw [upd_same, putI_set, List.take_add_one, gi]
        unfold setT
        rw [if_neg nin]
        rfl
    rintro H1 ⟨s1, e1⟩
    have lp : (pc0 m.length).length = m.length := by unfold pc0; rw [List.length_map, List.length_range]
    rw [List.take_of_length_le (Nat.le_of_eq lp)] at e1
    -- each move
    refine ⟨_, rfl, t, _, rfl, SqT.of (s1 _ _ et), for_it (walk_n (K := K) (k := .t) (a := t) (xs := ss.map V.ref)) (fun k σ H2 => (∃ o2 o4 o5 o6, σ = [some (.ref t), some (.ref ca), o2, some (.ref fd), o4, o5, o6, none, none, none]) ∧ Same H H2 ∧ H2 fd = some (.dT (kvsI ((List.range k).foldl (pcE m (c "")) (pc0 m.length))))) ⟨⟨_, _, _, _, rfl⟩, s1, e1⟩ (fun i σ H2 _ h2 => SqT.of (h2.2.1 _ _ et)) ?_ ?_⟩
    · rintro k x σ H2 H3 hk ⟨⟨o2, o4, o5, o6, rfl⟩, s2, e2⟩ ⟨T, y, rfl, hT, rfl, hy⟩
      rw [List.length_map] at hk
      obtain ⟨⟨mv, la⟩, hq, d, g1, g2⟩ := L2.paired_get pt (List.getElem?_eq_getElem hk)
      have emv : mvs m (k : Nat) = mv := by
        unfold mvs
        rw [Int.toNat_natCast, List.getD_eq_getElem?_getD, hq]
        rfl
      have ey : V.ref ss[k] = y := by
        rw [List.getElem?_map, List.getElem?_eq_getElem hk] at hy
        exact Option.some.inj hy
      subst ey
      have km : k < m.length := by omega
      have okD : KOk m.length ((List.range k).foldl (pcE m (c "")) (pc0 m.length)) := range_ind (f := pcE m (c "")) (n := k) (b := pc0 m.length) (fun _ D => KOk m.length D) (pc0_ok _) fun i hi D h => pcS_ok (by omega) _ _ (mvs_to wf) h
      have nxk : (List.range (k + 1)).foldl (pcE m (c "")) (pc0 m.length) = (mv.map (·.1)).foldl (pcS mv (c "") k) ((List.range k).foldl (pcE m (c "")) (pc0 m.length)) := by
        rw [List.range_succ, List.foldl_append, List.foldl_cons, List.foldl_nil]
        show ((mvs m (k : Nat)).map (·.1)).foldl (pcS (mvs m (k : Nat)) (c "") k) _ = _
        rw [emv]
      rw [nxk]
      generalize (List.range k).foldl (pcE m (c "")) (pc0 m.length) = D0 at e2 okD ⊢
      have s3 := s2.trans (Same.new (o := .tup [V.int (k : Nat), V.ref ss[k]]) hT)
      have e3 := (Same.new (o := .tup [V.int (k : Nat), V.ref ss[k]]) hT) _ _ e2
      have eT : (upd H2 T (.tup [V.int (k : Nat), V.ref ss[k]])) T = some (.tup [V.int (k : Nat), V.ref ss[k]]) := upd_same
      refine ⟨T, _, rfl, SqT.of eT, rfl, _, _, rfl, _, _, rfl, ?_⟩
      generalize upd H2 T (.tup [V.int (k : Nat), V.ref ss[k]]) = H3 at s3 e3 ⊢
      clear eT hT hy s2 e2 H2
      refine ⟨ss[k], _, rfl, SqT.of (s3 _ _ g1), rfl, _, _, rfl, _, _, rfl, rfl, rfl, ?_⟩
      have ed := s3 _ _ g2
      have nN : d ≠ fd := ne_of_none g2 hfd
      refine ⟨d, _, ed, trivial, fun od => ⟨_, rfl, d, od, rfl, .inl ⟨kvsP mv, upd_same, ?_⟩⟩⟩
      have eD : (upd H3 d (.frz od (.dK (kvsP mv)))) d = some (.frz od (.dK (kvsP mv))) := upd_same
      have eF : (upd H3 d (.frz od (.dK (kvsP mv)))) fd = some (.dT (kvsI D0)) := (upd_ne nN.symm).trans e3
      have hcaF : Cst6 (upd H3 d (.frz od (.dK (kvsP mv)))) ca Pl c := hca.keep fun o e => (upd_ne (fun h => by
        obtain ⟨Dl, h1, _⟩ := hca
        rw [h, g2] at h1
        cases h1)).trans (s3 _ _ e)
      have caF : ca ≠ fd := fun h => by
        obtain ⟨Dl, h1, _⟩ := hca
        rw [h, hfd] at h1
        cases h1
      have rgk : ∀ s ∈ mv.map (·.1), 0 ≤ look mv s ∧ look mv s < m.length := fun s hs => by
        have := look_rg wf (i := (k : Nat)) (s := s) (by rw [emv]; exact hs)
        rwa [emv] at this
      refine for_it (walk_keys (d := d) (o := od) (kvs := kvsP mv)) (fun j σ H4 => (∃ o6, σ = [some (.ref t), some (.ref ca), some (.int (k : Nat)), some (.ref fd), some (.ref d), some (.bl la), o6, none, none, none]) ∧ WyI (upd H3 d (.frz od (.dK (kvsP mv)))) H4 fd (((mv.map (·.1)).take j).foldl (pcS mv (c "") k) D0)) ⟨⟨_, rfl⟩, fun _ _ _ e => e, eF⟩ (fun j σ H4 _ h4 => h4.2.same _ _ nN eD) ?_ ?_
      · rintro j x σ H4 H5 hj ⟨⟨o6', rfl⟩, W⟩ ⟨rfl, ky, vv, hx, rfl⟩
        have hj2 : j < mv.length := by rwa [kvsP_len] at hj
        rw [kvsP_at hj2] at hx
        cases hx
        have sm : mv[j].1 ∈ mv.map (·.1) := List.mem_map.mpr ⟨_, List.getElem_mem hj2, rfl⟩
        have rg := rgk _ sm
        have mP : mv[j].1 ∈ Pl := mvP _ (List.mem_of_getElem? hq) _ (List.getElem_mem hj2)
        have tk : ((mv.map (·.1)).take (j + 1)).foldl (pcS mv (c "") k) D0 = pcS mv (c "") k (((mv.map (·.1)).take j).foldl (pcS mv (c "") k) D0) mv[j].1 := by
          rw [List.take_add_one, List.getElem?_map, List.getElem?_eq_getElem hj2, List.foldl_append]
          rfl
        have ok : KOk m.length (((mv.map (·.1)).take j).foldl (pcS mv (c "") k) D0) := pcS_ok km _ _ (fun s hs => rgk s (List.mem_of_mem_take hs)) okD
        rw [tk]
        generalize ((mv.map (·.1)).take j).foldl (pcS mv (c "") k) D0 = D1 at W ok ⊢
        generalize mv[j].1 = sg at sm rg mP ⊢
        clear tk
        have gD : ∀ {H : Hp}, H d = some (.frz od (.dK (kvsP mv))) → DGet H d (.str sg) (some (V.int (look mv sg))) := fun e => .inl ⟨kvsP mv, Sum.inr sg, .inr ⟨od, e⟩, rfl, (valP sm).symm⟩
        refine ⟨_, rfl, _, rfl, _, rfl, _, rfl, d, _, rfl, gD (W.same _ _ nN eD), n2, fun q1 hq1 => ?_⟩
        have W1 := W.new (o := .tup [V.int (k : Nat), V.int (look mv sg)]) hq1
        have eq1 : (upd H5 q1 (.tup [V.int (k : Nat), V.int (look mv sg)])) q1 = some (.tup [V.int (k : Nat), V.int (look mv sg)]) := upd_same
        generalize upd H5 q1 (.tup [V.int (k : Nat), V.int (look mv sg)]) = H6 at W1 eq1 ⊢
        refine ⟨_, rfl, _, rfl, n2, fun q2 hq2 => ?_⟩
        have hcaH : Cst6 H6 ca Pl c := hcaF.keep fun o e => W1.same _ _ caF e
        refine ⟨ca, _, rfl, hcaH.get hq2 emP mP, ?_⟩
        have W2 := W1.new (o := .tup [V.str "", kV (Sum.inr sg)]) hq2
        have eq2 : (upd H6 q2 (.tup [V.str "", kV (Sum.inr sg)])) q1 = some (.tup [V.int (k : Nat), V.int (look mv sg)]) := (upd_ne (ne_of_none eq1 hq2)).trans eq1
        generalize upd H6 q2 (.tup [V.str "", kV (Sum.inr sg)]) = H7 at W2 eq2 ⊢
        have elk : ((look mv sg).toNat : Int) = look mv sg := Int.toNat_of_nonneg rg.1
        rw [← elk] at eq2
        refine ⟨fd, q1, D1, k, (look mv sg).toNat, c "" sg, rfl, W2.out, eq2, ok.lt lm, fun H8 W8 => ?_⟩
        refine ⟨⟨_, rfl⟩, fun b o nb e => W8.same _ _ nb (W2.same _ _ nb e), W8.out⟩
      · rintro σ H4 ⟨⟨o6', rfl⟩, W⟩
        rw [kvsP_len, ← List.length_map (f := (·.1)), List.take_length] at W
        refine ⟨W.same _ _ nN eD, ⟨_, _, _, _, rfl⟩, unlock_same s3 ed W.same hfd, ?_⟩
        exact (upd_ne nN.symm).trans W.out
    rintro σ H2 ⟨⟨o2, o4, o5, o6, rfl⟩, s2, e2⟩
    rw [List.length_map, ls] at e2
    have okD : KOk m.length (pc1 m (c "")) := pc1_ok wf
    have e2 : H2 fd = some (.dT (kvsI (pc1 m (c "")))) := e2
    have okG : KOk m.length ((List.range m.length).foldl (pcV m.length) (pc1 m (c ""))) ∧ ∀ i j, i < m.length → j < m.length → vl ((List.range m.length).foldl (pcV m.length) (pc1 m (c ""))) (i, j) = Eg m (c "") m.length i j := ⟨gaps_ok wf, gaps_vl mv0⟩
    generalize pc1 m (c "") = D0 at e2 okD okG ⊢
    -- through each state
    refine ⟨_, rfl, t, _, rfl, .inr (SqT.of (s2 _ _ et)), _, rfl, ?_⟩
    rw [List.length_map, ls]
    refine ⟨b1, b2, for_it (walk_rg (n := m.length)) (fun v σ H3 => (∃ o7 o8 o9, σ = [some (.ref t), some (.ref ca), o2, some (.ref fd), o4, o5, o6, o7, o8, o9]) ∧ WyI H2 H3 fd ((List.range v).foldl (pcV m.length) D0)) ⟨⟨_, _, _, rfl⟩, fun _ _ _ e => e, e2⟩ (fun _ _ _ _ _ => trivial) ?_ ?_⟩
    · rintro v x σ H3 H4 hv ⟨⟨o7, o8, o9, rfl⟩, W⟩ ⟨rfl, rfl⟩
      have ok1 : KOk m.length ((List.range v).foldl (pcV m.length) D0) := range_ind (f := pcV m.length) (n := v) (b := D0) (fun _ D => KOk m.length D) okD fun i hi D h => pcV_ok h
      have nx : (List.range (v + 1)).foldl (pcV m.length) D0 = pcV m.length ((List.range v).foldl (pcV m.length) D0) v := by
        rw [List.range_succ, List.foldl_append]
        rfl
      rw [nx]
      generalize (List.range v).foldl (pcV m.length) D0 = D1 at W ok1 ⊢
      clear nx
      refine ⟨_, rfl, t, _, rfl, .inr (SqT.of (W.same _ _ (ne_of_none et hfd) (s2 _ _ et))), _, rfl, ?_⟩
      rw [List.length_map, ls]
      refine ⟨b1, b2, for_it (walk_rg (n := m.length)) (fun i σ H3 => (∃ o8 o9, σ = [some (.ref t), some (.ref ca), o2, some (.ref fd), o4, o5, o6, some (.int (v : Nat)), o8, o9]) ∧ WyI H2 H3 fd ((List.range i).foldl (pcI m.length v) D1)) ⟨⟨_, _, rfl⟩, W⟩ (fun _ _ _ _ _ => trivial) ?_ ?_⟩
      · rintro i x σ H5 H6 hi ⟨⟨o8', o9', rfl⟩, W⟩ ⟨rfl, rfl⟩
        have ok2 : KOk m.length ((List.range i).foldl (pcI m.length v) D1) := range_ind (f := pcI m.length v) (n := i) (b := D1) (fun _ D => KOk m.length D) ok1 fun i' hi' D h => pcI_ok (by omega) h
        have nx : (List.range (i + 1)).foldl (pcI m.length v) D1 = pcI m.length v ((List.range i).foldl (pcI m.length v) D1) i := by
          rw [List.range_succ, List.foldl_append]
          rfl
        rw [nx]
        generalize (List.range i).foldl (pcI m.length v) D1 = D2 at W ok2 ⊢
        clear nx
        refine ⟨_, rfl, t, _, rfl, .inr (SqT.of (W.same _ _ (ne_of_none et hfd) (s2 _ _ et))), _, rfl, ?_⟩
        rw [List.length_map, ls]
        refine ⟨b1, b2, for_it (walk_rg (n := m.length)) (fun j σ H3 => (∃ o9, σ = [some (.ref t), some (.ref ca), o2, some (.ref fd), o4, o5, o6, some (.int (v : Nat)), some (.int (i : Nat)), o9]) ∧ WyI H2 H3 fd ((List.range j).foldl (rlx v i) D2)) ⟨⟨_, rfl⟩, W⟩ (fun _ _ _ _ _ => trivial) ?_ ?_⟩
        · rintro j x σ H7 H8 hj ⟨⟨o9'', rfl⟩, W⟩ ⟨rfl, rfl⟩
          have ok3 : KOk m.length ((List.range j).foldl (rlx v i) D2) := range_ind (f := rlx v i) (n := j) (b := D2) (fun _ D => KOk m.length D) ok2 fun j' hj' D h => rlx_ok hi (by omega) h
          have nx : (List.range (j + 1)).foldl (rlx v i) D2 = rlx v i ((List.range j).foldl (rlx v i) D2) j := by
            rw [List.range_succ, List.foldl_append]
            rfl
          rw [nx]
          generalize (List.range j).foldl (rlx v i) D2 = D3 at W ok3 ⊢
          clear nx
          have inI : ∀ {H : Hp} {q : Addr} {a b : Nat}, WyI H2 H fd D3 → H q = some (.tup [.int a, .int b]) → DGet H fd (.ref q) (valV (kvsI D3) (keyI (a, b))) := fun W e => .inr ⟨kvsI D3, keyI (_, _), _, .inl W.out, rfl, e, rfl⟩
          refine ⟨_, rfl, _, rfl, n2, fun q1 hq1 => ⟨_, rfl, fd, _, rfl, inI (W.new hq1) upd_same, _, rfl, ?_⟩⟩
          rw [isSome_I]
          have W1 := W.new (o := .tup [V.int (i : Nat), V.int (v : Nat)]) hq1
          generalize upd H8 q1 (.tup [V.int (i : Nat), V.int (v : Nat)]) = H9 at W1 ⊢
          by_cases c1 : (i, v) ∈ D3.map (·.1)
          · rw [decide_eq_true c1]
            refine iteT ⟨_, rfl, _, rfl, n2, fun q2 hq2 => ⟨_, rfl, fd, _, rfl, inI (W1.new hq2) upd_same, _, rfl, ?_⟩⟩
            rw [isSome_I]
            have W2 := W1.new (o := .tup [V.int (v : Nat), V.int (j : Nat)]) hq2
            generalize upd H9 q2 (.tup [V.int (v : Nat), V.int (j : Nat)]) = H10 at W2 ⊢
            by_cases c2 : (v, j) ∈ D3.map (·.1)
            · rw [decide_eq_true c2]
              refine iteT ?_
              refine ⟨_, rfl, _, rfl, _, rfl, n2, fun q3 hq3 => ?_⟩
              have W3 := W2.new (o := .tup [V.int (i : Nat), V.int (j : Nat)]) hq3
              have e3 : (upd H10 q3 (.tup [V.int (i : Nat), V.int (j : Nat)])) q3 = some (.tup [V.int (i : Nat), V.int (j : Nat)]) := upd_same
              generalize upd H10 q3 (.tup [V.int (i : Nat), V.int (j : Nat)]) = H11 at W3 e3 ⊢
              refine ⟨_, rfl, _, rfl, _, rfl, n2, fun q4 hq4 => ⟨fd, _, rfl, W3.get hq4 c1, ?_⟩⟩
              have W4 := W3.new (o := .tup [V.int (i : Nat), V.int (v : Nat)]) hq4
              have e4 := (Same.new (o := .tup [V.int (i : Nat), V.int (v : Nat)]) hq4) _ _ e3
              generalize upd H11 q4 (.tup [V.int (i : Nat), V.int (v : Nat)]) = H12 at W4 e4 ⊢
              refine ⟨_, rfl, _, rfl, _, rfl, n2, fun q5 hq5 => ⟨fd, _, rfl, W4.get hq5 c2, _, _, rfl, rfl, ?_⟩⟩
              have W5 := W4.new (o := .tup [V.int (v : Nat), V.int (j : Nat)]) hq5
              have e5 := (Same.new (o := .tup [V.int (v : Nat), V.int (j : Nat)]) hq5) _ _ e4
              generalize upd H12 q5 (.tup [V.int (v : Nat), V.int (j : Nat)]) = H13 at W5 e5 ⊢
              refine ⟨fd, q3, D3, i, j, _, rfl, W5.out, e5, ok3.lt lm, fun H14 W6 => ⟨⟨_, rfl⟩, fun b o nb e => W6.same _ _ nb (W5.same _ _ nb e), ?_⟩⟩
              unfold rlx
              rw [if_pos ⟨c1, c2⟩]
              exact W6.out
            · rw [decide_eq_false c2]
              refine iteF ⟨⟨_, rfl⟩, ?_⟩
              unfold rlx
              rw [if_neg fun h => c2 h.2]
              exact W2
          · rw [decide_eq_false c1]
            refine iteF (iteF ⟨⟨_, rfl⟩, ?_⟩)
            unfold rlx
            rw [if_neg fun h => c1 h.1]
            exact W1
        · rintro σ H7 ⟨⟨o9', rfl⟩, W⟩
          exact ⟨⟨_, _, rfl⟩, W⟩
      · rintro σ H5 ⟨⟨o8', o9', rfl⟩, W⟩
        exact ⟨⟨_, _, _, rfl⟩, W⟩
    rintro σ H3 ⟨⟨o7, o8, o9, rfl⟩, W⟩
    refine ⟨_, rfl, q _ fd (W.same0 s2 hfd) hfd ⟨_, W.out, okG⟩⟩
end
end Mk

set_option Elab.async false
set_option linter.all false
set_option maxRecDepth 100000
set_option maxHeartbeats 4000000
/-! useful_states, copied -/
namespace Mk
open PySem PySem.Spec L2 PyProof.Rows

/-- a dict that comes new, held from now on -/
def tLockN (td : TE) : TE := fun σ H Q => td σ H fun x H1 => ∃ (d : Addr) (u : HO), x = .ref d ∧ H1 d = some u ∧ Mut (some u) ∧ ∀ od, Q x (upd H1 d (.frz od u))
theorem pe_lockN {X : Cx} {e : Expr} {td : TE} (he : PE X e td) : PE X e (tLockN td) := ⟨fun pins s σ H Q I h => thn (he.run pins s σ H _ I h) fun v s1 ⟨x, H1, I1, rx, d, u, ex, hd, mu, q⟩ => by
  obtain ⟨od, I2⟩ := I1.lock hd mu
  exact ⟨x, _, I2, rx, q od⟩⟩
abbrev sUsef : Stmt := top 51
abbrev nUsef : List Str := ["machine", "ending", "state"]
def spUsef : Sp := fun vs H Q _ => ∃ (t : Addr) (m : Mch), vs = [.ref t] ∧ MAt H t m ∧ WF m ∧ m.length ≤ 40 ∧ 1 ≤ m.length ∧ (∀ q ∈ m, q.1.length ≤ 5) ∧ ∀ H' L, Same H H' → H L = none → H' L = some (.lst ((useful m).map V.int)) → Q (.ref L) H'
abbrev sCopd : Stmt := top 48
abbrev nCopd : List Str := ["machine", "moves", "last", "sign"]
def scCp : Scope := { kind := .function, names := [(".0", .local), ("moves", .cell), ("last", .local), ("sorted", .globalImplicit)], isGenerator := false, isCoroutine := false }
def srtP (t : PTab) : PTab := put t (keysM t)
def srtM (m : Mch) : Mch := m.map fun q => (srtP q.1, q.2)
def spCopd : Sp := fun vs H Q _ => ∃ (t : Addr) (m : Mch), vs = [.ref t] ∧ MAt H t m ∧ WF m ∧ m.length ≤ 40 ∧ (∀ q ∈ m, q.1.length ≤ 5) ∧ ∀ H' r, Same H H' → H r = none → MAt H' r (srtM m) → Q (.ref r) H'
section
variable {P : Program} {w : World} {K : PySem.W.Frag} {mg : Str → Option Value} {base : Heap}
theorem scUsef : FnScope nUsef ["machine"] (defScope sUsef) := ⟨rfl, rfl, rfl, by decide +kernel, rfl, by decide +kernel, by decide +kernel⟩
theorem ok_usef {f fw : Addr} {fd fdw : FuncData} (F : Fun K "useful_states" "useful_states" sUsef f fd) (J : Cd P w K mg base 1 "_states_ahead_of_last" ["machine"] spEndM) (G2 : FnOk P w K mg base CX0 1 fw fdw ["machine", "start"] spFirstW) (m2 : mg "first_words" = some (.ref fw)) (k2 : PySem.W.keepIn K (.ref fw) = true) {ds : List Value} (b2 : Binds K fdw ["machine", "start"] ds) (v2 : Vals [.int 0] ds) :
    FnOk P w K mg base CX0 2 f fd ["machine"] spUsef := by
  obtain ⟨a1, d1, G1, m1, k1, b1⟩ := J.ex
  refine F.ok scUsef (fun vs H Q E h => ?_) (fun cdv A outer s H vs Q E hr h => ?_)
  · obtain ⟨t, m, rfl, _⟩ := h
    rfl
  · have hu := hu_of hr
    obtain ⟨t, m, rfl, hm, wf, lm, l1, l5, q⟩ := h
    refine ⟨_, pss_cons (ps_set (i := 1) scUsef.nd rfl (.inr rfl) (pe_call G1 hr (by rfl) m1 k1 b1 .nil pass0 (pa_cons (pv 0) pa_nil)))
      (pss_one (ps_ret (pe_lc (own := [("state", 2)]) (g := gName 2) rfl scUsef.nd (pi_keys (pe_lockN (pe_call G2 hr (by rfl) m2 k2 b2 v2 pass0 (pa_cons (pv 0) pa_nil)))) (blkOk_by (N := nUsef) (sc := defScope sUsef) (by decide +kernel))
          (fun _ _ _ _ _ => pg_name (i := 2) scUsef.nd rfl (Or.inl rfl)) (fun _ _ _ _ _ => pts_one (pt_cmp (pc_din hu (pv 2) (pv 1)))) (fun _ _ _ _ _ => pv 2)))), ?_⟩
    have lt1 : ∀ {n : Nat}, n ≤ 4999 → n < sizeLine := fun h1 => by rw [sizeLine_eq]; omega
    have h0 : (0 : Int) ≤ 0 ∧ (0 : Int) < m.length := ⟨by omega, by omega⟩
    refine ⟨_, rfl, t, m, rfl, hm, wf, lm, l5, fun H1 D s1 fD eD => ?_⟩
    refine ⟨_, rfl, t, m, 0, rfl, hm.keep s1, wf, lm, l5, h0, fun H2 W s2 fW eW => ⟨W, _, rfl, eW, trivial, fun od => ⟨W, od, rfl, .inl ⟨kvsF (firstW m 0), upd_same, fun L hL => ?_⟩⟩⟩⟩
    have nDW : D ≠ W := ne_of_none eD fW
    have s12 := s1.trans s2
    have sW : Same H (upd H2 W (.frz od (.dK (kvsF (firstW m 0))))) := Same.upN s12 (s1.free fW)
    have eD2 : (upd H2 W (.frz od (.dK (kvsF (firstW m 0))))) D = some (.dK (kvsE (endM m))) := (upd_ne nDW).trans (s2 _ _ eD)
    have eW2 : (upd H2 W (.frz od (.dK (kvsF (firstW m 0))))) W = some (.frz od (.dK (kvsF (firstW m 0)))) := upd_same
    generalize upd H2 W (.frz od (.dK (kvsF (firstW m 0)))) = H3 at sW eD2 eW2 hL ⊢
    have lf := (first_ok wf h0).1.len
    refine lc_it (walk_keys (d := W) (o := od) (kvs := kvsF (firstW m 0))) (fun i H4 => Same H3 H4 ∧ H4 L = some (.lst ((((firstW m 0).take i).map (·.1)).filter (fun i => decide (i ∈ endM m)) |>.map V.int))) ⟨Same.new hL, upd_same⟩ (fun i H4 _ h4 => h4.1 _ _ eW2) ?_ ?_
    · rintro i x H4 H5 hi ⟨s4, e4⟩ ⟨rfl, ky, vv, hx, rfl⟩
      have hi2 : i < (firstW m 0).length := by unfold kvsF at hi; rwa [List.length_map] at hi
      have ek : ky = Sum.inl (firstW m 0)[i].1 := by
        unfold kvsF at hx
        rw [List.getElem?_map, List.getElem?_eq_getElem hi2] at hx
        exact (congrArg Prod.fst (Option.some.inj hx)).symm
      subst ek
      have nx : (((firstW m 0).take (i + 1)).map (·.1)).filter (fun i => decide (i ∈ endM m)) = (((firstW m 0).take i).map (·.1)).filter (fun i => decide (i ∈ endM m)) ++ if (firstW m 0)[i].1 ∈ endM m then [(firstW m 0)[i].1] else [] := by
        rw [List.take_add_one, List.getElem?_eq_getElem hi2, List.map_append, List.filter_append]
        congr 1
        by_cases h : (firstW m 0)[i].1 ∈ endM m
        · simp [h]
        · simp [h]
      refine ⟨rfl, _, rfl, _, rfl, D, _, rfl, DGet.k (k := Sum.inl (firstW m 0)[i].1) (s4 _ _ eD2), _, rfl, ?_⟩
      rw [kvsE_some, nx]
      by_cases hin : (firstW m 0)[i].1 ∈ endM m
      · rw [decide_eq_true hin, if_pos hin]
        have ll : ((((firstW m 0).take i).map (·.1)).filter (fun i => decide (i ∈ endM m))).length ≤ 40 := Nat.le_trans (List.length_filter_le _ _) (by rw [List.length_map, List.length_take]; omega)
        refine iteT ⟨_, rfl, _, e4, lt1 (by rw [List.length_map]; omega), Same.upN s4 hL, ?_⟩
        rw [upd_same, List.map_append]
        rfl
      · rw [decide_eq_false hin, if_neg hin, List.append_nil]
        exact iteF ⟨s4, e4⟩
    · rintro H4 ⟨s4, e4⟩
      have e : ((firstW m 0).take (kvsF (firstW m 0)).length) = firstW m 0 := by unfold kvsF; rw [List.length_map, List.take_length]
      rw [e] at e4
      exact q _ L (sW.trans s4) (sW.free hL) e4
theorem scCopd : FnScope nCopd ["machine"] (defScope sCopd) := ⟨rfl, rfl, rfl, by decide +kernel, rfl, by decide +kernel, by decide +kernel⟩
theorem ok_copd {f : Addr} {fd : FuncData} (F : Fun K "copied" "copied" sCopd f fd) (O : On mg) : FnOk P w K mg base CX0 1 f fd ["machine"] spCopd := by
  refine F.ok scCopd (fun vs H Q E h => ?_) (fun cdv A outer s H vs Q E hr h => ?_)
  · obtain ⟨t, m, rfl, _⟩ := h
    rfl
  · have hu := hu_of hr
    obtain ⟨t, m, rfl, hm, wf, lm, l5, q⟩ := h
    have h3 : A.units + 3 + 60 < cLine := by
      have h2 : A.units + 3 + 16 * 0 + 200 < cLine := hr.un
      omega
    refine ⟨_, pss_one (ps_ret (pe_callTy call_tuple_of (by rfl) O.tuple (by decide +kernel) (pa_cons (pe_lc (own := [("moves", 1), ("last", 2)]) (g := gTup K 2 (gCons (gName 1) (gCons (gName 2) gNil))) (tt := tYes) rfl scCopd.nd (pi_tup (pv 0)) (blkOk_by (N := nCopd) (sc := defScope sCopd) (by decide +kernel))
          (fun _ _ _ _ _ => pg_tup rfl (pgs_cons (pg_name (i := 1) scCopd.nd rfl (Or.inr rfl)) (pgs_cons (pg_name (i := 2) scCopd.nd rfl (Or.inl rfl)) pgs_nil))) (fun _ _ _ _ _ => pts_nil)
          (fun _ _ _ _ _ => pe_tup (pa_cons (pe_dcG putP_ok (own := [("sign", 3)]) (g := gName 3) (tt := tYes) (wi := iList K _) rfl scCopd.nd (by show A.units + 3 + 20 < cLine; omega) (pi_list (pe_callB (call_sortedD rfl) (by rfl) O.sorted (by decide +kernel) (pa_cons (pv 1) pa_nil))) (blkOk_by (N := nCopd) (sc := scCp) (by decide +kernel))
            (fun _ _ _ _ _ => pg_name (i := 3) scCopd.nd rfl (Or.inl rfl)) (fun _ _ _ _ _ => pts_nil) (fun _ _ _ _ _ => pv 3) (fun _ _ _ _ _ => pe_dget hu (pv 1) (pv 3) (fun _ _ => rfl))) (pa_cons (pv 2) pa_nil)))) pa_nil))), ?_⟩
    have lt1 : ∀ {n : Nat}, n ≤ 3999 → n < sizeLine := fun h1 => by rw [sizeLine_eq]; omega
    obtain ⟨ss, et, pt⟩ := id hm
    have ls : ss.length = m.length := Paired.length pt
    have lsm : (srtM m).length = m.length := List.length_map _
    refine ⟨_, rfl, t, rfl, ⟨_, SqT.of et⟩, fun D hD => lc_it (walk_tup (K := K) (a := t) (xs := ss.map V.ref)) (fun i H1 => Same H H1 ∧ ∃ ts : List Addr, H1 D = some (.lst (ts.map V.ref)) ∧ Paired (StA H1) ts ((srtM m).take i)) ⟨Same.new hD, [], upd_same, .nil⟩ (fun i H1 _ h1 => SqT.of (h1.1 _ _ et)) ?_ ?_⟩
    · rintro i x H0 H1 hi ⟨s1, ts, e1, pp⟩ ⟨rfl, hx⟩
      rw [List.length_map] at hi
      obtain ⟨⟨mv, la⟩, hq, d, g1, g2⟩ := L2.paired_get pt (List.getElem?_eq_getElem hi)
      obtain rfl : V.ref ss[i] = x := by
        rw [List.getElem?_map, List.getElem?_eq_getElem hi] at hx
        exact Option.some.inj hx
      have hqm := List.mem_of_getElem? hq
      have nd : (mv.map (·.1)).Nodup := wf.nd _ hqm
      have l6 : mv.length ≤ 5 := l5 _ hqm
      have e2 := s1 _ _ g2
      refine ⟨ss[i], _, rfl, SqT.of (s1 _ _ g1), rfl, _, _, rfl, _, _, rfl, rfl, rfl, ?_⟩
      refine ⟨_, rfl, d, kvsP mv, mv.map (·.1), rfl, .inl e2, kvsP_keys mv, by rw [List.length_map]; omega, fun ys p perm so hp => ?_⟩
      obtain rfl := sorted_keys perm so
      have ndy : (keysM mv).Nodup := perm.nodup_iff.mpr nd
      have ly : (keysM mv).length ≤ 5 := by rw [perm.length_eq, List.length_map]; exact l6
      refine ⟨p, rfl, ⟨_, SqL.of upd_same⟩, fun C hC => ?_⟩
      have ne : C ≠ p := fun e => by rw [e, upd_same] at hC; cases hC
      have hC0 : H1 C = none := by rwa [upd_ne ne] at hC
      refine wk_any (walk_list (K := K) (a := p) (xs := (keysM mv).map V.str)) (fun j H2 => Same H1 H2 ∧ H2 p = some (.lst ((keysM mv).map V.str)) ∧ H2 C = some (.dK (kvsP (put mv ((keysM mv).take j))))) ⟨Same.trans (Same.new hp) (Same.new hC), (upd_ne ne.symm).trans upd_same, upd_same⟩ (fun j H2 _ h2 => SqL.of h2.2.1) ?_ ?_
      · rintro j x H3 H2 hj ⟨hS, hP, hDc⟩ ⟨rfl, hx⟩
        rw [List.length_map] at hj
        obtain rfl : V.str (keysM mv)[j] = x := by
          rw [List.getElem?_map, List.getElem?_eq_getElem hj] at hx
          exact Option.some.inj hx
        have mk : (keysM mv)[j] ∈ mv.map (·.1) := perm.mem_iff.mp (List.getElem_mem hj)
        have nin : (keysM mv)[j] ∉ (put mv ((keysM mv).take j)).map (·.1) := by
          rw [put_keys]
          exact not_before ndy hj
        refine ⟨rfl, _, rfl, _, rfl, _, rfl, d, V.int (look mv (keysM mv)[j]), rfl, .inl ⟨kvsP mv, Sum.inr (keysM mv)[j], .inl (hS _ _ e2), rfl, (valP mk).symm⟩, _, Sum.inr (keysM mv)[j], rfl, hDc, ?_, ?_⟩
        · rw [kvsP_len]
          unfold put
          rw [List.length_map, List.length_take]
          exact Nat.lt_of_lt_of_le (by omega : min j (keysM mv).length < 3999) (Nat.le_of_lt (lt1 (Nat.le_refl _)))
        · refine ⟨Same.upN hS hC0, (upd_ne ne.symm).trans hP, ?_⟩
          rw [upd_same, putP_new nin, take_put mv hj]
      · rintro H2 ⟨hS, hP, hDc⟩
        rw [List.length_map, List.take_length] at hDc
        refine ⟨_, rfl, (by show 2 ≤ sizeLine; decide), fun s' hs' => ?_⟩
        have k3 := hS.trans (Same.new (o := .tup [V.ref C, V.bl la]) hs')
        have e3 := k3 _ _ e1
        have lts := Paired.length pp
        rw [List.length_take] at lts
        refine ⟨_, e3, lt1 (by rw [List.length_map]; omega), Same.upN (s1.trans k3) hD, ts ++ [s'], by rw [upd_same, List.map_append]; rfl, ?_⟩
        have nx : (srtM m).take (i + 1) = (srtM m).take i ++ [(srtP mv, la)] := by
          have : (srtM m)[i]? = some (srtP mv, la) := by
            unfold srtM
            rw [List.getElem?_map, hq]
            rfl
          rw [List.take_add_one, this]
          rfl
        rw [nx]
        have kU : ∀ b o, b ≠ D → (upd H2 s' (.tup [V.ref C, V.bl la])) b = some o → (upd (upd H2 s' (.tup [V.ref C, V.bl la])) D (.lst (ts.map V.ref ++ [V.ref s']))) b = some o := fun b o n e => (upd_ne n).trans e
        have nsD : s' ≠ D := fun c => by rw [c, hS _ _ e1] at hs'; cases hs'
        have nCD : C ≠ D := fun c => by rw [c, e1] at hC0; cases hC0
        have nsC : C ≠ s' := ne_of_none hDc hs'
        refine Paired.appendP (L2.Paired.mapP pp fun b q ⟨d', a1, a2⟩ => ⟨d', kU _ _ (fun c => by rw [c, e1] at a1; cases a1) (k3 _ _ a1), kU _ _ (fun c => by rw [c, e1] at a2; cases a2) (k3 _ _ a2)⟩) (.cons ⟨C, kU _ _ nsD upd_same, kU _ _ nCD ((upd_ne nsC).trans hDc)⟩ .nil)
    rintro H1 ⟨s1, ts, e1, pp⟩
    rw [List.length_map, ls, ← lsm, List.take_length] at pp
    dsimp only [tNil]
    refine ⟨D, _, rfl, .inl ⟨SqL.of e1, fun p hp => ?_⟩⟩
    have k2 := Same.new (o := .tup (ts.map V.ref)) hp
    exact q _ p (s1.trans k2) (s1.free hp) ⟨ts, upd_same, L2.Paired.mapP pp fun _ _ e => e.keep k2⟩
end
end Mk

set_option Elab.async false
set_option linter.all false
set_option maxRecDepth 100000
set_option maxHeartbeats 4000000
/-! _is_state, is_machine_of_form -/
namespace Mk
open PySem PySem.Spec L2 PyProof.Rows

abbrev sIsSt : Stmt := top 56
abbrev nIsSt : List Str := ["value", "many", "moves", "last", "sign"]
abbrev sIsMF : Stmt := top 47
abbrev nIsMF : List Str := ["value", "most", "state"]
structure StOk (n : Nat) (q : PTab × Bool) : Prop where
  nd : (q.1.map (·.1)).Nodup
  sg : ∀ p ∈ q.1, sgB p.1 = true
  to : ∀ p ∈ q.1, 0 ≤ p.2 ∧ p.2 < n
  l5 : q.1.length ≤ 5
theorem WF.st {m : Mch} (w : WF m) (l5 : ∀ q ∈ m, q.1.length ≤ 5) : ∀ q ∈ m, StOk m.length q := fun q hq => ⟨w.nd q hq, w.sg q hq, w.to q hq, l5 q hq⟩
def spIsSt : Sp := fun vs H Q _ => ∃ (s : Addr) (q : PTab × Bool) (n : Nat), vs = [.ref s, .int n] ∧ StA H s q ∧ StOk n q ∧ n ≤ 100 ∧ ∀ H', Same H H' → Q (.bl true) H'
def spIsMF : Sp := fun vs H Q _ => ∃ (t : Addr) (m : Mch) (n : Nat), vs = [.ref t, .int n] ∧ MAt H t m ∧ GoodM m ∧ m.length ≤ n ∧ n ≤ 40 ∧ (∀ q ∈ m, q.1.length ≤ 5) ∧ ∀ H', Same H H' → Q (.bl true) H'
theorem all_true : ∀ n : Nat, (List.replicate n true).all id = true := fun n => by
  rw [List.all_eq_true]
  intro x hx
  rw [List.eq_of_mem_replicate hx]
  rfl
theorem nw_small {i : Int} {n : Nat} (h0 : 0 ≤ i) (h1 : i < n) (hn : n ≤ 100) : nwB i 0 ((n : Int) - 1) = true := by
  unfold nwB nuB LG
  simp only [Bool.and_eq_true, decide_eq_true_eq]
  have e : (1000 : Int) ≤ 10 ^ 60 - 1 := by decide
  refine ⟨?_, by omega, by omega⟩
  first | omega | exact ⟨by omega, by omega⟩
section
variable {P : Program} {w : World} {K : PySem.W.Frag} {mg : Str → Option Value} {base : Heap}
theorem scIsSt : FnScope nIsSt ["value", "many"] (defScope sIsSt) := ⟨rfl, rfl, rfl, by decide +kernel, rfl, by decide +kernel, by decide +kernel⟩
theorem ok_isSt {f : Addr} {fd : FuncData} (F : Fun K "_is_state" "_is_state" sIsSt f fd) (B : Bn mg) (W : Wn mg) (O : On mg) (N : Nn mg) (Dd : Dn mg) (J : Cd P w K mg base 1 "is_sign" ["value"] (spJudge sgB K)) (J2 : Cd P w K mg base 2 "is_number_within" ["value", "least", "most"] spIsNumW) : FnOk P w K mg base CX0 3 f fd ["value", "many"] spIsSt := by
  obtain ⟨a1, d1, G1, m1, k1, b1⟩ := J.ex
  obtain ⟨a2, d2, G2, m2, k2, b2⟩ := J2.ex
  refine F.ok scIsSt (fun vs H Q E h => ?_) (fun cdv A outer s H vs Q E hr h => ?_)
  · obtain ⟨s, q, n, rfl, _⟩ := h
    rfl
  · have hu : A.units + 3 + 1 < cLine := by
      have h2 : A.units + 3 + 16 * 2 + 200 < cLine := hr.un
      omega
    obtain ⟨s, ⟨mv, la⟩, n, rfl, ⟨d, e1, e2⟩, ok, hn, q⟩ := h
    have r1 : Room 1 _ := hr.mono (by decide)
    refine ⟨_, pss_cons (ps_if (PW.pt (pw_or (pt_not (pt_val (pe_callB call_isi (by rfl) W.isi (by decide +kernel) (pa_cons (pv 0) (pa_cons (pe_bltn (v := .ty "tuple") (u := .type "tuple") (by rfl) O.tuple (by decide +kernel) rfl) pa_nil))))) (pw_or1 (pt_cmpR op_ne (pe_callB call_len_seq (by rfl) B.len PySem.boot_len (pa_cons (pv 0) pa_nil)) pe_int (nomark _))))) (pss_one (ps_ret pe_bl)) pss_nil)
      (pss_cons (ps_asg (pv 0) (pg_tup rfl (pgs_cons (pg_name (i := 2) scIsSt.nd rfl (.inr rfl)) (pgs_cons (pg_name (i := 3) scIsSt.nd rfl (.inl rfl)) pgs_nil))))
      (pss_cons (ps_if (PW.pt (pw_or (pt_not (pt_val (pe_callB call_isi (by rfl) W.isi (by decide +kernel) (pa_cons (pv 2) (pa_cons (pe_bltn (v := .ty "dict") (u := .type "dict") (by rfl) Dd.dict (by decide +kernel) rfl) pa_nil))))) (pw_or1 (pt_not (pt_val (pe_callB call_isi (by rfl) W.isi (by decide +kernel) (pa_cons (pv 3) (pa_cons (pe_bltn (v := .ty "bool") (u := .type "bool") (by rfl) N.bool (by decide +kernel) rfl) pa_nil)))))))) (pss_one (ps_ret pe_bl)) pss_nil)
      (pss_one (ps_ret (pe_callB (cr_all rfl) (by rfl) O.all (by decide +kernel) (pa_cons (pe_lock (pe_lc (own := [("sign", 4)]) (g := gName 4) (tt := tYes) rfl scIsSt.nd (pi_keys (pv 2)) (blkOk_by (N := nIsSt) (sc := defScope sIsSt) (by decide +kernel))
          (fun _ _ _ _ _ => pg_name (i := 4) scIsSt.nd rfl (Or.inl rfl)) (fun _ _ _ _ _ => pts_nil)
          (fun _ _ _ _ _ => pe_and (pe_call G1 r1 (by rfl) m1 k1 b1 .nil pass0 (pa_cons (pv 4) pa_nil)) (pe_one (pe_call G2 hr (by rfl) m2 k2 b2 .nil pass0 (pa_cons (pe_dget hu (pv 2) (pv 4) (fun _ _ => rfl)) (pa_cons pe_int (pa_cons (pe_op op_sub (pv 1) pe_int) pa_nil)))))))) pa_nil)))))), ?_⟩
    have lt1 : ∀ {n : Nat}, n ≤ 3999 → n < sizeLine := fun h1 => by rw [sizeLine_eq]; omega
    refine ⟨_, rfl, _, _, _, _, true, rfl, .ty "tuple", .base (.tup e1), kit_ty (by decide +kernel), _, rfl, iteF ?_⟩
    refine ⟨_, rfl, s, _, rfl, .inr (SqT.of e1), rfl, _, rfl, iteF ?_⟩
    refine ⟨_, rfl, s, _, rfl, SqT.of e1, rfl, _, _, rfl, _, _, rfl, rfl, ?_⟩
    refine ⟨_, rfl, _, _, _, _, true, rfl, .ty "dict", .base (.dK e2), kit_ty (by decide +kernel), _, rfl, iteF ?_⟩
    refine ⟨_, rfl, _, _, _, _, true, rfl, .ty "bool", .base (.bl la), kit_ty (by decide +kernel), _, rfl, iteF ?_⟩
    refine ⟨d, _, e2, trivial, fun od => ⟨_, rfl, d, od, rfl, .inl ⟨kvsP mv, upd_same, fun D hD => ?_⟩⟩⟩
    have eL : (upd H d (.frz od (.dK (kvsP mv)))) d = some (.frz od (.dK (kvsP mv))) := upd_same
    have nD : d ≠ D := ne_of_none eL hD
    have kL : ∀ b o, b ≠ d → H b = some o → (upd H d (.frz od (.dK (kvsP mv)))) b = some o := fun b o n e => (upd_ne n).trans e
    generalize hHL : upd H d (.frz od (.dK (kvsP mv))) = HL at eL kL hD ⊢
    refine wk_any (walk_keys (d := d) (o := od) (kvs := kvsP mv)) (fun i H1 => Same HL H1 ∧ H1 D = some (.lst ((List.replicate i true).map V.bl))) ⟨Same.new hD, upd_same⟩ (fun i H1 _ h1 => h1.1 _ _ eL) ?_ ?_
    · rintro i x H1 H2 hi ⟨s1, l1⟩ ⟨rfl, ky, vv, hx, rfl⟩
      have hi2 : i < mv.length := by rwa [kvsP_len] at hi
      rw [kvsP_at hi2] at hx
      cases hx
      have l5 := ok.l5
      have l5 : mv.length ≤ 5 := l5
      have pm := List.getElem_mem hi2
      have sm : mv[i].1 ∈ mv.map (·.1) := List.mem_map.mpr ⟨_, pm, rfl⟩
      have hs := ok.sg _ pm
      have ht := ok.to _ pm
      have e := look_mem ok.nd _ pm
      refine ⟨rfl, _, rfl, _, rfl, .inl ⟨mv[i].1, rfl, by rw [one_of hs]; decide, _, rfl, ?_⟩⟩
      rw [hs]
      refine iteT ⟨_, rfl, _, rfl, d, V.int (look mv mv[i].1), rfl, .inl ⟨kvsP mv, Sum.inr mv[i].1, .inr ⟨od, s1 _ _ eL⟩, rfl, (valP sm).symm⟩, _, rfl, _, _, rfl, rfl, look mv mv[i].1, 0, (n : Int) - 1, rfl, ?_⟩
      rw [e, nw_small ht.1 ht.2 hn]
      refine ⟨_, l1, lt1 (by rw [List.length_map, List.length_replicate]; omega), Same.upN s1 hD, ?_⟩
      rw [upd_same, List.replicate_succ', List.map_append]
      rfl
    · rintro H1 ⟨s1, l1⟩
      refine ⟨s1 _ _ eL, ?_⟩
      have back : Same H (upd H1 d (.dK (kvsP mv))) := fun b o e => by
        by_cases c : b = d
        · subst c
          rw [e2] at e
          cases e
          exact upd_same
        · rw [upd_ne c]
          exact s1 _ _ (kL b o c e)
      refine ⟨D, _, rfl, SqL.of ((upd_ne nD.symm).trans l1), ?_⟩
      rw [all_true]
      exact q _ back
theorem scIsMF : FnScope nIsMF ["value", "most"] (defScope sIsMF) := ⟨rfl, rfl, rfl, by decide +kernel, rfl, by decide +kernel, by decide +kernel⟩
theorem ok_isMF {f : Addr} {fd : FuncData} (F : Fun K "is_machine_of_form" "is_machine_of_form" sIsMF f fd) (B : Bn mg) (W : Wn mg) (O : On mg) (J : Cd P w K mg base 3 "_is_state" ["value", "many"] spIsSt) (J2 : Cd P w K mg base 2 "useful_states" ["machine"] spUsef) : FnOk P w K mg base CX0 4 f fd ["value", "most"] spIsMF := by
  obtain ⟨a1, d1, G1, m1, k1, b1⟩ := J.ex
  obtain ⟨a2, d2, G2, m2, k2, b2⟩ := J2.ex
  refine F.ok scIsMF (fun vs H Q E h => ?_) (fun cdv A outer s H vs Q E hr h => ?_)
  · obtain ⟨t, m, n, rfl, _⟩ := h
    rfl
  · obtain ⟨t, m, n, rfl, hm, g, lm, hn, l5, q⟩ := h
    have r2 : Room 2 _ := hr.mono (by decide)
    refine ⟨_, pss_cons (ps_if (PW.pt (pw_or (pt_not (pt_val (pe_callB call_isi (by rfl) W.isi (by decide +kernel) (pa_cons (pv 0) (pa_cons (pe_bltn (v := .ty "tuple") (u := .type "tuple") (by rfl) O.tuple (by decide +kernel) rfl) pa_nil))))) (pw_or1 (pt_not (pt_chain op_le op_le pe_int (pe_callB call_len_seq (by rfl) B.len PySem.boot_len (pa_cons (pv 0) pa_nil)) (pv 1)))))) (pss_one (ps_ret pe_bl)) pss_nil)
      (pss_cons (ps_if (pt_not (pt_val (pe_callB (cr_all rfl) (by rfl) O.all (by decide +kernel) (pa_cons (pe_lc (own := [("state", 2)]) (g := gName 2) (tt := tYes) rfl scIsMF.nd (pi_tup (pv 0)) (blkOk_by (N := nIsMF) (sc := defScope sIsMF) (by decide +kernel))
          (fun _ _ _ _ _ => pg_name (i := 2) scIsMF.nd rfl (Or.inl rfl)) (fun _ _ _ _ _ => pts_nil)
          (fun _ _ _ _ _ => pe_call G1 hr (by rfl) m1 k1 b1 .nil pass0 (pa_cons (pv 2) (pa_cons (pe_callB (call_lenK K) (by rfl) B.len PySem.boot_len (pa_cons (pv 0) pa_nil)) pa_nil)))) pa_nil)))) (pss_one (ps_ret pe_bl)) pss_nil)
      (pss_one (ps_ret (pe_cmpR op_eq (pe_callB call_len_seq (by rfl) B.len PySem.boot_len (pa_cons (pe_call G2 r2 (by rfl) m2 k2 b2 .nil pass0 (pa_cons (pv 0) pa_nil)) pa_nil)) (pe_callB call_len_seq (by rfl) B.len PySem.boot_len (pa_cons (pv 0) pa_nil)) (nomark _))))), ?_⟩
    have lt1 : ∀ {n : Nat}, n ≤ 3999 → n < sizeLine := fun h1 => by rw [sizeLine_eq]; omega
    obtain ⟨ss, et, pt⟩ := id hm
    have ls : ss.length = m.length := Paired.length pt
    have ne := g.ne
    refine ⟨_, rfl, _, _, _, _, true, rfl, .ty "tuple", .base (.tup et), kit_ty (by decide +kernel), _, rfl, iteF ?_⟩
    refine ⟨_, rfl, t, _, rfl, .inr (SqT.of et), _, _, rfl, rfl, _, rfl, ?_⟩
    rw [List.length_map, ls, decide_eq_true (by omega : (1 : Int) ≤ (m.length : Nat))]
    refine iteT ⟨_, rfl, _, _, rfl, rfl, _, rfl, ?_⟩
    rw [decide_eq_true (by omega : ((m.length : Nat) : Int) ≤ (n : Nat))]
    refine iteF ?_
    refine ⟨_, rfl, t, rfl, ⟨_, SqT.of et⟩, fun D hD => wk_any (walk_tup (K := K) (a := t) (xs := ss.map V.ref)) (fun i H1 => Same H H1 ∧ H1 D = some (.lst ((List.replicate i true).map V.bl))) ⟨Same.new hD, upd_same⟩ (fun i H1 _ h1 => SqT.of (h1.1 _ _ et)) ?_ ?_⟩
    · rintro i x H1 H2 hi ⟨s1, l1⟩ ⟨rfl, hx⟩
      rw [List.length_map] at hi
      obtain ⟨⟨mv, la⟩, hq, d, g1, g2⟩ := L2.paired_get pt (List.getElem?_eq_getElem hi)
      obtain rfl : V.ref ss[i] = x := by
        rw [List.getElem?_map, List.getElem?_eq_getElem hi] at hx
        exact Option.some.inj hx
      refine ⟨rfl, _, rfl, _, rfl, t, _, rfl, .inr (SqT.of (s1 _ _ et)), ss[i], (mv, la), m.length, by show [V.ref ss[i], V.int (((ss.map V.ref).length : Nat) : Int)] = _; rw [List.length_map, ls], ⟨d, s1 _ _ g1, s1 _ _ g2⟩, g.wf.st l5 _ (List.mem_of_getElem? hq), by omega, fun H3 s3 => ?_⟩
      refine ⟨_, s3 _ _ l1, lt1 (by rw [List.length_map, List.length_replicate]; omega), Same.upN (s1.trans s3) hD, ?_⟩
      rw [upd_same, List.replicate_succ', List.map_append]
      rfl
    rintro H1 ⟨s1, l1⟩
    refine ⟨D, _, rfl, SqL.of l1, ?_⟩
    rw [all_true]
    refine ⟨_, rfl, iteF ?_⟩
    refine ⟨_, rfl, t, m, rfl, hm.keep s1, g.wf, by omega, ne, l5, fun H2 L s2 fL eL => ?_⟩
    refine ⟨L, _, rfl, .inl (SqL.of eL), _, rfl, t, _, rfl, .inr (SqT.of (s2 _ _ (s1 _ _ et))), rfl, ?_⟩
    rw [List.length_map, List.length_map, useful_len g, ls, decide_eq_true rfl]
    exact q _ (s1.trans s2)
end
end Mk

set_option Elab.async false
set_option linter.all false
set_option maxRecDepth 100000
set_option maxHeartbeats 4000000
/-! Form: __init__, states, __len__; check_form, check_sizes; a value that is a number or not -/
namespace Mk
open PySem PySem.Spec L2 PyProof.Rows

abbrev sFInit : Stmt := inClass (top 74) 0
abbrev sFSt : Stmt := inClass (top 74) 3
abbrev sFLen : Stmt := inClass (top 74) 27
abbrev sChkF : Stmt := top 75
abbrev sChkZ : Stmt := top 45
structure Fc (K : PySem.W.Frag) (C : Addr) : Prop where
  cl : Cls K C
  n : NoAttr K C "_states"
/-- the form at x -/
def FmAt (C : Addr) (H : Hp) (x : Addr) (m : Mch) : Prop := ∃ dx t : Addr, H x = some (.ins C dx [("_states", V.ref t)]) ∧ MAt H t m
theorem FmAt.keep {C : Addr} {H H' : Hp} {x : Addr} {m : Mch} (k : Same H H') (h : FmAt C H x m) : FmAt C H' x m := by
  obtain ⟨dx, t, a, b⟩ := h
  exact ⟨dx, t, k _ _ a, b.keep k⟩
theorem fld_st (t : Addr) : List.lookup ("_states" : Str) [("_states", V.ref t)] = some (V.ref t) := by
  simp [List.lookup]
def spFInit (C : Addr) : Sp := fun vs H Q _ => ∃ (x dx t : Addr) (m : Mch), vs = [.ref x, .ref t] ∧ H x = some (.ins C dx []) ∧ MAt H t m ∧ GoodM m ∧ m.length ≤ 8 ∧ (∀ q ∈ m, q.1.length ≤ 5) ∧ ∀ H', But x H H' → FmAt C H' x (srtM m) → Q .non H'
def spFSt (C : Addr) : Sp := fun vs H Q _ => ∃ (x : Addr) (m : Mch), vs = [.ref x] ∧ FmAt C H x m ∧ WF m ∧ m.length ≤ 40 ∧ (∀ q ∈ m, q.1.length ≤ 5) ∧ ∀ H' r, Same H H' → H r = none → MAt H' r (srtM m) → Q (.ref r) H'
def spFLen (C : Addr) : Sp := fun vs H Q _ => ∃ (x : Addr) (m : Mch), vs = [.ref x] ∧ FmAt C H x m ∧ Q (.int (m.length : Nat)) H
def spChkF (C : Addr) : Sp := fun vs H Q _ => ∃ (x : Addr) (m : Mch), vs = [.ref x] ∧ FmAt C H x m ∧ Q .non H
def spChkZ (C : Addr) : Sp := fun vs H Q _ => ∃ (t x : Addr) (m : Mch), vs = [.ref t] ∧ H t = some (.tup [.ref x]) ∧ FmAt C H x m ∧ m.length ≤ 6 ∧ ∀ H', Same H H' → Q .non H'
/-- a value that is no number, of a kind that isinstance tells -/
def NoNum (K : PySem.W.Frag) (H : Hp) (v : V) : Prop := ∃ (t : Value) (b : Bool), TyX K H v t ∧ PySem.W.kitOne K t (.type "bool") = some b ∧ (b = false → PySem.W.kitOne K t (.type "int") = some false)
def spIsNumV (K : PySem.W.Frag) : Sp := fun vs H Q _ => ∃ v : V, vs = [v] ∧ ((∃ i : Int, v = .int i ∧ Q (.bl (nuB i)) H) ∨ (NoNum K H v ∧ Q (.bl false) H))
def spIsNumWV (K : PySem.W.Frag) : Sp := fun vs H Q _ => ∃ (v : V) (a b : Int), vs = [v, .int a, .int b] ∧ ((∃ i : Int, v = .int i ∧ Q (.bl (nwB i a b)) H) ∨ (NoNum K H v ∧ Q (.bl false) H))
/-- what the text's classes must have -/
structure Kn (K : PySem.W.Frag) (mg : Str → Option Value) (C CB : Addr) : Prop where
  mB : mg "Built" = some (.ref CB)
  mC : mg "Form" = some (.ref C)
  tB : PySem.W.kitOne K (.type "tuple") (.ref CB) = some false
  tC : PySem.W.kitOne K (.ref C) (.ref C) = some true
  w8 : ∃ t, mg "MAX_WRITTEN" = some (.int 8 t)
  t6 : ∃ t, mg "MAX_TREATED" = some (.int 6 t)
  p9 : ∃ t, mg "MAX_PASSED" = some (.int 9999 t)
  own : ∀ {H : Hp} {x dx : Addr} {fs : List (Str × V)}, H x = some (.ins C dx fs) → TyX K H (.ref x) (.ref C)
section
variable {P : Program} {w : World} {K : PySem.W.Frag} {mg : Str → Option Value} {base : Heap}
theorem ok_isNumV {f : Addr} {fd : FuncData} (F : Fun K "is_number" "is_number" sIsNum f fd) (B : Bn mg) (W : Wn mg) (N : Nn mg) : FnOk P w K mg base CX0 1 f fd ["value"] (spIsNumV K) := by
  obtain ⟨t, hL⟩ := N.lg
  refine F.ok scIsNum (fun vs H Q E h => ?_) (fun cdv A outer s H vs Q E hr h => ?_)
  · obtain ⟨v, rfl, _⟩ := h
    rfl
  · obtain ⟨v, rfl, q⟩ := h
    refine ⟨_, pss_cons (ps_if (PW.pt (pw_or (pt_val (pe_callB call_isi (by rfl) W.isi (by decide +kernel) (pa_cons (pv 0) (pa_cons (pe_bltn (v := .ty "bool") (u := .type "bool") (by rfl) N.bool (by decide +kernel) rfl) pa_nil))))
        (pw_or1 (pt_not (pt_val (pe_callB call_isi (by rfl) W.isi (by decide +kernel) (pa_cons (pv 0) (pa_cons (pe_bltn (v := .ty "int") (u := .type "int") (by rfl) B.int (by decide +kernel) rfl) pa_nil)))))))) (pss_one (ps_ret pe_bl)) pss_nil)
      (pss_one (ps_ret (pe_chain op_le op_le (pe_un un_neg (pe_glob (v := .int LG) (by rfl) hL ⟨_, rfl⟩)) (pv 0) (pe_glob (v := .int LG) (by rfl) hL ⟨_, rfl⟩)))), ?_⟩
    rcases q with ⟨i, rfl, q⟩ | ⟨⟨tv, b, ty, kb, ki⟩, q⟩
    · refine ⟨_, rfl, _, _, _, _, false, rfl, .ty "bool", .base (.int i), kit_ty (by decide +kernel), _, rfl, iteF ?_⟩
      refine ⟨_, rfl, _, _, _, _, true, rfl, .ty "int", .base (.int i), kit_ty (by decide +kernel), _, rfl, iteF ?_⟩
      refine ⟨_, rfl, _, rfl, _, _, rfl, rfl, _, rfl, ?_⟩
      by_cases h1 : -LG ≤ i
      · rw [decide_eq_true h1]
        refine iteT ⟨_, _, rfl, rfl, ?_⟩
        have e : decide (i ≤ LG) = nuB i := by
          unfold nuB
          rw [decide_eq_true h1, Bool.true_and]
        rw [← e] at q
        exact q
      · rw [decide_eq_false h1]
        have e : nuB i = false := by
          unfold nuB
          rw [decide_eq_false h1, Bool.false_and]
        rw [e] at q
        exact iteF q
    · refine ⟨_, rfl, _, _, _, _, b, rfl, .ty "bool", ty, kb, _, rfl, ?_⟩
      cases b with
      | true => exact iteT q
      | false => exact iteF ⟨_, rfl, _, _, _, _, false, rfl, .ty "int", ty, ki rfl, _, rfl, iteT q⟩
theorem ok_isNumWV {f : Addr} {fd : FuncData} (F : Fun K "is_number_within" "is_number_within" sIsNumW f fd) (J : Cd P w K mg base 1 "is_number" ["value"] (spIsNumV K)) : FnOk P w K mg base CX0 2 f fd ["value", "least", "most"] (spIsNumWV K) := by
  obtain ⟨j, dj, G, gm, gk, gb⟩ := J.ex
  refine F.ok scIsNumW (fun vs H Q E h => ?_) (fun cdv A outer s H vs Q E hr h => ?_)
  · obtain ⟨v, a, b, rfl, _⟩ := h
    rfl
  · obtain ⟨v, a, b, rfl, q⟩ := h
    refine ⟨_, pss_one (ps_ret (pe_and (pe_call G hr (by rfl) gm gk gb .nil pass0 (pa_cons (pv 0) pa_nil)) (pe_one (pe_chain op_le op_le (pv 1) (pv 0) (pv 2))))), ?_⟩
    rcases q with ⟨i, rfl, q⟩ | ⟨nn, q⟩
    · refine ⟨_, rfl, .int i, rfl, .inl ⟨i, rfl, _, rfl, ?_⟩⟩
      cases h1 : nuB i with
      | false =>
        have e : nwB i a b = false := by unfold nwB; rw [h1]; rfl
        rw [e] at q
        exact iteF q
      | true =>
        refine iteT ⟨_, rfl, _, rfl, _, _, rfl, rfl, _, rfl, ?_⟩
        by_cases h2 : a ≤ i
        · rw [decide_eq_true h2]
          refine iteT ⟨_, rfl, _, _, rfl, rfl, ?_⟩
          have e : nwB i a b = decide (i ≤ b) := by unfold nwB; rw [h1, decide_eq_true h2]; rfl
          rw [e] at q
          exact q
        · rw [decide_eq_false h2]
          have e : nwB i a b = false := by unfold nwB; rw [h1, decide_eq_false h2]; rfl
          rw [e] at q
          exact iteF q
    · exact ⟨_, rfl, v, rfl, .inr ⟨nn, _, rfl, iteF q⟩⟩
variable {C CB : Addr}
theorem scFInit : FnScope ["self", "states"] ["self", "states"] (defScope sFInit) := ⟨rfl, rfl, rfl, by decide +kernel, rfl, by decide +kernel, by decide +kernel⟩
theorem ok_fInit {f : Addr} {fd : FuncData} (F : Fun K "__init__" "Form.__init__" sFInit f fd) (T : Fc K C) (W : Wn mg) (Z : Kn K mg C CB) (J : Cd P w K mg base 4 "is_machine_of_form" ["value", "most"] spIsMF) (J2 : Cd P w K mg base 1 "copied" ["machine"] spCopd) : FnOk P w K mg base CX0 5 f fd ["self", "states"] (spFInit C) := by
  obtain ⟨a1, d1, G1, m1, k1, b1⟩ := J.ex
  obtain ⟨a2, d2, G2, m2, k2, b2⟩ := J2.ex
  obtain ⟨tw, w8⟩ := Z.w8
  refine F.ok scFInit (fun vs H Q E h => ?_) (fun cdv A outer s H vs Q E hr h => ?_)
  · obtain ⟨x, dx, t, m, rfl, _⟩ := h
    rfl
  · obtain ⟨x, dx, t, m, rfl, hx, hm, g, lm, l5, q⟩ := h
    have r1 : Room 1 _ := hr.mono (by decide)
    refine ⟨_, pss_one (ps_if (pt_val (pe_callB call_isi (by rfl) W.isi (by decide +kernel) (pa_cons (pv 1) (pa_cons (pe_glob (v := .ref CB) (by rfl) Z.mB rfl) pa_nil)))) (pss_one ps_never)
      (pss_one (ps_if (pt_val (pe_call G1 hr (by rfl) m1 k1 b1 .nil pass0 (pa_cons (pv 1) (pa_cons (pe_glob (v := .int 8) (by rfl) w8 ⟨_, rfl⟩) pa_nil)))) (pss_one (ps_fld (pv 0) (pe_call G2 r1 (by rfl) m2 k2 b2 .nil pass0 (pa_cons (pv 1) pa_nil)) rfl)) (pss_one ps_never)))), ?_⟩
    obtain ⟨ss, et, pt⟩ := id hm
    have ne : x ≠ t := ne_of hx et (fun z => nomatch z)
    refine ⟨_, rfl, _, _, _, _, false, rfl, .own CB, .base (.tup et), Z.tB, _, rfl, iteF ?_⟩
    refine ⟨_, rfl, t, m, 8, rfl, hm, g, lm, by decide, l5, fun H1 s1 => ⟨_, rfl, iteT ?_⟩⟩
    refine ⟨_, rfl, t, m, rfl, hm.keep s1, g.wf, by omega, l5, fun H2 r s2 hr2 hm2 => ?_⟩
    have hx2 := s2 _ _ (s1 _ _ hx)
    refine ⟨_, rfl, x, C, dx, [], rfl, hx2, T.cl, T.n, by show 0 < 1000; decide, ?_⟩
    refine q _ (fun b o nb e => ?_) ⟨dx, r, ?_, ?_⟩
    · rw [upd_ne nb]
      exact s2 _ _ (s1 _ _ e)
    · rw [upd_same]
      rfl
    · have hb : ∀ b o, b ≠ x → H2 b = some o → (upd H2 x (.ins C dx (putF "_states" (V.ref r) []))) b = some o := fun b o nb e => (upd_ne nb).trans e
      obtain ⟨ts, e3, p3⟩ := hm2
      refine ⟨ts, hb _ _ (fun e => by rw [e, hx2] at e3; cases e3) e3, L2.Paired.mapP p3 fun u v ⟨d, h1, h2⟩ => ⟨d, hb _ _ (fun e => by rw [e, hx2] at h1; cases h1) h1, hb _ _ (fun e => by rw [e, hx2] at h2; cases h2) h2⟩⟩
theorem scFSt : FnScope ["self"] ["self"] (defScope sFSt) := ⟨rfl, rfl, rfl, by decide +kernel, rfl, by decide +kernel, by decide +kernel⟩
theorem ok_fSt {f : Addr} {fd : FuncData} (F : Fun K "states" "Form.states" sFSt f fd) (T : Fc K C) (J2 : Cd P w K mg base 1 "copied" ["machine"] spCopd) : FnOk P w K mg base CX0 2 f fd ["self"] (spFSt C) := by
  obtain ⟨a2, d2, G2, m2, k2, b2⟩ := J2.ex
  refine F.ok scFSt (fun vs H Q E h => ?_) (fun cdv A outer s H vs Q E hr h => ?_)
  · obtain ⟨x, m, rfl, _⟩ := h
    rfl
  · obtain ⟨x, m, rfl, ⟨dx, t, hx, hm⟩, wf, lm, l5, q⟩ := h
    refine ⟨_, pss_one (ps_ret (pe_call G2 hr (by rfl) m2 k2 b2 .nil pass0 (pa_cons (pe_fld (pv 0) rfl) pa_nil))), ?_⟩
    exact ⟨_, rfl, x, C, dx, _, _, rfl, hx, T.cl, T.n, fld_st t, t, m, rfl, hm, wf, lm, l5, q⟩
theorem scFLen : FnScope ["self"] ["self"] (defScope sFLen) := ⟨rfl, rfl, rfl, by decide +kernel, rfl, by decide +kernel, by decide +kernel⟩
theorem ok_fLen {f : Addr} {fd : FuncData} (F : Fun K "__len__" "Form.__len__" sFLen f fd) (T : Fc K C) (B : Bn mg) : FnOk P w K mg base CX0 1 f fd ["self"] (spFLen C) := by
  refine F.ok scFLen (fun vs H Q E h => ?_) (fun cdv A outer s H vs Q E hr h => ?_)
  · obtain ⟨x, m, rfl, _⟩ := h
    rfl
  · obtain ⟨x, m, rfl, ⟨dx, t, hx, ⟨ss, et, pt⟩⟩, q⟩ := h
    refine ⟨_, pss_one (ps_ret (pe_callB call_len_seq (by rfl) B.len PySem.boot_len (pa_cons (pe_fld (pv 0) rfl) pa_nil))), ?_⟩
    refine ⟨_, rfl, x, C, dx, _, _, rfl, hx, T.cl, T.n, fld_st t, t, _, rfl, .inr (SqT.of et), ?_⟩
    rw [List.length_map, Paired.length pt]
    exact q
theorem scChkF : FnScope ["form"] ["form"] (defScope sChkF) := ⟨rfl, rfl, rfl, by decide +kernel, rfl, by decide +kernel, by decide +kernel⟩
theorem ok_chkF {f : Addr} {fd : FuncData} (F : Fun K "check_form" "check_form" sChkF f fd) (W : Wn mg) (Z : Kn K mg C CB) : FnOk P w K mg base CX0 1 f fd ["form"] (spChkF C) := by
  refine F.ok scChkF (fun vs H Q E h => ?_) (fun cdv A outer s H vs Q E hr h => ?_)
  · obtain ⟨x, m, rfl, _⟩ := h
    rfl
  · obtain ⟨x, m, rfl, ⟨dx, t, hx, _⟩, q⟩ := h
    refine ⟨_, pss_one (ps_if (pt_not (pt_val (pe_callB call_isi (by rfl) W.isi (by decide +kernel) (pa_cons (pv 0) (pa_cons (pe_glob (v := .ref C) (by rfl) Z.mC rfl) pa_nil))))) (pss_one ps_never) pss_nil), ?_⟩
    exact ⟨_, rfl, _, _, _, _, true, rfl, .own C, Z.own hx, Z.tC, _, rfl, iteF q⟩
theorem scChkZ : FnScope ["forms", "form"] ["forms"] (defScope sChkZ) := ⟨rfl, rfl, rfl, by decide +kernel, rfl, by decide +kernel, by decide +kernel⟩
theorem ok_chkZ {f : Addr} {fd : FuncData} (F : Fun K "check_sizes" "check_sizes" sChkZ f fd) (B : Bn mg) (Z : Kn K mg C CB) {gl : Addr} {dl : FuncData} (DL : OwnD K C gl "__len__") (GL : FnOk P w K mg base CX0 1 gl dl ["self"] (spFLen C)) (bL : Binds K dl ["self"] []) : FnOk P w K mg base CX0 3 f fd ["forms"] (spChkZ C) := by
  obtain ⟨t6, h6⟩ := Z.t6
  refine F.ok scChkZ (fun vs H Q E h => ?_) (fun cdv A outer s H vs Q E hr h => ?_)
  · obtain ⟨t, x, m, rfl, _⟩ := h
    rfl
  · obtain ⟨t, x, m, rfl, ht, hx, lm, q⟩ := h
    refine ⟨_, pss_one (ps_if (pt_cmpR op_gt (pe_callB (cr_max rfl) (by rfl) B.max (by decide +kernel) (pa_cons (pe_lc (own := [("form", 1)]) (g := gName 1) (tt := tYes) rfl scChkZ.nd (pi_tup (pv 0)) (blkOk_by (N := ["forms", "form"]) (sc := defScope sChkZ) (by decide +kernel))
          (fun _ _ _ _ _ => pg_name (i := 1) scChkZ.nd rfl (Or.inl rfl)) (fun _ _ _ _ _ => pts_nil)
          (fun _ _ _ _ _ => pe_callB (call_len_own (n := 1) ⟨gl, dl, DL, GL, bL⟩ hr) (by rfl) B.len PySem.boot_len (pa_cons (pv 1) pa_nil))) pa_nil)) (pe_glob (v := .int 6) (by rfl) h6 ⟨_, rfl⟩) (nomark _)) (pss_one ps_never) pss_nil), ?_⟩
    have lt1 : ∀ {n : Nat}, n ≤ 3999 → n < sizeLine := fun h1 => by rw [sizeLine_eq]; omega
    refine ⟨_, rfl, t, rfl, ⟨_, SqT.of ht⟩, fun D hD => wk_any (walk_tup (K := K) (a := t) (xs := [V.ref x])) (fun i H1 => Same H H1 ∧ H1 D = some (.lst ((List.replicate i (V.int (m.length : Nat)))))) ⟨Same.new hD, upd_same⟩ (fun i H1 _ h1 => SqT.of (h1.1 _ _ ht)) ?_ ?_⟩
    · rintro i v H1 H2 hi ⟨s1, l1⟩ ⟨rfl, hv⟩
      have hi : i < 1 := hi
      obtain rfl : i = 0 := by omega
      cases hv
      have hx1 := hx.keep s1
      obtain ⟨dx, st, e1, _⟩ := id hx1
      refine ⟨rfl, _, rfl, x, dx, _, rfl, e1, x, m, rfl, hx1, m.length, rfl, by omega, ?_⟩
      refine ⟨_, l1, lt1 (by rw [List.length_replicate]; omega), Same.upN s1 hD, ?_⟩
      rw [upd_same]
      rfl
    rintro H1 ⟨s1, l1⟩
    refine ⟨D, [((m.length : Nat) : Int)], rfl, SqL.of l1, by show 0 < 1; decide, fun k hk _ => ?_⟩
    obtain rfl : k = ((m.length : Nat) : Int) := by simpa using hk
    refine ⟨_, _, rfl, rfl, _, rfl, ?_⟩
    rw [decide_eq_false (by omega : ¬ ((m.length : Nat) : Int) > 6)]
    exact iteF (q _ s1)
end
end Mk

set_option Elab.async false
set_option linter.all false
set_option maxRecDepth 100000
set_option maxHeartbeats 4000000
/-! rows: is_row_of, is_row, _check_row, _check_row_of -/
namespace Mk
open PySem PySem.Spec L2 PyProof.Rows

abbrev sIsRowOf : Stmt := top 83
abbrev sChkRow : Stmt := top 84
abbrev sChkRowOf : Stmt := top 85
abbrev nIsRowOf : List Str := ["value", "many", "most", "number"]
def numB : V → Bool
  | .int i => nwB i 0 9999
  | _ => false
def NumOr (K : PySem.W.Frag) (H : Hp) (x : V) : Prop := (∃ i : Int, x = .int i) ∨ (NoNum K H x ∧ numB x = false)
def NoTup (K : PySem.W.Frag) (H : Hp) (v : V) : Prop := ∃ t : Value, TyX K H v t ∧ PySem.W.kitOne K t (.type "tuple") = some false
def rowB (many : Nat) (xs : List V) : Bool := decide (xs.length = many) && (xs.map numB).all id
/-- a value that may be a row: a tuple of what may be numbers, or no tuple -/
def MayRow (K : PySem.W.Frag) (H : Hp) (v : V) (many : Nat) (R : Bool → Hp → Prop) : Prop :=
  (∃ (a : Addr) (xs : List V), v = .ref a ∧ H a = some (.tup xs) ∧ xs.length ≤ 100 ∧ (∀ x ∈ xs, ∀ H', Same H H' → NumOr K H' x) ∧ ∀ H', Same H H' → R (rowB many xs) H') ∨ (NoTup K H v ∧ R false H)
def spIsRowOf (K : PySem.W.Frag) : Sp := fun vs H Q _ => ∃ (v : V) (many : Nat), vs = [v, .int many, .int 9999] ∧ MayRow K H v many fun b H' => Q (.bl b) H'
structure RwOk (ns : List Int) : Prop where
  l1 : 1 ≤ ns.length
  l6 : ns.length ≤ 6
  r : ∀ n ∈ ns, 0 ≤ n ∧ n ≤ 9999
theorem nw_ok {i : Int} (h : 0 ≤ i ∧ i ≤ 9999) : nwB i 0 9999 = true := by
  unfold nwB nuB LG
  simp only [Bool.and_eq_true, decide_eq_true_eq]
  have e : (10000 : Int) ≤ 10 ^ 60 - 1 := by decide
  refine ⟨?_, by omega, by omega⟩
  first | omega | exact ⟨by omega, by omega⟩
theorem RwOk.all {ns : List Int} (h : RwOk ns) : rowB ns.length (ns.map V.int) = true := by
  unfold rowB
  rw [List.length_map, decide_eq_true rfl, Bool.true_and, List.all_eq_true]
  intro b hb
  rw [List.map_map] at hb
  obtain ⟨n, hn, rfl⟩ := List.mem_map.mp hb
  exact nw_ok (h.r n hn)
theorem RwOk.may {K : PySem.W.Frag} {H : Hp} {a : Addr} {ns : List Int} {R : Bool → Hp → Prop} (h : RwOk ns) (e : H a = some (.tup (ns.map V.int))) (q : ∀ H', Same H H' → R true H') : MayRow K H (.ref a) ns.length R := by
  refine .inl ⟨a, _, rfl, e, by rw [List.length_map]; have := h.l6; exact Nat.le_trans h.l6 (by decide), fun x hx H' _ => ?_, fun H' s => ?_⟩
  · obtain ⟨n, _, rfl⟩ := List.mem_map.mp hx
    exact .inl ⟨n, rfl⟩
  · rw [h.all]
    exact q H' s
def spChkRow : Sp := fun vs H Q _ => ∃ (a : Addr) (ns : List Int), vs = [.ref a] ∧ H a = some (.tup (ns.map V.int)) ∧ RwOk ns ∧ ∀ H', Same H H' → Q .non H'
def spChkRowOf (C : Addr) : Sp := fun vs H Q _ => ∃ (x a : Addr) (m : Mch) (ns : List Int), vs = [.ref x, .ref a] ∧ FmAt C H x m ∧ H a = some (.tup (ns.map V.int)) ∧ RwOk ns ∧ ns.length = m.length ∧ ∀ H', Same H H' → Q .non H'
section
variable {P : Program} {w : World} {K : PySem.W.Frag} {mg : Str → Option Value} {base : Heap} {C CB : Addr}
theorem scIsRowOf : FnScope nIsRowOf ["value", "many", "most"] (defScope sIsRowOf) := ⟨rfl, rfl, rfl, by decide +kernel, rfl, by decide +kernel, by decide +kernel⟩
theorem ok_isRowOf {f : Addr} {fd : FuncData} (F : Fun K "is_row_of" "is_row_of" sIsRowOf f fd) (B : Bn mg) (W : Wn mg) (O : On mg) (J : Cd P w K mg base 2 "is_number_within" ["value", "least", "most"] (spIsNumWV K)) : FnOk P w K mg base CX0 3 f fd ["value", "many", "most"] (spIsRowOf K) := by
  obtain ⟨a1, d1, G1, m1, k1, b1⟩ := J.ex
  refine F.ok scIsRowOf (fun vs H Q E h => ?_) (fun cdv A outer s H vs Q E hr h => ?_)
  · obtain ⟨v, many, rfl, _⟩ := h
    rfl
  · obtain ⟨v, many, rfl, q⟩ := h
    refine ⟨_, pss_cons (ps_if (PW.pt (pw_or (pt_not (pt_val (pe_callB call_isi (by rfl) W.isi (by decide +kernel) (pa_cons (pv 0) (pa_cons (pe_bltn (v := .ty "tuple") (u := .type "tuple") (by rfl) O.tuple (by decide +kernel) rfl) pa_nil))))) (pw_or1 (pt_cmpR op_ne (pe_callB call_len_seq (by rfl) B.len PySem.boot_len (pa_cons (pv 0) pa_nil)) (pv 1) (nomark _))))) (pss_one (ps_ret pe_bl)) pss_nil)
      (pss_one (ps_ret (pe_callB (cr_all rfl) (by rfl) O.all (by decide +kernel) (pa_cons (pe_lc (own := [("number", 3)]) (g := gName 3) (tt := tYes) rfl scIsRowOf.nd (pi_tup (pv 0)) (blkOk_by (N := nIsRowOf) (sc := defScope sIsRowOf) (by decide +kernel))
          (fun _ _ _ _ _ => pg_name (i := 3) scIsRowOf.nd rfl (Or.inl rfl)) (fun _ _ _ _ _ => pts_nil)
          (fun _ _ _ _ _ => pe_call G1 hr (by rfl) m1 k1 b1 .nil pass0 (pa_cons (pv 3) (pa_cons pe_int (pa_cons (pv 2) pa_nil))))) pa_nil)))), ?_⟩
    have lt1 : ∀ {n : Nat}, n ≤ 3999 → n < sizeLine := fun h1 => by rw [sizeLine_eq]; omega
    rcases q with ⟨a, xs, rfl, ea, l1, hx, q⟩ | ⟨⟨tv, ty, kt⟩, q⟩
    · refine ⟨_, rfl, _, _, _, _, true, rfl, .ty "tuple", .base (.tup ea), kit_ty (by decide +kernel), _, rfl, iteF ?_⟩
      refine ⟨_, rfl, a, _, rfl, .inr (SqT.of ea), _, rfl, rfl, _, rfl, ?_⟩
      have e1 : decide (V.int ((xs.length : Nat) : Int) = V.int (many : Nat)) = decide (xs.length = many) := by
        rw [dec_int, Bool.eq_iff_iff]
        simp
        omega
      rw [e1]
      by_cases c : xs.length = many
      · rw [decide_eq_true c]
        refine iteF ?_
        refine ⟨_, rfl, a, rfl, ⟨_, SqT.of ea⟩, fun D hD => wk_any (walk_tup (K := K) (a := a) (xs := xs)) (fun i H1 => Same H H1 ∧ H1 D = some (.lst (((xs.map numB).take i).map V.bl))) ⟨Same.new hD, upd_same⟩ (fun i H1 _ h1 => SqT.of (h1.1 _ _ ea)) ?_ ?_⟩
        · rintro i x H1 H2 hi ⟨s1, e2⟩ ⟨rfl, hv⟩
          have hm := List.mem_of_getElem? hv
          have nx : (xs.map numB).take (i + 1) = (xs.map numB).take i ++ [numB x] := by
            rw [List.take_add_one, List.getElem?_map, hv]
            rfl
          refine ⟨rfl, _, rfl, _, rfl, x, 0, 9999, rfl, ?_⟩
          have fin : ∃ acc, H2 D = some (.lst acc) ∧ acc.length < sizeLine ∧ (Same H (upd H2 D (.lst (acc ++ [V.bl (numB x)]))) ∧ (upd H2 D (.lst (acc ++ [V.bl (numB x)]))) D = some (.lst (((xs.map numB).take (i + 1)).map V.bl))) := by
            refine ⟨_, e2, lt1 (by rw [List.length_map, List.length_take, List.length_map]; omega), Same.upN s1 hD, ?_⟩
            rw [upd_same, nx, List.map_append]
            rfl
          rcases hx x hm _ s1 with ⟨n, rfl⟩ | ⟨nn, e⟩
          · exact .inl ⟨n, rfl, fin⟩
          · rw [e] at fin
            exact .inr ⟨nn, fin⟩
        rintro H1 ⟨s1, e2⟩
        have e3 := q _ s1
        refine ⟨D, xs.map numB, rfl, SqL.of ?_, ?_⟩
        · rw [e2, ← List.length_map (f := numB), List.take_length]
        · unfold rowB at e3
          rw [decide_eq_true c, Bool.true_and] at e3
          exact e3
      · rw [decide_eq_false c]
        have e3 := q _ (fun _ _ e => e)
        unfold rowB at e3
        rw [decide_eq_false c, Bool.false_and] at e3
        exact iteT e3
    · exact ⟨_, rfl, _, _, _, _, false, rfl, .ty "tuple", ty, kt, _, rfl, iteT q⟩
theorem scChkRow : FnScope ["row"] ["row"] (defScope sChkRow) := ⟨rfl, rfl, rfl, by decide +kernel, rfl, by decide +kernel, by decide +kernel⟩
theorem ok_chkRow {f : Addr} {fd : FuncData} (F : Fun K "_check_row" "_check_row" sChkRow f fd) (B : Bn mg) (W : Wn mg) (O : On mg) (Z : Kn K mg C CB) (J3 : Cd P w K mg base 3 "is_row_of" ["value", "many", "most"] (spIsRowOf K)) : FnOk P w K mg base CX0 4 f fd ["row"] spChkRow := by
  obtain ⟨a3, d3, G3, m3, k3, b3⟩ := J3.ex
  obtain ⟨t9, h9⟩ := Z.p9
  obtain ⟨t6, h6⟩ := Z.t6
  refine F.ok scChkRow (fun vs H Q E h => ?_) (fun cdv A outer s H vs Q E hr h => ?_)
  · obtain ⟨a, ns, rfl, _⟩ := h
    rfl
  · obtain ⟨a, ns, rfl, ea, ok, q⟩ := h
    refine ⟨_, pss_one (ps_if (PW.pt (pw_or (pt_not (pt_val (pe_callB call_isi (by rfl) W.isi (by decide +kernel) (pa_cons (pv 0) (pa_cons (pe_bltn (v := .ty "tuple") (u := .type "tuple") (by rfl) O.tuple (by decide +kernel) rfl) pa_nil))))) (pw_or (pt_not (pt_chain op_le op_le pe_int (pe_callB call_len_seq (by rfl) B.len PySem.boot_len (pa_cons (pv 0) pa_nil)) (pe_glob (v := .int 6) (by rfl) h6 ⟨_, rfl⟩)))
        (pw_or1 (pt_not (pt_val (pe_call G3 hr (by rfl) m3 k3 b3 .nil pass0 (pa_cons (pv 0) (pa_cons (pe_callB call_len_seq (by rfl) B.len PySem.boot_len (pa_cons (pv 0) pa_nil)) (pa_cons (pe_glob (v := .int 9999) (by rfl) h9 ⟨_, rfl⟩) pa_nil)))))))))) (pss_one ps_never) pss_nil), ?_⟩
    have l1 := ok.l1
    have l6 := ok.l6
    refine ⟨_, rfl, _, _, _, _, true, rfl, .ty "tuple", .base (.tup ea), kit_ty (by decide +kernel), _, rfl, iteF ?_⟩
    refine ⟨_, rfl, a, _, rfl, .inr (SqT.of ea), _, _, rfl, rfl, _, rfl, ?_⟩
    rw [List.length_map, decide_eq_true (by omega : (1 : Int) ≤ (ns.length : Nat))]
    refine iteT ⟨_, _, rfl, rfl, _, rfl, ?_⟩
    rw [decide_eq_true (by omega : ((ns.length : Nat) : Int) ≤ 6)]
    refine iteF ?_
    refine ⟨_, rfl, _, rfl, a, _, rfl, .inr (SqT.of ea), .ref a, ns.length, by rw [List.length_map]; rfl, ok.may ea fun H1 s1 => ⟨_, rfl, iteF (q _ s1)⟩⟩
theorem scChkRowOf : FnScope ["target", "row"] ["target", "row"] (defScope sChkRowOf) := ⟨rfl, rfl, rfl, by decide +kernel, rfl, by decide +kernel, by decide +kernel⟩
theorem ok_chkRowOf {f : Addr} {fd : FuncData} (F : Fun K "_check_row_of" "_check_row_of" sChkRowOf f fd) (B : Bn mg) {gl : Addr} {dl : FuncData} (DL : OwnD K C gl "__len__") (GL : FnOk P w K mg base CX0 1 gl dl ["self"] (spFLen C)) (bL : Binds K dl ["self"] []) (J3 : Cd P w K mg base 4 "_check_row" ["row"] spChkRow) : FnOk P w K mg base CX0 5 f fd ["target", "row"] (spChkRowOf C) := by
  obtain ⟨a3, d3, G3, m3, k3, b3⟩ := J3.ex
  refine F.ok scChkRowOf (fun vs H Q E h => ?_) (fun cdv A outer s H vs Q E hr h => ?_)
  · obtain ⟨x, a, m, ns, rfl, _⟩ := h
    rfl
  · obtain ⟨x, a, m, ns, rfl, hx, ea, ok, ln, q⟩ := h
    have r2 : Room 2 _ := hr.mono (by decide)
    refine ⟨_, pss_cons (ps_expr (pe_call G3 hr (by rfl) m3 k3 b3 .nil pass0 (pa_cons (pv 1) pa_nil)))
      (pss_one (ps_if (pt_cmpR op_ne (pe_callB call_len_seq (by rfl) B.len PySem.boot_len (pa_cons (pv 1) pa_nil)) (pe_callB (call_len_own (n := 1) ⟨gl, dl, DL, GL, bL⟩ r2) (by rfl) B.len PySem.boot_len (pa_cons (pv 0) pa_nil)) (nomark _)) (pss_one ps_never) pss_nil)), ?_⟩
    refine ⟨_, rfl, a, ns, rfl, ea, ok, fun H1 s1 => ?_⟩
    have hx1 := hx.keep s1
    obtain ⟨dx, st, e1, _⟩ := id hx1
    have l6 := ok.l6
    refine ⟨_, rfl, a, _, rfl, .inr (SqT.of (s1 _ _ ea)), _, rfl, x, dx, _, rfl, e1, x, m, rfl, hx1, m.length, rfl, by omega, rfl, _, rfl, ?_⟩
    rw [List.length_map, ln, decide_eq_true rfl]
    exact iteF (q _ s1)
end
end Mk

set_option Elab.async false
set_option linter.all false
set_option maxRecDepth 100000
set_option maxHeartbeats 4000000
/-! rows: cut, cut_row, is_above, stands_above, end_cost -/
namespace Mk
open PySem PySem.Spec L2 PyProof.Rows

abbrev sEndC : Stmt := top 82
abbrev nEndC : List Str := ["target", "row", "number", "_", "last"]
structure Zn (mg : Str → Option Value) : Prop where
  zip : mg "zip" = none
def selL (ns : List Int) (m : Mch) : List Int := ((ns.zip m).filter (·.2.2)).map (·.1)
def IsMin (k : Int) (ns : List Int) : Prop := k ∈ ns ∧ ∀ y ∈ ns, k ≤ y
def spEndC (C : Addr) : Sp := fun vs H Q _ => ∃ (x a : Addr) (m : Mch) (ns : List Int), vs = [.ref x, .ref a] ∧ FmAt C H x m ∧ H a = some (.tup (ns.map V.int)) ∧ RwOk ns ∧ ns.length = m.length ∧ WF m ∧ (∀ q ∈ m, q.1.length ≤ 5) ∧ selL ns m ≠ [] ∧ ∀ H' k, Same H H' → IsMin k (selL ns m) → Q (.int k) H'
theorem selL_srt : ∀ (ns : List Int) (m : Mch), selL ns (srtM m) = selL ns m
  | [], _ => rfl
  | _ :: _, [] => rfl
  | n :: ns, q :: m => by
    have ih := selL_srt ns m
    unfold selL srtM at *
    rw [List.map_cons, List.zip_cons_cons, List.zip_cons_cons, List.filter_cons, List.filter_cons]
    split
    · rw [List.map_cons, List.map_cons, ih]
    · exact ih
theorem zip_take {α β : Type} : ∀ (l : List α) (k : List β) (i : Nat) (h1 : i < l.length) (h2 : i < k.length), (l.zip k).take (i + 1) = (l.zip k).take i ++ [(l[i], k[i])] := fun l k i h1 h2 => by
  rw [List.take_add_one]
  congr 1
  rw [List.getElem?_eq_getElem (by rw [List.length_zip]; omega), List.getElem_zip]
  rfl
section
variable {P : Program} {w : World} {K : PySem.W.Frag} {mg : Str → Option Value} {base : Heap} {C CB : Addr}
theorem scEndC : FnScope nEndC ["target", "row"] (defScope sEndC) := ⟨rfl, rfl, rfl, by decide +kernel, rfl, by decide +kernel, by decide +kernel⟩
theorem ok_endC {f : Addr} {fd : FuncData} (F : Fun K "end_cost" "end_cost" sEndC f fd) (T : Fc K C) (B : Bn mg) (Zp : Zn mg) (J : Cd P w K mg base 1 "check_form" ["form"] (spChkF C)) (J2 : Cd P w K mg base 5 "_check_row_of" ["target", "row"] (spChkRowOf C))
    {p g : Addr} {fg : FuncData} (Op : PropOf K C "states" p g) (Gp : FnOk P w K mg base CX0 2 g fg ["self"] (spFSt C)) (bp : Binds K fg ["self"] []) : FnOk P w K mg base CX0 6 f fd ["target", "row"] (spEndC C) := by
  obtain ⟨a1, d1, G1, m1, k1, b1⟩ := J.ex
  obtain ⟨a2, d2, G2, m2, k2, b2⟩ := J2.ex
  refine F.ok scEndC (fun vs H Q E h => ?_) (fun cdv A outer s H vs Q E hr h => ?_)
  · obtain ⟨x, a, m, ns, rfl, _⟩ := h
    rfl
  · obtain ⟨x, a, m, ns, rfl, hx, ea, ok, ln, wf, l5, ne, q⟩ := h
    have r1 : Room 1 _ := hr.mono (by decide)
    have r3 : Room 3 _ := hr.mono (by decide)
    refine ⟨_, pss_cons (ps_expr (pe_call G1 r1 (by rfl) m1 k1 b1 .nil pass0 (pa_cons (pv 0) pa_nil)))
      (pss_cons (ps_expr (pe_call G2 hr (by rfl) m2 k2 b2 .nil pass0 (pa_cons (pv 0) (pa_cons (pv 1) pa_nil))))
      (pss_one (ps_ret (pe_callB (cr_min rfl) (by rfl) B.min (by decide +kernel) (pa_cons (pe_lc (own := [("number", 2), ("_", 3), ("last", 4)]) (g := gTup K 2 (gCons (gName 2) (gCons (gTup K 2 (gCons (gName 3) (gCons (gName 4) gNil))) gNil))) rfl scEndC.nd (pi_zipM (by rfl) Zp.zip (pa_cons (pv 1) (pa_cons (pe_prop (pv 0) T.cl Op Gp r3 bp .nil pass0 rfl) pa_nil))) (blkOk_by (N := nEndC) (sc := defScope sEndC) (by decide +kernel))
          (fun _ _ _ _ _ => pg_tup rfl (pgs_cons (pg_name (i := 2) scEndC.nd rfl (Or.inl rfl)) (pgs_cons (pg_tup rfl (pgs_cons (pg_name (i := 3) scEndC.nd rfl (Or.inl rfl)) (pgs_cons (pg_name (i := 4) scEndC.nd rfl (Or.inl rfl)) pgs_nil))) pgs_nil))) (fun _ _ _ _ _ => pts_one (pt_val (pv 4))) (fun _ _ _ _ _ => pv 2)) pa_nil))))), ?_⟩
    have lt1 : ∀ {n : Nat}, n ≤ 3999 → n < sizeLine := fun h1 => by rw [sizeLine_eq]; omega
    have l6 := ok.l6
    refine ⟨_, rfl, x, m, rfl, hx, _, rfl, _, rfl, x, a, m, ns, rfl, hx, ea, ok, ln, fun H1 s1 => ?_⟩
    have hx1 := hx.keep s1
    obtain ⟨dx, st, e1, _⟩ := id hx1
    refine ⟨_, rfl, _, rfl, x, dx, _, rfl, e1, x, m, rfl, hx1, wf, by omega, l5, fun H2 r s2 fr mr => ?_⟩
    have s12 := s1.trans s2
    obtain ⟨ss, er, pr⟩ := id mr
    have ls : ss.length = m.length := (Paired.length pr).trans (List.length_map _)
    have lz : (srtM m).length = m.length := List.length_map _
    refine ⟨.t, .t, a, r, _, _, rfl, SqT.of (s12 _ _ ea), SqT.of er, fun D hD => lc_it (walk_m (K := K) (k1 := .t) (k2 := .t) (a := a) (b := r) (xs := ns.map V.int) (ys := ss.map V.ref) (by rw [List.length_map, List.length_map, ls, ln])) (fun i H3 => Same H2 H3 ∧ H3 D = some (.lst (((((ns.zip (srtM m)).take i).filter (·.2.2)).map (·.1)).map V.int))) ⟨Same.new hD, upd_same⟩ (fun i H3 _ h3 => ⟨SqT.of (h3.1 _ _ (s12 _ _ ea)), SqT.of (h3.1 _ _ er)⟩) ?_ ?_⟩
    · rintro i z H3 H4 hi ⟨s3, e3⟩ ⟨U, x1, y1, rfl, hU, rfl, hx, hy⟩
      rw [List.length_map] at hi
      have hi2 : i < ss.length := by omega
      have hi3 : i < (srtM m).length := by omega
      obtain rfl : V.int ns[i] = x1 := by
        rw [List.getElem?_map, List.getElem?_eq_getElem hi] at hx
        exact Option.some.inj hx
      obtain rfl : V.ref ss[i] = y1 := by
        rw [List.getElem?_map, List.getElem?_eq_getElem hi2] at hy
        exact Option.some.inj hy
      obtain ⟨⟨mv, la⟩, hq, d, g1, g2⟩ := L2.paired_get pr (List.getElem?_eq_getElem hi2)
      have eq : (srtM m)[i] = (mv, la) := by
        rw [List.getElem?_eq_getElem hi3] at hq
        exact Option.some.inj hq
      have nx := zip_take ns (srtM m) i hi hi3
      rw [eq] at nx
      have s4 := s3.trans (Same.new (o := .tup [V.int ns[i], V.ref ss[i]]) hU)
      refine ⟨U, _, rfl, SqT.of upd_same, rfl, _, _, rfl, _, _, rfl, ss[i], _, rfl, SqT.of (s4 _ _ g1), rfl, _, _, rfl, _, _, rfl, rfl, rfl, ?_⟩
      refine ⟨rfl, _, rfl, _, rfl, ?_⟩
      have e4 := (Same.new (o := .tup [V.int ns[i], V.ref ss[i]]) hU) _ _ e3
      rw [nx, List.filter_append, List.map_append]
      cases la with
      | true =>
        refine iteT ⟨_, rfl, _, e4, lt1 ?_, Same.upN s4 hD, ?_⟩
        · rw [List.length_map, List.length_map]
          exact Nat.le_trans (List.length_filter_le _ _) (by rw [List.length_take, List.length_zip]; omega)
        · rw [upd_same, List.map_append]
          rfl
      | false =>
        refine iteF ⟨s4, ?_⟩
        rw [e4]
        simp
    · rintro H3 ⟨s3, e3⟩
      have e : (((ns.zip (srtM m)).take (ns.map V.int).length).filter (·.2.2)).map (·.1) = selL ns m := by
        rw [← selL_srt, List.length_map, List.take_of_length_le (by rw [List.length_zip]; omega)]
        rfl
      rw [e] at e3
      exact ⟨D, _, rfl, SqL.of e3, List.length_pos_iff.mpr ne, fun k hk hle => q _ k (s12.trans s3) ⟨hk, hle⟩⟩
end
end Mk

set_option Elab.async false
set_option linter.all false
set_option maxRecDepth 100000
set_option maxHeartbeats 4000000
/-! the urn -/
namespace Mk
open PySem PySem.Spec L2 PyProof.Rows

abbrev sUrn : Stmt := top 93
abbrev sPull : Stmt := top 94
abbrev sFrom : Stmt := top 95
abbrev nUrn : List Str := ["_law_script", "_law_at", "_law_cell", "_law_great", "_law_mixed"]
abbrev nPull : List Str := ["_law_urn_here", "_law_total", "_law_found", "_law_one", "_law_two"]
def spFrom (K : PySem.W.Frag) : Sp := fun vs H Q _ => ∃ (p a : Addr) (n : Nat) (xs : List V), vs = [.ref p, .ref a] ∧ Pot H p n ∧ n < PB ∧ a ≠ p ∧ H a = some (.lst xs) ∧ 0 < xs.length ∧ xs.length < 1000000 ∧ ∀ H' v, Nx p (n + 1) H H' → v ∈ xs → Q v H'
section
variable {P : Program} {w : World} {K : PySem.W.Frag} {mg : Str → Option Value} {base : Heap}
theorem scUrn : FnScope nUrn ["_law_script", "_law_at"] (defScope sUrn) := ⟨rfl, rfl, rfl, by decide +kernel, rfl, by decide +kernel, by decide +kernel⟩
theorem ok_urn {f : Addr} {fd : FuncData} (F : Fun K "_law_urn" "_law_urn" sUrn f fd) (B : Bn mg) : FnOk P w K mg base CX0 1 f fd ["_law_script", "_law_at"] (spFilled K) := by
  refine F.ok scUrn (fun vs H Q E h => ?_) (fun cdv A outer s H vs Q E hr h => ?_)
  · obtain ⟨a, ns, k, rfl, _⟩ := h
    rfl
  · obtain ⟨a, ns, k, rfl, hS, hl, hk, q⟩ := h
    refine ⟨_, pss_cons (ps_set (i := 2) scUrn.nd rfl (.inl rfl) (pe_ifExp (pt_cmpR op_lt (pv 1) (pe_callB call_len_seq (by rfl) B.len PySem.boot_len (pa_cons (pv 0) pa_nil)) (nomark _)) (pe_ix ix_list (pv 0) (pv 1) (fun _ _ => rfl)) (pe_op op_add (pe_op op_mul pe_int (pv 1)) pe_int)))
      (pss_cons (ps_set (i := 3) scUrn.nd rfl (.inl rfl) (pe_op op_modN (pe_callTy call_int1 (by rfl) B.int (by decide +kernel) (pa_cons (pe_callB call_abs (by rfl) B.abs (by decide +kernel) (pa_cons (pv 2) pa_nil)) pa_nil)) (pe_op op_powW (pe_op op_powW pe_int pe_int) pe_int)))
      (pss_cons (ps_set (i := 4) scUrn.nd rfl (.inl rfl) (pe_op op_add (pe_op op_mul (pe_op op_modN (pe_callTy call_int1 (by rfl) B.int (by decide +kernel) (pa_cons (pv 3) pa_nil)) pe_int) pe_int) (pe_callTy call_int1 (by rfl) B.int (by decide +kernel) (pa_cons (pe_cmpR op_lt (pv 2) pe_int (nomark _)) pa_nil))))
      (pss_one (ps_ret (pe_lst (pa_cons (pe_callB (call_max2 rfl) (by rfl) B.max (by decide +kernel) (pa_cons pe_int (pa_cons (pe_op op_sub (pv 3) (pe_op op_powW pe_int pe_int)) pa_nil))) (pa_cons (pe_op op_modN (pe_callTy call_int1 (by rfl) B.int (by decide +kernel) (pa_cons (pe_op op_add (pe_op op_add (pe_op op_mul (pv 4) pe_int) (pe_op op_mul pe_int (pv 1))) pe_int) pa_nil)) pe_int) (pa_cons pe_int pa_nil)))))))), ?_⟩
    have hpw : CPowW 10 60 := ⟨by decide, by decide +kernel⟩
    have hpw2 : CPowW (10 ^ (60 : Int).toNat) 8 := ⟨by decide, by decide +kernel⟩
    have hpw3 : CPowW 10 18 := ⟨by decide, by decide +kernel⟩
    refine ⟨_, rfl, _, rfl, a, _, rfl, .inl hS, _, _, rfl, rfl, _, rfl, ?_⟩
    refine join_e (fun z => ∃ i, z = V.int i) ?_ ?_ ?_
    · rintro _ ⟨z, rfl⟩
      refine ⟨_, rfl, _, rfl, .inl ⟨_, rfl, _, _, rfl, rfl, hpw, _, _, rfl, rfl, hpw2, _, _, rfl, rfl, nz600, ?_⟩⟩
      refine ⟨_, rfl, .inl ⟨_, rfl, _, _, rfl, rfl, (by show (2305843009213693907 : Int) ≠ 0; decide), _, _, rfl, rfl, .inr ⟨by decide, by decide⟩, ?_⟩⟩
      refine ⟨_, rfl, _, _, rfl, rfl, .inr ⟨_, rfl, _, _, rfl, rfl, ?_⟩⟩
      refine ⟨_, rfl, _, _, rfl, rfl, hpw3, _, _, rfl, rfl, _, _, rfl, ?_⟩
      refine ⟨_, rfl, _, _, rfl, rfl, .inr ⟨by decide, by decide⟩, _, rfl, _, _, rfl, rfl, .inl ⟨by decide, by decide⟩, _, _, rfl, rfl, _, _, rfl, rfl, .inl ⟨_, rfl, _, _, rfl, rfl, (by show (2305843009213693951 : Int) ≠ 0; decide), ?_⟩⟩
      refine ⟨(by show 3 ≤ sizeLine; decide), fun p hp => ?_⟩
      refine q _ p (fun b o e => ?_) hp ?_
      · rw [upd_ne (ne_of_none e hp)]
        exact e
      · have hb : (0 : Int) < (10 ^ Int.toNat 60) ^ Int.toNat 8 := by decide +kernel
        have hb2 : ((10 ^ Int.toNat 60) ^ Int.toNat 8 : Int) < 2 ^ 2000 := by decide +kernel
        generalize ((10 ^ Int.toNat 60) ^ Int.toNat 8 : Int) = N at hb hb2 ⊢
        have h1 := Int.fmod_nonneg_of_pos (if z < 0 then -z else z) hb
        have h2 := Int.fmod_lt_of_pos (if z < 0 then -z else z) hb
        generalize (if z < 0 then -z else z).fmod N = y at h1 h2 ⊢
        refine ⟨_, _, _, upd_same, ?_, ?_, Int.fmod_nonneg_of_pos _ (by decide), Int.lt_of_lt_of_le (Int.fmod_lt_of_pos _ (by decide)) (by decide), Int.le_refl _, Int.le_refl _⟩
        · split <;> omega
        · split
          · have : (0 : Int) < 10 ^ Int.toNat 18 := by decide +kernel
            omega
          · exact Int.lt_trans hb hb2
    · intro hb hC
      have hk2 : (k : Int) < ((ns.map V.int).length : Nat) := of_decide_eq_true hb
      rw [List.length_map] at hk2
      have hk3 : k < ns.length := by omega
      refine ⟨_, rfl, _, rfl, a, _, _, V.int (ns[k]'hk3), rfl, rfl, hS, atI_nat (by rw [List.getElem?_map, List.getElem?_eq_getElem hk3]; rfl), hC _ ⟨_, rfl⟩⟩
    · intro hb hC
      exact ⟨_, rfl, _, _, rfl, rfl, .inl ⟨by decide, by decide⟩, _, _, rfl, rfl, hC _ ⟨_, rfl⟩⟩
theorem scPull : FnScope nPull ["_law_urn_here", "_law_total"] (defScope sPull) := ⟨rfl, rfl, rfl, by decide +kernel, rfl, by decide +kernel, by decide +kernel⟩
theorem ok_pull {f : Addr} {fd : FuncData} (F : Fun K "_law_pull" "_law_pull" sPull f fd) (B : Bn mg) : FnOk P w K mg base CX0 1 f fd ["_law_urn_here", "_law_total"] spDip := by
  refine F.ok scPull (fun vs H Q E h => ?_) (fun cdv A outer s H vs Q E hr h => ?_)
  · obtain ⟨p, n, t, rfl, _⟩ := h
    rfl
  · obtain ⟨p, n, t, rfl, ⟨u, m, c, hp, hu0, hu1, hm0, hm1, hc0, hc1⟩, hn, ht0, ht1, q⟩ := h
    refine ⟨_, pss_cons (ps_if (pt_cmpR op_gt (pe_ix ix_list (pv 0) pe_int (fun _ _ => rfl)) pe_int (nomark _))
        (pss_cons (ps_set (i := 2) scPull.nd rfl (.inl rfl) (pe_op op_modN (pe_callTy call_int1 (by rfl) B.int (by decide +kernel) (pa_cons (pe_ix ix_list (pv 0) pe_int (fun _ _ => rfl)) pa_nil)) (pv 1)))
        (pss_cons (ps_asg (pe_op op_fdivW (pe_ix ix_list (pv 0) pe_int (fun _ _ => rfl)) (pv 1)) (pg_sub (pv 0) pe_int set_list))
        (pss_one (ps_ret (pv 2))))) pss_nil)
      (pss_cons (ps_asg (pe_op op_add (pe_ix ix_list (pv 0) pe_int (fun _ _ => rfl)) pe_int) (pg_sub (pv 0) pe_int set_list))
      (pss_cons (ps_set (i := 3) scPull.nd rfl (.inl rfl) (pe_op op_modN (pe_callTy call_int1 (by rfl) B.int (by decide +kernel) (pa_cons (pe_op op_add (pe_ix ix_list (pv 0) pe_int (fun _ _ => rfl)) (pe_op op_mulW pe_int (pe_ix ix_list (pv 0) pe_int (fun _ _ => rfl)))) pa_nil)) pe_int))
      (pss_cons (ps_set (i := 4) scPull.nd rfl (.inl rfl) (pe_op op_add (pe_op op_mulW (pe_op op_modN (pe_callTy call_int1 (by rfl) B.int (by decide +kernel) (pa_cons (pe_op op_mulW (pv 3) (pv 3)) pa_nil)) pe_int) (pv 3)) (pe_op op_mulW pe_int (pe_ix ix_list (pv 0) pe_int (fun _ _ => rfl)))))
      (pss_one (ps_ret (pe_op op_modN (pe_callTy call_int1 (by rfl) B.int (by decide +kernel) (pa_cons (pe_op op_fdivW (pe_op op_modN (pe_callTy call_int1 (by rfl) B.int (by decide +kernel) (pa_cons (pv 4) pa_nil)) pe_int) pe_int) pa_nil)) (pv 1))))))), ?_⟩
    have tnz : t ≠ 0 := by omega
    have tb : t.natAbs < 2 ^ 30 := by omega
    refine ⟨_, rfl, p, _, _, _, rfl, rfl, SqL.of hp, atI_nat (j := 0) rfl, _, _, rfl, rfl, _, rfl, ?_⟩
    refine ite2 (fun _ => ?_) (fun _ => ?_)
    · refine ⟨_, rfl, p, _, _, _, rfl, rfl, SqL.of hp, atI_nat (j := 0) rfl, .inl ⟨_, rfl, _, rfl, _, _, rfl, rfl, tnz, ?_⟩⟩
      refine ⟨_, rfl, p, _, _, _, rfl, rfl, SqL.of hp, atI_nat (j := 0) rfl, _, rfl, _, _, rfl, rfl, wide_div ht0 tb (by decide) (by decide), ?_⟩
      refine ⟨_, rfl, p, _, _, 0, rfl, rfl, hp, rfl, _, rfl, ?_⟩
      refine q _ _ (fun b o hb e => ?_) (fun b hb => ?_) ⟨_, _, _, upd_same, ?_, ?_, hm0, hm1, hc0, by omega⟩ (Int.fmod_nonneg_of_pos _ ht0) (Int.fmod_lt_of_pos _ ht0)
      · rw [upd_ne hb]; exact e
      · have : b ≠ p := fun e => by rw [e, hp] at hb; cases hb
        rw [upd_ne this]; exact hb
      · exact Int.ediv_nonneg hu0 (by omega)
      · exact Int.lt_of_le_of_lt (Int.ediv_le_self _ hu0) hu1
    · have tC1 : wide_nz 2305843009213693951 := by unfold wide_nz; decide
      refine ⟨_, rfl, p, _, _, _, rfl, rfl, SqL.of hp, atI_nat (j := 2) rfl, _, _, rfl, rfl, _, rfl, p, _, _, 2, rfl, rfl, hp, rfl, ?_⟩
      have hn' : n < 4294967296 := hn
      have hc2 : (c + 1).natAbs < 2 ^ 62 := by omega
      have hm2 : m.natAbs < 2 ^ 62 := by omega
      have hp2 : upd H p (.lst [V.int u, V.int m, V.int (c + 1)]) p = some (.lst [V.int u, V.int m, V.int (c + 1)]) := upd_same
      refine ⟨_, rfl, p, _, _, _, rfl, rfl, SqL.of hp2, atI_nat (j := 1) rfl, ?_⟩
      refine ⟨_, rfl, p, _, _, _, rfl, rfl, SqL.of hp2, atI_nat (j := 2) rfl, _, _, rfl, rfl, wide_mul (a := 62) (b := 62) (by decide) hc2 (by decide) (by decide) (by decide), ?_⟩
      refine ⟨_, _, rfl, rfl, .inl ⟨_, rfl, _, _, rfl, rfl, tC1, ?_⟩⟩
      have h1 := Int.fmod_nonneg_of_pos (m + 1000171 * (c + 1)) (show (0 : Int) < 2305843009213693951 by decide)
      have h2 := Int.fmod_lt_of_pos (m + 1000171 * (c + 1)) (show (0 : Int) < 2305843009213693951 by decide)
      have ho : ((m + 1000171 * (c + 1)).fmod 2305843009213693951).natAbs < 2 ^ 62 := by omega
      refine ⟨_, rfl, _, rfl, _, _, rfl, rfl, wide_mul (a := 62) (b := 62) ho ho (by decide) (by decide) (by decide), ?_⟩
      refine .inl ⟨_, rfl, _, _, rfl, rfl, (by show wide_nz 2305843009213693907; unfold wide_nz; decide), ?_⟩
      have h3 := Int.fmod_nonneg_of_pos (((m + 1000171 * (c + 1)).fmod 2305843009213693951) * ((m + 1000171 * (c + 1)).fmod 2305843009213693951)) (show (0 : Int) < 2305843009213693907 by decide)
      have h4 := Int.fmod_lt_of_pos (((m + 1000171 * (c + 1)).fmod 2305843009213693951) * ((m + 1000171 * (c + 1)).fmod 2305843009213693951)) (show (0 : Int) < 2305843009213693907 by decide)
      have hw : ((((m + 1000171 * (c + 1)).fmod 2305843009213693951) * ((m + 1000171 * (c + 1)).fmod 2305843009213693951)).fmod 2305843009213693907).natAbs < 2 ^ 62 := by omega
      refine ⟨_, rfl, _, _, rfl, rfl, wide_mul (a := 62) (b := 62) hw ho (by decide) (by decide) (by decide), ?_⟩
      refine ⟨_, rfl, p, _, _, _, rfl, rfl, SqL.of hp2, atI_nat (j := 2) rfl, _, _, rfl, rfl, wide_mul (a := 62) (b := 62) (by decide) hc2 (by decide) (by decide) (by decide), ?_⟩
      refine ⟨_, _, rfl, rfl, ?_⟩
      refine ⟨_, rfl, .inl ⟨_, rfl, _, _, rfl, rfl, (by show wide_nz 2305843009213693921; unfold wide_nz; decide), ?_⟩⟩
      refine ⟨_, _, rfl, rfl, wide_div (b := 30) (by decide) (by decide) (by decide) (by decide), .inl ⟨_, rfl, ?_⟩⟩
      refine ⟨_, rfl, _, _, rfl, rfl, tnz, ?_⟩
      refine q _ _ (fun b o hb e => ?_) (fun b hb => ?_) ⟨_, _, _, upd_same, hu0, hu1, hm0, hm1, by omega, by omega⟩ (Int.fmod_nonneg_of_pos _ ht0) (Int.fmod_lt_of_pos _ ht0)
      · rw [upd_ne hb]; exact e
      · have : b ≠ p := fun e => by rw [e, hp] at hb; cases hb
        rw [upd_ne this]; exact hb
theorem scFrom : FnScope ["_law_urn_here", "_law_items"] ["_law_urn_here", "_law_items"] (defScope sFrom) := ⟨rfl, rfl, rfl, by decide +kernel, rfl, by decide +kernel, by decide +kernel⟩
theorem ok_from {f : Addr} {fd : FuncData} (F : Fun K "_law_from" "_law_from" sFrom f fd) (B : Bn mg) (D : Cd P w K mg base 1 "_law_pull" ["_law_urn_here", "_law_total"] spDip) : FnOk P w K mg base CX0 2 f fd ["_law_urn_here", "_law_items"] (spFrom K) := by
  obtain ⟨d, dd, G, gm, gk, gb⟩ := D.ex
  refine F.ok scFrom (fun vs H Q E h => ?_) (fun cdv A outer s H vs Q E hr h => ?_)
  · obtain ⟨p, a, n, xs, rfl, _⟩ := h
    rfl
  · obtain ⟨p, a, n, xs, rfl, hp, hn, hap, ha, h0, h1, q⟩ := h
    refine ⟨_, pss_one (ps_ret (pe_ix ix_list (pv 1) (pe_call G hr (by rfl) gm gk gb .nil pass0 (pa_cons (pv 0) (pa_cons (pe_callB call_len_seq (by rfl) B.len PySem.boot_len (pa_cons (pv 1) pa_nil)) pa_nil))) (fun _ _ => rfl))), ?_⟩
    refine ⟨_, rfl, _, rfl, _, rfl, a, _, rfl, .inl (SqL.of ha), p, n, _, rfl, hp, hn, by omega, by omega, fun H' k hb hf hP hk0 hk1 => ?_⟩
    have hk : k.toNat < xs.length := by omega
    refine ⟨a, xs, k, xs[k.toNat], rfl, rfl, SqL.of (hb _ _ hap ha), ?_, q _ _ ⟨hb, hf, hP⟩ (List.getElem_mem hk)⟩
    exact at_ofA (j := k.toNat) (by omega) (List.getElem?_eq_getElem hk)
end
end Mk

set_option Elab.async false
set_option linter.all false
set_option maxRecDepth 100000
set_option maxHeartbeats 4000000
/-! the law's signs, the form of a plain one, its end's cost, odd values -/
namespace Mk
open PySem PySem.Spec L2 PyProof.Rows

abbrev sLForm : Stmt := top 97
structure SgZ (zs : List Str) : Prop where
  ne : zs ≠ []
  l3 : zs.length ≤ 3
  nd : zs.Nodup
  sg : ∀ z ∈ zs, sgB z = true
/-- a plain form's rows -/
def RowA (H : Hp) (r : Addr) (q : PTab × Bool) : Prop := ∃ d, H r = some (.lst [.ref d, .bl q.2]) ∧ H d = some (.dK (kvsP q.1))
def PlAt (H : Hp) (L : Addr) (m : Mch) : Prop := ∃ rs : List Addr, H L = some (.lst (rs.map V.ref)) ∧ Paired (RowA H) rs m
theorem RowA.keep {H H' : Hp} {r : Addr} {q : PTab × Bool} (k : Same H H') (h : RowA H r q) : RowA H' r q := h.imp fun d ⟨a, b⟩ => ⟨k _ _ a, k _ _ b⟩
theorem PlAt.keep {H H' : Hp} {L : Addr} {m : Mch} (k : Same H H') (h : PlAt H L m) : PlAt H' L m := h.imp fun ss ⟨a, b⟩ => ⟨k _ _ a, L2.Paired.mapP b fun _ _ e => e.keep k⟩
def spLForm (C : Addr) : Sp := fun vs H Q _ => ∃ (L : Addr) (m : Mch), vs = [.ref L] ∧ PlAt H L m ∧ GoodM m ∧ m.length ≤ 8 ∧ (∀ q ∈ m, q.1.length ≤ 5) ∧ ∀ H' x, Same H H' → H x = none → FmAt C H' x (srtM m) → Q (.ref x) H'
theorem Pot.lst {H : Hp} {p : Addr} {n : Nat} (h : Pot H p n) : ∃ xs, H p = some (.lst xs) := by
  obtain ⟨_, _, _, e, _⟩ := h
  exact ⟨_, e⟩
section
variable {P : Program} {w : World} {K : PySem.W.Frag} {mg : Str → Option Value} {base : Heap} {C CB : Addr}
theorem scLForm : FnScope ["_law_plain", "_law_row"] ["_law_plain"] (defScope sLForm) := ⟨rfl, rfl, rfl, by decide +kernel, rfl, by decide +kernel, by decide +kernel⟩
theorem ok_lForm {f fi : Addr} {fd fdi : FuncData} (F : Fun K "_law_form" "_law_form" sLForm f fd) (O : On mg) (M : L2.Mk K C fi) (G : FnOk P w K mg base CX0 5 fi fdi ["self", "states"] (spFInit C)) (b : Binds K fdi ["self", "states"] []) (Z : Kn K mg C CB) : FnOk P w K mg base CX0 7 f fd ["_law_plain"] (spLForm C) := by
  refine F.ok scLForm (fun vs H Q E h => ?_) (fun cdv A outer s H vs Q E hr h => ?_)
  · obtain ⟨L, m, rfl, _⟩ := h
    rfl
  · obtain ⟨L, m, rfl, ⟨rs, eL, pr⟩, g, l8, l5, q⟩ := h
    refine ⟨_, pss_one (ps_ret (pe_make M G hr (by rfl) Z.mC b .nil pass0 (pa_cons (pe_callTy call_tuple_of (by rfl) O.tuple (by decide +kernel) (pa_cons (pe_lc (own := [("_law_row", 1)]) (g := gName 1) (tt := tYes) rfl scLForm.nd (pi_list (pv 0)) (blkOk_by (N := ["_law_plain", "_law_row"]) (sc := defScope sLForm) (by decide +kernel))
          (fun _ _ _ _ _ => pg_name (i := 1) scLForm.nd rfl (Or.inl rfl)) (fun _ _ _ _ _ => pts_nil)
          (fun _ _ _ _ _ => pe_tup (pa_cons (pe_ix (ix_listK K) (pv 1) pe_int (fun _ _ => rfl)) (pa_cons (pe_ix (ix_listK K) (pv 1) pe_int (fun _ _ => rfl)) pa_nil)))) pa_nil)) pa_nil))), ?_⟩
    have lt1 : ∀ {n : Nat}, n ≤ 3999 → n < sizeLine := fun h1 => by rw [sizeLine_eq]; omega
    have lr : rs.length = m.length := Paired.length pr
    refine ⟨_, rfl, L, rfl, ⟨_, SqL.of eL⟩, fun D hD => wk_any (walk_list (K := K) (a := L) (xs := rs.map V.ref)) (fun i H1 => Same H H1 ∧ ∃ ts : List Addr, H1 D = some (.lst (ts.map V.ref)) ∧ Paired (StA H1) ts (m.take i)) ⟨Same.new hD, [], upd_same, .nil⟩ (fun i H1 _ h1 => SqL.of (h1.1 _ _ eL)) ?_ ?_⟩
    · rintro i x H1 H2 hi ⟨s1, ts, e1, pt⟩ ⟨rfl, hv⟩
      rw [List.length_map] at hi
      obtain ⟨⟨mv, la⟩, hq, d, g1, g2⟩ := L2.paired_get pr (List.getElem?_eq_getElem hi)
      obtain rfl : V.ref rs[i] = x := by
        rw [List.getElem?_map, List.getElem?_eq_getElem hi] at hv
        exact Option.some.inj hv
      have nx : m.take (i + 1) = m.take i ++ [(mv, la)] := by
        rw [List.take_add_one, hq]
        rfl
      have lts := Paired.length pt
      rw [List.length_take] at lts
      refine ⟨rfl, _, rfl, rs[i], _, _, V.ref d, rfl, rfl, SqL.of (s1 _ _ g1), atI_nat (j := 0) rfl, _, rfl, rs[i], _, _, V.bl la, rfl, rfl, SqL.of (s1 _ _ g1), atI_nat (j := 1) rfl, (by show 2 ≤ sizeLine; decide), fun t ht => ?_⟩
      have k3 := Same.new (o := .tup [V.ref d, V.bl la]) ht
      have es := (upd_same : upd H2 t (.tup [V.ref d, V.bl la]) t = _)
      generalize upd H2 t (.tup [V.ref d, V.bl la]) = H3 at k3 es ⊢
      have e3 := k3 _ _ e1
      refine ⟨_, e3, lt1 (by rw [List.length_map]; omega), Same.upN (s1.trans k3) hD, ts ++ [t], by rw [upd_same, List.map_append]; rfl, ?_⟩
      rw [nx]
      have kU : ∀ b o, b ≠ D → H3 b = some o → (upd H3 D (.lst (ts.map V.ref ++ [V.ref t]))) b = some o := fun b o n e => (upd_ne n).trans e
      have g2' := k3 _ _ (s1 _ _ g2)
      refine Paired.appendP (L2.Paired.mapP pt fun b q ⟨d', a1, a2⟩ => ⟨d', kU _ _ (fun c => by rw [c, e1] at a1; cases a1) (k3 _ _ a1), kU _ _ (fun c => by rw [c, e1] at a2; cases a2) (k3 _ _ a2)⟩) (.cons ⟨d, kU _ _ (fun c => by rw [c, e3] at es; cases es) es, kU _ _ (fun c => by rw [c, e3] at g2'; cases g2') g2'⟩ .nil)
    rintro H1 ⟨s1, ts, e1, pt⟩
    rw [List.length_map, lr, List.take_length] at pt
    dsimp only [tNil]
    refine ⟨D, _, rfl, .inl ⟨SqL.of e1, fun p hp => ?_⟩⟩
    have k2 := s1.trans (Same.new (o := .tup (ts.map V.ref)) hp)
    have mt : MAt (upd H1 p (.tup (ts.map V.ref))) p m := ⟨ts, upd_same, L2.Paired.mapP pt fun _ _ e => e.keep (Same.new hp)⟩
    generalize upd H1 p (.tup (ts.map V.ref)) = H3 at k2 mt ⊢
    refine fun y dy hy hdy ne => ?_
    have sN : Same H3 (upd (upd H3 dy (.own y)) y (.ins C dy [])) := fun b o e => by
      rw [upd_ne (ne_of_none e hy), upd_ne (ne_of_none e hdy)]
      exact e
    refine ⟨y, dy, p, m, rfl, upd_same, mt.keep sN, g, l8, l5, fun H4 b4 f4 => ⟨rfl, ?_⟩⟩
    exact q _ y (fun b o e => b4 _ _ (ne_of_none (k2 _ _ e) hy) (sN _ _ (k2 _ _ e))) (k2.free hy) f4
end
end Mk

set_option Elab.async false
set_option linter.all false
set_option maxRecDepth 100000
set_option maxHeartbeats 4000000
/-! odd values, is it a number -/
namespace Mk
open PySem PySem.Spec L2 PyProof.Rows

section
variable {P : Program} {w : World} {K : PySem.W.Frag} {mg : Str → Option Value} {base : Heap} {C CB : Addr}
end
end Mk

set_option Elab.async false
set_option linter.all false
set_option maxRecDepth 100000
set_option maxHeartbeats 2000000
/-! dict(enumerate(t)) of a tuple of whole numbers -/
namespace Mk
open PySem PySem.Spec PyProof.Rows L2
section
variable {prog : Program} {w : World} {A : Around} {E : Value → Shared → Prop} {s : Shared}
end
section
variable {X : Cx}
end
end Mk

set_option Elab.async false
set_option linter.all false
set_option maxRecDepth 100000
set_option maxHeartbeats 4000000
/-! values near a row -/
namespace Mk
open PySem PySem.Spec L2 PyProof.Rows

section
variable {P : Program} {w : World} {K : PySem.W.Frag} {mg : Str → Option Value} {base : Heap} {C CB : Addr}
end
end Mk

set_option Elab.async false
set_option linter.all false
set_option maxRecDepth 100000
set_option maxHeartbeats 2000000
/-! l == [] -/
namespace Mk
open PySem PySem.Spec PyProof.Rows L2
section
variable {X : Cx}
end
end Mk

set_option Elab.async false
set_option linter.all false
set_option maxRecDepth 100000
set_option maxHeartbeats 4000000
/-! judged right -/
namespace Mk
open PySem PySem.Spec L2 PyProof.Rows

theorem RowA.but {p : Addr} {n : Nat} {H H' : Hp} {r : Addr} {q : PTab × Bool} (k : But p H H') (P : Pot H p n) (h : RowA H r q) : RowA H' r q := by
  obtain ⟨u, mm, c, e, _⟩ := P
  obtain ⟨d, a, b⟩ := h
  exact ⟨d, k _ _ (fun z => by rw [z, e] at a; cases a) a, k _ _ (fun z => by rw [z, e] at b; cases b) b⟩
theorem PlAt.but {p : Addr} {n : Nat} {H H' : Hp} {L : Addr} {m : Mch} (k : But p H H') (P : Pot H p n) (hm : 1 ≤ m.length) (h : PlAt H L m) : PlAt H' L m := by
  obtain ⟨rs, a, b⟩ := h
  refine ⟨rs, k _ _ (fun z => ?_) a, L2.Paired.mapP b fun _ _ e => e.but k P⟩
  obtain ⟨u, mm, c, e, _⟩ := P
  have := Paired.length b
  rw [z, e] at a
  cases rs with
  | nil => simp at this; omega
  | cons r rs => cases a
theorem selL_mem {ns : List Int} {m : Mch} {i : Nat} (h1 : i < ns.length) (h2 : i < m.length) (h : m[i].2 = true) : ns[i] ∈ selL ns m := by
  unfold selL
  refine List.mem_map.mpr ⟨(ns[i], m[i]), List.mem_filter.mpr ⟨?_, h⟩, rfl⟩
  have hz : i < (ns.zip m).length := by rw [List.length_zip]; omega
  have e : (ns.zip m)[i] = (ns[i], m[i]) := List.getElem_zip
  rw [← e]
  exact List.getElem_mem hz
theorem lst_in {m : Mch} {j : Int} (h : lst? m j = true) : ∃ (i : Nat) (h : i < m.length), m[i].2 = true := by
  unfold lst? at h
  by_cases c : j.toNat < m.length
  · refine ⟨j.toNat, c, ?_⟩
    rw [List.getD_eq_getElem?_getD, List.getElem?_eq_getElem c] at h
    exact h
  · rw [List.getD_eq_getElem?_getD, List.getElem?_eq_none (by omega)] at h
    cases h
theorem selL_ne {m : Mch} (g : GoodM m) {ns : List Int} (ln : ns.length = m.length) : selL ns m ≠ [] := by
  have h1 := g.ne
  obtain ⟨j, _, hj⟩ := (g.rc 0 ⟨by omega, by omega⟩).2
  obtain ⟨i, hi, e⟩ := lst_in hj
  intro z
  have := selL_mem (ns := ns) (by omega) hi e
  rw [z] at this
  cases this
section
variable {P : Program} {w : World} {K : PySem.W.Frag} {mg : Str → Option Value} {base : Heap} {C CB : Addr}
end
end Mk

set_option Elab.async false
set_option linter.all false
set_option maxRecDepth 100000
set_option maxHeartbeats 4000000
/-! two rows right -/
namespace Mk
open PySem PySem.Spec L2 PyProof.Rows

theorem shaped_intsT (as : List Int) : SeqAt.shaped (.tuple (as.map .int)) = true := by
  have := shaped_ints as
  unfold SeqAt.shaped at *
  simpa [PyData.canLay0, PyData.depth] using this
section
variable {P : Program} {w : World} {K : PySem.W.Frag} {mg : Str → Option Value} {base : Heap} {C CB : Addr}
end
end Mk

set_option Elab.async false
set_option linter.all false
set_option maxRecDepth 100000
set_option maxHeartbeats 2000000
/-! plain forms: their mathematics -/
namespace Mk
open PySem L2

structure PWf (zs : List Str) (m : Mch) : Prop where
  nd : ∀ q ∈ m, (q.1.map (·.1)).Nodup
  kz : ∀ q ∈ m, ∀ p ∈ q.1, p.1 ∈ zs
  to : ∀ q ∈ m, ∀ p ∈ q.1, 0 ≤ p.2 ∧ p.2 < m.length
def rowN (m : Mch) (i : Nat) : PTab × Bool := m.getD i ([], false)
def putE (m : Mch) (i : Nat) (s : Str) (k : Int) : Mch := m.set i ((rowN m i).1 ++ [(s, k)], (rowN m i).2)
theorem rowN_at {m : Mch} {i : Nat} (h : i < m.length) : rowN m i = m[i] := by
  unfold rowN
  rw [List.getD_eq_getElem?_getD, List.getElem?_eq_getElem h]
  rfl
theorem rowN_mem {m : Mch} {i : Nat} (h : i < m.length) : rowN m i ∈ m := by
  rw [rowN_at h]
  exact List.getElem_mem h
theorem mvs_row (m : Mch) (i : Int) : mvs m i = (rowN m i.toNat).1 := rfl
theorem lst_row (m : Mch) (i : Int) : lst? m i = (rowN m i.toNat).2 := rfl
theorem putE_len {m : Mch} {i : Nat} {s : Str} {k : Int} : (putE m i s k).length = m.length := List.length_set
theorem row_set {m : Mch} {i j : Nat} {q : PTab × Bool} (h : i < m.length) : rowN (m.set i q) j = if j = i then q else rowN m j := by
  unfold rowN
  rw [List.getD_eq_getElem?_getD, List.getD_eq_getElem?_getD, List.getElem?_set]
  by_cases c : i = j
  · subst c
    rw [if_pos rfl, if_pos h, if_pos rfl]
    rfl
  · rw [if_neg c, if_neg (fun e => c e.symm)]
theorem add_row {m : Mch} {i j : Nat} {s : Str} {k : Int} (h : i < m.length) : rowN (putE m i s k) j = if j = i then ((rowN m i).1 ++ [(s, k)], (rowN m i).2) else rowN m j := row_set h
theorem add_sub {m : Mch} {i : Nat} {s : Str} {k : Int} (h : i < m.length) (j : Int) : ∀ p ∈ mvs m j, p ∈ mvs (putE m i s k) j := fun p hp => by
  rw [mvs_row] at *
  rw [add_row h]
  by_cases c : j.toNat = i
  · rw [if_pos c]
    rw [c] at hp
    exact List.mem_append_left _ hp
  · rw [if_neg c]
    exact hp
theorem Rch.mono {m m' : Mch} (h : ∀ (j : Int), ∀ p ∈ mvs m j, p ∈ mvs m' j) {i j : Int} (r : Rch m i j) : Rch m' i j := by
  induction r with
  | refl => exact .refl _
  | step _ hs ih => exact .step ih (h _ _ hs)
theorem mem_set_or {m : Mch} {i : Nat} {q r : PTab × Bool} (h : r ∈ m.set i q) : r ∈ m ∨ r = q := by
  rcases List.mem_or_eq_of_mem_set h with h | h
  · exact .inl h
  · exact .inr h
theorem PWf.add {zs : List Str} {m : Mch} (w : PWf zs m) {i : Nat} {s : Str} {k : Int} (h : i < m.length) (hs : s ∈ zs) (hn : s ∉ (rowN m i).1.map (·.1)) (hk : 0 ≤ k ∧ k < m.length) : PWf zs (putE m i s k) := by
  have hm := rowN_mem h
  refine ⟨fun q hq => ?_, fun q hq p hp => ?_, fun q hq p hp => ?_⟩
  · rcases mem_set_or hq with hq | rfl
    · exact w.nd q hq
    · rw [List.map_append]
      refine List.nodup_append.mpr ⟨w.nd _ hm, by simp, fun a ha b hb => ?_⟩
      obtain rfl := List.mem_singleton.mp hb
      intro e
      rw [e] at ha
      exact hn ha
  · rcases mem_set_or hq with hq | rfl
    · exact w.kz q hq p hp
    · rcases List.mem_append.mp hp with hp | hp
      · exact w.kz _ hm p hp
      · obtain rfl := List.mem_singleton.mp hp
        exact hs
  · rw [putE_len]
    rcases mem_set_or hq with hq | rfl
    · exact w.to q hq p hp
    · rcases List.mem_append.mp hp with hp | hp
      · exact w.to _ hm p hp
      · obtain rfl := List.mem_singleton.mp hp
        exact hk
theorem PWf.wf {zs : List Str} {m : Mch} (w : PWf zs m) (z : SgZ zs) : WF m := ⟨w.nd, fun q hq p hp => z.sg _ (w.kz q hq p hp), w.to⟩
theorem PWf.l3 {zs : List Str} {m : Mch} (w : PWf zs m) (z : SgZ zs) : ∀ q ∈ m, q.1.length ≤ 3 := fun q hq => by
  have := nd_len (l := q.1.map (·.1)) (k := zs) (w.nd q hq) fun x hx => by
    obtain ⟨p, hp, rfl⟩ := List.mem_map.mp hx
    exact w.kz q hq p hp
  rw [List.length_map] at this
  have := z.l3
  omega
/-- the states before a have been joined to the first; those from a - 1 on have no moves -/
structure Tree (m : Mch) (a : Nat) : Prop where
  rc : ∀ j : Nat, j < a → Rch m 0 (j : Int)
  em : ∀ j : Nat, a ≤ j + 1 → (rowN m j).1 = []
theorem Tree.add {m : Mch} {a i : Nat} {s : Str} (t : Tree m a) (ha : a < m.length) (hi : i < a) : Tree (putE m i s (a : Int)) (a + 1) := by
  have hl : i < m.length := by omega
  refine ⟨fun j hj => ?_, fun j hj => ?_⟩
  · have sub := add_sub (m := m) (i := i) (s := s) (k := (a : Int)) hl
    by_cases c : j < a
    · exact (t.rc j c).mono sub
    · obtain rfl : j = a := by omega
      refine .step ((t.rc i hi).mono sub) (s := s) ?_
      rw [mvs_row, add_row hl, if_pos (by omega)]
      exact List.mem_append_right _ List.mem_cons_self
  · rw [add_row hl, if_neg (by omega)]
    exact t.em j (by omega)
def Sound (m : Mch) (G : List Bool) : Prop := G.length = m.length ∧ ∀ i : Nat, G.getD i false = true → ∃ j, Rch m (i : Int) j ∧ lst? m j = true
def goods (m : Mch) (G : List Bool) (i : Nat) : List Int := ((rowN m i).1.map (·.2)).filter fun k => G.getD k.toNat false
def rnd (m : Mch) (G : List Bool) : List Bool := (List.range m.length).map fun i => G.getD i false || !(goods m G i).isEmpty
theorem sound_0 (m : Mch) : Sound m (m.map (·.2)) := by
  refine ⟨List.length_map _, fun i h => ⟨i, .refl _, ?_⟩⟩
  rw [lst_row]
  unfold rowN
  rw [List.getD_eq_getElem?_getD, List.getElem?_map] at h
  rw [List.getD_eq_getElem?_getD]
  show ((m[i]?).getD ([], false)).2 = true
  cases hm : m[i]? with
  | none => rw [hm] at h; cases h
  | some q => rw [hm] at h; exact h
theorem sound_r {zs : List Str} {m : Mch} {G : List Bool} (w : PWf zs m) (h : Sound m G) : Sound m (rnd m G) := by
  refine ⟨by unfold rnd; rw [List.length_map, List.length_range], fun i hi => ?_⟩
  unfold rnd at hi
  by_cases c : i < m.length
  · rw [List.getD_eq_getElem?_getD, List.getElem?_map, List.getElem?_range c] at hi
    have hi : (G.getD i false || !(goods m G i).isEmpty) = true := hi
    rw [Bool.or_eq_true] at hi
    rcases hi with hi | hi
    · exact h.2 i hi
    · have : ∃ k, k ∈ goods m G i := by
        cases hg : goods m G i with
        | nil => rw [hg] at hi; cases hi
        | cons k _ => exact ⟨k, List.mem_cons_self⟩
      obtain ⟨k, hk⟩ := this
      unfold goods at hk
      rw [List.mem_filter, List.mem_map] at hk
      obtain ⟨⟨p, hp, rfl⟩, hg⟩ := hk
      obtain ⟨j, r, e⟩ := h.2 _ hg
      have rg := w.to _ (rowN_mem c) p hp
      refine ⟨j, Rch.head (s := p.1) (j := p.2) ?_ ?_, e⟩
      · rw [mvs_row]
        exact hp
      · rw [Int.toNat_of_nonneg rg.1] at r
        exact r
  · rw [List.getD_eq_getElem?_getD, List.getElem?_eq_none (by rw [List.length_map, List.length_range]; omega)] at hi
    cases hi
def fin (m : Mch) (G : List Bool) : Mch := (List.range m.length).map fun i => ((rowN m i).1, (rowN m i).2 || !G.getD i false)
theorem fin_len {m : Mch} {G : List Bool} : (fin m G).length = m.length := by
  unfold fin
  rw [List.length_map, List.length_range]
theorem fin_row {m : Mch} {G : List Bool} {i : Nat} (h : i < m.length) : rowN (fin m G) i = ((rowN m i).1, (rowN m i).2 || !G.getD i false) := by
  show (fin m G).getD i ([], false) = _
  unfold fin
  rw [List.getD_eq_getElem?_getD, List.getElem?_map, List.getElem?_range h]
  rfl
theorem fin_mvs {m : Mch} {G : List Bool} (j : Int) : mvs (fin m G) j = mvs m j := by
  rw [mvs_row, mvs_row]
  by_cases c : j.toNat < m.length
  · rw [fin_row c]
  · have e1 : rowN (fin m G) j.toNat = ([], false) := by
      unfold rowN
      rw [List.getD_eq_getElem?_getD, List.getElem?_eq_none (by rw [fin_len]; omega)]
      rfl
    have e2 : rowN m j.toNat = ([], false) := by
      unfold rowN
      rw [List.getD_eq_getElem?_getD, List.getElem?_eq_none (by omega)]
      rfl
    rw [e1, e2]
theorem fin_mem {m : Mch} {G : List Bool} {q : PTab × Bool} (h : q ∈ fin m G) : ∃ q' ∈ m, q'.1 = q.1 := by
  unfold fin at h
  obtain ⟨i, hi, rfl⟩ := List.mem_map.mp h
  exact ⟨_, rowN_mem (List.mem_range.mp hi), rfl⟩
theorem fin_pw {zs : List Str} {m : Mch} {G : List Bool} (w : PWf zs m) : PWf zs (fin m G) := by
  refine ⟨fun q hq => ?_, fun q hq p hp => ?_, fun q hq p hp => ?_⟩
  · obtain ⟨q', h, e⟩ := fin_mem hq
    rw [← e]
    exact w.nd q' h
  · obtain ⟨q', h, e⟩ := fin_mem hq
    rw [← e] at hp
    exact w.kz q' h p hp
  · obtain ⟨q', h, e⟩ := fin_mem hq
    rw [← e] at hp
    rw [fin_len]
    exact w.to q' h p hp
theorem Rch.rg {zs : List Str} {m : Mch} (w : PWf zs m) {i j : Int} (r : Rch m i j) (hi : 0 ≤ i ∧ i < m.length) : 0 ≤ j ∧ j < m.length := by
  induction r with
  | refl => exact hi
  | @step j k s r hs ih =>
    rw [mvs_row] at hs
    have hj := ih
    exact w.to _ (rowN_mem (by omega)) _ hs
theorem good_fin {zs : List Str} {m : Mch} {G : List Bool} (w : PWf zs m) (z : SgZ zs) (h1 : 1 ≤ m.length) (rc : ∀ j : Nat, j < m.length → Rch m 0 (j : Int)) (sd : Sound m G) : GoodM (fin m G) := by
  refine ⟨(fin_pw w).wf z, by rw [fin_len]; exact h1, fun i hi => ?_⟩
  rw [fin_len] at hi
  have sub : ∀ (j : Int), ∀ p ∈ mvs m j, p ∈ mvs (fin m G) j := fun j p hp => by
    rw [fin_mvs]
    exact hp
  have r0 := rc i.toNat (by omega)
  rw [Int.toNat_of_nonneg hi.1] at r0
  refine ⟨r0.mono sub, ?_⟩
  cases hg : G.getD i.toNat false with
  | true =>
    obtain ⟨j, r, e⟩ := sd.2 _ hg
    rw [Int.toNat_of_nonneg hi.1] at r
    have hj := r.rg w hi
    refine ⟨j, r.mono sub, ?_⟩
    rw [lst_row] at *
    rw [fin_row (by omega), e]
    rfl
  | false =>
    refine ⟨i, .refl _, ?_⟩
    rw [lst_row, fin_row (by omega), hg]
    simp
end Mk

set_option Elab.async false
set_option linter.all false
set_option maxRecDepth 100000
set_option maxHeartbeats 2000000
/-! plain forms: their heap -/
namespace Mk
open PySem PySem.Spec L2 PyProof.Rows

theorem nodup_inj {l : List Addr} {i j : Nat} (nd : l.Nodup) (hi : i < l.length) (hj : j < l.length) (e : l[i] = l[j]) : i = j := by
  have h := List.pairwise_iff_getElem.mp nd
  rcases Nat.lt_trichotomy i j with c | c | c
  · exact absurd e (h i j hi hj c)
  · exact c
  · exact absurd e.symm (h j i hj hi c)
structure PlD (H : Hp) (rs ds : List Addr) (m : Mch) : Prop where
  lr : rs.length = m.length
  ld : ds.length = m.length
  at_ : ∀ (i : Nat) (r d : Addr) (q : PTab × Bool), rs[i]? = some r → ds[i]? = some d → m[i]? = some q → H r = some (.lst [.ref d, .bl q.2]) ∧ H d = some (.dK (kvsP q.1))
  nd : ds.Nodup
theorem PlD.get {H : Hp} {rs ds : List Addr} {m : Mch} (h : PlD H rs ds m) {i : Nat} (hi : i < m.length) : ∃ r d, rs[i]? = some r ∧ ds[i]? = some d ∧ H r = some (.lst [.ref d, .bl (rowN m i).2]) ∧ H d = some (.dK (kvsP (rowN m i).1)) := by
  have h1 : i < rs.length := by rw [h.lr]; exact hi
  have h2 : i < ds.length := by rw [h.ld]; exact hi
  have := h.at_ i rs[i] ds[i] m[i] (List.getElem?_eq_getElem h1) (List.getElem?_eq_getElem h2) (List.getElem?_eq_getElem hi)
  rw [rowN_at hi]
  exact ⟨_, _, List.getElem?_eq_getElem h1, List.getElem?_eq_getElem h2, this.1, this.2⟩
theorem PlD.map {H H' : Hp} {rs ds : List Addr} {m : Mch} (h : PlD H rs ds m) (k : ∀ b o, ((∃ d x, o = .lst [.ref d, .bl x]) ∨ ∃ t, o = .dK (kvsP t)) → H b = some o → H' b = some o) : PlD H' rs ds m :=
  ⟨h.lr, h.ld, fun i r d q e1 e2 e3 => ⟨k _ _ (.inl ⟨_, _, rfl⟩) (h.at_ i r d q e1 e2 e3).1, k _ _ (.inr ⟨_, rfl⟩) (h.at_ i r d q e1 e2 e3).2⟩, h.nd⟩
theorem PlD.keep {H H' : Hp} {rs ds : List Addr} {m : Mch} (k : Same H H') (h : PlD H rs ds m) : PlD H' rs ds m := h.map fun b o _ e => k b o e
theorem PlD.but {p : Addr} {n : Nat} {H H' : Hp} {rs ds : List Addr} {m : Mch} (k : But p H H') (P : Pot H p n) (h : PlD H rs ds m) : PlD H' rs ds m := h.map fun b o c e => by
  obtain ⟨u, mm, cc, ep, _⟩ := P
  refine k b o (fun z => ?_) e
  rw [z, ep] at e
  rcases c with ⟨d, x, rfl⟩ | ⟨t, rfl⟩
  · cases e
  · cases e
theorem PlD.nin {H : Hp} {rs ds : List Addr} {m : Mch} (h : PlD H rs ds m) {a : Addr} (ha : H a = none) : a ∉ ds := fun hm => by
  obtain ⟨i, hi⟩ := List.mem_iff_getElem?.mp hm
  have l := (List.getElem?_eq_some_iff.mp hi).1
  obtain ⟨r, d, _, e2, _, e4⟩ := h.get (i := i) (by rw [← h.ld]; exact l)
  rw [hi] at e2
  cases e2
  rw [ha] at e4
  cases e4
theorem PlD.push {H : Hp} {rs ds : List Addr} {m : Mch} (h : PlD H rs ds m) {r d : Addr} {b : Bool} (e1 : H r = some (.lst [.ref d, .bl b])) (e2 : H d = some (.dK (kvsP []))) (hn : d ∉ ds) : PlD H (rs ++ [r]) (ds ++ [d]) (m ++ [([], b)]) := by
  refine ⟨by rw [List.length_append, List.length_append, h.lr]; rfl, by rw [List.length_append, List.length_append, h.ld]; rfl, fun i r' d' q h1 h2 h3 => ?_, ?_⟩
  · by_cases c : i < m.length
    · rw [List.getElem?_append_left (by rw [h.lr]; exact c)] at h1
      rw [List.getElem?_append_left (by rw [h.ld]; exact c)] at h2
      rw [List.getElem?_append_left c] at h3
      exact h.at_ i r' d' q h1 h2 h3
    · have l3 := (List.getElem?_eq_some_iff.mp h3).1
      rw [List.length_append] at l3
      have l3 : i < m.length + 1 := l3
      obtain rfl : i = m.length := by omega
      rw [List.getElem?_append_right (by rw [h.lr]; exact Nat.le_refl _), h.lr, Nat.sub_self] at h1
      rw [List.getElem?_append_right (by rw [h.ld]; exact Nat.le_refl _), h.ld, Nat.sub_self] at h2
      rw [List.getElem?_append_right (Nat.le_refl _), Nat.sub_self] at h3
      cases h1
      cases h2
      cases h3
      exact ⟨e1, e2⟩
  · refine List.nodup_append.mpr ⟨h.nd, by simp, fun a ha b' hb => ?_⟩
    obtain rfl := List.mem_singleton.mp hb
    intro e
    rw [e] at ha
    exact hn ha
theorem PlD.put {H : Hp} {rs ds : List Addr} {m : Mch} (h : PlD H rs ds m) {i : Nat} (hi : i < m.length) {d : Addr} (hd : ds[i]? = some d) (t : PTab) : PlD (upd H d (.dK (kvsP t))) rs ds (m.set i (t, (rowN m i).2)) := by
  obtain ⟨r0, d0, e1, e2, e3, e4⟩ := h.get hi
  rw [hd] at e2
  cases e2
  refine ⟨by rw [List.length_set]; exact h.lr, by rw [List.length_set]; exact h.ld, fun j r' d' q h1 h2 h3 => ?_, h.nd⟩
  rw [List.getElem?_set] at h3
  by_cases c : i = j
  · subst c
    rw [if_pos rfl, if_pos hi] at h3
    cases h3
    rw [e1] at h1
    rw [hd] at h2
    cases h1
    cases h2
    refine ⟨?_, upd_same⟩
    rw [upd_ne (fun z => by rw [z, e4] at e3; cases e3)]
    exact e3
  · rw [if_neg c] at h3
    obtain ⟨x1, x2⟩ := h.at_ j r' d' q h1 h2 h3
    have nd' : d' ≠ d := fun z => by
      rw [z] at h2
      have l1 := (List.getElem?_eq_some_iff.mp hd)
      have l2 := (List.getElem?_eq_some_iff.mp h2)
      exact c ((nodup_inj h.nd l1.1 l2.1 (l1.2.trans l2.2.symm)))
    refine ⟨?_, ?_⟩
    · rw [upd_ne (fun z => by rw [z, e4] at x1; cases x1)]
      exact x1
    · rw [upd_ne nd']
      exact x2
theorem valP_is (t : PTab) (s : Str) : (valV (kvsP t) (Sum.inr s)).isSome = decide (s ∈ t.map (·.1)) := by
  by_cases c : s ∈ t.map (·.1)
  · rw [valP c, decide_eq_true c]
    rfl
  · rw [decide_eq_false c]
    unfold valV
    rw [Option.isSome_map]
    rw [Bool.eq_false_iff]
    intro h
    obtain ⟨x, hx⟩ := Option.isSome_iff_exists.mp h
    have h1 := List.mem_of_find?_eq_some hx
    have h2 := List.find?_some hx
    have h2 : decide (x.1 = Sum.inr s) = true := h2
    rw [decide_eq_true_eq] at h2
    have h3 : x.1 ∈ (kvsP t).map (·.1) := List.mem_map.mpr ⟨x, h1, rfl⟩
    rw [kvsP_keys, h2] at h3
    obtain ⟨y, hy, e⟩ := List.mem_map.mp h3
    cases e
    exact c hy
/-- what holds between the loops -/
structure MidP (H0 H : Hp) (p D : Addr) (k : Nat) (rs ds : List Addr) (zs : List Str) (m : Mch) : Prop where
  b : But p H0 H
  pt : Pot H p k
  l : H D = some (.lst (rs.map V.ref))
  pl : PlD H rs ds m
  w : PWf zs m
theorem MidP.go {H0 H H' : Hp} {p D : Addr} {k k' : Nat} {rs ds : List Addr} {zs : List Str} {m : Mch} (h : MidP H0 H p D k rs ds zs m) (bt : But p H H') (P : Pot H' p k') (hD : D ≠ p) : MidP H0 H' p D k' rs ds zs m :=
  ⟨h.b.trans bt, P, bt _ _ hD h.l, h.pl.but bt h.pt, h.w⟩
theorem MidP.put {H0 H : Hp} {p D : Addr} {k : Nat} {rs ds : List Addr} {zs : List Str} {m : Mch} (h : MidP H0 H p D k rs ds zs m) (fr : ∀ d ∈ ds, H0 d = none) (h0 : H0 p ≠ none) (hD : D ∉ ds) {i : Nat} (hi : i < m.length) {d : Addr} (hd : ds[i]? = some d) {s : Str} {j : Int} (hs : s ∈ zs) (hn : s ∉ (rowN m i).1.map (·.1)) (hj : 0 ≤ j ∧ j < m.length) :
    MidP H0 (upd H d (.dK (L2.putK (kvsP (rowN m i).1) (Sum.inr s) (V.int j)))) p D k rs ds zs (putE m i s j) := by
  have md := List.mem_of_getElem? hd
  have dp : p ≠ d := fun e => h0 (e ▸ fr d md)
  refine ⟨fun b o nb e => ?_, h.pt.up dp, ?_, ?_, h.w.add hi hs hn hj⟩
  · rw [upd_ne (ne_of_none e (fr d md))]
    exact h.b b o nb e
  · have nD : D ≠ d := fun z => hD (by rw [z]; exact md)
    rw [upd_ne nD]
    exact h.l
  · rw [putP_new hn]
    exact h.pl.put hi hd _
end Mk

set_option Elab.async false
set_option linter.all false
set_option maxRecDepth 100000
set_option maxHeartbeats 8000000
/-! plain forms: the def -/
namespace Mk
open PySem PySem.Spec L2 PyProof.Rows

abbrev sPF : Stmt := top 96
abbrev nPF : List Str := ["_law_urn_here", "_law_signs", "_law_most", "_law_count", "_law_at", "_law_rows", "_law_spot", "_law_sign", "_law_row", "_law_good", "_law_turn", "_law_one", "_law_to"]
def spPF : Sp := fun vs H Q _ => ∃ (p S : Addr) (n most : Nat) (zs : List Str), vs = [.ref p, .ref S, .int most] ∧ Pot H p n ∧ n + 200 < PB ∧ 1 ≤ most ∧ most ≤ 4 ∧ S ≠ p ∧ H S = some (.lst (zs.map V.str)) ∧ SgZ zs ∧
  ∀ H' L m, But p H H' → Pot H' p (n + 200) → H L = none → PlAt H' L m → GoodM m → m.length ≤ 4 → (∀ q ∈ m, q.1.length ≤ 3) → (∀ q ∈ m, ∀ p ∈ q.1, p.1 ∈ zs) → Q (.ref L) H'
abbrev scG : Scope := { kind := .function, names := [(".0", .local), ("_law_at", .local), ("_law_row", .local), ("_law_good", .cell)], isGenerator := false, isCoroutine := false }
theorem lstne {ts : List Addr} {d : Addr} {x : Bool} (h : some (HO.lst (ts.map V.ref)) = some (HO.lst [V.ref d, V.bl x])) : False := by
  have h := Option.some.inj h
  injection h with h
  cases ts with
  | nil => cases h
  | cons r1 ts =>
    cases ts with
    | nil => cases h
    | cons r2 ts => cases h
section
variable {X : Cx}
theorem op_neDK (K : PySem.W.Frag) (hu : X.A.units + 64 < cLine) (hK : X.K = K := by rfl) : OpR X (compareOp .NotEq) (rNeD K) := by
  subst hK
  exact op_neD hu
end
section
variable {P : Program} {w : World} {K : PySem.W.Frag} {mg : Str → Option Value} {base : Heap} {C CB : Addr}
theorem scPF : FnScope nPF ["_law_urn_here", "_law_signs", "_law_most"] (defScope sPF) := ⟨rfl, rfl, rfl, by decide +kernel, rfl, by decide +kernel, by decide +kernel⟩
theorem ok_pf {f : Addr} {fd : FuncData} (F : Fun K "_law_plain_form" "_law_plain_form" sPF f fd) (B : Bn mg) (En : mg "enumerate" = none) (D1 : Cd P w K mg base 1 "_law_pull" ["_law_urn_here", "_law_total"] spDip) (D2 : Cd P w K mg base 2 "_law_from" ["_law_urn_here", "_law_items"] (spFrom K)) : FnOk P w K mg base CX0 3 f fd ["_law_urn_here", "_law_signs", "_law_most"] spPF := by
  obtain ⟨a1, d1, G1, m1, k1, b1⟩ := D1.ex
  obtain ⟨a2, d2, G2, m2, k2, b2⟩ := D2.ex
  refine F.ok scPF (fun vs H Q E h => ?_) (fun cdv A outer s H vs Q E hr h => ?_)
  · obtain ⟨p, S, n, most, zs, rfl, _⟩ := h
    rfl
  · have hu := hu_of hr
    have h64 : A.units + 3 + 64 < cLine := by
      have h2 : A.units + 3 + 16 * 2 + 200 < cLine := hr.un
      omega
    obtain ⟨p, S, n, most, zs, rfl, hp, hn, ho1, ho4, hSp, eS, sz, q⟩ := h
    have r1 : Room 1 _ := hr.mono (by decide)
    refine ⟨_, pss_cons (ps_set (i := 3) scPF.nd rfl (.inl rfl) (pe_op op_add pe_int (pe_call G1 r1 (by rfl) m1 k1 b1 .nil pass0 (pa_cons (pv 0) (pa_cons (pv 2) pa_nil)))))
      (pss_cons (ps_set (i := 5) scPF.nd rfl (.inr rfl) (pe_lc (own := [("_law_at", 4)]) (g := gName 4) (tt := tYes) rfl scPF.nd (pi_range1 (by rfl) B.range (pa_cons (pv 3) pa_nil)) (blkOk_by (N := nPF) (sc := defScope sPF) (by decide +kernel))
          (fun _ _ _ _ _ => pg_name (i := 4) scPF.nd rfl (Or.inl rfl)) (fun _ _ _ _ _ => pts_nil)
          (fun _ _ _ _ _ => pe_lst (pa_cons pe_dnewK (pa_cons (pe_cmpR op_eq (pe_call G1 r1 (by rfl) m1 k1 b1 .nil pass0 (pa_cons (pv 0) (pa_cons pe_int pa_nil))) pe_int (nomark _)) pa_nil)))))
      (pss_cons (ps_for PassesOwn.never rfl (pi_range2 (by rfl) B.range (pa_cons pe_int (pa_cons (pv 3) pa_nil))) (pg_name (i := 4) scPF.nd rfl (.inl rfl))
          (pss_cons (ps_set (i := 6) scPF.nd rfl (.inr rfl) (pe_call G1 r1 (by rfl) m1 k1 b1 .nil pass0 (pa_cons (pv 0) (pa_cons (pv 4) pa_nil))))
          (pss_cons (ps_set (i := 6) scPF.nd rfl (.inr rfl) (pe_ifExp (pt_cmpR op_lt (pe_callB call_lenD (by rfl) B.len PySem.boot_len (pa_cons (pe_ix ix_list (pe_ix ix_list (pv 5) (pv 6) (fun _ _ => rfl)) pe_int (fun _ _ => rfl)) pa_nil)) (pe_callB call_len_seq (by rfl) B.len PySem.boot_len (pa_cons (pv 1) pa_nil)) (nomark _)) (pv 6) (pe_op op_sub (pv 4) pe_int)))
          (pss_cons (ps_set (i := 7) scPF.nd rfl (.inl rfl) (pe_call G2 hr (by rfl) m2 k2 b2 .nil pass0 (pa_cons (pv 0) (pa_cons (pe_lc (own := [("_law_one", 11)]) (g := gName 11) rfl scPF.nd (pi_list (pv 1)) (blkOk_by (N := nPF) (sc := defScope sPF) (by decide +kernel))
            (fun _ _ _ _ _ => pg_name (i := 11) scPF.nd rfl (Or.inl rfl)) (fun _ _ _ _ _ => pts_one (pt_cmp (pc_dnotin hu (pv 11) (pe_ix (ix_listK K) (pe_ix (ix_listK K) (pv 5) (pv 6) (fun _ _ => rfl)) pe_int (fun _ _ => rfl))))) (fun _ _ _ _ _ => pv 11)) pa_nil))))
          (pss_one (ps_dput hu (pe_ix ix_list (pe_ix ix_list (pv 5) (pv 6) (fun _ _ => rfl)) pe_int (fun _ _ => rfl)) (pv 7) (pv 4) rfl))))))
      (pss_cons (ps_for PassesOwn.never rfl (pi_list (pv 5)) (pg_name (i := 8) scPF.nd rfl (.inl rfl))
          (pss_one (ps_for PassesOwn.never rfl (pi_list (pv 1)) (pg_name (i := 7) scPF.nd rfl (.inl rfl))
            (pss_one (ps_if (PW.pt (pw_and (pt_cmp (pc_dnotin hu (pv 7) (pe_ix ix_list (pv 8) pe_int (fun _ _ => rfl)))) (pw_and1 (pt_cmpR op_eq (pe_call G1 r1 (by rfl) m1 k1 b1 .nil pass0 (pa_cons (pv 0) (pa_cons pe_int pa_nil))) pe_int (nomark _)))))
              (pss_one (ps_dput hu (pe_ix ix_list (pv 8) pe_int (fun _ _ => rfl)) (pv 7) (pe_call G1 r1 (by rfl) m1 k1 b1 .nil pass0 (pa_cons (pv 0) (pa_cons (pv 3) pa_nil))) rfl)) pss_nil)))))
      (pss_cons (ps_set (i := 9) scPF.nd rfl (.inr rfl) (pe_lc (own := [("_law_row", 8)]) (g := gName 8) (tt := tYes) rfl scPF.nd (pi_list (pv 5)) (blkOk_by (N := nPF) (sc := defScope sPF) (by decide +kernel))
          (fun _ _ _ _ _ => pg_name (i := 8) scPF.nd rfl (Or.inl rfl)) (fun _ _ _ _ _ => pts_nil) (fun _ _ _ _ _ => pe_ix (ix_listK K) (pv 8) pe_int (fun _ _ => rfl))))
      (pss_cons (ps_for PassesOwn.never rfl (pi_range1 (by rfl) B.range (pa_cons (pv 3) pa_nil)) (pg_name (i := 10) scPF.nd rfl (.inl rfl))
          (pss_one (ps_set (i := 9) scPF.nd rfl (.inr rfl) (pe_lc (own := [("_law_at", 4), ("_law_row", 8)]) (g := gTup K 2 (gCons (gName 4) (gCons (gName 8) gNil))) (tt := tYes) rfl scPF.nd (pi_enum (by rfl) En (pa_cons (pv 5) pa_nil)) (blkOk_by (N := nPF) (sc := defScope sPF) (by decide +kernel))
            (fun _ _ _ _ _ => pg_tup rfl (pgs_cons (pg_name (i := 4) scPF.nd rfl (Or.inl rfl)) (pgs_cons (pg_name (i := 8) scPF.nd rfl (Or.inl rfl)) pgs_nil))) (fun _ _ _ _ _ => pts_nil)
            (fun _ _ _ _ _ => pe_or (pe_ix (ix_listK K) (pv 9) (pv 4) (fun _ _ => rfl)) (pe_one (pe_cmpR (op_neDK K h64) (pe_lock (pe_lc (own := [("_law_to", 12)]) (g := gName 12) rfl scPF.nd (pi_values (pe_ix (ix_listK K) (pv 8) pe_int (fun _ _ => rfl))) (blkOk_by (N := nPF) (sc := scG) (by decide +kernel))
              (fun _ _ _ _ _ => pg_name (i := 12) scPF.nd rfl (Or.inl rfl)) (fun _ _ _ _ _ => pts_one (pt_val (pe_ix (ix_listK K) (pv 9) (pv 12) (fun _ _ => rfl)))) (fun _ _ _ _ _ => pv 12))) (pe_lst pa_nil) (nomark _))))))))
      (pss_one (ps_ret (pe_lc (own := [("_law_at", 4), ("_law_row", 8)]) (g := gTup K 2 (gCons (gName 4) (gCons (gName 8) gNil))) (tt := tYes) rfl scPF.nd (pi_enum (by rfl) En (pa_cons (pv 5) pa_nil)) (blkOk_by (N := nPF) (sc := defScope sPF) (by decide +kernel))
            (fun _ _ _ _ _ => pg_tup rfl (pgs_cons (pg_name (i := 4) scPF.nd rfl (Or.inl rfl)) (pgs_cons (pg_name (i := 8) scPF.nd rfl (Or.inl rfl)) pgs_nil))) (fun _ _ _ _ _ => pts_nil)
            (fun _ _ _ _ _ => pe_lst (pa_cons (pe_ix (ix_listK K) (pv 8) pe_int (fun _ _ => rfl)) (pa_cons (pe_or (pe_ix (ix_listK K) (pv 8) pe_int (fun _ _ => rfl)) (pe_one (pe_not (pe_ix (ix_listK K) (pv 9) (pv 4) (fun _ _ => rfl))))) pa_nil))))))))))), ?_⟩
    have lt1 : ∀ {n : Nat}, n ≤ 3999 → n < sizeLine := fun h1 => by rw [sizeLine_eq]; omega
    have nar : ∀ {n : Nat}, n ≤ 3999 → n ≤ sizeLine := fun h1 => by rw [sizeLine_eq]; omega
    have potS : ∀ {H H' : Hp} {k : Nat}, Pot H p k → Same H H' → Pot H' p k := fun ⟨a, b, c, e, r⟩ k => ⟨a, b, c, k _ _ e, r⟩
    have h0p : H p ≠ none := by
      obtain ⟨u, mm, c, e, _⟩ := hp
      rw [e]
      exact fun z => nomatch z
    refine ⟨_, rfl, _, rfl, p, n, _, rfl, hp, by omega, by omega, by omega, fun H1 cn hb1 hf1 P1 c0 c1 => ⟨_, _, rfl, rfl, ?_⟩⟩
    obtain ⟨k, rfl⟩ : ∃ k : Nat, cn = (k : Int) := ⟨cn.toNat, by omega⟩
    have eS1 := hb1 _ _ hSp eS
    refine ⟨_, rfl, _, rfl, by omega, by omega, fun D hD => ?_⟩
    have hDp : D ≠ p := (P1.ne hD).symm
    have hD0 : H D = none := by
      cases hh : H D with
      | none => rfl
      | some o => rw [hb1 _ _ hDp hh] at hD; cases hD
    have DS : S ≠ D := ne_of_none eS1 hD
    refine lc_range (lo := 0) (n := 1 + k) (fun i H2 => ∃ (rs ds : List Addr) (m : Mch), But p H H2 ∧ Pot H2 p (n + 1 + i) ∧ H2 D = some (.lst (rs.map V.ref)) ∧ PlD H2 rs ds m ∧ m.length = i ∧ (∀ q ∈ m, q.1 = []) ∧ (∀ d ∈ ds, H d = none) ∧ D ∉ ds) ⟨[], [], [], But.up hb1 hD0, P1.up hDp.symm, upd_same, ⟨rfl, rfl, fun i r d q h _ _ => (nomatch (h : (none : Option Addr) = some r)), List.nodup_nil⟩, rfl, (fun q h => nomatch h), (fun d h => nomatch h), (fun h => nomatch h)⟩ ?_ ?_
    · rintro i H2 hi ⟨rs, ds, m, hB, hP, e1, pl, lm, em, fr, nD⟩
      refine ⟨rfl, fun d hd => ?_⟩
      have dp : p ≠ d := hP.ne hd
      have dD : D ≠ d := ne_of_none e1 hd
      refine ⟨_, rfl, p, _, _, rfl, hP.up dp, by omega, by decide, by decide, fun H3 b3 hb3 hf3 P3 b0 b9 => ?_⟩
      refine ⟨rfl, nar (by show 2 ≤ 3999; decide), fun r hr => ?_⟩
      have s2 := Same.new (o := .dK []) hd
      have e3 := hb3 _ _ hDp (s2 _ _ e1)
      have ed3 := hb3 _ _ dp.symm (upd_same : upd H2 d (.dK []) d = _)
      have pl3 := (pl.keep s2).but hb3 (hP.up dp)
      have s4 := Same.new (o := .lst [V.ref d, V.bl (decide (V.int b3 = V.int 0))]) hr
      have rD : D ≠ r := ne_of_none e3 hr
      have er : (upd H3 r (.lst [V.ref d, V.bl (decide (V.int b3 = V.int 0))])) r = _ := upd_same
      have e4 := s4 _ _ e3
      have ed4 := s4 _ _ ed3
      have pl4 := pl3.keep s4
      have P4 := potS P3 s4
      have B4 : But p H (upd H3 r (.lst [V.ref d, V.bl (decide (V.int b3 = V.int 0))])) := ((hB.trans (But.of_same s2)).trans hb3).trans (But.of_same s4)
      generalize upd H3 r (.lst [V.ref d, V.bl (decide (V.int b3 = V.int 0))]) = H4 at e4 ed4 pl4 P4 B4 er ⊢
      have hd0 : H d = none := by
        cases hh : H d with
        | none => rfl
        | some o => rw [hB _ _ dp.symm hh] at hd; cases hd
      have nin : d ∉ ds := pl.nin hd
      have lrs := pl.lr
      have kU : ∀ b o, b ≠ D → H4 b = some o → (upd H4 D (.lst (rs.map V.ref ++ [V.ref r]))) b = some o := fun b o nb e => (upd_ne nb).trans e
      refine ⟨_, e4, lt1 (by rw [List.length_map]; omega), rs ++ [r], ds ++ [d], m ++ [([], decide (V.int b3 = V.int 0))], fun b o nb e => kU _ _ (ne_of_none e hD0) (B4 b o nb e), P4.up hDp.symm, by rw [upd_same, List.map_append]; rfl, ?_, by rw [List.length_append, lm]; rfl, fun q hq => ?_, fun a ha => ?_, fun h => ?_⟩
      · refine PlD.push (pl4.map fun b o c e => kU _ _ (fun z => ?_) e) (kU _ _ rD.symm er) (kU _ _ dD.symm ed4) nin
        rw [z, e4] at e
        rcases c with ⟨d', x, rfl⟩ | ⟨t, rfl⟩
        · have e := (Option.some.inj e)
          injection e with e
          cases rs with
          | nil => cases e
          | cons r1 rs =>
            cases rs with
            | nil => cases e
            | cons r2 rs => cases e
        · cases e
      · rcases List.mem_append.mp hq with hq | hq
        · exact em q hq
        · rw [List.mem_singleton.mp hq]
      · rcases List.mem_append.mp ha with ha | ha
        · exact fr a ha
        · rw [List.mem_singleton.mp ha]
          exact hd0
      · rcases List.mem_append.mp h with h | h
        · exact nD h
        · exact dD (List.mem_singleton.mp h)
    rintro H2 ⟨rs, ds, m0, hB, hP, e1, pl, lm, em, fr, nD⟩
    have eS2 := hB _ _ hSp eS
    have M0 : MidP H H2 p D (n + 1 + (1 + k)) rs ds zs m0 := ⟨hB, hP, e1, pl, ⟨(fun q hq => by rw [em q hq]; exact List.nodup_nil), (fun q hq x hx => by rw [em q hq] at hx; cases hx), (fun q hq x hx => by rw [em q hq] at hx; cases hx)⟩⟩
    have T0 : Tree m0 1 := ⟨fun j hj => by
      obtain rfl : j = 0 := by omega
      exact .refl _, fun j _ => by
      by_cases c : j < m0.length
      · exact em _ (rowN_mem c)
      · unfold rowN
        rw [List.getD_eq_getElem?_getD, List.getElem?_eq_none (by omega)]
        rfl⟩
    clear hB hP e1 pl em hD hb1 hf1 P1 eS1
    have zl := List.length_pos_iff.mpr sz.ne
    refine ⟨_, rfl, _, _, rfl, ⟨by decide, by decide, by omega, by omega⟩, for_range (lo := 1) (n := Int.toNat _) (fun i σ H3 => ∃ m o4 o6 o7, σ = [some (.ref p), some (.ref S), some (.int most), some (.int (1 + (k : Int))), o4, some (.ref D), o6, o7, none, none, none, none, none] ∧ MidP H H3 p D (n + 1 + (1 + k) + 2 * i) rs ds zs m ∧ Tree m (1 + i) ∧ m.length = 1 + k) ⟨m0, _, _, _, rfl, M0, T0, lm⟩ ?_ ?_⟩
    · rintro i σ H3 hi ⟨m, o4, o6, o7, rfl, M, T, lm⟩
      have hik : i < k := by omega
      refine ⟨_, rfl, _, rfl, p, _, _, rfl, M.pt, by omega, by omega, by omega, fun H4 sp hb4 hf4 P4 s0 s1 => ?_⟩
      obtain ⟨sn, rfl⟩ : ∃ sn : Nat, sp = (sn : Int) := ⟨sp.toNat, by omega⟩
      have M4 := M.go hb4 P4 hDp
      have eS4 := M4.b _ _ hSp eS
      have at_D : ∀ {j : Nat} {r : Addr}, rs[j]? = some r → atI (rs.map V.ref) (j : Int) = some (.ref r) := fun {j r} e => atI_nat (by rw [List.getElem?_map, e]; rfl)
      obtain ⟨r, d, hr, hd, er, ed⟩ := M4.pl.get (i := sn) (by omega)
      refine ⟨_, rfl, _, rfl, D, _, _, _, rfl, rfl, SqL.of M4.l, at_D hr, r, _, _, _, rfl, rfl, SqL.of er, atI_nat (j := 0) rfl, d, _, rfl, ed, ?_⟩
      refine ⟨_, rfl, S, _, rfl, .inl (SqL.of eS4), _, _, rfl, rfl, _, rfl, ?_⟩
      refine join_e (fun z => ∃ s : Nat, z = V.int s ∧ s < 1 + i ∧ (rowN m s).1.length < zs.length) ?_ ?_ ?_
      · rintro _ ⟨s, rfl, hs, hl⟩
        obtain ⟨r, d, hr, hd, er, ed⟩ := M4.pl.get (i := s) (by omega)
        refine ⟨_, rfl, _, rfl, S, rfl, ⟨_, SqL.of eS4⟩, fun Q1 hQ1 => lc_it (walk_list (K := K) (a := S) (xs := zs.map V.str)) (fun j H5 => Same H4 H5 ∧ H5 Q1 = some (.lst (((zs.take j).filter fun s' => !decide (s' ∈ (rowN m s).1.map (·.1))).map V.str))) ⟨Same.new hQ1, upd_same⟩ (fun j H5 _ h5 => SqL.of (h5.1 _ _ eS4)) ?_ ?_⟩
        · rintro j x H5 H6 hj ⟨s5, e5⟩ ⟨rfl, hx⟩
          rw [List.length_map] at hj
          obtain rfl : V.str zs[j] = x := by
            rw [List.getElem?_map, List.getElem?_eq_getElem hj] at hx
            exact Option.some.inj hx
          have nx : zs.take (j + 1) = zs.take j ++ [zs[j]] := by
            rw [List.take_add_one, List.getElem?_eq_getElem hj]
            rfl
          refine ⟨rfl, _, rfl, _, rfl, _, rfl, D, _, _, _, rfl, rfl, SqL.of (s5 _ _ M4.l), at_D hr, r, _, _, _, rfl, rfl, SqL.of (s5 _ _ er), atI_nat (j := 0) rfl, d, _, rfl, DGet.k (k := Sum.inr zs[j]) (s5 _ _ ed), _, rfl, ?_⟩
          rw [valP_is, nx, List.filter_append]
          have ll : ((zs.take j).filter fun s' => !decide (s' ∈ (rowN m s).1.map (·.1))).length ≤ 3999 := Nat.le_trans (List.length_filter_le _ _) (by rw [List.length_take]; have := sz.l3; omega)
          by_cases c : zs[j] ∈ (rowN m s).1.map (·.1)
          · rw [decide_eq_true c]
            refine iteF ⟨s5, ?_⟩
            rw [e5]
            simp [c]
          · rw [decide_eq_false c]
            refine iteT ⟨_, rfl, _, e5, lt1 (by rw [List.length_map]; exact ll), Same.upN s5 hQ1, ?_⟩
            rw [upd_same]
            simp [c]
        · rintro H5 ⟨s5, e5⟩
          rw [List.length_map, List.take_length] at e5
          have M5 := M4.go (But.of_same s5) (potS M4.pt s5) hDp
          have Qp : Q1 ≠ p := (M4.pt.ne hQ1).symm
          have ex : ∃ s' ∈ zs, s' ∉ (rowN m s).1.map (·.1) := by
            refine Classical.byContradiction fun hno => ?_
            have := nd_len (l := zs) (k := (rowN m s).1.map (·.1)) sz.nd fun x hx => Classical.byContradiction fun hc => hno ⟨x, hx, hc⟩
            rw [List.length_map] at this
            omega
          obtain ⟨w0, hw0, hw1⟩ := ex
          have pos : 0 < ((zs.filter fun s' => !decide (s' ∈ (rowN m s).1.map (·.1))).map V.str).length := by
            rw [List.length_map]
            exact List.length_pos_of_mem (List.mem_filter.mpr ⟨hw0, by rw [decide_eq_false hw1]; rfl⟩)
          have small : ((zs.filter fun s' => !decide (s' ∈ (rowN m s).1.map (·.1))).map V.str).length < 1000000 := by
            rw [List.length_map]
            exact Nat.lt_of_le_of_lt (List.length_filter_le _ _) (by have := sz.l3; omega)
          refine ⟨p, Q1, _, _, rfl, M5.pt, by omega, Qp, e5, pos, small, fun H6 v kx hv => ?_⟩
          obtain ⟨sg, hsg, rfl⟩ := List.mem_map.mp hv
          obtain ⟨hz, hn⟩ := List.mem_filter.mp hsg
          have hn : sg ∉ (rowN m s).1.map (·.1) := by simpa using hn
          have M6 := M5.go kx.but kx.pot hDp
          obtain ⟨r', d', hr', hd', er', ed'⟩ := M6.pl.get (i := s) (by omega)
          have l3 := M6.w.l3 sz _ (rowN_mem (m := m) (i := s) (by omega))
          refine ⟨_, rfl, _, rfl, _, rfl, D, _, _, _, rfl, rfl, SqL.of M6.l, at_D hr', r', _, _, _, rfl, rfl, SqL.of er', atI_nat (j := 0) rfl, _, rfl, d', _, rfl, DPut.k (k := Sum.inr sg) ed' (lt1 (by rw [kvsP_len]; omega)), ?_⟩
          have ej : (1 + (i : Int)) = ((1 + i : Nat) : Int) := by omega
          have M7 := M6.put fr h0p nD (by omega) hd' (j := 1 + (i : Int)) hz hn ⟨by omega, by omega⟩
          refine ⟨_, _, _, _, rfl, ⟨M7.b, M7.pt.mono (by omega), M7.l, M7.pl, M7.w⟩, ?_, by rw [putE_len]; exact lm⟩
          rw [ej]
          exact T.add (by omega) hs
      · intro hb hC
        refine ⟨_, rfl, hC _ ⟨sn, rfl, by omega, ?_⟩⟩
        have := of_decide_eq_true hb
        rw [kvsP_len, List.length_map] at this
        omega
      · intro hb hC
        refine ⟨_, rfl, _, _, rfl, rfl, hC _ ⟨i, ?_, by omega, ?_⟩⟩
        · show V.int (1 + (i : Int) - 1) = V.int i
          rw [show (1 + (i : Int) - 1) = i from by omega]
        · rw [T.em i (by omega)]
          exact zl
    rintro σ H3 ⟨m1, o4, o6, o7, rfl, M1, T1, lm1⟩
    rw [show ((1 + (k : Int)) - 1).toNat = k from by omega] at M1 T1
    have rc1 : ∀ j : Nat, j < 1 + k → Rch m1 0 (j : Int) := T1.rc
    clear T1 T0 M0
    have at_D : ∀ {j : Nat} {r : Addr}, rs[j]? = some r → atI (rs.map V.ref) (j : Int) = some (.ref r) := fun {j r} e => atI_nat (by rw [List.getElem?_map, e]; rfl)
    refine ⟨_, rfl, D, rfl, ⟨_, SqL.of M1.l⟩, for_it (walk_list (K := K) (a := D) (xs := rs.map V.ref)) (fun i σ H4 => ∃ m o7 o8, σ = [some (.ref p), some (.ref S), some (.int most), some (.int (1 + (k : Int))), o4, some (.ref D), o6, o7, o8, none, none, none, none] ∧ MidP H H4 p D (n + 1 + (1 + k) + 2 * k + 6 * i) rs ds zs m ∧ (∀ j : Nat, j < 1 + k → Rch m 0 (j : Int)) ∧ m.length = 1 + k) ⟨m1, _, _, rfl, M1, rc1, lm1⟩ (fun i σ H4 _ ⟨m, _, _, _, M, _⟩ => SqL.of M.l) ?_ ?_⟩
    · rintro i x σ H4 H4' hi ⟨m, o7, o8, rfl, M, rc, lm⟩ ⟨rfl, hx⟩
      rw [List.length_map] at hi
      have him : i < m.length := by rw [← M.pl.lr]; exact hi
      obtain rfl : V.ref rs[i] = x := by
        rw [List.getElem?_map, List.getElem?_eq_getElem hi] at hx
        exact Option.some.inj hx
      have eS4 := M.b _ _ hSp eS
      refine ⟨_, rfl, S, rfl, ⟨_, SqL.of eS4⟩, for_it (walk_list (K := K) (a := S) (xs := zs.map V.str)) (fun j σ H5 => ∃ m o7, σ = [some (.ref p), some (.ref S), some (.int most), some (.int (1 + (k : Int))), o4, some (.ref D), o6, o7, some (.ref rs[i]), none, none, none, none] ∧ MidP H H5 p D (n + 1 + (1 + k) + 2 * k + 6 * i + 2 * j) rs ds zs m ∧ (∀ j : Nat, j < 1 + k → Rch m 0 (j : Int)) ∧ m.length = 1 + k) ⟨m, _, rfl, M, rc, lm⟩ (fun j σ H5 _ ⟨m, _, _, M, _⟩ => SqL.of (M.b _ _ hSp eS)) ?_ ?_⟩
      · rintro j x σ H5 H5' hj ⟨m, o7, rfl, M, rc, lm⟩ ⟨rfl, hx⟩
        rw [List.length_map] at hj
        have z3 := sz.l3
        have hi4 : i < 1 + k := by rw [← lm, ← M.pl.lr]; exact hi
        obtain rfl : V.str zs[j] = x := by
          rw [List.getElem?_map, List.getElem?_eq_getElem hj] at hx
          exact Option.some.inj hx
        have g5 : ∀ {Hh : Hp} {kk : Nat} {mm : Mch}, MidP H Hh p D kk rs ds zs mm → mm.length = 1 + k → ∃ d, ds[i]? = some d ∧ Hh rs[i] = some (.lst [.ref d, .bl (rowN mm i).2]) ∧ Hh d = some (.dK (kvsP (rowN mm i).1)) := fun {Hh kk mm} MM ll => by
          obtain ⟨r, d, e1, e2, e3, e4⟩ := MM.pl.get (i := i) (by omega)
          rw [List.getElem?_eq_getElem hi] at e1
          cases e1
          exact ⟨d, e2, e3, e4⟩
        obtain ⟨d, hd, er, ed⟩ := g5 M lm
        refine ⟨_, rfl, _, rfl, rs[i], _, _, _, rfl, rfl, SqL.of er, atI_nat (j := 0) rfl, d, _, rfl, DGet.k (k := Sum.inr zs[j]) ed, _, rfl, ?_⟩
        rw [valP_is]
        by_cases c : zs[j] ∈ (rowN m i).1.map (·.1)
        · rw [decide_eq_true c]
          exact iteF (iteF ⟨m, _, rfl, ⟨M.b, M.pt.mono (by omega), M.l, M.pl, M.w⟩, rc, lm⟩)
        · rw [decide_eq_false c]
          refine iteT ⟨_, rfl, p, _, _, rfl, M.pt, by omega, by decide, by decide, fun H6 t hb6 hf6 P6 t0 t1 => ⟨rfl, _, rfl, ite2 (fun _ => ?_) (fun _ => ?_)⟩⟩
          · have M6 := M.go hb6 P6 hDp
            refine ⟨_, rfl, _, rfl, p, _, _, rfl, M6.pt, by omega, by omega, by omega, fun H7 to hb7 hf7 P7 u0 u1 => ?_⟩
            have M7 := M6.go hb7 P7 hDp
            obtain ⟨d7, hd7, er7, ed7⟩ := g5 M7 lm
            have l3 := M7.w.l3 sz _ (rowN_mem (m := m) (i := i) (by omega))
            refine ⟨_, rfl, rs[i], _, _, _, rfl, rfl, SqL.of er7, atI_nat (j := 0) rfl, _, rfl, d7, _, rfl, DPut.k (k := Sum.inr zs[j]) ed7 (lt1 (by rw [kvsP_len]; omega)), ?_⟩
            have M8 := M7.put fr h0p nD (by omega) hd7 (j := to) (List.getElem_mem hj) c ⟨by omega, by omega⟩
            exact ⟨_, _, rfl, ⟨M8.b, M8.pt.mono (by omega), M8.l, M8.pl, M8.w⟩, fun j hj => (rc j hj).mono (add_sub (by omega)), by rw [putE_len]; exact lm⟩
          · have M6 := M.go hb6 P6 hDp
            exact ⟨m, _, rfl, ⟨M6.b, M6.pt.mono (by omega), M6.l, M6.pl, M6.w⟩, rc, lm⟩
      · rintro σ H5 ⟨m, o7, rfl, M, rc, lm⟩
        have z3 := sz.l3
        rw [List.length_map] at M
        exact ⟨m, _, _, rfl, ⟨M.b, M.pt.mono (by omega), M.l, M.pl, M.w⟩, rc, lm⟩
    rintro σ H4 ⟨m, o7, o8, rfl, M, rc, lm⟩
    clear M1 rc1 lm1
    have lrs : rs.length = 1 + k := by rw [M.pl.lr]; exact lm
    rw [List.length_map, lrs] at M
    have pg : ∀ {i : Nat} (hi : i < rs.length), ∃ d, H4 rs[i] = some (.lst [.ref d, .bl (rowN m i).2]) ∧ H4 d = some (.dK (kvsP (rowN m i).1)) := fun {i} hi => by
      obtain ⟨r, d, e1, e2, e3, e4⟩ := M.pl.get (i := i) (by omega)
      rw [List.getElem?_eq_getElem hi] at e1
      cases e1
      exact ⟨d, e3, e4⟩
    refine ⟨_, rfl, D, rfl, ⟨_, SqL.of M.l⟩, fun Ga hGa => wk_any (walk_list (K := K) (a := D) (xs := rs.map V.ref)) (fun i H5 => Same H4 H5 ∧ H5 Ga = some (.lst (((m.map (·.2)).take i).map V.bl))) ⟨Same.new hGa, upd_same⟩ (fun i H5 _ h5 => SqL.of (h5.1 _ _ M.l)) ?_ ?_⟩
    · rintro i x H5 H6 hi ⟨s5, e5⟩ ⟨rfl, hx⟩
      rw [List.length_map] at hi
      obtain rfl : V.ref rs[i] = x := by
        rw [List.getElem?_map, List.getElem?_eq_getElem hi] at hx
        exact Option.some.inj hx
      obtain ⟨d, er, ed⟩ := pg hi
      have nx : (m.map (·.2)).take (i + 1) = (m.map (·.2)).take i ++ [(rowN m i).2] := by
        rw [List.take_add_one, List.getElem?_map, List.getElem?_eq_getElem (by omega), rowN_at (by omega)]
        rfl
      refine ⟨rfl, _, rfl, rs[i], _, _, _, rfl, rfl, SqL.of (s5 _ _ er), atI_nat (j := 1) rfl, _, e5, lt1 (by rw [List.length_map, List.length_take, List.length_map]; omega), Same.upN s5 hGa, ?_⟩
      rw [upd_same, nx, List.map_append]
      rfl
    rintro H5 ⟨s5, e5⟩
    rw [List.take_of_length_le (by rw [List.length_map, List.length_map]; omega)] at e5
    refine ⟨_, rfl, _, rfl, by omega, by omega, for_range (lo := 0) (n := Int.toNat _) (fun i σ H6 => ∃ G Ga o10, σ = [some (.ref p), some (.ref S), some (.int most), some (.int (1 + (k : Int))), o4, some (.ref D), o6, o7, o8, some (.ref Ga), o10, none, none] ∧ Same H4 H6 ∧ H6 Ga = some (.lst (G.map V.bl)) ∧ Sound m G) ⟨_, _, _, rfl, s5, e5, sound_0 m⟩ ?_ ?_⟩
    · rintro i σ H6 hi ⟨G, Ga, o10, rfl, s6, e6, sd⟩
      have lG : G.length = 1 + k := sd.1.trans lm
      have atG : ∀ {t : Int}, 0 ≤ t → t < (1 + k : Nat) → atI (G.map V.bl) t = some (V.bl (G.getD t.toNat false)) := fun {t} t0 t1 => at_ofA (j := t.toNat) (by omega) (by
        rw [List.getElem?_map, List.getElem?_eq_getElem (by omega), List.getD_eq_getElem?_getD, List.getElem?_eq_getElem (by omega)]
        rfl)
      refine ⟨_, rfl, D, _, rfl, SqL.of (s6 _ _ M.l), fun Gn hGn => lc_it (walk_enum (K := K) (a := D) (xs := rs.map V.ref)) (fun j H7 => Same H6 H7 ∧ H7 Gn = some (.lst (((rnd m G).take j).map V.bl))) ⟨Same.new hGn, upd_same⟩ (fun j H7 _ h7 => SqL.of (h7.1 _ _ (s6 _ _ M.l))) ?_ ?_⟩
      · rintro j z H7 H7' hj ⟨s7, e7⟩ ⟨T, x1, y1, rfl, hT, rfl, hx, hy⟩
        rw [List.length_map] at hj
        cases hx
        have hy : (rs.map V.ref)[j]? = some y1 := hy
        obtain rfl : V.ref rs[j] = y1 := by
          rw [List.getElem?_map, List.getElem?_eq_getElem hj] at hy
          exact Option.some.inj hy
        obtain ⟨d, er, ed⟩ := pg hj
        have s8 := s7.trans (Same.new (o := .tup [V.int (j : Nat), V.ref rs[j]]) hT)
        have e8 := (Same.new (o := .tup [V.int (j : Nat), V.ref rs[j]]) hT) _ _ e7
        have eT := (upd_same : upd H7 T (.tup [V.int (j : Nat), V.ref rs[j]]) T = _)
        generalize upd H7 T (.tup [V.int (j : Nat), V.ref rs[j]]) = H8 at s8 e8 eT ⊢
        have er8 := s8 _ _ (s6 _ _ er)
        have ed8 := s8 _ _ (s6 _ _ ed)
        have eG8 := s8 _ _ e6
        have gj := atG (t := (j : Int)) (by omega) (by omega)
        rw [Int.toNat_natCast] at gj
        refine ⟨T, _, rfl, SqT.of eT, rfl, _, _, rfl, _, _, rfl, rfl, rfl, ?_⟩
        refine ⟨_, rfl, _, rfl, Ga, _, _, V.bl (G.getD j false), rfl, rfl, SqL.of eG8, gj, _, rfl, ?_⟩
        have nx : (rnd m G).take (j + 1) = (rnd m G).take j ++ [G.getD j false || !(goods m G j).isEmpty] := by
          unfold rnd
          rw [List.take_add_one, List.getElem?_map, List.getElem?_range (by omega)]
          rfl
        have ll : ((rnd m G).take j).length ≤ 3999 := by
          rw [List.length_take]
          omega
        cases hg : G.getD j false with
        | true =>
          refine iteT ⟨_, e8, lt1 (by rw [List.length_map]; exact ll), Same.upN s8 hGn, ?_⟩
          rw [upd_same, nx, hg, List.map_append]
          rfl
        | false =>
          refine iteF ⟨d, _, ed8, trivial, fun od => ⟨_, rfl, rs[j], _, _, V.ref d, rfl, rfl, SqL.of ((upd_ne (fun c => by rw [c, ed8] at er8; cases er8)).trans er8), atI_nat (j := 0) rfl, d, od, kvsP (rowN m j).1, rfl, upd_same, fun W hW => ?_⟩⟩
          have eL : (upd H8 d (.frz od (.dK (kvsP (rowN m j).1)))) d = some (.frz od (.dK (kvsP (rowN m j).1))) := upd_same
          have nW : d ≠ W := ne_of_none eL hW
          have nG : Ga ≠ d := fun c => by rw [c, ed8] at eG8; cases eG8
          have nGn : Gn ≠ d := fun c => by rw [c, ed8] at e8; cases e8
          have kL : ∀ b o, b ≠ d → H8 b = some o → (upd H8 d (.frz od (.dK (kvsP (rowN m j).1)))) b = some o := fun b o n e => (upd_ne n).trans e
          have eGL := kL _ _ nG eG8
          generalize upd H8 d (.frz od (.dK (kvsP (rowN m j).1))) = HL at eL kL hW eGL ⊢
          refine lc_it (walk_values (d := d) (o := od) (kvs := kvsP (rowN m j).1)) (fun t H9 => Same HL H9 ∧ H9 W = some (.lst (((((rowN m j).1.take t).map (·.2)).filter fun x => G.getD x.toNat false).map V.int))) ⟨Same.new hW, upd_same⟩ (fun t H9 _ h9 => h9.1 _ _ eL) ?_ ?_
          · rintro t x H9 H10 ht ⟨s9, e9⟩ ⟨rfl, ky, hx⟩
            rw [kvsP_len] at ht
            rw [kvsP_at ht] at hx
            cases hx
            have rg := M.w.to _ (rowN_mem (m := m) (i := j) (by omega)) _ (List.getElem_mem ht)
            have nt : (rowN m j).1.take (t + 1) = (rowN m j).1.take t ++ [(rowN m j).1[t]] := by
              rw [List.take_add_one, List.getElem?_eq_getElem ht]
              rfl
            refine ⟨rfl, _, rfl, _, rfl, Ga, _, _, _, rfl, rfl, SqL.of (s9 _ _ eGL), atG rg.1 (by rw [lm] at rg; exact rg.2), _, rfl, ?_⟩
            rw [nt, List.map_append, List.filter_append]
            have l3 := M.w.l3 sz _ (rowN_mem (m := m) (i := j) (by omega))
            cases hb : G.getD ((rowN m j).1[t]).2.toNat false with
            | true =>
              refine iteT ⟨_, rfl, _, e9, lt1 (by rw [List.length_map]; exact Nat.le_trans (List.length_filter_le _ _) (by rw [List.length_map, List.length_take]; omega)), Same.upN s9 hW, ?_⟩
              rw [List.getD_eq_getElem?_getD] at hb
              rw [upd_same]
              simp [hb]
            | false =>
              refine iteF ⟨s9, ?_⟩
              rw [List.getD_eq_getElem?_getD] at hb
              rw [e9]
              simp [hb]
          · rintro H9 ⟨s9, e9⟩
            rw [kvsP_len, List.take_length] at e9
            refine ⟨s9 _ _ eL, ?_⟩
            have back : Same H8 (upd H9 d (.dK (kvsP (rowN m j).1))) := fun b o e => by
              by_cases c : b = d
              · subst c
                rw [ed8] at e
                cases e
                exact upd_same
              · rw [upd_ne c]
                exact s9 _ _ (kL b o c e)
            have eW : (upd H9 d (.dK (kvsP (rowN m j).1))) W = some (.lst ((goods m G j).map V.int)) := (upd_ne nW.symm).trans e9
            generalize upd H9 d (.dK (kvsP (rowN m j).1)) = H10 at back eW ⊢
            refine ⟨nar (by show 0 ≤ 3999; decide), fun l0 hl0 => ?_⟩
            have sl := Same.new (o := .lst []) hl0
            refine ⟨.list ((goods m G j).map .int), .list [], .lst (SqL.of (sl _ _ eW)) (dpall_ints _), .lst (SqL.of upd_same) .nil, shaped_ints _, by decide +kernel, ?_⟩
            rw [eqv_nil]
            have s11 := (s8.trans back).trans sl
            have e11 := sl _ _ (back _ _ e8)
            refine ⟨_, e11, lt1 (by rw [List.length_map]; exact ll), Same.upN s11 hGn, ?_⟩
            rw [upd_same, nx, hg, List.map_append]
            have eb : (!decide ((goods m G j).map PyData.int = [])) = (false || !(goods m G j).isEmpty) := by
              cases goods m G j <;> simp
            rw [eb]
            rfl
      · rintro H7 ⟨s7, e7⟩
        rw [List.take_of_length_le (by rw [List.length_map, (sound_r M.w sd).1]; omega)] at e7
        exact ⟨_, _, _, rfl, s6.trans s7, e7, sound_r M.w sd⟩
    rintro σ H6 ⟨G, Ga, o10, rfl, s6, e6, sd⟩
    have lG : G.length = 1 + k := sd.1.trans lm
    have atG : ∀ {t : Int}, 0 ≤ t → t < (1 + k : Nat) → atI (G.map V.bl) t = some (V.bl (G.getD t.toNat false)) := fun {t} t0 t1 => at_ofA (j := t.toNat) (by omega) (by
      rw [List.getElem?_map, List.getElem?_eq_getElem (by omega), List.getD_eq_getElem?_getD, List.getElem?_eq_getElem (by omega)]
      rfl)
    refine ⟨_, rfl, D, _, rfl, SqL.of (s6 _ _ M.l), fun Dn hDn => lc_it (walk_enum (K := K) (a := D) (xs := rs.map V.ref)) (fun j H7 => Same H6 H7 ∧ ∃ ts : List Addr, H7 Dn = some (.lst (ts.map V.ref)) ∧ Paired (RowA H7) ts ((fin m G).take j)) ⟨Same.new hDn, [], upd_same, .nil⟩ (fun j H7 _ h7 => SqL.of (h7.1 _ _ (s6 _ _ M.l))) ?_ ?_⟩
    · rintro j z H7 H7' hj ⟨s7, ts, e7, pt⟩ ⟨T, x1, y1, rfl, hT, rfl, hx, hy⟩
      rw [List.length_map] at hj
      cases hx
      have hy : (rs.map V.ref)[j]? = some y1 := hy
      obtain rfl : V.ref rs[j] = y1 := by
        rw [List.getElem?_map, List.getElem?_eq_getElem hj] at hy
        exact Option.some.inj hy
      obtain ⟨d, er, ed⟩ := pg hj
      have sT := Same.new (o := .tup [V.int (j : Nat), V.ref rs[j]]) hT
      have s8 := s7.trans sT
      have e8 := sT _ _ e7
      have pt8 : Paired (RowA (upd H7 T (.tup [V.int (j : Nat), V.ref rs[j]]))) ts ((fin m G).take j) := L2.Paired.mapP pt fun _ _ e => e.keep sT
      have eT := (upd_same : upd H7 T (.tup [V.int (j : Nat), V.ref rs[j]]) T = _)
      have lts : ts.length = j := by
        have := Paired.length pt
        rw [List.length_take, fin_len] at this
        omega
      clear sT
      generalize upd H7 T (.tup [V.int (j : Nat), V.ref rs[j]]) = H8 at s8 e8 eT pt8 ⊢
      have er8 := s8 _ _ (s6 _ _ er)
      have eG8 := s8 _ _ e6
      have gj := atG (t := (j : Int)) (by omega) (by omega)
      rw [Int.toNat_natCast] at gj
      refine ⟨T, _, rfl, SqT.of eT, rfl, _, _, rfl, _, _, rfl, rfl, rfl, ?_⟩
      refine ⟨_, rfl, rs[j], _, _, V.ref d, rfl, rfl, SqL.of er8, atI_nat (j := 0) rfl, _, rfl, rs[j], _, _, V.bl (rowN m j).2, rfl, rfl, SqL.of er8, atI_nat (j := 1) rfl, _, rfl, ?_⟩
      cases hb : (rowN m j).2 with
      | true =>
        refine iteT ?_
        refine ⟨nar (by show 2 ≤ 3999; decide), fun r' hr' => ?_⟩
        have nx : (fin m G).take (j + 1) = (fin m G).take j ++ [((rowN m j).1, true)] := by
          rw [List.take_add_one, List.getElem?_eq_getElem (by rw [fin_len]; omega), ← rowN_at (by rw [fin_len]; omega), fin_row (by omega), hb]
          simp
        have s9 := Same.new (o := .lst [V.ref d, V.bl (true)]) hr'
        have e9 := s9 _ _ e8
        have er9 := (upd_same : upd H8 r' (.lst [V.ref d, V.bl (true)]) r' = _)
        have rD9 : r' ≠ Dn := fun z => by rw [z, e8] at hr'; cases hr'
        generalize upd H8 r' (.lst [V.ref d, V.bl (true)]) = H9 at s9 e9 er9 ⊢
        refine ⟨_, e9, lt1 (by rw [List.length_map, lts]; omega), Same.upN (s8.trans s9) hDn, ts ++ [r'], by rw [upd_same, List.map_append]; rfl, ?_⟩
        rw [nx]
        have kU : ∀ b o, b ≠ Dn → H9 b = some o → (upd H9 Dn (.lst (ts.map V.ref ++ [V.ref r']))) b = some o := fun b o n e => (upd_ne n).trans e
        have ed9 := s9 _ _ (s8 _ _ (s6 _ _ ed))
        refine Paired.appendP (L2.Paired.mapP pt8 fun b q ⟨d', a1, a2⟩ => ⟨d', kU _ _ (fun c => by rw [c, e8] at a1; exact lstne a1) (s9 _ _ a1), kU _ _ (fun c => by rw [c, e8] at a2; cases a2) (s9 _ _ a2)⟩) (.cons ⟨d, kU _ _ rD9 er9, kU _ _ (fun c => by rw [c, e9] at ed9; cases ed9) ed9⟩ .nil)
      | false =>
        refine iteF ⟨_, rfl, _, rfl, Ga, _, _, V.bl (G.getD j false), rfl, rfl, SqL.of eG8, gj, _, rfl, ?_⟩
        refine ⟨nar (by show 2 ≤ 3999; decide), fun r' hr' => ?_⟩
        have nx : (fin m G).take (j + 1) = (fin m G).take j ++ [((rowN m j).1, !G.getD j false)] := by
          rw [List.take_add_one, List.getElem?_eq_getElem (by rw [fin_len]; omega), ← rowN_at (by rw [fin_len]; omega), fin_row (by omega), hb]
          simp
        have s9 := Same.new (o := .lst [V.ref d, V.bl (!G.getD j false)]) hr'
        have e9 := s9 _ _ e8
        have er9 := (upd_same : upd H8 r' (.lst [V.ref d, V.bl (!G.getD j false)]) r' = _)
        have rD9 : r' ≠ Dn := fun z => by rw [z, e8] at hr'; cases hr'
        generalize upd H8 r' (.lst [V.ref d, V.bl (!G.getD j false)]) = H9 at s9 e9 er9 ⊢
        refine ⟨_, e9, lt1 (by rw [List.length_map, lts]; omega), Same.upN (s8.trans s9) hDn, ts ++ [r'], by rw [upd_same, List.map_append]; rfl, ?_⟩
        rw [nx]
        have kU : ∀ b o, b ≠ Dn → H9 b = some o → (upd H9 Dn (.lst (ts.map V.ref ++ [V.ref r']))) b = some o := fun b o n e => (upd_ne n).trans e
        have ed9 := s9 _ _ (s8 _ _ (s6 _ _ ed))
        refine Paired.appendP (L2.Paired.mapP pt8 fun b q ⟨d', a1, a2⟩ => ⟨d', kU _ _ (fun c => by rw [c, e8] at a1; exact lstne a1) (s9 _ _ a1), kU _ _ (fun c => by rw [c, e8] at a2; cases a2) (s9 _ _ a2)⟩) (.cons ⟨d, kU _ _ rD9 er9, kU _ _ (fun c => by rw [c, e9] at ed9; cases ed9) ed9⟩ .nil)
    · rintro H7 ⟨s7, ts, e7, pt⟩
      rw [List.take_of_length_le (by rw [fin_len, List.length_map]; omega)] at pt
      have Dn0 : H Dn = none := by
        cases hh : H Dn with
        | none => rfl
        | some o =>
          have np : Dn ≠ p := (potS M.pt s6).ne hDn |>.symm
          rw [s6 _ _ (M.b _ _ np hh)] at hDn
          cases hDn
      exact q H7 Dn (fin m G) (fun b o nb e => s7 _ _ (s6 _ _ (M.b b o nb e))) ((potS M.pt (s6.trans s7)).mono (by omega)) Dn0 ⟨ts, e7, pt⟩ (good_fin M.w sz (by omega) (fun j hj => rc j (by omega)) sd) (by rw [fin_len]; omega) ((fin_pw M.w).l3 sz) (fin_pw M.w).kz
end
end Mk

set_option Elab.async false
set_option linter.all false
set_option maxRecDepth 100000
set_option maxHeartbeats 4000000
/-! _ways -/
namespace Mk
open PySem PySem.Spec L2 PyProof.Rows

/-! what it finds -/
def wyT (G : ITab) (near via : Nat) (price : Int) (D : ITab) (to : Nat) : ITab := if (via, to) ∈ G.map (·.1) then lowT D (near, to) (price + look G (via, to)) else D
def wyS (n : Nat) (G : ITab) (near : Nat) (D : ITab) (p : Nat × Int) : ITab := (List.range n).foldl (wyT G near p.1 p.2) D
def stepsL (mv : PTab) (c : Str → Str → Int) (sg : Str) (k : Nat) : List (Nat × Int) := (k, c sg "") :: (mv.map (·.1)).map fun s => ((look mv s).toNat, c sg s)
def wyN (m : Mch) (G : ITab) (c : Str → Str → Int) (sg : Str) (D : ITab) (k : Nat) : ITab := (stepsL (mvs m (k : Nat)) c sg k).foldl (wyS m.length G k) D
def waysT (m : Mch) (G : ITab) (c : Str → Str → Int) (sg : Str) : ITab := (List.range m.length).foldl (wyN m G c sg) []
def wlist (D : ITab) (n to : Nat) : List (Nat × Int) := ((List.range n).filter fun a => decide ((a, to) ∈ D.map (·.1))).map fun a => (a, look D (a, to))
def wAll (D : ITab) (n : Nat) : List (List (Nat × Int)) := (List.range n).map (wlist D n)
/-- the cheapest way from a state to another one with a sign -/
def Wg (m : Mch) (E : Nat → Nat → Option Int) (c : Str → Str → Int) (sg : Str) (k j : Nat) : Option Int := (stepsL (mvs m (k : Nat)) c sg k).foldl (fun x p => mn x (ad (some p.2) (E p.1 j))) none
theorem wyT_ok {n near via to : Nat} {price : Int} {G D : ITab} (h1 : near < n) (h2 : to < n) (h : KOk n D) : KOk n (wyT G near via price D to) := by
  unfold wyT
  split
  · exact h.low ⟨h1, h2⟩
  · exact h
theorem wyS_ok {n near : Nat} {p : Nat × Int} {G D : ITab} (h1 : near < n) (h : KOk n D) : KOk n (wyS n G near D p) := range_ind (f := wyT G near p.1 p.2) (n := n) (b := D) (fun _ D => KOk n D) h fun i hi D h => wyT_ok h1 hi h
theorem steps_ok {n near : Nat} {l : List (Nat × Int)} {G D : ITab} (h1 : near < n) (h : KOk n D) : KOk n (l.foldl (wyS n G near) D) := foldl_ind (f := wyS n G near) (l := l) (b := D) (fun _ D => KOk n D) h fun i hi D h => wyS_ok h1 h
theorem ways_ok {m : Mch} {G : ITab} {c : Str → Str → Int} {sg : Str} {k : Nat} (hk : k ≤ m.length) : KOk m.length ((List.range k).foldl (wyN m G c sg) []) := range_ind (f := wyN m G c sg) (n := k) (b := []) (fun _ D => KOk m.length D) ⟨List.nodup_nil, fun _ h => nomatch h⟩ fun i hi D h => steps_ok (by omega) h
theorem wyT_vl (G : ITab) (near via : Nat) (price : Int) (D : ITab) (to : Nat) (k : Nat × Nat) : vl (wyT G near via price D to) k = if k = (near, to) then mn (vl D (near, to)) (ad (some price) (vl G (via, to))) else vl D k := by
  unfold wyT
  by_cases h : (via, to) ∈ G.map (·.1)
  · rw [if_pos h, vl_low, vl_some h]
    rfl
  · rw [if_neg h, vl_none h]
    split
    · rename_i e
      rw [e]
      exact (mn_none _).symm
    · rfl
theorem wyS_vl {n near : Nat} {p : Nat × Int} {G D : ITab} : ∀ a b, b < n → vl (wyS n G near D p) (a, b) = if a = near then mn (vl D (a, b)) (ad (some p.2) (vl G (p.1, b))) else vl D (a, b) := by
  have key := range_ind (f := wyT G near p.1 p.2) (n := n) (b := D) (fun t D' => ∀ a b, vl D' (a, b) = if a = near ∧ b < t then mn (vl D (a, b)) (ad (some p.2) (vl G (p.1, b))) else vl D (a, b)) (fun a b => by rw [if_neg (by omega)]) fun t ht D' ih a b => by
    rw [wyT_vl]
    by_cases e : (a, b) = (near, t)
    · rw [if_pos e]
      cases e
      rw [ih near t, if_neg (by omega), if_pos ⟨rfl, Nat.lt_succ_self _⟩]
    · rw [if_neg e, ih a b]
      have ne : ¬ (a = near ∧ b = t) := fun c => e (by rw [c.1, c.2])
      by_cases e2 : a = near ∧ b < t
      · rw [if_pos e2, if_pos (by omega)]
      · rw [if_neg e2, if_neg (by omega)]
  intro a b hb
  have := key a b
  unfold wyS
  rw [this]
  by_cases e : a = near
  · rw [if_pos ⟨e, hb⟩, if_pos e]
  · rw [if_neg fun h => e h.1, if_neg e]
theorem steps_vl {n near : Nat} {G : ITab} : ∀ (l : List (Nat × Int)) (D : ITab) (a b : Nat), b < n → vl (l.foldl (wyS n G near) D) (a, b) = if a = near then l.foldl (fun x p => mn x (ad (some p.2) (vl G (p.1, b)))) (vl D (a, b)) else vl D (a, b)
  | [], D, a, b, _ => by split <;> rfl
  | p :: l, D, a, b, hb => by
    rw [List.foldl_cons, steps_vl l _ a b hb, wyS_vl a b hb, List.foldl_cons]
    split <;> rfl
theorem foldl_congr' {α β : Type} {f g : β → α → β} : ∀ {l : List α} {b : β}, (∀ x ∈ l, ∀ b, f b x = g b x) → l.foldl f b = l.foldl g b
  | [], _, _ => rfl
  | a :: l, b, h => by
    rw [List.foldl_cons, List.foldl_cons, h a List.mem_cons_self b]
    exact foldl_congr' fun x hx => h x (List.mem_cons_of_mem _ hx)
theorem steps_rg {m : Mch} (w : WF m) {c : Str → Str → Int} {sg : Str} {k : Nat} (hk : k < m.length) : ∀ p ∈ stepsL (mvs m (k : Nat)) c sg k, p.1 < m.length := fun p hp => by
  rcases List.mem_cons.mp hp with rfl | hp
  · exact hk
  · obtain ⟨s, hs, rfl⟩ := List.mem_map.mp hp
    have := mvs_to w s hs
    show (look (mvs m (k : Nat)) s).toNat < m.length
    omega
theorem ways_vl {m : Mch} (w : WF m) {G : ITab} {E : Nat → Nat → Option Int} (hG : ∀ i j, i < m.length → j < m.length → vl G (i, j) = E i j) {c : Str → Str → Int} {sg : Str} : ∀ i j, i < m.length → j < m.length → vl (waysT m G c sg) (i, j) = Wg m E c sg i j := by
  have key := range_ind (f := wyN m G c sg) (n := m.length) (b := []) (fun k D => ∀ a b, b < m.length → vl D (a, b) = if a < k then Wg m E c sg a b else none) (fun a b _ => by
      rw [if_neg (Nat.not_lt_zero _)]
      exact vl_none fun h => nomatch h) fun k hk D ih a b hb => by
    unfold wyN
    rw [steps_vl _ _ _ _ hb, ih a b hb]
    by_cases e : a = k
    · subst e
      rw [if_pos rfl, if_neg (Nat.lt_irrefl _), if_pos (Nat.lt_succ_self _)]
      unfold Wg
      refine foldl_congr' fun p hp x => ?_
      rw [hG p.1 b (steps_rg w hk p hp) hb]
    · rw [if_neg e]
      by_cases e2 : a < k
      · rw [if_pos e2, if_pos (by omega)]
      · have e3 : ¬ a < k + 1 := by omega
        rw [if_neg e2, if_neg e3]
  intro i j hi hj
  have := key i j hj
  rw [if_pos hi] at this
  exact this
theorem Wg_self {m : Mch} {E : Nat → Nat → Option Int} {c : Str → Str → Int} {sg : Str} {j : Nat} (h : (E j j).isSome = true) : (Wg m E c sg j j).isSome = true := by
  unfold Wg stepsL
  rw [List.foldl_cons]
  have : ∀ (l : List (Nat × Int)) (x : Option Int), x.isSome = true → (l.foldl (fun x p => mn x (ad (some p.2) (E p.1 j))) x).isSome = true := by
    intro l
    induction l with
    | nil => exact fun x h => h
    | cons a l ih =>
      intro x h
      refine ih _ ?_
      rw [mn_isSome, h]
      rfl
  refine this _ _ ?_
  rw [mn_isSome, ad_isSome, h]
  rfl
theorem wlist_ne {D : ITab} {n to : Nat} (ht : to < n) (h : (to, to) ∈ D.map (·.1)) : wlist D n to ≠ [] := by
  intro e
  have : (to, look D (to, to)) ∈ wlist D n to := List.mem_map.mpr ⟨to, List.mem_filter.mpr ⟨List.mem_range.mpr ht, decide_eq_true h⟩, rfl⟩
  rw [e] at this
  cases this
theorem wlist_rg {D : ITab} {n to : Nat} : ∀ p ∈ wlist D n to, p.1 < n := fun p hp => by
  obtain ⟨a, ha, rfl⟩ := List.mem_map.mp hp
  exact List.mem_range.mp (List.mem_filter.mp ha).1
end Mk

set_option Elab.async false
set_option linter.all false
set_option maxRecDepth 100000
set_option maxHeartbeats 1000000
/-! least costs of ways: paths without a vertex twice, rounds, the costs between states -/
namespace Mk
open PySem L2

/-! ### numbers, none being above all -/
def lo (x y : Option Int) : Prop := ∀ j, y = some j → ∃ i, x = some i ∧ i ≤ j
theorem lo_refl (x : Option Int) : lo x x := fun j h => ⟨j, h, Int.le_refl _⟩
theorem lo_trans {x y z : Option Int} (a : lo x y) (b : lo y z) : lo x z := fun j h => by
  obtain ⟨i, hi, li⟩ := b j h
  obtain ⟨k, hk, lk⟩ := a i hi
  exact ⟨k, hk, Int.le_trans lk li⟩
theorem mn_or (x y : Option Int) : mn x y = x ∨ mn x y = y := by
  cases x with
  | none => exact .inr rfl
  | some i =>
    cases y with
    | none => exact .inl rfl
    | some j =>
      by_cases c : i ≤ j
      · exact .inl (congrArg some (Int.min_eq_left c))
      · exact .inr (congrArg some (Int.min_eq_right (by omega)))
theorem lo_mn1 (x y : Option Int) : lo (mn x y) x := fun j h => by
  subst h
  cases y with
  | none => exact ⟨j, rfl, Int.le_refl _⟩
  | some i => exact ⟨min j i, rfl, Int.min_le_left ..⟩
theorem lo_mn2 (x y : Option Int) : lo (mn x y) y := fun j h => by
  subst h
  cases x with
  | none => exact ⟨j, rfl, Int.le_refl _⟩
  | some i => exact ⟨min i j, rfl, Int.min_le_right ..⟩
theorem lo_ad {a b c d : Option Int} (h : lo a c) (k : lo b d) : lo (ad a b) (ad c d) := fun j e => by
  cases c with
  | none => cases e
  | some p =>
    cases d with
    | none => cases e
    | some q =>
      obtain ⟨i, rfl, li⟩ := h p rfl
      obtain ⟨l, rfl, ll⟩ := k q rfl
      have e : p + q = j := Option.some.inj e
      exact ⟨i + l, rfl, by omega⟩
theorem lo_anti {x y : Option Int} (a : lo x y) (b : lo y x) : x = y := by
  cases y with
  | none =>
    cases x with
    | none => rfl
    | some i =>
      obtain ⟨j, e, _⟩ := b i rfl
      cases e
  | some j =>
    obtain ⟨i, rfl, h⟩ := a j rfl
    obtain ⟨k, e, h'⟩ := b i rfl
    cases e
    exact congrArg some (by omega)
theorem ad_assoc (x y z : Option Int) : ad (ad x y) z = ad x (ad y z) := by
  cases x <;> cases y <;> cases z <;> try rfl
  exact congrArg some (Int.add_assoc ..)
theorem lo_pos {x p : Option Int} (h : ∀ i, p = some i → 0 ≤ i) : lo x (ad p x) := fun j e => by
  cases p with
  | none => cases e
  | some i =>
    cases x with
    | none => cases e
    | some k =>
      have := h i rfl
      have e : i + k = j := Option.some.inj e
      exact ⟨k, rfl, by omega⟩

/-! ### paths -/
section
variable {α : Type} [DecidableEq α] {e : α → α → Option Int} {v : α}
/-- the vertices of a way from v, its end, its cost -/
inductive Pth (e : α → α → Option Int) (v : α) : List α → α → Int → Prop
  | one : Pth e v [v] v 0
  | snoc {L : List α} {s t : α} {x w : Int} (h : Pth e v L s x) (k : e s t = some w) : Pth e v (L ++ [t]) t (x + w)
theorem Pth.mem {L : List α} {t : α} {x : Int} (h : Pth e v L t x) : t ∈ L := by
  cases h with
  | one => exact List.mem_singleton.mpr rfl
  | snoc h k => exact List.mem_append_right _ (List.mem_singleton.mpr rfl)
theorem Pth.nn (hn : ∀ s t w, e s t = some w → 0 ≤ w) {L : List α} {t : α} {x : Int} (h : Pth e v L t x) : 0 ≤ x := by
  induction h with
  | one => exact Int.le_refl _
  | snoc h k ih =>
    have := hn _ _ _ k
    omega
theorem Pth.all (P : α → Prop) (hv : P v) (hP : ∀ s t w, P s → e s t = some w → P t) {L : List α} {t : α} {x : Int} (h : Pth e v L t x) : ∀ y ∈ L, P y := by
  induction h with
  | one =>
    intro y hy
    rw [List.mem_singleton.mp hy]
    exact hv
  | snoc h k ih =>
    intro y hy
    rcases List.mem_append.mp hy with hy | hy
    · exact ih y hy
    · rw [List.mem_singleton.mp hy]
      exact hP _ _ _ (ih _ h.mem) k
/-- the way up to a vertex that it passes -/
theorem Pth.cut (hn : ∀ s t w, e s t = some w → 0 ≤ w) {L : List α} {t : α} {x : Int} (h : Pth e v L t x) (u : α) (hu : u ∈ L) : ∃ L' x', Pth e v L' u x' ∧ x' ≤ x ∧ ∃ R, L = L' ++ R := by
  induction h with
  | one =>
    rw [List.mem_singleton.mp hu]
    exact ⟨_, _, .one, Int.le_refl _, [], (List.append_nil _).symm⟩
  | @snoc L s t x w h k ih =>
    by_cases c : u ∈ L
    · obtain ⟨L', x', a, b, R, r⟩ := ih c
      have := hn _ _ _ k
      exact ⟨L', x', a, by omega, R ++ [t], by rw [r, List.append_assoc]⟩
    · rcases List.mem_append.mp hu with hu | hu
      · exact absurd hu c
      · rw [List.mem_singleton.mp hu]
        exact ⟨_, _, .snoc h k, Int.le_refl _, [], (List.append_nil _).symm⟩
/-- a way that passes no vertex twice, and costs no more -/
theorem Pth.erase (hn : ∀ s t w, e s t = some w → 0 ≤ w) {L : List α} {t : α} {x : Int} (h : Pth e v L t x) : ∃ L' x', Pth e v L' t x' ∧ x' ≤ x ∧ L'.Nodup := by
  induction h with
  | one => exact ⟨_, _, .one, Int.le_refl _, List.nodup_cons.mpr ⟨List.not_mem_nil, List.nodup_nil⟩⟩
  | @snoc L s t x w h k ih =>
    obtain ⟨L', x', a, b, nd⟩ := ih
    have hw := hn _ _ _ k
    by_cases c : t ∈ L'
    · obtain ⟨L2, x2, a2, b2, R, r⟩ := a.cut hn t c
      refine ⟨L2, x2, a2, by omega, ?_⟩
      rw [r] at nd
      exact (List.nodup_append.mp nd).1
    · refine ⟨L' ++ [t], x' + w, .snoc a k, by omega, ?_⟩
      rw [List.nodup_append]
      exact ⟨nd, List.nodup_cons.mpr ⟨List.not_mem_nil, List.nodup_nil⟩, fun p hp q hq z => c (by rw [← List.mem_singleton.mp hq, ← z]; exact hp)⟩
theorem Pth.join {L : List α} {u t : α} {x : Int} (h : Pth e v L u x) {L' : List α} {y : Int} (k : Pth e u L' t y) : ∃ L2, Pth e v L2 t (x + y) := by
  induction k with
  | one => exact ⟨L, by rw [Int.add_zero]; exact h⟩
  | snoc k w ih =>
    obtain ⟨L2, a⟩ := ih
    exact ⟨_, by rw [← Int.add_assoc]; exact .snoc a w⟩
/-- rounds that lower all ends of edges: after r of them the ways of up to r edges are seen -/
theorem Pth.rounds {f : Nat → α → Option Int} (down : ∀ r t, lo (f (r + 1) t) (f r t)) (stp : ∀ r s t w, e s t = some w → lo (f (r + 1) t) (ad (f r s) (some w))) {L : List α} {t : α} {x : Int} (h : Pth e v L t x) : ∀ r, L.length ≤ r + 1 → lo (f r t) (ad (f 0 v) (some x)) := by
  have mono : ∀ k r t, lo (f (r + k) t) (f r t) := by
    intro k
    induction k with
    | zero => exact fun r t => lo_refl _
    | succ k ih => exact fun r t => lo_trans (down (r + k) t) (ih r t)
  induction h with
  | one =>
    intro r _
    have := mono r 0 v
    rw [Nat.zero_add] at this
    have e0 : ad (f 0 v) (some 0) = f 0 v := by
      cases f 0 v with
      | none => rfl
      | some i => exact congrArg some (Int.add_zero i)
    rw [e0]
    exact this
  | @snoc L s t x w h k ih =>
    intro r hr
    rw [List.length_append, List.length_singleton] at hr
    cases r with
    | zero =>
      have : L ≠ [] := fun z => by
        have := h.mem
        rw [z] at this
        cases this
      have := List.length_pos_iff.mpr this
      omega
    | succ r =>
      have a := ih r (by omega)
      refine lo_trans (stp r s t w k) (lo_trans (lo_ad a (lo_refl (some w))) ?_)
      rw [ad_assoc]
      exact lo_refl _
end
/-! ### the costs between states are least -/
section
variable {m : Mch} {c : Str → Int}
theorem Eg_edg {i j : Nat} : ∀ k, lo (Eg m c k i j) (edg m c i j)
  | 0 => lo_refl _
  | k + 1 => lo_trans (lo_mn1 _ _) (Eg_edg k)
theorem Eg_tri (hc : ∀ q ∈ m, ∀ p ∈ q.1, 0 ≤ c p.1) : ∀ k, k ≤ m.length → ∀ v i j, v < k → i < m.length → j < m.length → lo (Eg m c k i j) (ad (Eg m c k i v) (Eg m c k v j))
  | 0, _, v, _, _, h, _, _ => absurd h (Nat.not_lt_zero _)
  | k + 1, hk, v, i, j, hv, hi, hj => by
    have N := Eg_nng hc k (by omega)
    have kn : k < m.length := by omega
    by_cases e : v = k
    · subst e
      have r1 : Eg m c (v + 1) i v = Eg m c v i v := stp_col N kn
      have r2 : Eg m c (v + 1) v j = Eg m c v v j := stp_row N kn
      rw [r1, r2]
      exact lo_mn2 _ _
    · have vk : v < k := by omega
      have vn : v < m.length := by omega
      have T := fun i j hi hj => Eg_tri hc k (by omega) v i j vk hi hj
      have z : Eg m c (k + 1) i j = mn (Eg m c k i j) (ad (Eg m c k i k) (Eg m c k k j)) := rfl
      rw [z]
      have a1 : Eg m c (k + 1) i v = mn (Eg m c k i v) (ad (Eg m c k i k) (Eg m c k k v)) := rfl
      have a2 : Eg m c (k + 1) v j = mn (Eg m c k v j) (ad (Eg m c k v k) (Eg m c k k j)) := rfl
      rcases mn_or (Eg m c k i v) (ad (Eg m c k i k) (Eg m c k k v)) with h1 | h1
      · rcases mn_or (Eg m c k v j) (ad (Eg m c k v k) (Eg m c k k j)) with h2 | h2
        · rw [a1, a2, h1, h2]
          exact lo_trans (lo_mn1 _ _) (T i j hi hj)
        · rw [a1, a2, h1, h2, ← ad_assoc]
          exact lo_trans (lo_mn2 _ _) (lo_ad (T i k hi kn) (lo_refl _))
      · rcases mn_or (Eg m c k v j) (ad (Eg m c k v k) (Eg m c k k j)) with h2 | h2
        · rw [a1, a2, h1, h2, ad_assoc]
          exact lo_trans (lo_mn2 _ _) (lo_ad (lo_refl _) (T k j kn hj))
        · rw [a1, a2, h1, h2, ad_assoc, ← ad_assoc (Eg m c k k v)]
          refine lo_trans (lo_mn2 _ _) (lo_ad (lo_refl _) (lo_pos fun x hx => ?_))
          cases h3 : Eg m c k k v with
          | none => rw [h3] at hx; cases hx
          | some p =>
            cases h4 : Eg m c k v k with
            | none => rw [h3, h4] at hx; cases hx
            | some q =>
              rw [h3, h4] at hx
              have := N.nn _ _ _ kn vn h3
              have := N.nn _ _ _ vn kn h4
              have hx : p + q = x := Option.some.inj hx
              omega
/-- every one is the cost of a way -/
theorem Eg_pth : ∀ k, ∀ i j x, Eg m c k i j = some x → ∃ L, Pth (edg m c) i L j x
  | 0, i, j, x, h => ⟨_, by have := Pth.snoc (e := edg m c) (v := i) .one h; rw [Int.zero_add] at this; exact this⟩
  | k + 1, i, j, x, h => by
    have z : Eg m c (k + 1) i j = mn (Eg m c k i j) (ad (Eg m c k i k) (Eg m c k k j)) := rfl
    rw [z] at h
    rcases mn_or (Eg m c k i j) (ad (Eg m c k i k) (Eg m c k k j)) with h1 | h1
    · rw [h1] at h
      exact Eg_pth k i j x h
    · rw [h1] at h
      cases h3 : Eg m c k i k with
      | none => rw [h3] at h; cases h
      | some p =>
        cases h4 : Eg m c k k j with
        | none => rw [h3, h4] at h; cases h
        | some q =>
          rw [h3, h4] at h
          obtain ⟨L1, a1⟩ := Eg_pth k i k p h3
          obtain ⟨L2, a2⟩ := Eg_pth k k j q h4
          obtain ⟨L, a⟩ := a1.join a2
          have h : p + q = x := Option.some.inj h
          rw [h] at a
          exact ⟨L, a⟩
theorem edg_is {i j : Nat} {x : Int} (h : edg m c i j = some x) : (i = j ∧ x = 0) ∨ ∃ z ∈ (mvs m (i : Int)).map (·.1), (look (mvs m (i : Int)) z).toNat = j ∧ x = c z := by
  have key := foldl_ind (f := edgS (mvs m (i : Int)) c j) (l := (mvs m (i : Int)).map (·.1)) (b := if i = j then some 0 else none) (fun _ y => ∀ x, y = some x → (i = j ∧ x = 0) ∨ ∃ z ∈ (mvs m (i : Int)).map (·.1), (look (mvs m (i : Int)) z).toNat = j ∧ x = c z) (fun x hx => by
      split at hx
      · rename_i e
        cases hx
        exact .inl ⟨e, rfl⟩
      · cases hx) fun a ha y ih x hx => by
    unfold edgS at hx
    split at hx
    · rename_i e
      rcases mn_or y (some (c ((mvs m (i : Int)).map (·.1))[a])) with h1 | h1
      · rw [h1] at hx
        exact ih x hx
      · rw [h1] at hx
        cases hx
        exact .inr ⟨_, List.getElem_mem ha, e, rfl⟩
    · exact ih x hx
  exact key x h
theorem edg_le {i : Nat} {z : Str} (hz : z ∈ (mvs m (i : Int)).map (·.1)) : lo (edg m c i (look (mvs m (i : Int)) z).toNat) (some (c z)) := by
  obtain ⟨a, ha, rfl⟩ := List.mem_iff_getElem.mp hz
  have key := foldl_ind (f := edgS (mvs m (i : Int)) c (look (mvs m (i : Int)) ((mvs m (i : Int)).map (·.1))[a]).toNat) (l := (mvs m (i : Int)).map (·.1)) (b := if i = (look (mvs m (i : Int)) ((mvs m (i : Int)).map (·.1))[a]).toNat then some 0 else none)
    (fun k y => a < k → lo y (some (c ((mvs m (i : Int)).map (·.1))[a]))) (fun h => absurd h (Nat.not_lt_zero _)) fun k hk y ih h => by
    unfold edgS
    by_cases e : a = k
    · subst e
      rw [if_pos rfl]
      exact lo_mn2 _ _
    · have := ih (by omega)
      split
      · exact lo_trans (lo_mn1 _ _) this
      · exact this
  exact key ha
end
end Mk

set_option Elab.async false
set_option linter.all false
set_option maxRecDepth 100000
set_option maxHeartbeats 4000000
/-! _ways: the program's -/
namespace Mk
open PySem PySem.Spec L2 PyProof.Rows

abbrev sWays : Stmt := top 40
abbrev nWays : List Str := ["states", "sign", "costs", "gaps", "found", "near", "moves", "_", "steps", "via", "price", "to", "new", "ahead"]
abbrev scW : Scope := { kind := .function, names := [(".0", .local), ("to", .cell), ("tuple", .globalImplicit), ("range", .globalImplicit), ("len", .globalImplicit), ("found", .cell), ("states", .cell)], isGenerator := false, isCoroutine := false }
/-- a pair of numbers -/
def PrA (H : Hp) (p : Addr) (q : Nat × Int) : Prop := H p = some (.tup [.int q.1, .int q.2])
def WrA (H : Hp) (t : Addr) (l : List (Nat × Int)) : Prop := ∃ ps : List Addr, H t = some (.tup (ps.map V.ref)) ∧ Paired (PrA H) ps l
/-- for each state the ways to it -/
def WyAt (H : Hp) (w : Addr) (ls : List (List (Nat × Int))) : Prop := ∃ ts : List Addr, H w = some (.tup (ts.map V.ref)) ∧ Paired (WrA H) ts ls
theorem WrA.keep {H H' : Hp} {t : Addr} {l : List (Nat × Int)} (k : Same H H') (h : WrA H t l) : WrA H' t l := h.imp fun ps ⟨a, b⟩ => ⟨k _ _ a, L2.Paired.mapP b fun _ _ e => k _ _ e⟩
theorem WyAt.keep {H H' : Hp} {w : Addr} {ls : List (List (Nat × Int))} (k : Same H H') (h : WyAt H w ls) : WyAt H' w ls := h.imp fun ps ⟨a, b⟩ => ⟨k _ _ a, L2.Paired.mapP b fun _ _ e => e.keep k⟩
def spWays : Sp := fun vs H Q _ => ∃ (t ca gd : Addr) (sg : Str) (m : Mch) (P : List Str) (c : Str → Str → Int) (G : ITab), vs = [.ref t, .str sg, .ref ca, .ref gd] ∧ MAt H t m ∧ WF m ∧ m.length ≤ 8 ∧ (∀ q ∈ m, q.1.length ≤ 5) ∧ Cst6 H ca P c ∧ ("" : Str) ∈ P ∧ sg ∈ P ∧ (∀ q ∈ m, ∀ p ∈ q.1, p.1 ∈ P) ∧ H gd = some (.dT (kvsI G)) ∧
  ∀ H' w, Same H H' → H w = none → WyAt H' w (wAll (waysT m G c sg) m.length) → Q (.ref w) H'
theorem call_tupK {X : Cx} (K : PySem.W.Frag) (hK : X.K = K := by rfl) : CallR X (.type "tuple") (fun xs H Q => ∃ p ys, xs = [.ref p] ∧ ((SqL K H p ys ∧ ∀ l, H l = none → Q (.ref l) (upd H l (.tup ys))) ∨ (SqT K H p ys ∧ Q (.ref p) H))) := by
  subst hK
  exact call_tuple_of
section
variable {P : Program} {w : World} {K : PySem.W.Frag} {mg : Str → Option Value} {base : Heap}
theorem scWays : FnScope nWays ["states", "sign", "costs", "gaps"] (defScope sWays) := ⟨rfl, rfl, rfl, by decide +kernel, rfl, by decide +kernel, by decide +kernel⟩
theorem ok_ways {f : Addr} {fd : FuncData} (F : Fun K "_ways" "_ways" sWays f fd) (B : Bn mg) (O : On mg) (En : En mg) (J : Cd P w K mg base 1 "_lower" ["table", "key", "number"] spLower) : FnOk P w K mg base CX0 2 f fd ["states", "sign", "costs", "gaps"] spWays := by
  obtain ⟨a1, d1, G1, m1, k1, b1⟩ := J.ex
  refine F.ok scWays (fun vs H Q E h => ?_) (fun cdv A outer s H vs Q E hr h => ?_)
  · obtain ⟨t, ca, gd, sg, m, Pl, c, G, rfl, _⟩ := h
    rfl
  · have hu : A.units + 3 + 1 < cLine := by
      have h2 : A.units + 3 + 16 * 1 + 200 < cLine := hr.un
      omega
    obtain ⟨t, ca, gd, sg, m, Pl, c, G, rfl, hm, wf, lm, l5, hca, emP, sgP, mvP, hG, q⟩ := h
    refine ⟨_, pss_cons (ps_set (i := 4) scWays.nd rfl (.inr rfl) pe_dnewT)
      (pss_cons (ps_for PassesOwn.never rfl (pi_enumT (by rfl) En.en (pa_cons (pv 0) pa_nil)) (pg_tup rfl (pgs_cons (pg_name (i := 5) scWays.nd rfl (.inl rfl)) (pgs_cons (pg_tup rfl (pgs_cons (pg_name (i := 6) scWays.nd rfl (.inr rfl)) (pgs_cons (pg_name (i := 7) scWays.nd rfl (.inl rfl)) pgs_nil))) pgs_nil)))
          (pss_cons (ps_set (i := 8) scWays.nd rfl (.inl rfl) (pe_op op_cat (pe_lst (pa_cons (pe_tup (pa_cons (pv 5) (pa_cons (pe_dget hu (pv 2) (pe_tup (pa_cons (pv 1) (pa_cons pe_str pa_nil))) (fun _ _ => rfl)) pa_nil))) pa_nil))
              (pe_lock (pe_lc (own := [("new", 12)]) (g := gName 12) (tt := tYes) rfl scWays.nd (pi_keys (pv 6)) (blkOk_by (N := nWays) (sc := defScope sWays) (by decide +kernel))
                (fun _ _ _ _ _ => pg_name (i := 12) scWays.nd rfl (Or.inl rfl)) (fun _ _ _ _ _ => pts_nil)
                (fun _ _ _ _ _ => pe_tup (pa_cons (pe_dget hu (pv 6) (pv 12) (fun _ _ => rfl)) (pa_cons (pe_dget hu (pv 2) (pe_tup (pa_cons (pv 1) (pa_cons (pv 12) pa_nil))) (fun _ _ => rfl)) pa_nil)))))))
          (pss_one (ps_for PassesOwn.never rfl (pi_list (pv 8)) (pg_tup rfl (pgs_cons (pg_name (i := 9) scWays.nd rfl (.inl rfl)) (pgs_cons (pg_name (i := 10) scWays.nd rfl (.inl rfl)) pgs_nil)))
            (pss_one (ps_for PassesOwn.never rfl (pi_range1 (by rfl) B.range (pa_cons (pe_callB call_len_seq (by rfl) B.len PySem.boot_len (pa_cons (pv 0) pa_nil)) pa_nil)) (pg_name (i := 11) scWays.nd rfl (.inl rfl))
              (pss_one (ps_if (pt_cmp (pc_din hu (pe_tup (pa_cons (pv 9) (pa_cons (pv 11) pa_nil))) (pv 3)))
                (pss_one (ps_expr (pe_call G1 hr (by rfl) m1 k1 b1 .nil pass0 (pa_cons (pv 4) (pa_cons (pe_tup (pa_cons (pv 5) (pa_cons (pv 11) pa_nil))) (pa_cons (pe_op op_add (pv 10) (pe_dget hu (pv 3) (pe_tup (pa_cons (pv 9) (pa_cons (pv 11) pa_nil))) (fun _ _ => rfl))) pa_nil)))))) pss_nil))))))))
      (pss_one (ps_ret (pe_callTy call_tuple_of (by rfl) O.tuple (by decide +kernel) (pa_cons (pe_lc (own := [("to", 11)]) (g := gName 11) (tt := tYes) rfl scWays.nd (pi_range1 (by rfl) B.range (pa_cons (pe_callB call_len_seq (by rfl) B.len PySem.boot_len (pa_cons (pv 0) pa_nil)) pa_nil)) (blkOk_by (N := nWays) (sc := defScope sWays) (by decide +kernel))
          (fun _ _ _ _ _ => pg_name (i := 11) scWays.nd rfl (Or.inr rfl)) (fun _ _ _ _ _ => pts_nil)
          (fun _ _ _ _ _ => pe_callTy (T := "tuple") (call_tupK K) (by rfl) O.tuple (by decide +kernel) (pa_cons (pe_lc (own := [("ahead", 13)]) (g := gName 13) rfl scWays.nd (pi_range1 (by rfl) B.range (pa_cons (pe_callB (call_lenK K) (by rfl) B.len PySem.boot_len (pa_cons (pv 0) pa_nil)) pa_nil)) (blkOk_by (N := nWays) (sc := scW) (by decide +kernel))
            (fun _ _ _ _ _ => pg_name (i := 13) scWays.nd rfl (Or.inl rfl)) (fun _ _ _ _ _ => pts_one (pt_cmp (pc_din hu (pe_tup (pa_cons (pv 13) (pa_cons (pv 11) pa_nil))) (pv 4))))
            (fun _ _ _ _ _ => pe_tup (pa_cons (pv 13) (pa_cons (pe_dget hu (pv 4) (pe_tup (pa_cons (pv 13) (pa_cons (pv 11) pa_nil))) (fun _ _ => rfl)) pa_nil)))) pa_nil))) pa_nil))))), ?_⟩
    have n2 : 2 ≤ sizeLine := by decide
    have n1 : 1 ≤ sizeLine := by decide
    have lt1 : ∀ {n : Nat}, n ≤ 3999 → n < sizeLine := fun h1 => by rw [sizeLine_eq]; omega
    obtain ⟨ss, et, pt⟩ := id hm
    have ls : ss.length = m.length := Paired.length pt
    have b1 : -(2 ^ 62) ≤ ((m.length : Nat) : Int) := by omega
    have b2 : ((m.length : Nat) : Int) < 2 ^ 62 := by omega
    -- found
    refine fun fd hfd => ?_
    have s1 := Same.new (o := .dT []) hfd
    have e1 : (upd H fd (.dT [])) fd = some (.dT (kvsI [])) := upd_same
    generalize upd H fd (.dT []) = H1 at s1 e1 ⊢
    have gF : gd ≠ fd := ne_of_none hG hfd
    have caF : ca ≠ fd := fun h => by
      obtain ⟨Dl, h1, _⟩ := hca
      rw [h, hfd] at h1
      cases h1
    -- each state
    refine ⟨_, rfl, t, _, rfl, SqT.of (s1 _ _ et), for_it (walk_n (K := K) (k := .t) (a := t) (xs := ss.map V.ref)) (fun k σ H2 => (∃ o5 o6 o7 o8 o9 o10 o11, σ = [some (.ref t), some (.str sg), some (.ref ca), some (.ref gd), some (.ref fd), o5, o6, o7, o8, o9, o10, o11, none, none]) ∧ Same H H2 ∧ H2 fd = some (.dT (kvsI ((List.range k).foldl (wyN m G c sg) [])))) ⟨⟨_, _, _, _, _, _, _, rfl⟩, s1, e1⟩ (fun i σ H2 _ h2 => SqT.of (h2.2.1 _ _ et)) ?_ ?_⟩
    · clear e1 s1 H1
      rintro k x σ H2 H3 hk ⟨⟨o5, o6, o7, o8, o9, o10, o11, rfl⟩, s2, e2⟩ ⟨T, y, rfl, hT, rfl, hy⟩
      rw [List.length_map] at hk
      obtain ⟨⟨mv, la⟩, hq, d, g1, g2⟩ := L2.paired_get pt (List.getElem?_eq_getElem hk)
      have emv : mvs m (k : Nat) = mv := by
        unfold mvs
        rw [Int.toNat_natCast, List.getD_eq_getElem?_getD, hq]
        rfl
      have ey : V.ref ss[k] = y := by
        rw [List.getElem?_map, List.getElem?_eq_getElem hk] at hy
        exact Option.some.inj hy
      subst ey
      have km : k < m.length := by omega
      have okD : KOk m.length ((List.range k).foldl (wyN m G c sg) []) := ways_ok (by omega)
      have nxk : (List.range (k + 1)).foldl (wyN m G c sg) [] = (stepsL mv c sg k).foldl (wyS m.length G k) ((List.range k).foldl (wyN m G c sg) []) := by
        rw [List.range_succ, List.foldl_append, List.foldl_cons, List.foldl_nil]
        unfold wyN
        rw [emv]
      rw [nxk]
      generalize (List.range k).foldl (wyN m G c sg) [] = D0 at e2 okD ⊢
      have s3 := s2.trans (Same.new (o := .tup [V.int (k : Nat), V.ref ss[k]]) hT)
      have e3 := (Same.new (o := .tup [V.int (k : Nat), V.ref ss[k]]) hT) _ _ e2
      have eT : (upd H2 T (.tup [V.int (k : Nat), V.ref ss[k]])) T = some (.tup [V.int (k : Nat), V.ref ss[k]]) := upd_same
      refine ⟨T, _, rfl, SqT.of eT, rfl, _, _, rfl, _, _, rfl, ?_⟩
      generalize upd H2 T (.tup [V.int (k : Nat), V.ref ss[k]]) = H3 at s3 e3 ⊢
      clear eT hT hy s2 e2 H2
      refine ⟨ss[k], _, rfl, SqT.of (s3 _ _ g1), rfl, _, _, rfl, _, _, rfl, rfl, rfl, ?_⟩
      -- the steps
      have caS : ∀ {H' : Hp}, Same H H' → Cst6 H' ca Pl c := fun s => hca.keep fun o e => s _ _ e
      refine ⟨_, rfl, _, rfl, _, rfl, n2, fun q1 hq1 => ⟨ca, _, rfl, (caS s3).get hq1 sgP emP, n2, fun p1 hp1 => ⟨n1, fun l1 hl1 => ?_⟩⟩⟩
      have k1 := Same.new (o := .tup [V.str sg, V.str ""]) hq1
      have k2 := Same.new (o := .tup [V.int (k : Nat), V.int (c sg "")]) hp1
      have k3 := Same.new (o := .lst [V.ref p1]) hl1
      have s4 := ((s3.trans k1).trans k2).trans k3
      have e4 := k3 _ _ (k2 _ _ (k1 _ _ e3))
      have ep1 := k3 _ _ (upd_same : upd (upd H3 q1 (.tup [V.str sg, V.str ""])) p1 (.tup [V.int (k : Nat), V.int (c sg "")]) p1 = _)
      have el1 : (upd (upd (upd H3 q1 (.tup [V.str sg, V.str ""])) p1 (.tup [V.int (k : Nat), V.int (c sg "")])) l1 (.lst [V.ref p1])) l1 = some (.lst [V.ref p1]) := upd_same
      generalize upd (upd (upd H3 q1 (.tup [V.str sg, V.str ""])) p1 (.tup [V.int (k : Nat), V.int (c sg "")])) l1 (.lst [V.ref p1]) = H4 at s4 e4 ep1 el1 ⊢
      clear k1 k2 k3 hq1 hp1 hl1 s3 e3 H3
      have ed := s4 _ _ g2
      refine ⟨d, _, ed, trivial, fun od => ⟨_, rfl, d, od, rfl, .inl ⟨kvsP mv, upd_same, fun D hD => ?_⟩⟩⟩
      have eL : (upd H4 d (.frz od (.dK (kvsP mv)))) d = some (.frz od (.dK (kvsP mv))) := upd_same
      have nD : d ≠ D := ne_of_none eL hD
      have kL : ∀ b o, b ≠ d → H4 b = some o → (upd H4 d (.frz od (.dK (kvsP mv)))) b = some o := fun b o n e => (upd_ne n).trans e
      have caL : Cst6 (upd H4 d (.frz od (.dK (kvsP mv)))) ca Pl c := (caS s4).keep fun o e => kL _ _ (fun h => by
        obtain ⟨Dl, h1, _⟩ := caS s4
        rw [h, ed] at h1
        cases h1) e
      generalize upd H4 d (.frz od (.dK (kvsP mv))) = HL at eL kL hD caL ⊢
      have rgk : ∀ s ∈ mv.map (·.1), 0 ≤ look mv s ∧ look mv s < m.length := fun s hs => by
        have := look_rg wf (i := (k : Nat)) (s := s) (by rw [emv]; exact hs)
        rwa [emv] at this
      have lmv : mv.length ≤ 5 := l5 _ (List.mem_of_getElem? hq)
      refine wk_any (walk_keys (d := d) (o := od) (kvs := kvsP mv)) (fun j H1 => Same HL H1 ∧ ∃ ps : List Addr, H1 D = some (.lst (ps.map V.ref)) ∧ Paired (PrA H1) ps (((mv.map (·.1)).take j).map fun s => ((look mv s).toNat, c sg s))) ⟨Same.new hD, [], upd_same, .nil⟩ (fun i H1 _ h1 => h1.1 _ _ eL) ?_ ?_
      · rintro j x H1 H2 hj ⟨s5, ps, e5, pp⟩ ⟨rfl, ky, vv, hx, rfl⟩
        have hj2 : j < mv.length := by rwa [kvsP_len] at hj
        rw [kvsP_at hj2] at hx
        cases hx
        have sm : mv[j].1 ∈ mv.map (·.1) := List.mem_map.mpr ⟨_, List.getElem_mem hj2, rfl⟩
        have rg := rgk _ sm
        have mP : mv[j].1 ∈ Pl := mvP _ (List.mem_of_getElem? hq) _ (List.getElem_mem hj2)
        have lps := Paired.length pp
        rw [List.length_map, List.length_take] at lps
        have tk : ((mv.map (·.1)).take (j + 1)).map (fun s => ((look mv s).toNat, c sg s)) = ((mv.map (·.1)).take j).map (fun s => ((look mv s).toNat, c sg s)) ++ [((look mv mv[j].1).toNat, c sg mv[j].1)] := by
          rw [List.take_add_one, List.getElem?_map, List.getElem?_eq_getElem hj2, List.map_append]
          rfl
        rw [tk]
        generalize mv[j].1 = s at sm rg mP ⊢
        refine ⟨rfl, _, rfl, _, rfl, d, V.int (look mv s), rfl, .inl ⟨kvsP mv, Sum.inr s, .inr ⟨od, s5 _ _ eL⟩, rfl, (valP sm).symm⟩, ?_⟩
        refine ⟨_, rfl, _, rfl, _, rfl, n2, fun q2 hq2 => ⟨ca, _, rfl, (caL.keep fun o e => s5 _ _ e).get hq2 sgP mP, n2, fun p2 hp2 => ?_⟩⟩
        have k1 := Same.new (o := .tup [V.str sg, kV (Sum.inr s)]) hq2
        have k2 := Same.new (o := .tup [V.int (look mv s), V.int (c sg s)]) hp2
        have e6 := k2 _ _ (k1 _ _ e5)
        have ep2 : (upd (upd H2 q2 (.tup [V.str sg, kV (Sum.inr s)])) p2 (.tup [V.int (look mv s), V.int (c sg s)])) p2 = some (.tup [V.int (look mv s), V.int (c sg s)]) := upd_same
        have s6 := (s5.trans k1).trans k2
        have pp6 : Paired (PrA (upd (upd H2 q2 (.tup [V.str sg, kV (Sum.inr s)])) p2 (.tup [V.int (look mv s), V.int (c sg s)]))) ps _ := L2.Paired.mapP pp fun _ _ e => k2 _ _ (k1 _ _ e)
        generalize upd (upd H2 q2 (.tup [V.str sg, kV (Sum.inr s)])) p2 (.tup [V.int (look mv s), V.int (c sg s)]) = H6 at e6 ep2 s6 pp6 ⊢
        have kU : ∀ b o, b ≠ D → H6 b = some o → (upd H6 D (.lst (ps.map V.ref ++ [V.ref p2]))) b = some o := fun b o n e => (upd_ne n).trans e
        refine ⟨_, e6, lt1 (by rw [List.length_map]; omega), Same.upN s6 hD, ps ++ [p2], ?_, ?_⟩
        · rw [upd_same, List.map_append]
          rfl
        · refine Paired.appendP (L2.Paired.mapP pp6 fun b q e => kU _ _ (fun z => by
            have e' : H6 b = some (.tup [.int q.1, .int q.2]) := e
            rw [z, e6] at e'
            cases e') e) (.cons (kU _ _ (fun z => by
            rw [z, e6] at ep2
            cases ep2) ?_) .nil)
          rw [ep2]
          show some (HO.tup [V.int (look mv s), V.int (c sg s)]) = some (HO.tup [V.int ((look mv s).toNat : Int), V.int (c sg s)])
          rw [Int.toNat_of_nonneg rg.1]
      rintro H5 ⟨s5, ps, e5, pp⟩
      rw [kvsP_len, ← List.length_map (f := (·.1)), List.take_length] at pp
      refine ⟨s5 _ _ eL, ?_⟩
      have back : Same H4 (upd H5 d (.dK (kvsP mv))) := fun b o e => by
        by_cases z : b = d
        · subst z
          rw [ed] at e
          cases e
          exact upd_same
        · rw [upd_ne z]
          exact s5 _ _ (kL b o z e)
      have e6 : (upd H5 d (.dK (kvsP mv))) D = some (.lst (ps.map V.ref)) := (upd_ne nD.symm).trans e5
      have pp6 : Paired (PrA (upd H5 d (.dK (kvsP mv)))) ps ((mv.map (·.1)).map fun s => ((look mv s).toNat, c sg s)) := L2.Paired.mapP pp fun b q e => (upd_ne fun z => by
        have e' : H5 b = some (.tup [.int q.1, .int q.2]) := e
        rw [z, s5 _ _ eL] at e'
        cases e').trans e
      generalize upd H5 d (.dK (kvsP mv)) = H6 at back e6 pp6 ⊢
      have el6 := back _ _ el1
      have lps := Paired.length pp6
      rw [List.length_map, List.length_map] at lps
      refine ⟨l1, D, _, _, rfl, rfl, el6, e6, ?_, fun L hL => ?_⟩
      · rw [List.length_map]
        exact Nat.le_of_lt (lt1 (by show 1 + ps.length ≤ 3999; omega))
      have kN := Same.new (o := .lst ([V.ref p1] ++ ps.map V.ref)) hL
      have eLs : (upd H6 L (.lst ([V.ref p1] ++ ps.map V.ref))) L = some (.lst ((p1 :: ps).map V.ref)) := upd_same
      have s7 := (s4.trans back).trans kN
      have e7 := kN _ _ (back _ _ e4)
      have pp7 : Paired (PrA (upd H6 L (.lst ([V.ref p1] ++ ps.map V.ref)))) (p1 :: ps) (stepsL mv c sg k) := .cons (kN _ _ (back _ _ ep1)) (L2.Paired.mapP pp6 fun _ _ e => kN _ _ e)
      generalize upd H6 L (.lst ([V.ref p1] ++ ps.map V.ref)) = H7 at eLs s7 e7 pp7 ⊢
      clear kN hL e6 pp6 el6 back lps e5 pp s5 kL eL nD hD caL HL ed el1 ep1 e4 s4 H4 H5 H6
      have lst : (p1 :: ps).length = (stepsL mv c sg k).length := Paired.length pp7
      have rgS : ∀ p ∈ stepsL mv c sg k, p.1 < m.length := fun p hp => steps_rg wf km p (by rw [emv]; exact hp)
      generalize p1 :: ps = zs at eLs pp7 lst ⊢
      generalize stepsL mv c sg k = sl at pp7 lst rgS ⊢
      have LF : L ≠ fd := fun z => by rw [z, e7] at eLs; cases eLs
      have tF : t ≠ fd := ne_of_none et hfd
      refine ⟨_, rfl, L, rfl, ⟨_, SqL.of eLs⟩, for_it (walk_list (K := K) (a := L) (xs := zs.map V.ref)) (fun i σ H8 => (∃ o9 o10 o11, σ = [some (.ref t), some (.str sg), some (.ref ca), some (.ref gd), some (.ref fd), some (.int (k : Nat)), some (.ref d), some (.bl la), some (.ref L), o9, o10, o11, none, none]) ∧ WyI H7 H8 fd ((sl.take i).foldl (wyS m.length G k) D0)) ⟨⟨_, _, _, rfl⟩, fun _ _ _ e => e, e7⟩ (fun i σ H8 _ h8 => SqL.of (h8.2.same _ _ LF eLs)) ?_ ?_⟩
      · rintro i x σ H8 H9 hi ⟨⟨o9', o10', o11', rfl⟩, W⟩ ⟨rfl, hx⟩
        rw [List.length_map] at hi
        obtain rfl : V.ref zs[i] = x := by
          rw [List.getElem?_map, List.getElem?_eq_getElem hi] at hx
          exact Option.some.inj hx
        have hi2 : i < sl.length := by omega
        obtain ⟨pq, hpq, epq⟩ := L2.paired_get pp7 (List.getElem?_eq_getElem hi)
        obtain rfl : sl[i] = pq := by
          rw [List.getElem?_eq_getElem hi2] at hpq
          exact Option.some.inj hpq
        have rp := rgS _ (List.getElem_mem hi2)
        have ok1 : KOk m.length ((sl.take i).foldl (wyS m.length G k) D0) := steps_ok km okD
        have nx : (sl.take (i + 1)).foldl (wyS m.length G k) D0 = wyS m.length G k ((sl.take i).foldl (wyS m.length G k) D0) sl[i] := foldl_take _ _ _ hi2
        rw [nx]
        generalize (sl.take i).foldl (wyS m.length G k) D0 = D1 at W ok1 ⊢
        clear nx
        have zF : zs[i] ≠ fd := fun z => by
          have e' : H7 zs[i] = some (.tup [.int (sl[i]).1, .int (sl[i]).2]) := epq
          rw [z, e7] at e'
          cases e'
        have epq' : H9 zs[i] = some (.tup [.int (sl[i]).1, .int (sl[i]).2]) := W.same _ _ zF epq
        refine ⟨zs[i], _, rfl, SqT.of epq', rfl, _, _, rfl, _, _, rfl, rfl, ?_⟩
        generalize sl[i] = pq at rp ⊢
        obtain ⟨via, price⟩ := pq
        refine ⟨_, rfl, t, _, rfl, .inr (SqT.of (W.same _ _ tF (s7 _ _ et))), _, rfl, ?_⟩
        rw [List.length_map, ls]
        refine ⟨b1, b2, for_it (walk_rg (n := m.length)) (fun j σ H3 => (∃ o11, σ = [some (.ref t), some (.str sg), some (.ref ca), some (.ref gd), some (.ref fd), some (.int (k : Nat)), some (.ref d), some (.bl la), some (.ref L), some (.int (via : Nat)), some (.int price), o11, none, none]) ∧ WyI H7 H3 fd ((List.range j).foldl (wyT G k via price) D1)) ⟨⟨_, rfl⟩, W⟩ (fun _ _ _ _ _ => trivial) ?_ ?_⟩
        · clear W
          rintro j x σ H7' H8 hj ⟨⟨o11'', rfl⟩, W⟩ ⟨rfl, rfl⟩
          have ok3 : KOk m.length ((List.range j).foldl (wyT G k via price) D1) := range_ind (f := wyT G k via price) (n := j) (b := D1) (fun _ D => KOk m.length D) ok1 fun j' hj' D h => wyT_ok km (by omega) h
          have nx : (List.range (j + 1)).foldl (wyT G k via price) D1 = wyT G k via price ((List.range j).foldl (wyT G k via price) D1) j := by
            rw [List.range_succ, List.foldl_append]
            rfl
          rw [nx]
          generalize (List.range j).foldl (wyT G k via price) D1 = D3 at W ok3 ⊢
          clear nx
          have gG : ∀ {H : Hp}, WyI H7 H fd D3 → H gd = some (.dT (kvsI G)) := fun W => W.same _ _ gF (s7 _ _ hG)
          refine ⟨_, rfl, _, rfl, n2, fun q1 hq1 => ⟨_, rfl, gd, _, rfl, .inr ⟨kvsI G, keyI (via, j), q1, .inl (gG (W.new hq1)), rfl, upd_same, rfl⟩, _, rfl, ?_⟩⟩
          rw [isSome_I]
          have W1 := W.new (o := .tup [V.int (via : Nat), V.int (j : Nat)]) hq1
          generalize upd H8 q1 (.tup [V.int (via : Nat), V.int (j : Nat)]) = H9' at W1 ⊢
          by_cases c1 : (via, j) ∈ G.map (·.1)
          · rw [decide_eq_true c1]
            refine iteT ⟨_, rfl, _, rfl, _, rfl, n2, fun q3 hq3 => ?_⟩
            have W3 := W1.new (o := .tup [V.int (k : Nat), V.int (j : Nat)]) hq3
            have e3 : (upd H9' q3 (.tup [V.int (k : Nat), V.int (j : Nat)])) q3 = some (.tup [V.int (k : Nat), V.int (j : Nat)]) := upd_same
            generalize upd H9' q3 (.tup [V.int (k : Nat), V.int (j : Nat)]) = H11 at W3 e3 ⊢
            refine ⟨_, rfl, _, rfl, _, rfl, _, rfl, n2, fun q4 hq4 => ⟨gd, V.int (look G (via, j)), rfl, .inr ⟨kvsI G, keyI (via, j), q4, .inl (gG (W3.new hq4)), rfl, upd_same, (valI c1).symm⟩, _, _, rfl, rfl, ?_⟩⟩
            have W4 := W3.new (o := .tup [V.int (via : Nat), V.int (j : Nat)]) hq4
            have e4 := (Same.new (o := .tup [V.int (via : Nat), V.int (j : Nat)]) hq4) _ _ e3
            generalize upd H11 q4 (.tup [V.int (via : Nat), V.int (j : Nat)]) = H12 at W4 e4 ⊢
            refine ⟨fd, q3, D3, k, j, _, rfl, W4.out, e4, ok3.lt lm, fun H14 W6 => ⟨⟨_, rfl⟩, fun b o nb e => W6.same _ _ nb (W4.same _ _ nb e), ?_⟩⟩
            unfold wyT
            rw [if_pos c1]
            exact W6.out
          · rw [decide_eq_false c1]
            refine iteF ⟨⟨_, rfl⟩, ?_⟩
            unfold wyT
            rw [if_neg c1]
            exact W1
        · rintro σ H8 ⟨⟨o11'', rfl⟩, W⟩
          exact ⟨⟨_, _, _, rfl⟩, W⟩
      · rintro σ H8 ⟨⟨o9', o10', o11', rfl⟩, W⟩
        rw [List.length_map, lst, List.take_length] at W
        exact ⟨⟨_, _, _, _, _, _, _, rfl⟩, W.same0 s7 hfd, W.out⟩
    rintro σ H2 ⟨⟨o5, o6, o7, o8, o9, o10, o11, rfl⟩, s2, e2⟩
    rw [List.length_map, ls] at e2
    have e2 : H2 fd = some (.dT (kvsI (waysT m G c sg))) := e2
    clear e1 s1 H1
    generalize waysT m G c sg = D0 at e2 q ⊢
    -- what is told
    refine ⟨_, rfl, t, _, rfl, .inr (SqT.of (s2 _ _ et)), _, rfl, ?_⟩
    rw [List.length_map, ls]
    refine ⟨b1, b2, fun D hD => lc_it (walk_rg (n := m.length)) (fun i H3 => Same H2 H3 ∧ ∃ ts : List Addr, H3 D = some (.lst (ts.map V.ref)) ∧ Paired (WrA H3) ts ((wAll D0 m.length).take i)) ⟨Same.new hD, [], upd_same, .nil⟩ (fun _ _ _ _ => trivial) ?_ ?_⟩
    · rintro i x H3 H4 hi ⟨s3, ts, e3, pp⟩ ⟨rfl, rfl⟩
      have nx : (wAll D0 m.length).take (i + 1) = (wAll D0 m.length).take i ++ [wlist D0 m.length i] := by
        unfold wAll
        rw [List.take_add_one, List.getElem?_map, List.getElem?_range hi]
        rfl
      have lts := Paired.length pp
      rw [List.length_take] at lts
      rw [nx]
      generalize (wAll D0 m.length).take i = wl at pp lts ⊢
      clear nx
      refine ⟨rfl, ?_⟩
      refine ⟨_, rfl, t, _, rfl, .inr (SqT.of (s3 _ _ (s2 _ _ et))), _, rfl, ?_⟩
      rw [List.length_map, ls]
      refine ⟨b1, b2, fun D1 hD1 => lc_it (walk_rg (n := m.length)) (fun a H5 => Same H4 H5 ∧ ∃ ps : List Addr, H5 D1 = some (.lst (ps.map V.ref)) ∧ Paired (PrA H5) ps (((List.range a).filter fun a => decide ((a, i) ∈ D0.map (·.1))).map fun a => (a, look D0 (a, i)))) ⟨Same.new hD1, [], upd_same, .nil⟩ (fun _ _ _ _ => trivial) ?_ ?_⟩
      · rintro a x H5 H6 ha ⟨s5, ps, e5, pq⟩ ⟨rfl, rfl⟩
        have lps := Paired.length pq
        rw [List.length_map] at lps
        have lps2 : ps.length ≤ a := by
          rw [lps]
          exact Nat.le_trans (List.length_filter_le _ _) (by rw [List.length_range]; exact Nat.le_refl _)
        have fD : ∀ {H : Hp}, Same H6 H → H fd = some (.dT (kvsI D0)) := fun s => s _ _ (s5 _ _ (s3 _ _ e2))
        have nx : ((List.range (a + 1)).filter fun a => decide ((a, i) ∈ D0.map (·.1))) = ((List.range a).filter fun a => decide ((a, i) ∈ D0.map (·.1))) ++ (if (a, i) ∈ D0.map (·.1) then [a] else []) := by
          rw [List.range_succ, List.filter_append, List.filter_cons, List.filter_nil]
          by_cases cc : (a, i) ∈ D0.map (·.1)
          · rw [if_pos cc, if_pos (decide_eq_true cc)]
          · rw [if_neg cc, decide_eq_false cc]
            rfl
        refine ⟨rfl, _, rfl, _, rfl, n2, fun q1 hq1 => ⟨_, rfl, fd, _, rfl, .inr ⟨kvsI D0, keyI (a, i), q1, .inl (fD (Same.new hq1)), rfl, upd_same, rfl⟩, _, rfl, ?_⟩⟩
        rw [isSome_I]
        have k1 := Same.new (o := .tup [V.int (a : Nat), V.int (i : Nat)]) hq1
        have e6 := k1 _ _ e5
        have pq6 : Paired (PrA (upd H6 q1 (.tup [V.int (a : Nat), V.int (i : Nat)]))) ps _ := L2.Paired.mapP pq fun _ _ e => k1 _ _ e
        generalize upd H6 q1 (.tup [V.int (a : Nat), V.int (i : Nat)]) = H7 at k1 e6 pq6 ⊢
        by_cases c1 : (a, i) ∈ D0.map (·.1)
        · rw [decide_eq_true c1]
          rw [if_pos c1] at nx
          refine iteT ⟨_, rfl, _, rfl, _, rfl, _, rfl, n2, fun q2 hq2 => ⟨fd, V.int (look D0 (a, i)), rfl, .inr ⟨kvsI D0, keyI (a, i), q2, .inl (fD (k1.trans (Same.new hq2))), rfl, upd_same, (valI c1).symm⟩, n2, fun p2 hp2 => ?_⟩⟩
          have k2 := Same.new (o := .tup [V.int (a : Nat), V.int (i : Nat)]) hq2
          have k3 := Same.new (o := .tup [V.int (a : Nat), V.int (look D0 (a, i))]) hp2
          have e8 := k3 _ _ (k2 _ _ e6)
          have ep2 : (upd (upd H7 q2 (.tup [V.int (a : Nat), V.int (i : Nat)])) p2 (.tup [V.int (a : Nat), V.int (look D0 (a, i))])) p2 = some (.tup [V.int (a : Nat), V.int (look D0 (a, i))]) := upd_same
          have s8 := ((s5.trans k1).trans k2).trans k3
          have pq8 : Paired (PrA (upd (upd H7 q2 (.tup [V.int (a : Nat), V.int (i : Nat)])) p2 (.tup [V.int (a : Nat), V.int (look D0 (a, i))]))) ps _ := L2.Paired.mapP pq6 fun _ _ e => k3 _ _ (k2 _ _ e)
          generalize upd (upd H7 q2 (.tup [V.int (a : Nat), V.int (i : Nat)])) p2 (.tup [V.int (a : Nat), V.int (look D0 (a, i))]) = H8 at e8 ep2 s8 pq8 ⊢
          have kU : ∀ b o, b ≠ D1 → H8 b = some o → (upd H8 D1 (.lst (ps.map V.ref ++ [V.ref p2]))) b = some o := fun b o n e => (upd_ne n).trans e
          refine ⟨_, e8, lt1 (by rw [List.length_map]; omega), Same.upN s8 hD1, ps ++ [p2], ?_, ?_⟩
          · rw [upd_same, List.map_append]
            rfl
          · rw [nx, List.map_append]
            refine Paired.appendP (L2.Paired.mapP pq8 fun b q e => kU _ _ (fun z => by
              have e' : H8 b = some (.tup [.int q.1, .int q.2]) := e
              rw [z, e8] at e'
              cases e') e) (.cons (kU _ _ (fun z => by
              rw [z, e8] at ep2
              cases ep2) ep2) .nil)
        · rw [decide_eq_false c1]
          rw [if_neg c1, List.append_nil] at nx
          refine iteF ⟨s5.trans k1, ps, e6, ?_⟩
          rw [nx]
          exact pq6
      · rintro H5 ⟨s5, ps, e5, pq⟩
        dsimp only [tNil]
        refine ⟨D1, _, rfl, .inl ⟨SqL.of e5, fun w1 hw1 => ?_⟩⟩
        have k1 := Same.new (o := .tup (ps.map V.ref)) hw1
        have ew : (upd H5 w1 (.tup (ps.map V.ref))) w1 = some (.tup (ps.map V.ref)) := upd_same
        have s6 := s5.trans k1
        have pq6 : Paired (PrA (upd H5 w1 (.tup (ps.map V.ref)))) ps (wlist D0 m.length i) := L2.Paired.mapP pq fun _ _ e => k1 _ _ e
        generalize upd H5 w1 (.tup (ps.map V.ref)) = H6 at ew s6 pq6 ⊢
        have e6 := s6 _ _ e3
        have pp6 : Paired (WrA H6) ts wl := L2.Paired.mapP pp fun _ _ e => e.keep s6
        have kU : ∀ b o, b ≠ D → H6 b = some o → (upd H6 D (.lst (ts.map V.ref ++ [V.ref w1]))) b = some o := fun b o n e => (upd_ne n).trans e
        have kP : ∀ {ps : List Addr} {l : List (Nat × Int)}, Paired (PrA H6) ps l → Paired (PrA (upd H6 D (.lst (ts.map V.ref ++ [V.ref w1])))) ps l := fun h => L2.Paired.mapP h fun b q e => kU _ _ (fun z => by
          have e' : H6 b = some (.tup [.int q.1, .int q.2]) := e
          rw [z, e6] at e'
          cases e') e
        refine ⟨_, e6, lt1 (by rw [List.length_map]; omega), Same.upN (s3.trans s6) hD, ts ++ [w1], ?_, ?_⟩
        · rw [upd_same, List.map_append]
          rfl
        · refine Paired.appendP (L2.Paired.mapP pp6 fun b l ⟨ps', x1, x2⟩ => ⟨ps', kU _ _ (fun z => by
            rw [z, e6] at x1
            cases x1) x1, kP x2⟩) (.cons ⟨ps, kU _ _ (fun z => by
            rw [z, e6] at ew
            cases ew) ew, kP pq6⟩ .nil)
    · rintro H3 ⟨s3, ts, e3, pp⟩
      rw [List.take_of_length_le (by unfold wAll; rw [List.length_map, List.length_range]; exact Nat.le_refl _)] at pp
      dsimp only [tNil]
      refine ⟨D, _, rfl, .inl ⟨SqL.of e3, fun w1 hw1 => ?_⟩⟩
      have k1 := Same.new (o := .tup (ts.map V.ref)) hw1
      have s4 := (s2.trans s3).trans k1
      exact q _ w1 s4 ((s2.trans s3).free hw1) ⟨ts, upd_same, L2.Paired.mapP pp fun _ _ e => e.keep k1⟩
end
end Mk

set_option Elab.async false
set_option linter.all false
set_option maxRecDepth 100000
set_option maxHeartbeats 4000000
/-! the law of near rows -/
namespace Mk
open PySem PySem.Spec L2 PyProof.Rows

theorem srt_mem {m : Mch} {q : PTab × Bool} (h : q ∈ srtM m) : ∃ q' ∈ m, q.1 = srtP q'.1 := by
  unfold srtM at h
  obtain ⟨q', h1, rfl⟩ := List.mem_map.mp h
  exact ⟨q', h1, rfl⟩
theorem srt_len {m : Mch} : (srtM m).length = m.length := List.length_map _
theorem srt_wf {m : Mch} (w : WF m) : WF (srtM m) := by
  have key : ∀ {q : PTab × Bool}, q ∈ m → ∀ p ∈ srtP q.1, p ∈ q.1 := fun {q} hq p hp => by
    unfold srtP put at hp
    obtain ⟨s, hs, rfl⟩ := List.mem_map.mp hp
    have hm := (keysM_perm q.1).mem_iff.mp hs
    obtain ⟨x, hx, rfl⟩ := List.mem_map.mp hm
    rw [look_mem (w.nd q hq) x hx]
    exact hx
  refine ⟨fun q hq => ?_, fun q hq p hp => ?_, fun q hq p hp => ?_⟩
  · obtain ⟨q', h, e⟩ := srt_mem hq
    rw [e]
    unfold srtP
    rw [put_keys]
    exact (keysM_perm q'.1).nodup_iff.mpr (w.nd q' h)
  · obtain ⟨q', h, e⟩ := srt_mem hq
    rw [e] at hp
    exact w.sg q' h p (key h p hp)
  · obtain ⟨q', h, e⟩ := srt_mem hq
    rw [e] at hp
    rw [srt_len]
    exact w.to q' h p (key h p hp)
theorem srt_l {m : Mch} {k : Nat} (h : ∀ q ∈ m, q.1.length ≤ k) : ∀ q ∈ srtM m, q.1.length ≤ k := fun q hq => by
  obtain ⟨q', hq', e⟩ := srt_mem hq
  rw [e]
  unfold srtP put
  rw [List.length_map, (keysM_perm q'.1).length_eq, List.length_map]
  exact h q' hq'
section
variable {P : Program} {w : World} {K : PySem.W.Frag} {mg : Str → Option Value} {base : Heap} {C CB : Addr}
end
end Mk

set_option Elab.async false
set_option linter.all false
set_option maxRecDepth 100000
set_option maxHeartbeats 4000000
/-! Reader: __init__, behind -/
namespace Mk
open PySem PySem.Spec L2 PyProof.Rows

abbrev sRInit : Stmt := inClass (top 38) 0
abbrev sRBeh : Stmt := inClass (top 38) 1
abbrev nRInit : List Str := ["self", "target", "prices", "states", "costs", "gaps", "to", "at", "_", "last", "sign"]
abbrev nRBeh : List Str := ["self", "row", "sign", "ways", "near", "price"]
/-! the machine with its moves in order is as good -/
theorem srtP_nil : srtP [] = [] := by
  unfold srtP put keysM
  simp
theorem srt_mvs (m : Mch) (i : Int) : mvs (srtM m) i = srtP (mvs m i) := by
  unfold mvs srtM
  rw [List.getD_eq_getElem?_getD, List.getD_eq_getElem?_getD, List.getElem?_map]
  cases m[i.toNat]? with
  | none => exact srtP_nil.symm
  | some q => rfl
theorem srt_lst (m : Mch) (i : Int) : lst? (srtM m) i = lst? m i := by
  unfold lst? srtM
  rw [List.getD_eq_getElem?_getD, List.getD_eq_getElem?_getD, List.getElem?_map]
  cases m[i.toNat]? with
  | none => rfl
  | some q => rfl
theorem srtP_in {t : PTab} (nd : (t.map (·.1)).Nodup) {p : Str × Int} (h : p ∈ t) : p ∈ srtP t := by
  unfold srtP put
  have hs : p.1 ∈ t.map (·.1) := List.mem_map.mpr ⟨p, h, rfl⟩
  refine List.mem_map.mpr ⟨p.1, keysM_mem.mpr hs, ?_⟩
  have h2 := look_in nd hs
  obtain ⟨a, b, e⟩ := List.mem_iff_getElem.mp h
  obtain ⟨a', b', e'⟩ := List.mem_iff_getElem.mp h2
  have : a = a' := (List.getElem_inj (h₀ := by rwa [List.length_map]) (h₁ := by rwa [List.length_map]) nd).mp (by rw [List.getElem_map, List.getElem_map, e, e'])
  subst this
  rw [e] at e'
  exact e'.symm
theorem srt_good {m : Mch} (g : GoodM m) : GoodM (srtM m) := by
  have sub : ∀ (j : Int), ∀ p ∈ mvs m j, p ∈ mvs (srtM m) j := fun j p hp => by
    rw [srt_mvs]
    exact srtP_in (mvs_nd g.wf j) hp
  refine ⟨srt_wf g.wf, by rw [srt_len]; exact g.ne, fun i hi => ?_⟩
  rw [srt_len] at hi
  obtain ⟨a, j, b, c⟩ := g.rc i hi
  exact ⟨a.mono sub, j, b.mono sub, by rw [srt_lst]; exact c⟩
theorem srt_sign {m : Mch} {zs : List Str} (w : WF m) (h : ∀ q ∈ m, ∀ p ∈ q.1, p.1 ∈ zs) : ∀ q ∈ srtM m, ∀ p ∈ q.1, p.1 ∈ zs := fun q hq p hp => by
  obtain ⟨q', hq', e⟩ := srt_mem hq
  rw [e] at hp
  unfold srtP put at hp
  obtain ⟨s, hs, rfl⟩ := List.mem_map.mp hp
  obtain ⟨p', hp', e'⟩ := List.mem_map.mp (keysM_mem.mp hs)
  have := h q' hq' p' hp'
  rwa [e'] at this
/-! dicts with references -/
def kvsR (ws : List (Str × Addr)) : List (Key × V) := ws.map fun p => (Sum.inr p.1, V.ref p.2)
theorem kvsR_put {ws : List (Str × Addr)} {z : Str} {a : Addr} (h : z ∉ ws.map (·.1)) : L2.putK (kvsR ws) (Sum.inr z) (V.ref a) = kvsR (ws ++ [(z, a)]) := by
  have n : ¬ ((kvsR ws).any fun kv => decide (kv.1 = Sum.inr z)) = true := fun c => by
    obtain ⟨q, hq, e⟩ := List.any_eq_true.mp c
    obtain ⟨p, hp, rfl⟩ := List.mem_map.mp hq
    have e : (Sum.inr p.1 : Key) = Sum.inr z := of_decide_eq_true e
    injection e with e
    exact h (List.mem_map.mpr ⟨p, hp, e⟩)
  unfold L2.putK
  rw [if_neg n]
  unfold kvsR
  rw [List.map_append]
  rfl
theorem kvsR_val {ws : List (Str × Addr)} (nd : (ws.map (·.1)).Nodup) {p : Str × Addr} (h : p ∈ ws) : valV (kvsR ws) (Sum.inr p.1) = some (V.ref p.2) := by
  induction ws with
  | nil => exact nomatch h
  | cons a t ih =>
    rw [List.map_cons, List.nodup_cons] at nd
    rcases List.mem_cons.mp h with rfl | h
    · exact valV_pos rfl
    · have ne : ¬ (Sum.inr a.1 : Key) = Sum.inr p.1 := fun e => by
        injection e with e
        exact nd.1 (by rw [e]; exact List.mem_map.mpr ⟨p, h, rfl⟩)
      exact (valV_neg ne).trans (ih nd.2 h)
structure Rc (K : PySem.W.Frag) (C : Addr) : Prop where
  cl : Cls K C
  n1 : NoAttr K C "start"
  n2 : NoAttr K C "last_states"
  n3 : NoAttr K C "ways"
/-- a reader of a machine, by the costs c of the signs zs -/
def RdAt (C : Addr) (H : Hp) (x : Addr) (m : Mch) (zs : List Str) (c : Str → Str → Int) : Prop := ∃ (dx ts tl wd : Addr) (G : ITab) (ws : List (Str × Addr)), H x = some (.ins C dx [("start", V.ref ts), ("last_states", V.ref tl), ("ways", V.ref wd)]) ∧
  H ts = some (.tup (((List.range m.length).map fun j => look G (0, j)).map V.int)) ∧ H tl = some (.tup ((lasts m m.length).map V.int)) ∧ H wd = some (.dK (kvsR ws)) ∧ ws.map (·.1) = zs ∧ (∀ p ∈ ws, WyAt H p.2 (wAll (waysT m G c p.1) m.length)) ∧
  KOk m.length G ∧ ∀ i j, i < m.length → j < m.length → vl G (i, j) = Eg m (c "") m.length i j
def spRInit (CF CP CR : Addr) : Sp := fun vs H Q _ => ∃ (x f p dx : Addr) (m : Mch) (t1 t2 : PTab) (t3 : STab), vs = [.ref x, .ref f, .ref p] ∧ H x = some (.ins CR dx []) ∧ FmAt CF H f m ∧ GoodM m ∧ m.length ≤ 8 ∧ (∀ q ∈ m, q.1.length ≤ 5) ∧ PrAt CP H p t1 t2 t3 ∧ RtT t1 t2 t3 ∧ Srt t1 t2 t3 ∧
  (∀ q ∈ m, ∀ y ∈ q.1, y.1 ∈ t1.map (·.1)) ∧ ∀ H', But x H H' → RdAt CR H' x (srtM m) (t1.map (·.1)) (cc t1 t2 t3) → Q .non H'
section
variable {P : Program} {w : World} {K : PySem.W.Frag} {mg : Str → Option Value} {base : Heap} {CF CP CR : Addr}
theorem scRInit : FnScope nRInit ["self", "target", "prices"] (defScope sRInit) := ⟨rfl, rfl, rfl, by decide +kernel, rfl, by decide +kernel, by decide +kernel⟩
theorem ok_rInit {f : Addr} {fd : FuncData} (F : Fun K "__init__" "Reader.__init__" sRInit f fd) (TF : Fc K CF) (TP : Pc K CP) (TR : Rc K CR) (B : Bn mg) (O : On mg) (En : En mg)
    (PS : Pd P w K mg base CF 2 "states" (spFSt CF)) (PG : Pd P w K mg base CP 1 "signs" (spSigns CP)) (J1 : Cd P w K mg base 4 "costs_by_ends" ["prices"] (spBy CP)) (J2 : Cd P w K mg base 2 "put_costs" ["states", "costs"] spPutC) (J3 : Cd P w K mg base 2 "_ways" ["states", "sign", "costs", "gaps"] spWays) :
    FnOk P w K mg base CX0 5 f fd ["self", "target", "prices"] (spRInit CF CP CR) := by
  obtain ⟨ps, gs, ds, os, Fs, bs⟩ := PS.ex
  obtain ⟨pg, gg, dg, og, Fg, bg⟩ := PG.ex
  obtain ⟨a1, d1, G1, m1, k1, b1⟩ := J1.ex
  obtain ⟨a2, d2, G2, m2, k2, b2⟩ := J2.ex
  obtain ⟨a3, d3, G3, m3, k3, b3⟩ := J3.ex
  refine F.ok scRInit (fun vs H Q E h => ?_) (fun cdv A outer s H vs Q E hr h => ?_)
  · obtain ⟨x, f, p, dx, m, t1, t2, t3, rfl, _⟩ := h
    rfl
  · have hu : A.units + 3 + 20 < cLine := by
      have h2 : A.units + 3 + 16 * 4 + 200 < cLine := hr.un
      omega
    have hu1 : A.units + 3 + 1 < cLine := by omega
    have r2 : Room 2 _ := hr.mono (by decide)
    have r3 : Room 3 _ := hr.mono (by decide)
    obtain ⟨x, f, p, dx, m, t1, t2, t3, rfl, hx, hf, gm, lm, l5, hp, R, sr, sg, q⟩ := h
    refine ⟨_, pss_cons (ps_set (i := 3) scRInit.nd rfl (.inr rfl) (pe_prop (pv 1) TF.cl os Fs r3 bs .nil pass0 rfl))
      (pss_cons (ps_set (i := 4) scRInit.nd rfl (.inr rfl) (pe_call G1 hr (by rfl) m1 k1 b1 .nil pass0 (pa_cons (pv 2) pa_nil)))
      (pss_cons (ps_set (i := 5) scRInit.nd rfl (.inr rfl) (pe_call G2 r2 (by rfl) m2 k2 b2 .nil pass0 (pa_cons (pv 3) (pa_cons (pv 4) pa_nil))))
      (pss_cons (ps_fld (pv 0) (pe_callTy call_tuple_of (by rfl) O.tuple (by decide +kernel) (pa_cons (pe_lc (own := [("to", 6)]) (g := gName 6) (tt := tYes) rfl scRInit.nd (pi_range1 (by rfl) B.range (pa_cons (pe_callB call_len_seq (by rfl) B.len PySem.boot_len (pa_cons (pv 3) pa_nil)) pa_nil)) (blkOk_by (N := nRInit) (sc := defScope sRInit) (by decide +kernel))
          (fun _ _ _ _ _ => pg_name (i := 6) scRInit.nd rfl (Or.inl rfl)) (fun _ _ _ _ _ => pts_nil) (fun _ _ _ _ _ => pe_dget hu1 (pv 5) (pe_tup (pa_cons pe_int (pa_cons (pv 6) pa_nil))) (fun _ _ => rfl))) pa_nil)) rfl)
      (pss_cons (ps_fld (pv 0) (pe_callTy call_tuple_of (by rfl) O.tuple (by decide +kernel) (pa_cons (pe_lc (own := [("at", 7), ("_", 8), ("last", 9)]) (g := gTup K 2 (gCons (gName 7) (gCons (gTup K 2 (gCons (gName 8) (gCons (gName 9) gNil))) gNil))) rfl scRInit.nd (pi_enumT (by rfl) En.en (pa_cons (pv 3) pa_nil)) (blkOk_by (N := nRInit) (sc := defScope sRInit) (by decide +kernel))
          (fun _ _ _ _ _ => pg_tup rfl (pgs_cons (pg_name (i := 7) scRInit.nd rfl (Or.inl rfl)) (pgs_cons (pg_tup rfl (pgs_cons (pg_name (i := 8) scRInit.nd rfl (Or.inl rfl)) (pgs_cons (pg_name (i := 9) scRInit.nd rfl (Or.inl rfl)) pgs_nil))) pgs_nil))) (fun _ _ _ _ _ => pts_one (pt_val (pv 9))) (fun _ _ _ _ _ => pv 7)) pa_nil)) rfl)
      (pss_one (ps_fld (pv 0) (pe_dcG putP_ok (own := [("sign", 10)]) (g := gName 10) (tt := tYes) rfl scRInit.nd hu (pi_tup (pe_prop (pv 2) TP.cl og Fg r2 bg .nil pass0 rfl)) (blkOk_by (N := nRInit) (sc := defScope sRInit) (by decide +kernel))
          (fun _ _ _ _ _ => pg_name (i := 10) scRInit.nd rfl (Or.inl rfl)) (fun _ _ _ _ _ => pts_nil) (fun _ _ _ _ _ => pv 10) (fun _ _ _ _ _ => pe_call G3 r2 (by rfl) m3 k3 b3 .nil pass0 (pa_cons (pv 3) (pa_cons (pv 10) (pa_cons (pv 4) (pa_cons (pv 5) pa_nil)))))) rfl)))))), ?_⟩
    have n2 : 2 ≤ sizeLine := by decide
    have lt1 : ∀ {n : Nat}, n ≤ 3999 → n < sizeLine := fun h1 => by rw [sizeLine_eq]; omega
    have ag := R.ag
    have lsm : (srtM m).length = m.length := srt_len
    have wfs := srt_wf gm.wf
    have gs := srt_good gm
    have l5s := srt_l l5
    have sgs' := srt_sign gm.wf sg
    have b1' : -(2 ^ 62) ≤ ((m.length : Nat) : Int) := by omega
    have b2' : ((m.length : Nat) : Int) < 2 ^ 62 := by omega
    obtain ⟨df, tf, ef, mf⟩ := id hf
    -- states
    refine ⟨_, rfl, f, df, _, rfl, ef, f, m, rfl, hf, gm.wf, by omega, l5, fun H1 T1 s1 fr1 mt => ?_⟩
    -- costs
    refine ⟨_, rfl, p, t1, t2, t3, rfl, hp.same s1, R, sr, fun H2 ca s2 fr2 eca => ?_⟩
    have hca : Cst6 H2 ca (plc t1) (cc t1 t2 t3) := ⟨_, eca, fun x hx y hy => ⟨lc_in ag hx hy, rfl⟩⟩
    have emP : ("" : Str) ∈ plc t1 := em_in
    have inP : ∀ {z : Str}, z ∈ t1.map (·.1) → z ∈ plc t1 := fun h => List.mem_cons_of_mem _ h
    -- gaps
    refine ⟨_, rfl, _, rfl, T1, ca, srtM m, plc t1, cc t1 t2 t3, rfl, mt.keep s2, wfs, by omega, l5s, hca, emP, fun q hq y hy => inP (sgs' q hq y hy), fun q hq y hy => cc_ge R emP (inP (sgs' q hq y hy)), fun H3 gd s3 fr3 hg => ?_⟩
    obtain ⟨G, eG, okG, vG⟩ := hg
    rw [lsm] at okG vG
    have s03 := (s1.trans s2).trans s3
    have hx3 := s03 _ _ hx
    have mt3 := mt.keep (s2.trans s3)
    have hca3 : Cst6 H3 ca (plc t1) (cc t1 t2 t3) := hca.keep fun o e => s3 _ _ e
    have hp3 := hp.same s03
    clear mt hca eca hp hf ef mf s1 s2 s3 fr1 fr2 fr3 H1 H2
    obtain ⟨ss, et, pt⟩ := id mt3
    have ls : ss.length = m.length := (Paired.length pt).trans lsm
    have c0 : ∀ q ∈ srtM m, ∀ y ∈ q.1, 0 ≤ cc t1 t2 t3 "" y.1 := fun q hq y hy => cc_ge R emP (inP (sgs' q hq y hy))
    -- start
    refine ⟨_, rfl, T1, _, rfl, .inr (SqT.of et), _, rfl, ?_⟩
    rw [List.length_map, ls]
    refine ⟨b1', b2', fun D hD => lc_it (walk_rg (n := m.length)) (fun i H4 => Same H3 H4 ∧ H4 D = some (.lst (((List.range i).map fun j => look G (0, j)).map V.int))) ⟨Same.new hD, upd_same⟩ (fun _ _ _ _ => trivial) ?_ ?_⟩
    · rintro i z H4 H5 hi ⟨s4, e4⟩ ⟨rfl, rfl⟩
      have key : (0, i) ∈ G.map (·.1) := by
        have := gaps_rch (c := cc t1 t2 t3 "") gs.wf (i := 0) (j := (i : Nat)) (by have := gs.ne; omega) (gs.rc (i : Nat) (by omega)).1
        refine vl_isSome.mp ?_
        rw [vG 0 i (by have := gm.ne; omega) hi]
        rw [lsm] at this
        exact this
      refine ⟨rfl, _, rfl, _, rfl, n2, fun q1 hq1 => ⟨gd, V.int (look G (0, i)), rfl, .inr ⟨kvsI G, keyI (0, i), q1, .inl ((Same.new hq1) _ _ (s4 _ _ eG)), rfl, upd_same, (valI key).symm⟩, ?_⟩⟩
      have k1 := Same.new (o := .tup [V.int 0, V.int (i : Nat)]) hq1
      refine ⟨_, k1 _ _ e4, lt1 (by rw [List.length_map, List.length_map, List.length_range]; omega), Same.upN (s4.trans k1) hD, ?_⟩
      rw [upd_same, List.range_succ, List.map_append, List.map_append]
      rfl
    rintro H4 ⟨s4, e4⟩
    dsimp only [tNil]
    refine ⟨D, _, rfl, .inl ⟨SqL.of e4, fun ts hts => ?_⟩⟩
    have k1 := Same.new (o := .tup (((List.range m.length).map fun j => look G (0, j)).map V.int)) hts
    have ets : (upd H4 ts (.tup (((List.range m.length).map fun j => look G (0, j)).map V.int))) ts = _ := upd_same
    have s5 := s4.trans k1
    generalize upd H4 ts (.tup (((List.range m.length).map fun j => look G (0, j)).map V.int)) = H5 at ets s5 ⊢
    clear k1 hts e4 s4 hD H4
    have nx : ∀ {a : Addr} {o : HO}, H3 a = some o → (∀ d fs, o ≠ .ins CR d fs) → a ≠ x := fun e n z => by
      rw [z, hx3] at e
      exact n _ _ (Option.some.inj e).symm
    have tsx : ts ≠ x := fun z => by rw [z, s5 _ _ hx3] at ets; cases ets
    refine ⟨_, rfl, x, CR, dx, [], rfl, s5 _ _ hx3, TR.cl, TR.n1, by show 0 < 1000; decide, ?_⟩
    have fx6 : (upd H5 x (.ins CR dx (putF "start" (V.ref ts) []))) x = some (.ins CR dx [("start", V.ref ts)]) := upd_same
    have k6 : ∀ b o, b ≠ x → H3 b = some o → (upd H5 x (.ins CR dx (putF "start" (V.ref ts) []))) b = some o := fun b o n e => (upd_ne n).trans (s5 _ _ e)
    have ets6 := (upd_ne (o := HO.ins CR dx (putF "start" (V.ref ts) [])) tsx).trans ets
    generalize upd H5 x (.ins CR dx (putF "start" (V.ref ts) [])) = H6 at fx6 k6 ets6 ⊢
    clear s5 ets H5
    have Tx : T1 ≠ x := nx et fun _ _ z => nomatch z
    have et6 := k6 _ _ Tx et
    -- last states
    refine ⟨_, rfl, T1, _, rfl, SqT.of et6, fun L hL => lc_it (walk_n (K := K) (k := .t) (a := T1) (xs := ss.map V.ref)) (fun k H7 => Same H6 H7 ∧ H7 L = some (.lst ((lasts (srtM m) k).map V.int))) ⟨Same.new hL, upd_same⟩ (fun i H7 _ h7 => SqT.of (h7.1 _ _ et6)) ?_ ?_⟩
    · rintro k z H7 H8 hk ⟨s7, e7⟩ ⟨T, y, rfl, hT, rfl, hy⟩
      rw [List.length_map] at hk
      obtain ⟨⟨mv, la⟩, hq, d, g1, g2⟩ := L2.paired_get pt (List.getElem?_eq_getElem hk)
      have ey : V.ref ss[k] = y := by
        rw [List.getElem?_map, List.getElem?_eq_getElem hk] at hy
        exact Option.some.inj hy
      subst ey
      have ela : lst? (srtM m) (k : Nat) = la := by
        unfold lst?
        rw [Int.toNat_natCast, List.getD_eq_getElem?_getD, hq]
        rfl
      have s8 := s7.trans (Same.new (o := .tup [V.int (k : Nat), V.ref ss[k]]) hT)
      have e8 := (Same.new (o := .tup [V.int (k : Nat), V.ref ss[k]]) hT) _ _ e7
      have eT : (upd H7 T (.tup [V.int (k : Nat), V.ref ss[k]])) T = some (.tup [V.int (k : Nat), V.ref ss[k]]) := upd_same
      have g1' := s8 _ _ (k6 _ _ (nx g1 fun _ _ z => nomatch z) g1)
      refine ⟨T, _, rfl, SqT.of eT, rfl, _, _, rfl, _, _, rfl, ss[k], _, rfl, SqT.of g1', rfl, _, _, rfl, _, _, rfl, rfl, rfl, rfl, _, rfl, _, rfl, ?_⟩
      generalize upd H7 T (.tup [V.int (k : Nat), V.ref ss[k]]) = H8 at s8 e8 ⊢
      rw [lasts_succ, ela]
      have ll : (lasts (srtM m) k).length ≤ k := by
        unfold lasts
        rw [List.length_map]
        exact Nat.le_trans (List.length_filter_le _ _) (by rw [List.length_range]; exact Nat.le_refl _)
      cases la with
      | true =>
        refine iteT ⟨_, rfl, _, e8, lt1 (by rw [List.length_map]; omega), Same.upN s8 hL, ?_⟩
        rw [upd_same, if_pos rfl, List.map_append]
        rfl
      | false =>
        refine iteF ⟨s8, ?_⟩
        rw [if_neg (fun z => Bool.noConfusion z), List.append_nil]
        exact e8
    rintro H7 ⟨s7, e7⟩
    rw [List.length_map, ls] at e7
    dsimp only [tNil]
    refine ⟨L, _, rfl, .inl ⟨SqL.of e7, fun tl htl => ?_⟩⟩
    have k1 := Same.new (o := .tup ((lasts (srtM m) m.length).map V.int)) htl
    have etl : (upd H7 tl (.tup ((lasts (srtM m) m.length).map V.int))) tl = _ := upd_same
    have s8 := s7.trans k1
    generalize upd H7 tl (.tup ((lasts (srtM m) m.length).map V.int)) = H8 at etl s8 ⊢
    clear k1 htl e7 s7 hL H7
    have fx8 := s8 _ _ fx6
    have tlx : tl ≠ x := fun z => by rw [z, fx8] at etl; cases etl
    refine ⟨_, rfl, x, CR, dx, _, rfl, fx8, TR.cl, TR.n2, by show 1 < 1000; decide, ?_⟩
    have fx9 : (upd H8 x (.ins CR dx (putF "last_states" (V.ref tl) [("start", V.ref ts)]))) x = some (.ins CR dx [("start", V.ref ts), ("last_states", V.ref tl)]) := upd_same
    have k9 : ∀ b o, b ≠ x → H3 b = some o → (upd H8 x (.ins CR dx (putF "last_states" (V.ref tl) [("start", V.ref ts)]))) b = some o := fun b o n e => (upd_ne n).trans (s8 _ _ (k6 _ _ n e))
    have ets9 := (upd_ne (o := HO.ins CR dx (putF "last_states" (V.ref tl) [("start", V.ref ts)])) tsx).trans (s8 _ _ ets6)
    have etl9 := (upd_ne (o := HO.ins CR dx (putF "last_states" (V.ref tl) [("start", V.ref ts)])) tlx).trans etl
    generalize upd H8 x (.ins CR dx (putF "last_states" (V.ref tl) [("start", V.ref ts)])) = H9 at fx9 k9 ets9 etl9 ⊢
    clear s8 etl fx8 fx6 k6 ets6 et6 H8 H6
    -- ways
    have px : p ≠ x := fun z => by
      obtain ⟨dxp, tp, ap, bp, cp, e, _⟩ := hp3
      rw [z, hx3] at e
      injection e with e
      injection e with _ _ e
      cases e
    have hpS : ∀ {H' : Hp}, (∀ b o, b ≠ x → H3 b = some o → H' b = some o) → PrAt CP H' p t1 t2 t3 := fun k => by
      obtain ⟨dxp, tp, ap, bp, cp, e, e2, hT⟩ := hp3
      exact ⟨dxp, tp, ap, bp, cp, k _ _ px e, k _ _ (nx e2 fun _ _ z => nomatch z) e2, k _ _ (nx hT.p fun _ _ z => nomatch z) hT.p, k _ _ (nx hT.o fun _ _ z => nomatch z) hT.o, k _ _ (nx hT.s fun _ _ z => nomatch z) hT.s⟩
    have mtS : ∀ {H' : Hp}, (∀ b o, b ≠ x → H3 b = some o → H' b = some o) → MAt H' T1 (srtM m) := fun k =>
      ⟨ss, k _ _ Tx et, L2.Paired.mapP pt fun a q ⟨d, g1, g2⟩ => ⟨d, k _ _ (nx g1 fun _ _ z => nomatch z) g1, k _ _ (nx g2 fun _ _ z => nomatch z) g2⟩⟩
    have caS : ∀ {H' : Hp}, (∀ b o, b ≠ x → H3 b = some o → H' b = some o) → Cst6 H' ca (plc t1) (cc t1 t2 t3) := fun k => by
      obtain ⟨Dl, e, h⟩ := hca3
      exact ⟨Dl, k _ _ (nx e fun _ _ z => nomatch z) e, h⟩
    have gdS : ∀ {H' : Hp}, (∀ b o, b ≠ x → H3 b = some o → H' b = some o) → H' gd = some (.dT (kvsI G)) := fun k => k _ _ (nx eG fun _ _ z => nomatch z) eG
    have hp9 := hpS k9
    obtain ⟨dxp, tp, ap, bp, cp, ep9, _⟩ := id hp9
    refine ⟨_, rfl, p, dxp, _, rfl, ep9, p, t1, t2, t3, rfl, hp9, fun tS eS => ?_⟩
    have ndz := ag.nd
    have l5z : (t1.map (·.1)).length ≤ 5 := by rw [List.length_map]; exact ag.l1
    generalize hz : t1.map (·.1) = zs at eS ndz l5z q inP ⊢
    refine ⟨tS, rfl, ⟨_, SqT.of eS⟩, fun D hD => wk_any (walk_tup (K := K) (a := tS) (xs := zs.map V.str)) (fun i H1 => Same H9 H1 ∧ ∃ ws : List (Str × Addr), H1 D = some (.dK (kvsR ws)) ∧ ws.map (·.1) = zs.take i ∧ ∀ p ∈ ws, WyAt H1 p.2 (wAll (waysT (srtM m) G (cc t1 t2 t3) p.1) m.length)) ⟨Same.new hD, [], upd_same, rfl, fun _ h => nomatch h⟩ (fun i H1 _ h1 => SqT.of (h1.1 _ _ eS)) ?_ ?_⟩
    · rintro i z H1 H2 hi ⟨s1, ws, e1, ew, hw⟩ ⟨rfl, hv⟩
      rw [List.length_map] at hi
      obtain rfl : V.str zs[i] = z := by
        rw [List.getElem?_map, List.getElem?_eq_getElem hi] at hv
        exact Option.some.inj hv
      have kk : ∀ b o, b ≠ x → H3 b = some o → H2 b = some o := fun b o n e => s1 _ _ (k9 _ _ n e)
      have mz : zs[i] ∈ zs := List.getElem_mem hi
      refine ⟨rfl, _, rfl, _, rfl, _, rfl, _, rfl, _, rfl, T1, ca, gd, zs[i], srtM m, plc t1, cc t1 t2 t3, G, rfl, mtS kk, wfs, by omega, l5s, caS kk, emP, inP mz, fun q hq y hy => inP (by rw [← hz]; exact sgs' q hq y hy), gdS kk, fun H5 wd s5 fw hwd => ?_⟩
      rw [lsm] at hwd
      have e5 := s5 _ _ e1
      have nin : zs[i] ∉ ws.map (·.1) := by
        rw [ew]
        exact not_before ndz hi
      refine ⟨kvsR ws, Sum.inr zs[i], rfl, e5, ?_, Same.upN (s1.trans s5) hD, ws ++ [(zs[i], wd)], ?_, ?_, fun p hp => ?_⟩
      · have lw := congrArg List.length ew
        rw [List.length_map, List.length_take] at lw
        unfold kvsR
        rw [List.length_map]
        exact lt1 (by omega)
      · rw [upd_same, kvsR_put nin]
      · rw [List.map_append, ew, List.take_add_one, List.getElem?_eq_getElem hi]
        rfl
      · have keep : ∀ {a : Addr} {l : List (List (Nat × Int))}, WyAt H5 a l → WyAt (upd H5 D (.dK (L2.putK (kvsR ws) (Sum.inr zs[i]) (V.ref wd)))) a l := fun {a l} ⟨ts', x1, x2⟩ => by
          have nD : ∀ {b : Addr} {us : List V}, H5 b = some (.tup us) → (upd H5 D (.dK (L2.putK (kvsR ws) (Sum.inr zs[i]) (V.ref wd)))) b = some (.tup us) := fun {b us} e => (upd_ne fun z => by rw [z, e5] at e; cases e).trans e
          exact ⟨ts', nD x1, L2.Paired.mapP x2 fun _ _ ⟨ps', y1, y2⟩ => ⟨ps', nD y1, L2.Paired.mapP y2 fun _ _ e => nD e⟩⟩
        rcases List.mem_append.mp hp with hp | hp
        · exact keep ((hw p hp).keep s5)
        · rw [List.mem_singleton.mp hp]
          exact keep hwd
    rintro H1 ⟨s1, ws, e1, ew, hw⟩
    rw [List.length_map, List.take_length] at ew
    have fx1 := s1 _ _ fx9
    have Dx : D ≠ x := fun z => by rw [z, fx1] at e1; cases e1
    refine ⟨_, rfl, x, CR, dx, _, rfl, fx1, TR.cl, TR.n3, by show 2 < 1000; decide, ?_⟩
    have kU : ∀ b o, b ≠ x → H1 b = some o → (upd H1 x (.ins CR dx (putF "ways" (V.ref D) [("start", V.ref ts), ("last_states", V.ref tl)]))) b = some o := fun b o n e => (upd_ne n).trans e
    have fxU : (upd H1 x (.ins CR dx (putF "ways" (V.ref D) [("start", V.ref ts), ("last_states", V.ref tl)]))) x = some (.ins CR dx [("start", V.ref ts), ("last_states", V.ref tl), ("ways", V.ref D)]) := upd_same
    refine q _ (fun b o n e => kU _ _ n (s1 _ _ (k9 _ _ n (s03 _ _ e)))) ⟨dx, ts, tl, D, G, ws, fxU, ?_, ?_, kU _ _ Dx e1, ew, fun p hp => ?_, ?_, ?_⟩
    · rw [lsm]
      exact kU _ _ tsx (s1 _ _ ets9)
    · rw [lsm]
      exact kU _ _ tlx (s1 _ _ etl9)
    · rw [lsm]
      obtain ⟨ts', x1, x2⟩ := hw p hp
      have nD : ∀ {b : Addr} {us : List V}, H1 b = some (.tup us) → (upd H1 x (.ins CR dx (putF "ways" (V.ref D) [("start", V.ref ts), ("last_states", V.ref tl)]))) b = some (.tup us) := fun {b us} e => kU _ _ (fun z => by rw [z, fx1] at e; cases e) e
      exact ⟨ts', nD x1, L2.Paired.mapP x2 fun _ _ ⟨ps', y1, y2⟩ => ⟨ps', nD y1, L2.Paired.mapP y2 fun _ _ e => nD e⟩⟩
    · rw [lsm]
      exact okG
    · rw [lsm]
      exact vG
end
end Mk

set_option Elab.async false
set_option linter.all false
set_option maxRecDepth 100000
set_option maxHeartbeats 4000000
/-! Reader: behind -/
namespace Mk
open PySem PySem.Spec L2 PyProof.Rows

abbrev scB : Scope := { kind := .function, names := [(".0", .local), ("ways", .local), ("min", .globalImplicit), ("row", .cell)], isGenerator := false, isCoroutine := false }
theorem cr_minK2 {X : Cx} (K : PySem.W.Frag) (hc : X.calm = true) (hK : X.K = K := by rfl) : CallR X (.builtin "min") (rMin K) := by
  subst hK
  exact cr_min hc
/-- the sums of a row with the ways to a state -/
def sumsW (ns : List Int) (l : List (Nat × Int)) : List Int := l.map fun p => ns.getD p.1 0 + p.2
/-- a row behind another one -/
def BehOk (m : Mch) (G : ITab) (c : Str → Str → Int) (sg : Str) (ns ms : List Int) : Prop := ms.length = m.length ∧ ∀ j (h : j < ms.length), IsMin ms[j] (sumsW ns (wlist (waysT m G c sg) m.length j))
def spRBeh (CR : Addr) : Sp := fun vs H Q _ => ∃ (x a : Addr) (sg : Str) (m : Mch) (zs : List Str) (c : Str → Str → Int) (ns : List Int), vs = [.ref x, .ref a, .str sg] ∧ RdAt CR H x m zs c ∧ GoodM m ∧ m.length ≤ 8 ∧ (∀ q ∈ m, ∀ p ∈ q.1, 0 ≤ c "" p.1) ∧ zs.Nodup ∧ sg ∈ zs ∧ H a = some (.tup (ns.map V.int)) ∧ ns.length = m.length ∧
  ∀ H' r G ms, Same H H' → H r = none → H' r = some (.tup (ms.map V.int)) → KOk m.length G → (∀ i j, i < m.length → j < m.length → vl G (i, j) = Eg m (c "") m.length i j) → BehOk m G c sg ns ms → Q (.ref r) H'
section
variable {P : Program} {w : World} {K : PySem.W.Frag} {mg : Str → Option Value} {base : Heap} {CR : Addr}
theorem scRBeh : FnScope nRBeh ["self", "row", "sign"] (defScope sRBeh) := ⟨rfl, rfl, rfl, by decide +kernel, rfl, by decide +kernel, by decide +kernel⟩
theorem ok_rBeh {f : Addr} {fd : FuncData} (F : Fun K "behind" "Reader.behind" sRBeh f fd) (TR : Rc K CR) (B : Bn mg) (O : On mg) : FnOk P w K mg base CX0 1 f fd ["self", "row", "sign"] (spRBeh CR) := by
  refine F.ok scRBeh (fun vs H Q E h => ?_) (fun cdv A outer s H vs Q E hr h => ?_)
  · obtain ⟨x, a, sg, m, zs, c, ns, rfl, _⟩ := h
    rfl
  · have hu1 : A.units + 3 + 1 < cLine := by
      have h2 : A.units + 3 + 16 * 0 + 200 < cLine := hr.un
      omega
    obtain ⟨x, a, sg, m, zs, c, ns, rfl, ⟨dx, ts, tl, wd, G, ws, hx, ets, etl, ewd, ew, hw, okG, vG⟩, gm, lm, c0, ndz, mz, ha, ln, q⟩ := h
    refine ⟨_, pss_one (ps_ret (pe_callTy call_tuple_of (by rfl) O.tuple (by decide +kernel) (pa_cons (pe_lc (own := [("ways", 3)]) (g := gName 3) (tt := tYes) rfl scRBeh.nd (pi_tup (pe_dget hu1 (pe_fld (pv 0) rfl) (pv 2) (fun _ _ => rfl))) (blkOk_by (N := nRBeh) (sc := defScope sRBeh) (by decide +kernel))
          (fun _ _ _ _ _ => pg_name (i := 3) scRBeh.nd rfl (Or.inl rfl)) (fun _ _ _ _ _ => pts_nil)
          (fun _ _ _ _ _ => pe_callB (cr_minK2 K rfl) (by rfl) B.min (by decide +kernel) (pa_cons (pe_lc (own := [("near", 4), ("price", 5)]) (g := gTup K 2 (gCons (gName 4) (gCons (gName 5) gNil))) (tt := tYes) (wi := iTup K _) rfl scRBeh.nd (pi_tup (pv 3)) (blkOk_by (N := nRBeh) (sc := scB) (by decide +kernel))
            (fun _ _ _ _ _ => pg_tup rfl (pgs_cons (pg_name (i := 4) scRBeh.nd rfl (Or.inl rfl)) (pgs_cons (pg_name (i := 5) scRBeh.nd rfl (Or.inl rfl)) pgs_nil))) (fun _ _ _ _ _ => pts_nil)
            (fun _ _ _ _ _ => pe_op op_add (pe_ix (ix_tupK K) (pv 1) (pv 4) (fun _ _ => rfl)) (pv 5))) pa_nil))) pa_nil))), ?_⟩
    have lt1 : ∀ {n : Nat}, n ≤ 3999 → n < sizeLine := fun h1 => by rw [sizeLine_eq]; omega
    obtain ⟨p, hp, ep⟩ := List.mem_map.mp (by rw [ew]; exact mz : sg ∈ ws.map (·.1))
    obtain ⟨ks, eks, pks⟩ := hw p hp
    rw [ep] at pks
    have vw := kvsR_val (ws := ws) (by rw [ew]; exact ndz) hp
    rw [ep] at vw
    have lks : ks.length = m.length := (Paired.length pks).trans (by unfold wAll; rw [List.length_map, List.length_range])
    refine ⟨_, rfl, x, CR, dx, _, _, rfl, hx, TR.cl, TR.n3, rfl, _, rfl, wd, V.ref p.2, rfl, .inl ⟨kvsR ws, Sum.inr sg, .inl ewd, rfl, vw.symm⟩, p.2, rfl, ⟨_, SqT.of eks⟩, fun D hD => lc_it (walk_tup (K := K) (a := p.2) (xs := ks.map V.ref)) (fun i H1 => Same H H1 ∧ ∃ ms : List Int, H1 D = some (.lst (ms.map V.int)) ∧ ms.length = i ∧ ∀ j (h : j < ms.length), IsMin ms[j] (sumsW ns (wlist (waysT m G c sg) m.length j))) ⟨Same.new hD, [], upd_same, rfl, fun j h => nomatch h⟩ (fun i H1 _ h1 => SqT.of (h1.1 _ _ eks)) ?_ ?_⟩
    · rintro i y H1 H2 hi ⟨s1, ms, e1, lms, hms⟩ ⟨rfl, hv⟩
      rw [List.length_map] at hi
      obtain rfl : V.ref ks[i] = y := by
        rw [List.getElem?_map, List.getElem?_eq_getElem hi] at hv
        exact Option.some.inj hv
      obtain ⟨wl, hwl, ps, eps, pps⟩ := L2.paired_get pks (List.getElem?_eq_getElem hi)
      obtain rfl : wlist (waysT m G c sg) m.length i = wl := by
        unfold wAll at hwl
        rw [List.getElem?_map, List.getElem?_range (by omega)] at hwl
        exact Option.some.inj hwl
      have rg : ∀ q ∈ wlist (waysT m G c sg) m.length i, q.1 < m.length := wlist_rg
      have ne : wlist (waysT m G c sg) m.length i ≠ [] := wlist_ne (by omega) (vl_isSome.mp (by
        rw [ways_vl gm.wf vG i i (by omega) (by omega)]
        refine Wg_self ?_
        rw [(Eg_nng c0 _ (Nat.le_refl _)).se i (by omega)]
        rfl))
      have ll : (wlist (waysT m G c sg) m.length i).length ≤ m.length := by
        unfold wlist
        rw [List.length_map]
        exact Nat.le_trans (List.length_filter_le _ _) (by rw [List.length_range]; exact Nat.le_refl _)
      have hnx : ∀ k, IsMin k (sumsW ns (wlist (waysT m G c sg) m.length i)) → ∀ j (h : j < (ms ++ [k]).length), IsMin (ms ++ [k])[j] (sumsW ns (wlist (waysT m G c sg) m.length j)) := fun k hk j h => by
        by_cases cj : j < ms.length
        · rw [List.getElem_append_left cj]
          exact hms j cj
        · have ej : j = i := by
            rw [List.length_append, List.length_singleton] at h
            omega
          subst ej
          rw [List.getElem_append_right (by omega)]
          simpa using hk
      generalize wlist (waysT m G c sg) m.length i = wl at pps rg ne ll hnx
      have lps : ps.length = wl.length := Paired.length pps
      have ha2 := s1 _ _ ha
      refine ⟨rfl, _, rfl, ks[i], rfl, ⟨_, SqT.of (s1 _ _ eps)⟩, fun D1 hD1 => lc_it (walk_tup (K := K) (a := ks[i]) (xs := ps.map V.ref)) (fun j H3 => Same H2 H3 ∧ H3 D1 = some (.lst (((sumsW ns wl).take j).map V.int))) ⟨Same.new hD1, upd_same⟩ (fun j H3 _ h3 => SqT.of (h3.1 _ _ (s1 _ _ eps))) ?_ ?_⟩
      · rintro j y H3 H4 hj ⟨s3, e3⟩ ⟨rfl, hy⟩
        rw [List.length_map] at hj
        obtain rfl : V.ref ps[j] = y := by
          rw [List.getElem?_map, List.getElem?_eq_getElem hj] at hy
          exact Option.some.inj hy
        have hj2 : j < wl.length := by omega
        obtain ⟨pq, hpq, epq⟩ := L2.paired_get pps (List.getElem?_eq_getElem hj)
        obtain rfl : wl[j] = pq := by
          rw [List.getElem?_eq_getElem hj2] at hpq
          exact Option.some.inj hpq
        have rj := rg _ (List.getElem_mem hj2)
        have epq' : H4 ps[j] = some (.tup [.int (wl[j]).1, .int (wl[j]).2]) := s3 _ _ (s1 _ _ epq)
        have at_ : atI (ns.map V.int) ((wl[j]).1 : Nat) = some (V.int (ns.getD (wl[j]).1 0)) := atI_nat (by
          rw [List.getElem?_map, List.getElem?_eq_getElem (by omega), List.getD_eq_getElem?_getD, List.getElem?_eq_getElem (by omega)]
          rfl)
        have nx : (sumsW ns wl).take (j + 1) = (sumsW ns wl).take j ++ [ns.getD (wl[j]).1 0 + (wl[j]).2] := by
          unfold sumsW
          rw [List.take_add_one, List.getElem?_map, List.getElem?_eq_getElem hj2]
          rfl
        refine ⟨ps[j], _, rfl, SqT.of epq', rfl, _, _, rfl, _, _, rfl, rfl, rfl, ?_⟩
        refine ⟨_, rfl, _, rfl, a, _, _, _, rfl, rfl, SqT.of (s3 _ _ ha2), at_, _, rfl, _, _, rfl, rfl, ?_⟩
        refine ⟨_, e3, lt1 (by rw [List.length_map, List.length_take]; unfold sumsW; rw [List.length_map]; omega), Same.upN s3 hD1, ?_⟩
        rw [upd_same, nx, List.map_append]
        rfl
      · rintro H3 ⟨s3, e3⟩
        have lw : (sumsW ns wl).length = wl.length := List.length_map _
        rw [List.length_map, lps, ← lw, List.take_length] at e3
        refine ⟨D1, _, rfl, SqL.of e3, by rw [lw]; exact List.length_pos_iff.mpr ne, fun k hk hle => ?_⟩
        have e4 := s3 _ _ e1
        refine ⟨_, e4, lt1 (by rw [List.length_map]; omega), Same.upN (s1.trans s3) hD, ms ++ [k], ?_, ?_, hnx k ⟨hk, hle⟩⟩
        · rw [upd_same, List.map_append]
          rfl
        · rw [List.length_append, lms]
          rfl
    · rintro H1 ⟨s1, ms, e1, lms, hms⟩
      rw [List.length_map, lks] at lms
      dsimp only [tNil]
      refine ⟨D, _, rfl, .inl ⟨SqL.of e1, fun r hr1 => ?_⟩⟩
      exact q _ r G ms (s1.trans (Same.new hr1)) (s1.free hr1) upd_same okG vG ⟨lms, hms⟩
end
end Mk

set_option Elab.async false
set_option linter.all false
set_option maxRecDepth 100000
set_option maxHeartbeats 1000000
/-! rows behind rows, told by steps and least costs -/
namespace Mk
open PySem L2

/-- a first step from i with the sign sg: it goes, or a move is in its place -/
def Stp (m : Mch) (c : Str → Str → Int) (sg : Str) (i via : Nat) (pr : Int) : Prop := (via = i ∧ pr = c sg "") ∨ ∃ z to, (z, to) ∈ mvs m (i : Int) ∧ via = to.toNat ∧ pr = c sg z
/-- x stands at j behind the row ns and the sign sg -/
structure Rb (m : Mch) (c : Str → Str → Int) (sg : Str) (ns : List Int) (j : Nat) (x : Int) : Prop where
  at_ : ∃ i via pr g, i < m.length ∧ Stp m c sg i via pr ∧ Eg m (c "") m.length via j = some g ∧ x = ns.getD i 0 + pr + g
  le : ∀ i via pr g, i < m.length → Stp m c sg i via pr → Eg m (c "") m.length via j = some g → x ≤ ns.getD i 0 + pr + g
section
variable {m : Mch} {c : Str → Str → Int} {sg : Str} {ns ns' : List Int} {j : Nat} {x y : Int}
theorem Rb.one (h : Rb m c sg ns j x) (k : Rb m c sg ns j y) : x = y := by
  obtain ⟨i, via, pr, g, hi, s, e, hx⟩ := h.at_
  obtain ⟨i', via', pr', g', hi', s', e', hy⟩ := k.at_
  have := h.le _ _ _ _ hi' s' e'
  have := k.le _ _ _ _ hi s e
  omega
end
/-! ### the program's rows -/
theorem fold_mn {α : Type} {f : α → Option Int} : ∀ (l : List α) (x0 : Option Int), lo (l.foldl (fun x p => mn x (f p)) x0) x0 ∧ (∀ p ∈ l, lo (l.foldl (fun x p => mn x (f p)) x0) (f p)) ∧ (l.foldl (fun x p => mn x (f p)) x0 = x0 ∨ ∃ p ∈ l, l.foldl (fun x p => mn x (f p)) x0 = f p)
  | [], x0 => ⟨lo_refl _, (fun p h => nomatch h), .inl rfl⟩
  | a :: l, x0 => by
    obtain ⟨h1, h2, h3⟩ := fold_mn (f := f) l (mn x0 (f a))
    rw [List.foldl_cons]
    refine ⟨lo_trans h1 (lo_mn1 _ _), fun p hp => ?_, ?_⟩
    · rcases List.mem_cons.mp hp with rfl | hp
      · exact lo_trans h1 (lo_mn2 _ _)
      · exact h2 p hp
    · rcases h3 with h3 | ⟨p, hp, h3⟩
      · rcases mn_or x0 (f a) with h | h
        · exact .inl (h3.trans h)
        · exact .inr ⟨a, List.mem_cons_self, h3.trans h⟩
      · exact .inr ⟨p, List.mem_cons_of_mem _ hp, h3⟩
theorem steps_stp {m : Mch} (w : WF m) {c : Str → Str → Int} {sg : Str} {k : Nat} {p : Nat × Int} : p ∈ stepsL (mvs m (k : Int)) c sg k ↔ Stp m c sg k p.1 p.2 := by
  have nd := mvs_nd w (k : Int)
  constructor
  · intro h
    rcases List.mem_cons.mp h with rfl | h
    · exact .inl ⟨rfl, rfl⟩
    · obtain ⟨s, hs, rfl⟩ := List.mem_map.mp h
      exact .inr ⟨s, _, look_in nd hs, rfl, rfl⟩
  · obtain ⟨a, b⟩ := p
    rintro (⟨e1, e2⟩ | ⟨z, to, hz, e1, e2⟩)
    · have e1 : a = k := e1
      have e2 : b = c sg "" := e2
      rw [e1, e2]
      exact List.mem_cons_self
    · have e1 : a = to.toNat := e1
      have e2 : b = c sg z := e2
      refine List.mem_cons_of_mem _ (List.mem_map.mpr ⟨z, List.mem_map.mpr ⟨_, hz, rfl⟩, ?_⟩)
      rw [e1, e2, look_mem nd _ hz]
theorem srtP_mem {t : PTab} (nd : (t.map (·.1)).Nodup) {p : Str × Int} : p ∈ srtP t ↔ p ∈ t := by
  refine ⟨fun h => ?_, srtP_in nd⟩
  unfold srtP put at h
  obtain ⟨s, hs, rfl⟩ := List.mem_map.mp h
  exact look_in nd ((keysM_perm t).mem_iff.mp hs)
theorem edg_srt {m : Mch} (w : WF m) {c : Str → Int} (i j : Nat) : edg (srtM m) c i j = edg m c i j := by
  have nd := mvs_nd w (i : Int)
  have ky : ∀ z, z ∈ (mvs (srtM m) (i : Int)).map (·.1) ↔ z ∈ (mvs m (i : Int)).map (·.1) := fun z => by
    rw [srt_mvs]
    constructor
    · intro h
      obtain ⟨p, hp, rfl⟩ := List.mem_map.mp h
      exact List.mem_map.mpr ⟨p, (srtP_mem nd).mp hp, rfl⟩
    · intro h
      obtain ⟨p, hp, rfl⟩ := List.mem_map.mp h
      exact List.mem_map.mpr ⟨p, (srtP_mem nd).mpr hp, rfl⟩
  have lk : ∀ z, z ∈ (mvs m (i : Int)).map (·.1) → look (mvs (srtM m) (i : Int)) z = look (mvs m (i : Int)) z := fun z hz => by
    have h1 := look_in nd hz
    have h2 := (srtP_mem nd).mpr h1
    rw [← srt_mvs] at h2
    exact look_mem (mvs_nd (srt_wf w) (i : Int)) _ h2
  have self : ∀ {m' : Mch} {x : Int}, i = j → x = 0 → lo (edg m' c i j) (some x) := fun {m' x} e e0 => by
    subst e e0
    have := foldl_ind (f := edgS (mvs m' (i : Int)) c i) (l := (mvs m' (i : Int)).map (·.1)) (b := if i = i then some 0 else none) (fun _ y => lo y (some 0)) (by rw [if_pos rfl]; exact lo_refl _) fun a ha y ih => by
      unfold edgS
      split
      · exact lo_trans (lo_mn1 _ _) ih
      · exact ih
    exact this
  refine lo_anti (fun x hx => ?_) (fun x hx => ?_)
  · rcases edg_is hx with ⟨e, e0⟩ | ⟨z, hz, e, rfl⟩
    · exact self e e0 x rfl
    · have := edg_le (c := c) ((ky z).mpr hz)
      rw [lk z hz, e] at this
      exact this _ rfl
  · rcases edg_is hx with ⟨e, e0⟩ | ⟨z, hz, e, rfl⟩
    · exact self e e0 x rfl
    · have hz := (ky z).mp hz
      have := edg_le (c := c) hz
      rw [lk z hz] at e
      rw [e] at this
      exact this _ rfl
theorem Eg_srt {m : Mch} (w : WF m) {c : Str → Int} : ∀ k i j, Eg (srtM m) c k i j = Eg m c k i j
  | 0, i, j => edg_srt w i j
  | k + 1, i, j => by
    have a : Eg (srtM m) c (k + 1) i j = mn (Eg (srtM m) c k i j) (ad (Eg (srtM m) c k i k) (Eg (srtM m) c k k j)) := rfl
    have b : Eg m c (k + 1) i j = mn (Eg m c k i j) (ad (Eg m c k i k) (Eg m c k k j)) := rfl
    rw [a, b, Eg_srt w k, Eg_srt w k, Eg_srt w k]
theorem Stp_srt {m : Mch} (w : WF m) {c : Str → Str → Int} {sg : Str} {i via : Nat} {pr : Int} : Stp (srtM m) c sg i via pr ↔ Stp m c sg i via pr := by
  have nd := mvs_nd w (i : Int)
  unfold Stp
  rw [srt_mvs]
  constructor
  · rintro (h | ⟨z, to, h, a, b⟩)
    · exact .inl h
    · exact .inr ⟨z, to, (srtP_mem nd).mp h, a, b⟩
  · rintro (h | ⟨z, to, h, a, b⟩)
    · exact .inl h
    · exact .inr ⟨z, to, (srtP_mem nd).mpr h, a, b⟩
theorem Rb.srt {m : Mch} (w : WF m) {c : Str → Str → Int} {sg : Str} {ns : List Int} {j : Nat} {x : Int} (h : Rb (srtM m) c sg ns j x) : Rb m c sg ns j x := by
  have ln : (srtM m).length = m.length := srt_len
  refine ⟨?_, fun i via pr g hi s e => ?_⟩
  · obtain ⟨i, via, pr, g, hi, s, e, hx⟩ := h.at_
    rw [ln] at hi e
    rw [Eg_srt w] at e
    exact ⟨i, via, pr, g, hi, (Stp_srt w).mp s, e, hx⟩
  · refine h.le i via pr g (by rw [ln]; exact hi) ((Stp_srt w).mpr s) ?_
    rw [ln, Eg_srt w]
    exact e
theorem beh_rb {m : Mch} (w : WF m) {G : ITab} {c : Str → Str → Int} {sg : Str} {ns ms : List Int} (hG : ∀ i j, i < m.length → j < m.length → vl G (i, j) = Eg m (c "") m.length i j) (h : BehOk m G c sg ns ms) : ∀ j (hj : j < ms.length), Rb m c sg ns j ms[j] := fun j hj => by
  have hjn : j < m.length := by rw [← h.1]; exact hj
  have W := ways_vl w (sg := sg) (c := c) hG
  obtain ⟨h1, h2⟩ := h.2 j hj
  have mem : ∀ y, y ∈ sumsW ns (wlist (waysT m G c sg) m.length j) ↔ ∃ a v, a < m.length ∧ Wg m (Eg m (c "") m.length) c sg a j = some v ∧ y = ns.getD a 0 + v := fun y => by
    unfold sumsW wlist
    rw [List.map_map, List.mem_map]
    constructor
    · rintro ⟨a, ha, rfl⟩
      obtain ⟨ha, hm⟩ := List.mem_filter.mp ha
      have ha := List.mem_range.mp ha
      have hm := of_decide_eq_true hm
      refine ⟨a, look (waysT m G c sg) (a, j), ha, ?_, rfl⟩
      rw [← W a j ha hjn, vl_some hm]
    · rintro ⟨a, v, ha, hv, rfl⟩
      rw [← W a j ha hjn] at hv
      obtain ⟨hm, e⟩ := vl_look hv
      exact ⟨a, List.mem_filter.mpr ⟨List.mem_range.mpr ha, decide_eq_true hm⟩, by rw [← e]; rfl⟩
  have fo := fun a => fold_mn (f := fun p : Nat × Int => ad (some p.2) (Eg m (c "") m.length p.1 j)) (stepsL (mvs m (a : Nat)) c sg a) none
  refine ⟨?_, fun i via pr g hi s e => ?_⟩
  · obtain ⟨a, v, ha, hv, hy⟩ := (mem _).mp h1
    obtain ⟨_, _, f3⟩ := fo a
    have hv' : (stepsL (mvs m (a : Nat)) c sg a).foldl (fun x p => mn x (ad (some p.2) (Eg m (c "") m.length p.1 j))) none = some v := hv
    rcases f3 with f3 | ⟨p, hp, f3⟩
    · rw [f3] at hv'
      cases hv'
    · rw [f3] at hv'
      cases hg : Eg m (c "") m.length p.1 j with
      | none => rw [hg] at hv'; cases hv'
      | some g =>
        rw [hg] at hv'
        have hv' : p.2 + g = v := Option.some.inj hv'
        exact ⟨a, p.1, p.2, g, ha, (steps_stp w).mp hp, hg, by omega⟩
  · obtain ⟨_, f2, _⟩ := fo i
    have hp := (steps_stp w (p := (via, pr))).mpr s
    have := f2 _ hp
    have e' : ad (some pr) (Eg m (c "") m.length via j) = some (pr + g) := by rw [e]; rfl
    obtain ⟨v, hv, lv⟩ := this _ e'
    have := h2 _ ((mem _).mpr ⟨i, v, hi, hv, rfl⟩)
    omega
end Mk

set_option Elab.async false
set_option linter.all false
set_option maxRecDepth 100000
set_option maxHeartbeats 1000000
/-! the law's row behind a row: rounds over all moves -/
namespace Mk
open PySem L2

section
variable {m : Mch} {c : Str → Str → Int} {sg : Str} {ns : List Int}
theorem mv_rg (w : WF m) {s : Nat} {p : Str × Int} (h : p ∈ mvs m (s : Int)) : p.2.toNat < m.length := by
  obtain ⟨q, hq, _, hp⟩ := mvs_mem h
  have := w.to q hq p hp
  omega
end
end Mk

set_option Elab.async false
set_option linter.all false
set_option maxRecDepth 100000
set_option maxHeartbeats 1000000
/-! the law's closed prices: rounds over all pairs that are known -/
namespace Mk
open PySem L2

abbrev kys (D : STab) : List (Str × Str) := D.map (·.1)
def clI (t1 t2 : PTab) (D : STab) (z : Str) : STab := setT (setT D ("", z) (look t1 z)) (z, "") (look t2 z)
def cl0 (t1 t2 : PTab) (t3 : STab) : STab := (t1.map (·.1)).foldl (clI t1 t2) t3
def clO (k : Str × Str) (D : STab) (o : Str) : STab := if o ≠ k.1 ∧ (k.2, o) ∈ kys D then lowT D (k.1, o) (look D k + look D (k.2, o)) else D
def clK (P : List Str) (D : STab) (k : Str × Str) : STab := P.foldl (clO k) D
def clR (P : List Str) (D : STab) : STab := (kys D).foldl (clK P) D
def clN (P : List Str) (D : STab) : Nat → STab
  | 0 => D
  | k + 1 => clR P (clN P D k)
/-- a round: what it lowers, and that all it knows is the cost of a way -/
structure ClR (P : List Str) (e : Str → Str → Option Int) (D0 D : STab) : Prop where
  dn : ∀ q, lo (vl D q) (vl D0 q)
  wk : ∀ x y v, vl D (x, y) = some v → (∃ L, Pth e x L y v) ∧ x ≠ y ∧ x ∈ P ∧ y ∈ P
  nd : (kys D).Nodup
section
variable {P : List Str} {e : Str → Str → Option Int} {D0 D : STab} {k : Str × Str}
theorem clO_ok (h : ClR P e D0 D) (hk : k ∈ kys D) {o : Str} (ho : o ∈ P) : ClR P e D0 (clO k D o) := by
  unfold clO
  split
  · rename_i c
    have vk := vl_some hk
    have vo := vl_some c.2
    obtain ⟨⟨L1, p1⟩, _, i1, _⟩ := h.wk k.1 k.2 _ vk
    obtain ⟨⟨L2, p2⟩, _, _, _⟩ := h.wk _ _ _ vo
    refine ⟨fun q => ?_, fun x y v hv => ?_, low_nd h.nd⟩
    · rw [vl_low]
      split
      · rename_i eq
        rw [eq]
        exact lo_trans (lo_mn1 _ _) (h.dn _)
      · exact h.dn q
    · rw [vl_low] at hv
      split at hv
      · rename_i eq
        cases eq
        rcases mn_or (vl D (k.1, o)) (some (look D k + look D (k.2, o))) with m | m
        · rw [m] at hv
          exact h.wk _ _ _ hv
        · rw [m] at hv
          cases hv
          exact ⟨p1.join p2, fun z => c.1 z.symm, i1, ho⟩
      · exact h.wk _ _ _ hv
  · exact h
theorem clO_key {q : Str × Str} {o : Str} (h : q ∈ kys D) : q ∈ (clO k D o).map (·.1) := by
  unfold clO
  split
  · exact low_key.mpr (.inl h)
  · exact h
theorem clO_dn {o : Str} (q : Str × Str) : lo (vl (clO k D o) q) (vl D q) := by
  unfold clO
  split
  · rw [vl_low]
    split
    · rename_i eq
      rw [eq]
      exact lo_mn1 _ _
    · exact lo_refl _
  · exact lo_refl _
theorem clO_le {o : Str} (hk : k ∈ kys D) (ho : o ≠ k.1) (h2 : (k.2, o) ∈ kys D) : lo (vl (clO k D o) (k.1, o)) (ad (vl D k) (vl D (k.2, o))) := by
  unfold clO
  rw [if_pos ⟨ho, h2⟩, vl_low, if_pos rfl, vl_some hk, vl_some h2]
  exact lo_mn2 _ _
/-- what a round lowers -/
structure ClS (P : List Str) (e : Str → Str → Option Int) (D0 D : STab) (n : Nat) : Prop where
  r : ClR P e D0 D
  ky : ∀ q, q ∈ kys D0 → q ∈ kys D
  le : ∀ a (h : a < (kys D0).length), a < n → ∀ o ∈ P, o ≠ ((kys D0)[a]).1 → (((kys D0)[a]).2, o) ∈ kys D0 → lo (vl D (((kys D0)[a]).1, o)) (ad (vl D0 ((kys D0)[a])) (vl D0 (((kys D0)[a]).2, o)))
theorem clR_ok (h : ClR P e D0 D0) : ClS P e D0 (clR P D0) (kys D0).length := by
  refine foldl_ind (f := clK P) (l := kys D0) (b := D0) (fun n D => ClS P e D0 D n) ⟨h, fun q hq => hq, fun a _ ha => absurd ha (Nat.not_lt_zero _)⟩ fun n hn D I => ?_
  have hk := List.getElem_mem hn
  have key := foldl_ind (f := clO ((kys D0)[n])) (l := P) (b := D) (fun t D' => ClS P e D0 D' n ∧ ∀ a (h : a < P.length), a < t → P[a] ≠ ((kys D0)[n]).1 → (((kys D0)[n]).2, P[a]) ∈ kys D0 → lo (vl D' (((kys D0)[n]).1, P[a])) (ad (vl D0 ((kys D0)[n])) (vl D0 (((kys D0)[n]).2, P[a])))) ⟨I, fun a _ ha => absurd ha (Nat.not_lt_zero _)⟩ fun t ht D' ⟨S, J⟩ => by
    refine ⟨⟨clO_ok S.r (S.ky _ hk) (List.getElem_mem ht), fun q hq => clO_key (S.ky q hq), fun a h h' o ho c1 c2 => lo_trans (clO_dn _) (S.le a h h' o ho c1 c2)⟩, fun a h h' c1 c2 => ?_⟩
    by_cases ea : a = t
    · subst ea
      exact lo_trans (clO_le (S.ky _ hk) c1 (S.ky _ c2)) (lo_ad (S.r.dn _) (S.r.dn _))
    · exact lo_trans (clO_dn _) (J a h (by omega) c1 c2)
  refine ⟨key.1.r, key.1.ky, fun a h h' o ho c1 c2 => ?_⟩
  by_cases ea : a = n
  · subst ea
    obtain ⟨b, hb, rfl⟩ := List.mem_iff_getElem.mp ho
    exact key.2 b hb hb c1 c2
  · exact key.1.le a h (by omega) o ho c1 c2
theorem clR_le (h : ClR P e D0 D0) {x s t : Str} (hxs : (x, s) ∈ kys D0) (hst : (s, t) ∈ kys D0) (ne : t ≠ x) (ht : t ∈ P) : lo (vl (clR P D0) (x, t)) (ad (vl D0 (x, s)) (vl D0 (s, t))) := by
  obtain ⟨a, ha, ea⟩ := List.mem_iff_getElem.mp hxs
  have := (clR_ok h).le a ha ha t ht (by rw [ea]; exact ne) (by rw [ea]; exact hst)
  rw [ea] at this
  exact this
end
/-- the rounds find the least costs of ways -/
theorem clN_is {P : List Str} {D0 : STab} (h0 : ClR P (fun x y => vl D0 (x, y)) D0 D0) (pos : ∀ x y w, vl D0 (x, y) = some w → 0 ≤ w) {n : Nat} (hn : P.length ≤ n + 1) {x : Str} (hx : x ∈ P) :
    ClR P (fun x y => vl D0 (x, y)) (clN P D0 n) (clN P D0 n) ∧ ∀ y L v, y ≠ x → Pth (fun x y => vl D0 (x, y)) x L y v → lo (vl (clN P D0 n) (x, y)) (some v) := by
  have ok : ∀ k, ClR P (fun x y => vl D0 (x, y)) (clN P D0 k) (clN P D0 k) := by
    intro k
    induction k with
    | zero => exact h0
    | succ k ih =>
      have := (clR_ok ih).r
      exact ⟨fun q => lo_refl _, this.wk, this.nd⟩
  have dn : ∀ k q, lo (vl (clN P D0 (k + 1)) q) (vl (clN P D0 k) q) := fun k q => (clR_ok (ok k)).r.dn q
  have dn0 : ∀ k q, lo (vl (clN P D0 k) q) (vl D0 q) := by
    intro k
    induction k with
    | zero => exact fun q => lo_refl _
    | succ k ih => exact fun q => lo_trans (dn k q) (ih q)
  have is : ∀ {D : STab} {q : Str × Str} {w : Int}, vl D q = some w → q ∈ kys D := fun {D q w} h => (vl_look h).1
  refine ⟨ok n, fun y L v hy hP => ?_⟩
  obtain ⟨L', v', hP', hv, nd⟩ := hP.erase fun s t w h => pos _ _ _ h
  have inP := hP'.all (fun z => z ∈ P) hx fun s t w _ h => (h0.wk _ _ _ h).2.2.2
  have ll := nd_len nd (k := P) inP
  have R := hP'.rounds (f := fun r t => if t = x then some 0 else vl (clN P D0 r) (x, t)) (fun r t => by
      by_cases c : t = x
      · rw [if_pos c, if_pos c]
        exact lo_refl _
      · rw [if_neg c, if_neg c]
        exact dn r _) (fun r s t w h => by
      by_cases ct : t = x
      · rw [if_pos ct]
        intro j ej
        have hw := pos _ _ _ h
        by_cases cs : s = x
        · rw [if_pos cs] at ej
          have ej : 0 + w = j := Option.some.inj ej
          exact ⟨0, rfl, by omega⟩
        · rw [if_neg cs] at ej
          cases hs : vl (clN P D0 r) (x, s) with
          | none => rw [hs] at ej; cases ej
          | some u =>
            rw [hs] at ej
            have ej : u + w = j := Option.some.inj ej
            obtain ⟨L2, p2⟩ := ((ok r).wk _ _ _ hs).1
            have := p2.nn fun s t w h => pos _ _ _ h
            exact ⟨0, rfl, by omega⟩
      · rw [if_neg ct]
        by_cases cs : s = x
        · subst cs
          rw [if_pos rfl]
          have e0 : ad (some 0) (some w) = some w := congrArg some (Int.zero_add w)
          rw [e0, ← h]
          exact dn0 (r + 1) _
        · rw [if_neg cs]
          cases hs : vl (clN P D0 r) (x, s) with
          | none =>
            intro j ej
            cases ej
          | some u =>
            have k2 : (s, t) ∈ (clN P D0 r).map (·.1) := by
              obtain ⟨w', hw', _⟩ := dn0 r (s, t) w h
              exact is hw'
            have := clR_le (ok r) (is hs) k2 ct (h0.wk _ _ _ h).2.2.2
            rw [hs] at this
            refine lo_trans this (lo_ad (lo_refl _) ?_)
            rw [← h]
            exact dn0 r _) n (by omega)
  rw [if_neg hy, if_pos rfl] at R
  have e0 : ad (some 0) (some v') = some v' := congrArg some (Int.zero_add v')
  rw [e0] at R
  refine lo_trans R fun j ej => ?_
  cases ej
  exact ⟨v', rfl, hv⟩
end Mk

set_option Elab.async false
set_option linter.all false
set_option maxRecDepth 100000
set_option maxHeartbeats 1000000
/-! the law's closed prices are the program's -/
namespace Mk
open PySem L2

section
variable {t1 t2 : PTab} {t3 : STab}
theorem cl_vl : ∀ (ks : List Str) (D : STab), (∀ z ∈ ks, z ≠ "") → ∀ x y, vl (ks.foldl (clI t1 t2) D) (x, y) = if x = "" ∧ y ∈ ks then some (look t1 y) else if y = "" ∧ x ∈ ks then some (look t2 x) else vl D (x, y)
  | [], D, _, x, y => by
    rw [if_neg fun h => (nomatch h.2), if_neg fun h => (nomatch h.2)]
    rfl
  | z :: ks, D, hz, x, y => by
    have z0 := hz z List.mem_cons_self
    rw [List.foldl_cons, cl_vl ks _ (fun z h => hz z (List.mem_cons_of_mem _ h)) x y]
    by_cases c1 : x = "" ∧ y ∈ ks
    · rw [if_pos c1, if_pos ⟨c1.1, List.mem_cons_of_mem _ c1.2⟩]
    · rw [if_neg c1]
      by_cases c2 : y = "" ∧ x ∈ ks
      · have n1 : ¬ (x = "" ∧ y ∈ z :: ks) := fun h => hz x (List.mem_cons_of_mem _ c2.2) h.1
        rw [if_pos c2, if_neg n1, if_pos ⟨c2.1, List.mem_cons_of_mem _ c2.2⟩]
      · rw [if_neg c2]
        unfold clI
        rw [vl_setT, vl_setT]
        by_cases e1 : (x, y) = (z, ("" : Str))
        · cases e1
          have n1 : ¬ (z = "" ∧ ("" : Str) ∈ z :: ks) := fun h => z0 h.1
          rw [if_pos rfl, if_neg n1, if_pos ⟨rfl, List.mem_cons_self⟩]
        · rw [if_neg e1]
          by_cases e2 : (x, y) = (("" : Str), z)
          · cases e2
            rw [if_pos rfl, if_pos ⟨rfl, List.mem_cons_self⟩]
          · rw [if_neg e2]
            have n1 : ¬ (x = "" ∧ y ∈ z :: ks) := fun h => by
              rcases List.mem_cons.mp h.2 with h2 | h2
              · exact e2 (by rw [h.1, h2])
              · exact c1 ⟨h.1, h2⟩
            have n2 : ¬ (y = "" ∧ x ∈ z :: ks) := fun h => by
              rcases List.mem_cons.mp h.2 with h2 | h2
              · exact e1 (by rw [h.1, h2])
              · exact c2 ⟨h.1, h2⟩
            rw [if_neg n1, if_neg n2]
theorem cl_nd : ∀ (ks : List Str) (D : STab), (kys D).Nodup → (kys (ks.foldl (clI t1 t2) D)).Nodup
  | [], D, h => h
  | z :: ks, D, h => by
    rw [List.foldl_cons]
    exact cl_nd ks _ (setT_nd (setT_nd h))
/-- the first table's edges -/
theorem cl0_vl (R : RtT t1 t2 t3) (x y : Str) : vl (cl0 t1 t2 t3) (x, y) = if x = "" ∧ y ∈ t1.map (·.1) then some (look t1 y) else if y = "" ∧ x ∈ t1.map (·.1) then some (look t2 x) else vl t3 (x, y) :=
  cl_vl _ _ (fun z hz e => em_not R.ag (e ▸ hz)) x y
theorem t3_in (R : RtT t1 t2 t3) {x y : Str} {w : Int} (h : vl t3 (x, y) = some w) : x ∈ t1.map (·.1) ∧ y ∈ t1.map (·.1) ∧ x ≠ y ∧ 1 ≤ w := by
  obtain ⟨h1, h2⟩ := vl_look h
  obtain ⟨p, hp, e, e2⟩ := look_is h1
  obtain ⟨a, b, c⟩ := R.ag.pr p hp
  rw [e] at a b c
  have := (R.bds.b3 p hp).1
  exact ⟨a, b, c, by omega⟩
theorem cl0_is (R : RtT t1 t2 t3) {x y : Str} {w : Int} (h : vl (cl0 t1 t2 t3) (x, y) = some w) : x ∈ plc t1 ∧ y ∈ plc t1 ∧ x ≠ y ∧ 1 ≤ w ∧ dd t1 t2 t3 x y = w := by
  have n0 := em_not R.ag
  rw [cl0_vl R] at h
  by_cases c1 : x = "" ∧ y ∈ t1.map (·.1)
  · rw [if_pos c1] at h
    cases h
    have ne : x ≠ y := fun z => n0 (by rw [← c1.1, z]; exact c1.2)
    have b := look_b (fun p hp => R.bds.b1 p hp) c1.2
    refine ⟨by rw [c1.1]; exact List.mem_cons_self, List.mem_cons_of_mem _ c1.2, ne, b.1, ?_⟩
    unfold dd
    rw [if_neg ne, if_pos c1.1]
  · rw [if_neg c1] at h
    by_cases c2 : y = "" ∧ x ∈ t1.map (·.1)
    · rw [if_pos c2] at h
      cases h
      have ne : x ≠ y := fun z => n0 (by rw [← c2.1, ← z]; exact c2.2)
      have xe : x ≠ "" := fun z => n0 (by rw [← z]; exact c2.2)
      have b := look_b (fun p hp => R.bds.b2 p hp) (R.ag.pm.mem_iff.mpr c2.2)
      refine ⟨List.mem_cons_of_mem _ c2.2, by rw [c2.1]; exact List.mem_cons_self, ne, b.1, ?_⟩
      unfold dd
      rw [if_neg ne, if_neg xe, if_pos c2.1]
    · rw [if_neg c2] at h
      obtain ⟨a, b, ne, l⟩ := t3_in R h
      have xe : x ≠ "" := fun z => n0 (by rw [← z]; exact a)
      have ye : y ≠ "" := fun z => n0 (by rw [← z]; exact b)
      obtain ⟨h1, h2⟩ := vl_look h
      refine ⟨List.mem_cons_of_mem _ a, List.mem_cons_of_mem _ b, ne, l, ?_⟩
      unfold dd dget
      rw [if_neg ne, if_neg xe, if_neg ye, if_pos h1, h2]
theorem cl0_ok (R : RtT t1 t2 t3) {P : List Str} (hP : ∀ x ∈ plc t1, x ∈ P) : ClR P (fun x y => vl (cl0 t1 t2 t3) (x, y)) (cl0 t1 t2 t3) (cl0 t1 t2 t3) :=
  ⟨fun q => lo_refl _, fun x y v hv => by
    obtain ⟨a, b, ne, _, _⟩ := cl0_is R hv
    refine ⟨⟨[x] ++ [y], ?_⟩, ne, hP _ a, hP _ b⟩
    have := Pth.snoc (e := fun x y => vl (cl0 t1 t2 t3) (x, y)) (v := x) .one hv
    rw [Int.zero_add] at this
    exact this, cl_nd _ _ R.nd⟩
theorem pth_cc (R : RtT t1 t2 t3) {x : Str} (hx : x ∈ plc t1) {L : List Str} {y : Str} {v : Int} (h : Pth (fun x y => vl (cl0 t1 t2 t3) (x, y)) x L y v) : y ∈ plc t1 ∧ cc t1 t2 t3 x y ≤ v := by
  have C := cl_of R
  induction h with
  | one => exact ⟨hx, Int.le_of_eq (C.zero x hx)⟩
  | @snoc L s t v w h k ih =>
    obtain ⟨hs, hl⟩ := ih
    obtain ⟨_, ht, _, _, ed⟩ := cl0_is R k
    have := C.tri x hx t ht s hs
    have := C.le s hs t ht
    exact ⟨ht, by omega⟩
/-- after as many rounds as there are places, less one, all closed prices stand -/
theorem clN_cc (R : RtT t1 t2 t3) {P : List Str} (hP : ∀ x ∈ plc t1, x ∈ P) (hP2 : ∀ x ∈ P, x ∈ plc t1) {n : Nat} (hn : P.length ≤ n + 1) {x y : Str} (hx : x ∈ plc t1) (hy : y ∈ plc t1) (ne : y ≠ x) : vl (clN P (cl0 t1 t2 t3) n) (x, y) = some (cc t1 t2 t3 x y) := by
  have C := cl_of R
  have n0 := em_not R.ag
  have pos : ∀ x y w, vl (cl0 t1 t2 t3) (x, y) = some w → 0 ≤ w := fun x y w h => by
    have := (cl0_is R h).2.2.2.1
    omega
  obtain ⟨K, A⟩ := clN_is (cl0_ok R hP) pos hn (hP x hx)
  -- a first way to every place
  have ex : ∀ z ∈ plc t1, z ≠ x → ∃ L v, Pth (fun x y => vl (cl0 t1 t2 t3) (x, y)) x L z v := fun z hz zx => by
    have put : ∀ z, z ∈ t1.map (·.1) → vl (cl0 t1 t2 t3) ("", z) = some (look t1 z) := fun z h => by rw [cl0_vl R, if_pos ⟨rfl, h⟩]
    have out : ∀ z, z ∈ t1.map (·.1) → vl (cl0 t1 t2 t3) (z, "") = some (look t2 z) := fun z h => by
      rw [cl0_vl R, if_neg fun c => n0 c.2, if_pos ⟨rfl, h⟩]
    by_cases xe : x = ""
    · subst xe
      exact ⟨_, _, .snoc .one (put z (pl_em hz zx))⟩
    · have o := out x (pl_em hx xe)
      by_cases ze : z = ""
      · subst ze
        exact ⟨_, _, .snoc .one o⟩
      · exact ⟨_, _, .snoc (.snoc .one o) (put z (pl_em hz ze))⟩
  have F0 : ∀ z ∈ plc t1, z ≠ x → ∃ v, vl (clN P (cl0 t1 t2 t3) n) (x, z) = some v := fun z hz zx => by
    obtain ⟨L, v, h⟩ := ex z hz zx
    obtain ⟨i, hi, _⟩ := A z L v zx h v rfl
    exact ⟨i, hi⟩
  let F : Str → Int := fun z => if z = x then 0 else (vl (clN P (cl0 t1 t2 t3) n) (x, z)).getD 0
  have FP : ∀ z ∈ plc t1, ∃ L, Pth (fun x y => vl (cl0 t1 t2 t3) (x, y)) x L z (F z) := fun z hz => by
    by_cases zx : z = x
    · subst zx
      refine ⟨[z], ?_⟩
      show Pth _ z [z] z (if z = z then 0 else _)
      rw [if_pos rfl]
      exact .one
    · obtain ⟨v, hv⟩ := F0 z hz zx
      obtain ⟨⟨L, h⟩, _⟩ := K.wk _ _ _ hv
      refine ⟨L, ?_⟩
      show Pth _ x L z (if z = x then 0 else _)
      rw [if_neg zx, hv]
      exact h
  have Fle : ∀ z ∈ plc t1, ∀ L v, Pth (fun x y => vl (cl0 t1 t2 t3) (x, y)) x L z v → F z ≤ v := fun z hz L v h => by
    by_cases zx : z = x
    · have := h.nn fun s t w h => pos _ _ _ h
      show (if z = x then 0 else _) ≤ v
      rw [if_pos zx]
      exact this
    · obtain ⟨i, hi, li⟩ := A z L v zx h v rfl
      show (if z = x then 0 else _) ≤ v
      rw [if_neg zx, hi]
      exact li
  have Fe : ∀ z ∈ plc t1, ∀ y ∈ plc t1, ∀ w, vl (cl0 t1 t2 t3) (z, y) = some w → F y ≤ F z + w := fun z hz y hy w h => by
    obtain ⟨L, hL⟩ := FP z hz
    exact Fle y hy _ _ (.snoc hL h)
  have up := C.max F (fun z hz y hy => by
    by_cases zy : z = y
    · subst zy
      unfold dd
      rw [if_pos rfl, Int.add_zero]
      exact Int.le_refl _
    · by_cases ze : z = ""
      · subst ze
        have hy' := pl_em hy fun c => zy c.symm
        have := Fe _ hz _ hy _ (by rw [cl0_vl R, if_pos ⟨rfl, hy'⟩])
        unfold dd
        rw [if_neg zy, if_pos rfl]
        exact this
      · have hz' := pl_em hz ze
        have o : vl (cl0 t1 t2 t3) (z, "") = some (look t2 z) := by rw [cl0_vl R, if_neg fun c => n0 c.2, if_pos ⟨rfl, hz'⟩]
        by_cases ye : y = ""
        · subst ye
          have := Fe _ hz _ hy _ o
          unfold dd
          rw [if_neg zy, if_neg ze, if_pos rfl]
          exact this
        · have hy' := pl_em hy ye
          unfold dd dget
          rw [if_neg zy, if_neg ze, if_neg ye]
          by_cases s : (z, y) ∈ t3.map (·.1)
          · rw [if_pos s]
            refine Fe _ hz _ hy _ ?_
            rw [cl0_vl R, if_neg fun c => ze c.1, if_neg fun c => ye c.1, vl_some s]
          · rw [if_neg s]
            have a := Fe _ hz _ List.mem_cons_self _ o
            have b := Fe "" List.mem_cons_self _ hy _ (by rw [cl0_vl R, if_pos ⟨rfl, hy'⟩])
            omega) x hx y hy
  have Fx : F x = 0 := by
    show (if x = x then 0 else _) = 0
    rw [if_pos rfl]
  obtain ⟨v, hv⟩ := F0 y hy ne
  have Fy : F y = v := by
    show (if y = x then 0 else _) = v
    rw [if_neg ne, hv]
    rfl
  obtain ⟨L, hL⟩ := FP y hy
  have dn := (pth_cc R hx hL).2
  rw [hv]
  exact congrArg some (by omega)
end
end Mk

set_option Elab.async false
set_option linter.all false
set_option maxRecDepth 100000
set_option maxHeartbeats 1000000
/-! prices so many times -/
namespace Mk
open PySem L2

def mulO (k : Int) (x : Option Int) : Option Int := x.map (· * k)
section
variable {t1 t2 : PTab} {t3 : STab}
end
section
variable {m : Mch} {c c' : Str → Int} {k : Int}
theorem mn_mul (hk : 0 ≤ k) (x y : Option Int) : mn (mulO k x) (mulO k y) = mulO k (mn x y) := by
  cases x with
  | none => rfl
  | some a =>
    cases y with
    | none => rfl
    | some b =>
      show some (min (a * k) (b * k)) = some (min a b * k)
      rcases Int.le_total a b with h | h
      · rw [Int.min_eq_left h, Int.min_eq_left (Int.mul_le_mul_of_nonneg_right h hk)]
      · rw [Int.min_eq_right h, Int.min_eq_right (Int.mul_le_mul_of_nonneg_right h hk)]
theorem ad_mul (x y : Option Int) : ad (mulO k x) (mulO k y) = mulO k (ad x y) := by
  cases x <;> cases y <;> try rfl
  rename_i a b
  show some (a * k + b * k) = some ((a + b) * k)
  rw [Int.add_mul]
theorem edg_mul (hk : 0 ≤ k) (h : ∀ q ∈ m, ∀ p ∈ q.1, c' p.1 = c p.1 * k) (i j : Nat) : edg m c' i j = mulO k (edg m c i j) := by
  have key : ∀ (ks : List Str) (x : Option Int), (∀ z ∈ ks, c' z = c z * k) → ks.foldl (edgS (mvs m (i : Int)) c' j) (mulO k x) = mulO k (ks.foldl (edgS (mvs m (i : Int)) c j) x) := by
    intro ks
    induction ks with
    | nil => exact fun x _ => rfl
    | cons z ks ih =>
      intro x hz
      rw [List.foldl_cons, List.foldl_cons, ← ih _ fun z h => hz z (List.mem_cons_of_mem _ h)]
      have st : edgS (mvs m (i : Int)) c' j (mulO k x) z = mulO k (edgS (mvs m (i : Int)) c j x z) := by
        unfold edgS
        split
        · rw [hz z List.mem_cons_self, ← mn_mul hk]
          rfl
        · rfl
      rw [st]
  unfold edg
  have := key ((mvs m (i : Int)).map (·.1)) (if i = j then some 0 else none) fun z hz => by
    obtain ⟨p, hp, rfl⟩ := List.mem_map.mp hz
    obtain ⟨q, hq, _, hq2⟩ := mvs_mem hp
    exact h q hq p hq2
  rw [← this]
  have st : (if i = j then some 0 else none) = mulO k (if i = j then some 0 else none) := by
    split
    · show some 0 = some (0 * k)
      rw [Int.zero_mul]
    · rfl
  rw [← st]
theorem Eg_mul (hk : 0 ≤ k) (h : ∀ q ∈ m, ∀ p ∈ q.1, c' p.1 = c p.1 * k) : ∀ n i j, Eg m c' n i j = mulO k (Eg m c n i j)
  | 0, i, j => edg_mul hk h i j
  | n + 1, i, j => by
    have a : Eg m c' (n + 1) i j = mn (Eg m c' n i j) (ad (Eg m c' n i n) (Eg m c' n n j)) := rfl
    have b : Eg m c (n + 1) i j = mn (Eg m c n i j) (ad (Eg m c n i n) (Eg m c n n j)) := rfl
    rw [a, b, Eg_mul hk h n, Eg_mul hk h n, Eg_mul hk h n, ad_mul, mn_mul hk]
end
/-- a row behind a row, at so many times the prices -/
theorem Rb.mul {m : Mch} {c c' : Str → Str → Int} {sg : Str} {ns ms : List Int} {j : Nat} {x k : Int} (hk : 0 ≤ k) (h : Rb m c sg ns j x) (h1 : ∀ q ∈ m, ∀ p ∈ q.1, c' "" p.1 = c "" p.1 * k) (h2 : ∀ q ∈ m, ∀ p ∈ q.1, c' sg p.1 = c sg p.1 * k) (h3 : c' sg "" = c sg "" * k)
    (l : ∀ i, i < m.length → ms.getD i 0 = ns.getD i 0 * k) : Rb m c' sg ms j (x * k) := by
  have E := Eg_mul (m := m) (c := c "") (c' := c' "") hk h1 m.length
  have S : ∀ i via pr, Stp m c' sg i via pr ↔ ∃ p, Stp m c sg i via p ∧ pr = p * k := fun i via pr => by
    constructor
    · rintro (⟨a, b⟩ | ⟨z, to, hz, a, b⟩)
      · exact ⟨_, .inl ⟨a, rfl⟩, b.trans h3⟩
      · obtain ⟨q, hq, _, hp⟩ := mvs_mem hz
        exact ⟨_, .inr ⟨z, to, hz, a, rfl⟩, b.trans (h2 q hq _ hp)⟩
    · rintro ⟨p, ⟨a, b⟩ | ⟨z, to, hz, a, b⟩, e⟩
      · exact .inl ⟨a, by rw [e, b, h3]⟩
      · obtain ⟨q, hq, _, hp⟩ := mvs_mem hz
        exact .inr ⟨z, to, hz, a, by rw [e, b, h2 q hq _ hp]⟩
  refine ⟨?_, fun i via pr g hi s e => ?_⟩
  · obtain ⟨i, via, pr, g, hi, s, e, hx⟩ := h.at_
    refine ⟨i, via, pr * k, g * k, hi, (S _ _ _).mpr ⟨pr, s, rfl⟩, by rw [E, e]; rfl, ?_⟩
    rw [l i hi, hx, Int.add_mul, Int.add_mul]
  · obtain ⟨p, s1, rfl⟩ := (S _ _ _).mp s
    rw [E] at e
    cases h5 : Eg m (c "") m.length via j with
    | none => rw [h5] at e; cases e
    | some g0 =>
      rw [h5] at e
      have e : g0 * k = g := Option.some.inj e
      have := Int.mul_le_mul_of_nonneg_right (h.le i via p g0 hi s1 h5) hk
      rw [l i hi, ← e, ← Int.add_mul, ← Int.add_mul]
      exact this
end Mk

set_option Elab.async false
set_option linter.all false
set_option maxRecDepth 100000
set_option maxHeartbeats 2000000
/-! raise InvalidNumber(e): an own class over IndexError, whose __init__ calls super().__init__ and stores one field -/
namespace Mk
open PySem PySem.Spec L2 PyProof.Rows PySem.W

section
open Builtin Builtin.ObjectAttr
variable {prog : Program} {w : World} {A : Around} {E : Value → Shared → Prop} {hp : Heap} {g : Array GenState} {d : Drawn} {t : Nat} {os : OsState}
end

section
variable {prog : Program} {w : World} {A : Around} {K : Frag} {mg : Str → Option Value} {C : Addr} {hp : Heap} {g : Array GenState} {dr : Drawn} {tk : Nat} {os : OsState}
end

end Mk

set_option Elab.async false
set_option linter.all false
set_option maxRecDepth 100000
set_option maxHeartbeats 4000000
/-! set(a list of texts); a lock of several dicts around an expression -/
namespace Mk
open PySem PySem.Spec PyProof.Rows L2 PySem.Froz

section
variable {P : Program} {w : World} {A : Around} {E : Value → Shared → Prop} {s : Shared}
set_option maxHeartbeats 3200000 in
/-- set(t), t a list of texts -/
theorem call_set_listX {t : Addr} {items : Array Value} (xs : List Str) {Q : Value → Shared → Prop} (hh : A.handled = none) (ht : s.heap.IsList t items) (hx : StrsAre items.toList xs) (hb : xs.length + 1 < scanBound)
    (h : ∀ (h' : Heap) (tk : Nat) (l : List Str), SetS P w h' s.heap.objs.size l → Firsts xs xs.length l → (∀ b o, s.heap.get? b = some o → h'.get? b = some o) → Q (.ref s.heap.objs.size) { s with heap := h', toks := tk }) :
    wpAny (model P w) A (call (.type "set") [.ref t]) Q E s := by
  have hsz : items.size = xs.length := by
    have q := StrsAre.length hx
    rw [Array.length_toList] at q
    exact q
  obtain ⟨c0, tl0, mro0⟩ := PySem.F.called_set.mro
  have made0 := PySem.F.called_set.made
  have sub0 := PySem.F.called_set.sub
  refine wpAny_call (codeAny_of_tree ?_)
  show wpAny _ _ (callAny (.type "set") _) _ _ _
  refine wpAny_pure ⟨Code.quiet_builtin _ (by decide +kernel), codeAny_builtin PySem.F.entry_type_call ?_⟩
  rw [Around.under_plain (weight_type_call_type "set" [.ref t] []) rfl]
  have nt0 := PySem.F.called_set.notType
  have cc0 := PySem.F.called_set.canCreate
  have tc0 := PySem.F.typeCall_set_1 (.ref t)
  repeat (any_goals (first | assumption | wp_step))
  refine codeAny_mono (code_set_led1 (.ref t) (E := E) (Q₁ := fun v s1 => v = .ref s.heap.objs.size ∧ s1 = { s with heap := s.heap.push (ob0 w) }) ⟨rfl, rfl⟩) fun r s1 hr => ?_
  match r, hr with
  | .error e, hr => exact hr
  | .ok (.ret v), hr =>
    obtain ⟨rfl, rfl⟩ := hr
    have o0 : (s.heap.push (ob0 w)).get? s.heap.objs.size = some (ob0 w) := Heap.get?_push_size _ rfl
    have ty0 : Shared.TypeIs { s with heap := s.heap.push (ob0 w) } (.ref s.heap.objs.size) "set" := ⟨_, o0, rfl⟩
    have il0 := PySem.F.called_set.init.lookup
    have ib0 := PySem.F.called_set.init.bind (.ref s.heap.objs.size)
    repeat (any_goals (first | assumption | wp_step))
    refine codeAny_mono (codeAny_call_builtin (R := wants (fun v s2 => v = .none ∧ ∃ h2 tk l, s2 = { s with heap := h2, toks := tk } ∧ SetS P w h2 s.heap.objs.size l ∧ Firsts xs xs.length l ∧
        (∀ b o, s.heap.get? b = some o → h2.get? b = some o)) E) PySem.F.called_set.init.plain PySem.F.entry_set_init (check_set_init_1 ty0 ?_)) fun r2 s2 hr2 => ?_
    · obtain ⟨⟨oc, od, dt, osl⟩, ot, hc, nl, hd⟩ := ht
      simp only at hc hd
      subst hc
      subst hd
      have ot2 : (s.heap.push (ob0 w)).get? t = some { cls := .type "list", dict := od, data := .seq items nl, slots := osl } := Heap.get?_push_of_some _ ot
      have st1 := F.sub_list_set
      have st2 := F.sub_list_frozenset
      have td0 : (Value.type "list" == Value.type "dict") = false := by decide
      have t1 : (s.heap.push (ob0 w)).IsList t items := ⟨_, ot2, rfl, nl, rfl⟩
      unfold Builtin.«set.__init__» noKeywords Builtin.Frozenset.updateFrom
      generalize hPI : pyIter = PI
      wp_walk
      subst hPI
      refine wpAny_pyIter_list t1 (wpAny_bind (wpAny_runValue ?_))
      have lt0 : t < s.heap.objs.size := Heap.lt_size ot
      have hh3 : A.in1.in1.in1.handled = none := by simp [hh]
      have z1 : (s.heap.push (ob0 w)).objs.size = s.heap.objs.size + 1 := Heap.size_push ..
      have ne1 : t ≠ (s.heap.push (ob0 w)).objs.size := by rw [z1]; exact Nat.ne_of_lt (Nat.lt_succ_of_lt lt0)
      have nf1 : s.heap.objs.size ∉ [(s.heap.push (ob0 w)).objs.size, t] := by
        rw [z1]
        simp only [List.mem_cons, List.not_mem_nil, or_false, not_or]
        exact And.intro (Nat.ne_of_lt (Nat.lt_succ_self _)) (Nat.ne_of_gt lt0)
      have val1 : ∀ (i : Nat) (v : Value), items[i]? = some v → ∃ y u, xs[i]? = some y ∧ v = .str y u := fun i v e => by
        have hi : i < xs.length := by rw [← hsz]; exact (Array.getElem?_eq_some_iff.mp e).1
        obtain ⟨u, q⟩ := SS.strs_at hx i v (by rw [Array.getElem?_toList]; exact e)
        exact ⟨xs[i], u, List.getElem?_eq_getElem hi, by rw [q, List.getD_eq_getElem?_getD, List.getElem?_eq_getElem hi]; rfl⟩
      refine grow_x ((Walks.list hh3 _ t ne1 items).toS) s.heap.objs.size nf1 xs hsz hb val1 (items.size - 0) 0 _ (by omega) (Nat.zero_le _)
        ⟨⟨_, Heap.get?_push_size _ rfl, rfl, rfl⟩, (t1.push _)⟩ ⟨[], ⟨fun y => by simp, Nat.le_refl 0⟩, setS_new (Heap.get?_push_of_some _ o0)⟩ ?_
      intro s3 l3 mv hf3 x3
      obtain ⟨h3, g3, d3, tk3, os3⟩ := s3
      obtain rfl : g3 = s.gens := mv.gens
      obtain rfl : d3 = s.drawn := mv.drawn
      obtain rfl : os3 = s.os := mv.os
      show wpAny _ _ _ _ _ _
      refine wpAny_pure ?_
      show wpAny _ _ (ret Value.none) _ _ _
      rw [hsz] at hf3
      refine wpAny_pure ⟨rfl, h3, tk3, l3, rfl, x3, hf3, fun b o e => ?_⟩
      have b0 : b < s.heap.objs.size := Heap.lt_size e
      refine mv.heap b o ?_ (Heap.get?_push_of_some _ (Heap.get?_push_of_some _ e))
      rw [z1]
      simp only [List.mem_cons, List.not_mem_nil, or_false, not_or]
      exact And.intro (Nat.ne_of_lt b0) (Nat.ne_of_lt (Nat.lt_succ_of_lt b0))
    · match r2, hr2 with
      | .error e, hr2 => exact hr2
      | .ok (.ret v2), hr2 =>
        obtain ⟨rfl, h2, tk2, l2, rfl, x2, hf2, k2⟩ := hr2
        repeat (any_goals (first | assumption | wp_step))
        exact h _ _ _ x2 hf2 k2
      | .ok .next, hr2 => exact hr2.elim
      | .ok .brk, hr2 => exact hr2.elim
      | .ok .cont, hr2 => exact hr2.elim
  | .ok .next, hr => exact hr.elim
  | .ok .brk, hr => exact hr.elim
  | .ok .cont, hr => exact hr.elim
end
section
variable {X : Cx}
/-- set(t), t a list of texts -/
def rSetLX (K : PySem.W.Frag) (P : Program) (w : World) : List V → Hp → VK → Prop := fun xs H Q => ∃ (t : Addr) (zs : List Str), xs = [.ref t] ∧ SqL K H t (zs.map V.str) ∧ zs.length + 1 < scanBound ∧
  ∀ (p : Addr) (l : List Str), H p = none → l.Nodup → (∀ y, y ∈ l ↔ y ∈ zs) → l.length ≤ zs.length → Q (.ref p) (upd H p (SetSO P w p l))
theorem cr_setLX (hc : X.calm = true) : CallR X (.type "set") (rSetLX X.K X.prog X.w) := by
  intro pins s σ H xs us Q I r h
  obtain ⟨t, zs, rfl, ht, hb, q⟩ := h
  rw [Vals.ref1 r]
  obtain ⟨its, rv, hl, hz⟩ := I.list ht
  refine call_set_listX (items := its.toArray) zs (I.ok.hd hc) hl.isList (by simpa using strs_of rv) hb fun h' tk l x hf k => ?_
  obtain ⟨D, e, tx⟩ := id x
  refine ⟨.ref _, upd H s.heap.objs.size (SetSO X.prog X.w s.heap.objs.size l), I.laid k (Nat.le_refl _) (setSO_new x), rfl, q _ _ (I.hok.fresh (Nat.le_refl _)) tx.nd (fun y => ?_) hf.2⟩
  rw [hf.1, List.take_length]
end

/-! several dicts, locked around an expression -/
def frzL (ds : List (Addr × HO)) (ods : Addr → Obj) (H : Hp) : Hp := ds.foldl (fun H p => upd H p.1 (.frz (ods p.1) p.2)) H
def unfL (ds : List (Addr × HO)) (H : Hp) : Hp := ds.foldr (fun p H => upd H p.1 p.2) H
def tLockL (t : TE) : TE := fun σ H Q => ∃ ds : List (Addr × HO), (∀ p ∈ ds, H p.1 = some p.2 ∧ Mut (some p.2)) ∧ (ds.map (·.1)).Nodup ∧ ∀ ods : Addr → Obj, t σ (frzL ds ods H) fun v H' => (∀ p ∈ ds, H' p.1 = some (.frz (ods p.1) p.2)) ∧ Q v (unfL ds H')
theorem frzL_out : ∀ {ds : List (Addr × HO)} {ods : Addr → Obj} {H : Hp} {a : Addr}, a ∉ ds.map (·.1) → frzL ds ods H a = H a
  | [], _, _, _, _ => rfl
  | p :: ds, ods, H, a, h => by
    rw [List.map_cons, List.mem_cons, not_or] at h
    show frzL ds ods (upd H p.1 _) a = _
    rw [frzL_out h.2, upd_ne h.1]
theorem frzL_in : ∀ {ds : List (Addr × HO)} {ods : Addr → Obj} {H : Hp} {p : Addr × HO}, (ds.map (·.1)).Nodup → p ∈ ds → frzL ds ods H p.1 = some (.frz (ods p.1) p.2)
  | q :: ds, ods, H, p, nd, h => by
    rw [List.map_cons, List.nodup_cons] at nd
    show frzL ds ods (upd H q.1 _) p.1 = _
    rcases List.mem_cons.mp h with rfl | h
    · rw [frzL_out nd.1, upd_same]
    · exact frzL_in nd.2 h
theorem unfL_out : ∀ {ds : List (Addr × HO)} {H : Hp} {a : Addr}, a ∉ ds.map (·.1) → unfL ds H a = H a
  | [], _, _, _ => rfl
  | p :: ds, H, a, h => by
    rw [List.map_cons, List.mem_cons, not_or] at h
    show (upd (unfL ds H) p.1 p.2) a = _
    rw [upd_ne h.1, unfL_out h.2]
theorem unfL_in : ∀ {ds : List (Addr × HO)} {H : Hp} {p : Addr × HO}, (ds.map (·.1)).Nodup → p ∈ ds → unfL ds H p.1 = some p.2
  | q :: ds, H, p, nd, h => by
    rw [List.map_cons, List.nodup_cons] at nd
    show (upd (unfL ds H) q.1 q.2) p.1 = _
    rcases List.mem_cons.mp h with rfl | h
    · rw [upd_same]
    · rw [upd_ne fun e => nd.1 (by rw [← e]; exact List.mem_map.mpr ⟨p, h, rfl⟩)]
      exact unfL_in nd.2 h
theorem unfL_same {ds : List (Addr × HO)} {H0 H' : Hp} (nd : (ds.map (·.1)).Nodup) (h0 : ∀ p ∈ ds, H0 p.1 = some p.2) (k : ∀ b o, b ∉ ds.map (·.1) → H0 b = some o → H' b = some o) : Same H0 (unfL ds H') := fun b o e => by
  by_cases c : b ∈ ds.map (·.1)
  · obtain ⟨p, hp, rfl⟩ := List.mem_map.mp c
    rw [h0 p hp] at e
    rw [unfL_in nd hp]
    exact e
  · rw [unfL_out c]
    exact k b o c e
section
variable {X : Cx}
theorem pe_lockL {e : Expr} {t : TE} (h : PE X e t) : PE X e (tLockL t) := by
  refine ⟨fun pins s σ H Q I hw => ?_⟩
  obtain ⟨ds, hd, nd, hw⟩ := hw
  have key : ∀ (ds : List (Addr × HO)) (H : Hp) (Q : VK), Inv X pins σ H s → (∀ p ∈ ds, H p.1 = some p.2 ∧ Mut (some p.2)) → (ds.map (·.1)).Nodup →
      (∀ ods : Addr → Obj, t σ (frzL ds ods H) fun v H' => (∀ p ∈ ds, H' p.1 = some (.frz (ods p.1) p.2)) ∧ Q v (unfL ds H')) → wpAny (model X.prog X.w) X.A (eval e X.env) (EP X pins σ Q) X.xe s := by
    intro ds
    induction ds with
    | nil =>
      intro H Q I _ _ hw
      refine thn (h.run pins s σ H _ I (hw fun _ => default)) fun v s1 ⟨x, H1, I2, r, _, q⟩ => ?_
      exact ⟨x, H1, I2, r, q⟩
    | cons p ds ih =>
      intro H Q I hd nd hw
      rw [List.map_cons, List.nodup_cons] at nd
      obtain ⟨hp, mu⟩ := hd p List.mem_cons_self
      obtain ⟨od, I1⟩ := I.lock hp mu
      have nz := I.nofrz hp mu
      refine thn (ih (upd H p.1 (.frz od p.2)) (fun v H' => H' p.1 = some (.frz od p.2) ∧ Q v (upd H' p.1 p.2)) I1 (fun q hq => ?_) nd.2 fun ods => ?_) fun v s1 ⟨x, H1, I2, r, e2, q⟩ => ?_
      · obtain ⟨a, b⟩ := hd q (List.mem_cons_of_mem _ hq)
        exact ⟨(upd_ne fun z => nd.1 (by rw [← z]; exact List.mem_map.mpr ⟨q, hq, rfl⟩)).trans a, b⟩
      · have hz := hw fun b => if b = p.1 then od else ods b
        have e1 : frzL (p :: ds) (fun b => if b = p.1 then od else ods b) H = frzL ds ods (upd H p.1 (.frz od p.2)) := by
          show frzL ds (fun b => if b = p.1 then od else ods b) (upd H p.1 (.frz (if p.1 = p.1 then od else ods p.1) p.2)) = _
          rw [if_pos rfl]
          have : ∀ (l : List (Addr × HO)) (H : Hp), p.1 ∉ l.map (·.1) → frzL l (fun b => if b = p.1 then od else ods b) H = frzL l ods H := by
            intro l
            induction l with
            | nil => intro H _; rfl
            | cons q l ihl =>
              intro H hn
              rw [List.map_cons, List.mem_cons, not_or] at hn
              show frzL l (fun b => if b = p.1 then od else ods b) (upd H q.1 (.frz (if q.1 = p.1 then od else ods q.1) q.2)) = frzL l ods (upd H q.1 (.frz (ods q.1) q.2))
              rw [if_neg fun z => hn.1 z.symm, ihl _ hn.2]
          exact this ds _ nd.1
        rw [e1] at hz
        have : (fun v H' => (∀ q ∈ p :: ds, H' q.1 = some (HO.frz (if q.1 = p.1 then od else ods q.1) q.2)) ∧ Q v (unfL (p :: ds) H')) = fun v H' => (∀ q ∈ ds, H' q.1 = some (HO.frz (ods q.1) q.2)) ∧ (unfL ds H') p.1 = some (HO.frz od p.2) ∧ Q v (upd (unfL ds H') p.1 p.2) := by
          funext v H'
          refine propext ⟨fun ⟨a, b⟩ => ⟨fun q hq => ?_, ?_, b⟩, fun ⟨a, b, c⟩ => ⟨fun q hq => ?_, c⟩⟩
          · have := a q (List.mem_cons_of_mem _ hq)
            rwa [if_neg fun z => nd.1 (by rw [← z]; exact List.mem_map.mpr ⟨q, hq, rfl⟩)] at this
          · have := a p List.mem_cons_self
            rw [if_pos rfl] at this
            rw [unfL_out nd.1]
            exact this
          · rcases List.mem_cons.mp hq with rfl | hq
            · rw [unfL_out nd.1] at b
              rw [if_pos rfl]
              exact b
            · rw [if_neg fun z => nd.1 (by rw [← z]; exact List.mem_map.mpr ⟨q, hq, rfl⟩)]
              exact a q hq
        rw [this] at hz
        exact hz
      · exact ⟨x, _, I2.unlock e2 nz, r, q⟩
  exact key ds H Q I hd nd hw
end
end Mk

set_option Elab.async false
set_option linter.all false
set_option maxRecDepth 100000
set_option maxHeartbeats 4000000
/-! Form.signs -/
namespace Mk
open PySem PySem.Spec L2 PyProof.Rows

abbrev sFSig : Stmt := inClass (top 74) 4
abbrev nFSig : List Str := ["self", "moves", "_", "sign"]
/-- the signs of a machine -/
def sgM (m : Mch) : List Str := m.flatMap fun q => q.1.map (·.1)
theorem sgM_in {m : Mch} {z : Str} : z ∈ sgM m ↔ ∃ q ∈ m, ∃ p ∈ q.1, p.1 = z := by
  unfold sgM
  rw [List.mem_flatMap]
  refine ⟨fun ⟨q, hq, h⟩ => ⟨q, hq, List.mem_map.mp h⟩, fun ⟨q, hq, h⟩ => ⟨q, hq, List.mem_map.mpr h⟩⟩
def spFSig (C : Addr) : Sp := fun vs H Q _ => ∃ (x : Addr) (m : Mch), vs = [.ref x] ∧ FmAt C H x m ∧ WF m ∧ m.length ≤ 40 ∧ (∀ q ∈ m, q.1.length ≤ 5) ∧ ∀ (H' : Hp) (r : Addr) (zs : List Str), Same H H' → H r = none → H' r = some (.tup (zs.map V.str)) → zs.Nodup → zs.Pairwise (fun a b => byCs a b = true) → (∀ z, z ∈ zs ↔ z ∈ sgM m) → Q (.ref r) H'
/-- the dicts of the states, each once -/
theorem dicts_of {H : Hp} : ∀ {ss : List Addr} {m : Mch}, Paired (StA H) ss m → ∃ ds : List (Addr × HO), (∀ p ∈ ds, H p.1 = some p.2 ∧ ∃ t : PTab, p.2 = .dK (kvsP t)) ∧ (ds.map (·.1)).Nodup ∧
    ∀ (i : Nat) (q : PTab × Bool), m[i]? = some q → ∃ s d, ss[i]? = some s ∧ H s = some (.tup [.ref d, .bl q.2]) ∧ (d, HO.dK (kvsP q.1)) ∈ ds
  | _, _, .nil => ⟨[], (fun _ h => nomatch h), List.nodup_nil, fun i q h => nomatch h⟩
  | s :: ss, q :: m, .cons ⟨d, e1, e2⟩ r => by
    obtain ⟨ds, h1, nd, h2⟩ := dicts_of r
    by_cases c : d ∈ ds.map (·.1)
    · refine ⟨ds, h1, nd, fun i q' h => ?_⟩
      cases i with
      | zero =>
        cases h
        obtain ⟨p, hp, e⟩ := List.mem_map.mp c
        have := (h1 p hp).1
        rw [e, e2] at this
        refine ⟨s, d, rfl, e1, ?_⟩
        have e3 : p = (d, HO.dK (kvsP q.1)) := by
          obtain ⟨a, b⟩ := p
          cases e
          cases this
          rfl
        rw [← e3]
        exact hp
      | succ i => exact h2 i q' h
    · refine ⟨(d, .dK (kvsP q.1)) :: ds, fun p hp => ?_, List.nodup_cons.mpr ⟨c, nd⟩, fun i q' h => ?_⟩
      · rcases List.mem_cons.mp hp with rfl | hp
        · exact ⟨e2, q.1, rfl⟩
        · exact h1 p hp
      · cases i with
        | zero =>
          cases h
          exact ⟨s, d, rfl, e1, List.mem_cons_self⟩
        | succ i =>
          obtain ⟨s', d', a, b, c'⟩ := h2 i q' h
          exact ⟨s', d', a, b, List.mem_cons_of_mem _ c'⟩
section
variable {P : Program} {w : World} {K : PySem.W.Frag} {mg : Str → Option Value} {base : Heap} {C : Addr}
theorem scFSig : FnScope nFSig ["self"] (defScope sFSig) := ⟨rfl, rfl, rfl, by decide +kernel, rfl, by decide +kernel, by decide +kernel⟩
theorem ok_fSig {f : Addr} {fd : FuncData} (F : Fun K "signs" "Form.signs" sFSig f fd) (T : Fc K C) (O : On mg) : FnOk P w K mg base CX0 1 f fd ["self"] (spFSig C) := by
  refine F.ok scFSig (fun vs H Q E h => ?_) (fun cdv A outer s H vs Q E hr h => ?_)
  · obtain ⟨x, m, rfl, _⟩ := h
    rfl
  · have hu : A.units + 3 + 60 < cLine := by
      have h2 : A.units + 3 + 16 * 0 + 200 < cLine := hr.un
      omega
    obtain ⟨x, m, rfl, ⟨dx, t, hx, hm⟩, wf, lm, l5, q⟩ := h
    refine ⟨_, pss_one (ps_ret (pe_callTy call_tuple_of (by rfl) O.tuple (by decide +kernel) (pa_cons (pe_callB (cr_sortedSX rfl hu) (by rfl) O.sorted (by decide +kernel) (pa_cons (pe_callTy (cr_setLX rfl) (by rfl) O.set (by decide +kernel) (pa_cons
        (pe_lockL (pe_lc2 (own := [("moves", 1), ("_", 2), ("sign", 3)]) (vs1 := [3]) (g := gTup K 2 (gCons (gName 1) (gCons (gName 2) gNil))) (g1 := gName 3) (tt := tYes) (tt1 := tYes) (wi1 := iKeys (tVar 1)) rfl scFSig.nd (pi_tup (pe_fld (pv 0) rfl)) (blkOk_by (N := nFSig) (sc := defScope sFSig) (by decide +kernel)) (by decide)
          (fun _ _ _ _ _ => pg_tup rfl (pgs_cons (pg_name (i := 1) scFSig.nd rfl (Or.inl rfl)) (pgs_cons (pg_name (i := 2) scFSig.nd rfl (Or.inl rfl)) pgs_nil))) (fun _ _ _ _ _ => pts_nil) (fun _ _ _ _ _ => pi_keys (pv 1)) (fun _ _ _ _ _ => pg_name (i := 3) scFSig.nd rfl (Or.inl rfl))
          (fun _ _ _ _ _ => pts_nil) (fun _ _ _ _ _ => pv 3))) pa_nil)) pa_nil)) pa_nil))), ?_⟩
    have lt1 : ∀ {n : Nat}, n ≤ 3999 → n < sizeLine := fun h1 => by rw [sizeLine_eq]; omega
    obtain ⟨ss, et, pt⟩ := id hm
    have ls : ss.length = m.length := Paired.length pt
    obtain ⟨ds, hds, nd, hst⟩ := dicts_of pt
    refine ⟨ds, fun p hp => ?_, nd, fun ods => ?_⟩
    · obtain ⟨a, t', e⟩ := hds p hp
      rw [e] at a ⊢
      exact ⟨a, trivial⟩
    have kF : ∀ {b : Addr} {o : HO}, (∀ t : PTab, o ≠ .dK (kvsP t)) → H b = some o → frzL ds ods H b = some o := fun {b o} n e => by
      rw [frzL_out fun c => ?_]
      · exact e
      · obtain ⟨p, hp, rfl⟩ := List.mem_map.mp c
        obtain ⟨a, t', e'⟩ := hds p hp
        rw [e, e'] at a
        exact n t' (Option.some.inj a)
    have iF : ∀ p ∈ ds, frzL ds ods H p.1 = some (.frz (ods p.1) p.2) := fun p hp => frzL_in nd hp
    have oF : ∀ b o, b ∉ ds.map (·.1) → H b = some o → frzL ds ods H b = some o := fun b o n e => (frzL_out n).trans e
    have hxF := kF (fun _ z => HO.noConfusion z) hx
    have etF := kF (fun _ z => HO.noConfusion z) et
    have stF : ∀ (i : Nat) (q : PTab × Bool), m[i]? = some q → ∃ s d, ss[i]? = some s ∧ frzL ds ods H s = some (.tup [.ref d, .bl q.2]) ∧ frzL ds ods H d = some (.frz (ods d) (.dK (kvsP q.1))) := fun i q h => by
      obtain ⟨s, d, a, b, c⟩ := hst i q h
      exact ⟨s, d, a, kF (fun _ z => HO.noConfusion z) b, iF _ c⟩
    generalize frzL ds ods H = HL at kF iF oF hxF etF stF ⊢
    refine ⟨_, rfl, x, C, dx, _, _, rfl, hxF, T.cl, T.n, fld_st t, t, rfl, ⟨_, SqT.of etF⟩, fun D hD => wk_any (walk_tup (K := K) (a := t) (xs := ss.map V.ref)) (fun i H1 => Same HL H1 ∧ H1 D = some (.lst ((sgM (m.take i)).map V.str))) ⟨Same.new hD, upd_same⟩ (fun i H1 _ h1 => SqT.of (h1.1 _ _ etF)) ?_ ?_⟩
    · rintro i y H1 H2 hi ⟨s1, e1⟩ ⟨rfl, hy⟩
      rw [List.length_map] at hi
      have hi2 : i < m.length := by omega
      obtain ⟨s, d, hs, g1, g2⟩ := stF i m[i] (List.getElem?_eq_getElem hi2)
      obtain rfl : V.ref s = y := by
        rw [List.getElem?_map, hs] at hy
        exact Option.some.inj hy
      have lq := l5 _ (List.getElem_mem hi2)
      have ll : (sgM (m.take i)).length ≤ 40 * 5 := by
        have := flat_len (fun q : PTab × Bool => (q.1.map (·.1)).take 5) 5 (fun q => by rw [List.length_take]; omega) (m.take i)
        have e : (m.take i).flatMap (fun q => (q.1.map (·.1)).take 5) = sgM (m.take i) := by
          unfold sgM
          have : ∀ l : List (PTab × Bool), (∀ q ∈ l, q ∈ m) → l.flatMap (fun q => (q.1.map (·.1)).take 5) = l.flatMap fun q => q.1.map (·.1) := by
            intro l
            induction l with
            | nil => intro _; rfl
            | cons a l ih =>
              intro h
              rw [List.flatMap_cons, List.flatMap_cons, ih fun q hq => h q (List.mem_cons_of_mem _ hq), List.take_of_length_le (by rw [List.length_map]; exact l5 a (h a List.mem_cons_self))]
          exact this _ fun q hq => List.mem_of_mem_take hq
        rw [e, List.length_take] at this
        have h2 : min i m.length * 5 ≤ 40 * 5 := Nat.mul_le_mul_right _ (by omega)
        omega
      have nx : sgM (m.take (i + 1)) = sgM (m.take i) ++ (m[i]).1.map (·.1) := by
        unfold sgM
        rw [List.take_add_one, List.getElem?_eq_getElem hi2, List.flatMap_append]
        simp
      rw [nx]
      generalize m[i] = qq at lq g1 g2 ⊢
      obtain ⟨mv, la⟩ := qq
      have lq : mv.length ≤ 5 := lq
      refine ⟨s, _, rfl, SqT.of (s1 _ _ g1), rfl, _, _, rfl, _, _, rfl, rfl, rfl, ?_⟩
      refine ⟨_, rfl, d, ods d, rfl, .inl ⟨kvsP mv, s1 _ _ g2, wk_any (walk_keys (d := d) (o := ods d) (kvs := kvsP mv)) (fun j H3 => Same HL H3 ∧ H3 D = some (.lst ((sgM (m.take i) ++ (mv.map (·.1)).take j).map V.str))) ⟨s1, by rw [List.take_zero, List.append_nil]; exact e1⟩ (fun j H3 _ h3 => h3.1 _ _ g2) ?_ ?_⟩⟩
      · rintro j y H3 H4 hj ⟨s3, e3⟩ ⟨rfl, ky, vv, hx', rfl⟩
        have hj2 : j < mv.length := by rwa [kvsP_len] at hj
        rw [kvsP_at hj2] at hx'
        cases hx'
        refine ⟨rfl, _, rfl, _, e3, lt1 (by rw [List.length_map, List.length_append, List.length_take, List.length_map]; omega), Same.upN s3 hD, ?_⟩
        rw [upd_same, List.take_add_one, List.getElem?_map, List.getElem?_eq_getElem hj2, ← List.append_assoc, List.map_append (l₂ := (Option.map _ _).toList)]
        rfl
      · rintro H3 ⟨s3, e3⟩
        rw [kvsP_len, ← List.length_map (f := (·.1)), List.take_length] at e3
        exact ⟨s3, e3⟩
    rintro H1 ⟨s1, e1⟩
    rw [List.length_map, ls, List.take_length] at e1
    refine ⟨fun p hp => s1 _ _ (iF p hp), ?_⟩
    have nD : D ∉ ds.map (·.1) := fun c => by
      obtain ⟨p, hp, rfl⟩ := List.mem_map.mp c
      rw [iF p hp] at hD
      cases hD
    have back : Same H (unfL ds H1) := unfL_same nd (fun p hp => (hds p hp).1) fun b o n e => s1 _ _ (oF b o n e)
    have e2 : unfL ds H1 D = some (.lst ((sgM m).map V.str)) := (unfL_out nD).trans e1
    generalize unfL ds H1 = H2 at back e2 ⊢
    have lsg : (sgM m).length ≤ 200 := by
      have : ∀ l : List (PTab × Bool), (∀ q ∈ l, q ∈ m) → (sgM l).length ≤ l.length * 5 := by
        intro l
        induction l with
        | nil => intro _; exact Nat.le_refl _
        | cons a l ih =>
          intro h
          unfold sgM at ih ⊢
          rw [List.flatMap_cons, List.length_append, List.length_map, List.length_cons, Nat.add_mul]
          have := ih fun q hq => h q (List.mem_cons_of_mem _ hq)
          have := l5 a (h a List.mem_cons_self)
          omega
      have := this m fun _ h => h
      omega
    have hb : ∀ {n : Nat}, n ≤ 300 → n + 1 < scanBound := fun h => by unfold scanBound; omega
    refine ⟨D, sgM m, rfl, SqL.of e2, hb (by omega), fun p l hp ndl hl ll => ?_⟩
    refine ⟨p, l, rfl, upd_same, Nat.lt_of_succ_lt (hb (by omega)), fun ys p2 perm hp2 => ?_⟩
    refine ⟨p2, _, rfl, .inl ⟨SqL.of upd_same, fun r hr2 => ?_⟩⟩
    have s3 := (back.trans (Same.new (o := SetSO P w p l) hp)).trans (Same.new (o := .lst ((ys.mergeSort byCs).map V.str)) hp2)
    have pm := List.mergeSort_perm ys byCs
    refine q _ r _ (s3.trans (Same.new hr2)) (s3.free hr2) upd_same ((pm.trans perm).nodup_iff.mpr ndl) ?_ fun z => ?_
    · exact List.pairwise_mergeSort byCs_trans byCs_total ys
    · rw [(pm.trans perm).mem_iff]
      exact hl z
end
end Mk

set_option Elab.async false
set_option linter.all false
set_option maxRecDepth 100000
set_option maxHeartbeats 2000000
/-! values in all places; what is raised for them: the checks -/
namespace Mk
open PySem PySem.Spec L2 PyProof.Rows

abbrev sChkT : Stmt := top 44
section
variable {P : Program} {w : World} {K : PySem.W.Frag} {mg : Str → Option Value} {base : Heap} {C CB CP CF : Addr} {a : Eb}
end
end Mk

set_option Elab.async false
set_option linter.all false
set_option maxRecDepth 100000
set_option maxHeartbeats 2000000
/-! what is raised: check_treated and the defs about rows -/
namespace Mk
open PySem PySem.Spec L2 PyProof.Rows

abbrev sRowOf : Stmt := top 81
abbrev nTreat : List Str := ["forms", "prices", "signs", "form"]
def hasT (t1 : PTab) (zs : List Str) : Bool := zs.all fun y => decide (y ∈ t1.map (·.1))
theorem hasT_congr {t1 : PTab} {zs ys : List Str} (h : ∀ z, z ∈ zs ↔ z ∈ ys) : hasT t1 zs = hasT t1 ys := by
  unfold hasT
  rw [Bool.eq_iff_iff, List.all_eq_true, List.all_eq_true]
  exact ⟨fun a x hx => a x ((h x).mpr hx), fun a x hx => a x ((h x).mp hx)⟩
def spHaveT (C : Addr) : Sp := fun vs H Q _ => ∃ (x t : Addr) (zs : List Str) (t1 t2 : PTab) (t3 : STab), vs = [.ref x, .ref t] ∧ PrAt C H x t1 t2 t3 ∧ (∀ p ∈ t1, sgB p.1 = true) ∧ H t = some (.tup (zs.map V.str)) ∧ zs.length ≤ 3000 ∧ (∀ z ∈ zs, sgB z = true) ∧ ∀ H', Same H H' → Q (.bl (hasT t1 zs)) H'
section
variable {P : Program} {w : World} {K : PySem.W.Frag} {mg : Str → Option Value} {base : Heap} {C CB CP CF CR : Addr} {a : Eb}
theorem ok_haveT {f g : Addr} {fd fdg : FuncData} (F : Fun K "have_signs" "have_signs" sHave f fd) (O : On mg) (D : OwnD K C g "__contains__") (G : FnOk P w K mg base CX0 1 g fdg ["self", "value"] (spCont K C)) (hb : Binds K fdg ["self", "value"] []) : FnOk P w K mg base CX0 2 f fd ["prices", "signs"] (spHaveT C) := by
  refine F.ok scHave (fun vs H Q E h => ?_) (fun cdv A outer s H vs Q E hr h => ?_)
  · obtain ⟨x, t, zs, t1, t2, t3, rfl, _⟩ := h
    rfl
  · obtain ⟨x, t, zs, t1, t2, t3, rfl, hx, sg, ht, hl, hz, q⟩ := h
    refine ⟨_, pss_one (ps_ret (pe_callB (cr_all rfl) (by rfl) O.all (by decide +kernel) (pa_cons (pe_lc (own := [("sign", 2)]) (g := gName 2) (tt := tYes) rfl scHave.nd (pi_tup (pv 1)) (blkOk_by (N := ["prices", "signs", "sign"]) (sc := defScope sHave) (by decide +kernel))
          (fun _ _ _ _ _ => pg_name (i := 2) scHave.nd rfl (Or.inl rfl)) (fun _ _ _ _ _ => pts_nil) (fun _ _ _ _ _ => pe_cmpR (op_in_own (n := 1) ⟨g, fdg, D, G, hb⟩ hr) (pv 2) (pv 0) (by rfl))) pa_nil))), ?_⟩
    have lt1 : ∀ {n : Nat}, n ≤ 3999 → n < sizeLine := fun h1 => by rw [sizeLine_eq]; omega
    refine ⟨_, rfl, t, rfl, ⟨_, SqT.of ht⟩, fun D0 hD => wk_any (walk_tup (K := K) (a := t) (xs := zs.map V.str)) (fun i H2 => Same H H2 ∧ H2 D0 = some (.lst (((zs.take i).map fun y => decide (y ∈ t1.map (·.1))).map V.bl))) ⟨Same.new hD, upd_same⟩ (fun i H2 _ h2 => SqT.of (h2.1 _ _ ht)) ?_ ?_⟩
    · rintro i y H2 H3 hi ⟨hS, hL⟩ ⟨rfl, hy⟩
      rw [List.length_map] at hi
      obtain rfl : V.str zs[i] = y := by
        rw [List.getElem?_map, List.getElem?_eq_getElem hi] at hy
        exact Option.some.inj hy
      obtain ⟨dx, t', a, b, e, hx0, _⟩ := id (hx.same hS)
      have okz : PyData.strOk zs[i] = true := sgB_ok (hz _ (List.getElem_mem hi))
      refine ⟨rfl, _, rfl, _, rfl, x, dx, _, rfl, hx0, x, V.str zs[i], PyData.str zs[i], t1, t2, t3, rfl, hx.same hS, sg, .of (.str _) (by simp [SeqAt.shaped, PyData.canLay0, PyData.depth, okz]), _, rfl, _, hL, ?_, Same.upN hS hD, ?_⟩
      · exact lt1 (by rw [List.length_map, List.length_map, List.length_take]; omega)
      · rw [upd_same, List.take_add_one, List.getElem?_eq_getElem hi, List.map_append, List.map_append]
        rfl
    rintro H2 ⟨hS, hL⟩
    rw [List.length_map, List.take_length] at hL
    refine ⟨_, _, rfl, SqL.of hL, ?_⟩
    have ea : ((zs.map fun y => decide (y ∈ t1.map (·.1))).all id) = hasT t1 zs := by
      unfold hasT
      rw [List.all_map]
      rfl
    rw [ea]
    exact q _ hS
theorem scTreat : FnScope nTreat ["forms", "prices", "signs"] (defScope sChkT) := ⟨rfl, rfl, rfl, by decide +kernel, rfl, by decide +kernel, by decide +kernel⟩
theorem scRowOf : FnScope ["target", "prices", "word"] ["target", "prices", "word"] (defScope sRowOf) := ⟨rfl, rfl, rfl, by decide +kernel, rfl, by decide +kernel, by decide +kernel⟩
end
end Mk

set_option Elab.async false
set_option linter.all false
set_option maxRecDepth 100000
set_option maxHeartbeats 2000000
/-! several except clauses, some of them with a name -/
namespace Mk
open PySem PySem.Spec PyProof.Rows L2

section
variable {X : Cx} {body : List Stmt} {h₀ : ExceptHandler} {hds : List ExceptHandler} {l : List Cls9} {pos : Pos} {tb : WX → TS} {Wout : WX}
end
end Mk

set_option Elab.async false
set_option linter.all false
set_option maxRecDepth 100000
set_option maxHeartbeats 2000000
/-! the word of the error of a call -/
namespace Mk
open PySem PySem.Spec L2 PyProof.Rows

end Mk

set_option Elab.async false
set_option linter.all false
set_option maxRecDepth 100000
set_option maxHeartbeats 4000000
/-! the law's prices -/
namespace Mk
open PySem PySem.Spec L2 PyProof.Rows

abbrev sPP : Stmt := top 98
abbrev sLPr : Stmt := top 99
abbrev nPP : List Str := ["_law_urn_here", "_law_signs", "_law_most", "_law_puts", "_law_outs", "_law_swaps", "_law_one", "_law_other", "_law_sign"]
section
variable {P : Program} {w : World} {K : PySem.W.Frag} {mg : Str → Option Value} {base : Heap}
theorem scPP : FnScope nPP ["_law_urn_here", "_law_signs", "_law_most"] (defScope sPP) := ⟨rfl, rfl, rfl, by decide +kernel, rfl, by decide +kernel, by decide +kernel⟩
theorem scLPr : FnScope ["_law_plain"] ["_law_plain"] (defScope sLPr) := ⟨rfl, rfl, rfl, by decide +kernel, rfl, by decide +kernel, by decide +kernel⟩
theorem ok_lPr {f fi C : Addr} {fd fdi : FuncData} (F : Fun K "_law_prices" "_law_prices" sLPr f fd) (M : L2.Mk K C fi) (FI : Fun K "__init__" "Prices.__init__" sInit fi fdi) (I : FnOk P w K mg base CX0 6 fi fdi ["self", "put", "out", "swap"] (spInit C)) (mgC : mg "Prices" = some (.ref C)) : FnOk P w K mg base CX0 8 f fd ["_law_plain"] (spMade C) := by
  refine F.ok scLPr (fun vs H Q E h => ?_) (fun cdv A outer s H vs Q E hr h => ?_)
  · obtain ⟨L, a, b, c, t1, t2, t3, rfl, _⟩ := h
    rfl
  · obtain ⟨L, a, b, c, t1, t2, t3, rfl, r, rt, q⟩ := h
    refine ⟨_, pss_one (ps_ret (pe_makeK0 M I hr (by rfl) mgC (kbn_init FI) pass0 (pk_cons (pe_ix ix_list (pv 0) pe_int (fun _ _ => rfl)) (pk_cons (pe_ix ix_list (pv 0) pe_int (fun _ _ => rfl)) (pk_cons (pe_ix ix_list (pv 0) pe_int (fun _ _ => rfl)) pk_nil))))), ?_⟩
    refine ⟨_, rfl, L, _, _, _, rfl, rfl, SqL.of r.l, atI_nat (j := 0) rfl, _, rfl, L, _, _, _, rfl, rfl, SqL.of r.l, atI_nat (j := 1) rfl, _, rfl, L, _, _, _, rfl, rfl, SqL.of r.l, atI_nat (j := 2) rfl, rfl, rfl, fun y dy hy hdy ne => ?_⟩
    have sN : Same H (upd (upd H dy (.own y)) y (.ins C dy [])) := fun b o e => by
      rw [upd_ne (ne_of_none e hy), upd_ne (ne_of_none e hdy)]
      exact e
    refine ⟨y, dy, a, b, c, _, _, _, rfl, upd_same, r.t.same sN, rt.ag, rt.nd, rt.rt, fun H9 u1 u2 u3 b9 pr k1 k2 k3 sr9 => ⟨rfl, ?_⟩⟩
    refine q _ y u1 u2 u3 (fun b o e => ?_) hy pr k1 k2 k3 sr9
    exact b9 _ _ (ne_of_none e hy) (sN _ _ e)
end
end Mk

set_option Elab.async false
set_option linter.all false
set_option maxRecDepth 100000
set_option maxHeartbeats 4000000
/-! the law's closed prices: the def -/
namespace Mk
open PySem PySem.Spec L2 PyProof.Rows

abbrev sCld : Stmt := top 100
abbrev nCld : List Str := ["_law_plain", "_law_found", "_law_nodes", "_law_sign", "_law_turn", "_law_one", "_law_middle", "_law_other", "_law_price_here"]
structure WyS (H0 H1 : Hp) (c : Addr) (D : STab) : Prop where
  same : ∀ b o, b ≠ c → H0 b = some o → H1 b = some o
  out : H1 c = some (.dT (kvsS D))
theorem WyS.new {H0 H1 : Hp} {c t : Addr} {D : STab} {o : HO} (W : WyS H0 H1 c D) (ht : H1 t = none) : WyS H0 (upd H1 t o) c D :=
  ⟨fun b u n e => (upd_ne (ne_of_none (W.same b u n e) ht)).trans (W.same b u n e), (upd_ne (ne_of_none W.out ht)).trans W.out⟩
theorem kvsP_inj : ∀ {t u : PTab}, kvsP t = kvsP u → t = u
  | [], [], _ => rfl
  | [], _ :: _, h => by cases h
  | _ :: _, [], h => by cases h
  | (z, i) :: t, (y, j) :: u, h => by
    have h' : ((Sum.inr z : Key), V.int i) :: kvsP t = ((Sum.inr y : Key), V.int j) :: kvsP u := h
    injection h' with h1 h2
    injection h1 with h3 h4
    injection h3 with h3
    injection h4 with h4
    rw [h3, h4, kvsP_inj h2]
theorem WyS.trans {H0 H1 H2 : Hp} {c : Addr} {D D' : STab} (W : WyS H0 H1 c D) (W' : WyS H1 H2 c D') : WyS H0 H2 c D' := ⟨fun b o n e => W'.same b o n (W.same b o n e), W'.out⟩
theorem isSome_S (t : STab) (k : Str × Str) : (valV (kvsS t) (keyOf k)).isSome = decide (k ∈ t.map (·.1)) := by
  by_cases m : k ∈ t.map (·.1)
  · rw [valS m, decide_eq_true m]
    rfl
  · rw [noS m, decide_eq_false m]
    rfl
theorem WyS.dg {H0 H1 : Hp} {c q : Addr} {D : STab} {x y : Str} (W : WyS H0 H1 c D) (e : H1 q = some (.tup [.str x, .str y])) : DGet H1 c (.ref q) (valV (kvsS D) (keyOf (x, y))) := .inr ⟨kvsS D, keyOf (x, y), _, .inl W.out, rfl, e, rfl⟩
theorem WyS.get {H0 H1 : Hp} {c t : Addr} {D : STab} {x y : Str} (W : WyS H0 H1 c D) (ht : H1 t = none) (hk : (x, y) ∈ D.map (·.1)) : DGet (upd H1 t (.tup [.str x, .str y])) c (.ref t) (some (V.int (look D (x, y)))) := by
  rw [← valS hk]
  exact (W.new ht).dg upd_same
/-- all keys are pairs of places, each once -/
structure KS (P : List Str) (D : STab) : Prop where
  nd : (kys D).Nodup
  rg : ∀ q ∈ kys D, q.1 ∈ P ∧ q.2 ∈ P
theorem KS.len {P : List Str} {D : STab} (h : KS P D) : D.length ≤ P.length * P.length := by
  have := nd_len h.nd (k := P.flatMap fun x => P.map fun y => (x, y)) fun q hq => by
    obtain ⟨a, b⟩ := h.rg q hq
    exact List.mem_flatMap.mpr ⟨_, a, List.mem_map.mpr ⟨_, b, rfl⟩⟩
  rw [List.length_map] at this
  have e : ∀ l : List Str, (l.flatMap fun x => P.map fun y => (x, y)).length = l.length * P.length := by
    intro l
    induction l with
    | nil => simp
    | cons a l ih => rw [List.flatMap_cons, List.length_append, List.length_map, ih, List.length_cons, Nat.add_mul]; omega
  rwa [e] at this
theorem KS.set {P : List Str} {D : STab} (h : KS P D) {x y : Str} {i : Int} (hx : x ∈ P) (hy : y ∈ P) : KS P (setT D (x, y) i) := ⟨setT_nd h.nd, fun q hq => by
  rcases (keys_setT _ _ _ _).mp hq with hq | rfl
  · exact h.rg q hq
  · exact ⟨hx, hy⟩⟩
theorem KS.clO {P : List Str} {D : STab} (h : KS P D) {k : Str × Str} {o : Str} (hk : k.1 ∈ P) (ho : o ∈ P) : KS P (clO k D o) := by
  unfold Mk.clO
  split
  · exact h.set hk ho
  · exact h
def spCld : Sp := fun vs H Q _ => ∃ (L a b c : Addr) (t1 t2 : PTab) (t3 : STab), vs = [.ref L] ∧ Rec H L a b c t1 t2 t3 ∧ RtT t1 t2 t3 ∧
  ∀ H' d D, Same H H' → H d = none → H' d = some (.dT (kvsS D)) → (∀ x ∈ plc t1, ∀ y ∈ plc t1, y ≠ x → vl D (x, y) = some (cc t1 t2 t3 x y)) → Q (.ref d) H'
section
variable {P : Program} {w : World} {K : PySem.W.Frag} {mg : Str → Option Value} {base : Heap}
theorem scCld : FnScope nCld ["_law_plain"] (defScope sCld) := ⟨rfl, rfl, rfl, by decide +kernel, rfl, by decide +kernel, by decide +kernel⟩
theorem ok_cld {f : Addr} {fd : FuncData} (F : Fun K "_law_closed" "_law_closed" sCld f fd) (B : Bn mg) (O : On mg) (Dd : Dn mg) : FnOk P w K mg base CX0 1 f fd ["_law_plain"] spCld := by
  refine F.ok scCld (fun vs H Q E h => ?_) (fun cdv A outer s H vs Q E hr h => ?_)
  · obtain ⟨L, a, b, c, t1, t2, t3, rfl, _⟩ := h
    rfl
  · have hu := hu_of hr
    have hu8 : A.units + 3 + 8 < cLine := by
      have h2 : A.units + 3 + 16 * 0 + 200 < cLine := hr.un
      omega
    obtain ⟨L, a, b, c, t1, t2, t3, rfl, r, R, q⟩ := h
    refine ⟨_, pss_cons (ps_par (i := 1) (j := 2) rfl scCld.nd rfl rfl (by decide) rfl rfl (pa_cons (pe_callTy (call_dictPT rfl hu8) (by rfl) Dd.dict (by decide +kernel) (pa_cons (pe_callTy (call_listItms rfl) (by rfl) B.list (by decide +kernel) (pa_cons (pe_bm0 PySem.F.plainAttrs_dict PySem.F.slot_dict_items PySem.F.type_dict_items mt_itms (pe_ix ix_list (pv 0) pe_int (fun _ _ => rfl))) pa_nil)) pa_nil))
          (pa_cons (pe_op op_cat (pe_lst (pa_cons pe_str pa_nil)) (pe_callB (call_sortedD rfl) (by rfl) O.sorted (by decide +kernel) (pa_cons (pe_ix ix_list (pv 0) pe_int (fun _ _ => rfl)) pa_nil))) pa_nil)) (by rfl))
      (pss_cons (ps_lock (ps_for PassesOwn.never rfl (pi_keys (pe_ix ix_list (pv 0) pe_int (fun _ _ => rfl))) (pg_name (i := 3) scCld.nd rfl (.inl rfl))
        (pss_cons (ps_dput hu (pv 1) (pe_tup (pa_cons pe_str (pa_cons (pv 3) pa_nil))) (pe_dget hu (pe_ix ix_list (pv 0) pe_int (fun _ _ => rfl)) (pv 3) (fun _ _ => rfl)) rfl)
        (pss_one (ps_dput hu (pv 1) (pe_tup (pa_cons (pv 3) (pa_cons pe_str pa_nil))) (pe_dget hu (pe_ix ix_list (pv 0) pe_int (fun _ _ => rfl)) (pv 3) (fun _ _ => rfl)) rfl)))))
      (pss_cons (ps_for PassesOwn.never rfl (pi_range1 (by rfl) B.range (pa_cons (pe_callB call_len_seq (by rfl) B.len PySem.boot_len (pa_cons (pv 2) pa_nil)) pa_nil)) (pg_name (i := 4) scCld.nd rfl (.inl rfl))
        (pss_one (ps_for PassesOwn.never rfl (pi_list (pe_callTy (call_list_dT rfl) (by rfl) B.list (by decide +kernel) (pa_cons (pv 1) pa_nil))) (pg_tup rfl (pgs_cons (pg_name (i := 5) scCld.nd rfl (.inl rfl)) (pgs_cons (pg_name (i := 6) scCld.nd rfl (.inl rfl)) pgs_nil)))
          (pss_one (ps_for PassesOwn.never rfl (pi_list (pv 2)) (pg_name (i := 7) scCld.nd rfl (.inl rfl))
            (pss_one (ps_if (PW.pt (pw_and (pt_cmpR op_ne (pv 7) (pv 5) (nomark _)) (pw_and1 (pt_cmp (pc_din hu (pe_tup (pa_cons (pv 6) (pa_cons (pv 7) pa_nil))) (pv 1))))))
              (pss_cons (ps_set (i := 8) scCld.nd rfl (.inl rfl) (pe_op op_add (pe_dget hu (pv 1) (pe_tup (pa_cons (pv 5) (pa_cons (pv 6) pa_nil))) (fun _ _ => rfl)) (pe_dget hu (pv 1) (pe_tup (pa_cons (pv 6) (pa_cons (pv 7) pa_nil))) (fun _ _ => rfl))))
              (pss_one (ps_dput hu (pv 1) (pe_tup (pa_cons (pv 5) (pa_cons (pv 7) pa_nil))) (pe_callB (call_min2 rfl) (by rfl) B.min (by decide +kernel) (pa_cons (pv 8) (pa_cons (pe_dget2 hu (pv 1) (pe_tup (pa_cons (pv 5) (pa_cons (pv 7) pa_nil))) (pv 8) ⟨rfl, rfl, rfl, rfl⟩) pa_nil))) rfl))) pss_nil)))))))
      (pss_one (ps_ret (pv 1))))), ?_⟩
    have n2 : 2 ≤ sizeLine := by decide
    have hl1 := R.ag.l1
    have hl3 := R.ag.l3
    have n0 := em_not R.ag
    have nar : ∀ {n : Nat}, n ≤ 3999 → n ≤ sizeLine := fun h1 => by rw [sizeLine_eq]; omega
    have lt1 : ∀ {n : Nat}, n ≤ 3999 → n < sizeLine := fun h1 => by rw [sizeLine_eq]; omega
    -- the copy, the places
    refine ⟨_, rfl, L, _, _, _, rfl, rfl, SqL.of r.l, atI_nat (j := 2) rfl, .inr (.inr (.inl ⟨rfl, .inr ⟨_, r.t.s⟩⟩)), _, rfl, rfl, .inr ⟨_, r.t.s⟩, fun p hp => ?_⟩
    refine ⟨p, _, rfl, upd_same, .inr ⟨kvsS t3, (Same.new hp) _ _ r.t.s, fun H3 l ts qs s3 l0 ik hl pr => ?_⟩⟩
    refine ⟨l, ts, kvsS t3, rfl, SqL.of hl, itms_T (_root_.L2.Paired.mapP ik fun _ _ e => s3 _ _ e) pr, kvsS_nd R.nd, fun d hd => ?_⟩
    have s4 : Same H (upd H3 d (.dT (kvsS t3))) := Same.trans (Same.trans (Same.new hp) s3) (Same.new hd)
    have ed : (upd H3 d (.dT (kvsS t3))) d = some (.dT (kvsS t3)) := upd_same
    have d0 : H d = none := (Same.trans (Same.new hp) s3).free hd
    generalize upd H3 d (.dT (kvsS t3)) = H4 at s4 ed ⊢
    clear hd pr hl ik l0 s3 hp ts qs l H3 p
    refine ⟨(by decide : 1 ≤ sizeLine), fun e1 he1 => ?_⟩
    have s5 := s4.trans (Same.new (o := .lst [V.str ""]) he1)
    have ed5 := (Same.new (o := .lst [V.str ""]) he1) _ _ ed
    have ee1 : (upd H4 e1 (.lst [V.str ""])) e1 = some (.lst [V.str ""]) := upd_same
    generalize upd H4 e1 (.lst [V.str ""]) = H5 at s5 ed5 ee1 ⊢
    refine ⟨_, rfl, L, _, _, _, rfl, rfl, SqL.of (s5 _ _ r.l), atI_nat (j := 0) rfl, a, kvsP t1, t1.map (·.1), rfl, .inl (s5 _ _ r.t.p), kvsP_keys t1, by rw [List.length_map]; omega, fun ys p perm so hp => ?_⟩
    have lys : ys.length = t1.length := by rw [perm.length_eq, List.length_map]
    refine ⟨e1, p, _, _, rfl, rfl, (Same.new hp) _ _ ee1, upd_same, nar (by rw [List.length_map]; show 1 + ys.length ≤ 3999; omega), fun N hN => ⟨_, _, rfl, ?_⟩⟩
    have s6 := (s5.trans (Same.new (o := .lst (ys.map V.str)) hp)).trans (Same.new (o := .lst ([V.str ""] ++ ys.map V.str)) hN)
    have ed6 := (Same.new (o := .lst ([V.str ""] ++ ys.map V.str)) hN) _ _ ((Same.new (o := .lst (ys.map V.str)) hp) _ _ ed5)
    have eN : (upd (upd H5 p (.lst (ys.map V.str))) N (.lst ([V.str ""] ++ ys.map V.str))) N = some (.lst ((("" : Str) :: ys).map V.str)) := upd_same
    generalize upd (upd H5 p (.lst (ys.map V.str))) N (.lst ([V.str ""] ++ ys.map V.str)) = H6 at s6 ed6 eN ⊢
    clear hN hp ee1 ed5 s5 he1 ed s4 H4 H5 p e1
    have Na : N ≠ a := fun z => by
      rw [z, s6 _ _ r.t.p] at eN
      cases eN
    have Nd : N ≠ d := fun z => by
      rw [z, ed6] at eN
      cases eN
    have ad : a ≠ d := ne_of_none r.t.p d0
    have bd : b ≠ d := ne_of_none r.t.o d0
    have Ld : L ≠ d := ne_of_none r.l d0
    have La : L ≠ a := fun z => by
      have := r.l
      rw [z, r.t.p] at this
      cases this
    have ba : (H6 b = some (.dK (kvsP t2))) := s6 _ _ r.t.o
    -- put and out prices
    refine ⟨a, _, s6 _ _ r.t.p, trivial, fun oa => ⟨_, rfl, L, _, _, _, rfl, rfl, SqL.of ((upd_ne La).trans (s6 _ _ r.l)), atI_nat (j := 0) rfl, a, oa, rfl, .inl ⟨kvsP t1, upd_same, ?_⟩⟩⟩
    have eA : (upd H6 a (.frz oa (.dK (kvsP t1)))) a = some (.frz oa (.dK (kvsP t1))) := upd_same
    have eD : (upd H6 a (.frz oa (.dK (kvsP t1)))) d = some (.dT (kvsS t3)) := (upd_ne ad.symm).trans ed6
    have eL : (upd H6 a (.frz oa (.dK (kvsP t1)))) L = some (.lst [.ref a, .ref b, .ref c]) := (upd_ne La).trans (s6 _ _ r.l)
    have eNf : (upd H6 a (.frz oa (.dK (kvsP t1)))) N = some (.lst ((("" : Str) :: ys).map V.str)) := (upd_ne Na).trans eN
    have getA : ∀ {H : Hp} {z : Str}, H a = some (.frz oa (.dK (kvsP t1))) → z ∈ t1.map (·.1) → DGet H a (.str z) (some (V.int (look t1 z))) := fun e hz => .inl ⟨kvsP t1, Sum.inr _, .inr ⟨oa, e⟩, rfl, (valP hz).symm⟩
    have zE : ∀ z ∈ t1.map (·.1), z ∈ t2.map (·.1) := fun z hz => R.ag.pm.mem_iff.mpr hz
    -- the second table may be the first one's dict
    have bget : ∀ {H' : Hp} {D : STab} {z : Str}, WyS (upd H6 a (.frz oa (.dK (kvsP t1)))) H' d D → z ∈ t1.map (·.1) → DGet H' b (.str z) (some (V.int (look t2 z))) := fun {H' D z} W hz => by
      by_cases e : b = a
      · subst e
        have e2 : t1 = t2 := by
          have := r.t.o.symm.trans r.t.p
          injection this with this
          injection this with this
          exact (kvsP_inj this).symm
        rw [← e2]
        exact getA (W.same _ _ bd eA) hz
      · exact .inl ⟨kvsP t2, Sum.inr z, .inl (W.same _ _ bd ((upd_ne e).trans ba)), rfl, (valP (zE z hz)).symm⟩
    have ks3 : KS (plc t1) t3 := ⟨R.nd, fun q hq => by
      obtain ⟨p, hp, rfl⟩ := List.mem_map.mp hq
      obtain ⟨x, y, _⟩ := R.ag.pr p hp
      exact ⟨List.mem_cons_of_mem _ x, List.mem_cons_of_mem _ y⟩⟩
    have lp : (plc t1).length ≤ 6 := by
      show (t1.map (·.1)).length + 1 ≤ 6
      rw [List.length_map]
      omega
    have lpp : (plc t1).length * (plc t1).length ≤ 36 := Nat.mul_le_mul lp lp
    refine for_it (walk_keys (d := a) (o := oa) (kvs := kvsP t1)) (fun j σ H4 => (∃ o3, σ = [some (.ref L), some (.ref d), some (.ref N), o3, none, none, none, none, none]) ∧ WyS (upd H6 a (.frz oa (.dK (kvsP t1)))) H4 d (((t1.map (·.1)).take j).foldl (clI t1 t2) t3) ∧ KS (plc t1) (((t1.map (·.1)).take j).foldl (clI t1 t2) t3)) ⟨⟨_, rfl⟩, ⟨fun _ _ _ e => e, eD⟩, ks3⟩ (fun j σ H4 _ h4 => h4.2.1.same _ _ ad eA) ?_ ?_
    · rintro j x σ H4 H5 hj ⟨⟨o3, rfl⟩, W, ks⟩ ⟨rfl, ky, vv, hx, rfl⟩
      have hj2 : j < t1.length := by rwa [kvsP_len] at hj
      rw [kvsP_at hj2] at hx
      cases hx
      have sm : t1[j].1 ∈ t1.map (·.1) := List.mem_map.mpr ⟨_, List.getElem_mem hj2, rfl⟩
      have tk : ((t1.map (·.1)).take (j + 1)).foldl (clI t1 t2) t3 = clI t1 t2 (((t1.map (·.1)).take j).foldl (clI t1 t2) t3) t1[j].1 := by
        rw [List.take_add_one, List.getElem?_map, List.getElem?_eq_getElem hj2, List.foldl_append]
        rfl
      rw [tk]
      generalize ((t1.map (·.1)).take j).foldl (clI t1 t2) t3 = D1 at W ks ⊢
      generalize t1[j].1 = z at sm ⊢
      clear tk
      have k1 := ks.len
      have z1 : z ∈ plc t1 := List.mem_cons_of_mem _ sm
      have em : ("" : Str) ∈ plc t1 := List.mem_cons_self
      refine ⟨_, rfl, L, _, _, _, rfl, rfl, SqL.of (W.same _ _ Ld eL), atI_nat (j := 0) rfl, _, rfl, a, _, rfl, getA (W.same _ _ ad eA) sm, _, rfl, _, rfl, n2, fun q1 hq1 => ?_⟩
      have W1 := W.new (o := .tup [V.str "", kV (Sum.inr z)]) hq1
      refine ⟨d, _, rfl, .inr ⟨kvsS D1, keyOf ("", z), q1, W1.out, rfl, upd_same, by rw [kvsS_len]; exact lt1 (by omega), rfl⟩, ?_⟩
      have W2 : WyS (upd H6 a (.frz oa (.dK (kvsP t1)))) (upd (upd H5 q1 (.tup [V.str "", kV (Sum.inr z)])) d (.dT (L2.putK (kvsS D1) (keyOf ("", z)) (V.int (look t1 z))))) d (setT D1 ("", z) (look t1 z)) := ⟨fun b o n e => (upd_ne n).trans (W1.same b o n e), by rw [upd_same, putS_set]⟩
      have ks2 := ks.set (i := look t1 z) em z1
      generalize upd (upd H5 q1 (.tup [V.str "", kV (Sum.inr z)])) d (.dT (L2.putK (kvsS D1) (keyOf ("", z)) (V.int (look t1 z)))) = H7 at W2 ⊢
      have k2 := ks2.len
      refine ⟨_, rfl, L, _, _, _, rfl, rfl, SqL.of (W2.same _ _ Ld eL), atI_nat (j := 1) rfl, _, rfl, b, _, rfl, bget W2 sm, _, rfl, _, rfl, n2, fun q2 hq2 => ?_⟩
      have W3 := W2.new (o := .tup [kV (Sum.inr z), V.str ""]) hq2
      refine ⟨d, _, rfl, .inr ⟨kvsS (setT D1 ("", z) (look t1 z)), keyOf (z, ""), q2, W3.out, rfl, upd_same, by rw [kvsS_len]; exact lt1 (by omega), rfl⟩, ⟨_, rfl⟩, ⟨fun b o n e => (upd_ne n).trans (W3.same b o n e), ?_⟩, ks2.set z1 em⟩
      rw [upd_same, putS_set]
      rfl
    rintro σ H7 ⟨⟨o3, rfl⟩, W, ks⟩
    rw [kvsP_len, ← List.length_map (f := (·.1)), List.take_length] at W ks
    refine ⟨W.same _ _ ad eA, ?_⟩
    have s7 : Same H (upd H7 a (.dK (kvsP t1))) := unlock_same s6 (s6 _ _ r.t.p) W.same d0
    have ed7 : (upd H7 a (.dK (kvsP t1))) d = some (.dT (kvsS (cl0 t1 t2 t3))) := (upd_ne ad.symm).trans W.out
    have eN7 : (upd H7 a (.dK (kvsP t1))) N = some (.lst ((("" : Str) :: ys).map V.str)) := (upd_ne Na).trans (W.same _ _ Nd eNf)
    have ks : KS (plc t1) (cl0 t1 t2 t3) := ks
    generalize upd H7 a (.dK (kvsP t1)) = H8 at s7 ed7 eN7 ⊢
    clear W eNf eL eD eA getA bget ba H7 ed6 s6 eN H6 oa
    have lP : (("" : Str) :: ys).length = t1.length + 1 := by rw [List.length_cons, lys]
    have mP : ∀ z, z ∈ ("" : Str) :: ys ↔ z ∈ plc t1 := fun z => by
      rw [List.mem_cons, List.mem_cons, perm.mem_iff]
    generalize hPP : ("" : Str) :: ys = PP at lP mP eN7 ⊢
    have fin := fun {x y : Str} (hx : x ∈ plc t1) (hy : y ∈ plc t1) (ne : y ≠ x) => clN_cc (P := PP) R (fun x h => (mP x).mpr h) (fun x h => (mP x).mp h) (n := t1.length + 1) (by omega) hx hy ne
    have lN : (PP.map V.str).length = t1.length + 1 := by rw [List.length_map, lP]
    have clKS : ∀ {D : STab} {k : Str × Str} (l : List Str), KS (plc t1) D → k.1 ∈ plc t1 → (∀ o ∈ l, o ∈ PP) → KS (plc t1) (l.foldl (clO k) D) := fun {D k} l h hk hl => foldl_ind (f := clO k) (l := l) (b := D) (fun _ D => KS (plc t1) D) h fun i hi D h => h.clO hk ((mP _).mp (hl _ (List.getElem_mem hi)))
    have cmKS : ∀ {D : STab} (l : List (Str × Str)), KS (plc t1) D → (∀ q ∈ l, q.1 ∈ plc t1) → KS (plc t1) (l.foldl (clK PP) D) := fun {D} l h hl => foldl_ind (f := clK PP) (l := l) (b := D) (fun _ D => KS (plc t1) D) h fun i hi D h => clKS PP h (hl _ (List.getElem_mem hi)) fun o ho => ho
    refine ⟨_, rfl, N, _, rfl, .inl (SqL.of eN7), _, rfl, ?_⟩
    rw [lN]
    refine ⟨by omega, by omega, for_it (walk_rg (n := t1.length + 1)) (fun k σ H9 => (∃ o3 o4 o5 o6 o7 o8, σ = [some (.ref L), some (.ref d), some (.ref N), o3, o4, o5, o6, o7, o8]) ∧ WyS H8 H9 d (clN PP (cl0 t1 t2 t3) k) ∧ KS (plc t1) (clN PP (cl0 t1 t2 t3) k)) ⟨⟨_, _, _, _, _, _, rfl⟩, ⟨fun _ _ _ e => e, ed7⟩, ks⟩ (fun _ _ _ _ _ => trivial) ?_ ?_⟩
    · rintro k x σ H9 H10 hk ⟨⟨o3, o4, o5, o6, o7, o8, rfl⟩, W, ks⟩ ⟨rfl, rfl⟩
      have nx : clN PP (cl0 t1 t2 t3) (k + 1) = (kys (clN PP (cl0 t1 t2 t3) k)).foldl (clK PP) (clN PP (cl0 t1 t2 t3) k) := rfl
      rw [nx]
      generalize clN PP (cl0 t1 t2 t3) k = D0 at W ks ⊢
      clear nx
      refine ⟨_, rfl, d, kvsS D0, rfl, .inl W.out, fun l bs hl ik0 => ⟨l, rfl, ⟨_, SqL.of upd_same⟩, ?_⟩⟩
      have W0 := W.new (o := .lst (bs.map V.ref)) hl
      have el : (upd H10 l (.lst (bs.map V.ref))) l = some (.lst (bs.map V.ref)) := upd_same
      have ik : IsKeys (upd H10 l (.lst (bs.map V.ref))) (kvsS D0) bs := _root_.L2.Paired.mapP ik0 fun _ _ e => (Same.new hl) _ _ e
      have ld : l ≠ d := fun z => by
        rw [z, W.out] at hl
        cases hl
      generalize upd H10 l (.lst (bs.map V.ref)) = H11 at W0 el ik ⊢
      clear W hl ik0 H10
      have lb : bs.length = (kys D0).length := by
        have := Paired.length ik
        rw [kvsS_len] at this
        rw [List.length_map]
        exact this.symm
      have kd : ∀ q ∈ kys D0, q.1 ∈ plc t1 := fun q hq => (ks.rg q hq).1
      refine for_it (walk_list (K := K) (a := l) (xs := bs.map V.ref)) (fun i σ H9 => (∃ o5 o6 o7 o8, σ = [some (.ref L), some (.ref d), some (.ref N), o3, some (.int (k : Nat)), o5, o6, o7, o8]) ∧ WyS H11 H9 d (((kys D0).take i).foldl (clK PP) D0)) ⟨⟨_, _, _, _, rfl⟩, ⟨fun _ _ _ e => e, W0.out⟩⟩ (fun i σ H9 _ h9 => SqL.of (h9.2.same _ _ ld el)) ?_ ?_
      · rintro i x σ H12 H13 hi ⟨⟨o5, o6, o7, o8, rfl⟩, W⟩ ⟨rfl, hx⟩
        rw [List.length_map] at hi
        have hik : i < (kys D0).length := by omega
        obtain rfl : V.ref bs[i] = x := by
          rw [List.getElem?_map, List.getElem?_eq_getElem hi] at hx
          exact Option.some.inj hx
        have iD : i < D0.length := by rwa [List.length_map] at hik
        have eb : H11 bs[i] = some (.tup [.str (kys D0)[i].1, .str (kys D0)[i].2]) := by
          have hz : (kvsS D0)[i]? = some (keyOf D0[i].1, V.int D0[i].2) := by
            unfold kvsS
            rw [List.getElem?_map, List.getElem?_eq_getElem iD]
            rfl
          obtain ⟨b', hb', fb⟩ := L2.paired_get ik hz
          rw [List.getElem?_eq_getElem hi] at hb'
          cases hb'
          rw [fb]
          have e1 : (kys D0)[i] = D0[i].1 := List.getElem_map ..
          rw [e1]
          rfl
        have kin : (kys D0)[i] ∈ kys D0 := List.getElem_mem hik
        have nx : ((kys D0).take (i + 1)).foldl (clK PP) D0 = clK PP (((kys D0).take i).foldl (clK PP) D0) (kys D0)[i] := by
          rw [List.take_add_one, List.getElem?_eq_getElem hik, List.foldl_append]
          rfl
        have ksi := cmKS ((kys D0).take i) ks fun q hq => kd q (List.mem_of_mem_take hq)
        have kyi : ∀ q, q ∈ kys D0 → q ∈ kys (((kys D0).take i).foldl (clK PP) D0) := fun q hq => foldl_ind (f := clK PP) (l := (kys D0).take i) (b := D0) (fun _ D => q ∈ kys D) hq fun j hj D h => foldl_ind (f := clO _) (l := PP) (b := D) (fun _ D => q ∈ kys D) h fun j hj D h => clO_key h
        rw [nx]
        have kin2 := kyi _ kin
        generalize ((kys D0).take i).foldl (clK PP) D0 = D1 at W ksi kin2 ⊢
        generalize (kys D0)[i] = kk at eb kin kin2 ⊢
        obtain ⟨one, mid⟩ := kk
        have one1 : one ∈ plc t1 := kd _ kin
        refine ⟨bs[i], _, rfl, SqT.of (W.same _ _ (fun z => ?_) eb), rfl, _, _, rfl, _, _, rfl, rfl, ?_⟩
        · rw [z, W0.out] at eb
          cases eb
        have eN9 : H11 N = some (.lst (PP.map V.str)) := W0.same _ _ Nd eN7
        refine ⟨_, rfl, N, rfl, ⟨_, SqL.of (W.same _ _ Nd eN9)⟩, for_it (walk_list (K := K) (a := N) (xs := PP.map V.str)) (fun j σ H9 => (∃ o7 o8, σ = [some (.ref L), some (.ref d), some (.ref N), o3, some (.int (k : Nat)), some (.str one), some (.str mid), o7, o8]) ∧ WyS H11 H9 d ((PP.take j).foldl (clO (one, mid)) D1)) ⟨⟨_, _, rfl⟩, W⟩ (fun i σ H9 _ h9 => SqL.of (h9.2.same _ _ Nd eN9)) ?_ ?_⟩
        · rintro j x σ H14 H15 hj ⟨⟨o7, o8, rfl⟩, W⟩ ⟨rfl, hx⟩
          rw [List.length_map] at hj
          obtain rfl : V.str PP[j] = x := by
            rw [List.getElem?_map, List.getElem?_eq_getElem hj] at hx
            exact Option.some.inj hx
          have nx : (PP.take (j + 1)).foldl (clO (one, mid)) D1 = clO (one, mid) ((PP.take j).foldl (clO (one, mid)) D1) PP[j] := by
            rw [List.take_add_one, List.getElem?_eq_getElem hj, List.foldl_append]
            rfl
          have ksj := clKS (k := (one, mid)) (PP.take j) ksi one1 fun o ho => List.mem_of_mem_take ho
          have kin3 : (one, mid) ∈ kys ((PP.take j).foldl (clO (one, mid)) D1) := foldl_ind (f := clO (one, mid)) (l := PP.take j) (b := D1) (fun _ D => (one, mid) ∈ kys D) kin2 fun j hj D h => clO_key h
          have oP : PP[j] ∈ PP := List.getElem_mem hj
          rw [nx]
          generalize (PP.take j).foldl (clO (one, mid)) D1 = D2 at W ksj kin3 ⊢
          generalize PP[j] = oth at oP ⊢
          clear nx hx
          have k2 := ksj.len
          refine ⟨_, rfl, _, rfl, rfl, _, rfl, ?_⟩
          by_cases h : oth = one
          · have e : (!decide (V.str oth = V.str one)) = false := by rw [decide_eq_true (by rw [h])]; rfl
            rw [e]
            refine iteF (iteF ⟨⟨_, _, rfl⟩, ?_⟩)
            unfold clO
            rw [if_neg fun c => c.1 h]
            exact W
          · have e : (!decide (V.str oth = V.str one)) = true := by rw [decide_eq_false (fun z => h (by injection z))]; rfl
            rw [e]
            refine iteT ⟨_, rfl, _, rfl, n2, fun q1 hq1 => ⟨_, rfl, d, _, rfl, (W.new hq1).dg upd_same, _, rfl, ?_⟩⟩
            rw [isSome_S]
            have W1 := W.new (o := .tup [V.str mid, V.str oth]) hq1
            generalize upd H15 q1 (.tup [V.str mid, V.str oth]) = H16 at W1 ⊢
            by_cases c2 : (mid, oth) ∈ D2.map (·.1)
            · rw [decide_eq_true c2]
              refine iteT ?_
              refine ⟨_, rfl, _, rfl, _, rfl, n2, fun q2 hq2 => ⟨d, _, rfl, W1.get hq2 kin3, ?_⟩⟩
              have W2 := W1.new (o := .tup [V.str one, V.str mid]) hq2
              generalize upd H16 q2 (.tup [V.str one, V.str mid]) = H17 at W2 ⊢
              refine ⟨_, rfl, _, rfl, _, rfl, n2, fun q3 hq3 => ⟨d, _, rfl, W2.get hq3 c2, _, _, rfl, rfl, ?_⟩⟩
              have W3 := W2.new (o := .tup [V.str mid, V.str oth]) hq3
              generalize upd H17 q3 (.tup [V.str mid, V.str oth]) = H18 at W3 ⊢
              refine ⟨_, rfl, _, rfl, d, rfl, .inr ⟨_, .inl W3.out⟩, _, rfl, _, rfl, n2, fun q4 hq4 => ⟨_, rfl, _, (W3.new hq4).dg upd_same, ?_⟩⟩
              have W4 := W3.new (o := .tup [V.str one, V.str oth]) hq4
              generalize upd H18 q4 (.tup [V.str one, V.str oth]) = H19 at W4 ⊢
              rw [dget_S]
              refine ⟨_, _, rfl, ?_⟩
              rw [min_if]
              refine ⟨_, rfl, _, rfl, _, rfl, n2, fun q5 hq5 => ?_⟩
              have W5 := W4.new (o := .tup [V.str one, V.str oth]) hq5
              refine ⟨d, _, rfl, .inr ⟨kvsS D2, keyOf (one, oth), q5, W5.out, rfl, upd_same, by rw [kvsS_len]; exact lt1 (by omega), rfl⟩, ⟨_, _, rfl⟩, fun b o n e => (upd_ne n).trans (W5.same b o n e), ?_⟩
              unfold clO
              rw [upd_same, putS_set, if_pos ⟨h, c2⟩]
              unfold lowT
              first | rfl | rw [Int.min_comm]
            · rw [decide_eq_false c2]
              refine iteF ⟨⟨_, _, rfl⟩, ?_⟩
              unfold clO
              rw [if_neg fun c => c2 c.2]
              exact W1
        · rintro σ H14 ⟨⟨o7, o8, rfl⟩, W⟩
          rw [List.length_map, List.take_length] at W
          exact ⟨⟨_, _, _, _, rfl⟩, W⟩
      · rintro σ H12 ⟨⟨o5, o6, o7, o8, rfl⟩, W⟩
        rw [List.length_map, lb, List.take_length] at W
        exact ⟨⟨_, _, _, _, _, _, rfl⟩, W0.trans W, cmKS _ ks kd⟩
    · rintro σ H9 ⟨⟨o3, o4, o5, o6, o7, o8, rfl⟩, W, ks⟩
      exact ⟨_, rfl, q _ d _ (fun b o e => W.same _ _ (ne_of_none e d0) (s7 _ _ e)) d0 W.out fun x hx y hy ne => fin hx hy ne⟩
end
end Mk

set_option Elab.async false
set_option linter.all false
set_option maxRecDepth 100000
set_option maxHeartbeats 4000000
/-! the law's price of a sign in the place of one, its row behind a row -/
namespace Mk
open PySem PySem.Spec L2 PyProof.Rows

abbrev sPrc : Stmt := top 101
def spPrc : Sp := fun vs H Q _ => ∃ (d : Addr) (x y : Str) (D : STab), vs = [.ref d, .str x, .str y] ∧ H d = some (.dT (kvsS D)) ∧ (x ≠ y → (x, y) ∈ kys D) ∧ ∀ H', Same H H' → Q (.int (if x = y then 0 else look D (x, y))) H'
theorem ixN_to {k : Int} {n : Nat} (h0 : 0 ≤ k) (h : k.toNat < n) : ixN n k = some k.toNat := by
  unfold ixN
  rw [if_pos h0, if_pos (by omega)]
theorem atI_to {f : List Int} {k : Int} (h0 : 0 ≤ k) (h : k.toNat < f.length) : atI (f.map V.int) k = some (V.int (f.getD k.toNat 0)) := by
  refine at_ofA (j := k.toNat) (by omega) ?_
  rw [List.getElem?_map, List.getElem?_eq_getElem h, List.getD_eq_getElem?_getD, List.getElem?_eq_getElem h]
  rfl
section
variable {P : Program} {w : World} {K : PySem.W.Frag} {mg : Str → Option Value} {base : Heap}
theorem scPrc : FnScope ["_law_table", "_law_one", "_law_other"] ["_law_table", "_law_one", "_law_other"] (defScope sPrc) := ⟨rfl, rfl, rfl, by decide +kernel, rfl, by decide +kernel, by decide +kernel⟩
theorem ok_prc {f : Addr} {fd : FuncData} (F : Fun K "_law_price" "_law_price" sPrc f fd) : FnOk P w K mg base CX0 1 f fd ["_law_table", "_law_one", "_law_other"] spPrc := by
  refine F.ok scPrc (fun vs H Q E h => ?_) (fun cdv A outer s H vs Q E hr h => ?_)
  · obtain ⟨d, x, y, D, rfl, _⟩ := h
    rfl
  · have hu := hu_of hr
    obtain ⟨d, x, y, D, rfl, hd, hk, q⟩ := h
    refine ⟨_, pss_one (ps_ret (pe_ifExp (pt_cmpR op_eq (pv 1) (pv 2) (nomark _)) pe_int (pe_dget hu (pv 0) (pe_tup (pa_cons (pv 1) (pa_cons (pv 2) pa_nil))) (fun _ _ => rfl)))), ?_⟩
    refine ⟨_, rfl, _, rfl, rfl, _, rfl, ?_⟩
    by_cases e : x = y
    · subst e
      have := q H (Same.refl H)
      rw [if_pos rfl] at this
      rw [decide_eq_true rfl]
      exact iteT this
    · have e2 : decide (V.str x = V.str y) = false := decide_eq_false fun z => e (by injection z)
      rw [e2]
      refine iteF ⟨_, rfl, _, rfl, _, rfl, (by decide : 2 ≤ sizeLine), fun t ht => ⟨d, _, rfl, .inr ⟨kvsS D, keyOf (x, y), t, .inl ((Same.new ht) _ _ hd), rfl, upd_same, (valS (hk e)).symm⟩, ?_⟩⟩
      have := q _ (Same.new (o := .tup [V.str x, V.str y]) ht)
      rw [if_neg e] at this
      exact this
end
end Mk

set_option Elab.async false
set_option linter.all false
set_option maxRecDepth 100000
set_option maxHeartbeats 4000000
/-! words and rows that the law draws -/
namespace Mk
open PySem PySem.Spec L2 PyProof.Rows

abbrev sWrd : Stmt := top 102
abbrev nWrd : List Str := ["_law_urn_here", "_law_signs", "_law_most", "_law_turn"]
def spWrd : Sp := fun vs H Q _ => ∃ (p S : Addr) (n m : Nat) (zs : List Str), vs = [.ref p, .ref S, .int m] ∧ m < 1000 ∧ Pot H p n ∧ n + m + 1 < PB ∧ S ≠ p ∧ H S = some (.lst (zs.map V.str)) ∧ SgZ zs ∧
  ∀ H' z, But p H H' → Pot H' p (n + m + 1) → (∀ x ∈ sgs z, x ∈ zs) → z.length ≤ m → Q (.str z) H'
section
variable {P : Program} {w : World} {K : PySem.W.Frag} {mg : Str → Option Value} {base : Heap}
theorem scWrd : FnScope nWrd ["_law_urn_here", "_law_signs", "_law_most"] (defScope sWrd) := ⟨rfl, rfl, rfl, by decide +kernel, rfl, by decide +kernel, by decide +kernel⟩
theorem ok_wrd {f : Addr} {fd : FuncData} (F : Fun K "_law_word" "_law_word" sWrd f fd) (B : Bn mg) (D : Cd P w K mg base 1 "_law_pull" ["_law_urn_here", "_law_total"] spDip) (C : Cd P w K mg base 2 "_law_from" ["_law_urn_here", "_law_items"] (spFrom K)) : FnOk P w K mg base CX0 3 f fd ["_law_urn_here", "_law_signs", "_law_most"] spWrd := by
  obtain ⟨d, dd, G, gm, gk, gb⟩ := D.ex
  obtain ⟨c, dc, Gc, cm, ck, cb⟩ := C.ex
  refine F.ok scWrd (fun vs H Q E h => ?_) (fun cdv A outer s H vs Q E hr h => ?_)
  · obtain ⟨p, S, n, m, zs, rfl, _⟩ := h
    rfl
  · obtain ⟨p, S, n, m, zs, rfl, hm, hp, hn, pS, hS, sg, q⟩ := h
    refine ⟨_, pss_one (ps_ret (pe_join pe_str (pe_lc (own := [("_law_turn", 3)]) (g := gName 3) (tt := tYes) rfl scWrd.nd (pi_range1 (by rfl) B.range (pa_cons (pe_call G (hr.mono (by decide)) (by rfl) gm gk gb .nil pass0 (pa_cons (pv 0) (pa_cons (pe_op op_add (pv 2) pe_int) pa_nil))) pa_nil)) (blkOk_by (N := nWrd) (sc := defScope sWrd) (by decide +kernel))
        (fun _ _ _ _ _ => pg_name (i := 3) scWrd.nd rfl (Or.inl rfl)) (fun _ _ _ _ _ => pts_nil)
        (fun _ _ _ _ _ => pe_call Gc hr (by rfl) cm ck cb .nil pass0 (pa_cons (pv 0) (pa_cons (pv 1) pa_nil)))))), ?_⟩
    have zl := List.length_pos_iff.mpr sg.ne
    have z3 := sg.l3
    refine ⟨⟨_, rfl⟩, _, rfl, _, rfl, _, _, rfl, rfl, p, n, (m : Int) + 1, rfl, hp, by omega, by omega, by omega, fun H1 k hb hf hP hk0 hk1 => ?_⟩
    refine ⟨k, rfl, by omega, by omega, fun D hD => ?_⟩
    have hpD := hP.ne hD
    have hD0 : H D = none := by
      cases e : H D with
      | none => rfl
      | some o => have := hb D o hpD.symm e; rw [hD] at this; cases this
    refine lc_range (lo := 0) (n := k.toNat) (fun i H2 => ∃ ys : List Str, But p H H2 ∧ H2 D = some (.lst (ys.map V.str)) ∧ ys.length = i ∧ (∀ y ∈ ys, y ∈ zs) ∧ Pot H2 p (n + 1 + i)) ?_ ?_ ?_
    · exact ⟨[], But.up hb hD0, upd_same, rfl, (fun _ h => nomatch h), hP.up hpD⟩
    · rintro i H2 hi ⟨ys, hB, h1, hl, hw, hP2⟩
      refine ⟨rfl, _, rfl, _, rfl, p, S, n + 1 + i, _, rfl, hP2, by omega, pS, hB _ _ pS hS, by rw [List.length_map]; exact zl, by rw [List.length_map]; omega, fun H3 v hN hv => ?_⟩
      obtain ⟨y, hy, rfl⟩ := List.mem_map.mp hv
      refine ⟨ys.map V.str, hN.but _ _ hpD.symm h1, ?_, ys ++ [y], But.up (hB.trans hN.but) hD0, ?_, ?_, ?_, hN.pot.up hpD⟩
      · rw [List.length_map, hl]
        exact Nat.lt_of_lt_of_le (by omega : i < 100000) (by decide)
      · rw [upd_same, List.map_append]
        rfl
      · rw [List.length_append, hl]
        rfl
      · intro x hx
        rcases List.mem_append.mp hx with hx | hx
        · exact hw x hx
        · rw [List.mem_singleton.mp hx]
          exact hy
    · rintro H2 ⟨ys, hB, h1, hl, hw, hP2⟩
      have one : ∀ y ∈ ys, y.length = 1 := fun y hy => sgB_len (sg.sg y (hw y hy))
      have hsum := sum_wd one
      refine ⟨_, D, ys, rfl, rfl, .inl (SqL.of h1), ?_, q _ _ hB (hP2.mono (by omega)) ?_ ?_⟩
      · rw [hsum, hl]
        show k.toNat + k.toNat * 0 ≤ 16777216
        omega
      · rw [flat_sgs one]
        exact hw
      · rw [← sgs_length, flat_sgs one, hl]
        omega
end
end Mk

set_option Elab.async false
set_option linter.all false
set_option maxRecDepth 100000
set_option maxHeartbeats 4000000
/-! rows of good values: check_treated, row_behind -/
namespace Mk
open PySem PySem.Spec L2 PyProof.Rows

def spTreat (CF CP : Addr) : Sp := fun vs H Q _ => ∃ (t f x : Addr) (m : Mch) (z : Str) (t1 t2 : PTab) (t3 : STab), vs = [.ref t, .ref x, .str z] ∧ H t = some (.tup [.ref f]) ∧ FmAt CF H f m ∧ WF m ∧ m.length ≤ 6 ∧ (∀ q ∈ m, q.1.length ≤ 5) ∧ PrAt CP H x t1 t2 t3 ∧ (∀ p ∈ t1, sgB p.1 = true) ∧ wB z = true ∧ z.length ≤ 4000 ∧
  hasB t1 z = true ∧ hasT t1 (sgM m) = true ∧ ∀ H', Same H H' → Q .non H'
section
variable {P : Program} {w : World} {K : PySem.W.Frag} {mg : Str → Option Value} {base : Heap} {CP CF CR : Addr}
theorem ok_treat {f : Addr} {fd : FuncData} (F : Fun K "check_treated" "check_treated" sChkT f fd) (O : On mg) (TF : Fc K CF) (J1 : Cd P w K mg base 2 "have_signs" ["prices", "signs"] (spHaveX CP)) (J2 : Cd P w K mg base 2 "have_signs" ["prices", "signs"] (spHaveT CP)) (J3 : Cd P w K mg base 3 "check_sizes" ["forms"] (spChkZ CF))
    (PG : Pd P w K mg base CF 1 "signs" (spFSig CF)) : FnOk P w K mg base CX0 4 f fd ["forms", "prices", "signs"] (spTreat CF CP) := by
  obtain ⟨a1, d1, G1, m1, k1, b1⟩ := J1.ex
  obtain ⟨a2, d2, G2, m2, k2, b2⟩ := J2.ex
  obtain ⟨a3, d3, G3, m3, k3, b3⟩ := J3.ex
  obtain ⟨pg, gg, dg, og, Fg, bg⟩ := PG.ex
  refine F.ok scTreat (fun vs H Q E h => ?_) (fun cdv A outer s H vs Q E hr h => ?_)
  · obtain ⟨t, f, x, m, z, t1, t2, t3, rfl, _⟩ := h
    rfl
  · obtain ⟨t, f, x, m, z, t1, t2, t3, rfl, ht, hf, wf, lm, l5, hx, sg, hw, lz, c1, c2, q⟩ := h
    have r2 : Room 2 _ := hr.mono (by decide)
    refine ⟨_, pss_cons (ps_if (PW.pt (pw_or (pt_not (pt_val (pe_call G1 r2 (by rfl) m1 k1 b1 .nil pass0 (pa_cons (pv 1) (pa_cons (pv 2) pa_nil)))))
        (pw_or1 (pt_not (pt_val (pe_callB (cr_all rfl) (by rfl) O.all (by decide +kernel) (pa_cons (pe_lc (own := [("form", 3)]) (g := gName 3) (tt := tYes) rfl scTreat.nd (pi_tup (pv 0)) (blkOk_by (N := nTreat) (sc := defScope sChkT) (by decide +kernel))
          (fun _ _ _ _ _ => pg_name (i := 3) scTreat.nd rfl (Or.inl rfl)) (fun _ _ _ _ _ => pts_nil) (fun _ _ _ _ _ => pe_call G2 r2 (by rfl) m2 k2 b2 .nil pass0 (pa_cons (pv 1) (pa_cons (pe_prop (pv 3) TF.cl og Fg r2 bg .nil pass0 rfl) pa_nil)))) pa_nil)))))))
        (pss_one ps_never) pss_nil)
      (pss_one (ps_expr (pe_call G3 hr (by rfl) m3 k3 b3 .nil pass0 (pa_cons (pv 0) pa_nil)))), ?_⟩
    have lt1 : ∀ {n : Nat}, n ≤ 3999 → n < sizeLine := fun h1 => by rw [sizeLine_eq]; omega
    refine ⟨_, rfl, _, rfl, x, z, t1, t2, t3, rfl, hx, sg, hw, lz, fun H1 s1 => ⟨_, rfl, ?_⟩⟩
    rw [c1]
    refine iteF ?_
    have ht1 := s1 _ _ ht
    refine ⟨_, rfl, t, rfl, ⟨_, SqT.of ht1⟩, fun D hD => wk_any (walk_tup (K := K) (a := t) (xs := [V.ref f])) (fun i H2 => Same H1 H2 ∧ H2 D = some (.lst (List.replicate i (V.bl (hasT t1 (sgM m)))))) ⟨Same.new hD, upd_same⟩ (fun i H2 _ h2 => SqT.of (h2.1 _ _ ht1)) ?_ ?_⟩
    · rintro i v H2 H3 hi ⟨s2, l2⟩ ⟨rfl, hv⟩
      have hi : i < 1 := hi
      obtain rfl : i = 0 := by omega
      cases hv
      have s12 := s1.trans s2
      have hf2 := hf.keep s12
      obtain ⟨df, st, ef, _⟩ := id hf2
      refine ⟨rfl, _, rfl, _, rfl, f, df, _, rfl, ef, f, m, rfl, hf2, wf, (by omega), l5, fun H4 r zs s4 fr er nd so hz => ?_⟩
      have zl : zs.length ≤ 5 := by
        have : ∀ z ∈ zs, z ∈ sgs "abcde" := fun z hz' => by
          obtain ⟨q, hq, p, hp, e⟩ := sgM_in.mp ((hz z).mp hz')
          rw [← e]
          exact sign_in (wf.sg q hq p hp)
        have := nd_len nd this
        exact Nat.le_trans this (by decide +kernel)
      refine ⟨x, r, zs, t1, t2, t3, rfl, hx.same (s12.trans s4), sg, er, by omega, fun z hz' => ?_, fun H5 s5 => ?_⟩
      · obtain ⟨q, hq, p, hp, e⟩ := sgM_in.mp ((hz z).mp hz')
        rw [← e]
        exact wf.sg q hq p hp
      · rw [hasT_congr hz]
        have s45 := s4.trans s5
        refine ⟨_, s45 _ _ l2, lt1 (by rw [List.length_replicate]; omega), Same.upN (s2.trans s45) hD, ?_⟩
        rw [upd_same]
        rfl
    rintro H2 ⟨s2, l2⟩
    have s12 := s1.trans s2
    refine ⟨D, [hasT t1 (sgM m)], rfl, SqL.of l2, ?_⟩
    have e1 : ([hasT t1 (sgM m)].all id) = hasT t1 (sgM m) := by simp
    rw [e1]
    rw [c2]
    exact ⟨_, rfl, iteF ⟨_, rfl, t, f, m, rfl, s2 _ _ ht1, hf.keep s12, lm, fun H3 s3 => q _ (s12.trans s3)⟩⟩
end
end Mk

set_option Elab.async false
set_option linter.all false
set_option maxRecDepth 100000
set_option maxHeartbeats 4000000
/-! rows of words -/
namespace Mk
open PySem PySem.Spec L2 PyProof.Rows

abbrev sRAl : Stmt := inClass (top 38) 5
/-- a row of a word -/
inductive RwW (m : Mch) (c : Str → Str → Int) : List Str → List Int → Prop
  | nil {ns : List Int} (l : ns.length = m.length) (h : ∀ j (hj : j < ns.length), Eg m (c "") m.length 0 j = some ns[j]) : RwW m c [] ns
  | snoc {zs : List Str} {ns ms : List Int} {z : Str} (h : RwW m c zs ns) (l : ms.length = m.length) (k : ∀ j (hj : j < ms.length), Rb m c z ns j ms[j]) : RwW m c (zs ++ [z]) ms
theorem RwW.len {m : Mch} {c : Str → Str → Int} {zs : List Str} {ns : List Int} (h : RwW m c zs ns) : ns.length = m.length := by
  cases h with
  | nil l h => exact l
  | snoc h l k => exact l
theorem RwW.srt {m : Mch} (w : WF m) {c : Str → Str → Int} {zs : List Str} {ns : List Int} (h : RwW (srtM m) c zs ns) : RwW m c zs ns := by
  have ln : (srtM m).length = m.length := srt_len
  induction h with
  | nil l h => exact .nil (l.trans ln) fun j hj => by have := h j hj; rw [ln, Eg_srt w] at this; exact this
  | snoc h l k ih => exact .snoc ih (l.trans ln) fun j hj => (k j hj).srt w
def spRAl (CR : Addr) : Sp := fun vs H Q _ => ∃ (x : Addr) (m : Mch) (zs : List Str) (c : Str → Str → Int) (w : Str), vs = [.ref x, .str w] ∧ RdAt CR H x m zs c ∧ GoodM m ∧ m.length ≤ 8 ∧ (∀ q ∈ m, ∀ p ∈ q.1, 0 ≤ c "" p.1) ∧ zs.Nodup ∧ (∀ z ∈ sgs w, z ∈ zs) ∧ w.length ≤ 1000 ∧
  ∀ H' L (rs0 : List Addr) (rl : Addr) (ns : List Int), Same H H' → H L = none → H' L = some (.lst ((rs0 ++ [rl]).map V.ref)) → H' rl = some (.tup (ns.map V.int)) → RwW m c (sgs w) ns → Q (.ref L) H'
theorem RdAt.keep {C : Addr} {H H' : Hp} {x : Addr} {m : Mch} {zs : List Str} {c : Str → Str → Int} (h : RdAt C H x m zs c) (k : Same H H') : RdAt C H' x m zs c := by
  obtain ⟨dx, ts, tl, wd, G, ws, hx, e1, e2, e3, e4, hw, okG, vG⟩ := h
  exact ⟨dx, ts, tl, wd, G, ws, k _ _ hx, k _ _ e1, k _ _ e2, k _ _ e3, e4, fun p hp => (hw p hp).keep k, okG, vG⟩
section
variable {P : Program} {w : World} {K : PySem.W.Frag} {mg : Str → Option Value} {base : Heap} {CP CF CR : Addr}
theorem scRAl : FnScope ["self", "word", "found", "sign"] ["self", "word"] (defScope sRAl) := ⟨rfl, rfl, rfl, by decide +kernel, rfl, by decide +kernel, by decide +kernel⟩
theorem ok_rAl {f fb : Addr} {fd fdb : FuncData} (F : Fun K "rows_along" "Reader.rows_along" sRAl f fd) (TR : Rc K CR) (mb : Meth K CR "behind" fb) (GB : FnOk P w K mg base CX0 1 fb fdb ["self", "row", "sign"] (spRBeh CR)) (bB : Binds K fdb ["self", "row", "sign"] []) : FnOk P w K mg base CX0 2 f fd ["self", "word"] (spRAl CR) := by
  refine F.ok scRAl (fun vs H Q E h => ?_) (fun cdv A outer s H vs Q E hr h => ?_)
  · obtain ⟨x, m, zs, c, wd, rfl, _⟩ := h
    rfl
  · obtain ⟨x, m, zs, c, wo, rfl, hR, gm, lm, c1, ndz, wz, lw, q⟩ := h
    refine ⟨_, pss_cons (ps_set (i := 2) scRAl.nd rfl (.inl rfl) (pe_lst (pa_cons (pe_fld (pv 0) rfl) pa_nil)))
      (pss_cons (ps_for PassesOwn.never rfl (pi_str (pv 1)) (pg_name (i := 3) scRAl.nd rfl (.inl rfl))
        (pss_one (ps_expr (pe_bm PySem.F.plainAttrs_list PySem.F.slot_list_append PySem.F.type_list_append mt_append (pv 2) (pa_cons (pe_meth (pv 0) TR.cl mb GB (hr.mono (by decide)) bB .nil pass0 (pa_cons (pe_ix ix_list (pv 2) (pe_un un_neg pe_int) (fun _ _ => rfl)) (pa_cons (pv 3) pa_nil))) pa_nil)))))
      (pss_one (ps_ret (pv 2)))), ?_⟩
    obtain ⟨dx, ts, tl, wd, G, ws, hx, ets, etl, ewd, ew, hw, okG, vG⟩ := id hR
    have n1 : 1 ≤ sizeLine := by decide
    refine ⟨_, rfl, x, CR, dx, _, _, rfl, hx, TR.cl, TR.n1, rfl, n1, fun L hL => ?_⟩
    have sL := Same.new (o := .lst [V.ref ts]) hL
    have start : RwW m c [] ((List.range m.length).map fun j => look G (0, j)) := by
      refine .nil (by rw [List.length_map, List.length_range]) fun j hj => ?_
      rw [List.length_map, List.length_range] at hj
      rw [List.getElem_map, List.getElem_range]
      have h0 : 0 < m.length := by omega
      have rch := (gm.rc (j : Int) ⟨by omega, by omega⟩).1
      have := gaps_rch (c := c "") gm.wf (i := 0) (j := (j : Int)) ⟨by omega, by omega⟩ rch
      rw [← vG 0 j h0 hj]
      have e0 : (Eg m (c "") m.length (0 : Int).toNat (j : Int).toNat).isSome = true := this
      have e1 : (vl G (0, j)).isSome = true := by rw [vG 0 j h0 hj]; exact e0
      exact vl_some (vl_isSome.mp e1)
    refine ⟨_, rfl, wo, rfl, for_it (walk_str (z := wo)) (fun i σ H1 => (∃ o3, σ = [some (.ref x), some (.str wo), some (.ref L), o3]) ∧ Same H H1 ∧ ∃ (rs0 : List Addr) (rl : Addr) (ns : List Int), H1 L = some (.lst ((rs0 ++ [rl]).map V.ref)) ∧ rs0.length = i ∧ H1 rl = some (.tup (ns.map V.int)) ∧ RwW m c ((sgs wo).take i) ns) ⟨⟨_, rfl⟩, sL, [], ts, _, upd_same, rfl, sL _ _ ets, start⟩ (fun _ _ _ _ _ => trivial) ?_ ?_⟩
    · rintro i v σ H1 H2 hi ⟨⟨o3, rfl⟩, s1, rs0, rl, ns, e1, l1, er, hw1⟩ ⟨rfl, ch, hc, rfl⟩
      have hs := sgs_at hc
      have nx : (sgs wo).take (i + 1) = (sgs wo).take i ++ [⟨#[ch]⟩] := by
        rw [List.take_add_one, hs]
        rfl
      have zin : (⟨#[ch]⟩ : Str) ∈ zs := wz _ (List.mem_of_getElem? hs)
      generalize (⟨#[ch]⟩ : Str) = sg at nx zin ⊢
      have ll : rs0.length ≤ 1000 := by rw [l1]; have : wo.cps.size = wo.length := rfl; omega
      have hx1 := s1 _ _ hx
      have eat : atI ((rs0 ++ [rl]).map V.ref) (-1) = some (V.ref rl) := by
        rw [List.map_append]
        exact atI_neg1 rfl
      refine ⟨_, rfl, .inl ⟨rfl, _, SqL.of e1⟩, _, rfl, x, dx, _, rfl, hx1, rfl, _, rfl, _, rfl, L, _, _, _, rfl, rfl, SqL.of e1, eat, _, rfl, ?_⟩
      refine ⟨x, rl, sg, m, zs, c, ns, rfl, hR.keep s1, gm, lm, c1, ndz, zin, er, hw1.len, fun H3 r G' ms s3 fr erm okG' vG' beh => ?_⟩
      refine ⟨L, _, _, rfl, rfl, s3 _ _ e1, by rw [List.length_map, List.length_append, sizeLine_eq]; show rs0.length + 1 < _; omega, ⟨_, rfl⟩, Same.upN (s1.trans s3) hL, rs0 ++ [rl], r, ms, ?_, ?_, ?_, ?_⟩
      · rw [upd_same, List.map_append, List.map_append, List.map_append]
        rfl
      · rw [List.length_append, l1]
        rfl
      · rw [upd_ne (fun z => by rw [z, s3 _ _ e1] at erm; cases erm)]
        exact erm
      · rw [nx]
        exact .snoc hw1 beh.1 fun j hj => beh_rb gm.wf vG' beh j hj
    rintro σ H1 ⟨⟨o3, rfl⟩, s1, rs0, rl, ns, e1, l1, er, hw1⟩
    refine ⟨_, rfl, q _ L rs0 rl ns s1 hL e1 er ?_⟩
    rwa [List.take_of_length_le (by rw [sgs_length]; exact Nat.le_refl _)] at hw1
end
end Mk

set_option Elab.async false
set_option linter.all false
set_option maxRecDepth 100000
set_option maxHeartbeats 4000000
/-! row_of, start_row for good values -/
namespace Mk
open PySem PySem.Spec L2 PyProof.Rows

def spRowOfG (CF CP : Addr) : Sp := fun vs H Q _ => ∃ (x y : Addr) (m : Mch) (t1 t2 : PTab) (t3 : STab) (wo : Str), vs = [.ref x, .ref y, .str wo] ∧ FmAt CF H x m ∧ GoodM m ∧ m.length ≤ 6 ∧ (∀ q ∈ m, q.1.length ≤ 5) ∧ PrAt CP H y t1 t2 t3 ∧ RtT t1 t2 t3 ∧ Srt t1 t2 t3 ∧
  wB wo = true ∧ wo.length ≤ 1000 ∧ (∀ z ∈ sgs wo, z ∈ t1.map (·.1)) ∧ (∀ q ∈ m, ∀ p ∈ q.1, p.1 ∈ t1.map (·.1)) ∧ ∀ H' r (ms : List Int), Same H H' → H' r = some (.tup (ms.map V.int)) → RwW m (cc t1 t2 t3) (sgs wo) ms → Q (.ref r) H'
section
variable {P : Program} {w : World} {K : PySem.W.Frag} {mg : Str → Option Value} {base : Heap} {CP CF CR : Addr}
theorem ok_rowOfG {f fi fb : Addr} {fd fdi fdb : FuncData} (F : Fun K "row_of" "row_of" sRowOf f fd) (TR : Rc K CR) (MR : L2.Mk K CR fi) (GI : FnOk P w K mg base CX0 5 fi fdi ["self", "target", "prices"] (spRInit CF CP CR)) (bI : Binds K fdi ["self", "target", "prices"] []) (mR : mg "Reader" = some (.ref CR))
    (ma : Meth K CR "rows_along" fb) (GA : FnOk P w K mg base CX0 2 fb fdb ["self", "word"] (spRAl CR)) (bA : Binds K fdb ["self", "word"] [])
    (J1 : Cd P w K mg base 1 "check_form" ["form"] (spChkF CF)) (J2 : Cd P w K mg base 1 "check_prices" ["prices"] (spChkPr CP)) (J3 : Cd P w K mg base 2 "check_word" ["word"] spChkW) (J4 : Cd P w K mg base 4 "check_treated" ["forms", "prices", "signs"] (spTreat CF CP)) :
    FnOk P w K mg base CX0 7 f fd ["target", "prices", "word"] (spRowOfG CF CP) := by
  obtain ⟨a1, d1, G1, m1, k1, b1⟩ := J1.ex
  obtain ⟨a2, d2, G2, m2, k2, b2⟩ := J2.ex
  obtain ⟨a3, d3, G3, m3, k3, b3⟩ := J3.ex
  obtain ⟨a4, d4, G4, m4, k4, b4⟩ := J4.ex
  refine F.ok scRowOf (fun vs H Q E h => ?_) (fun cdv A outer s H vs Q E hr h => ?_)
  · obtain ⟨x, y, m, t1, t2, t3, wo, rfl, _⟩ := h
    rfl
  · obtain ⟨x, y, m, t1, t2, t3, wo, rfl, hx, g, l6, l5, hy, R, sr, hw, lw, wz, inS, q⟩ := h
    refine ⟨_, pss_cons (ps_expr (pe_call G1 (hr.mono (by decide)) (by rfl) m1 k1 b1 .nil pass0 (pa_cons (pv 0) pa_nil)))
      (pss_cons (ps_expr (pe_call G2 (hr.mono (by decide)) (by rfl) m2 k2 b2 .nil pass0 (pa_cons (pv 1) pa_nil)))
      (pss_cons (ps_expr (pe_call G3 (hr.mono (by decide)) (by rfl) m3 k3 b3 .nil pass0 (pa_cons (pv 2) pa_nil)))
      (pss_cons (ps_expr (pe_call G4 (hr.mono (by decide)) (by rfl) m4 k4 b4 .nil pass0 (pa_cons (pe_tup (pa_cons (pv 0) pa_nil)) (pa_cons (pv 1) (pa_cons (pv 2) pa_nil)))))
      (pss_one (ps_ret (pe_ix ix_list (pe_meth (pe_make MR GI hr (by rfl) mR bI .nil pass0 (pa_cons (pv 0) (pa_cons (pv 1) pa_nil))) TR.cl ma GA (hr.mono (by decide)) bA .nil pass0 (pa_cons (pv 2) pa_nil)) (pe_un un_neg pe_int) (fun _ _ => rfl))))))), ?_⟩
    have c1 : hasB t1 wo = true := by
      unfold hasB
      rw [List.all_eq_true]
      exact fun z hz => decide_eq_true (wz z hz)
    have c2 : hasT t1 (sgM m) = true := by
      unfold hasT
      rw [List.all_eq_true]
      intro s hs
      obtain ⟨q', hq', p', hp', rfl⟩ := sgM_in.mp hs
      exact decide_eq_true (inS q' hq' p' hp')
    have lsm : (srtM m).length = m.length := srt_len
    refine ⟨_, rfl, x, m, rfl, hx, ?_⟩
    refine ⟨_, rfl, y, t1, t2, t3, rfl, hy, ?_⟩
    refine ⟨_, rfl, wo, rfl, hw, lw, ?_⟩
    refine ⟨_, rfl, (by show 1 ≤ sizeLine; decide), fun tt htt => ?_⟩
    have s2 := Same.new (o := .tup [V.ref x]) htt
    refine ⟨_, rfl, _, rfl, tt, x, y, m, wo, t1, t2, t3, rfl, upd_same, hx.keep s2, g.wf, l6, l5, hy.same s2, R.ag.sg, hw, by omega, c1, c2, fun H3 s3 => ?_⟩
    have s23 := s2.trans s3
    refine ⟨_, rfl, _, rfl, fun rd dx hrd hdx ne => ?_⟩
    have sN : Same H3 (upd (upd H3 dx (.own rd)) rd (.ins CR dx [])) := fun b o e => by
      rw [upd_ne (ne_of_none e hrd), upd_ne (ne_of_none e hdx)]
      exact e
    refine ⟨rd, x, y, dx, m, t1, t2, t3, rfl, upd_same, (hx.keep s23).keep sN, g, by omega, l5, (hy.same s23).same sN, R, sr, inS, fun H4 b4 hR => ⟨rfl, ?_⟩⟩
    have s4 : Same H H4 := fun b o e => b4 _ _ (ne_of_none (s23 _ _ e) hrd) (sN _ _ (s23 _ _ e))
    obtain ⟨dx', ts, tl, wd, G, ws, hx', rest⟩ := id hR
    refine ⟨rd, dx', _, rfl, hx', rfl, _, rfl, rd, srtM m, t1.map (·.1), cc t1 t2 t3, wo, rfl, hR, srt_good g, by omega, fun q hq p hp => cc_ge R em_in (List.mem_cons_of_mem _ (srt_sign g.wf inS q hq p hp)), R.ag.nd, wz, lw, fun H5 L rs0 rl ns s5 fL eL er hW => ?_⟩
    have eat : atI ((rs0 ++ [rl]).map V.ref) (-1) = some (V.ref rl) := by
      rw [List.map_append]
      exact atI_neg1 rfl
    exact ⟨_, rfl, L, _, _, _, rfl, rfl, SqL.of eL, eat, q _ rl ns (s4.trans s5) er (hW.srt g.wf)⟩
end
end Mk

set_option Elab.async false
set_option linter.all false
set_option maxRecDepth 100000
set_option maxHeartbeats 4000000
/-! Prices.times, where nothing is raised -/
namespace Mk
open PySem PySem.Spec L2 PyProof.Rows

section
variable {P : Program} {w : World} {K : PySem.W.Frag} {mg : Str → Option Value} {base : Heap}
end
end Mk

set_option Elab.async false
set_option linter.all false
set_option maxRecDepth 100000
set_option maxHeartbeats 4000000
/-! plain prices, with their bounds -/
namespace Mk
open PySem PySem.Spec L2 PyProof.Rows

def spPPb : Sp := fun vs H Q _ => ∃ (p S : Addr) (n : Nat) (most : Int) (zs : List Str), vs = [.ref p, .ref S, .int most] ∧ Pot H p n ∧ n + 100 < PB ∧ 1 ≤ most ∧ most ≤ 9 ∧ S ≠ p ∧ H S = some (.lst (zs.map V.str)) ∧ SgZ zs ∧
  ∀ H' L a b c t1 t2 t3, But p H H' → Rec H' L a b c t1 t2 t3 → RtT t1 t2 t3 → t1.map (·.1) = zs → t2.map (·.1) = zs → (∀ q ∈ t1, 1 ≤ q.2 ∧ q.2 ≤ most) → (∀ q ∈ t2, 1 ≤ q.2 ∧ q.2 ≤ most) → (∀ q ∈ t3, 1 ≤ q.2 ∧ q.2 ≤ most + 2) → Pot H' p (n + 100) → Q (.ref L) H'
section
variable {P : Program} {w : World} {K : PySem.W.Frag} {mg : Str → Option Value} {base : Heap}
theorem ok_ppb {f : Addr} {fd : FuncData} (F : Fun K "_law_plain_prices" "_law_plain_prices" sPP f fd) (Dd : Dn mg) (D : Cd P w K mg base 1 "_law_pull" ["_law_urn_here", "_law_total"] spDip) : FnOk P w K mg base CX0 2 f fd ["_law_urn_here", "_law_signs", "_law_most"] spPPb := by
  obtain ⟨d, dd, G, gm, gk, gb⟩ := D.ex
  refine F.ok scPP (fun vs H Q E h => ?_) (fun cdv A outer s H vs Q E hr h => ?_)
  · obtain ⟨p, S, n, most, zs, rfl, _⟩ := h
    rfl
  · obtain ⟨p, S, n, wi, zs, rfl, hp, hn, wi1, wi9, pS, hS, sg, q⟩ := h
    have hu := hu_of hr
    have hl3 := sg.l3
    refine ⟨_, pss_cons (ps_set (i := 3) scPP.nd rfl (.inl rfl) (pe_callTy (call_dictP rfl) (by rfl) Dd.dict (by decide +kernel) (pa_cons (pe_lc (own := [("_law_sign", 8)]) (g := gName 8) (tt := tYes) rfl scPP.nd (pi_list (pv 1)) (blkOk_by (N := nPP) (sc := defScope sPP) (by decide +kernel))
          (fun _ _ _ _ _ => pg_name (i := 8) scPP.nd rfl (Or.inl rfl)) (fun _ _ _ _ _ => pts_nil)
          (fun _ _ _ _ _ => pe_tup (pa_cons (pv 8) (pa_cons (pe_op op_add pe_int (pe_call G hr (by rfl) gm gk gb .nil pass0 (pa_cons (pv 0) (pa_cons (pv 2) pa_nil)))) pa_nil)))) pa_nil)))
      (pss_cons (ps_set (i := 4) scPP.nd rfl (.inl rfl) (pe_callTy (call_dictP rfl) (by rfl) Dd.dict (by decide +kernel) (pa_cons (pe_lc (own := [("_law_sign", 8)]) (g := gName 8) (tt := tYes) rfl scPP.nd (pi_list (pv 1)) (blkOk_by (N := nPP) (sc := defScope sPP) (by decide +kernel))
          (fun _ _ _ _ _ => pg_name (i := 8) scPP.nd rfl (Or.inl rfl)) (fun _ _ _ _ _ => pts_nil)
          (fun _ _ _ _ _ => pe_tup (pa_cons (pv 8) (pa_cons (pe_op op_add pe_int (pe_call G hr (by rfl) gm gk gb .nil pass0 (pa_cons (pv 0) (pa_cons (pv 2) pa_nil)))) pa_nil)))) pa_nil)))
      (pss_cons (ps_set (i := 5) scPP.nd rfl (.inl rfl) pe_dnewT)
      (pss_cons (ps_for PassesOwn.never rfl (pi_list (pv 1)) (pg_name (i := 6) scPP.nd rfl (.inl rfl))
        (pss_one (ps_for PassesOwn.never rfl (pi_list (pv 1)) (pg_name (i := 7) scPP.nd rfl (.inl rfl))
          (pss_one (ps_if (PW.pt (pw_and (pt_cmpR op_ne (pv 6) (pv 7) (nomark _)) (pw_and1 (pt_cmpR op_eq (pe_call G hr (by rfl) gm gk gb .nil pass0 (pa_cons (pv 0) (pa_cons pe_int pa_nil))) pe_int (nomark _)))))
            (pss_one (ps_dput hu (pv 5) (pe_tup (pa_cons (pv 6) (pa_cons (pv 7) pa_nil))) (pe_op op_add pe_int (pe_call G hr (by rfl) gm gk gb .nil pass0 (pa_cons (pv 0) (pa_cons (pe_op op_add (pv 2) pe_int) pa_nil)))) rfl)) pss_nil)))))
      (pss_one (ps_ret (pe_lst (pa_cons (pv 3) (pa_cons (pv 4) (pa_cons (pv 5) pa_nil))))))))), ?_⟩
    have nar : ∀ {n m : Nat}, n ≤ m → m ≤ 1000 → n ≤ sizeLine := fun h1 h2 => by rw [sizeLine_eq]; omega
    have lt1 : ∀ {n : Nat}, n ≤ 100 → n < sizeLine := fun h1 => by rw [sizeLine_eq]; omega
    have b4 : But p H H := But.refl
    have P4 : Pot H p (n + 1) := hp.mono (by omega)
    have lz : (zs.map V.str).length = zs.length := List.length_map _
    have ndz := sg.nd
    have hS4 := hS
    -- the gains
    refine ⟨_, rfl, S, rfl, ⟨_, SqL.of hS4⟩, fun D hD => lc_it (walk_list (K := K) (a := S) (xs := zs.map V.str)) (fun i H6 => H6 S = some (.lst (zs.map V.str)) ∧ Dealt p H H6 D (zs.take i) wi (n + 1 + i)) ?_ (fun i H6 _ h6 => SqL.of h6.1) ?_ ?_⟩
    · exact ⟨(Same.new hD) _ _ hS4, b4.new hD, P4.up (P4.ne hD), [], [], upd_same, .nil, rfl, fun _ h => nomatch h⟩
    · rintro i x H6 H7 hi ⟨e6, W6⟩ ⟨rfl, hx⟩
      rw [List.length_map] at hi
      have ex : x = V.str zs[i] := by
        rw [List.getElem?_map, List.getElem?_eq_getElem hi] at hx
        exact (Option.some.inj hx).symm
      subst ex
      refine ⟨rfl, _, rfl, _, rfl, _, rfl, p, _, wi, rfl, W6.pot, by omega, by omega, by omega, fun H8 k b8 f8 P8 k0 k1 => ⟨_, _, rfl, rfl, (show 2 ≤ sizeLine from nar (m := 2) (by decide) (by decide)), fun t ht => ?_⟩⟩
      have D0 : H D = none := b4.nul P4 hD
      obtain ⟨acc, a1, a2, W9⟩ := W6.next (z := zs[i]) (i := 1 + k) D0 b8 P8 (by omega) (by omega) ht (P4.ne hD).symm
      refine ⟨acc, a1, lt1 (by rw [a2, List.length_take]; omega), ?_, ?_⟩
      · have L8 := b8 _ _ pS e6
        rw [upd_ne (ne_of_none hS4 hD), upd_ne (ne_of_none L8 ht)]
        exact L8
      · have et : zs.take (i + 1) = zs.take i ++ [zs[i]] := by rw [List.take_add_one, List.getElem?_eq_getElem hi]; rfl
        rw [et]
        exact W9
    rintro H6 ⟨e6, W6⟩
    rw [List.length_map] at W6
    rw [List.take_length] at W6
    obtain ⟨ts1, tab1, w1, w2, w3, w4⟩ := W6.ex
    have nd1 : (tab1.map (·.1)).Nodup := by rw [w3]; exact ndz
    refine ⟨D, ts1, kvsP tab1, rfl, SqL.of w1, tups_sq w2, fun d1 hd1 => ?_⟩
    rw [merge_P0 nd1]
    have b6 := W6.but.new (o := .dK (kvsP tab1)) hd1
    have np1 : d1 ≠ p := (W6.pot.ne hd1).symm
    have P6 : Pot (upd H6 d1 (.dK (kvsP tab1))) p (n + 10) := (W6.pot.up np1.symm).mono (by omega)
    have x1 : (upd H6 d1 (.dK (kvsP tab1))) d1 = some (.dK (kvsP tab1)) := upd_same
    have k1 : tab1.map (·.1) = zs := w3
    generalize upd H6 d1 (.dK (kvsP tab1)) = H7 at b6 P6 x1 ⊢
    clear W6 e6 w1 w2 w3 hd1 hD b4 P4 hS4
    -- the losses
    have hS6 := b6 _ _ pS hS
    refine ⟨_, rfl, S, rfl, ⟨_, SqL.of hS6⟩, fun D hD => lc_it (walk_list (K := K) (a := S) (xs := zs.map V.str)) (fun i H6 => (H6 S = some (.lst (zs.map V.str)) ∧ H6 d1 = some (.dK (kvsP tab1))) ∧ Dealt p H H6 D (zs.take i) wi (n + 10 + i)) ?_ (fun i H6 _ h6 => SqL.of h6.1.1) ?_ ?_⟩
    · exact ⟨⟨(Same.new hD) _ _ hS6, (Same.new hD) _ _ x1⟩, b6.new hD, P6.up (P6.ne hD), [], [], upd_same, .nil, rfl, fun _ h => nomatch h⟩
    · rintro i x H6 H7 hi ⟨e6, W6⟩ ⟨rfl, hx⟩
      rw [List.length_map] at hi
      have ex : x = V.str zs[i] := by
        rw [List.getElem?_map, List.getElem?_eq_getElem hi] at hx
        exact (Option.some.inj hx).symm
      subst ex
      refine ⟨rfl, _, rfl, _, rfl, _, rfl, p, _, wi, rfl, W6.pot, by omega, by omega, by omega, fun H8 k b8 f8 P8 k0 k1 => ⟨_, _, rfl, rfl, (show 2 ≤ sizeLine from nar (m := 2) (by decide) (by decide)), fun t ht => ?_⟩⟩
      have D0 : H D = none := b6.nul P6 hD
      obtain ⟨acc, a1, a2, W9⟩ := W6.next (z := zs[i]) (i := 1 + k) D0 b8 P8 (by omega) (by omega) ht (P6.ne hD).symm
      refine ⟨acc, a1, lt1 (by rw [a2, List.length_take]; omega), ⟨?_, ?_⟩, ?_⟩
      · have L8 := b8 _ _ pS e6.1
        rw [upd_ne (ne_of_none hS6 hD), upd_ne (ne_of_none L8 ht)]
        exact L8
      · have L8 := b8 _ _ np1 e6.2
        rw [upd_ne (ne_of_none x1 hD), upd_ne (ne_of_none L8 ht)]
        exact L8
      · have et : zs.take (i + 1) = zs.take i ++ [zs[i]] := by rw [List.take_add_one, List.getElem?_eq_getElem hi]; rfl
        rw [et]
        exact W9
    rintro H6 ⟨e6, W6⟩
    rw [List.length_map] at W6
    rw [List.take_length] at W6
    obtain ⟨ts2, tab2, w1, w2, w3, w42⟩ := W6.ex
    have nd2 : (tab2.map (·.1)).Nodup := by rw [w3]; exact ndz
    refine ⟨D, ts2, kvsP tab2, rfl, SqL.of w1, tups_sq w2, fun d2 hd2 => ?_⟩
    rw [merge_P0 nd2]
    have b7 := W6.but.new (o := .dK (kvsP tab2)) hd2
    have np2 : d2 ≠ p := (W6.pot.ne hd2).symm
    have P7 : Pot (upd H6 d2 (.dK (kvsP tab2))) p (n + 20) := (W6.pot.up np2.symm).mono (by omega)
    have x2 : (upd H6 d2 (.dK (kvsP tab2))) d2 = some (.dK (kvsP tab2)) := upd_same
    have x1' : (upd H6 d2 (.dK (kvsP tab2))) d1 = some (.dK (kvsP tab1)) := (Same.new hd2) _ _ e6.2
    have k2 : tab2.map (·.1) = zs := w3
    generalize upd H6 d2 (.dK (kvsP tab2)) = H7 at b7 P7 x2 x1' ⊢
    clear W6 e6 w1 w2 w3 hd2 hD b6 P6 x1 hS6
    -- the turns
    refine fun T hT => ?_
    have npT : T ≠ p := (P7.ne hT).symm
    have b8 := b7.new (o := .dT []) hT
    have P8 := P7.up (o := .dT []) npT.symm
    have y1 := (Same.new (o := .dT []) hT) _ _ x1'
    have y2 := (Same.new (o := .dT []) hT) _ _ x2
    have yT : (upd H7 T (.dT [])) T = some (.dT (kvsS [])) := upd_same
    have nT1 : d1 ≠ T := ne_of_none x1' hT
    have nT2 : d2 ≠ T := ne_of_none x2 hT
    have ST : S ≠ T := ne_of_none (b7 _ _ pS hS) hT
    have T0 : H T = none := b7.nul P7 hT
    generalize upd H7 T (.dT []) = H8 at b8 P8 y1 y2 yT ⊢
    have hS8 := b8 _ _ pS hS
    clear b7 P7 x2 x1' hT
    refine ⟨_, rfl, S, rfl, ⟨_, SqL.of hS8⟩, for_it (walk_list (K := K) (a := S) (xs := zs.map V.str)) (fun i σ H9 => (∃ o6 o7, σ = [some (.ref p), some (.ref S), some (.int wi), some (.ref d1), some (.ref d2), some (.ref T), o6, o7, none]) ∧ ∃ t : STab, (∀ q ∈ t, q.2 ≤ wi + 2) ∧ Trn zs p T H8 H9 t (3 * i) (n + 20 + 9 * i)) ?_ (fun i σ H9 _ h9 => by obtain ⟨_, t, _, W⟩ := h9; exact SqL.of (W.but _ _ pS ST hS8)) ?_ ?_⟩
    · exact ⟨⟨_, _, rfl⟩, [], (fun _ h => nomatch h), fun _ _ _ _ e => e, yT, P8, List.nodup_nil, Nat.zero_le _, (fun _ h => nomatch h), (fun _ h => nomatch h)⟩
    · rintro i x σ H9 H10 hi ⟨⟨o4, o8, rfl⟩, t, wb, W⟩ ⟨rfl, hx⟩
      rw [List.length_map] at hi
      have ex : x = V.str zs[i] := by
        rw [List.getElem?_map, List.getElem?_eq_getElem hi] at hx
        exact (Option.some.inj hx).symm
      subst ex
      have mi : zs[i] ∈ zs := List.getElem_mem hi
      generalize zs[i] = one at mi hx ⊢
      refine ⟨_, rfl, S, rfl, ⟨_, SqL.of (W.but _ _ pS ST hS8)⟩, for_it (walk_list (K := K) (a := S) (xs := zs.map V.str)) (fun j σ H11 => (∃ o7, σ = [some (.ref p), some (.ref S), some (.int wi), some (.ref d1), some (.ref d2), some (.ref T), some (.str one), o7, none]) ∧ ∃ t : STab, (∀ q ∈ t, q.2 ≤ wi + 2) ∧ Trn zs p T H8 H11 t (3 * i + j) (n + 20 + 9 * i + 3 * j)) ?_ (fun i σ H9 _ h9 => by obtain ⟨_, t, _, W⟩ := h9; exact SqL.of (W.but _ _ pS ST hS8)) ?_ ?_⟩
      · exact ⟨⟨_, rfl⟩, t, wb, W⟩
      · rintro j y σ H11 H12 hj ⟨⟨o8, rfl⟩, t, wb, W⟩ ⟨rfl, hy⟩
        rw [List.length_map] at hj
        have ey : y = V.str zs[j] := by
          rw [List.getElem?_map, List.getElem?_eq_getElem hj] at hy
          exact (Option.some.inj hy).symm
        subst ey
        have mj : zs[j] ∈ zs := List.getElem_mem hj
        generalize zs[j] = other at mj hy ⊢
        refine ⟨_, rfl, _, rfl, rfl, _, rfl, ?_⟩
        by_cases h : one = other
        · have e : (!decide (V.str one = V.str other)) = false := by rw [decide_eq_true (by rw [h])]; rfl
          rw [e]
          exact iteF (iteF ⟨⟨_, rfl⟩, t, wb, W.but, W.out, W.pot.mono (by omega), W.nd, Nat.le_trans W.le (by omega), W.ok, W.key⟩)
        · have e : (!decide (V.str one = V.str other)) = true := by rw [decide_eq_false (fun z => h (by injection z))]; rfl
          rw [e]
          refine iteT ⟨_, rfl, p, _, 2, rfl, W.pot, by omega, by decide, by decide, fun H13 k b13 f13 P13 k0 k1 => ⟨rfl, _, rfl, ?_⟩⟩
          have W13 : Trn zs p T H8 H13 t (3 * i + j) (n + 20 + 9 * i + 3 * j + 1) := ⟨fun b o n1 n2 e => b13 _ _ n1 (W.but _ _ n1 n2 e), b13 _ _ npT W.out, P13, W.nd, W.le, W.ok, W.key⟩
          clear W b13 f13 P13
          by_cases hk : V.int k = V.int 0
          · rw [decide_eq_true hk]
            refine iteT ⟨_, rfl, _, rfl, _, _, rfl, rfl, p, _, wi + 2, rfl, W13.pot, by omega, by omega, by omega, fun H15 m b15 f15 P15 m0 m1 => ⟨_, _, rfl, rfl, _, rfl, _, rfl, _, rfl, (show 2 ≤ sizeLine from nar (m := 2) (by decide) (by decide)), fun tt htt => ?_⟩⟩
            have eT : H15 T = some (.dT (kvsS t)) := b15 _ _ npT W13.out
            have lt : t.length < 1000 := by have := W13.le; omega
            have nTt : T ≠ tt := ne_of_none eT htt
            refine ⟨T, _, rfl, .inr ⟨kvsS t, keyOf (one, other), tt, by rw [upd_ne nTt]; exact eT, rfl, upd_same, by rw [kvsS_len]; exact Nat.lt_of_lt_of_le lt (by decide), rfl⟩, ⟨_, rfl⟩, setT t (one, other) (1 + m), (fun q hq => by
              rcases mem_setT hq with hq | rfl
              · exact wb q hq
              · exact (by omega : 1 + m ≤ wi + 2)), fun b o n1 n2 e => ?_, ?_, ?_, setT_nd W13.nd, Nat.le_trans (len_setT _ _ _) (by have := W13.le; omega), fun q hq => ?_, fun q hq => ?_⟩
            · have e2 := b15 _ _ n1 (W13.but _ _ n1 n2 e)
              rw [upd_ne n2, upd_ne (ne_of_none e2 htt)]
              exact e2
            · rw [upd_same, putS_set]
            · exact ((P15.up (P15.ne htt)).up npT.symm).mono (by omega)
            · rcases mem_setT hq with hq | rfl
              · exact W13.ok q hq
              · exact ⟨(by omega : (1 : Int) ≤ 1 + m), (by omega : 1 + m ≤ 18)⟩
            · rcases (keys_setT _ _ _ _).mp hq with hq | rfl
              · exact W13.key q hq
              · exact ⟨mi, mj, h⟩
          · rw [decide_eq_false hk]
            exact iteF ⟨⟨_, rfl⟩, t, wb, W13.but, W13.out, W13.pot.mono (by omega), W13.nd, Nat.le_trans W13.le (by omega), W13.ok, W13.key⟩
      · rintro σ H11 ⟨⟨o8, rfl⟩, t, wb, W⟩
        rw [List.length_map] at W
        exact ⟨⟨_, _, rfl⟩, t, wb, W.but, W.out, W.pot.mono (by omega), W.nd, Nat.le_trans W.le (by omega), W.ok, W.key⟩
    · rintro σ H9 ⟨⟨o4, o8, rfl⟩, t, wb, W⟩
      rw [List.length_map] at W
      refine ⟨_, rfl, _, rfl, _, rfl, (show 3 ≤ sizeLine from nar (m := 3) (by decide) (by decide)), fun L hL => ?_⟩
      have s5 : Same H9 (upd H9 L (.lst [.ref d1, .ref d2, .ref T])) := Same.new hL
      refine q _ L d1 d2 T tab1 tab2 t (fun b o nb e => s5 _ _ (W.but _ _ nb (fun z => by rw [z, T0] at e; cases e) (b8 _ _ nb e))) ⟨upd_same, s5 _ _ (W.but _ _ np1 nT1 y1), s5 _ _ (W.but _ _ np2 nT2 y2), s5 _ _ W.out⟩ ?_ k1 k2 w4 w42 (fun q hq => ⟨(W.ok q hq).1, wb q hq⟩) ((pot_same s5 W.pot).mono (by omega))
      have mem1 : ∀ z, z ∈ tab1.map (·.1) ↔ z ∈ zs := fun z => by rw [k1]
      refine ⟨⟨fun p hp => sg.sg _ ((mem1 _).mp (List.mem_map.mpr ⟨p, hp, rfl⟩)), nd1, ?_, ?_, ?_, fun p hp => ?_⟩, W.nd, ?_⟩
      · have := congrArg List.length k1
        rw [List.length_map] at this
        omega
      · rw [k1, k2]
      · have := W.le
        omega
      · have h := W.key _ (List.mem_map.mpr ⟨p, hp, rfl⟩)
        exact ⟨(mem1 _).mpr h.1, (mem1 _).mpr h.2.1, h.2.2⟩
      · unfold rightB
        simp only [Bool.and_eq_true]
        refine ⟨?_, ?_, ?_, ?_⟩
        · exact List.all_eq_true.mpr fun p hp => nw_in (w4 p hp).1 (Int.le_trans (w4 p hp).2 wi9) (by decide)
        · cases tab1 with
          | nil => exact absurd k1.symm sg.ne
          | cons _ _ => rfl
        · exact List.all_eq_true.mpr fun p hp => nw_in (w42 p hp).1 (Int.le_trans (w42 p hp).2 wi9) (by decide)
        · exact List.all_eq_true.mpr fun p hp => nw_in (W.ok p hp).1 (W.ok p hp).2 (by decide)
end
end Mk

set_option Elab.async false
set_option linter.all false
set_option maxRecDepth 100000
set_option maxHeartbeats 4000000
/-! rows of words: one only; so many times the prices -/
namespace Mk
open PySem PySem.Spec L2 PyProof.Rows

theorem RwW.one {m : Mch} {c : Str → Str → Int} {zs : List Str} {a : List Int} (h : RwW m c zs a) : ∀ b, RwW m c zs b → a = b := by
  induction h with
  | @nil ns l h =>
    intro b hb
    generalize e : ([] : List Str) = zs at hb
    cases hb with
    | nil l' h' =>
      refine List.ext_getElem (by rw [l, l']) fun j h1 h2 => ?_
      have e1 := h j h1
      have e2 := h' j h2
      rw [e1] at e2
      exact Option.some.inj e2
    | snoc h' l' k' => simp at e
  | @snoc zs ns ms z h l k ih =>
    intro b hb
    generalize e : zs ++ [z] = zs' at hb
    cases hb with
    | nil l' h' => simp at e
    | @snoc zs2 ns2 _ z2 h' l' k' =>
      obtain ⟨e1, e2⟩ := List.append_inj' e rfl
      cases e2
      subst e1
      have := ih _ h'
      subst this
      exact List.ext_getElem (by rw [l, l']) fun j h1 h2 => (k j h1).one (k' j h2)
theorem getD_map_mul {ns : List Int} {k : Int} {i : Nat} : (ns.map (· * k)).getD i 0 = ns.getD i 0 * k := by
  rw [List.getD_eq_getElem?_getD, List.getElem?_map, List.getD_eq_getElem?_getD]
  cases ns[i]? with
  | none => exact (Int.zero_mul k).symm
  | some x => rfl
theorem RwW.mul {m : Mch} {c c' : Str → Str → Int} {k : Int} {Pl : List Str} (hk : 0 ≤ k) (hc : ∀ x ∈ Pl, ∀ y ∈ Pl, c' x y = c x y * k) (em : ("" : Str) ∈ Pl) (hm : ∀ q ∈ m, ∀ p ∈ q.1, p.1 ∈ Pl) {zs : List Str} {ns : List Int} (h : RwW m c zs ns) (hz : ∀ z ∈ zs, z ∈ Pl) : RwW m c' zs (ns.map (· * k)) := by
  have hE : ∀ q ∈ m, ∀ p ∈ q.1, c' "" p.1 = c "" p.1 * k := fun q hq p hp => hc _ em _ (hm q hq p hp)
  induction h with
  | nil l h =>
    refine .nil (by rw [List.length_map, l]) fun j hj => ?_
    rw [List.length_map] at hj
    rw [Eg_mul hk hE, h j hj, List.getElem_map]
    rfl
  | @snoc zs ns ms z h l k' ih =>
    have zP := hz z (List.mem_append_right _ (List.mem_singleton.mpr rfl))
    refine .snoc (ih fun z h => hz z (List.mem_append_left _ h)) (by rw [List.length_map, l]) fun j hj => ?_
    rw [List.length_map] at hj
    rw [List.getElem_map]
    exact (k' j hj).mul hk hE (fun q hq p hp => hc _ zP _ (hm q hq p hp)) (hc _ zP _ em) fun i _ => getD_map_mul
theorem cut_tup {K : PySem.W.Frag} {H : Hp} {a : Addr} {ns : List Int} (e : H a = some (.tup (ns.map V.int))) : Dp K H (.ref a) (.tuple (ns.map PyData.int)) := .tup (SqT.of e) (dpall_ints _)
/-- two tuples of the same integers -/
theorem ne_rows {K : PySem.W.Frag} {H : Hp} {a b : Addr} {ns ms : List Int} {Q : VK} (ha : H a = some (.tup (ns.map V.int))) (hb : H b = some (.tup (ms.map V.int))) (e : ns = ms) (q : Q (.bl false) H) : rNeD K (.ref a) (.ref b) H Q := by
  subst e
  refine ⟨_, _, cut_tup ha, cut_tup hb, shaped_intsT _, shaped_intsT _, ?_⟩
  rw [SeqAt.eqv_refl _ (SeqAt.canLay_of_shaped (shaped_intsT _))]
  exact q
section
variable {t1 t2 u1 u2 : PTab} {t3 u3 : STab}
theorem plc_perm (p1 : u1.Perm t1) {x : Str} : x ∈ plc u1 ↔ x ∈ plc t1 := by
  have := (p1.map (·.1)).mem_iff (a := x)
  show x ∈ ("" : Str) :: u1.map (·.1) ↔ x ∈ ("" : Str) :: t1.map (·.1)
  rw [List.mem_cons, List.mem_cons, this]
theorem cc_perm (R : RtT t1 t2 t3) (p1 : u1.Perm t1) (p2 : u2.Perm t2) (p3 : u3.Perm t3) {x y : Str} (hx : x ∈ plc t1) (hy : y ∈ plc t1) : cc u1 u2 u3 x y = cc t1 t2 t3 x y := by
  have h := cl_of (R.perm p1 p2 p3)
  refine IsCl.uniq (P := plc t1) (d := dd t1 t2 t3) ⟨fun x hx => h.zero x ((plc_perm p1).mpr hx), fun x hx y hy z hz => h.tri x ((plc_perm p1).mpr hx) y ((plc_perm p1).mpr hy) z ((plc_perm p1).mpr hz), fun x hx y hy => ?_, fun F hF z hz y hy => ?_⟩ (cl_of R) hx hy
  · rw [← dd_perm R.ag R.nd p1 p2 p3]
    exact h.le x ((plc_perm p1).mpr hx) y ((plc_perm p1).mpr hy)
  · refine h.max F (fun z hz y hy => ?_) z ((plc_perm p1).mpr hz) y ((plc_perm p1).mpr hy)
    have hz' := (plc_perm p1).mp hz
    have hy' := (plc_perm p1).mp hy
    rw [dd_perm R.ag R.nd p1 p2 p3]
    exact hF z hz' y hy'
end
end Mk

set_option Elab.async false
set_option linter.all false
set_option maxRecDepth 100000
set_option maxHeartbeats 4000000
/-! whether prices so many times make rows so many times -/
namespace Mk
open PySem PySem.Spec L2 PyProof.Rows

theorem FmAt.but0 {C : Addr} {H H' : Hp} {x p : Addr} {n : Nat} {m : Mch} (h : FmAt C H x m) (P : Pot H p n) (B : But p H H') : FmAt C H' x m := by
  obtain ⟨dx, t, e, ss, et, pt⟩ := h
  have k : ∀ {b : Addr} {o : HO}, (∀ ys, o ≠ .lst ys) → H b = some o → H' b = some o := fun {b o} n e => B _ _ (P.not e fun i j k => n _) e
  exact ⟨dx, t, k (fun _ z => nomatch z) e, ss, k (fun _ z => nomatch z) et, L2.Paired.mapP pt fun _ _ ⟨d, a, b⟩ => ⟨d, k (fun _ z => nomatch z) a, k (fun _ z => nomatch z) b⟩⟩
theorem PrAt.but1 {C : Addr} {H H' : Hp} {x p : Addr} {n : Nat} {t1 t2 : PTab} {t3 : STab} (h : PrAt C H x t1 t2 t3) (P : Pot H p n) (B : But p H H') : PrAt C H' x t1 t2 t3 := by
  obtain ⟨dx, t, a, b, c, e, et, T⟩ := h
  have k : ∀ {b : Addr} {o : HO}, (∀ ys, o ≠ .lst ys) → H b = some o → H' b = some o := fun {b o} n e => B _ _ (P.not e fun i j k => n _) e
  exact ⟨dx, t, a, b, c, k (fun _ z => nomatch z) e, k (fun _ z => nomatch z) et, ⟨k (fun _ z => nomatch z) T.1, k (fun _ z => nomatch z) T.2, k (fun _ z => nomatch z) T.3⟩⟩
theorem But.sm {p : Addr} {H H1 H2 : Hp} (B : But p H H1) (s : Same H1 H2) : But p H H2 := fun b o n e => s _ _ (B b o n e)
theorem Pot.sm1 {p : Addr} {n : Nat} {H H' : Hp} (h : Pot H p n) (k : Same H H') : Pot H' p n := by
  obtain ⟨u, m, c, e, r⟩ := h
  exact ⟨u, m, c, k _ _ e, r⟩
section
variable {P : Program} {w : World} {K : PySem.W.Frag} {mg : Str → Option Value} {base : Heap} {CP CF CR : Addr}
end
end Mk

set_option Elab.async false
set_option linter.all false
set_option maxRecDepth 100000
set_option maxHeartbeats 4000000
/-! drawn rows: what is asked of them -/
namespace Mk
open PySem PySem.Spec L2 PyProof.Rows

theorem gd_at {ns : List Int} {i : Nat} (h : i < ns.length) : ns.getD i 0 = ns[i] := by
  rw [List.getD_eq_getElem?_getD, List.getElem?_eq_getElem h]
  rfl
section
variable {m : Mch} {c : Str → Str → Int} {sg : Str} {ns ns' ms ms' : List Int}
end
end Mk

set_option Elab.async false
set_option linter.all false
set_option maxRecDepth 100000
set_option maxHeartbeats 1000000
/-! rows of words are the least costs to words that lead to the states -/
namespace Mk
open PySem L2

/-- a word, its last sign first, leads to j -/
inductive Led (m : Mch) : List Str → Nat → Prop
  | nil : Led m [] 0
  | step {v : List Str} {i : Nat} {z : Str} {to : Int} : Led m v i → (z, to) ∈ mvs m (i : Int) → Led m (z :: v) to.toNat
section
variable {m : Mch} {c : Str → Str → Int}
theorem Led.rg (w : WF m) (h0 : 0 < m.length) {v : List Str} {j : Nat} (h : Led m v j) : j < m.length := by
  cases h with
  | nil => exact h0
  | step l hz => exact mv_rg w hz
theorem mvs_look (w : WF m) {i : Nat} {z : Str} {to : Int} (h : (z, to) ∈ mvs m (i : Int)) : z ∈ (mvs m (i : Int)).map (·.1) ∧ look (mvs m (i : Int)) z = to := by
  refine ⟨List.mem_map.mpr ⟨_, h, rfl⟩, look_mem (t := mvs m (i : Int)) ?_ (z, to) h⟩
  obtain ⟨q, hq, e, _⟩ := mvs_mem h
  rw [← e]
  exact w.nd q hq
theorem Eg_step {d : Str → Int} (w : WF m) (hd : ∀ q ∈ m, ∀ p ∈ q.1, 0 ≤ d p.1) {v i : Nat} {g : Int} {z : Str} {to : Int} (e : Eg m d m.length v i = some g) (hv : v < m.length) (hi : i < m.length) (h : (z, to) ∈ mvs m (i : Int)) :
    ∃ g', Eg m d m.length v to.toNat = some g' ∧ g' ≤ g + d z := by
  obtain ⟨hz, el⟩ := mvs_look w h
  have ht := mv_rg w h
  obtain ⟨x, hx, lx⟩ := (lo_trans (Eg_edg (m := m) (c := d) (i := i) (j := to.toNat) m.length) (by have := edg_le (m := m) (c := d) hz; rwa [el] at this)) (d z) rfl
  obtain ⟨y, hy, ly⟩ := Eg_tri (m := m) (c := d) hd m.length (Nat.le_refl _) i v to.toNat hi hv ht (g + x) (by rw [e, hx]; rfl)
  exact ⟨y, hy, by omega⟩
/-- a row does not fall over a move -/
def Cls0 (m : Mch) (c : Str → Str → Int) (ns : List Int) : Prop := ∀ i z to, i < m.length → (z, to) ∈ mvs m (i : Int) → ns.getD to.toNat 0 ≤ ns.getD i 0 + c "" z
theorem rw_cls (w : WF m) (c1 : ∀ q ∈ m, ∀ p ∈ q.1, 0 ≤ c "" p.1) {zs : List Str} {ns : List Int} (h : RwW m c zs ns) : Cls0 m c ns := by
  have ln := h.len
  intro i z to hi hz
  have ht := mv_rg w hz
  rw [gd_at (by omega), gd_at (by omega)]
  cases h with
  | nil l k =>
    obtain ⟨g', e, le⟩ := Eg_step (d := c "") w c1 (k i (by omega)) (by omega) hi hz
    have := k to.toNat (by omega)
    rw [e] at this
    have := Option.some.inj this
    omega
  | @snoc zs ns0 _ s h l k =>
    obtain ⟨i0, via, pr, g, h0, st, eg, ev⟩ := (k i (by omega)).at_
    have hv : via < m.length := by
      rcases st with ⟨rfl, _⟩ | ⟨z', t', hz', rfl, _⟩
      · exact h0
      · exact mv_rg w hz'
    obtain ⟨g', e, le⟩ := Eg_step (d := c "") w c1 eg hv hi hz
    have := (k to.toNat (by omega)).le i0 via pr g' h0 st e
    omega
/-- no word that leads to a state costs less than the row says -/
theorem rw_le (w : WF m) (c1 : ∀ q ∈ m, ∀ p ∈ q.1, 0 ≤ c "" p.1) (h0 : 0 < m.length) {zs : List Str} {ns : List Int} (h : RwW m c zs ns) : ∀ {v : List Str} {n : Int}, Aln ("" : Str) c zs.reverse v n → ∀ {j : Nat}, Led m v j → ns.getD j 0 ≤ n := by
  have N := Eg_nng (m := m) (c := c "") c1 m.length (Nat.le_refl _)
  induction h with
  | @nil ns l k =>
    intro v
    induction v with
    | nil =>
      intro n a j hl
      cases hl
      cases a
      rw [gd_at (by omega)]
      have e := k 0 (by omega)
      rw [N.se 0 h0] at e
      have := Option.some.inj e
      omega
    | cons b v ih =>
      intro n a j hl
      cases hl with
      | @step _ i _ to hl hz =>
        cases a with
        | put a =>
          have h1 := ih a hl
          have h2 := rw_cls w c1 (.nil l k) i b to (hl.rg w h0) hz
          omega
  | @snoc zs ns0 ms s h l k ih0 =>
    have Mc := rw_cls w c1 (.snoc h l k)
    have ln := h.len
    have at0 : ∀ {j i via : Nat} {pr : Int}, i < m.length → via < m.length → Stp m c s i via pr → via = j → ms.getD j 0 ≤ ns0.getD i 0 + pr := fun {j i via pr} hi hv st e => by
      subst e
      rw [gd_at (by omega)]
      have := (k via (by omega)).le i via pr 0 hi st (N.se via hv)
      omega
    rw [List.reverse_append]
    intro v
    induction v with
    | nil =>
      intro n a j hl
      have hj := hl.rg w h0
      cases a with
      | out a =>
        have h1 := ih0 a hl
        have h2 := at0 (j := j) hj hj (.inl ⟨rfl, rfl⟩) rfl
        omega
    | cons b v ih =>
      intro n a j hl
      have hj := hl.rg w h0
      cases a with
      | put a =>
        cases hl with
        | @step _ i _ to hl hz =>
          have h1 := ih a hl
          have h2 := Mc i b to (hl.rg w h0) hz
          omega
      | out a =>
        have h1 := ih0 a hl
        have h2 := at0 (j := j) hj hj (.inl ⟨rfl, rfl⟩) rfl
        omega
      | sub a =>
        cases hl with
        | @step _ i _ to hl hz =>
          have h1 := ih0 a hl
          have h2 := at0 (j := to.toNat) (hl.rg w h0) hj (.inr ⟨b, to, hz, rfl, rfl⟩) rfl
          omega
theorem pth_led (w : WF m) {i j : Nat} {L : List Nat} {x : Int} (p : Pth (edg m (c "")) i L j x) : ∀ {u v : List Str} {n : Int}, Led m v i → Aln ("" : Str) c u v n → ∃ v', Led m v' j ∧ Aln ("" : Str) c u v' (n + x) := by
  induction p with
  | one => exact fun {u v n} l a => ⟨v, l, by rw [Int.add_zero]; exact a⟩
  | @snoc L s t x y _ k ih =>
    intro u v n l a
    obtain ⟨v', l', a'⟩ := ih l a
    rcases edg_is k with ⟨rfl, rfl⟩ | ⟨z, hz, e, rfl⟩
    · exact ⟨v', l', by rw [Int.add_zero]; exact a'⟩
    · obtain ⟨q, hq, eq⟩ := List.mem_map.mp hz
      obtain ⟨z', to⟩ := q
      have eq : z' = z := eq
      subst eq
      obtain ⟨_, el⟩ := mvs_look w hq
      rw [el] at e
      subst e
      refine ⟨_, .step l' hq, ?_⟩
      rw [← Int.add_assoc]
      exact .put a'
/-- and some word costs just that -/
theorem rw_at (w : WF m) {zs : List Str} {ns : List Int} (h : RwW m c zs ns) : ∀ {j : Nat}, j < m.length → ∃ v, Led m v j ∧ Aln ("" : Str) c zs.reverse v (ns.getD j 0) := by
  induction h with
  | @nil ns l k =>
    intro j hj
    obtain ⟨L, p⟩ := Eg_pth _ _ _ _ (k j (by omega))
    obtain ⟨v, hl, a⟩ := pth_led w p (u := []) .nil .nil
    rw [gd_at (by omega)]
    rw [Int.zero_add] at a
    exact ⟨v, hl, a⟩
  | @snoc zs ns0 ms s h l k ih =>
    intro j hj
    obtain ⟨i, via, pr, g, hi, st, eg, e⟩ := (k j (by omega)).at_
    obtain ⟨v, hl, a⟩ := ih hi
    obtain ⟨L, p⟩ := Eg_pth _ _ _ _ eg
    rw [gd_at (by omega), e, List.reverse_append]
    rcases st with ⟨rfl, rfl⟩ | ⟨z, to, hz, rfl, rfl⟩
    · exact pth_led w p hl (.out a)
    · exact pth_led w p (.step hl hz) (.sub a)
theorem aln_len {u v : List Str} {n k : Int} (h : Aln ("" : Str) c u v n) (k0 : 0 ≤ k) : (∀ x ∈ u, 0 ≤ c x "") → (∀ x ∈ u, ∀ y ∈ v, 0 ≤ c x y) → (∀ y ∈ v, k ≤ c "" y) → ((v.length : Int) - u.length) * k ≤ n := by
  induction h with
  | nil => exact fun _ _ _ => by simp
  | @put u v b n _ ih =>
    intro h1 h2 h3
    have := ih h1 (fun x hx y hy => h2 x hx y (List.mem_cons_of_mem _ hy)) fun y hy => h3 y (List.mem_cons_of_mem _ hy)
    have := h3 b List.mem_cons_self
    rw [List.length_cons]
    have e : (((v.length + 1 : Nat) : Int) - u.length) * k = ((v.length : Int) - u.length) * k + k := by
      rw [Int.natCast_add, show (v.length : Int) + ((1 : Nat) : Int) - u.length = ((v.length : Int) - u.length) + 1 by omega, Int.add_mul, Int.one_mul]
    omega
  | @out u v a n _ ih =>
    intro h1 h2 h3
    have := ih (fun x hx => h1 x (List.mem_cons_of_mem _ hx)) (fun x hx y hy => h2 x (List.mem_cons_of_mem _ hx) y hy) h3
    have := h1 a List.mem_cons_self
    rw [List.length_cons]
    have e : ((v.length : Int) - (u.length + 1 : Nat)) * k = ((v.length : Int) - u.length) * k - k := by
      rw [Int.natCast_add, show (v.length : Int) - ((u.length : Int) + ((1 : Nat) : Int)) = ((v.length : Int) - u.length) - 1 by omega, Int.sub_mul, Int.one_mul]
    omega
  | @sub u v a b n _ ih =>
    intro h1 h2 h3
    have := ih (fun x hx => h1 x (List.mem_cons_of_mem _ hx)) (fun x hx y hy => h2 x (List.mem_cons_of_mem _ hx) y (List.mem_cons_of_mem _ hy)) fun y hy => h3 y (List.mem_cons_of_mem _ hy)
    have := h2 a List.mem_cons_self b List.mem_cons_self
    rw [List.length_cons, List.length_cons]
    have e : ((v.length + 1 : Nat) : Int) - ((u.length + 1 : Nat) : Int) = (v.length : Int) - u.length := by omega
    rw [e]
    omega
end
end Mk

set_option Elab.async false
set_option linter.all false
set_option maxRecDepth 100000
set_option maxHeartbeats 1000000
/-! how great the numbers of a word's row are -/
namespace Mk
open PySem L2

section
variable {m : Mch} {c : Str → Str → Int}
theorem pth_len {e : Nat → Nat → Option Int} {B : Int} {v : Nat} (nb : ∀ s t w, e s t = some w → w ≤ B) {L : List Nat} {t : Nat} {x : Int} (h : Pth e v L t x) : x + B ≤ (L.length : Int) * B := by
  induction h with
  | one => simp
  | @snoc L s t x w _ k ih =>
    have h2 := nb _ _ _ k
    rw [List.length_append]
    have e1 : (((L.length + [t].length : Nat) : Int)) * B = (L.length : Int) * B + B := by
      show (((L.length + 1 : Nat) : Int)) * B = _
      rw [Int.natCast_add, Int.add_mul, show ((1 : Nat) : Int) = 1 from rfl, Int.one_mul]
    omega
theorem aln_outs {B : Int} : ∀ {u : List Str}, (∀ z ∈ u, c z "" ≤ B) → ∃ n, Aln ("" : Str) c u [] n ∧ n ≤ (u.length : Int) * B
  | [], _ => ⟨0, .nil, by simp⟩
  | a :: u, h => by
    obtain ⟨n, h1, h2⟩ := aln_outs (u := u) fun z hz => h z (List.mem_cons_of_mem _ hz)
    have h3 := h a List.mem_cons_self
    refine ⟨_, .out h1, ?_⟩
    have e1 : (((a :: u).length : Nat) : Int) * B = (u.length : Int) * B + B := by
      rw [List.length_cons, Int.natCast_add, Int.add_mul, show ((1 : Nat) : Int) = 1 from rfl, Int.one_mul]
    omega
theorem edg_all {i j : Nat} {x : Int} {d : Str → Int} {B : Int} (hB : 0 ≤ B) (h : edg m d i j = some x) (hd : ∀ q ∈ m, ∀ p ∈ q.1, d p.1 ≤ B) : x ≤ B := by
  rcases edg_is h with ⟨_, rfl⟩ | ⟨z, hz, _, rfl⟩
  · exact hB
  · obtain ⟨p, hp, rfl⟩ := List.mem_map.mp hz
    obtain ⟨q, hq, _, hpq⟩ := mvs_mem hp
    exact hd q hq p hpq
theorem rw_up (g : GoodM m) (c1 : ∀ q ∈ m, ∀ p ∈ q.1, 0 ≤ c "" p.1) {zs : List Str} {ns : List Int} (h : RwW m c zs ns) {B : Int} (B0 : 0 ≤ B) (hB : ∀ q ∈ m, ∀ p ∈ q.1, c "" p.1 ≤ B) (hz : ∀ z ∈ zs, c z "" ≤ B) {j : Nat} (hj : j < m.length) :
    ns.getD j 0 ≤ ((zs.length : Int) + m.length) * B := by
  obtain ⟨n, a, hn⟩ := aln_outs (c := c) (u := zs.reverse) (B := B) fun z hz' => hz z (List.mem_reverse.mp hz')
  have some1 := gaps_rch (c := c "") g.wf (i := 0) (j := (j : Int)) ⟨by omega, by have := g.ne; omega⟩ (g.rc j ⟨by omega, by omega⟩).1
  obtain ⟨x, ex⟩ := Option.isSome_iff_exists.mp some1
  obtain ⟨L, p⟩ := Eg_pth _ _ _ _ ex
  obtain ⟨L2, x2, p2, le2, nd⟩ := p.erase fun s t w e => edg_nn c1 e
  have rg := p2.all (fun y => y < m.length) (by have := g.ne; show (0 : Int).toNat < m.length; show 0 < m.length; omega) fun s t w hs e => by
    rcases edg_is e with ⟨rfl, _⟩ | ⟨z, hz', e2, _⟩
    · exact hs
    · obtain ⟨q, hq, _⟩ := List.mem_map.mp hz'
      have := look_rg g.wf (i := (s : Int)) hz'
      omega
  have ll : L2.length ≤ m.length := by
    have := nd_len (k := List.range m.length) nd fun y hy => List.mem_range.mpr (rg y hy)
    rwa [List.length_range] at this
  have lp := pth_len (B := B) (fun s t w e => edg_all B0 e hB) p2
  obtain ⟨v, lv, av⟩ := pth_led g.wf p2 (.nil : Led m [] 0) a
  have := rw_le g.wf c1 g.ne h av lv
  have mulB : (L2.length : Int) * B ≤ (m.length : Int) * B := Int.mul_le_mul_of_nonneg_right (by omega) B0
  rw [List.length_reverse] at hn
  rw [Int.add_mul]
  have this : ns.getD j 0 ≤ n + x2 := this
  omega
end
end Mk

set_option Elab.async false
set_option linter.all false
set_option maxRecDepth 100000
set_option maxHeartbeats 4000000
/-! the law's distance -/
namespace Mk
open PySem PySem.Spec L2 PyProof.Rows

abbrev sDsL : Stmt := top 103
abbrev nDsL : List Str := ["_law_table", "_law_one", "_law_other", "_law_rows", "_law_sign", "_law_left", "_law_row", "_law_at", "_law_right_here", "_law_both"]
/-- the law's dict of closed costs: one sign in the place of another one -/
def Tbl (H : Hp) (d : Addr) (Pl : List Str) (c : Str → Str → Int) : Prop := ∃ D : STab, H d = some (.dT (kvsS D)) ∧ ∀ x ∈ Pl, ∀ y ∈ Pl, y ≠ x → (x, y) ∈ kys D ∧ look D (x, y) = c x y
theorem Tbl.keep {H H' : Hp} {d : Addr} {Pl : List Str} {c : Str → Str → Int} (h : Tbl H d Pl c) (k : ∀ o, H d = some o → H' d = some o) : Tbl H' d Pl c := by
  obtain ⟨D, e, q⟩ := h
  exact ⟨D, k _ e, q⟩
theorem Tbl.get {H : Hp} {d t : Addr} {Pl : List Str} {c : Str → Str → Int} {x y : Str} (h : Tbl H d Pl c) (ht : H t = none) (hx : x ∈ Pl) (hy : y ∈ Pl) (ne : y ≠ x) : DGet (upd H t (.tup [.str x, .str y])) d (.ref t) (some (V.int (c x y))) := by
  obtain ⟨D, e, q⟩ := h
  obtain ⟨q1, q2⟩ := q x hx y hy ne
  have := valS q1
  rw [q2] at this
  exact .inr ⟨kvsS D, keyOf (x, y), t, .inl ((Same.new ht) _ _ e), rfl, upd_same, this.symm⟩
def spDsL : Sp := fun vs H Q _ => ∃ (u v : Str) (d : Addr) (Pl : List Str) (c : Str → Str → Int), vs = [.ref d, .str u, .str v] ∧ Tbl H d Pl c ∧ (∀ x ∈ Pl, c x x = 0) ∧ ("" : Str) ∈ Pl ∧ (∀ x ∈ sgs u, x ∈ Pl ∧ x ≠ "") ∧ (∀ x ∈ sgs v, x ∈ Pl ∧ x ≠ "") ∧ u.cps.size ≤ 300 ∧ v.cps.size ≤ 300 ∧
  ∀ H', Same H H' → Q (.int (crn ("" : Str) c (sgs u).reverse (sgs v).reverse)) H'
section
variable {P : Program} {w : World} {K : PySem.W.Frag} {mg : Str → Option Value} {base : Heap}
theorem scDsL : FnScope nDsL ["_law_table", "_law_one", "_law_other"] (defScope sDsL) := ⟨rfl, rfl, rfl, by decide +kernel, rfl, by decide +kernel, by decide +kernel⟩
theorem ok_dsL {f : Addr} {fd : FuncData} (F : Fun K "_law_distance" "_law_distance" sDsL f fd) (B : Bn mg) (En : En mg) (J : Cd P w K mg base 1 "_law_price" ["_law_table", "_law_one", "_law_other"] spPrc) : FnOk P w K mg base CX0 2 f fd ["_law_table", "_law_one", "_law_other"] spDsL := by
  obtain ⟨a1, d1, G1, m1, k1, b1⟩ := J.ex
  refine F.ok scDsL (fun vs H Q E h => ?_) (fun cdv A outer s H vs Q E hr h => ?_)
  · obtain ⟨u, v, ca, Pl, c, rfl, _⟩ := h
    rfl
  · obtain ⟨u, v, ca, Pl, c, rfl, hc, cz, e0, pu, pv', lu, lv, q⟩ := h
    have hu := hu_of hr
    refine ⟨_, pss_cons (ps_set (i := 3) scDsL.nd rfl (.inl rfl) (pe_lst (pa_cons (pe_lst (pa_cons pe_int pa_nil)) pa_nil)))
      (pss_cons (ps_for PassesOwn.never rfl (pi_str (pv 2)) (pg_name (i := 4) scDsL.nd rfl (.inl rfl))
        (pss_one (ps_expr (pe_bm PySem.F.plainAttrs_list PySem.F.slot_list_append PySem.F.type_list_append mt_append (pe_ix ix_list (pv 3) pe_int (fun _ _ => rfl)) (pa_cons (pe_op op_add (pe_ix ix_list (pe_ix ix_list (pv 3) pe_int (fun _ _ => rfl)) (pe_un un_neg pe_int) (fun _ _ => rfl)) (pe_dget hu (pv 0) (pe_tup (pa_cons pe_str (pa_cons (pv 4) pa_nil))) (fun _ _ => rfl))) pa_nil)))))
      (pss_cons (ps_for PassesOwn.never rfl (pi_str (pv 1)) (pg_name (i := 5) scDsL.nd rfl (.inl rfl))
        (pss_cons (ps_set (i := 6) scDsL.nd rfl (.inl rfl) (pe_lst (pa_cons (pe_op op_add (pe_ix ix_list (pe_ix ix_list (pv 3) (pe_un un_neg pe_int) (fun _ _ => rfl)) pe_int (fun _ _ => rfl)) (pe_dget hu (pv 0) (pe_tup (pa_cons (pv 5) (pa_cons pe_str pa_nil))) (fun _ _ => rfl))) pa_nil)))
        (pss_cons (ps_for PassesOwn.never rfl (pi_enumS (by rfl) En.en (pa_cons (pv 2) pa_nil)) (pg_tup rfl (pgs_cons (pg_name (i := 7) scDsL.nd rfl (.inl rfl)) (pgs_cons (pg_name (i := 8) scDsL.nd rfl (.inl rfl)) pgs_nil)))
          (pss_cons (ps_set (i := 9) scDsL.nd rfl (.inl rfl) (pe_op op_add (pe_ix ix_list (pe_ix ix_list (pv 3) (pe_un un_neg pe_int) (fun _ _ => rfl)) (pv 7) (fun _ _ => rfl)) (pe_call G1 (hr.mono (by decide)) (by rfl) m1 k1 b1 .nil pass0 (pa_cons (pv 0) (pa_cons (pv 5) (pa_cons (pv 8) pa_nil))))))
          (pss_one (ps_expr (pe_bm PySem.F.plainAttrs_list PySem.F.slot_list_append PySem.F.type_list_append mt_append (pv 6) (pa_cons (pe_callB (call_min3Nu rfl) (by rfl) B.min (by decide +kernel)
            (pa_cons (pv 9)
            (pa_cons (pe_op op_add (pe_ix ix_list (pe_ix ix_list (pv 3) (pe_un un_neg pe_int) (fun _ _ => rfl)) (pe_op op_add (pv 7) pe_int) (fun _ _ => rfl)) (pe_dget hu (pv 0) (pe_tup (pa_cons (pv 5) (pa_cons pe_str pa_nil))) (fun _ _ => rfl)))
            (pa_cons (pe_op op_add (pe_ix ix_list (pv 6) (pv 7) (fun _ _ => rfl)) (pe_dget hu (pv 0) (pe_tup (pa_cons pe_str (pa_cons (pv 8) pa_nil))) (fun _ _ => rfl))) pa_nil)))) pa_nil))))))
        (pss_one (ps_expr (pe_bm PySem.F.plainAttrs_list PySem.F.slot_list_append PySem.F.type_list_append mt_append (pv 3) (pa_cons (pv 6) pa_nil)))))))
      (pss_one (ps_ret (pe_ix ix_list (pe_ix ix_list (pv 3) (pe_un un_neg pe_int) (fun _ _ => rfl)) (pe_un un_neg pe_int) (fun _ _ => rfl)))))), ?_⟩
    have n1 : 1 ≤ sizeLine := by decide
    have n2 : 2 ≤ sizeLine := by decide
    have lt1 : ∀ {n : Nat}, n ≤ 1000 → n < sizeLine := fun h1 => by rw [sizeLine_eq]; omega
    refine ⟨n1, fun r0 hr0 => ⟨n1, fun R hR => ?_⟩⟩
    have s0 : Same H (upd (upd H r0 (.lst [.int 0])) R (.lst [.ref r0])) := Same.trans (Same.new hr0) (Same.new hR)
    have Rr : R ≠ r0 := (ne_of_none upd_same hR).symm
    have x0 : (upd (upd H r0 (.lst [.int 0])) R (.lst [.ref r0])) r0 = some (.lst (rowL c (sgs u) (sgs v) 0 1)) := by
      rw [upd_ne Rr.symm, upd_same, rowL_succ, cel_00]
      rfl
    have xR : (upd (upd H r0 (.lst [.int 0])) R (.lst [.ref r0])) R = some (.lst [.ref r0]) := upd_same
    have R0 : H R = none := by
      rw [upd_ne Rr] at hR
      exact hR
    have cn : ca ≠ r0 ∧ ca ≠ R := by
      obtain ⟨Dl, e, _⟩ := hc
      exact ⟨ne_of_none e hr0, ne_of_none e R0⟩
    have hc1 := hc.keep (s0 ca)
    generalize upd (upd H r0 (.lst [.int 0])) R (.lst [.ref r0]) = H1 at s0 x0 xR hc1 ⊢
    have lsu := sgs_len u
    have lsv := sgs_len v
    generalize hsu : sgs u = su at *
    generalize hsv : sgs v = sv at *
    refine ⟨_, rfl, v, rfl, for_it walk_str (fun j σ H2 => (∃ o4 o5 o6 o7 o8 o9, σ = [some (.ref ca), some (.str u), some (.str v), some (.ref R), o4, o5, o6, o7, o8, o9]) ∧ But r0 H1 H2 ∧ H2 r0 = some (.lst (rowL c su sv 0 (j + 1)))) ?_ (fun _ _ _ _ _ => trivial) ?_ ?_⟩
    · exact ⟨⟨_, _, _, _, _, _, rfl⟩, But.refl, x0⟩
    · rintro j x σ H2 H3 hj ⟨⟨o4, o5, o6, o7, o8, o9, rfl⟩, b2, e2⟩ ⟨rfl, cd, hx, rfl⟩
      have hj2 : j < sv.length := by omega
      have ex : (⟨#[cd]⟩ : Str) = sv[j] := by
        have := sgs_at hx
        rw [hsv, List.getElem?_eq_getElem hj2] at this
        exact (Option.some.inj this).symm
      rw [ex]
      have mj := pv' _ (List.getElem_mem hj2)
      have eR := b2 _ _ Rr xR
      have hc2 := hc1.keep (fun o e => b2 _ _ cn.1 e)
      refine ⟨_, rfl, R, _, _, _, rfl, rfl, SqL.of eR, atI_nat (j := 0) rfl, .inl ⟨rfl, _, SqL.of e2⟩, ?_⟩
      refine ⟨_, rfl, R, _, _, _, rfl, rfl, SqL.of eR, atI_nat (j := 0) rfl, _, rfl, r0, _, _, _, rfl, rfl, SqL.of e2, rowL_last 0 j, ?_⟩
      refine ⟨_, rfl, _, rfl, n2, fun t ht => ⟨ca, _, rfl, hc2.get ht e0 mj.1 mj.2, _, _, rfl, rfl, ?_⟩⟩
      have nt : r0 ≠ t := ne_of_none e2 ht
      refine ⟨r0, _, _, rfl, rfl, by rw [upd_ne nt]; exact e2, lt1 (by rw [rowL_len]; omega), ⟨_, _, _, _, _, _, rfl⟩, fun b o n e => ?_, ?_⟩
      · have e' := b2 _ _ n e
        rw [upd_ne n, upd_ne (ne_of_none e' ht)]
        exact e'
      · rw [upd_same, rowL_succ 0 (j + 1), cel_0s hj2]
    · rintro σ H2 ⟨⟨o4, o5, o6, o7, o8, o9, rfl⟩, b2, e2⟩
      have b2' : But r0 H H2 := (But.of_same s0).trans b2
      have eR := b2 _ _ Rr xR
      have s2 : Same H H2 := fun b o e => b2' _ _ (ne_of_none e hr0) e
      have hc2 := hc1.keep (fun o e => b2 _ _ cn.1 e)
      clear b2 b2' x0 xR hc1 s0
      refine ⟨_, rfl, u, rfl, for_it walk_str (fun i σ H3 => (∃ o4 o5 o6 o7 o8 o9, σ = [some (.ref ca), some (.str u), some (.str v), some (.ref R), o4, o5, o6, o7, o8, o9]) ∧ But R H2 H3 ∧ ∃ (rs : List V) (r : Addr), H3 R = some (.lst (rs ++ [.ref r])) ∧ rs.length = i ∧ r ≠ R ∧ H3 r = some (.lst (rowL c su sv i (v.cps.size + 1)))) ?_ (fun _ _ _ _ _ => trivial) ?_ ?_⟩
      · exact ⟨⟨_, _, _, _, _, _, rfl⟩, But.refl, [], r0, eR, rfl, Rr.symm, e2⟩
      · rintro i x σ H3 H4 hi ⟨⟨p4, p5, p6, p7, p8, p9, rfl⟩, b3, rs, r, f1, f2, f3, f4⟩ ⟨rfl, cd, hx, rfl⟩
        have hi2 : i < su.length := by omega
        have ex : (⟨#[cd]⟩ : Str) = su[i] := by
          have := sgs_at hx
          rw [hsu, List.getElem?_eq_getElem hi2] at this
          exact (Option.some.inj this).symm
        rw [ex]
        have mi := pu _ (List.getElem_mem hi2)
        have hc3 := hc2.keep (fun o e => b3 _ _ cn.2 e)
        refine ⟨_, rfl, _, rfl, R, _, _, _, rfl, rfl, SqL.of f1, at_last, r, _, _, _, rfl, rfl, SqL.of f4, rowL_at (j := 0) (Nat.succ_pos _), _, rfl, _, rfl, n2, fun t ht => ⟨ca, _, rfl, hc3.get ht mi.1 e0 mi.2.symm, _, _, rfl, rfl, n1, fun w hw => ?_⟩⟩
        have sW : Same H4 (upd (upd H4 t (.tup [.str su[i], .str ""])) w (.lst [.int (cel c su sv i 0 + c su[i] "")])) := Same.trans (Same.new ht) (Same.new hw)
        have w0 : H4 w = none := by
          cases e : H4 w with
          | none => rfl
          | some o =>
            have := (Same.new (o := .tup [.str su[i], .str ""]) ht) _ _ e
            rw [hw] at this
            cases this
        have eW : (upd (upd H4 t (.tup [.str su[i], .str ""])) w (.lst [.int (cel c su sv i 0 + c su[i] "")])) w = some (.lst (rowL c su sv (i + 1) 1)) := by
          rw [upd_same, rowL_succ, cel_s0 hi2]
          rfl
        have wr : r ≠ w := ne_of_none f4 w0
        have wR : R ≠ w := ne_of_none f1 w0
        have wc : ca ≠ w := by
          obtain ⟨Dl, e, _⟩ := hc3
          exact ne_of_none e w0
        have gr := sW _ _ f4
        have gR := sW _ _ f1
        have hc4 := hc3.keep (sW ca)
        show _
        generalize upd (upd H4 t (.tup [.str su[i], .str ""])) w (.lst [.int (cel c su sv i 0 + c su[i] "")]) = H5 at sW eW gr gR hc4 ⊢
        refine ⟨_, rfl, v, rfl, for_it walk_enumS (fun j σ H6 => (∃ o7 o8 o9, σ = [some (.ref ca), some (.str u), some (.str v), some (.ref R), p4, some (.str su[i]), some (.ref w), o7, o8, o9]) ∧ But w H5 H6 ∧ H6 w = some (.lst (rowL c su sv (i + 1) (j + 1)))) ?_ (fun _ _ _ _ _ => trivial) ?_ ?_⟩
        · exact ⟨⟨_, _, _, rfl⟩, But.refl, eW⟩
        · rintro j x σ H6 H7 hj ⟨⟨p7, p8, p9, rfl⟩, b6, e6⟩ ⟨T, cd, rfl, hT, rfl, hx⟩
          have hj2 : j < sv.length := by omega
          have ex : (⟨#[cd]⟩ : Str) = sv[j] := by
            have := sgs_at hx
            rw [hsv, List.getElem?_eq_getElem hj2] at this
            exact (Option.some.inj this).symm
          rw [ex]
          have mj := pv' _ (List.getElem_mem hj2)
          have nT : w ≠ T := ne_of_none e6 hT
          have b7 : But w H5 (upd H6 T (.tup [.int (j : Nat), .str sv[j]])) := fun b o n e => by
            have e' := b6 _ _ n e
            rw [upd_ne (ne_of_none e' hT)]
            exact e'
          have e7 : (upd H6 T (.tup [.int (j : Nat), .str sv[j]])) w = some (.lst (rowL c su sv (i + 1) (j + 1))) := by
            rw [upd_ne nT]
            exact e6
          have eT : (upd H6 T (.tup [.int (j : Nat), .str sv[j]])) T = some (.tup [.int (j : Nat), .str sv[j]]) := upd_same
          generalize upd H6 T (.tup [.int (j : Nat), .str sv[j]]) = H7 at b7 e7 eT ⊢
          have g7 := b7 _ _ wr gr
          have gR7 := b7 _ _ wR gR
          have hc7 := hc4.keep (fun o e => b7 _ _ wc e)
          refine ⟨T, _, rfl, SqT.of eT, rfl, _, _, rfl, _, _, rfl, rfl, ?_⟩
          have ej : (j : Int) + 1 = ((j + 1 : Nat) : Int) := by omega
          obtain ⟨Dl, eD, qD⟩ := id hc7
          refine ⟨_, rfl, _, rfl, R, _, _, _, rfl, rfl, SqL.of gR7, at_last, _, rfl, r, _, _, _, rfl, rfl, SqL.of g7, rowL_at (by omega), _, rfl, _, rfl, _, rfl, ca, su[i], sv[j], Dl, rfl, eD, fun n => (qD _ mi.1 _ mj.1 n.symm).1, fun H8 s8 => ⟨_, _, rfl, rfl, ?_⟩⟩
          have epr : (if su[i] = sv[j] then 0 else look Dl (su[i], sv[j])) = c su[i] sv[j] := by
            by_cases e : su[i] = sv[j]
            · rw [if_pos e, ← e, cz _ mi.1]
            · rw [if_neg e, (qD _ mi.1 _ mj.1 (fun z => e z.symm)).2]
          rw [epr]
          have g8 := s8 _ _ g7
          have gR8 := s8 _ _ gR7
          have e8 := s8 _ _ e7
          have hc8 := hc7.keep (s8 ca)
          have b8 := b7.sm s8
          clear epr eD qD eT g7 gR7 e7 hc7 b7 s8
          refine ⟨_, rfl, .inl ⟨rfl, _, SqL.of e8⟩, _, rfl, ?_⟩
          refine ⟨_, rfl, _, rfl, R, _, _, _, rfl, rfl, SqL.of gR8, at_last, _, rfl, _, _, rfl, rfl, r, _, _, _, rfl, rfl, SqL.of g8, (by show atI _ ((j : Int) + 1) = _; rw [ej]; exact rowL_at (by omega)), _, rfl, _, rfl, n2, fun t1 ht1 => ⟨ca, _, rfl, hc8.get ht1 mi.1 e0 mi.2.symm, _, _, rfl, rfl, ?_⟩⟩
          have s1 := Same.new (o := .tup [.str su[i], .str ""]) ht1
          have hc9 := hc8.keep (s1 ca)
          refine ⟨_, rfl, _, rfl, w, _, _, _, rfl, rfl, SqL.of (s1 _ _ e8), rowL_at (by omega), _, rfl, _, rfl, n2, fun t2 ht2 => ⟨ca, _, rfl, hc9.get ht2 e0 mj.1 mj.2, _, _, rfl, rfl, ?_⟩⟩
          have s2 := Same.trans s1 (Same.new (o := .tup [.str "", .str sv[j]]) ht2)
          refine ⟨_, _, _, _, rfl, min3_int _ _ _, ?_⟩
          refine ⟨w, _, _, rfl, rfl, s2 _ _ e8, lt1 (by rw [rowL_len]; omega), ⟨_, _, _, rfl⟩, fun b o n e => ?_, ?_⟩
          · rw [upd_ne n]
            exact s2 _ _ (b8 _ _ n e)
          · rw [upd_same, rowL_succ (i + 1) (j + 1), cel_ss hi2 hj2]
            congr 5
            omega
        · rintro σ H6 ⟨⟨p7, p8, p9, rfl⟩, b6, e6⟩
          have g6 := b6 _ _ wR gR
          refine ⟨_, rfl, .inl ⟨rfl, _, SqL.of g6⟩, _, rfl, R, _, _, rfl, rfl, g6, lt1 (by rw [List.length_append, f2]; show i + 1 ≤ 1000; omega), ⟨_, _, _, _, _, _, rfl⟩, fun b o n e => ?_, rs ++ [.ref r], w, upd_same, ?_, wR.symm, ?_⟩
          · rw [upd_ne n]
            have e' := b3 _ _ n e
            exact b6 _ _ (ne_of_none e' w0) (sW _ _ e')
          · rw [List.length_append, f2]
            rfl
          · rw [upd_ne wR.symm]
            exact e6
      · rintro σ H3 ⟨⟨p4, p5, p6, p7, p8, p9, rfl⟩, b3, rs, r, f1, f2, f3, f4⟩
        have e5 : cel c su sv u.cps.size v.cps.size = crn ("" : Str) c su.reverse sv.reverse := by
          unfold cel
          rw [List.take_of_length_le (Nat.le_of_eq lsu), List.take_of_length_le (Nat.le_of_eq lsv)]
        rw [rowL_succ, e5] at f4
        exact ⟨_, rfl, _, rfl, R, _, _, _, rfl, rfl, SqL.of f1, at_last, _, rfl, r, _, _, _, rfl, rfl, SqL.of f4, at_last, q _ (fun b o e => b3 _ _ (ne_of_none e R0) (s2 _ _ e))⟩
end
end Mk

set_option Elab.async false
set_option linter.all false
set_option maxRecDepth 100000
set_option maxHeartbeats 1000000
/-! the words of a form's moves, level by level -/
namespace Mk
open PySem L2

abbrev WSt := Str × Nat
def extW (m : Mch) (e : WSt) : List WSt := (keysM (mvs m (e.2 : Int))).map fun s => (e.1 ++ s, (look (mvs m (e.2 : Int)) s).toNat)
def levN (m : Mch) : Nat → List WSt
  | 0 => [("", 0)]
  | k + 1 => (levN m k).flatMap (extW m)
def fndN (m : Mch) : Nat → List WSt
  | 0 => [("", 0)]
  | k + 1 => fndN m k ++ levN m (k + 1)
/-- an entry of the table: its word leads to its state -/
structure EntOk (m : Mch) (k : Nat) (e : WSt) : Prop where
  led : Led m (sgs e.1).reverse e.2
  len : e.1.length = k
  rg : e.2 < m.length
  mv : ∀ z ∈ sgs e.1, ∃ q ∈ m, ∃ p ∈ q.1, p.1 = z
section
variable {m : Mch}
theorem keysM_mvs (w : WF m) {i : Nat} {s : Str} (h : s ∈ keysM (mvs m (i : Int))) : (s, look (mvs m (i : Int)) s) ∈ mvs m (i : Int) := by
  have hm := (keysM_perm (mvs m (i : Int))).mem_iff.mp h
  obtain ⟨p, hp, rfl⟩ := List.mem_map.mp hm
  obtain ⟨_, e⟩ := mvs_look w (z := p.1) (to := p.2) hp
  rw [e]
  exact hp
theorem ext_ok (w : WF m) {k : Nat} {e : WSt} (h : EntOk m k e) : ∀ x ∈ extW m e, EntOk m (k + 1) x := fun x hx => by
  obtain ⟨s, hs, rfl⟩ := List.mem_map.mp hx
  have hp := keysM_mvs w hs
  obtain ⟨q, hq, eq, hpq⟩ := mvs_mem hp
  have sg := w.sg q hq _ hpq
  have e1 : sgs (e.1 ++ s) = sgs e.1 ++ [s] := by rw [sgs_app, sgs_sg sg]
  refine ⟨?_, ?_, mv_rg w hp, ?_⟩
  · show Led m (sgs (e.1 ++ s)).reverse _
    rw [e1, List.reverse_append]
    exact .step h.led hp
  · show (e.1 ++ s).length = k + 1
    rw [← sgs_length, e1, List.length_append, sgs_length, h.len]
    rfl
  · intro z hz
    have hz : z ∈ sgs (e.1 ++ s) := hz
    rw [e1] at hz
    rcases List.mem_append.mp hz with hz | hz
    · exact h.mv z hz
    · rw [List.mem_singleton.mp hz]
      exact ⟨q, hq, _, hpq, rfl⟩
theorem sg_m1 (w : WF m) {v : List Str} {j : Nat} (h : Led m v j) : ∀ z ∈ v, sgB z = true := by
  induction h with
  | nil => exact fun z hz => nomatch hz
  | step l hz ih =>
    intro z hzz
    rcases List.mem_cons.mp hzz with rfl | hzz
    · obtain ⟨q, hq, _, hp⟩ := mvs_mem hz
      exact w.sg q hq _ hp
    · exact ih z hzz
theorem lev_ok (w : WF m) (h0 : 0 < m.length) : ∀ k, ∀ e ∈ levN m k, EntOk m k e
  | 0, e, he => by
    rw [List.mem_singleton.mp he]
    refine ⟨?_, rfl, h0, ?_⟩
    · show Led m (sgs "").reverse 0
      rw [sgs_em]
      exact .nil
    · show ∀ z ∈ sgs "", _
      rw [sgs_em]
      exact fun z hz => nomatch hz
  | k + 1, e, he => by
    obtain ⟨x, hx, hex⟩ := List.mem_flatMap.mp he
    exact ext_ok w (lev_ok w h0 k x hx) e hex
theorem lev_all (w : WF m) {v : List Str} {j : Nat} (h : Led m v j) : ∃ z : Str, (z, j) ∈ levN m v.length ∧ (sgs z).reverse = v := by
  induction h with
  | nil => exact ⟨"", List.mem_singleton.mpr rfl, by rw [sgs_em]; rfl⟩
  | @step v i z to l hz ih =>
    obtain ⟨y, hy, e⟩ := ih
    obtain ⟨k, el⟩ := mvs_look w hz
    obtain ⟨q, hq, _, hp⟩ := mvs_mem hz
    refine ⟨y ++ z, ?_, ?_⟩
    · rw [List.length_cons]
      refine List.mem_flatMap.mpr ⟨(y, i), hy, List.mem_map.mpr ⟨z, (keysM_perm _).mem_iff.mpr k, ?_⟩⟩
      show (y ++ z, (look (mvs m (i : Int)) z).toNat) = _
      rw [el]
    · rw [sgs_app, sgs_sg (w.sg q hq _ hp), List.reverse_append, e]
      rfl
theorem fnd_mem : ∀ {k : Nat} {e : WSt}, e ∈ fndN m k ↔ ∃ i, i ≤ k ∧ e ∈ levN m i
  | 0, e => ⟨fun h => ⟨0, Nat.le_refl _, h⟩, fun ⟨i, hi, h⟩ => by
    have : i = 0 := by omega
    subst this
    exact h⟩
  | k + 1, e => by
    unfold fndN
    rw [List.mem_append, fnd_mem]
    constructor
    · rintro (⟨i, hi, h⟩ | h)
      · exact ⟨i, by omega, h⟩
      · exact ⟨k + 1, Nat.le_refl _, h⟩
    · rintro ⟨i, hi, h⟩
      by_cases c : i = k + 1
      · subst c
        exact .inr h
      · exact .inl ⟨i, by omega, h⟩
theorem ext_len {d : Nat} (hd : ∀ q ∈ m, q.1.length ≤ d) (e : WSt) : (extW m e).length ≤ d := by
  unfold extW
  rw [List.length_map, (keysM_perm _).length_eq, List.length_map]
  unfold mvs
  rw [List.getD_eq_getElem?_getD]
  cases h : m[(e.2 : Int).toNat]? with
  | none => exact Nat.zero_le _
  | some q => exact hd q (List.mem_of_getElem? h)
theorem flatW_len {α β : Type} {f : α → List β} {d : Nat} (h : ∀ x, (f x).length ≤ d) : ∀ l : List α, (l.flatMap f).length ≤ d * l.length
  | [] => Nat.zero_le _
  | x :: l => by
    have := h x
    have := flatW_len h l
    rw [List.flatMap_cons, List.length_append, List.length_cons, Nat.mul_add, Nat.mul_one]
    omega
theorem lev_len (hd : ∀ q ∈ m, q.1.length ≤ 2) : ∀ k, (levN m k).length ≤ 2 ^ k
  | 0 => Nat.le_refl _
  | k + 1 => by
    have h1 := flatW_len (ext_len hd) (levN m k)
    have h2 := lev_len hd k
    rw [Nat.pow_succ]
    show ((levN m k).flatMap (extW m)).length ≤ _
    omega
theorem fnd_len (hd : ∀ q ∈ m, q.1.length ≤ 2) : ∀ k, (fndN m k).length < 2 ^ (k + 1)
  | 0 => by show 1 < 2; decide
  | k + 1 => by
    have h1 := fnd_len hd k
    have h2 := lev_len hd (k + 1)
    unfold fndN
    rw [List.length_append, Nat.pow_succ]
    omega
end
end Mk

set_option Elab.async false
set_option linter.all false
set_option maxRecDepth 100000
set_option maxHeartbeats 4000000
/-! the law's words that lead to states -/
namespace Mk
open PySem PySem.Spec L2 PyProof.Rows

abbrev sLed : Stmt := top 104
abbrev nLed : List Str := ["_law_plain", "_law_size", "_law_found", "_law_level", "_law_turn", "_law_longer", "_law_word_here", "_law_state", "_law_sign"]
def EntA (H : Hp) (t : Addr) (e : WSt) : Prop := H t = some (.tup [.str e.1, .int (e.2 : Int)])
def EntsA (H : Hp) (L : Addr) (es : List WSt) : Prop := ∃ ts : List Addr, H L = some (.lst (ts.map V.ref)) ∧ Paired (EntA H) ts es
def spLed : Sp := fun vs H Q _ => ∃ (L : Addr) (m : Mch) (n : Nat), vs = [.ref L, .int (n : Int)] ∧ PlAt H L m ∧ WF m ∧ 0 < m.length ∧ m.length ≤ 8 ∧ (∀ q ∈ m, q.1.length ≤ 2) ∧ n ≤ 9 ∧ ∀ H' F, Same H H' → H F = none → EntsA H' F (fndN m n) → Q (.ref F) H'
section
variable {P : Program} {w : World} {K : PySem.W.Frag} {mg : Str → Option Value} {base : Heap}
theorem scLed : FnScope nLed ["_law_plain", "_law_size"] (defScope sLed) := ⟨rfl, rfl, rfl, by decide +kernel, rfl, by decide +kernel, by decide +kernel⟩
theorem ok_led {f : Addr} {fd : FuncData} (F : Fun K "_law_led" "_law_led" sLed f fd) (B : Bn mg) (O : On mg) : FnOk P w K mg base CX0 1 f fd ["_law_plain", "_law_size"] spLed := by
  refine F.ok scLed (fun vs H Q E h => ?_) (fun cdv A outer s H vs Q E hr h => ?_)
  · obtain ⟨L, m, n, rfl, _⟩ := h
    rfl
  · have hu := hu_of hr
    obtain ⟨L, m, n, rfl, pl, wf, h0, lm, l2, n9, q⟩ := h
    refine ⟨_, pss_cons (ps_par (i := 2) (j := 3) rfl scLed.nd rfl rfl (by decide) rfl rfl (pa_cons (pe_lst (pa_cons (pe_tup (pa_cons pe_str (pa_cons pe_int pa_nil))) pa_nil)) (pa_cons (pe_lst (pa_cons (pe_tup (pa_cons pe_str (pa_cons pe_int pa_nil))) pa_nil)) pa_nil)) (by rfl))
      (pss_cons (ps_for PassesOwn.never rfl (pi_range1 (by rfl) B.range (pa_cons (pv 1) pa_nil)) (pg_name (i := 4) scLed.nd rfl (.inl rfl))
        (pss_cons (ps_set (i := 5) scLed.nd rfl (.inl rfl) (pe_lst pa_nil))
        (pss_cons (ps_for PassesOwn.never rfl (pi_list (pv 3)) (pg_tup rfl (pgs_cons (pg_name (i := 6) scLed.nd rfl (.inr rfl)) (pgs_cons (pg_name (i := 7) scLed.nd rfl (.inr rfl)) pgs_nil)))
          (pss_one (ps_expr (pe_bm PySem.F.plainAttrs_list PySem.F.slot_list_extend PySem.F.type_list_extend mt_extend (pv 5) (pa_cons (pe_lc (own := [("_law_sign", 8)]) (g := gName 8) (tt := tYes) rfl scLed.nd (pi_list (pe_callB (call_sortedD rfl) (by rfl) O.sorted (by decide +kernel) (pa_cons (pe_ix ix_list (pe_ix ix_list (pv 0) (pv 7) (fun _ _ => rfl)) pe_int (fun _ _ => rfl)) pa_nil))) (blkOk_by (N := nLed) (sc := defScope sLed) (by decide +kernel))
            (fun _ _ _ _ _ => pg_name (i := 8) scLed.nd rfl (Or.inl rfl)) (fun _ _ _ _ _ => pts_nil) (fun _ _ _ _ _ => pe_tup (pa_cons (pe_op op_add_str (pv 6) (pv 8)) (pa_cons (pe_dget hu (pe_ix (ix_listK K) (pe_ix (ix_listK K) (pv 0) (pv 7) (fun _ _ => rfl)) pe_int (fun _ _ => rfl)) (pv 8) (fun _ _ => rfl)) pa_nil)))) pa_nil)))))
        (pss_cons (ps_set (i := 3) scLed.nd rfl (.inl rfl) (pe_callTy call_list_of (by rfl) B.list (by decide +kernel) (pa_cons (pv 5) pa_nil)))
        (pss_one (ps_set (i := 2) scLed.nd rfl (.inl rfl) (pe_op op_cat (pv 2) (pv 5))))))))
      (pss_one (ps_ret (pv 2)))), ?_⟩
    have n1 : 1 ≤ sizeLine := by decide
    have n2 : 2 ≤ sizeLine := by decide
    have lt1 : ∀ {n : Nat}, n ≤ 3999 → n < sizeLine := fun h1 => by rw [sizeLine_eq]; omega
    have le1 : ∀ {n : Nat}, n ≤ 3999 → n ≤ sizeLine := fun h1 => Nat.le_of_lt (lt1 h1)
    obtain ⟨rs, eL, pt⟩ := id pl
    have lrs : rs.length = m.length := Paired.length pt
    refine ⟨n2, fun t1 h1 => ⟨n1, fun F h2 => ⟨n2, fun t2 h3 => ⟨n1, fun V0 h4 => ⟨_, _, rfl, ?_⟩⟩⟩⟩⟩
    have k1 := Same.new (o := .tup [V.str "", V.int 0]) h1
    have k2 := Same.new (o := .lst [V.ref t1]) h2
    have k3 := Same.new (o := .tup [V.str "", V.int 0]) h3
    have k4 := Same.new (o := .lst [V.ref t2]) h4
    have S0 := ((k1.trans k2).trans k3).trans k4
    have k34 := k3.trans k4
    have F0 : H F = none := k1.free h2
    have eF : EntsA (upd (upd (upd (upd H t1 (.tup [V.str "", V.int 0])) F (.lst [V.ref t1])) t2 (.tup [V.str "", V.int 0])) V0 (.lst [V.ref t2])) F (fndN m 0) := ⟨[t1], k34 _ _ upd_same, .cons (k34 _ _ (k2 _ _ upd_same)) .nil⟩
    have eV : EntsA (upd (upd (upd (upd H t1 (.tup [V.str "", V.int 0])) F (.lst [V.ref t1])) t2 (.tup [V.str "", V.int 0])) V0 (.lst [V.ref t2])) V0 (levN m 0) := ⟨[t2], upd_same, .cons (k4 _ _ upd_same) .nil⟩
    generalize upd (upd (upd (upd H t1 (.tup [V.str "", V.int 0])) F (.lst [V.ref t1])) t2 (.tup [V.str "", V.int 0])) V0 (.lst [V.ref t2]) = H0 at S0 eF eV ⊢
    clear k1 k2 k3 k4 k34 h1 h2 h3 h4
    refine ⟨_, rfl, (n : Int), rfl, by omega, by omega, for_range (lo := 0) (n := n) (fun k σ H1 => ∃ (F V0 : Addr) (o4 o5 o6 o7 : Option V), σ = [some (.ref L), some (.int (n : Int)), some (.ref F), some (.ref V0), o4, o5, o6, o7, none] ∧ Same H H1 ∧ H F = none ∧ EntsA H1 F (fndN m k) ∧ EntsA H1 V0 (levN m k)) ⟨F, V0, _, _, _, _, rfl, S0, F0, eF, eV⟩ ?_ ?_⟩
    · clear eF eV F0 S0
      rintro k σ H1 hk ⟨F, V0, o4, o5, o6, o7, rfl, S1, F0, ⟨fs, eF, pF⟩, vs, eV, pV⟩
      have b1 := lev_len l2 k
      have b2 := lev_len l2 (k + 1)
      have b3 := fnd_len l2 k
      have p1 : 2 ^ k ≤ 2 ^ 9 := Nat.pow_le_pow_right (by decide) (by omega)
      have p2 : 2 ^ (k + 1) ≤ 2 ^ 9 := Nat.pow_le_pow_right (by decide) (by omega)
      have p3 : (2 : Nat) ^ 9 = 512 := by decide
      have lvs : vs.length = (levN m k).length := Paired.length pV
      have lfs : fs.length = (fndN m k).length := Paired.length pF
      have lv := lev_ok wf h0 k
      refine ⟨Nat.zero_le _, fun G hG => ?_⟩
      have sG := Same.new (o := .lst []) hG
      have eG : (upd H1 G (.lst [])) G = some (.lst []) := upd_same
      have G0 : H G = none := S1.free hG
      generalize upd H1 G (.lst []) = H2 at sG eG ⊢
      have GV : V0 ≠ G := ne_of_none eV hG
      refine ⟨_, rfl, V0, rfl, ⟨_, SqL.of (sG _ _ eV)⟩, for_it (walk_list (K := K) (a := V0) (xs := vs.map V.ref)) (fun i σ H3 => (∃ o6 o7, σ = [some (.ref L), some (.int (n : Int)), some (.ref F), some (.ref V0), some (.int (0 + (k : Int))), some (.ref G), o6, o7, none]) ∧ But G H2 H3 ∧ EntsA H3 G (((levN m k).take i).flatMap (extW m))) ⟨⟨_, _, rfl⟩, But.refl, [], eG, .nil⟩ (fun i σ H3 _ h3 => SqL.of (h3.2.1 _ _ GV (sG _ _ eV))) ?_ ?_⟩
      · rintro i x σ H3 H4 hi ⟨⟨q6, q7, rfl⟩, b, gs, eG3, pG⟩ ⟨rfl, hx⟩
        rw [List.length_map] at hi
        have hi2 : i < (levN m k).length := by omega
        obtain ⟨e, he, eT⟩ := L2.paired_get pV (List.getElem?_eq_getElem hi)
        have he2 : e = (levN m k)[i] := by
          rw [List.getElem?_eq_getElem hi2] at he
          exact (Option.some.inj he).symm
        obtain rfl : V.ref vs[i] = x := by
          rw [List.getElem?_map, List.getElem?_eq_getElem hi] at hx
          exact Option.some.inj hx
        have eo := lv e (by rw [he2]; exact List.getElem_mem hi2)
        have nxt : ((levN m k).take (i + 1)).flatMap (extW m) = ((levN m k).take i).flatMap (extW m) ++ extW m e := by
          rw [List.take_add_one, List.getElem?_eq_getElem hi2, List.flatMap_append, he2]
          show _ ++ (extW m (levN m k)[i] ++ []) = _
          rw [List.append_nil]
        obtain ⟨wd0, j⟩ := e
        have hj : j < m.length := eo.rg
        have hw : wd0.length = k := eo.len
        have up : ∀ {b : Addr} {o : HO}, b ≠ G → H1 b = some o → H4 b = some o := fun n e => b _ _ n (sG _ _ e)
        have nG : ∀ {b : Addr} {o : HO}, H b = some o → b ≠ G := fun e => ne_of_none e G0
        have eT4 : H4 vs[i] = some (.tup [.str wd0, .int (j : Int)]) := up (ne_of_none eT hG) eT
        have eL4 : H4 L = some (.lst (rs.map V.ref)) := up (nG eL) (S1 _ _ eL)
        obtain ⟨⟨mv, la⟩, hq, d, g1, g2⟩ := L2.paired_get pt (List.getElem?_eq_getElem (by omega : j < rs.length))
        have g14 := up (nG g1) (S1 _ _ g1)
        have g24 := up (nG g2) (S1 _ _ g2)
        have emv : mvs m (j : Int) = mv := by
          unfold mvs
          rw [Int.toNat_natCast, List.getD_eq_getElem?_getD, hq]
          rfl
        have hqm := List.mem_of_getElem? hq
        have nd : (mv.map (·.1)).Nodup := wf.nd _ hqm
        have l5 : mv.length ≤ 2 := l2 _ hqm
        have eatj : atI (rs.map V.ref) (j : Int) = some (V.ref rs[j]) := atI_nat (by rw [List.getElem?_map, List.getElem?_eq_getElem (by omega)]; rfl)
        have lgs : gs.length = (((levN m k).take i).flatMap (extW m)).length := Paired.length pG
        have lfl : (((levN m k).take i).flatMap (extW m)).length ≤ 2 * i := by
          have := flatW_len (f := extW m) (ext_len l2) ((levN m k).take i)
          rw [List.length_take] at this
          omega
        refine ⟨vs[i], _, rfl, SqT.of eT4, rfl, _, _, rfl, _, _, rfl, rfl, ?_⟩
        refine ⟨_, rfl, .inl ⟨rfl, _, SqL.of eG3⟩, _, rfl, _, rfl, L, _, _, _, rfl, rfl, SqL.of eL4, eatj, rs[j], _, _, V.ref d, rfl, rfl, SqL.of g14, atI_nat (j := 0) rfl, ?_⟩
        refine ⟨d, kvsP mv, mv.map (·.1), rfl, .inl g24, kvsP_keys mv, by rw [List.length_map]; omega, fun ys p perm so hp => ?_⟩
        obtain rfl := sorted_keys perm so
        have ly : (keysM mv).length ≤ 2 := by rw [perm.length_eq, List.length_map]; exact l5
        refine ⟨p, rfl, ⟨_, SqL.of upd_same⟩, fun C hC => ?_⟩
        have ne : C ≠ p := fun e => by rw [e, upd_same] at hC; cases hC
        have hC0 : H4 C = none := by rwa [upd_ne ne] at hC
        refine lc_it (walk_list (K := K) (a := p) (xs := (keysM mv).map V.str)) (fun i2 H5 => Same H4 H5 ∧ H5 p = some (.lst ((keysM mv).map V.str)) ∧ ∃ us : List Addr, H5 C = some (.lst (us.map V.ref)) ∧ Paired (EntA H5) us ((extW m (wd0, j)).take i2)) ⟨Same.trans (Same.new hp) (Same.new hC), (upd_ne ne.symm).trans upd_same, [], upd_same, .nil⟩ (fun i2 H5 _ h5 => SqL.of h5.2.1) ?_ ?_
        · rintro i2 y H50 H5 hi3 ⟨s5, e5, us, eC, pU⟩ ⟨rfl, hy⟩
          rw [List.length_map] at hi3
          obtain rfl : V.str (keysM mv)[i2] = y := by
            rw [List.getElem?_map, List.getElem?_eq_getElem hi3] at hy
            exact Option.some.inj hy
          have mk : (keysM mv)[i2] ∈ mv.map (·.1) := perm.mem_iff.mp (List.getElem_mem hi3)
          have rg := look_rg wf (i := (j : Int)) (s := (keysM mv)[i2]) (by rw [emv]; exact mk)
          rw [emv] at rg
          have sg1 : (keysM mv)[i2].length = 1 := by
            obtain ⟨p', hp', e'⟩ := List.mem_map.mp mk
            rw [← e']
            exact sgB_len (wf.sg _ hqm p' hp')
          have lus := Paired.length pU
          have lext : (extW m (wd0, j)).length = (keysM mv).length := by
            unfold extW
            rw [List.length_map, emv]
          rw [List.length_take] at lus
          have nx2 : (extW m (wd0, j)).take (i2 + 1) = (extW m (wd0, j)).take i2 ++ [(wd0 ++ (keysM mv)[i2], (look mv (keysM mv)[i2]).toNat)] := by
            rw [List.take_add_one, List.getElem?_eq_getElem (by omega)]
            unfold extW
            rw [List.getElem_map]
            simp only [emv]
            rfl
          refine ⟨rfl, _, rfl, _, rfl, _, _, rfl, rfl, by rw [hw, sg1]; exact le1 (by omega), _, rfl, _, rfl, L, _, _, _, rfl, rfl, SqL.of (s5 _ _ eL4), eatj, rs[j], _, _, V.ref d, rfl, rfl, SqL.of (s5 _ _ g14), atI_nat (j := 0) rfl, _, rfl, d, V.int (look mv (keysM mv)[i2]), rfl, .inl ⟨kvsP mv, Sum.inr (keysM mv)[i2], .inl (s5 _ _ g24), rfl, (valP mk).symm⟩, n2, fun u hu => ?_⟩
          have s6 := Same.new (o := .tup [V.str (wd0 ++ (keysM mv)[i2]), V.int (look mv (keysM mv)[i2])]) hu
          have eu := (upd_same : upd H5 u (.tup [V.str (wd0 ++ (keysM mv)[i2]), V.int (look mv (keysM mv)[i2])]) u = _)
          generalize upd H5 u (.tup [V.str (wd0 ++ (keysM mv)[i2]), V.int (look mv (keysM mv)[i2])]) = H7 at s6 eu ⊢
          have eC7 := s6 _ _ eC
          have e57 := s6 _ _ e5
          refine ⟨_, eC7, lt1 (by rw [List.length_map]; omega), Same.upN (s5.trans s6) hC0, (upd_ne ne.symm).trans e57, us ++ [u], by rw [upd_same, List.map_append]; rfl, ?_⟩
          rw [nx2]
          have kU : ∀ b o, b ≠ C → H7 b = some o → (upd H7 C (.lst (us.map V.ref ++ [V.ref u]))) b = some o := fun b o n e => (upd_ne n).trans e
          refine Paired.appendP (L2.Paired.mapP pU fun b q a1 => kU _ _ (fun c => by rw [c] at a1; rw [show EntA H5 C q = (H5 C = some (.tup [.str q.1, .int (q.2 : Int)])) from rfl, eC] at a1; cases a1) (s6 _ _ a1)) (.cons (kU _ _ (fun c => by rw [c, eC7] at eu; cases eu) ?_) .nil)
          rw [eu]
          show some (HO.tup [V.str (wd0 ++ (keysM mv)[i2]), V.int (look mv (keysM mv)[i2])]) = some (HO.tup [V.str (wd0 ++ (keysM mv)[i2]), V.int (((look mv (keysM mv)[i2]).toNat : Nat) : Int)])
          rw [Int.toNat_of_nonneg rg.1]
        rintro H5 ⟨s5, e5, us, eC, pU⟩
        have lext : (extW m (wd0, j)).length = (keysM mv).length := by
          unfold extW
          rw [List.length_map, emv]
        rw [List.length_map, ← lext, List.take_length] at pU
        have lus := Paired.length pU
        have eG5 := s5 _ _ eG3
        refine ⟨G, C, _, _, rfl, rfl, eG5, eC, by rw [List.length_map, List.length_map]; exact le1 (by omega), ⟨_, _, rfl⟩, fun b' o n e => (upd_ne n).trans (s5 _ _ (b _ _ n e)), gs ++ us, by rw [upd_same, List.map_append], ?_⟩
        rw [nxt]
        have kG : ∀ b' o, b' ≠ G → H5 b' = some o → (upd H5 G (.lst (gs.map V.ref ++ us.map V.ref))) b' = some o := fun b' o n e => (upd_ne n).trans e
        have nt : ∀ {b' : Addr} {q : WSt}, EntA H5 b' q → b' ≠ G := fun {b' q} a1 c => by
          rw [c] at a1
          rw [show EntA H5 G q = (H5 G = some (.tup [.str q.1, .int (q.2 : Int)])) from rfl, eG5] at a1
          cases a1
        exact Paired.appendP (L2.Paired.mapP pG fun b' q a1 => kG _ _ (nt (q := q) (s5 _ _ a1)) (s5 _ _ a1)) (L2.Paired.mapP pU fun b' q a1 => kG _ _ (nt (q := q) a1) a1)
      · rintro σ H3 ⟨⟨q6, q7, rfl⟩, b, gs, eG3, pG⟩
        rw [List.length_map, lvs, List.take_length] at pG
        have lgs : gs.length = (levN m (k + 1)).length := Paired.length pG
        have eF3 : H3 F = some (.lst (fs.map V.ref)) := b _ _ (ne_of_none eF hG) (sG _ _ eF)
        have S3 : Same H H3 := fun b' o e => b _ _ (ne_of_none e G0) (sG _ _ (S1 _ _ e))
        refine ⟨_, rfl, G, _, rfl, .inl (SqL.of eG3), fun l hl => ?_⟩
        have sl := Same.new (o := .lst (gs.map V.ref)) hl
        have el := (upd_same : upd H3 l (.lst (gs.map V.ref)) l = _)
        generalize upd H3 l (.lst (gs.map V.ref)) = H5 at sl el ⊢
        refine ⟨_, rfl, _, rfl, F, G, _, _, rfl, rfl, sl _ _ eF3, sl _ _ eG3, by rw [List.length_map, List.length_map]; exact le1 (by omega), fun F2 hF2 => ?_⟩
        have sF := Same.new (o := .lst (fs.map V.ref ++ gs.map V.ref)) hF2
        have eF2 := (upd_same : upd H5 F2 (.lst (fs.map V.ref ++ gs.map V.ref)) F2 = _)
        have fresh : H F2 = none := (S3.trans sl).free hF2
        generalize upd H5 F2 (.lst (fs.map V.ref ++ gs.map V.ref)) = H6 at sF eF2 ⊢
        have s6 := sl.trans sF
        refine ⟨F2, l, _, _, _, _, rfl, S3.trans s6, fresh, ⟨fs ++ gs, by rw [eF2, List.map_append], ?_⟩, ⟨gs, sF _ _ el, L2.Paired.mapP pG fun b' q a1 => s6 _ _ a1⟩⟩
        exact Paired.appendP (L2.Paired.mapP pF fun b' q a1 => s6 _ _ (b _ _ (fun c => by rw [c] at a1; rw [show EntA H1 G q = (H1 G = some (.tup [.str q.1, .int (q.2 : Int)])) from rfl, hG] at a1; cases a1) (sG _ _ a1))) (L2.Paired.mapP pG fun b' q a1 => s6 _ _ a1)
    · rintro σ H1 ⟨F, V0, o4, o5, o6, o7, rfl, S1, F0, eF, eV⟩
      exact ⟨_, rfl, q _ F S1 F0 eF⟩
end
end Mk

set_option Elab.async false
set_option linter.all false
set_option maxRecDepth 100000
set_option maxHeartbeats 4000000
/-! the least costs to words of some length -/
namespace Mk
open PySem PySem.Spec L2 PyProof.Rows

abbrev sLto : Stmt := top 105
abbrev nLto : List Str := ["_law_plain", "_law_table", "_law_word_here", "_law_size", "_law_found", "_law_other", "_law_state", "_law_number"]
def oV : Option Int → V
  | none => .non
  | some x => .int x
/-- the least numbers of the entries of each state -/
structure LstOk (n : Nat) (D : Str → Int) (es : List WSt) (fs : List (Option Int)) : Prop where
  len : fs.length = n
  no : ∀ j, fs[j]? = some none → ∀ e ∈ es, e.2 ≠ j
  at_ : ∀ j x, fs[j]? = some (some x) → ∃ e ∈ es, e.2 = j ∧ x = D e.1
  le : ∀ j x, fs[j]? = some (some x) → ∀ e ∈ es, e.2 = j → x ≤ D e.1
theorem LstOk.next {n : Nat} {D : Str → Int} {es : List WSt} {fs : List (Option Int)} (h : LstOk n D es fs) {e : WSt} (he : e.2 < n) (hs : fs[e.2]? = some none ∨ ∃ x, fs[e.2]? = some (some x) ∧ D e.1 < x) : LstOk n D (es ++ [e]) (fs.set e.2 (some (D e.1))) := by
  have hl := h.len
  have at_ : ∀ j (u : Option Int), (fs.set e.2 (some (D e.1)))[j]? = some u → (j = e.2 ∧ u = some (D e.1)) ∨ (j ≠ e.2 ∧ fs[j]? = some u) := fun j u q => by
    rw [List.getElem?_set] at q
    by_cases c : e.2 = j
    · rw [if_pos c, if_pos (by omega)] at q
      exact .inl ⟨c.symm, (Option.some.inj q).symm⟩
    · rw [if_neg c] at q
      exact .inr ⟨fun z => c z.symm, q⟩
  refine ⟨by rw [List.length_set, hl], fun j q x hx => ?_, fun j x q => ?_, fun j x q y hy ej => ?_⟩
  · rcases at_ j _ q with ⟨_, z⟩ | ⟨ne, q⟩
    · cases z
    · rcases List.mem_append.mp hx with hx | hx
      · exact h.no j q x hx
      · rw [List.mem_singleton.mp hx]
        exact fun z => ne z.symm
  · rcases at_ j _ q with ⟨rfl, z⟩ | ⟨ne, q⟩
    · exact ⟨e, List.mem_append_right _ (List.mem_singleton.mpr rfl), rfl, Option.some.inj z⟩
    · obtain ⟨y, hy, e1, e2⟩ := h.at_ j x q
      exact ⟨y, List.mem_append_left _ hy, e1, e2⟩
  · rcases at_ j _ q with ⟨rfl, z⟩ | ⟨ne, q⟩
    · rw [Option.some.inj z]
      rcases List.mem_append.mp hy with hy | hy
      · rcases hs with hs | ⟨x0, hs, lt⟩
        · exact absurd ej (h.no _ hs y hy)
        · have := h.le _ _ hs y hy ej
          omega
      · rw [List.mem_singleton.mp hy]
        exact Int.le_refl _
    · rcases List.mem_append.mp hy with hy | hy
      · exact h.le j x q y hy ej
      · rw [List.mem_singleton.mp hy] at ej
        exact absurd ej.symm ne
theorem LstOk.keep {n : Nat} {D : Str → Int} {es : List WSt} {fs : List (Option Int)} (h : LstOk n D es fs) {e : WSt} {x : Int} (hx : fs[e.2]? = some (some x)) (le : x ≤ D e.1) : LstOk n D (es ++ [e]) fs := by
  refine ⟨h.len, fun j q y hy => ?_, fun j z q => ?_, fun j z q y hy ej => ?_⟩
  · rcases List.mem_append.mp hy with hy | hy
    · exact h.no j q y hy
    · rw [List.mem_singleton.mp hy]
      intro z
      rw [z, q] at hx
      cases hx
  · obtain ⟨y, hy, e1, e2⟩ := h.at_ j z q
    exact ⟨y, List.mem_append_left _ hy, e1, e2⟩
  · rcases List.mem_append.mp hy with hy | hy
    · exact h.le j z q y hy ej
    · rw [List.mem_singleton.mp hy] at ej ⊢
      rw [ej, q] at hx
      cases hx
      exact le
def spLto : Sp := fun vs H Q _ => ∃ (L d : Addr) (m : Mch) (wo : Str) (n : Nat) (Pl : List Str) (c : Str → Str → Int), vs = [.ref L, .ref d, .str wo, .int (n : Int)] ∧ PlAt H L m ∧ WF m ∧ 0 < m.length ∧ m.length ≤ 8 ∧ (∀ q ∈ m, q.1.length ≤ 2) ∧ n ≤ 9 ∧
  Tbl H d Pl c ∧ (∀ x ∈ Pl, c x x = 0) ∧ ("" : Str) ∈ Pl ∧ (∀ x ∈ sgs wo, x ∈ Pl ∧ x ≠ "") ∧ (∀ q ∈ m, ∀ p ∈ q.1, p.1 ∈ Pl ∧ p.1 ≠ "") ∧ wo.cps.size ≤ 300 ∧
  ∀ H' F fs, Same H H' → H F = none → H' F = some (.lst (fs.map oV)) → LstOk m.length (fun z => crn ("" : Str) c (sgs wo).reverse (sgs z).reverse) (fndN m n) fs → Q (.ref F) H'
section
variable {P : Program} {w : World} {K : PySem.W.Frag} {mg : Str → Option Value} {base : Heap}
theorem scLto : FnScope nLto ["_law_plain", "_law_table", "_law_word_here", "_law_size"] (defScope sLto) := ⟨rfl, rfl, rfl, by decide +kernel, rfl, by decide +kernel, by decide +kernel⟩
theorem ok_lto {f : Addr} {fd : FuncData} (F : Fun K "_law_least_to" "_law_least_to" sLto f fd) (B : Bn mg) (D1 : Cd P w K mg base 1 "_law_led" ["_law_plain", "_law_size"] spLed) (D2 : Cd P w K mg base 2 "_law_distance" ["_law_table", "_law_one", "_law_other"] spDsL) : FnOk P w K mg base CX0 3 f fd ["_law_plain", "_law_table", "_law_word_here", "_law_size"] spLto := by
  obtain ⟨a1, d1, G1, m1, k1, b1⟩ := D1.ex
  obtain ⟨a2, d2, G2, m2, k2, b2⟩ := D2.ex
  refine F.ok scLto (fun vs H Q E h => ?_) (fun cdv A outer s H vs Q E hr h => ?_)
  · obtain ⟨L, d, m, wo, n, Pl, c, rfl, _⟩ := h
    rfl
  · obtain ⟨L, d, m, wo, n, Pl, c, rfl, pl, wf, h0, lm, l2, n9, hc, cz, emP, woP, mvP, lw, q⟩ := h
    refine ⟨_, pss_cons (ps_set (i := 4) scLto.nd rfl (.inl rfl) (pe_op op_rep (pe_lst (pa_cons pe_non pa_nil)) (pe_callB call_len_seq (by rfl) B.len PySem.boot_len (pa_cons (pv 0) pa_nil))))
      (pss_cons (ps_for PassesOwn.never rfl (pi_list (pe_call G1 (hr.mono (by decide)) (by rfl) m1 k1 b1 .nil pass0 (pa_cons (pv 0) (pa_cons (pv 3) pa_nil)))) (pg_tup rfl (pgs_cons (pg_name (i := 5) scLto.nd rfl (.inl rfl)) (pgs_cons (pg_name (i := 6) scLto.nd rfl (.inl rfl)) pgs_nil)))
        (pss_cons (ps_set (i := 7) scLto.nd rfl (.inl rfl) (pe_call G2 (hr.mono (by decide)) (by rfl) m2 k2 b2 .nil pass0 (pa_cons (pv 1) (pa_cons (pv 2) (pa_cons (pv 5) pa_nil)))))
        (pss_one (ps_if (PW.pt (pw_or (pt_cmpR op_isN (pe_ix ix_list (pv 4) (pv 6) (fun _ _ => rfl)) pe_non (nomark _)) (pw_or1 (pt_cmpR op_lt (pv 7) (pe_ix ix_list (pv 4) (pv 6) (fun _ _ => rfl)) (nomark _)))))
          (pss_one (ps_asg (pv 7) (pg_sub (pv 4) (pv 6) set_list))) pss_nil))))
      (pss_one (ps_ret (pv 4)))), ?_⟩
    have n1 : 1 ≤ sizeLine := by decide
    have n2 : 2 ≤ sizeLine := by decide
    have lt1 : ∀ {n : Nat}, n ≤ 3999 → n < sizeLine := fun h1 => by rw [sizeLine_eq]; omega
    have le1 : ∀ {n : Nat}, n ≤ 3999 → n ≤ sizeLine := fun h1 => Nat.le_of_lt (lt1 h1)
    obtain ⟨rs, eL, pt⟩ := id pl
    have lrs : rs.length = m.length := Paired.length pt
    have Dd := hc
    refine ⟨n1, fun t ht => ?_⟩
    have st := Same.new (o := .lst [V.non]) ht
    have lk : ((rs.map V.ref).length : Int) = (m.length : Int) := by rw [List.length_map, lrs]
    refine ⟨_, rfl, L, _, rfl, .inl (SqL.of (st _ _ eL)), t, _, _, rfl, rfl, upd_same, by omega, by omega, ?_, fun F0 hF => ?_⟩
    · rw [lk, Int.toNat_natCast]
      show 1 * m.length ≤ _
      exact le1 (by omega)
    have ef : (List.replicate (((rs.map V.ref).length : Nat) : Int).toNat [V.non]).flatten = ((List.replicate m.length none).map oV) := by
      rw [lk, Int.toNat_natCast, List.map_replicate, List.flatten_replicate_singleton]
      rfl
    rw [ef]
    have sF := st.trans (Same.new (o := .lst ((List.replicate m.length none).map oV)) hF)
    have eF := (upd_same : upd (upd H t (.lst [V.non])) F0 (.lst ((List.replicate m.length none).map oV)) F0 = _)
    have F00 : H F0 = none := st.free hF
    generalize upd (upd H t (.lst [V.non])) F0 (.lst ((List.replicate m.length none).map oV)) = H1 at sF eF ⊢
    clear ht st hF ef lk
    refine ⟨_, rfl, _, rfl, L, m, n, rfl, pl.keep sF, wf, h0, lm, l2, n9, fun H2 G s2 g0 eG => ?_⟩
    obtain ⟨ts, eG, pG⟩ := eG
    have s12 := sF.trans s2
    have eF2 := s2 _ _ eF
    have GF : G ≠ F0 := fun z => by rw [z, eF] at g0; cases g0
    have lts : ts.length = (fndN m n).length := Paired.length pG
    have base0 : LstOk m.length (fun z => crn ("" : Str) c (sgs wo).reverse (sgs z).reverse) [] (List.replicate m.length none) := by
      refine ⟨List.length_replicate, (fun j _ e he => nomatch he), fun j x q => ?_, (fun j x _ e he => nomatch he)⟩
      obtain ⟨_, z⟩ := List.mem_replicate.mp (List.mem_of_getElem? q)
      cases z
    refine ⟨G, rfl, ⟨_, SqL.of eG⟩, for_it (walk_list (K := K) (a := G) (xs := ts.map V.ref)) (fun i σ H3 => (∃ o5 o6 o7, σ = [some (.ref L), some (.ref d), some (.str wo), some (.int (n : Int)), some (.ref F0), o5, o6, o7]) ∧ But F0 H2 H3 ∧ ∃ fs : List (Option Int), H3 F0 = some (.lst (fs.map oV)) ∧ LstOk m.length (fun z => crn ("" : Str) c (sgs wo).reverse (sgs z).reverse) ((fndN m n).take i) fs) ⟨⟨_, _, _, rfl⟩, But.refl, _, eF2, base0⟩ (fun i σ H3 _ h3 => SqL.of (h3.2.1 _ _ GF eG)) ?_ ?_⟩
    · rintro i x σ H30 H3 hi ⟨⟨o5, o6, o7, rfl⟩, b, fs, eF3, ok⟩ ⟨rfl, hx⟩
      rw [List.length_map] at hi
      have hi2 : i < (fndN m n).length := by omega
      obtain ⟨e, he, eT⟩ := L2.paired_get pG (List.getElem?_eq_getElem hi)
      have he2 : e = (fndN m n)[i] := by
        rw [List.getElem?_eq_getElem hi2] at he
        exact (Option.some.inj he).symm
      obtain rfl : V.ref ts[i] = x := by
        rw [List.getElem?_map, List.getElem?_eq_getElem hi] at hx
        exact Option.some.inj hx
      have nx : (fndN m n).take (i + 1) = (fndN m n).take i ++ [e] := by
        rw [List.take_add_one, List.getElem?_eq_getElem hi2, he2]
        rfl
      obtain ⟨k, hk, hek⟩ := fnd_mem.mp (show e ∈ fndN m n by rw [he2]; exact List.getElem_mem hi2)
      have eo := lev_ok wf h0 k e hek
      have eT3 : H3 ts[i] = some (.tup [.str e.1, .int (e.2 : Int)]) := b _ _ (fun z => by
        rw [z] at eT
        rw [show EntA H2 F0 e = (H2 F0 = some (.tup [.str e.1, .int (e.2 : Int)])) from rfl, eF2] at eT
        cases eT) eT
      have hc3 := hc.keep fun o e => b _ _ (ne_of_none e F00) (s12 _ _ e)
      have le2 : e.1.cps.size ≤ 300 := by
        have h1 := eo.len
        have h2 : e.1.cps.size = e.1.length := rfl
        omega
      have inv : ∀ y ∈ sgs e.1, y ∈ Pl ∧ y ≠ "" := fun y hy => by
        obtain ⟨q', hq', p', hp', rfl⟩ := eo.mv y hy
        exact mvP q' hq' p' hp'
      refine ⟨ts[i], _, rfl, SqT.of eT3, rfl, _, _, rfl, _, _, rfl, rfl, ?_⟩
      refine ⟨_, rfl, _, rfl, _, rfl, wo, e.1, d, Pl, c, rfl, hc3, cz, emP, woP, inv, lw, le2, fun H4 s4 => ?_⟩
      have eF4 := s4 _ _ eF3
      have b4 := b.sm s4
      have hj : e.2 < fs.length := by rw [ok.len]; exact eo.rg
      have eat : ∀ u : Option Int, fs[e.2]? = some u → atI (fs.map oV) (e.2 : Int) = some (oV u) := fun u hu => atI_nat (by rw [List.getElem?_map, hu]; rfl)
      obtain ⟨u, hu⟩ : ∃ u, fs[e.2]? = some u := ⟨_, List.getElem?_eq_getElem hj⟩
      have store : ∀ H5, Same H4 H5 → LstOk m.length (fun z => crn ("" : Str) c (sgs wo).reverse (sgs z).reverse) ((fndN m n).take i ++ [e]) (fs.set e.2 (some (crn ("" : Str) c (sgs wo).reverse (sgs e.1).reverse))) → But F0 H2 (upd H5 F0 (.lst ((fs.map oV).set e.2 (.int (crn ("" : Str) c (sgs wo).reverse (sgs e.1).reverse))))) ∧ ∃ fs' : List (Option Int), (upd H5 F0 (.lst ((fs.map oV).set e.2 (.int (crn ("" : Str) c (sgs wo).reverse (sgs e.1).reverse))))) F0 = some (.lst (fs'.map oV)) ∧ LstOk m.length (fun z => crn ("" : Str) c (sgs wo).reverse (sgs z).reverse) ((fndN m n).take i ++ [e]) fs' := fun H5 s5 hk => by
        refine ⟨fun b' o n' e' => (upd_ne n').trans (s5 _ _ (b4 _ _ n' e')), _, ?_, hk⟩
        rw [upd_same, List.map_set]
        rfl
      rw [nx]
      refine ⟨_, rfl, _, rfl, F0, _, _, _, rfl, rfl, SqL.of eF4, eat u hu, rfl, ?_⟩
      cases u with
      | none =>
        have hk := ok.next (e := e) eo.rg (.inl hu)
        exact ⟨true, congrArg V.bl (decide_eq_true rfl), iteT (iteT ⟨_, rfl, _, rfl, _, rfl, F0, _, _, e.2, rfl, rfl, eF4, ixN_to (by omega) (by rw [List.length_map]; omega), ⟨_, _, _, rfl⟩, store H4 (Same.refl _) hk⟩)⟩
      | some x0 =>
        refine ⟨false, congrArg V.bl (decide_eq_false fun z => nomatch z), iteF ⟨_, rfl, _, rfl, _, rfl, F0, _, _, _, rfl, rfl, SqL.of eF4, eat _ hu, _, _, rfl, rfl, ?_⟩⟩
        by_cases cp : crn ("" : Str) c (sgs wo).reverse (sgs e.1).reverse < x0
        · have hk := ok.next (e := e) eo.rg (.inr ⟨x0, hu, cp⟩)
          exact ⟨true, congrArg V.bl (decide_eq_true cp), iteT ⟨_, rfl, _, rfl, _, rfl, F0, _, _, e.2, rfl, rfl, eF4, ixN_to (by omega) (by rw [List.length_map]; omega), ⟨_, _, _, rfl⟩, store H4 (Same.refl _) hk⟩⟩
        · exact ⟨false, congrArg V.bl (decide_eq_false cp), iteF ⟨⟨_, _, _, rfl⟩, b4, fs, eF4, ok.keep (e := e) hu (by show x0 ≤ _; omega)⟩⟩
    · rintro σ H3 ⟨⟨o5, o6, o7, rfl⟩, b, fs, eF3, ok⟩
      rw [List.length_map, lts, List.take_length] at ok
      exact ⟨_, rfl, q _ F0 fs (fun b' o e => b _ _ (ne_of_none e F00) (s12 _ _ e)) F00 eF3 ok⟩
end
end Mk

set_option Elab.async false
set_option linter.all false
set_option maxRecDepth 100000
set_option maxHeartbeats 1000000
/-! what the law's tables say of a row -/
namespace Mk
open PySem L2

section
variable {m : Mch} {c : Str → Str → Int} {wo : Str} {ns : List Int} {fs : List (Option Int)} {k : Nat}
abbrev dW (c : Str → Str → Int) (wo z : Str) : Int := crn ("" : Str) c (sgs wo).reverse (sgs z).reverse
theorem row_dw (g : GoodM m) (c1 : ∀ q ∈ m, ∀ p ∈ q.1, 0 ≤ c "" p.1) (h : RwW m c (sgs wo) ns) {e : WSt} {i : Nat} (he : EntOk m i e) : ns.getD e.2 0 ≤ dW c wo e.1 :=
  rw_le g.wf c1 g.ne h (crn_aln _ _) he.led
theorem fnd_ok (g : GoodM m) {e : WSt} (he : e ∈ fndN m k) : ∃ i, i ≤ k ∧ EntOk m i e := by
  obtain ⟨i, hi, h⟩ := fnd_mem.mp he
  exact ⟨i, hi, lev_ok g.wf g.ne i e h⟩
/-- no number that was found is less than the row's -/
theorem found_ge (g : GoodM m) (c1 : ∀ q ∈ m, ∀ p ∈ q.1, 0 ≤ c "" p.1) (h : RwW m c (sgs wo) ns) (ok : LstOk m.length (dW c wo) (fndN m k) fs) {j : Nat} {x : Int} (hx : fs[j]? = some (some x)) : ns.getD j 0 ≤ x := by
  obtain ⟨e, he, rfl, rfl⟩ := ok.at_ j x hx
  obtain ⟨i, _, eo⟩ := fnd_ok g he
  exact row_dw g c1 h eo
theorem led_mv {v : List Str} {j : Nat} (h : Led m v j) : ∀ z ∈ v, ∃ q ∈ m, ∃ p ∈ q.1, p.1 = z := by
  induction h with
  | nil => exact fun z hz => nomatch hz
  | step l hz ih =>
    intro z hzz
    rcases List.mem_cons.mp hzz with rfl | hzz
    · obtain ⟨q, hq, _, hp⟩ := mvs_mem hz
      exact ⟨q, hq, _, hp, rfl⟩
    · exact ih z hzz
/-- a number that is less than what was found is as great as longer words ask -/
theorem found_far (g : GoodM m) {Pl : List Str} (nn : ∀ x ∈ Pl, ∀ y ∈ Pl, 0 ≤ c x y) (em : ("" : Str) ∈ Pl) (hw : ∀ z ∈ sgs wo, z ∈ Pl) (hm : ∀ q ∈ m, ∀ p ∈ q.1, p.1 ∈ Pl) (h : RwW m c (sgs wo) ns) (ok : LstOk m.length (dW c wo) (fndN m k) fs) {j : Nat} (hj : j < m.length)
    (hf : fs[j]? = some none ∨ ∃ x, fs[j]? = some (some x) ∧ ns.getD j 0 < x) {ch : Int} (c0 : 0 ≤ ch) (hc : ∀ q ∈ m, ∀ p ∈ q.1, ch ≤ c "" p.1) : ((k : Int) + 1 - wo.length) * ch ≤ ns.getD j 0 := by
  obtain ⟨v, lv, av⟩ := rw_at g.wf h hj
  have mv := led_mv lv
  have vP : ∀ z ∈ v, z ∈ Pl := fun z hz => by
    obtain ⟨q, hq, p, hp, rfl⟩ := mv z hz
    exact hm q hq p hp
  have long : k + 1 ≤ v.length := by
    by_cases c : v.length ≤ k
    · obtain ⟨z, hz, ev⟩ := lev_all g.wf lv
      have hz2 : (z, j) ∈ fndN m k := fnd_mem.mpr ⟨_, c, hz⟩
      rcases hf with hf | ⟨x, hf, lt⟩
      · exact absurd rfl (ok.no j hf _ hz2)
      · have h1 := ok.le j x hf _ hz2 rfl
        rw [← ev] at av
        have h2 := av.ge
        have h1 : x ≤ crn ("" : Str) _ (sgs wo).reverse (sgs z).reverse := h1
        omega
    · omega
  have ln := aln_len av c0 (fun x hx => nn x (hw x (List.mem_reverse.mp hx)) _ em) (fun x hx y hy => nn x (hw x (List.mem_reverse.mp hx)) y (vP y hy)) fun y hy => by
    obtain ⟨q, hq, p, hp, rfl⟩ := mv y hy
    exact hc q hq p hp
  rw [List.length_reverse, sgs_length] at ln
  have := Int.mul_le_mul_of_nonneg_right (show (k : Int) + 1 - wo.length ≤ (v.length : Int) - wo.length by omega) c0
  omega
theorem row_pos (g : GoodM m) {Pl : List Str} (nn : ∀ x ∈ Pl, ∀ y ∈ Pl, 0 ≤ c x y) (em : ("" : Str) ∈ Pl) (hw : ∀ z ∈ sgs wo, z ∈ Pl) (hm : ∀ q ∈ m, ∀ p ∈ q.1, p.1 ∈ Pl) (h : RwW m c (sgs wo) ns) {j : Nat} (hj : j < m.length) : 0 ≤ ns.getD j 0 := by
  obtain ⟨v, lv, av⟩ := rw_at g.wf h hj
  refine av.pos (P := (· ∈ Pl)) (fun x y hx hy => nn x hx y hy) em (fun z hz => hw z (List.mem_reverse.mp hz)) fun z hz => ?_
  obtain ⟨q, hq, p, hp, rfl⟩ := led_mv lv z hz
  exact hm q hq p hp
theorem sel_inW {ns : List Int} {m : Mch} {j : Nat} (hj : j < m.length) (ln : ns.length = m.length) (hl : (m[j]).2 = true) : ns.getD j 0 ∈ selL ns m := by
  unfold selL
  rw [gd_at (by omega)]
  refine List.mem_map.mpr ⟨(ns[j], m[j]), List.mem_filter.mpr ⟨?_, hl⟩, rfl⟩
  have h1 : j < (ns.zip m).length := by rw [List.length_zip]; omega
  have := List.getElem_mem h1
  rwa [List.getElem_zip] at this
theorem IsMin.one {k k' : Int} {ns : List Int} (h : IsMin k ns) (h' : IsMin k' ns) : k = k' := by
  have := h.2 _ h'.1
  have := h'.2 _ h.1
  omega
end
section
variable {m : Mch} {t1 t2 r1 r2 : PTab} {t3 r3 : STab} {cf : Str → Str → Int}
theorem ctw_cc (R : RtT t1 t2 t3) (W : CtW t1 t2 t3 r1 r2 r3 cf) {x y : Str} (hx : x ∈ plc t1) (hy : y ∈ plc t1) : Mk.cc r1 r2 r3 x y = Mk.cc t1 t2 t3 x y := by
  have k : ∀ {z : Str}, z ∈ plc t1 → z ∈ plc r1 := fun {z} hz => by
    rcases List.mem_cons.mp hz with rfl | hz
    · exact em_in
    · exact List.mem_cons_of_mem _ (W.keys1.mem_iff.mpr hz)
  rw [(cl_of (W.rt R)).uniq (W.self R).cl (k hx) (k hy), (cl_of R).uniq W.cl hx hy]
theorem row_closed (R : RtT t1 t2 t3) (W : CtW t1 t2 t3 r1 r2 r3 cf) (hm : ∀ q ∈ m, ∀ p ∈ q.1, p.1 ∈ plc t1) {zs : List Str} {ns : List Int} (h : RwW m (Mk.cc t1 t2 t3) zs ns) (hz : ∀ z ∈ zs, z ∈ plc t1) : RwW m (Mk.cc r1 r2 r3) zs ns := by
  have := RwW.mul (k := 1) (c' := Mk.cc r1 r2 r3) (Pl := plc t1) (by decide) (fun x hx y hy => by rw [ctw_cc R W hx hy, Int.mul_one]) em_in hm h hz
  rwa [show ns.map (· * 1) = ns from (List.map_congr_left fun x _ => Int.mul_one x).trans (List.map_id ns)] at this
end
end Mk

set_option Elab.async false
set_option linter.all false
set_option maxRecDepth 100000
set_option maxHeartbeats 4000000
/-! whether rows are the least costs to words -/
namespace Mk
open PySem PySem.Spec L2 PyProof.Rows

theorem sq1 {t u : TS} {D : Ends} {σ : L2.St} {H : Hp} (h : ∀ T : TS, T = u → tSeq t T D σ H) : tSeq t u D σ H := h u rfl
theorem sq2 {T t u : TS} (e : T = tSeq t u) : ∃ T2 : TS, T2 = u ∧ T = tSeq t T2 := ⟨u, rfl, e⟩
theorem sg_eq {T : TS} {D : Ends} {σ σ' : L2.St} {H : Hp} (e : σ = σ') (h : T D σ' H) : T D σ H := e ▸ h
abbrev sR6 : Stmt := top 106
abbrev nR6 : List Str := ["_law_urn_here", "_law_signs", "_law_size", "_law_plain", "_law_tables", "_law_target", "_law_prices_here", "_law_table", "_law_word_here", "_law_row", "_law_found", "_law_cheap", "_law_state", "_law_longer", "_law_other", "_law_sign"]
def spR6 : Sp := fun vs H Q _ => ∃ (p S : Addr) (n sz : Nat) (zs : List Str), vs = [.ref p, .ref S, .int (sz : Int)] ∧ Pot H p n ∧ n + 2000 < PB ∧ S ≠ p ∧ H S = some (.lst (zs.map V.str)) ∧ SgZ zs ∧ zs.length ≤ 2 ∧ sz ≤ 9 ∧ ∀ H', But p H H' → Pot H' p (n + 1000) → Q (.bl true) H'
section
variable {P : Program} {w : World} {K : PySem.W.Frag} {mg : Str → Option Value} {base : Heap} {CP CF CR : Addr}
theorem scR6 : FnScope nR6 ["_law_urn_here", "_law_signs", "_law_size"] (defScope sR6) := ⟨rfl, rfl, rfl, by decide +kernel, rfl, by decide +kernel, by decide +kernel⟩
theorem ok_r6 {f : Addr} {fd : FuncData} (F : Fun K "_law_right" "_law_right" sR6 f fd) (B : Bn mg) (TP : Pc K CP) (Dcl : Md P w K mg base CP CX0 8 "closed" ["self"] (spClosed CP))
    (D1 : Cd P w K mg base 3 "_law_plain_form" ["_law_urn_here", "_law_signs", "_law_most"] spPF) (D2 : Cd P w K mg base 2 "_law_plain_prices" ["_law_urn_here", "_law_signs", "_law_most"] spPPb) (D3 : Cd P w K mg base 7 "_law_form" ["_law_plain"] (spLForm CF)) (D4 : Cd P w K mg base 8 "_law_prices" ["_law_plain"] (spMade CP))
    (D5 : Cd P w K mg base 1 "_law_closed" ["_law_plain"] spCld) (D6 : Cd P w K mg base 3 "_law_word" ["_law_urn_here", "_law_signs", "_law_most"] spWrd) (D7 : Cd P w K mg base 7 "row_of" ["target", "prices", "word"] (spRowOfG CF CP)) (D8 : Cd P w K mg base 3 "_law_least_to" ["_law_plain", "_law_table", "_law_word_here", "_law_size"] spLto)
    (Da : Cd P w K mg base 1 "_law_led" ["_law_plain", "_law_size"] spLed) (Db : Cd P w K mg base 5 "distance" ["one", "other", "prices"] (spDist CP)) (Dc : Cd P w K mg base 6 "end_cost" ["target", "row"] (spEndC CF)) :
    FnOk P w K mg base CX0 10 f fd ["_law_urn_here", "_law_signs", "_law_size"] spR6 := by
  obtain ⟨gcl, dcl, Mc, Gcl, bcl⟩ := Dcl.ex
  obtain ⟨a1, d1, G1, m1, k1, b1⟩ := D1.ex
  obtain ⟨a2, d2, G2, m2, k2, b2⟩ := D2.ex
  obtain ⟨a3, d3, G3, m3, k3, b3⟩ := D3.ex
  obtain ⟨a4, d4, G4, m4, k4, b4⟩ := D4.ex
  obtain ⟨a5, d5, G5, m5, k5, b5⟩ := D5.ex
  obtain ⟨a6, d6, G6, m6, k6, b6⟩ := D6.ex
  obtain ⟨a7, d7, G7, m7, k7, b7⟩ := D7.ex
  obtain ⟨a8, d8, G8, m8, k8, b8⟩ := D8.ex
  obtain ⟨aa, da, Ga, ma, ka, ba⟩ := Da.ex
  obtain ⟨ab, db, Gb, mb, kb, bb⟩ := Db.ex
  obtain ⟨ac, dc, Gc, mc, kc, bc⟩ := Dc.ex
  refine F.ok scR6 (fun vs H Q E h => ?_) (fun cdv A outer s H vs Q E hr h => ?_)
  · obtain ⟨p, S, n, sz, zs, rfl, _⟩ := h
    rfl
  · obtain ⟨p, S, n, sz, zs, rfl, hp, hn, Sp, eS, sgz, z2, sz9, q⟩ := h
    have hu := hu_of hr
    have h64 : A.units + 3 + 64 < cLine := by
      have h2 : A.units + 3 + 16 * 9 + 200 < cLine := hr.un
      omega
    refine ⟨_, pss_cons (ps_asg (pe_tup (pa_cons (pe_call G1 (hr.mono (by decide)) (by rfl) m1 k1 b1 .nil pass0 (pa_cons (pv 0) (pa_cons (pv 1) (pa_cons pe_int pa_nil)))) (pa_cons (pe_call G2 (hr.mono (by decide)) (by rfl) m2 k2 b2 .nil pass0 (pa_cons (pv 0) (pa_cons (pv 1) (pa_cons pe_int pa_nil)))) pa_nil))) (pg_tup rfl (pgs_cons (pg_name (i := 3) scR6.nd rfl (.inr rfl)) (pgs_cons (pg_name (i := 4) scR6.nd rfl (.inl rfl)) pgs_nil))))
      (pss_cons (ps_par (i := 5) (j := 6) rfl scR6.nd rfl rfl (by decide) rfl rfl (pa_cons (pe_call G3 (hr.mono (by decide)) (by rfl) m3 k3 b3 .nil pass0 (pa_cons (pv 3) pa_nil)) (pa_cons (pe_call G4 (hr.mono (by decide)) (by rfl) m4 k4 b4 .nil pass0 (pa_cons (pv 4) pa_nil)) pa_nil)) (by rfl))
      (pss_cons (ps_asg (pe_tup (pa_cons (pe_call G5 (hr.mono (by decide)) (by rfl) m5 k5 b5 .nil pass0 (pa_cons (pv 4) pa_nil)) (pa_cons (pe_call G6 (hr.mono (by decide)) (by rfl) m6 k6 b6 .nil pass0 (pa_cons (pv 0) (pa_cons (pv 1) (pa_cons pe_int pa_nil)))) pa_nil))) (pg_tup rfl (pgs_cons (pg_name (i := 7) scR6.nd rfl (.inr rfl)) (pgs_cons (pg_name (i := 8) scR6.nd rfl (.inl rfl)) pgs_nil))))
      (pss_cons (ps_asg (pe_tup (pa_cons (pe_call G7 (hr.mono (by decide)) (by rfl) m7 k7 b7 .nil pass0 (pa_cons (pv 5) (pa_cons (pv 6) (pa_cons (pv 8) pa_nil)))) (pa_cons (pe_call G8 (hr.mono (by decide)) (by rfl) m8 k8 b8 .nil pass0 (pa_cons (pv 3) (pa_cons (pv 7) (pa_cons (pv 8) (pa_cons (pv 2) pa_nil))))) pa_nil))) (pg_tup rfl (pgs_cons (pg_name (i := 9) scR6.nd rfl (.inr rfl)) (pgs_cons (pg_name (i := 10) scR6.nd rfl (.inl rfl)) pgs_nil))))
      (pss_cons (ps_set (i := 11) scR6.nd rfl (.inl rfl) (pe_callB (cr_min rfl) (by rfl) B.min (by decide +kernel) (pa_cons (pe_lc (own := [("_law_sign", 15)]) (g := gName 15) (tt := tYes) rfl scR6.nd (pi_list (pv 1)) (blkOk_by (N := nR6) (sc := defScope sR6) (by decide +kernel))
            (fun _ _ _ _ _ => pg_name (i := 15) scR6.nd rfl (Or.inl rfl)) (fun _ _ _ _ _ => pts_nil) (fun _ _ _ _ _ => pe_dget hu (pv 7) (pe_tup (pa_cons pe_str (pa_cons (pv 15) pa_nil))) (fun _ _ => rfl))) pa_nil)))
      (pss_cons (ps_if (pt_cmpR (op_neDK K h64) (pe_call G7 (hr.mono (by decide)) (by rfl) m7 k7 b7 .nil pass0 (pa_cons (pv 5) (pa_cons (pe_meth0 (pv 6) TP.cl Mc Gcl (hr.mono (by decide)) bcl .nil pass0) (pa_cons (pv 8) pa_nil)))) (pv 9) (nomark _)) (pss_one (ps_ret pe_bl)) pss_nil)
      (pss_cons (ps_for PassesOwn.never rfl (pi_range1 (by rfl) B.range (pa_cons (pe_callB call_len_seq (by rfl) B.len PySem.boot_len (pa_cons (pv 3) pa_nil)) pa_nil)) (pg_name (i := 12) scR6.nd rfl (.inl rfl))
        (pss_cons (ps_set (i := 13) scR6.nd rfl (.inl rfl) (pe_op op_mul (pe_op op_sub (pe_op op_add (pv 2) pe_int) (pe_callB call_len_str (by rfl) B.len PySem.boot_len (pa_cons (pv 8) pa_nil))) (pv 11)))
        (pss_cons (ps_if (PW.pt (pw_and (pt_cmpR op_notN (pe_ix ix_list (pv 10) (pv 12) (fun _ _ => rfl)) pe_non (nomark _)) (pw_and1 (pt_cmpR op_gt (pe_ix ix_tup (pv 9) (pv 12) (fun _ _ => rfl)) (pe_ix ix_list (pv 10) (pv 12) (fun _ _ => rfl)) (nomark _))))) (pss_one (ps_ret pe_bl)) pss_nil)
        (pss_one (ps_if (PW.pt (pw_and (PW.pt (pw_or (pt_cmpR op_isN (pe_ix ix_list (pv 10) (pv 12) (fun _ _ => rfl)) pe_non (nomark _)) (pw_or1 (pt_cmpR op_gt (pe_ix ix_list (pv 10) (pv 12) (fun _ _ => rfl)) (pe_ix ix_tup (pv 9) (pv 12) (fun _ _ => rfl)) (nomark _))))) (pw_and1 (pt_cmpR op_lt (pe_ix ix_tup (pv 9) (pv 12) (fun _ _ => rfl)) (pv 13) (nomark _))))) (pss_one (ps_ret pe_bl)) pss_nil)))))
      (pss_cons (ps_for PassesOwn.never rfl (pi_list (pe_call Ga (hr.mono (by decide)) (by rfl) ma ka ba .nil pass0 (pa_cons (pv 3) (pa_cons pe_int pa_nil)))) (pg_tup rfl (pgs_cons (pg_name (i := 14) scR6.nd rfl (.inl rfl)) (pgs_cons (pg_name (i := 12) scR6.nd rfl (.inl rfl)) pgs_nil)))
        (pss_cons (ps_if (pt_cmpR op_lt (pe_call Gb (hr.mono (by decide)) (by rfl) mb kb bb .nil pass0 (pa_cons (pv 8) (pa_cons (pv 14) (pa_cons (pv 6) pa_nil)))) (pe_ix ix_tup (pv 9) (pv 12) (fun _ _ => rfl)) (nomark _)) (pss_one (ps_ret pe_bl)) pss_nil)
        (pss_one (ps_if (PW.pt (pw_and (pt_val (pe_ix ix_list (pe_ix ix_list (pv 3) (pv 12) (fun _ _ => rfl)) pe_int (fun _ _ => rfl))) (pw_and1 (pt_cmpR op_lt (pe_call Gb (hr.mono (by decide)) (by rfl) mb kb bb .nil pass0 (pa_cons (pv 8) (pa_cons (pv 14) (pa_cons (pv 6) pa_nil)))) (pe_call Gc (hr.mono (by decide)) (by rfl) mc kc bc .nil pass0 (pa_cons (pv 5) (pa_cons (pv 9) pa_nil))) (nomark _))))) (pss_one (ps_ret pe_bl)) pss_nil))))
      (pss_one (ps_ret (pe_cmpR op_eq (pe_call Gc (hr.mono (by decide)) (by rfl) mc kc bc .nil pass0 (pa_cons (pv 5) (pa_cons (pv 9) pa_nil))) (pe_callB (cr_min rfl) (by rfl) B.min (by decide +kernel) (pa_cons (pe_lc (own := [("_law_state", 12)]) (g := gName 12) rfl scR6.nd (pi_range1 (by rfl) B.range (pa_cons (pe_callB call_len_seq (by rfl) B.len PySem.boot_len (pa_cons (pv 3) pa_nil)) pa_nil)) (blkOk_by (N := nR6) (sc := defScope sR6) (by decide +kernel))
            (fun _ _ _ _ _ => pg_name (i := 12) scR6.nd rfl (Or.inl rfl)) (fun _ _ _ _ _ => pts_one (pt_val (pe_ix (ix_listK K) (pe_ix (ix_listK K) (pv 3) (pv 12) (fun _ _ => rfl)) pe_int (fun _ _ => rfl)))) (fun _ _ _ _ _ => pe_ix (ix_tupK K) (pv 9) (pv 12) (fun _ _ => rfl))) pa_nil)) (nomark _))))))))))), ?_⟩
    have PBe : PB = 4294967296 := rfl
    have n1 : 1 ≤ sizeLine := by decide
    have n2 : 2 ≤ sizeLine := by decide
    have lt1 : ∀ {n : Nat}, n ≤ 3999 → n < sizeLine := fun h1 => by rw [sizeLine_eq]; omega
    have kN : ∀ {Ha Hb : Hp} {k : Nat} {b : Addr} {o : HO}, Pot Ha p k → But p Ha Hb → (∀ ys, o ≠ .lst ys) → Ha b = some o → Hb b = some o := fun P B n e => B _ _ (P.not e fun i j k => n _) e
    refine sq1 fun T eT => ?_
    -- the form, the prices
    refine ⟨_, rfl, _, rfl, p, S, n, 3, zs, rfl, hp, by omega, by decide, by decide, Sp, eS, sgz, fun H1 L m B1 P1 fL pl g lm l3 kz => ?_⟩
    have eS1 := B1 _ _ Sp eS
    refine ⟨_, rfl, _, rfl, p, S, n + 200, 4, zs, rfl, P1, by omega, by decide, by decide, Sp, eS1, sgz, fun H2 L2 ta tb tc t1 t2 t3 B2 r R kk1 kk2 w1 w2 w3 P2 => ⟨n2, fun tt htt => ⟨tt, _, rfl, SqT.of upd_same, rfl, _, _, rfl, _, _, rfl, rfl, ?_⟩⟩⟩
    have st := Same.new (o := .tup [V.ref L, V.ref L2]) htt
    have pl3 := (pl.but B2 P1 g.ne).keep st
    have r3 := r.same st
    have eS3 := st _ _ (B2 _ _ Sp eS1)
    have P3 := P2.sm1 st
    have B3 : But p H _ := (B1.trans B2).sm st
    generalize upd H2 tt (.tup [V.ref L, V.ref L2]) = H3 at pl3 r3 eS3 P3 B3 ⊢
    clear st htt P2 r pl eS1 P1 B1 B2
    obtain ⟨T2, eT2, e2T⟩ := sq2 eT
    clear eT
    subst e2T
    have eT := eT2
    clear eT2
    try dsimp only [gName]
    refine sg_eq (σ' := [some (.ref p), some (.ref S), some (.int (sz : Int)), some (.ref L), some (.ref L2), none, none, none, none, none, none, none, none, none, none, none]) rfl ?_
    have lm5 : ∀ q ∈ m, q.1.length ≤ 5 := fun q hq => Nat.le_trans (l3 q hq) (by decide)
    refine ⟨_, rfl, L, m, rfl, pl3, g, by omega, lm5, fun H4 x s4 fx fm => ?_⟩
    refine ⟨_, rfl, L2, ta, tb, tc, t1, t2, t3, rfl, r3.same s4, R, fun H5 y u1 u2 u3 s5 y0 py pu1 pu2 pu3 sru => ⟨_, _, rfl, ?_⟩⟩
    have s45 := s4.trans s5
    have P5 := P3.sm1 s45
    have fm5 := fm.keep s5
    have pl5 := pl3.keep s45
    have r5 := r3.same s45
    have eS5 := s45 _ _ eS3
    have B5 := B3.sm s45
    have RU := R.perm pu1 pu2 pu3
    have ku : ∀ z, z ∈ zs → z ∈ u1.map (·.1) := fun z hz => by
      rw [← kk1] at hz
      exact (pu1.map _).mem_iff.mpr hz
    have gS := srt_good g
    have lS : (srtM m).length ≤ 6 := by rw [srt_len]; omega
    have l5 : ∀ q ∈ srtM m, q.1.length ≤ 5 := srt_l lm5
    have inM : ∀ q ∈ m, ∀ p ∈ q.1, p.1 ∈ u1.map (·.1) := fun q hq p hp => ku _ (kz q hq p hp)
    have inS : ∀ q ∈ srtM m, ∀ p ∈ q.1, p.1 ∈ u1.map (·.1) := srt_sign g.wf inM
    clear fx y0 fm s45 s5 s4 r3 pl3 eS3 B3 P3
    obtain ⟨T2, eT2, e2T⟩ := sq2 eT
    clear eT
    subst e2T
    have eT := eT2
    clear eT2
    try dsimp only [gName]
    refine sg_eq (σ' := [some (.ref p), some (.ref S), some (.int (sz : Int)), some (.ref L), some (.ref L2), some (.ref x), some (.ref y), none, none, none, none, none, none, none, none, none]) rfl ?_
    -- closed prices, a word
    refine ⟨_, rfl, L2, ta, tb, tc, t1, t2, t3, rfl, r5, R, fun H6 d D s6 d0 ed tbl => ?_⟩
    have P6 := P5.sm1 s6
    refine ⟨_, rfl, _, rfl, p, S, n + 300, 3, zs, rfl, by decide, P6.mono (by omega), by omega, Sp, s6 _ _ eS5, sgz, fun H7 wo B7 P7 wz lw => ⟨n2, fun tt htt => ⟨tt, _, rfl, SqT.of upd_same, rfl, _, _, rfl, _, _, rfl, rfl, ?_⟩⟩⟩
    have st := Same.new (o := .tup [V.ref d, V.str wo]) htt
    have P8 := P7.sm1 st
    have B8 := ((B5.sm s6).trans B7).sm st
    have fm8 := ((fm5.keep s6).but0 P6 B7).keep st
    have py8 := ((py.same s6).but1 P6 B7).same st
    have pl8 := ((pl5.keep s6).but B7 P6 g.ne).keep st
    have eS8 := st _ _ (B7 _ _ Sp (s6 _ _ eS5))
    have ed8 := st _ _ (kN P6 B7 (by intro ys z; cases z) ed)
    generalize upd H7 tt (.tup [V.ref d, V.str wo]) = H8 at P8 B8 fm8 py8 pl8 eS8 ed8 ⊢
    clear st htt P7 P6 ed d0 s6 r5 eS5 pl5 py fm5 B5 P5 B7
    obtain ⟨T2, eT2, e2T⟩ := sq2 eT
    clear eT
    subst e2T
    have eT := eT2
    clear eT2
    try dsimp only [gName]
    refine sg_eq (σ' := [some (.ref p), some (.ref S), some (.int (sz : Int)), some (.ref L), some (.ref L2), some (.ref x), some (.ref y), some (.ref d), some (.str wo), none, none, none, none, none, none, none]) rfl ?_
    -- what holds of the costs
    have wz2 : ∀ z ∈ sgs wo, z ∈ u1.map (·.1) := fun z hz => ku z (wz z hz)
    have wB2 : wB wo = true := wB_ofs fun z hz => sgz.sg z (wz z hz)
    generalize hc : cc u1 u2 u3 = c
    have C := cl_of RU
    rw [hc] at C
    have nn : ∀ x ∈ plc u1, ∀ y ∈ plc u1, 0 ≤ c x y := fun x hx y hy => by rw [← hc]; exact cc_ge RU hx hy
    have cle : ∀ x ∈ plc u1, ∀ y ∈ plc u1, c x y ≤ 200 := fun x hx y hy => by rw [← hc]; exact cc_le RU hx hy
    have emP : ("" : Str) ∈ plc u1 := List.mem_cons_self
    have toP : ∀ {z : Str}, z ∈ u1.map (·.1) → z ∈ plc u1 := fun h => List.mem_cons_of_mem _ h
    have ne0 : ∀ {z : Str}, z ∈ u1.map (·.1) → z ≠ "" := fun h e => em_not RU.ag (e ▸ h)
    have mvP : ∀ q ∈ m, ∀ p ∈ q.1, p.1 ∈ plc u1 := fun q hq p hp => toP (inM q hq p hp)
    have c1 : ∀ q ∈ m, ∀ p ∈ q.1, 0 ≤ c "" p.1 := fun q hq p hp => nn _ emP _ (mvP q hq p hp)
    have tbc : Tbl H8 d (plc u1) c := ⟨D, ed8, fun x hx y hy ne => by
      have hx' := (plc_perm pu1).mp hx
      have hy' := (plc_perm pu1).mp hy
      have := vl_look (tbl x hx' y hy' ne)
      rw [← hc, cc_perm R pu1 pu2 pu3 hx' hy']
      exact this⟩
    have l2 : ∀ q ∈ m, q.1.length ≤ 2 := fun q hq => by
      have := nd_len (g.wf.nd q hq) (k := zs) fun z hz => by
        obtain ⟨p', hp', rfl⟩ := List.mem_map.mp hz
        exact kz q hq p' hp'
      rw [List.length_map] at this
      omega
    have lwo : wo.cps.size ≤ 300 := by
      have h2 : wo.cps.size = wo.length := rfl
      omega
    -- the row, what is found
    refine ⟨_, rfl, _, rfl, _, rfl, x, y, srtM m, u1, u2, u3, wo, rfl, fm8, gS, lS, l5, py8, RU, sru, wB2, by omega, wz2, inS, fun H9 rr ns s9 er hW0 => ?_⟩
    rw [hc] at hW0
    have hW : RwW m c (sgs wo) ns := hW0.srt g.wf
    refine ⟨_, rfl, _, rfl, _, rfl, _, rfl, L, d, m, wo, sz, plc u1, c, rfl, pl8.keep s9, g.wf, g.ne, by omega, l2, sz9, tbc.keep (s9 d), C.zero, emP, fun z hz => ⟨toP (wz2 z hz), ne0 (wz2 z hz)⟩, fun q hq p hp => ⟨mvP q hq p hp, ne0 (inM q hq p hp)⟩, lwo, fun H10 F0 fs s10 f0 eF ok => ⟨n2, fun tt htt => ⟨tt, _, rfl, SqT.of upd_same, rfl, _, _, rfl, _, _, rfl, rfl, ?_⟩⟩⟩
    have st := s10.trans (Same.new (o := .tup [V.ref rr, V.ref F0]) htt)
    have sF := s9.trans st
    have eF11 := Same.new (o := .tup [V.ref rr, V.ref F0]) htt _ _ eF
    have er11 := st _ _ er
    have P11 := P8.sm1 sF
    have B11 := B8.sm sF
    have fm11 := fm8.keep sF
    have py11 := py8.same sF
    have pl11 := pl8.keep sF
    have eS11 := sF _ _ eS8
    have tb11 := tbc.keep (sF d)
    generalize upd H10 tt (.tup [V.ref rr, V.ref F0]) = H11 at eF11 er11 P11 B11 fm11 py11 pl11 eS11 tb11 ⊢
    clear st sF htt eF f0 s10 er s9 P8 B8 fm8 py8 pl8 eS8 ed8 tbc tbl
    obtain ⟨T2, eT2, e2T⟩ := sq2 eT
    clear eT
    subst e2T
    have eT := eT2
    clear eT2
    try dsimp only [gName]
    refine sg_eq (σ' := [some (.ref p), some (.ref S), some (.int (sz : Int)), some (.ref L), some (.ref L2), some (.ref x), some (.ref y), some (.ref d), some (.str wo), some (.ref rr), some (.ref F0), none, none, none, none, none]) rfl ?_
    -- the cheapest sign
    refine ⟨_, rfl, S, rfl, ⟨_, SqL.of eS11⟩, fun D0 hD => lc_it (walk_list (K := K) (a := S) (xs := zs.map V.str)) (fun i H12 => Same H11 H12 ∧ H12 D0 = some (.lst (((zs.take i).map (c "")).map V.int))) ⟨Same.new hD, upd_same⟩ (fun i H1 _ h1 => SqL.of (h1.1 _ _ eS11)) ?_ ?_⟩
    · rintro i v H120 H12 hi ⟨s12, e12⟩ ⟨rfl, hx⟩
      rw [List.length_map] at hi
      obtain rfl : V.str zs[i] = v := by
        rw [List.getElem?_map, List.getElem?_eq_getElem hi] at hx
        exact Option.some.inj hx
      have nx : zs.take (i + 1) = zs.take i ++ [zs[i]] := by
        rw [List.take_add_one, List.getElem?_eq_getElem hi]
        rfl
      have mz := ku _ (List.getElem_mem hi)
      refine ⟨rfl, _, rfl, _, rfl, n2, fun t ht => ⟨d, _, rfl, (tb11.keep (s12 d)).get ht emP (toP mz) (ne0 mz), ?_⟩⟩
      have st := Same.new (o := .tup [V.str "", V.str zs[i]]) ht
      refine ⟨_, st _ _ e12, lt1 (by rw [List.length_map, List.length_map, List.length_take]; omega), Same.upN (s12.trans st) hD, ?_⟩
      rw [upd_same, nx, List.map_append, List.map_append]
      rfl
    rintro H12 ⟨s12, e12⟩
    rw [List.length_map, List.take_length] at e12
    dsimp only [tNil]
    have zp : 0 < zs.length := List.length_pos_iff.mpr sgz.ne
    refine ⟨D0, zs.map (c ""), rfl, SqL.of e12, by rw [List.length_map]; exact zp, fun ch hch hle => ?_⟩
    have ch0 : 0 ≤ ch := by
      obtain ⟨z, hz, rfl⟩ := List.mem_map.mp hch
      exact nn _ emP _ (toP (ku z hz))
    have ch200 : ch ≤ 200 := by
      obtain ⟨z, hz, rfl⟩ := List.mem_map.mp hch
      exact cle _ emP _ (toP (ku z hz))
    have chm : ∀ q ∈ m, ∀ p ∈ q.1, ch ≤ c "" p.1 := fun q hq p hp => hle _ (List.mem_map.mpr ⟨p.1, kz q hq p hp, rfl⟩)
    have eF12 := s12 _ _ eF11
    have er12 := s12 _ _ er11
    have P12 := P11.sm1 s12
    have B12 := B11.sm s12
    have fm12 := fm11.keep s12
    have py12 := py11.same s12
    have pl12 := pl11.keep s12
    clear hle hch e12 hD s12 eF11 er11 P11 B11 fm11 py11 pl11 eS11 tb11
    obtain ⟨T2, eT2, e2T⟩ := sq2 eT
    clear eT
    subst e2T
    have eT := eT2
    clear eT2
    try dsimp only [gName]
    refine sg_eq (σ' := [some (.ref p), some (.ref S), some (.int (sz : Int)), some (.ref L), some (.ref L2), some (.ref x), some (.ref y), some (.ref d), some (.str wo), some (.ref rr), some (.ref F0), some (.int ch), none, none, none, none]) rfl ?_
    -- closed prices make the same row
    have inP : ∀ q ∈ srtM m, ∀ p ∈ q.1, p.1 ∈ plc u1 := fun q hq p hp => toP (inS q hq p hp)
    have ln := hW.len
    obtain ⟨dy, tt, da, db, dc, ey, _⟩ := id py12
    refine ⟨_, rfl, _, rfl, y, dy, _, rfl, ey, rfl, y, u1, u2, u3, rfl, py12, RU, sru, fun H13 y2 r1 r2 r3 cf s13 f13 py13 W sr2 => ?_⟩
    have kr : ∀ {z : Str}, z ∈ u1.map (·.1) → z ∈ r1.map (·.1) := fun h => W.keys1.mem_iff.mpr h
    refine ⟨_, rfl, x, y2, srtM m, r1, r2, r3, wo, rfl, fm12.keep s13, gS, lS, l5, py13, W.rt RU, sr2, wB2, by omega, fun z hz => kr (wz2 z hz), fun q hq p hp => kr (inS q hq p hp), fun H14 rr2 ns2 s14 er2 hW2 => ?_⟩
    have e2 := RwW.one hW2 _ (row_closed RU W inP (by rw [hc]; exact hW0) fun z hz => toP (wz2 z hz))
    have sN := s13.trans s14
    refine ⟨_, rfl, ne_rows er2 (sN _ _ er12) e2 ⟨_, rfl, iteF ?_⟩⟩
    have eF14 := sN _ _ eF12
    have er14 := sN _ _ er12
    have P14 := P12.sm1 sN
    have B14 := B12.sm sN
    have fm14 := fm12.keep sN
    have py14 := py12.same sN
    have pl14 := pl12.keep sN
    clear e2 er2 hW2 s14 sr2 W py13 f13 s13 sN eF12 er12 P12 B12 fm12 py12 pl12 kr ey
    obtain ⟨T2, eT2, e2T⟩ := sq2 eT
    clear eT
    subst e2T
    have eT := eT2
    clear eT2
    try dsimp only [gName]
    refine sg_eq (σ' := [some (.ref p), some (.ref S), some (.int (sz : Int)), some (.ref L), some (.ref L2), some (.ref x), some (.ref y), some (.ref d), some (.str wo), some (.ref rr), some (.ref F0), some (.int ch), none, none, none, none]) rfl ?_
    -- state by state
    obtain ⟨rs, eL, pt⟩ := id pl14
    have lrs : rs.length = m.length := Paired.length pt
    have lfs := ok.len
    refine ⟨_, rfl, L, _, rfl, .inl (SqL.of eL), (m.length : Int), by rw [List.length_map, lrs], by omega, by omega, for_range (lo := 0) (n := m.length) (fun i σ H1 => (∃ o12 o13, σ = [some (.ref p), some (.ref S), some (.int (sz : Int)), some (.ref L), some (.ref L2), some (.ref x), some (.ref y), some (.ref d), some (.str wo), some (.ref rr), some (.ref F0), some (.int ch), o12, o13, none, none]) ∧ H1 = H14) ⟨⟨_, _, rfl⟩, rfl⟩ ?_ ?_⟩
    · rintro i σ Hi hi ⟨⟨o12, o13, rfl⟩, rfl⟩
      have atr : atI (ns.map V.int) (0 + (i : Int)) = some (V.int (ns.getD i 0)) := by
        rw [Int.zero_add]
        exact atI_to (f := ns) (k := (i : Int)) (by omega) (by show i < ns.length; rw [ln, srt_len] at *; omega)
      have eat : ∀ u : Option Int, fs[i]? = some u → atI (fs.map oV) (0 + (i : Int)) = some (oV u) := fun u hu => by
        rw [Int.zero_add]
        exact atI_nat (by rw [List.getElem?_map, hu]; rfl)
      obtain ⟨u, hu⟩ : ∃ u, fs[i]? = some u := ⟨_, List.getElem?_eq_getElem (by omega)⟩
      have far : (fs[i]? = some none ∨ ∃ x, fs[i]? = some (some x) ∧ ns.getD i 0 < x) → ¬ ns.getD i 0 < ((sz : Int) + 1 - (wo.length : Int)) * ch := fun hf => by
        have := found_far g nn emP (fun z hz => toP (wz2 z hz)) mvP hW ok hi hf ch0 chm
        omega
      refine ⟨_, rfl, _, _, rfl, rfl, _, rfl, wo, rfl, ?_, _, _, rfl, rfl, _, rfl, _, _, rfl, rfl, .inr ⟨by omega, by omega⟩, ?_⟩
      · exact Nat.le_of_lt (lt1 (by omega))
      have c2 : ∀ (_ : Unit), ns.getD i 0 = ns.getD i 0 := fun _ => rfl
      cases u with
      | none =>
        refine ⟨_, rfl, _, rfl, F0, _, _, _, rfl, rfl, SqL.of eF14, eat _ hu, rfl, false, congrArg V.bl (by rw [show decide (oV none = V.non) = true from decide_eq_true rfl]; rfl), iteF (iteF ?_)⟩
        refine ⟨_, rfl, _, rfl, F0, _, _, _, rfl, rfl, SqL.of eF14, eat _ hu, rfl, true, congrArg V.bl (decide_eq_true rfl), iteT (iteT ?_)⟩
        exact ⟨_, rfl, _, rfl, rr, _, _, _, rfl, rfl, SqT.of er14, atr, _, rfl, _, _, rfl, rfl, false, congrArg V.bl (decide_eq_false (far (.inl hu))), iteF ⟨⟨_, _, rfl⟩, rfl⟩⟩
      | some x0 =>
        have ge := found_ge g c1 hW ok hu
        refine ⟨_, rfl, _, rfl, F0, _, _, _, rfl, rfl, SqL.of eF14, eat _ hu, rfl, true, congrArg V.bl (by rw [show decide (oV (some x0) = V.non) = false from decide_eq_false fun z => nomatch z]; rfl), iteT ?_⟩
        refine ⟨_, rfl, _, rfl, rr, _, _, _, rfl, rfl, SqT.of er14, atr, _, rfl, _, rfl, F0, _, _, _, rfl, rfl, SqL.of eF14, eat _ hu, _, _, rfl, rfl, false, congrArg V.bl (decide_eq_false (by omega)), iteF ?_⟩
        refine ⟨_, rfl, _, rfl, F0, _, _, _, rfl, rfl, SqL.of eF14, eat _ hu, rfl, false, congrArg V.bl (decide_eq_false fun z => nomatch z), iteF ?_⟩
        refine ⟨_, rfl, _, rfl, F0, _, _, _, rfl, rfl, SqL.of eF14, eat _ hu, _, rfl, _, rfl, rr, _, _, _, rfl, rfl, SqT.of er14, atr, _, _, rfl, rfl, ?_⟩
        by_cases lt : ns.getD i 0 < x0
        · exact ⟨true, congrArg V.bl (decide_eq_true lt), iteT ⟨_, rfl, _, rfl, rr, _, _, _, rfl, rfl, SqT.of er14, atr, _, rfl, _, _, rfl, rfl, false, congrArg V.bl (decide_eq_false (far (.inr ⟨x0, hu, lt⟩))), iteF ⟨⟨_, _, rfl⟩, rfl⟩⟩⟩
        · exact ⟨false, congrArg V.bl (decide_eq_false lt), iteF (iteF ⟨⟨_, _, rfl⟩, rfl⟩)⟩
    rintro σ Hi ⟨⟨o12, o13, rfl⟩, rfl⟩
    obtain ⟨T2, eT2, e2T⟩ := sq2 eT
    clear eT
    subst e2T
    have eT := eT2
    clear eT2
    -- what words of at most two signs cost
    have okR : RwOk ns := by
      have l1 := g.ne
      refine ⟨by omega, by omega, fun v hv => ?_⟩
      obtain ⟨j, hj, rfl⟩ := List.mem_iff_getElem.mp hv
      have hj2 : j < m.length := by omega
      have h1 := row_pos g nn emP (fun z hz => toP (wz2 z hz)) mvP hW hj2
      have h2 := rw_up g c1 hW (B := 200) (by decide) (fun q hq p hp => cle _ emP _ (mvP q hq p hp)) (fun z hz => cle _ (toP (wz2 z hz)) _ emP) hj2
      rw [gd_at hj] at h1 h2
      rw [sgs_length] at h2
      omega
    have lnS : ns.length = (srtM m).length := by rw [srt_len]; exact ln
    have lnM : ns.length = m.length := ln
    have atr : ∀ {j : Nat}, j < m.length → atI (ns.map V.int) (j : Int) = some (V.int (ns.getD j 0)) := fun {j} hj => atI_to (f := ns) (k := (j : Int)) (by omega) (by show j < ns.length; omega)
    refine ⟨_, rfl, L, m, 2, rfl, pl14, g.wf, g.ne, by omega, l2, by decide, fun H15 G s15 g0 eG => ?_⟩
    obtain ⟨ts, eG, pG⟩ := eG
    have lts : ts.length = (fndN m 2).length := Paired.length pG
    refine ⟨G, rfl, ⟨_, SqL.of eG⟩, for_it (walk_list (K := K) (a := G) (xs := ts.map V.ref)) (fun i σ H1 => (∃ q12 q13 q14, σ = [some (.ref p), some (.ref S), some (.int (sz : Int)), some (.ref L), some (.ref L2), some (.ref x), some (.ref y), some (.ref d), some (.str wo), some (.ref rr), some (.ref F0), some (.int ch), q12, q13, q14, none]) ∧ Same H15 H1) ⟨⟨_, _, _, rfl⟩, Same.refl _⟩ (fun i σ H1 _ h1 => SqL.of (h1.2 _ _ eG)) ?_ ?_⟩
    · rintro i v σ H160 H16 hi ⟨⟨q12, q13, q14, rfl⟩, s16⟩ ⟨rfl, hx⟩
      rw [List.length_map] at hi
      have hi2 : i < (fndN m 2).length := by omega
      obtain ⟨e, he, eT⟩ := _root_.L2.paired_get pG (List.getElem?_eq_getElem hi)
      have he2 : e = (fndN m 2)[i] := by
        rw [List.getElem?_eq_getElem hi2] at he
        exact (Option.some.inj he).symm
      obtain rfl : V.ref ts[i] = v := by
        rw [List.getElem?_map, List.getElem?_eq_getElem hi] at hx
        exact Option.some.inj hx
      obtain ⟨k, hk, eo⟩ := fnd_ok g (show e ∈ fndN m 2 by rw [he2]; exact List.getElem_mem hi2)
      have hj := eo.rg
      have ge := row_dw g c1 hW eo
      have eds : ds u1 u2 u3 wo e.1 = dW c wo e.1 := by
        show crn ("" : Str) (cc u1 u2 u3) _ _ = _
        rw [hc]
      have S16 := s15.trans s16
      have se : ∀ z ∈ sgs e.1, z ∈ u1.map (·.1) := fun z hz => by
        obtain ⟨q', hq', p', hp', rfl⟩ := eo.mv z hz
        exact inM q' hq' p' hp'
      have le := eo.len
      refine ⟨ts[i], _, rfl, SqT.of (s16 _ _ eT), rfl, _, _, rfl, _, _, rfl, rfl, ?_⟩
      refine ⟨_, rfl, _, rfl, _, rfl, wo, e.1, y, u1, u2, u3, rfl, py14.same S16, RU, sru, wz2, se, by omega, by omega, fun H17 s17 => ?_⟩
      rw [eds]
      have S17 := S16.trans s17
      refine ⟨_, rfl, _, rfl, rr, _, _, _, rfl, rfl, SqT.of (S17 _ _ er14), atr hj, _, _, rfl, rfl, false, congrArg V.bl (decide_eq_false (by omega)), iteF ?_⟩
      obtain ⟨⟨mv, la⟩, hq, dj, g1, g2⟩ := _root_.L2.paired_get pt (List.getElem?_eq_getElem (by omega : e.2 < rs.length))
      have eatj : atI (rs.map V.ref) (e.2 : Int) = some (V.ref rs[e.2]) := atI_nat (by rw [List.getElem?_map, List.getElem?_eq_getElem (by omega)]; rfl)
      refine ⟨_, rfl, _, rfl, L, _, _, _, rfl, rfl, SqL.of (S17 _ _ eL), eatj, rs[e.2], _, _, V.bl la, rfl, rfl, SqL.of (S17 _ _ g1), atI_nat (j := 1) rfl, la, rfl, ?_⟩
      cases la with
      | false => exact iteF (iteF ⟨⟨_, _, _, rfl⟩, s16.trans s17⟩)
      | true =>
        refine iteT ⟨_, rfl, _, rfl, _, rfl, wo, e.1, y, u1, u2, u3, rfl, py14.same S17, RU, sru, wz2, se, by omega, by omega, fun H18 s18 => ?_⟩
        rw [eds]
        have S18 := S17.trans s18
        refine ⟨_, rfl, _, rfl, x, rr, srtM m, ns, rfl, fm14.keep S18, S18 _ _ er14, okR, lnS, gS.wf, l5, selL_ne gS lnS, fun H19 kk s19 hmin => ?_⟩
        rw [selL_srt] at hmin
        have hmi : (m[e.2]).2 = true := by
          rw [List.getElem?_eq_getElem hj] at hq
          rw [Option.some.inj hq]
        have := hmin.2 _ (sel_inW hj lnM hmi)
        exact ⟨_, _, rfl, rfl, false, congrArg V.bl (decide_eq_false (by omega)), iteF ⟨⟨_, _, _, rfl⟩, ((s16.trans s17).trans s18).trans s19⟩⟩
    rintro σ H16 ⟨⟨q12, q13, q14, rfl⟩, s16⟩
    subst eT
    -- the end's cost
    have S16 := s15.trans s16
    have lz : (selL ns m) ≠ [] := selL_ne g lnM
    refine ⟨_, rfl, _, rfl, x, rr, srtM m, ns, rfl, fm14.keep S16, S16 _ _ er14, okR, lnS, gS.wf, l5, selL_ne gS lnS, fun H17 kk s17 hmin => ?_⟩
    rw [selL_srt] at hmin
    have S17 := S16.trans s17
    refine ⟨_, rfl, L, _, rfl, .inl (SqL.of (S17 _ _ eL)), (m.length : Int), by rw [List.length_map, lrs], by omega, by omega, fun D0 hD => lc_range (lo := 0) (n := m.length) (fun i H18 => Same H17 H18 ∧ H18 D0 = some (.lst (((((ns.zip m).take i).filter (·.2.2)).map (·.1)).map V.int))) ⟨Same.new hD, upd_same⟩ ?_ ?_⟩
    · rintro i H18 hi ⟨s18, e18⟩
      obtain ⟨⟨mv, la⟩, hq, dj, g1, g2⟩ := _root_.L2.paired_get pt (List.getElem?_eq_getElem (by omega : i < rs.length))
      have eatj : atI (rs.map V.ref) (0 + (i : Int)) = some (V.ref rs[i]) := by
        rw [Int.zero_add]
        exact atI_nat (by rw [List.getElem?_map, List.getElem?_eq_getElem (by omega)]; rfl)
      have atri : atI (ns.map V.int) (0 + (i : Int)) = some (V.int (ns.getD i 0)) := by
        rw [Int.zero_add]
        exact atr hi
      have S18 := S17.trans s18
      have eq : m[i] = (mv, la) := by
        rw [List.getElem?_eq_getElem hi] at hq
        exact Option.some.inj hq
      have nx := zip_take ns m i (by omega) hi
      rw [eq] at nx
      refine ⟨rfl, _, rfl, _, rfl, L, _, _, _, rfl, rfl, SqL.of (S18 _ _ eL), eatj, rs[i], _, _, V.bl la, rfl, rfl, SqL.of (S18 _ _ g1), atI_nat (j := 1) rfl, la, rfl, ?_⟩
      rw [nx, List.filter_append, List.map_append]
      cases la with
      | true =>
        refine iteT ⟨_, rfl, _, rfl, rr, _, _, _, rfl, rfl, SqT.of (S18 _ _ er14), atri, _, e18, lt1 ?_, Same.upN s18 hD, ?_⟩
        · rw [List.length_map, List.length_map]
          exact Nat.le_trans (List.length_filter_le _ _) (by rw [List.length_take, List.length_zip]; omega)
        · rw [upd_same, List.map_append, gd_at (by omega)]
          rfl
      | false =>
        refine iteF ⟨s18, ?_⟩
        rw [e18]
        simp
    rintro H18 ⟨s18, e18⟩
    rw [List.take_of_length_le (by rw [List.length_zip]; omega), show ((ns.zip m).filter (·.2.2)).map (·.1) = selL ns m from rfl] at e18
    dsimp only [tNil]
    refine ⟨D0, selL ns m, rfl, SqL.of e18, List.length_pos_iff.mpr lz, fun m1 h1 h2 => ?_⟩
    have e := IsMin.one hmin ⟨h1, h2⟩
    subst e
    refine ⟨rfl, ?_⟩
    have ee : decide (V.int kk = V.int kk) = true := decide_eq_true rfl
    rw [ee]
    have SF := S17.trans s18
    exact q _ (B14.sm SF) ((P14.sm1 SF).mono (by omega))
end
end Mk

set_option Elab.async false
set_option linter.all false
set_option maxRecDepth 100000
set_option maxHeartbeats 4000000
/-! the law -/
namespace Mk
open PySem PySem.Spec L2 PyProof.Rows

abbrev sLaw26 : Stmt := top 107
abbrev nLaw26 : List Str := ["_law_script", "_law_at", "_law_urn_here"]
def spLaw26 (K : PySem.W.Frag) : Sp := fun vs H Q _ => ∃ (a : Addr) (ns : List Int), vs = [.ref a] ∧ SqL K H a (ns.map V.int) ∧ ns.length ≤ 63 ∧ ∀ H', Q (.bl true) H'
theorem sgz_ab : SgZ ["a", "b"] ∧ SgZ ["a"] ∧ SgZ ["b", "d"] := ⟨⟨by decide, by decide, by decide +kernel, by decide +kernel⟩, ⟨by decide, by decide, by decide +kernel, by decide +kernel⟩, ⟨by decide, by decide, by decide +kernel, by decide +kernel⟩⟩
theorem cut_leL {p : Addr} {H : Hp} : Same (cutH p H) H := fun b o e => by
  by_cases hb : b = p
  · rw [hb, show cutH p H p = none from if_pos rfl] at e
    cases e
  · rwa [cutH_ne hb] at e
section
variable {P : Program} {w : World} {K : PySem.W.Frag} {mg : Str → Option Value} {base : Heap} {CP CF : Addr}
theorem scLaw26 : FnScope nLaw26 ["_law_script"] (defScope sLaw26) := ⟨rfl, rfl, rfl, by decide +kernel, rfl, by decide +kernel, by decide +kernel⟩
theorem ok_law26 {f : Addr} {fd : FuncData} (F : Fun K "law" "law" sLaw26 f fd) (B : Bn mg)
    (D1 : Cd P w K mg base 1 "_law_urn" ["_law_script", "_law_at"] (spFilled K)) (D2 : Cd P w K mg base 10 "_law_right" ["_law_urn_here", "_law_signs", "_law_size"] spR6) :
    FnG P w K mg base CX0 11 f fd ["_law_script"] (spLaw26 K) := by
  obtain ⟨a1, d1, G1, m1, k1, b1⟩ := D1.ex
  obtain ⟨a2, d2, G2, m2, k2, b2⟩ := D2.ex
  refine Fun_okG F scLaw26 (fun vs H Q E h => ?_) (fun cdv A outer s H vs Q E hr gd h => ?_)
  · obtain ⟨a, ns, rfl, _⟩ := h
    rfl
  · obtain ⟨a, ns, rfl, hS, hlen, q⟩ := h
    refine ⟨_, pss_cons (ps_for PassesOwn.never rfl (pi_range1 (by rfl) B.range (pa_cons (pe_callB (call_max2 rfl) (by rfl) B.max (by decide +kernel) (pa_cons pe_int (pa_cons (pe_callB (call_min2 rfl) (by rfl) B.min (by decide +kernel) (pa_cons pe_int (pa_cons (pe_callB call_len_seq (by rfl) B.len PySem.boot_len (pa_cons (pv 0) pa_nil)) pa_nil))) pa_nil))) pa_nil)) (pg_name (i := 1) scLaw26.nd rfl (.inl rfl))
        (pss_cons (ps_set (i := 2) scLaw26.nd rfl (.inl rfl) (pe_call G1 (hr.mono (by decide)) (by rfl) m1 k1 b1 .nil pass0 (pa_cons (pv 0) (pa_cons (pv 1) pa_nil))))
        (pss_one (ps_if (PW.pt (pw_or (pt_not (pt_val (pe_call G2 (hr.mono (by decide)) (by rfl) m2 k2 b2 .nil pass0 (pa_cons (pv 2) (pa_cons (pe_lst (pa_cons pe_str (pa_cons pe_str pa_nil))) (pa_cons pe_int pa_nil))))))
            (pw_or (pt_not (pt_val (pe_call G2 (hr.mono (by decide)) (by rfl) m2 k2 b2 .nil pass0 (pa_cons (pv 2) (pa_cons (pe_lst (pa_cons pe_str pa_nil)) (pa_cons pe_int pa_nil))))))
            (pw_or1 (pt_not (pt_val (pe_call G2 (hr.mono (by decide)) (by rfl) m2 k2 b2 .nil pass0 (pa_cons (pv 2) (pa_cons (pe_lst (pa_cons pe_str (pa_cons pe_str pa_nil))) (pa_cons pe_int pa_nil)))))))))) (pss_one (ps_ret pe_bl)) pss_nil))))
      (pss_one (ps_ret pe_bl)), ?_⟩
    refine ⟨_, rfl, a, _, rfl, .inl hS, 4, _, rfl, 1, _, rfl, _, rfl, ?_, ?_, ?_⟩
    · split <;> (try split) <;> omega
    · split <;> (try split) <;> omega
    have few : ∀ z : Int, (if (if z < 4 then z else 4) > 1 then (if z < 4 then z else 4) else 1).toNat ≤ 4 := fun z => by split <;> (try split) <;> omega
    have fewz := few ((ns.map V.int).length : Nat)
    have n1 : 1 ≤ sizeLine := by decide
    have n2 : 2 ≤ sizeLine := by decide
    refine for_range (lo := 0) (n := Int.toNat _) (fun i σ H1 => (∃ o1 o2, σ = [some (.ref a), o1, o2]) ∧ SqL K H1 a (ns.map V.int)) ⟨⟨_, _, rfl⟩, hS⟩ ?_ ?_
    · rintro i σ Hi hi ⟨⟨o1, o2, rfl⟩, hS1⟩
      refine ⟨_, rfl, _, rfl, a, ns, i, (by show [V.ref a, V.int (0 + (i : Int))] = _; rw [Int.zero_add]), hS1, hlen, (by omega), fun Hj p s2 p0 P2 => ?_⟩
      have cS2 : SqL K (cutH p Hj) a (ns.map V.int) := SqL.extN (ExtN.intoCut (sameN s2) p0) hS1
      have hPB : ∀ {n : Nat}, n ≤ 100000 → n < PB := fun h => Nat.lt_of_le_of_lt h (by decide)
      have P2e : ∃ xs, Hj p = some (.lst xs) := P2.lst
      clear hS1 s2 p0 Hi
      refine ⟨_, rfl, n2, fun S1 h1 => ?_⟩
      have s1 := Same.new (o := .lst [V.str "a", V.str "b"]) h1
      have P3 := P2.sm1 s1
      have ne1 : S1 ≠ p := fun z => by
        obtain ⟨xs, e⟩ := P2e
        rw [z, e] at h1
        cases h1
      refine ⟨p, S1, _, 7, ["a", "b"], rfl, P3, hPB (by omega), ne1, upd_same, sgz_ab.1, by decide, by decide, fun Ha Ba Pa => ⟨_, rfl, iteF ?_⟩⟩
      have B1 := (But.of_same s1).trans Ba
      refine ⟨_, rfl, n1, fun S2 h2 => ?_⟩
      have s3 := Same.new (o := .lst [V.str "a"]) h2
      have P4 := Pa.sm1 s3
      have ne2 : S2 ≠ p := fun z => by
        obtain ⟨xs, e⟩ := Pa.lst
        rw [z, e] at h2
        cases h2
      refine ⟨p, S2, _, 9, ["a"], rfl, P4, hPB (by omega), ne2, upd_same, sgz_ab.2.1, by decide, by decide, fun Hb Bb Pb => ⟨_, rfl, iteF ?_⟩⟩
      have B2 := (B1.sm s3).trans Bb
      refine ⟨_, rfl, n2, fun S3 h3 => ?_⟩
      have s4 := Same.new (o := .lst [V.str "b", V.str "d"]) h3
      have P5 := Pb.sm1 s4
      have ne3 : S3 ≠ p := fun z => by
        obtain ⟨xs, e⟩ := Pb.lst
        rw [z, e] at h3
        cases h3
      refine ⟨p, S3, _, 5, ["b", "d"], rfl, P5, hPB (by omega), ne3, upd_same, sgz_ab.2.2, by decide, by decide, fun Hc Bc Pc => ⟨_, rfl, iteF ⟨⟨_, _, rfl⟩, ?_⟩⟩⟩
      have B3 := (B2.sm s4).trans Bc
      exact SqL.extN (sameN cut_leL) (SqL.extN (sameN B3.cut) cS2)
    · rintro σ H1 ⟨⟨o1, o2, rfl⟩, _⟩
      exact q _
end
end Mk

set_option Elab.async false
set_option linter.all false
set_option maxRecDepth 100000
set_option maxHeartbeats 4000000
namespace Mk
open PySem PySem.Spec PyProof.Rows L2

/-! ### what the top has written -/
structure Df (K : PySem.W.Frag) (x : Str) (st : Stmt) (f : Addr) : Prop where
  at_ : PySem.W.nsIn K mainGlobals x = some (some (.ref f))
  fn : ∃ fd, Fun K x x st f fd
theorem df_mk {K : PySem.W.Frag} {x : Str} {st : Stmt} {f : Addr} {oc kV doc pm cd ct : Value} {od an : Option Addr} {sl : Array (Option Value)} (a : PySem.W.nsIn K mainGlobals x = some (some (.ref f)))
    (l : K.lookup f = some ⟨oc, od, .func (PySem.W.fnOf x x (defArgs st) (defBody st) (defScope st) .none kV doc pm an cd ct), sl⟩) (c : PySem.W.codeIn K cd x = true) (k : PySem.W.keepIn K (.ref f) = true) : Df K x st f :=
  ⟨a, _, fun_mk (st := st) l c k⟩
/-- a def of the class -/
structure Mf (K : PySem.W.Frag) (C : Addr) (m qual : Str) (st : Stmt) (g : Addr) : Prop where
  find : PySem.W.findIn K (.ref C) m = some (some (.ref g))
  fun_ : PySem.W.isFn K (.ref g) = true
  fn : ∃ fd, Fun K m qual st g fd
theorem mf_mk {K : PySem.W.Frag} {C : Addr} {m qual : Str} {st : Stmt} {g : Addr} {oc kV doc pm cd ct : Value} {od an : Option Addr} {sl : Array (Option Value)} (a : PySem.W.findIn K (.ref C) m = some (some (.ref g))) (i : PySem.W.isFn K (.ref g) = true)
    (l : K.lookup g = some ⟨oc, od, .func (PySem.W.fnOf m qual (defArgs st) (defBody st) (defScope st) .none kV doc pm an cd ct), sl⟩) (c : PySem.W.codeIn K cd qual = true) (k : PySem.W.keepIn K (.ref g) = true) : Mf K C m qual st g :=
  ⟨a, i, _, fun_mk (st := st) l c k⟩
/-- a property of the class -/
structure Pf (K : PySem.W.Frag) (C : Addr) (m qual : Str) (st : Stmt) (p g : Addr) : Prop where
  of : PropOf K C m p g
  fn : ∃ fd, Fun K m qual st g fd
theorem pf_mk {K : PySem.W.Frag} {C : Addr} {m qual : Str} {st : Stmt} {p g : Addr} {rest : List Value} {oc kV doc pm cd ct : Value} {od an : Option Addr} {sl : Array (Option Value)} (a : PySem.W.findIn K (.ref C) m = some (some (.ref p)))
    (b : PySem.W.specialIn K (.ref p) "__get__" = some (some (.builtin "property.__get__"))) (t : PySem.W.takesIn K (.ref p) = some true) (r : PySem.W.recIn K p "property" = some (.ref g :: rest))
    (l : K.lookup g = some ⟨oc, od, .func (PySem.W.fnOf m qual (defArgs st) (defBody st) (defScope st) .none kV doc pm an cd ct), sl⟩) (c : PySem.W.codeIn K cd qual = true) (k : PySem.W.keepIn K (.ref g) = true) : Pf K C m qual st p g :=
  ⟨⟨a, b, t, _, r⟩, _, fun_mk (st := st) l c k⟩
theorem kit_own {K : PySem.W.Frag} {C : Addr} {T : String} (h1 : PySem.W.isClsIn K C = true) (h2 : PySem.W.typeIn K (.ref C) = some (.type "type")) (h3 : PySem.W.subIn K (.type T) (.ref C) = some false) : PySem.W.kitOne K (.type T) (.ref C) = some false := by
  have e2 : ((PySem.W.clsIn K C).isSome && PySem.W.typeIn K (.ref C) == some (.type "type")) = true := by
    have h4 : (PySem.W.clsIn K C).isSome = true := h1
    rw [h4, h2] <;> rfl
  unfold PySem.W.kitOne
  rw [if_neg (by intro z; cases z)]
  show (if ((PySem.W.clsIn K C).isSome && PySem.W.typeIn K (.ref C) == some (.type "type")) = true then PySem.W.subIn K (.type T) (.ref C) else none) = _
  rw [if_pos e2]
  exact h3
/-- an exception of the class at S is what the handler for S takes -/
theorem cat_self {K : PySem.W.Frag} {S : Addr} (sb : PySem.W.subIn K (.ref S) (.type "BaseException") = some true) (ic : PySem.W.isClsIn K S = true) (ty : PySem.W.typeIn K (.ref S) = some (.type "type")) (ss : PySem.W.subIn K (.ref S) (.ref S) = some true) : PySem.W.exmOne K (.ref S) (.ref S) = some true := by
  have e2 : ((PySem.W.clsIn K S).isSome && PySem.W.typeIn K (.ref S) == some (.type "type")) = true := by
    have h4 : (PySem.W.clsIn K S).isSome = true := ic
    rw [h4, ty] <;> rfl
  have e1 : (PySem.W.subIn K (.ref S) (.type "BaseException") == some true) = true := by
    rw [sb] <;> rfl
  unfold PySem.W.exmOne
  rw [if_pos e1]
  show (if ((PySem.W.clsIn K S).isSome && PySem.W.typeIn K (.ref S) == some (.type "type")) = true then PySem.W.subIn K (.ref S) (.ref S) else none) = _
  rw [if_pos e2]
  exact ss
theorem lg_of {mg : Str → Option Value} {h : Heap} (V : PySem.W.LooseAre [("LARGEST", PySem.W.WData.int LG)] mg h) : ∃ t, mg "LARGEST" = some (.int LG t) := by
  obtain ⟨v, e, r⟩ := V.val _ List.mem_cons_self
  cases r
  exact ⟨_, e⟩

theorem kit_self {K : PySem.W.Frag} {C : Addr} : PySem.W.kitOne K (.ref C) (.ref C) = some true := by
  unfold PySem.W.kitOne
  rw [if_pos (beq_self_eq_true _)]
theorem all_mk {l : PySem.W.OpenLaw} {w : World} {K : PySem.W.Frag} {h : Heap} {mg : Str → Option Value} {fa CF CP CR CB fiF fiP fiR fw TW : Addr} {f1 f2 f3 f4 f5 f6 f7 f8 f9 f10 f11 f12 f13 f14 f15 f16 f17 f18 f19 f20 f21 f22 f23 f24 f25 f26 f27 f28 f29 f30 f31 f32 f33 f34 f35 f36 f37 f38 f39 f40 f41 f42 f43 f44 f45 f46 f47 f48 f49 f50 f51 gL gN gC gB gA p0 q0 p4 q4 p5 q5 p1 q1 p2 q2 p3 q3 : Addr} (X : K.In h) (G : h.Ns mainGlobals mg) (V : PySem.W.LooseAre [("LARGEST", PySem.W.WData.int LG)] mg h) (hfa : mg "law" = some (.ref fa))
    (D1 : Df K "is_sign" sIsSign f1)
    (D2 : Df K "is_number" sIsNum f2)
    (D3 : Df K "is_number_within" sIsNumW f3)
    (D4 : Df K "_is_state" sIsSt f4)
    (D5 : Df K "_states_ahead_of_last" sEndM f5)
    (D6 : Df K "useful_states" sUsef f6)
    (D7 : Df K "is_machine_of_form" sIsMF f7)
    (D8 : Df K "copied" sCopd f8)
    (D9 : Df K "_has_prices" sHasP f9)
    (D10 : Df K "_is_sign_table" sIsST f10)
    (D11 : Df K "_is_pair" sIsPair f11)
    (D12 : Df K "_are_tables" sAreT f12)
    (D13 : Df K "ascending_dict" sAsc f13)
    (D14 : Df K "_direct_costs" sDirC f14)
    (D15 : Df K "_least_costs" sLeast f15)
    (D16 : Df K "costs_by_ends" sByEnds f16)
    (D17 : Df K "_pairs" sPairs f17)
    (D18 : Df K "_lower" sLower f18)
    (D19 : Df K "put_costs" sPutC f19)
    (D20 : Df K "_ways" sWays f20)
    (D21 : Df K "_law_urn" sUrn f21)
    (D22 : Df K "_law_pull" sPull f22)
    (D23 : Df K "_law_from" sFrom f23)
    (D24 : Df K "_law_plain_form" sPF f24)
    (D25 : Df K "_law_plain_prices" sPP f25)
    (D26 : Df K "_law_form" sLForm f26)
    (D27 : Df K "_law_prices" sLPr f27)
    (D28 : Df K "_law_closed" sCld f28)
    (D29 : Df K "_law_word" sWrd f29)
    (D30 : Df K "check_form" sChkF f30)
    (D31 : Df K "check_prices" sChkPr f31)
    (D32 : Df K "is_word" sIsWord f32)
    (D33 : Df K "check_word" sChkW f33)
    (D34 : Df K "have_signs" sHave f34)
    (D35 : Df K "check_sizes" sChkZ f35)
    (D36 : Df K "check_treated" sChkT f36)
    (D37 : Df K "row_of" sRowOf f37)
    (D38 : Df K "_law_led" sLed f38)
    (D39 : Df K "_law_price" sPrc f39)
    (D40 : Df K "_law_distance" sDsL f40)
    (D41 : Df K "_law_least_to" sLto f41)
    (D42 : Df K "_check_pair" sPair6 f42)
    (D43 : Df K "_cost_rows" sRows f43)
    (D44 : Df K "_cost_between" sBetw f44)
    (D45 : Df K "distance" sDist f45)
    (D46 : Df K "is_row_of" sIsRowOf f46)
    (D47 : Df K "_check_row" sChkRow f47)
    (D48 : Df K "_check_row_of" sChkRowOf f48)
    (D49 : Df K "end_cost" sEndC f49)
    (D50 : Df K "_law_right" sR6 f50)
    (D51 : Df K "law" sLaw26 f51)
    (z_len : PySem.W.nsIn K mainGlobals "len" = some none)
    (z_int : PySem.W.nsIn K mainGlobals "int" = some none)
    (z_abs : PySem.W.nsIn K mainGlobals "abs" = some none)
    (z_max : PySem.W.nsIn K mainGlobals "max" = some none)
    (z_min : PySem.W.nsIn K mainGlobals "min" = some none)
    (z_range : PySem.W.nsIn K mainGlobals "range" = some none)
    (z_list : PySem.W.nsIn K mainGlobals "list" = some none)
    (z_isinstance : PySem.W.nsIn K mainGlobals "isinstance" = some none)
    (z_str : PySem.W.nsIn K mainGlobals "str" = some none)
    (z_tuple : PySem.W.nsIn K mainGlobals "tuple" = some none)
    (z_all : PySem.W.nsIn K mainGlobals "all" = some none)
    (z_sorted : PySem.W.nsIn K mainGlobals "sorted" = some none)
    (z_set : PySem.W.nsIn K mainGlobals "set" = some none)
    (z_bool : PySem.W.nsIn K mainGlobals "bool" = some none)
    (z_dict : PySem.W.nsIn K mainGlobals "dict" = some none)
    (z_sum : PySem.W.nsIn K mainGlobals "sum" = some none)
    (z_enumerate : PySem.W.nsIn K mainGlobals "enumerate" = some none)
    (z_zip : PySem.W.nsIn K mainGlobals "zip" = some none)
    {tS tP tM tW t8 t6 t9 : Tok}
    (vS : PySem.W.nsIn K mainGlobals "SIGNS" = some (some (.str "abcde" tS)))
    (vP : PySem.W.nsIn K mainGlobals "MAX_PRICE" = some (some (.int 9 tP)))
    (vM : PySem.W.nsIn K mainGlobals "MAX_SWAP_PRICE" = some (some (.int 18 tM)))
    (vW : PySem.W.nsIn K mainGlobals "MAX_WORD" = some (some (.int 1000 tW)))
    {tC : Tok}
    (vC : PySem.W.nsIn K mainGlobals "MAX_COMPARED" = some (some (.int 200 tC)))
    (v8 : PySem.W.nsIn K mainGlobals "MAX_WRITTEN" = some (some (.int 8 t8)))
    (v6 : PySem.W.nsIn K mainGlobals "MAX_TREATED" = some (some (.int 6 t6)))
    (v9 : PySem.W.nsIn K mainGlobals "MAX_PASSED" = some (some (.int 9999 t9)))
    (aB : PySem.W.nsIn K mainGlobals "Built" = some (some (.ref CB)))
    (cB : PySem.W.isClsIn K CB = true)
    (tB : PySem.W.typeIn K (.ref CB) = some (.type "type"))
    (sB : PySem.W.subIn K (.type "tuple") (.ref CB) = some false)
    (aF : PySem.W.nsIn K mainGlobals "Form" = some (some (.ref CF)))
    (pgF : PySem.W.plainGet K CF Str.empty = true)
    (hdF : PySem.W.hasDictIn K CF = true)
    (poF : PySem.W.plainOver K CF = true)
    (saF : PySem.W.findIn K (.ref CF) "__setattr__" = some (some (.builtin "object.__setattr__")))
    (mkF : PySem.W.makesIn K CF = true)
    (kcF : PySem.W.keepIn K (.ref CF) = true)
    (nF0 : PySem.W.findIn K (.ref CF) "_states" = some none)
    {oiF kViF dociF pmiF cdiF ctiF : Value} {odiF aniF : Option Addr} {sliF : Array (Option Value)}
    (iiF : PySem.W.findIn K (.ref CF) "__init__" = some (some (.ref fiF)))
    (jfF : PySem.W.isFn K (.ref fiF) = true)
    (liF : K.lookup fiF = some ⟨oiF, odiF, .func (PySem.W.fnOf "__init__" "Form.__init__" (defArgs sFInit) (defBody sFInit) (defScope sFInit) .none kViF dociF pmiF aniF cdiF ctiF), sliF⟩)
    (ciF : PySem.W.codeIn K cdiF "Form.__init__" = true)
    (kiF : PySem.W.keepIn K (.ref fiF) = true)
    (aP : PySem.W.nsIn K mainGlobals "Prices" = some (some (.ref CP)))
    (pgP : PySem.W.plainGet K CP Str.empty = true)
    (hdP : PySem.W.hasDictIn K CP = true)
    (poP : PySem.W.plainOver K CP = true)
    (saP : PySem.W.findIn K (.ref CP) "__setattr__" = some (some (.builtin "object.__setattr__")))
    (mkP : PySem.W.makesIn K CP = true)
    (kcP : PySem.W.keepIn K (.ref CP) = true)
    (nP0 : PySem.W.findIn K (.ref CP) "_signs" = some none)
    (nP1 : PySem.W.findIn K (.ref CP) "_put" = some none)
    (nP2 : PySem.W.findIn K (.ref CP) "_out" = some none)
    (nP3 : PySem.W.findIn K (.ref CP) "_swap" = some none)
    {oiP kViP dociP pmiP cdiP ctiP : Value} {odiP aniP : Option Addr} {sliP : Array (Option Value)}
    (iiP : PySem.W.findIn K (.ref CP) "__init__" = some (some (.ref fiP)))
    (jfP : PySem.W.isFn K (.ref fiP) = true)
    (liP : K.lookup fiP = some ⟨oiP, odiP, .func (PySem.W.fnOf "__init__" "Prices.__init__" (defArgs sInit) (defBody sInit) (defScope sInit) .none kViP dociP pmiP aniP cdiP ctiP), sliP⟩)
    (ciP : PySem.W.codeIn K cdiP "Prices.__init__" = true)
    (kiP : PySem.W.keepIn K (.ref fiP) = true)
    (aR : PySem.W.nsIn K mainGlobals "Reader" = some (some (.ref CR)))
    (pgR : PySem.W.plainGet K CR Str.empty = true)
    (hdR : PySem.W.hasDictIn K CR = true)
    (poR : PySem.W.plainOver K CR = true)
    (saR : PySem.W.findIn K (.ref CR) "__setattr__" = some (some (.builtin "object.__setattr__")))
    (mkR : PySem.W.makesIn K CR = true)
    (kcR : PySem.W.keepIn K (.ref CR) = true)
    (nR0 : PySem.W.findIn K (.ref CR) "start" = some none)
    (nR1 : PySem.W.findIn K (.ref CR) "last_states" = some none)
    (nR2 : PySem.W.findIn K (.ref CR) "ways" = some none)
    {oiR kViR dociR pmiR cdiR ctiR : Value} {odiR aniR : Option Addr} {sliR : Array (Option Value)}
    (iiR : PySem.W.findIn K (.ref CR) "__init__" = some (some (.ref fiR)))
    (jfR : PySem.W.isFn K (.ref fiR) = true)
    (liR : K.lookup fiR = some ⟨oiR, odiR, .func (PySem.W.fnOf "__init__" "Reader.__init__" (defArgs sRInit) (defBody sRInit) (defScope sRInit) .none kViR dociR pmiR aniR cdiR ctiR), sliR⟩)
    (ciR : PySem.W.codeIn K cdiR "Reader.__init__" = true)
    (kiR : PySem.W.keepIn K (.ref fiR) = true)
    (hn : PySem.W.specialIn K (.builtin "object.__class__") "__get__" = some (some (.builtin "getset_descriptor.__get__")))
    (ht : PySem.W.takesIn K (.builtin "object.__class__") = some true)
    (haF : PySem.W.findIn K (.ref CF) "__class__" = some (some (.builtin "object.__class__")))
    (hmF : PySem.W.mroIn K CF (.type "object") = some true)
    (haP : PySem.W.findIn K (.ref CP) "__class__" = some (some (.builtin "object.__class__")))
    (hmP : PySem.W.mroIn K CP (.type "object") = some true)
    {oc0 kV0 doc0 pm0 cd0 ct0 : Value} {od0 an0 : Option Addr} {sl0 : Array (Option Value)}
    (w_a : PySem.W.nsIn K mainGlobals "first_words" = some (some (.ref fw)))
    (w_l : K.lookup fw = some ⟨oc0, od0, .func (PySem.W.fnOf "first_words" "first_words" (defArgs sFirstW) (defBody sFirstW) (defScope sFirstW) (.ref TW) kV0 doc0 pm0 an0 cd0 ct0), sl0⟩)
    (w_c : PySem.W.codeIn K cd0 "first_words" = true)
    (w_k : PySem.W.keepIn K (.ref fw) = true)
    {tc0 : Value} {td0 : Option Addr} {tt0 : Tok} {tn0 : Nat} {ts0 : Array (Option Value)}
    (w_T : K.lookup TW = some ⟨tc0, td0, .seq #[.int 0 tt0] tn0, ts0⟩)
    (ML : Mf K CF "__len__" "Form.__len__" sFLen gL)
    (MN : Mf K CP "__contains__" "Prices.__contains__" sContP gN)
    (MC : Mf K CP "closed" "Prices.closed" sClosed gC)
    (MB : Mf K CR "behind" "Reader.behind" sRBeh gB)
    (MA : Mf K CR "rows_along" "Reader.rows_along" sRAl gA)
    (Q0 : Pf K CF "states" "Form.states" sFSt p0 q0)
    (Q4 : Pf K CF "signs" "Form.signs" sFSig p4 q4)
    (Q5 : Pf K CP "signs" "Prices.signs" sSignsP p5 q5)
    (Q1 : Pf K CP "put" "Prices.put" sPutP p1 q1)
    (Q2 : Pf K CP "out" "Prices.out" sOutP p2 q2)
    (Q3 : Pf K CP "swap" "Prices.swap" sSwapP p3 q3) :
    ∃ fd : FuncData, (∀ (s : Shared) (v : Value), BindsTo s fd ⟨[v], []⟩ [("_law_script", v)]) ∧ ∀ base : Heap, K.In base → base.Ns mainGlobals mg → FnG l.prog w K mg base CX0 11 fa fd ["_law_script"] (spLaw26 K) := by
  have gm := fun {x : Str} {v : Value} (e : PySem.W.nsIn K mainGlobals x = some (some v)) => PySem.W.mg_of X G e
  have gz := fun {x : Str} (e : PySem.W.nsIn K mainGlobals x = some none) => PySem.W.mg_none_of X G e
  have B : Bn mg := ⟨gz z_len, gz z_int, gz z_abs, gz z_max, gz z_min, gz z_range, gz z_list⟩
  have W : Wn mg := ⟨gz z_isinstance, gz z_str, _, gm vS⟩
  have O : On mg := ⟨gz z_tuple, gz z_all, gz z_sorted, gz z_set⟩
  have N : Nn mg := ⟨gz z_bool, lg_of V⟩
  have M : Pn mg := ⟨gz z_dict, ⟨_, gm vP⟩, ⟨_, gm vM⟩⟩
  have Dd : Dn mg := ⟨gz z_dict⟩
  have En : En mg := ⟨gz z_enumerate⟩
  have Zp : Zn mg := ⟨gz z_zip⟩
  obtain ⟨d1, F1⟩ := D1.fn
  have b1 := F1.binds (ps := ["value"]) fun _ _ _ _ _ _ us hl => match us, hl with | [_], _ => rfl
  obtain ⟨d2, F2⟩ := D2.fn
  have b2 := F2.binds (ps := ["value"]) fun _ _ _ _ _ _ us hl => match us, hl with | [_], _ => rfl
  obtain ⟨d3, F3⟩ := D3.fn
  have b3 := F3.binds (ps := ["value", "least", "most"]) fun _ _ _ _ _ _ us hl => match us, hl with | [_, _, _], _ => rfl
  obtain ⟨d4, F4⟩ := D4.fn
  have b4 := F4.binds (ps := ["value", "many"]) fun _ _ _ _ _ _ us hl => match us, hl with | [_, _], _ => rfl
  obtain ⟨d5, F5⟩ := D5.fn
  have b5 := F5.binds (ps := ["machine"]) fun _ _ _ _ _ _ us hl => match us, hl with | [_], _ => rfl
  obtain ⟨d6, F6⟩ := D6.fn
  have b6 := F6.binds (ps := ["machine"]) fun _ _ _ _ _ _ us hl => match us, hl with | [_], _ => rfl
  obtain ⟨d7, F7⟩ := D7.fn
  have b7 := F7.binds (ps := ["value", "most"]) fun _ _ _ _ _ _ us hl => match us, hl with | [_, _], _ => rfl
  obtain ⟨d8, F8⟩ := D8.fn
  have b8 := F8.binds (ps := ["machine"]) fun _ _ _ _ _ _ us hl => match us, hl with | [_], _ => rfl
  obtain ⟨d9, F9⟩ := D9.fn
  have b9 := F9.binds (ps := ["value", "most"]) fun _ _ _ _ _ _ us hl => match us, hl with | [_, _], _ => rfl
  obtain ⟨d10, F10⟩ := D10.fn
  have b10 := F10.binds (ps := ["value"]) fun _ _ _ _ _ _ us hl => match us, hl with | [_], _ => rfl
  obtain ⟨d11, F11⟩ := D11.fn
  have b11 := F11.binds (ps := ["value", "signs"]) fun _ _ _ _ _ _ us hl => match us, hl with | [_, _], _ => rfl
  obtain ⟨d12, F12⟩ := D12.fn
  have b12 := F12.binds (ps := ["put", "out", "swap"]) fun _ _ _ _ _ _ us hl => match us, hl with | [_, _, _], _ => rfl
  obtain ⟨d13, F13⟩ := D13.fn
  have b13 := F13.binds (ps := ["table"]) fun _ _ _ _ _ _ us hl => match us, hl with | [_], _ => rfl
  obtain ⟨d14, F14⟩ := D14.fn
  have b14 := F14.binds (ps := ["put", "out", "swap"]) fun _ _ _ _ _ _ us hl => match us, hl with | [_, _, _], _ => rfl
  obtain ⟨d15, F15⟩ := D15.fn
  have b15 := F15.binds (ps := ["put", "out", "swap"]) fun _ _ _ _ _ _ us hl => match us, hl with | [_, _, _], _ => rfl
  obtain ⟨d16, F16⟩ := D16.fn
  have b16 := F16.binds (ps := ["prices"]) fun _ _ _ _ _ _ us hl => match us, hl with | [_], _ => rfl
  obtain ⟨d17, F17⟩ := D17.fn
  have b17 := F17.binds (ps := ["signs"]) fun _ _ _ _ _ _ us hl => match us, hl with | [_], _ => rfl
  obtain ⟨d18, F18⟩ := D18.fn
  have b18 := F18.binds (ps := ["table", "key", "number"]) fun _ _ _ _ _ _ us hl => match us, hl with | [_, _, _], _ => rfl
  obtain ⟨d19, F19⟩ := D19.fn
  have b19 := F19.binds (ps := ["states", "costs"]) fun _ _ _ _ _ _ us hl => match us, hl with | [_, _], _ => rfl
  obtain ⟨d20, F20⟩ := D20.fn
  have b20 := F20.binds (ps := ["states", "sign", "costs", "gaps"]) fun _ _ _ _ _ _ us hl => match us, hl with | [_, _, _, _], _ => rfl
  obtain ⟨d21, F21⟩ := D21.fn
  have b21 := F21.binds (ps := ["_law_script", "_law_at"]) fun _ _ _ _ _ _ us hl => match us, hl with | [_, _], _ => rfl
  obtain ⟨d22, F22⟩ := D22.fn
  have b22 := F22.binds (ps := ["_law_urn_here", "_law_total"]) fun _ _ _ _ _ _ us hl => match us, hl with | [_, _], _ => rfl
  obtain ⟨d23, F23⟩ := D23.fn
  have b23 := F23.binds (ps := ["_law_urn_here", "_law_items"]) fun _ _ _ _ _ _ us hl => match us, hl with | [_, _], _ => rfl
  obtain ⟨d24, F24⟩ := D24.fn
  have b24 := F24.binds (ps := ["_law_urn_here", "_law_signs", "_law_most"]) fun _ _ _ _ _ _ us hl => match us, hl with | [_, _, _], _ => rfl
  obtain ⟨d25, F25⟩ := D25.fn
  have b25 := F25.binds (ps := ["_law_urn_here", "_law_signs", "_law_most"]) fun _ _ _ _ _ _ us hl => match us, hl with | [_, _, _], _ => rfl
  obtain ⟨d26, F26⟩ := D26.fn
  have b26 := F26.binds (ps := ["_law_plain"]) fun _ _ _ _ _ _ us hl => match us, hl with | [_], _ => rfl
  obtain ⟨d27, F27⟩ := D27.fn
  have b27 := F27.binds (ps := ["_law_plain"]) fun _ _ _ _ _ _ us hl => match us, hl with | [_], _ => rfl
  obtain ⟨d28, F28⟩ := D28.fn
  have b28 := F28.binds (ps := ["_law_plain"]) fun _ _ _ _ _ _ us hl => match us, hl with | [_], _ => rfl
  obtain ⟨d29, F29⟩ := D29.fn
  have b29 := F29.binds (ps := ["_law_urn_here", "_law_signs", "_law_most"]) fun _ _ _ _ _ _ us hl => match us, hl with | [_, _, _], _ => rfl
  obtain ⟨d30, F30⟩ := D30.fn
  have b30 := F30.binds (ps := ["form"]) fun _ _ _ _ _ _ us hl => match us, hl with | [_], _ => rfl
  obtain ⟨d31, F31⟩ := D31.fn
  have b31 := F31.binds (ps := ["prices"]) fun _ _ _ _ _ _ us hl => match us, hl with | [_], _ => rfl
  obtain ⟨d32, F32⟩ := D32.fn
  have b32 := F32.binds (ps := ["value"]) fun _ _ _ _ _ _ us hl => match us, hl with | [_], _ => rfl
  obtain ⟨d33, F33⟩ := D33.fn
  have b33 := F33.binds (ps := ["word"]) fun _ _ _ _ _ _ us hl => match us, hl with | [_], _ => rfl
  obtain ⟨d34, F34⟩ := D34.fn
  have b34 := F34.binds (ps := ["prices", "signs"]) fun _ _ _ _ _ _ us hl => match us, hl with | [_, _], _ => rfl
  obtain ⟨d35, F35⟩ := D35.fn
  have b35 := F35.binds (ps := ["forms"]) fun _ _ _ _ _ _ us hl => match us, hl with | [_], _ => rfl
  obtain ⟨d36, F36⟩ := D36.fn
  have b36 := F36.binds (ps := ["forms", "prices", "signs"]) fun _ _ _ _ _ _ us hl => match us, hl with | [_, _, _], _ => rfl
  obtain ⟨d37, F37⟩ := D37.fn
  have b37 := F37.binds (ps := ["target", "prices", "word"]) fun _ _ _ _ _ _ us hl => match us, hl with | [_, _, _], _ => rfl
  obtain ⟨d38, F38⟩ := D38.fn
  have b38 := F38.binds (ps := ["_law_plain", "_law_size"]) fun _ _ _ _ _ _ us hl => match us, hl with | [_, _], _ => rfl
  obtain ⟨d39, F39⟩ := D39.fn
  have b39 := F39.binds (ps := ["_law_table", "_law_one", "_law_other"]) fun _ _ _ _ _ _ us hl => match us, hl with | [_, _, _], _ => rfl
  obtain ⟨d40, F40⟩ := D40.fn
  have b40 := F40.binds (ps := ["_law_table", "_law_one", "_law_other"]) fun _ _ _ _ _ _ us hl => match us, hl with | [_, _, _], _ => rfl
  obtain ⟨d41, F41⟩ := D41.fn
  have b41 := F41.binds (ps := ["_law_plain", "_law_table", "_law_word_here", "_law_size"]) fun _ _ _ _ _ _ us hl => match us, hl with | [_, _, _, _], _ => rfl
  obtain ⟨d42, F42⟩ := D42.fn
  have b42 := F42.binds (ps := ["one", "other", "prices"]) fun _ _ _ _ _ _ us hl => match us, hl with | [_, _, _], _ => rfl
  obtain ⟨d43, F43⟩ := D43.fn
  have b43 := F43.binds (ps := ["one", "other", "costs"]) fun _ _ _ _ _ _ us hl => match us, hl with | [_, _, _], _ => rfl
  obtain ⟨d44, F44⟩ := D44.fn
  have b44 := F44.binds (ps := ["one", "other", "costs"]) fun _ _ _ _ _ _ us hl => match us, hl with | [_, _, _], _ => rfl
  obtain ⟨d45, F45⟩ := D45.fn
  have b45 := F45.binds (ps := ["one", "other", "prices"]) fun _ _ _ _ _ _ us hl => match us, hl with | [_, _, _], _ => rfl
  obtain ⟨d46, F46⟩ := D46.fn
  have b46 := F46.binds (ps := ["value", "many", "most"]) fun _ _ _ _ _ _ us hl => match us, hl with | [_, _, _], _ => rfl
  obtain ⟨d47, F47⟩ := D47.fn
  have b47 := F47.binds (ps := ["row"]) fun _ _ _ _ _ _ us hl => match us, hl with | [_], _ => rfl
  obtain ⟨d48, F48⟩ := D48.fn
  have b48 := F48.binds (ps := ["target", "row"]) fun _ _ _ _ _ _ us hl => match us, hl with | [_, _], _ => rfl
  obtain ⟨d49, F49⟩ := D49.fn
  have b49 := F49.binds (ps := ["target", "row"]) fun _ _ _ _ _ _ us hl => match us, hl with | [_, _], _ => rfl
  obtain ⟨d50, F50⟩ := D50.fn
  have b50 := F50.binds (ps := ["_law_urn_here", "_law_signs", "_law_size"]) fun _ _ _ _ _ _ us hl => match us, hl with | [_, _, _], _ => rfl
  obtain ⟨d51, F51⟩ := D51.fn
  obtain ⟨eLn, NL⟩ := ML.fn
  have cbL := NL.binds (ps := ["self"]) fun _ _ _ _ _ _ us hl => match us, hl with | [_], _ => rfl
  obtain ⟨eNn, NN⟩ := MN.fn
  have cbN := NN.binds (ps := ["self", "value"]) fun _ _ _ _ _ _ us hl => match us, hl with | [_, _], _ => rfl
  obtain ⟨eCn, NC⟩ := MC.fn
  have cbC := NC.binds (ps := ["self"]) fun _ _ _ _ _ _ us hl => match us, hl with | [_], _ => rfl
  obtain ⟨eBn, NB⟩ := MB.fn
  have cbB := NB.binds (ps := ["self", "row", "sign"]) fun _ _ _ _ _ _ us hl => match us, hl with | [_, _, _], _ => rfl
  obtain ⟨eAn, NA⟩ := MA.fn
  have cbA := NA.binds (ps := ["self", "word"]) fun _ _ _ _ _ _ us hl => match us, hl with | [_, _], _ => rfl
  obtain ⟨h0, R0⟩ := Q0.fn
  have j0 := R0.binds (ps := ["self"]) fun _ _ _ _ _ _ us hl => match us, hl with | [_], _ => rfl
  obtain ⟨h4, R4⟩ := Q4.fn
  have j4 := R4.binds (ps := ["self"]) fun _ _ _ _ _ _ us hl => match us, hl with | [_], _ => rfl
  obtain ⟨h5, R5⟩ := Q5.fn
  have j5 := R5.binds (ps := ["self"]) fun _ _ _ _ _ _ us hl => match us, hl with | [_], _ => rfl
  obtain ⟨h1, R1⟩ := Q1.fn
  have j1 := R1.binds (ps := ["self"]) fun _ _ _ _ _ _ us hl => match us, hl with | [_], _ => rfl
  obtain ⟨h2, R2⟩ := Q2.fn
  have j2 := R2.binds (ps := ["self"]) fun _ _ _ _ _ _ us hl => match us, hl with | [_], _ => rfl
  obtain ⟨h3, R3⟩ := Q3.fn
  have j3 := R3.binds (ps := ["self"]) fun _ _ _ _ _ _ us hl => match us, hl with | [_], _ => rfl
  have clF : Cls K CF := ⟨pgF, hdF, poF, saF⟩
  have TcF : Fc K CF := ⟨clF, nF0⟩
  have FiF := fun_mk (st := sFInit) liF ciF kiF
  have biF := FiF.binds (ps := ["self", "states"]) fun _ _ _ _ _ _ us hl => match us, hl with | [_, _], _ => rfl
  have McF : L2.Mk K CF fiF := ⟨mkF, iiF, jfF, kcF⟩
  have clP : Cls K CP := ⟨pgP, hdP, poP, saP⟩
  have TcP : Pc K CP := ⟨clP, nP0, nP1, nP2, nP3⟩
  have FiP := fun_mk (st := sInit) liP ciP kiP
  have McP : L2.Mk K CP fiP := ⟨mkP, iiP, jfP, kcP⟩
  have clR : Cls K CR := ⟨pgR, hdR, poR, saR⟩
  have TcR : Rc K CR := ⟨clR, nR0, nR1, nR2⟩
  have FiR := fun_mk (st := sRInit) liR ciR kiR
  have biR := FiR.binds (ps := ["self", "target", "prices"]) fun _ _ _ _ _ _ us hl => match us, hl with | [_, _, _], _ => rfl
  have McR : L2.Mk K CR fiR := ⟨mkR, iiR, jfR, kcR⟩
  have IkP : IsK K CP := ⟨haP, hn, ht, hmP⟩
  have Z : Kn K mg CF CB := ⟨gm aB, gm aF, kit_own cB tB sB, kit_self, ⟨_, gm v8⟩, ⟨_, gm v6⟩, ⟨_, gm v9⟩, fun e => .base (.ins e clF haF hn ht hmF)⟩
  have Fw : FunD K "first_words" "first_words" (defArgs sFirstW) (defBody sFirstW) (defScope sFirstW) [.int 0] [] fw _ := ⟨⟨oc0, od0, .ref TW, kV0, doc0, pm0, an0, cd0, ct0, sl0, rfl, w_l, w_c, .inr ⟨List.cons_ne_nil _ _, TW, _, [.int 0 tt0], tn0, rfl, w_T, rfl, .cons ⟨_, rfl⟩ .nil⟩, .inl rfl⟩, w_k⟩
  obtain ⟨dsW, vdW, bW⟩ := Fw.binds1 (ps := ["machine", "start"]) 1 0 (List.cons_ne_nil _ _) rfl fun _ _ _ _ _ _ _ us its hu hi => match us, its, hu, hi with | [_], [_], _, _ => ⟨_, rfl, rfl⟩
  have eL : f51 = fa := by
    have e := hfa.symm.trans (gm D51.at_)
    cases e
    rfl
  subst eL
  have FL := F51
  obtain ⟨oc', od', kV', doc', pm', an', cdv', ct', osl', rfl, lk', hcd'⟩ := FL.ex
  refine ⟨PySem.W.fnOf "law" "law" (defArgs sLaw26) (defBody sLaw26) (defScope sLaw26) .none kV' doc' pm' an' cdv' ct', fun s v => .of_eq rfl, fun base _ _ => ?_⟩
  have GW : FnOk l.prog w K mg base CX0 1 fw _ ["machine", "start"] spFirstW := ok_firstW Fw B O
  have C_isSign : Cd l.prog w K mg base 1 "is_sign" ["value"] (spJudge sgB K) := ⟨_, _, ok_isSign F1 B W, gm D1.at_, F1.kp, b1⟩
  have C_isNum : Cd l.prog w K mg base 1 "is_number" ["value"] spIsNum := ⟨_, _, ok_isNum F2 B W N, gm D2.at_, F2.kp, b2⟩
  have C_isNumW : Cd l.prog w K mg base 2 "is_number_within" ["value", "least", "most"] spIsNumW := ⟨_, _, ok_isNumW F3 C_isNum, gm D3.at_, F3.kp, b3⟩
  have C_isSt : Cd l.prog w K mg base 3 "_is_state" ["value", "many"] spIsSt := ⟨_, _, ok_isSt F4 B W O N Dd C_isSign C_isNumW, gm D4.at_, F4.kp, b4⟩
  have C_endM : Cd l.prog w K mg base 1 "_states_ahead_of_last" ["machine"] spEndM := ⟨_, _, ok_endM F5 B En, gm D5.at_, F5.kp, b5⟩
  have C_usef : Cd l.prog w K mg base 2 "useful_states" ["machine"] spUsef := ⟨_, _, ok_usef F6 C_endM GW (gm w_a) w_k bW vdW, gm D6.at_, F6.kp, b6⟩
  have C_isMF : Cd l.prog w K mg base 4 "is_machine_of_form" ["value", "most"] spIsMF := ⟨_, _, ok_isMF F7 B W O C_isSt C_usef, gm D7.at_, F7.kp, b7⟩
  have C_copd : Cd l.prog w K mg base 1 "copied" ["machine"] spCopd := ⟨_, _, ok_copd F8 O, gm D8.at_, F8.kp, b8⟩
  have GiF : FnOk l.prog w K mg base CX0 5 fiF _ ["self", "states"] (spFInit CF) := ok_fInit FiF TcF W Z C_isMF C_copd
  have GP0 : FnOk l.prog w K mg base CX0 2 q0 h0 ["self"] (spFSt CF) := ok_fSt R0 TcF C_copd
  have PdF0 : Pd l.prog w K mg base CF 2 "states" (spFSt CF) := ⟨p0, q0, h0, Q0.of, GP0, j0⟩
  have PdF4 : Pd l.prog w K mg base CF 1 "signs" (spFSig CF) := ⟨p4, q4, h4, Q4.of, ok_fSig R4 TcF O, j4⟩
  have GL : FnOk l.prog w K mg base CX0 1 gL eLn ["self"] (spFLen CF) := ok_fLen NL TcF B
  have C_hasP : Cd l.prog w K mg base 3 "_has_prices" ["value", "most"] spHasP := ⟨_, _, ok_hasP F9 W O M C_isNumW, gm D9.at_, F9.kp, b9⟩
  have C_isST : Cd l.prog w K mg base 4 "_is_sign_table" ["value"] spIsST := ⟨_, _, ok_isST F10 O M C_hasP C_isSign, gm D10.at_, F10.kp, b10⟩
  have C_isPair : Cd l.prog w K mg base 1 "_is_pair" ["value", "signs"] spPair := ⟨_, _, ok_isPair F11 B W O, gm D11.at_, F11.kp, b11⟩
  have C_areT : Cd l.prog w K mg base 5 "_are_tables" ["put", "out", "swap"] spAreT := ⟨_, _, ok_areT F12 O M C_isST C_hasP C_isPair, gm D12.at_, F12.kp, b12⟩
  have C_asc : Cd l.prog w K mg base 1 "ascending_dict" ["table"] spAsc := ⟨_, _, ok_asc F13 O, gm D13.at_, F13.kp, b13⟩
  have GiP : FnOk l.prog w K mg base CX0 6 fiP _ ["self", "put", "out", "swap"] (spInit CP) := ok_init FiP TcP O C_areT C_asc
  have PdP5 : Pd l.prog w K mg base CP 1 "signs" (spSigns CP) := ⟨p5, q5, h5, Q5.of, ok_signsP R5 TcP, j5⟩
  have PdP1 : Pd l.prog w K mg base CP 2 "put" (spTabP CP fun t _ => t) := ⟨p1, q1, h1, Q1.of, ok_putP R1 TcP C_asc, j1⟩
  have PdP2 : Pd l.prog w K mg base CP 2 "out" (spTabP CP fun _ t => t) := ⟨p2, q2, h2, Q2.of, ok_outP R2 TcP C_asc, j2⟩
  have PdP3 : Pd l.prog w K mg base CP 2 "swap" (spTabS CP) := ⟨p3, q3, h3, Q3.of, ok_swapP R3 TcP C_asc, j3⟩
  have GN : FnOk l.prog w K mg base CX0 1 gN eNn ["self", "value"] (spCont K CP) := ok_contP NN TcP
  have C_dir : Cd l.prog w K mg base 1 "_direct_costs" ["put", "out", "swap"] spDir := ⟨_, _, ok_dir F14 , gm D14.at_, F14.kp, b14⟩
  have C_least : Cd l.prog w K mg base 2 "_least_costs" ["put", "out", "swap"] spLc := ⟨_, _, ok_least F15 B C_dir, gm D15.at_, F15.kp, b15⟩
  have C_by : Cd l.prog w K mg base 4 "costs_by_ends" ["prices"] (spBy CP) := ⟨_, _, ok_by F16 TcP C_least PdP1 PdP2 PdP3, gm D16.at_, F16.kp, b16⟩
  have C_pairs : Cd l.prog w K mg base 1 "_pairs" ["signs"] spPairs := ⟨_, _, ok_pairs F17 , gm D17.at_, F17.kp, b17⟩
  have GC : FnOk l.prog w K mg base CX0 8 gC eCn ["self"] (spClosed CP) := ok_closed NC TcP McP FiP GiP (gm aP) C_by C_pairs
  have C_lower : Cd l.prog w K mg base 1 "_lower" ["table", "key", "number"] spLower := ⟨_, _, ok_lower F18 B, gm D18.at_, F18.kp, b18⟩
  have C_putC : Cd l.prog w K mg base 2 "put_costs" ["states", "costs"] spPutC := ⟨_, _, ok_putC F19 B En C_lower, gm D19.at_, F19.kp, b19⟩
  have C_ways : Cd l.prog w K mg base 2 "_ways" ["states", "sign", "costs", "gaps"] spWays := ⟨_, _, ok_ways F20 B O En C_lower, gm D20.at_, F20.kp, b20⟩
  have GiR : FnOk l.prog w K mg base CX0 5 fiR _ ["self", "target", "prices"] (spRInit CF CP CR) := ok_rInit FiR TcF TcP TcR B O En PdF0 PdP5 C_by C_putC C_ways
  have GB : FnOk l.prog w K mg base CX0 1 gB eBn ["self", "row", "sign"] (spRBeh CR) := ok_rBeh NB TcR B O
  have GA : FnOk l.prog w K mg base CX0 2 gA eAn ["self", "word"] (spRAl CR) := ok_rAl NA TcR ⟨MB.find, MB.fun_, NB.kp⟩ GB cbB
  have C_urn : Cd l.prog w K mg base 1 "_law_urn" ["_law_script", "_law_at"] (spFilled K) := ⟨_, _, ok_urn F21 B, gm D21.at_, F21.kp, b21⟩
  have C_pull : Cd l.prog w K mg base 1 "_law_pull" ["_law_urn_here", "_law_total"] spDip := ⟨_, _, ok_pull F22 B, gm D22.at_, F22.kp, b22⟩
  have C_from : Cd l.prog w K mg base 2 "_law_from" ["_law_urn_here", "_law_items"] (spFrom K) := ⟨_, _, ok_from F23 B C_pull, gm D23.at_, F23.kp, b23⟩
  have C_pf : Cd l.prog w K mg base 3 "_law_plain_form" ["_law_urn_here", "_law_signs", "_law_most"] spPF := ⟨_, _, ok_pf F24 B (gz z_enumerate) C_pull C_from, gm D24.at_, F24.kp, b24⟩
  have C_ppb : Cd l.prog w K mg base 2 "_law_plain_prices" ["_law_urn_here", "_law_signs", "_law_most"] spPPb := ⟨_, _, ok_ppb F25 Dd C_pull, gm D25.at_, F25.kp, b25⟩
  have C_lForm : Cd l.prog w K mg base 7 "_law_form" ["_law_plain"] (spLForm CF) := ⟨_, _, ok_lForm F26 O McF GiF biF Z, gm D26.at_, F26.kp, b26⟩
  have C_lPr : Cd l.prog w K mg base 8 "_law_prices" ["_law_plain"] (spMade CP) := ⟨_, _, ok_lPr F27 McP FiP GiP (gm aP), gm D27.at_, F27.kp, b27⟩
  have C_cld : Cd l.prog w K mg base 1 "_law_closed" ["_law_plain"] spCld := ⟨_, _, ok_cld F28 B O Dd, gm D28.at_, F28.kp, b28⟩
  have C_wrd : Cd l.prog w K mg base 3 "_law_word" ["_law_urn_here", "_law_signs", "_law_most"] spWrd := ⟨_, _, ok_wrd F29 B C_pull C_from, gm D29.at_, F29.kp, b29⟩
  have C_chkF : Cd l.prog w K mg base 1 "check_form" ["form"] (spChkF CF) := ⟨_, _, ok_chkF F30 W Z, gm D30.at_, F30.kp, b30⟩
  have C_chkPr : Cd l.prog w K mg base 1 "check_prices" ["prices"] (spChkPr CP) := ⟨_, _, ok_chkPr F31 TcP IkP (gm aP) (gz z_isinstance), gm D31.at_, F31.kp, b31⟩
  have C_isWord : Cd l.prog w K mg base 1 "is_word" ["value"] (spJudge wB K) := ⟨_, _, ok_isWord F32 W, gm D32.at_, F32.kp, b32⟩
  have C_chkW : Cd l.prog w K mg base 2 "check_word" ["word"] spChkW := ⟨_, _, ok_chkW F33 B ⟨_, gm vW⟩ C_isWord, gm D33.at_, F33.kp, b33⟩
  have C_haveX : Cd l.prog w K mg base 2 "have_signs" ["prices", "signs"] (spHaveX CP) := ⟨_, _, ok_haveX F34 O ⟨MN.find, MN.fun_⟩ GN cbN, gm D34.at_, F34.kp, b34⟩
  have C_haveT : Cd l.prog w K mg base 2 "have_signs" ["prices", "signs"] (spHaveT CP) := ⟨_, _, ok_haveT F34 O ⟨MN.find, MN.fun_⟩ GN cbN, gm D34.at_, F34.kp, b34⟩
  have C_chkZ : Cd l.prog w K mg base 3 "check_sizes" ["forms"] (spChkZ CF) := ⟨_, _, ok_chkZ F35 B Z ⟨ML.find, ML.fun_⟩ GL cbL, gm D35.at_, F35.kp, b35⟩
  have C_treat : Cd l.prog w K mg base 4 "check_treated" ["forms", "prices", "signs"] (spTreat CF CP) := ⟨_, _, ok_treat F36 O TcF C_haveX C_haveT C_chkZ PdF4, gm D36.at_, F36.kp, b36⟩
  have C_rowOfG : Cd l.prog w K mg base 7 "row_of" ["target", "prices", "word"] (spRowOfG CF CP) := ⟨_, _, ok_rowOfG F37 TcR McR GiR biR (gm aR) ⟨MA.find, MA.fun_, NA.kp⟩ GA cbA C_chkF C_chkPr C_chkW C_treat, gm D37.at_, F37.kp, b37⟩
  have C_led : Cd l.prog w K mg base 1 "_law_led" ["_law_plain", "_law_size"] spLed := ⟨_, _, ok_led F38 B O, gm D38.at_, F38.kp, b38⟩
  have C_prc : Cd l.prog w K mg base 1 "_law_price" ["_law_table", "_law_one", "_law_other"] spPrc := ⟨_, _, ok_prc F39 , gm D39.at_, F39.kp, b39⟩
  have C_dsL : Cd l.prog w K mg base 2 "_law_distance" ["_law_table", "_law_one", "_law_other"] spDsL := ⟨_, _, ok_dsL F40 B En C_prc, gm D40.at_, F40.kp, b40⟩
  have C_lto : Cd l.prog w K mg base 3 "_law_least_to" ["_law_plain", "_law_table", "_law_word_here", "_law_size"] spLto := ⟨_, _, ok_lto F41 B C_led C_dsL, gm D41.at_, F41.kp, b41⟩
  have C_haveS : Cd l.prog w K mg base 2 "have_signs" ["prices", "signs"] (spHaveS CP) := ⟨_, _, ok_haveS F34 O ⟨MN.find, MN.fun_⟩ GN cbN, gm D34.at_, F34.kp, b34⟩
  have C_pair6 : Cd l.prog w K mg base 3 "_check_pair" ["one", "other", "prices"] (spPair6 CP) := ⟨_, _, ok_pair6 F42 B ⟨⟨_, gm vW⟩, ⟨_, gm vC⟩⟩ C_chkW C_chkPr C_haveS, gm D42.at_, F42.kp, b42⟩
  have C_rows : Cd l.prog w K mg base 1 "_cost_rows" ["one", "other", "costs"] spRows := ⟨_, _, ok_rows F43 B En, gm D43.at_, F43.kp, b43⟩
  have C_betw : Cd l.prog w K mg base 2 "_cost_between" ["one", "other", "costs"] spBetw := ⟨_, _, ok_betw F44 C_rows, gm D44.at_, F44.kp, b44⟩
  have C_dist : Cd l.prog w K mg base 5 "distance" ["one", "other", "prices"] (spDist CP) := ⟨_, _, ok_dist F45 C_pair6 C_by C_betw, gm D45.at_, F45.kp, b45⟩
  have C_isNumV : Cd l.prog w K mg base 1 "is_number" ["value"] (spIsNumV K) := ⟨_, _, ok_isNumV F2 B W N, gm D2.at_, F2.kp, b2⟩
  have C_isNumWV : Cd l.prog w K mg base 2 "is_number_within" ["value", "least", "most"] (spIsNumWV K) := ⟨_, _, ok_isNumWV F3 C_isNumV, gm D3.at_, F3.kp, b3⟩
  have C_isRowOf : Cd l.prog w K mg base 3 "is_row_of" ["value", "many", "most"] (spIsRowOf K) := ⟨_, _, ok_isRowOf F46 B W O C_isNumWV, gm D46.at_, F46.kp, b46⟩
  have C_chkRow : Cd l.prog w K mg base 4 "_check_row" ["row"] spChkRow := ⟨_, _, ok_chkRow F47 B W O Z C_isRowOf, gm D47.at_, F47.kp, b47⟩
  have C_chkRowOf : Cd l.prog w K mg base 5 "_check_row_of" ["target", "row"] (spChkRowOf CF) := ⟨_, _, ok_chkRowOf F48 B ⟨ML.find, ML.fun_⟩ GL cbL C_chkRow, gm D48.at_, F48.kp, b48⟩
  have C_endC : Cd l.prog w K mg base 6 "end_cost" ["target", "row"] (spEndC CF) := ⟨_, _, ok_endC F49 TcF B Zp C_chkF C_chkRowOf Q0.of GP0 j0, gm D49.at_, F49.kp, b49⟩
  have C_r6 : Cd l.prog w K mg base 10 "_law_right" ["_law_urn_here", "_law_signs", "_law_size"] spR6 := ⟨_, _, ok_r6 F50 B TcP ⟨gC, _, ⟨MC.find, MC.fun_, NC.kp⟩, GC, cbC⟩ C_pf C_ppb C_lForm C_lPr C_cld C_wrd C_rowOfG C_lto C_led C_dist C_endC, gm D50.at_, F50.kp, b50⟩
  exact ok_law26 F51 B C_urn C_r6
theorem walk {l : PySem.W.OpenLaw} {q p : Program} {loose : List Str} {YP : World → Heap → Prop} {d : DefRec} {K : Params → PySem.W.Frag} (hn : l.most = some 63) (hdf : d.params.defaults = [])
    (hY : ∀ (w : World) (h : Heap), YP w h → (K w.params).In h)
    (F : ∀ (w : World) (mg : Str → Option Value) (fa : Addr) (h : Heap), (K w.params).In h → h.Ns mainGlobals mg → PySem.W.XL p [("LARGEST", PySem.W.WData.int LG)] mg h → mg d.name = some (.ref fa) →
      ∃ fd : FuncData, (∀ (s : Shared) (u : Value), BindsTo s fd ⟨[u], []⟩ [("_law_script", u)]) ∧ ∀ base : Heap, (K w.params).In base → base.Ns mainGlobals mg → FnG l.prog w (K w.params) mg base CX0 11 fa fd ["_law_script"] (spLaw26 (K w.params))) :
    PySem.W.WalkO q loose (PySem.W.XL p [("LARGEST", PySem.W.WData.int LG)]) YP l.row.toRowW d [] (fun f vs => PySem.call f vs) :=
  walk_ofG (n := 63) (k := 11) (x := "_law_script") (sp := fun w => spLaw26 (K w.params)) hn (by decide) hdf ⟨rfl, by decide, by decide⟩ hY F (fun _ _ a ns hl _ hS => ⟨a, ns, rfl, hS, hl, fun _ => rfl⟩)
end Mk

open PySem PySem.W PyProof.Rows in
set_option maxRecDepth 100000 in
set_option maxHeartbeats 0 in
theorem PySem.Challenge.cw_mendnumber_k26_whole_rows_by_all_words_holds : PySem.Challenge.rw_mendnumber_k26_whole_rows_by_all_words.Holds := by
  refine head26 ?_
  k_fill
  refine Mk.walk (l := PySem.Challenge.rw_mendnumber_k26_whole_rows_by_all_words) rfl rfl (fun w h Y => PySem.W.kIn_of Y) ?F
  case F =>
    intro w mg fa h KX G XP hmg
    refine' Mk.all_mk KX G XP.2 hmg (Mk.df_mk ?a1 ?l1 ?c1 ?k1) (Mk.df_mk ?a2 ?l2 ?c2 ?k2) (Mk.df_mk ?a3 ?l3 ?c3 ?k3) (Mk.df_mk ?a4 ?l4 ?c4 ?k4) (Mk.df_mk ?a5 ?l5 ?c5 ?k5) (Mk.df_mk ?a6 ?l6 ?c6 ?k6) (Mk.df_mk ?a7 ?l7 ?c7 ?k7) (Mk.df_mk ?a8 ?l8 ?c8 ?k8) (Mk.df_mk ?a9 ?l9 ?c9 ?k9) (Mk.df_mk ?a10 ?l10 ?c10 ?k10) (Mk.df_mk ?a11 ?l11 ?c11 ?k11) (Mk.df_mk ?a12 ?l12 ?c12 ?k12) (Mk.df_mk ?a13 ?l13 ?c13 ?k13) (Mk.df_mk ?a14 ?l14 ?c14 ?k14) (Mk.df_mk ?a15 ?l15 ?c15 ?k15) (Mk.df_mk ?a16 ?l16 ?c16 ?k16) (Mk.df_mk ?a17 ?l17 ?c17 ?k17) (Mk.df_mk ?a18 ?l18 ?c18 ?k18) (Mk.df_mk ?a19 ?l19 ?c19 ?k19) (Mk.df_mk ?a20 ?l20 ?c20 ?k20) (Mk.df_mk ?a21 ?l21 ?c21 ?k21) (Mk.df_mk ?a22 ?l22 ?c22 ?k22) (Mk.df_mk ?a23 ?l23 ?c23 ?k23) (Mk.df_mk ?a24 ?l24 ?c24 ?k24) (Mk.df_mk ?a25 ?l25 ?c25 ?k25) (Mk.df_mk ?a26 ?l26 ?c26 ?k26) (Mk.df_mk ?a27 ?l27 ?c27 ?k27) (Mk.df_mk ?a28 ?l28 ?c28 ?k28) (Mk.df_mk ?a29 ?l29 ?c29 ?k29) (Mk.df_mk ?a30 ?l30 ?c30 ?k30) (Mk.df_mk ?a31 ?l31 ?c31 ?k31) (Mk.df_mk ?a32 ?l32 ?c32 ?k32) (Mk.df_mk ?a33 ?l33 ?c33 ?k33) (Mk.df_mk ?a34 ?l34 ?c34 ?k34) (Mk.df_mk ?a35 ?l35 ?c35 ?k35) (Mk.df_mk ?a36 ?l36 ?c36 ?k36) (Mk.df_mk ?a37 ?l37 ?c37 ?k37) (Mk.df_mk ?a38 ?l38 ?c38 ?k38) (Mk.df_mk ?a39 ?l39 ?c39 ?k39) (Mk.df_mk ?a40 ?l40 ?c40 ?k40) (Mk.df_mk ?a41 ?l41 ?c41 ?k41) (Mk.df_mk ?a42 ?l42 ?c42 ?k42) (Mk.df_mk ?a43 ?l43 ?c43 ?k43) (Mk.df_mk ?a44 ?l44 ?c44 ?k44) (Mk.df_mk ?a45 ?l45 ?c45 ?k45) (Mk.df_mk ?a46 ?l46 ?c46 ?k46) (Mk.df_mk ?a47 ?l47 ?c47 ?k47) (Mk.df_mk ?a48 ?l48 ?c48 ?k48) (Mk.df_mk ?a49 ?l49 ?c49 ?k49) (Mk.df_mk ?a50 ?l50 ?c50 ?k50) (Mk.df_mk ?a51 ?l51 ?c51 ?k51) ?y_z_len ?y_z_int ?y_z_abs ?y_z_max ?y_z_min ?y_z_range ?y_z_list ?y_z_isinstance ?y_z_str ?y_z_tuple ?y_z_all ?y_z_sorted ?y_z_set ?y_z_bool ?y_z_dict ?y_z_sum ?y_z_enumerate ?y_z_zip ?y_vS ?y_vP ?y_vM ?y_vW ?y_vC ?y_v8 ?y_v6 ?y_v9 ?y_aB ?y_cB ?y_tB ?y_sB ?y_aF ?y_pgF ?y_hdF ?y_poF ?y_saF ?y_mkF ?y_kcF ?y_nF0 ?y_iiF ?y_jfF ?y_liF ?y_ciF ?y_kiF ?y_aP ?y_pgP ?y_hdP ?y_poP ?y_saP ?y_mkP ?y_kcP ?y_nP0 ?y_nP1 ?y_nP2 ?y_nP3 ?y_iiP ?y_jfP ?y_liP ?y_ciP ?y_kiP ?y_aR ?y_pgR ?y_hdR ?y_poR ?y_saR ?y_mkR ?y_kcR ?y_nR0 ?y_nR1 ?y_nR2 ?y_iiR ?y_jfR ?y_liR ?y_ciR ?y_kiR ?y_hn ?y_ht ?y_haF ?y_hmF ?y_haP ?y_hmP ?y_w_a ?y_w_l ?y_w_c ?y_w_k ?y_w_T (Mk.mf_mk ?mLa ?mLi ?mLl ?mLc ?mLk) (Mk.mf_mk ?mNa ?mNi ?mNl ?mNc ?mNk) (Mk.mf_mk ?mCa ?mCi ?mCl ?mCc ?mCk) (Mk.mf_mk ?mBa ?mBi ?mBl ?mBc ?mBk) (Mk.mf_mk ?mAa ?mAi ?mAl ?mAc ?mAk) (Mk.pf_mk ?p0a ?p0b ?p0t ?p0r ?p0l ?p0c ?p0k) (Mk.pf_mk ?p4a ?p4b ?p4t ?p4r ?p4l ?p4c ?p4k) (Mk.pf_mk ?p5a ?p5b ?p5t ?p5r ?p5l ?p5c ?p5k) (Mk.pf_mk ?p1a ?p1b ?p1t ?p1r ?p1l ?p1c ?p1k) (Mk.pf_mk ?p2a ?p2b ?p2t ?p2r ?p2l ?p2c ?p2k) (Mk.pf_mk ?p3a ?p3b ?p3t ?p3r ?p3l ?p3c ?p3k)
    (case a1 => k_is)
    (case l1 => k_is)
    (case c1 => k_is)
    (case k1 => k_is)
    (case a2 => k_is)
    (case l2 => k_is)
    (case c2 => k_is)
    (case k2 => k_is)
    (case a3 => k_is)
    (case l3 => k_is)
    (case c3 => k_is)
    (case k3 => k_is)
    (case a4 => k_is)
    (case l4 => k_is)
    (case c4 => k_is)
    (case k4 => k_is)
    (case a5 => k_is)
    (case l5 => k_is)
    (case c5 => k_is)
    (case k5 => k_is)
    (case a6 => k_is)
    (case l6 => k_is)
    (case c6 => k_is)
    (case k6 => k_is)
    (case a7 => k_is)
    (case l7 => k_is)
    (case c7 => k_is)
    (case k7 => k_is)
    (case a8 => k_is)
    (case l8 => k_is)
    (case c8 => k_is)
    (case k8 => k_is)
    (case a9 => k_is)
    (case l9 => k_is)
    (case c9 => k_is)
    (case k9 => k_is)
    (case a10 => k_is)
    (case l10 => k_is)
    (case c10 => k_is)
    (case k10 => k_is)
    (case a11 => k_is)
    (case l11 => k_is)
    (case c11 => k_is)
    (case k11 => k_is)
    (case a12 => k_is)
    (case l12 => k_is)
    (case c12 => k_is)
    (case k12 => k_is)
    (case a13 => k_is)
    (case l13 => k_is)
    (case c13 => k_is)
    (case k13 => k_is)
    (case a14 => k_is)
    (case l14 => k_is)
    (case c14 => k_is)
    (case k14 => k_is)
    (case a15 => k_is)
    (case l15 => k_is)
    (case c15 => k_is)
    (case k15 => k_is)
    (case a16 => k_is)
    (case l16 => k_is)
    (case c16 => k_is)
    (case k16 => k_is)
    (case a17 => k_is)
    (case l17 => k_is)
    (case c17 => k_is)
    (case k17 => k_is)
    (case a18 => k_is)
    (case l18 => k_is)
    (case c18 => k_is)
    (case k18 => k_is)
    (case a19 => k_is)
    (case l19 => k_is)
    (case c19 => k_is)
    (case k19 => k_is)
    (case a20 => k_is)
    (case l20 => k_is)
    (case c20 => k_is)
    (case k20 => k_is)
    (case a21 => k_is)
    (case l21 => k_is)
    (case c21 => k_is)
    (case k21 => k_is)
    (case a22 => k_is)
    (case l22 => k_is)
    (case c22 => k_is)
    (case k22 => k_is)
    (case a23 => k_is)
    (case l23 => k_is)
    (case c23 => k_is)
    (case k23 => k_is)
    (case a24 => k_is)
    (case l24 => k_is)
    (case c24 => k_is)
    (case k24 => k_is)
    (case a25 => k_is)
    (case l25 => k_is)
    (case c25 => k_is)
    (case k25 => k_is)
    (case a26 => k_is)
    (case l26 => k_is)
    (case c26 => k_is)
    (case k26 => k_is)
    (case a27 => k_is)
    (case l27 => k_is)
    (case c27 => k_is)
    (case k27 => k_is)
    (case a28 => k_is)
    (case l28 => k_is)
    (case c28 => k_is)
    (case k28 => k_is)
    (case a29 => k_is)
    (case l29 => k_is)
    (case c29 => k_is)
    (case k29 => k_is)
    (case a30 => k_is)
    (case l30 => k_is)
    (case c30 => k_is)
    (case k30 => k_is)
    (case a31 => k_is)
    (case l31 => k_is)
    (case c31 => k_is)
    (case k31 => k_is)
    (case a32 => k_is)
    (case l32 => k_is)
    (case c32 => k_is)
    (case k32 => k_is)
    (case a33 => k_is)
    (case l33 => k_is)
    (case c33 => k_is)
    (case k33 => k_is)
    (case a34 => k_is)
    (case l34 => k_is)
    (case c34 => k_is)
    (case k34 => k_is)
    (case a35 => k_is)
    (case l35 => k_is)
    (case c35 => k_is)
    (case k35 => k_is)
    (case a36 => k_is)
    (case l36 => k_is)
    (case c36 => k_is)
    (case k36 => k_is)
    (case a37 => k_is)
    (case l37 => k_is)
    (case c37 => k_is)
    (case k37 => k_is)
    (case a38 => k_is)
    (case l38 => k_is)
    (case c38 => k_is)
    (case k38 => k_is)
    (case a39 => k_is)
    (case l39 => k_is)
    (case c39 => k_is)
    (case k39 => k_is)
    (case a40 => k_is)
    (case l40 => k_is)
    (case c40 => k_is)
    (case k40 => k_is)
    (case a41 => k_is)
    (case l41 => k_is)
    (case c41 => k_is)
    (case k41 => k_is)
    (case a42 => k_is)
    (case l42 => k_is)
    (case c42 => k_is)
    (case k42 => k_is)
    (case a43 => k_is)
    (case l43 => k_is)
    (case c43 => k_is)
    (case k43 => k_is)
    (case a44 => k_is)
    (case l44 => k_is)
    (case c44 => k_is)
    (case k44 => k_is)
    (case a45 => k_is)
    (case l45 => k_is)
    (case c45 => k_is)
    (case k45 => k_is)
    (case a46 => k_is)
    (case l46 => k_is)
    (case c46 => k_is)
    (case k46 => k_is)
    (case a47 => k_is)
    (case l47 => k_is)
    (case c47 => k_is)
    (case k47 => k_is)
    (case a48 => k_is)
    (case l48 => k_is)
    (case c48 => k_is)
    (case k48 => k_is)
    (case a49 => k_is)
    (case l49 => k_is)
    (case c49 => k_is)
    (case k49 => k_is)
    (case a50 => k_is)
    (case l50 => k_is)
    (case c50 => k_is)
    (case k50 => k_is)
    (case a51 => k_is)
    (case l51 => k_is)
    (case c51 => k_is)
    (case k51 => k_is)
    (case y_z_len => k_is)
    (case y_z_int => k_is)
    (case y_z_abs => k_is)
    (case y_z_max => k_is)
    (case y_z_min => k_is)
    (case y_z_range => k_is)
    (case y_z_list => k_is)
    (case y_z_isinstance => k_is)
    (case y_z_str => k_is)
    (case y_z_tuple => k_is)
    (case y_z_all => k_is)
    (case y_z_sorted => k_is)
    (case y_z_set => k_is)
    (case y_z_bool => k_is)
    (case y_z_dict => k_is)
    (case y_z_sum => k_is)
    (case y_z_enumerate => k_is)
    (case y_z_zip => k_is)
    (case y_vS => k_is)
    (case y_vP => k_is)
    (case y_vM => k_is)
    (case y_vW => k_is)
    (case y_vC => k_is)
    (case y_v8 => k_is)
    (case y_v6 => k_is)
    (case y_v9 => k_is)
    (case y_aB => k_is)
    (case y_cB => k_is)
    (case y_tB => k_is)
    (case y_sB => k_is)
    (case y_aF => k_is)
    (case y_pgF => k_is)
    (case y_hdF => k_is)
    (case y_poF => k_is)
    (case y_saF => k_is)
    (case y_mkF => k_is)
    (case y_kcF => k_is)
    (case y_nF0 => k_is)
    (case y_iiF => k_is)
    (case y_jfF => k_is)
    (case y_liF => k_is)
    (case y_ciF => k_is)
    (case y_kiF => k_is)
    (case y_aP => k_is)
    (case y_pgP => k_is)
    (case y_hdP => k_is)
    (case y_poP => k_is)
    (case y_saP => k_is)
    (case y_mkP => k_is)
    (case y_kcP => k_is)
    (case y_nP0 => k_is)
    (case y_nP1 => k_is)
    (case y_nP2 => k_is)
    (case y_nP3 => k_is)
    (case y_iiP => k_is)
    (case y_jfP => k_is)
    (case y_liP => k_is)
    (case y_ciP => k_is)
    (case y_kiP => k_is)
    (case y_aR => k_is)
    (case y_pgR => k_is)
    (case y_hdR => k_is)
    (case y_poR => k_is)
    (case y_saR => k_is)
    (case y_mkR => k_is)
    (case y_kcR => k_is)
    (case y_nR0 => k_is)
    (case y_nR1 => k_is)
    (case y_nR2 => k_is)
    (case y_iiR => k_is)
    (case y_jfR => k_is)
    (case y_liR => k_is)
    (case y_ciR => k_is)
    (case y_kiR => k_is)
    (case y_hn => k_is)
    (case y_ht => k_is)
    (case y_haF => k_is)
    (case y_hmF => k_is)
    (case y_haP => k_is)
    (case y_hmP => k_is)
    (case y_w_a => k_is)
    (case y_w_l => k_is)
    (case y_w_c => k_is)
    (case y_w_k => k_is)
    (case y_w_T => k_is)
    (case mLa => k_is)
    (case mLi => k_is)
    (case mLl => k_is)
    (case mLc => k_is)
    (case mLk => k_is)
    (case mNa => k_is)
    (case mNi => k_is)
    (case mNl => k_is)
    (case mNc => k_is)
    (case mNk => k_is)
    (case mCa => k_is)
    (case mCi => k_is)
    (case mCl => k_is)
    (case mCc => k_is)
    (case mCk => k_is)
    (case mBa => k_is)
    (case mBi => k_is)
    (case mBl => k_is)
    (case mBc => k_is)
    (case mBk => k_is)
    (case mAa => k_is)
    (case mAi => k_is)
    (case mAl => k_is)
    (case mAc => k_is)
    (case mAk => k_is)
    (case p0a => k_is)
    (case p0b => k_is)
    (case p0t => k_is)
    (case p0r => k_is)
    (case p0l => k_is)
    (case p0c => k_is)
    (case p0k => k_is)
    (case p4a => k_is)
    (case p4b => k_is)
    (case p4t => k_is)
    (case p4r => k_is)
    (case p4l => k_is)
    (case p4c => k_is)
    (case p4k => k_is)
    (case p5a => k_is)
    (case p5b => k_is)
    (case p5t => k_is)
    (case p5r => k_is)
    (case p5l => k_is)
    (case p5c => k_is)
    (case p5k => k_is)
    (case p1a => k_is)
    (case p1b => k_is)
    (case p1t => k_is)
    (case p1r => k_is)
    (case p1l => k_is)
    (case p1c => k_is)
    (case p1k => k_is)
    (case p2a => k_is)
    (case p2b => k_is)
    (case p2t => k_is)
    (case p2r => k_is)
    (case p2l => k_is)
    (case p2c => k_is)
    (case p2k => k_is)
    (case p3a => k_is)
    (case p3b => k_is)
    (case p3t => k_is)
    (case p3r => k_is)
    (case p3l => k_is)
    (case p3c => k_is)
    (case p3k => k_is)
