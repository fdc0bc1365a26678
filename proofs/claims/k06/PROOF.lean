import PyProof.Rows.All
import HandS.ForMost
import HandS.Walk
import HandS.Flt
import PyProof.Draws
import PyProof.EnumMake
import HandS.Set
import HandS.SetFor
import HandS.SetTxt0
import HandS.Strs
import KE.SortData
import KE.SortLaws
import KE.SortKeyHeap
import KE.SortUse
import Wide.All
import OpenK.AllK
import Wide.FinOn
import HandS.Wide
import HandS.Flow
import PySem.Challenge.RW_mendnumber_k06_whole_costs_by_force
import HandS.IsInst
import HandS.StrMore
import HandS.MakeKwOnly
import HandS.ClsMeth
import HandS.DictComp
import HandS.Conv
import HandS.Iter
import HandS.Dict
import KE.KDictWalk
import HandS.More
import PyProof.Rows.SortStr
import KE.KDictSum
import HandS.Defaults
import KE.KDictDisplayH
import PyProof.DictTable
import HandS.Property
import HandS.Small
import HandS.DictTup
import HandS.OwnEq
import KE.KCallOwn
import KE.KFmtOwn
import PyProof.InstNe
import PyProof.FactsAll.enumerate_1
import OpenK.KMeth
import PyProof.P3In
import HandS.Exc
import HandS.ExcOwn
import HandS.WordsExc
import HandS.DictEq
import KE.KDictList
import KE.KDictCopyH
import KE.KItemsList
import KE.DataMinMax
import HandS.Sort
import HandS.FStr
import HandS.TupLen
import KE.KDictPairs
import PyProof.ListStr
import HandS.Text
import HandS.TryOnly
set_option Elab.async false
set_option linter.all false
/-! the cost between two words by rows, as the least price of their alignments (words stand here with their last sign first) -/
namespace Mk
section
variable {α : Type} {e : α} {c d : α → α → Int}
/-- the number in the corner -/
def crn (e : α) (c : α → α → Int) : List α → List α → Int
  | [], [] => 0
  | [], b :: v => crn e c [] v + c e b
  | a :: u, [] => crn e c u [] + c a e
  | a :: u, b :: v => min (min (crn e c u (b :: v) + c a e) (crn e c (a :: u) v + c e b)) (crn e c u v + c a b)
termination_by u v => u.length + v.length
inductive Aln (e : α) (c : α → α → Int) : List α → List α → Int → Prop
  | nil : Aln e c [] [] 0
  | put {u v : List α} {b : α} {n : Int} : Aln e c u v n → Aln e c u (b :: v) (n + c e b)
  | out {u v : List α} {a : α} {n : Int} : Aln e c u v n → Aln e c (a :: u) v (n + c a e)
  | sub {u v : List α} {a b : α} {n : Int} : Aln e c u v n → Aln e c (a :: u) (b :: v) (n + c a b)
theorem crn_aln : ∀ (u v : List α), Aln e c u v (crn e c u v)
  | [], [] => by
    rw [crn]
    exact .nil
  | [], b :: v => by
    rw [crn]
    exact .put (crn_aln [] v)
  | a :: u, [] => by
    rw [crn]
    exact .out (crn_aln u [])
  | a :: u, b :: v => by
    rw [crn]
    have h1 := Aln.out (a := a) (crn_aln u (b :: v))
    have h2 := Aln.put (b := b) (crn_aln (a :: u) v)
    have h3 := Aln.sub (a := a) (b := b) (crn_aln u v)
    by_cases k : crn e c u (b :: v) + c a e ≤ crn e c (a :: u) v + c e b
    · rw [Int.min_eq_left k]
      by_cases m : crn e c u (b :: v) + c a e ≤ crn e c u v + c a b
      · rw [Int.min_eq_left m]
        exact h1
      · rw [Int.min_eq_right (by omega)]
        exact h3
    · rw [Int.min_eq_right (by omega : crn e c (a :: u) v + c e b ≤ crn e c u (b :: v) + c a e)]
      by_cases m : crn e c (a :: u) v + c e b ≤ crn e c u v + c a b
      · rw [Int.min_eq_left m]
        exact h2
      · rw [Int.min_eq_right (by omega)]
        exact h3
termination_by u v => u.length + v.length
theorem Aln.ge {u v : List α} {n : Int} (h : Aln e c u v n) : crn e c u v ≤ n := by
  induction h with
  | nil =>
    rw [crn]
    exact Int.le_refl _
  | @put u v b n _ ih =>
    cases u with
    | nil =>
      rw [crn]
      omega
    | cons a u =>
      rw [crn]
      have := Int.min_le_left (min (crn e c u (b :: v) + c a e) (crn e c (a :: u) v + c e b)) (crn e c u v + c a b)
      have := Int.min_le_right (crn e c u (b :: v) + c a e) (crn e c (a :: u) v + c e b)
      omega
  | @out u v a n _ ih =>
    cases v with
    | nil =>
      rw [crn]
      omega
    | cons b v =>
      rw [crn]
      have := Int.min_le_left (min (crn e c u (b :: v) + c a e) (crn e c (a :: u) v + c e b)) (crn e c u v + c a b)
      have := Int.min_le_left (crn e c u (b :: v) + c a e) (crn e c (a :: u) v + c e b)
      omega
  | @sub u v a b n _ ih =>
    rw [crn]
    have := Int.min_le_right (min (crn e c u (b :: v) + c a e) (crn e c (a :: u) v + c e b)) (crn e c u v + c a b)
    omega
/-- one change, at most at the closed price -/
inductive Stp1 (e : α) (c : α → α → Int) (P : α → Prop) : List α → List α → Int → Prop
  | put {r : List α} {s : α} {p : Int} : P s → c e s ≤ p → Stp1 e c P r (s :: r) p
  | out {r : List α} {s : α} {p : Int} : P s → c s e ≤ p → Stp1 e c P (s :: r) r p
  | swap {r : List α} {s t : α} {p : Int} : P s → P t → c s t ≤ p → Stp1 e c P (s :: r) (t :: r) p
  | cons {x : α} {v w : List α} {p : Int} : Stp1 e c P v w p → Stp1 e c P (x :: v) (x :: w) p
structure Cst (e : α) (c : α → α → Int) (P : α → Prop) : Prop where
  em : P e
  zero : ∀ x, P x → c x x = 0
  tri : ∀ x y z, P x → P y → P z → c x y ≤ c x z + c z y
theorem Aln.next {P : α → Prop} (C : Cst e c P) {u v : List α} {n : Int} (h : Aln e c u v n) : (∀ x ∈ u, P x) → (∀ x ∈ v, P x) → ∀ {w : List α} {p : Int}, Stp1 e c P v w p → ∃ m, m ≤ n + p ∧ Aln e c u w m := by
  induction h with
  | nil =>
    intro _ _ w p s
    cases s with
    | put ps k => exact ⟨_, by omega, Aln.put .nil⟩
  | @put u v b n h ih =>
    intro hu hv w p s
    have hv' : ∀ x ∈ v, P x := fun x hx => hv x (List.mem_cons_of_mem _ hx)
    have pb := hv b List.mem_cons_self
    cases s with
    | put ps k => exact ⟨_, by omega, Aln.put (Aln.put h)⟩
    | out ps k =>
      have := C.tri e e b C.em C.em pb
      have := C.zero e C.em
      exact ⟨_, by omega, h⟩
    | @swap _ _ t _ ps pt k =>
      have := C.tri e t b C.em pt pb
      exact ⟨_, by omega, Aln.put h⟩
    | cons s =>
      obtain ⟨m, h1, h2⟩ := ih hu hv' s
      exact ⟨_, by omega, Aln.put h2⟩
  | @out u v a n h ih =>
    intro hu hv w p s
    obtain ⟨m, h1, h2⟩ := ih (fun x hx => hu x (List.mem_cons_of_mem _ hx)) hv s
    exact ⟨_, by omega, Aln.out h2⟩
  | @sub u v a b n h ih =>
    intro hu hv w p s
    have hu' : ∀ x ∈ u, P x := fun x hx => hu x (List.mem_cons_of_mem _ hx)
    have hv' : ∀ x ∈ v, P x := fun x hx => hv x (List.mem_cons_of_mem _ hx)
    have pb := hv b List.mem_cons_self
    have pa := hu a List.mem_cons_self
    cases s with
    | put ps k => exact ⟨_, by omega, Aln.put (Aln.sub h)⟩
    | out ps k =>
      have := C.tri a e b pa C.em pb
      exact ⟨_, by omega, Aln.out h⟩
    | @swap _ _ t _ ps pt k =>
      have := C.tri a t b pa pt pb
      exact ⟨_, by omega, Aln.sub h⟩
    | cons s =>
      obtain ⟨m, h1, h2⟩ := ih hu' hv' s
      exact ⟨_, by omega, Aln.sub h2⟩
theorem crn_next {P : α → Prop} (C : Cst e c P) {u v w : List α} {p : Int} (hu : ∀ x ∈ u, P x) (hv : ∀ x ∈ v, P x) (s : Stp1 e c P v w p) : crn e c u w ≤ crn e c u v + p := by
  obtain ⟨m, h1, h2⟩ := (crn_aln (e := e) (c := c) u v).next C hu hv s
  have := h2.ge
  omega
theorem aln_self {P : α → Prop} (C : Cst e c P) : ∀ {u : List α}, (∀ x ∈ u, P x) → Aln e c u u 0
  | [], _ => .nil
  | a :: u, h => by
    have := Aln.sub (a := a) (b := a) (aln_self C fun x hx => h x (List.mem_cons_of_mem _ hx))
    rwa [C.zero a (h a List.mem_cons_self)] at this
theorem Aln.pos {P : α → Prop} (nn : ∀ x y, P x → P y → 0 ≤ c x y) (em : P e) {u v : List α} {n : Int} (h : Aln e c u v n) : (∀ x ∈ u, P x) → (∀ x ∈ v, P x) → 0 ≤ n := by
  induction h with
  | nil => exact fun _ _ => Int.le_refl _
  | @put u v b n _ ih =>
    intro hu hv
    have := ih hu fun x hx => hv x (List.mem_cons_of_mem _ hx)
    have := nn e b em (hv b List.mem_cons_self)
    omega
  | @out u v a n _ ih =>
    intro hu hv
    have := ih (fun x hx => hu x (List.mem_cons_of_mem _ hx)) hv
    have := nn a e (hu a List.mem_cons_self) em
    omega
  | @sub u v a b n _ ih =>
    intro hu hv
    have := ih (fun x hx => hu x (List.mem_cons_of_mem _ hx)) fun x hx => hv x (List.mem_cons_of_mem _ hx)
    have := nn a b (hu a List.mem_cons_self) (hv b List.mem_cons_self)
    omega
theorem Aln.zero {P : α → Prop} (nn : ∀ x y, P x → P y → 0 ≤ c x y) (one : ∀ x y, P x → P y → x ≠ y → 1 ≤ c x y) (em : P e) {u v : List α} {n : Int} (h : Aln e c u v n) : (∀ x ∈ u, P x ∧ x ≠ e) → (∀ x ∈ v, P x ∧ x ≠ e) → n = 0 → u = v := by
  induction h with
  | nil => exact fun _ _ _ => rfl
  | @put u v b n h _ =>
    intro hu hv z
    have := h.pos nn em (fun x hx => (hu x hx).1) fun x hx => (hv x (List.mem_cons_of_mem _ hx)).1
    have := one e b em (hv b List.mem_cons_self).1 (hv b List.mem_cons_self).2.symm
    omega
  | @out u v a n h _ =>
    intro hu hv z
    have := h.pos nn em (fun x hx => (hu x (List.mem_cons_of_mem _ hx)).1) fun x hx => (hv x hx).1
    have := one a e (hu a List.mem_cons_self).1 em (hu a List.mem_cons_self).2
    omega
  | @sub u v a b n h ih =>
    intro hu hv z
    have hu' : ∀ x ∈ u, P x ∧ x ≠ e := fun x hx => hu x (List.mem_cons_of_mem _ hx)
    have hv' : ∀ x ∈ v, P x ∧ x ≠ e := fun x hx => hv x (List.mem_cons_of_mem _ hx)
    have p1 := h.pos nn em (fun x hx => (hu' x hx).1) fun x hx => (hv' x hx).1
    have p2 := nn a b (hu a List.mem_cons_self).1 (hv b List.mem_cons_self).1
    have e1 := ih hu' hv' (by omega)
    by_cases q : a = b
    · rw [q, e1]
    · have := one a b (hu a List.mem_cons_self).1 (hv b List.mem_cons_self).1 q
      omega
theorem crn_zero {P : α → Prop} (C : Cst e c P) (nn : ∀ x y, P x → P y → 0 ≤ c x y) (one : ∀ x y, P x → P y → x ≠ y → 1 ≤ c x y) {u v : List α} (hu : ∀ x ∈ u, P x ∧ x ≠ e) (hv : ∀ x ∈ v, P x ∧ x ≠ e) : crn e c u v = 0 ↔ u = v := by
  constructor
  · exact fun h => (crn_aln u v).zero nn one C.em hu hv h
  · rintro rfl
    have a := (aln_self C fun x hx => (hu x hx).1).ge
    have b := (crn_aln (e := e) (c := c) u u).pos nn C.em (fun x hx => (hu x hx).1) fun x hx => (hu x hx).1
    omega
/-! first what makes a word shorter, then what makes it longer -/
inductive Shr6 (e : α) (c : α → α → Int) : List α → List α → Int → Prop
  | nil : Shr6 e c [] [] 0
  | out {u v : List α} {a : α} {n : Int} : Shr6 e c u v n → Shr6 e c (a :: u) v (n + c a e)
  | sub {u v : List α} {a b : α} {n : Int} : Shr6 e c u v n → Shr6 e c (a :: u) (b :: v) (n + c a b)
inductive Grw6 (e : α) (c : α → α → Int) : List α → List α → Int → Prop
  | nil : Grw6 e c [] [] 0
  | put {u v : List α} {b : α} {n : Int} : Grw6 e c u v n → Grw6 e c u (b :: v) (n + c e b)
  | keep {u v : List α} {b : α} {n : Int} : Grw6 e c u v n → Grw6 e c (b :: u) (b :: v) n
theorem Aln.parts {u v : List α} {n : Int} (h : Aln e c u v n) : ∃ m n1 n2, Shr6 e c u m n1 ∧ Grw6 e c m v n2 ∧ n1 + n2 = n := by
  induction h with
  | nil => exact ⟨[], 0, 0, .nil, .nil, rfl⟩
  | put _ ih =>
    obtain ⟨m, n1, n2, a, b, s⟩ := ih
    exact ⟨m, n1, _, a, .put b, by omega⟩
  | out _ ih =>
    obtain ⟨m, n1, n2, a, b, s⟩ := ih
    exact ⟨m, _, n2, .out a, b, by omega⟩
  | @sub u v a0 b0 n _ ih =>
    obtain ⟨m, n1, n2, a, b, s⟩ := ih
    exact ⟨b0 :: m, _, n2, .sub a, .keep b, by omega⟩
/-- a closed change costs at most its price, where the words around it leave room -/
def Lets (e : α) (c : α → α → Int) (P : α → Prop) (most : Nat) (g : List α → Int) : Prop := ∀ (l r : List α), l.length + r.length < most → (∀ x ∈ l, P x) → (∀ x ∈ r, P x) →
  (∀ s, P s → g (l ++ s :: r) ≤ g (l ++ r) + c e s ∧ g (l ++ r) ≤ g (l ++ s :: r) + c s e) ∧ ∀ s t, P s → P t → g (l ++ t :: r) ≤ g (l ++ s :: r) + c s t
theorem Shr6.le {P : α → Prop} {most : Nat} {g : List α → Int} (L : Lets e c P most g) {u v : List α} {n : Int} (h : Shr6 e c u v n) : ∀ (k : List α), k.length + u.length ≤ most → (∀ x ∈ k, P x) → (∀ x ∈ u, P x) → (∀ x ∈ v, P x) → g (k ++ v) ≤ g (k ++ u) + n := by
  induction h with
  | nil => exact fun k _ _ _ _ => by omega
  | @out u v a n h ih =>
    intro k hk pk pu pv
    rw [List.length_cons] at hk
    have pu' : ∀ x ∈ u, P x := fun x hx => pu x (List.mem_cons_of_mem _ hx)
    have h1 := ((L k u (by omega) pk pu').1 a (pu a List.mem_cons_self)).2
    have h2 := ih k (by omega) pk pu' pv
    omega
  | @sub u v a b n h ih =>
    intro k hk pk pu pv
    rw [List.length_cons] at hk
    have pu' : ∀ x ∈ u, P x := fun x hx => pu x (List.mem_cons_of_mem _ hx)
    have pv' : ∀ x ∈ v, P x := fun x hx => pv x (List.mem_cons_of_mem _ hx)
    have h1 := (L k u (by omega) pk pu').2 a b (pu a List.mem_cons_self) (pv b List.mem_cons_self)
    have h2 := ih (k ++ [b]) (by rw [List.length_append]; show k.length + 1 + u.length ≤ most; omega) (fun x hx => (List.mem_append.mp hx).elim (pk x) fun m => by rw [List.mem_singleton.mp m]; exact pv b List.mem_cons_self) pu' pv'
    rw [List.append_assoc, List.append_assoc] at h2
    have h2 : g (k ++ b :: v) ≤ g (k ++ b :: u) + n := h2
    omega
theorem Grw6.le {P : α → Prop} {most : Nat} {g : List α → Int} (L : Lets e c P most g) {u v : List α} {n : Int} (h : Grw6 e c u v n) : ∀ (k : List α), k.length + v.length ≤ most → (∀ x ∈ k, P x) → (∀ x ∈ v, P x) → g (k ++ v) ≤ g (k ++ u) + n := by
  induction h with
  | nil => exact fun k _ _ _ => by omega
  | @put u v b n h ih =>
    intro k hk pk pv
    rw [List.length_cons] at hk
    have pv' : ∀ x ∈ v, P x := fun x hx => pv x (List.mem_cons_of_mem _ hx)
    have h1 := ((L k v (by omega) pk pv').1 b (pv b List.mem_cons_self)).1
    have h2 := ih k (by omega) pk pv'
    omega
  | @keep u v b n h ih =>
    intro k hk pk pv
    rw [List.length_cons] at hk
    have pv' : ∀ x ∈ v, P x := fun x hx => pv x (List.mem_cons_of_mem _ hx)
    have h2 := ih (k ++ [b]) (by rw [List.length_append]; show k.length + 1 + v.length ≤ most; omega) (fun x hx => (List.mem_append.mp hx).elim (pk x) fun m => by rw [List.mem_singleton.mp m]; exact pv b List.mem_cons_self) pv'
    rw [List.append_assoc, List.append_assoc] at h2
    exact h2
theorem Grw6.mem {P : α → Prop} {u v : List α} {n : Int} (h : Grw6 e c u v n) : (∀ x ∈ v, P x) → ∀ x ∈ u, P x := by
  induction h with
  | nil => exact fun h => h
  | put _ ih => exact fun h => ih fun x hx => h x (List.mem_cons_of_mem _ hx)
  | @keep u v b n _ ih =>
    intro h x hx
    rcases List.mem_cons.mp hx with rfl | hx
    · exact h _ List.mem_cons_self
    · exact ih (fun x hx => h x (List.mem_cons_of_mem _ hx)) x hx
theorem crn_ge {P : α → Prop} {most : Nat} {g : List α → Int} (L : Lets e c P most g) {u v : List α} (hu : u.length ≤ most) (hv : v.length ≤ most) (pu : ∀ x ∈ u, P x) (pv : ∀ x ∈ v, P x) : g v ≤ g u + crn e c u v := by
  obtain ⟨m, n1, n2, a, b, s⟩ := (crn_aln (e := e) (c := c) u v).parts
  have h1 := a.le L [] (by rw [List.length_nil]; omega) (fun x hx => nomatch hx) pu (b.mem pv)
  have h2 := b.le L [] (by rw [List.length_nil]; omega) (fun x hx => nomatch hx) pv
  have h1 : g m ≤ g u + n1 := h1
  have h2 : g v ≤ g m + n2 := h2
  omega
end
end Mk

set_option Elab.async false
set_option linter.all false
set_option maxRecDepth 100000
set_option maxHeartbeats 1000000
/-! enumerate of a text; the least of three numbers -/
namespace Mk
open PySem PySem.Spec PyProof.Rows L2

/-- each sign of the text with its place, in a new pair -/
def Ites (x : Str) : It := ⟨fun i _ => i < x.cps.size, fun i H v H' => ∃ T c, v = .ref T ∧ H T = none ∧ H' = upd H T (.tup [.int (i : Nat), .str ⟨#[c]⟩]) ∧ x.cps[i]? = some c, fun i _ => x.cps.size ≤ i⟩
theorem draws_text {prog : Program} {w : World} {A : Around} (hh : A.handled = none) (it : Addr) (x : Str) (t : Tok) {ty : String} (hty : ty = "str_ascii_iterator" ∨ ty = "str_iterator") :
    Draws prog w A it [it] x.cps.size (fun i v => ∃ c u, x.cps[i]? = some c ∧ v = .str ⟨#[c]⟩ u) (fun i h => h.IsStrIter it ty x t i) := by
  rcases hty with rfl | rfl
  · exact Draws.strAscii hh it x t
  · exact Draws.strWide hh it x t
theorem iter_type (x : Str) : strIterType x = "str_ascii_iterator" ∨ strIterType x = "str_iterator" := by
  unfold strIterType
  split
  · exact .inl rfl
  · exact .inr rfl
theorem turn_enumS {P : Program} {w : World} {K : PySem.W.Frag} {elts : List Expr} {kk : Nat} {tpos : Pos} (e it : Addr) (x : Str) (t : Tok) {ty : String} (hty : ty = "str_ascii_iterator" ∨ ty = "str_iterator") :
    Turn P w K (.Tuple elts kk tpos) (Ites x) [e, it] e (fun i h => (∃ old, IsEnum h e it ((i : Nat) : Int) old) ∧ h.IsStrIter it ty x t i ∧ e ≠ it ∧ i ≤ x.cps.size) where
  mem := by simp
  obj := fun i h st b hb => by
    obtain ⟨⟨old, he⟩, ⟨o, ho, hc, hd⟩, _⟩ := st
    have e' : b = e ∨ b = it := by simpa using hb
    rcases e' with z | z
    · rw [z]
      exact ⟨_, he, fun v q => nomatch q⟩
    · rw [z]
      exact ⟨o, ho, fun v q => by rw [hd] at q; cases q⟩
  keep := fun i h h' st k => by
    obtain ⟨⟨old, he⟩, ⟨o, ho, r⟩, hne⟩ := st
    exact ⟨⟨old, k e (by simp) _ he⟩, ⟨o, k it (by simp) o ho, r⟩, hne⟩
  item := by
    intro X hP hw hK hc i pins s σ H E I hf st hg
    subst hP hw hK
    obtain ⟨⟨old, he⟩, hit, hne, hle⟩ := st
    have hel : e < s.heap.objs.size := Heap.lt_size he
    have hil : it < s.heap.objs.size := by obtain ⟨_, q, _⟩ := hit; exact Heap.lt_size q
    refine wpAny_pyNext_enum_itemD (draws_text (A := X.A.in1) (I.ok.hd hc) it x t hty) he hit hg hne (by simpa using hne) fun v h' tk hP ho hit' hT hsz hk => ?_
    obtain ⟨c, u, hcx, rfl⟩ := hP
    refine ⟨_, rfl, wpAny_letOwnedTupleGo_enum (s := { s with heap := h', toks := tk + 1 }) ho fun h'' he' sb => ?_⟩
    have hT2 : h''.get? s.heap.objs.size = some { cls := .type "tuple", data := .seq #[.int i tk, .str ⟨#[c]⟩ u] } := (sb.2 _ (Nat.ne_of_gt hel)).trans hT
    have new : ObjOk X.prog X.w (upd H s.heap.objs.size (.tup [.int (i : Nat), .str ⟨#[c]⟩])) h'' s.heap.objs.size (.tup [.int (i : Nat), .str ⟨#[c]⟩]) :=
      ⟨by show 2 ≤ sizeLine; decide, [.int i tk, .str ⟨#[c]⟩ u], .cons ⟨_, rfl⟩ (.cons ⟨_, rfl⟩ .nil), ⟨_, hT2, rfl, _, rfl⟩⟩
    have I1 : Inv X pins σ (upd H s.heap.objs.size (.tup [.int (i : Nat), .str ⟨#[c]⟩])) { s with heap := h'', toks := tk + 1 } :=
      Inv.turnedNew (ch := [e, it]) I (fun b ob hb q => (sb.2 b (fun z => hb (by simp [z]))).trans (hk b ob (fun z => hb (by simp [z])) (fun z => hb (by simp [z])) q)) hf (Nat.le_refl _) new
    refine ⟨.ref s.heap.objs.size, _, I1, rfl, ⟨_, c, rfl, I.hok.fresh (Nat.le_refl _), rfl, hcx⟩, ⟨⟨.str ⟨#[c]⟩ u, ?_⟩, ?_, hne, Nat.succ_le_of_lt hg⟩, fun b hb => ?_⟩
    · have e1 : ((i + 1 : Nat) : Int) = (i : Int) + 1 := by omega
      rw [e1]
      exact he'
    · obtain ⟨o, ho', r⟩ := hit'
      exact ⟨o, (sb.2 it (Ne.symm hne)).trans ho', r⟩
    · have hb' : b < s.heap.objs.size := by
        have e' : b = e ∨ b = it := by simpa using hb
        rcases e' with z | z
        · rw [z]; exact hel
        · rw [z]; exact hil
      rw [upd_ne (Nat.ne_of_lt hb')]
      exact (hf b hb).1
  done := by
    intro X hP hw hK hc i pins s σ H E I hf st hg
    subst hP hw hK
    obtain ⟨⟨old, he⟩, hit, hne, hle⟩ := st
    obtain ⟨f0, f1, f2, f3, f4, f5⟩ := hf it (by simp)
    have D := draws_text (prog := X.prog) (w := X.w) (A := X.A.in1) (I.ok.hd hc) it x t hty
    have hge : x.cps.size ≤ i := hg
    have ei : i = x.cps.size := Nat.le_antisymm hle hge
    rw [ei] at hit
    exact wpAny_pyNext_enum_endD D he hit fun h' eb => ⟨rfl, I.turned (t' := s.toks) (fun b o hb q => eb b o hb q) f0 f1 f3 f4 f5⟩
  self := fun A i s Q E st h => by
    obtain ⟨⟨_, he⟩, _⟩ := st
    exact wpAny_pyIter_enum he h
def iEnumS (ta : TA) : TI := fun σ H R => ta σ H fun vs H1 => ∃ x : Str, vs = [.str x] ∧ R (Ites x) H1
theorem pi_enumS {X : Cx} {e : Expr} {ta : TA} {p pos tpos : Pos} {elts : List Expr} {kk : Nat} (hg : Gl X "enumerate") (hm : X.mg "enumerate" = none) (ha : PA X [e] ta) (hs : starEach [e] X.env = [(false, eval e X.env)] := by rfl) :
    PI X (.Tuple elts kk tpos) (.Call (.Name "enumerate" p) [e] [] pos) (iEnumS ta) := by
  refine ⟨fun pins s σ H R I h => ?_⟩
  refine Call_ (ld_blt I hg hm boot_enumerate (PyProof.Rows.callWith_type1 (thn (ha.run pos pins s σ H _ I h) fun us s1 ⟨vs, H1, I1, r1, q1⟩ => ?_) hs rfl))
  obtain ⟨x, ex, q⟩ := q1
  subst ex
  cases r1 with
  | cons r rr =>
    cases rr
    obtain ⟨t, rfl⟩ := r
    refine call_enumerate_str fun h' he hit hsz hk => wpAny_pyIter_enum he ?_
    have I2 : Inv X pins σ H1 { s1 with heap := h' } := I1.kept (t' := s1.toks) hk
    refine ⟨s1.heap.objs.size + 1, [s1.heap.objs.size + 1, s1.heap.objs.size], _, _, H1, rfl, I2, turn_enumS (s1.heap.objs.size + 1) s1.heap.objs.size x t (iter_type x), ⟨⟨.none, he⟩, hit, Nat.succ_ne_self _, Nat.zero_le _⟩, fun b hb => ?_, q⟩
    have e' : b = s1.heap.objs.size + 1 ∨ b = s1.heap.objs.size := by simpa using hb
    have hle : s1.heap.objs.size ≤ b := by
      rcases e' with z | z
      · rw [z]; exact Nat.le_add_right _ _
      · rw [z]; exact Nat.le_refl _
    exact I1.fpOk hle (I1.hok.fresh hle)
theorem walk_enumS {z : Str} : Walk (Ites z) z.cps.size (fun _ => True) (fun i H v H' => ∃ T c, v = .ref T ∧ H T = none ∧ H' = upd H T (.tup [.int (i : Nat), .str ⟨#[c]⟩]) ∧ z.cps[i]? = some c) :=
  ⟨fun _ _ hi _ => hi, fun _ _ => Nat.le_refl _, fun _ _ _ _ _ _ y => y⟩
theorem min3_int (i j k : Int) : nuMin3 (.int i) (.int j) (.int k) = some (.int (min (min i j) k)) := by
  show ((some (if decide (j < i) = true then V.int j else V.int i)).bind fun m => nuMin2 m (.int k)) = _
  have two : ∀ a : Int, nuMin2 (.int a) (.int k) = some (.int (min a k)) := fun a => by
    show some (if decide (k < a) = true then V.int k else V.int a) = _
    by_cases h : k < a
    · rw [if_pos (decide_eq_true h), Int.min_eq_right (Int.le_of_lt h)]
    · rw [if_neg (by simpa using h), Int.min_eq_left (Int.not_lt.mp h)]
  by_cases h : j < i
  · rw [if_pos (decide_eq_true h), Int.min_eq_right (Int.le_of_lt h)]
    exact two j
  · rw [if_neg (by simpa using h), Int.min_eq_left (Int.not_lt.mp h)]
    exact two i
end Mk

set_option Elab.async false
set_option linter.all false
set_option maxRecDepth 100000
set_option maxHeartbeats 4000000
namespace Mk
open PySem PySem.Spec PyProof.Rows L2 PySem.Froz

/-- the table of a payload can be walked -/
def Wk (w : World) (D : SD) : Prop := Ris D.2.2.place.toList ∧ (w.params.followText "set-order" = true ∨ D.2.2.led = true)
/-- the payload holds just the unlike texts l, and can be walked -/
structure Tx (P : Program) (w : World) (D : SD) (l : List Str) : Prop where
  ok : TxOk P w D l
  wk : Wk w D
  nd : l.Nodup

section
variable {P : Program} {w : World} {A : Around} {E : Value → Shared → Prop} {s : Shared}
theorem plain_wk {t : SetTable} (h : Ris t.place.toList ∧ (w.params.followText "set-order" = true ∨ t.led = true)) :
    Ris (if t.plain = true then { t with plain := false } else t).place.toList ∧ (w.params.followText "set-order" = true ∨ (if t.plain = true then { t with plain := false } else t).led = true) := by
  by_cases c : t.plain = true
  · rw [if_pos c]; exact h
  · rw [if_neg c]; exact h
theorem tail_wk {ep : Nat} {es : Array (Int × Value)} {t : SetTable} {b : Bool} (h : Ris t.place.toList ∧ (w.params.followText "set-order" = true ∨ t.led = true)) : Wk w (tailTx ep es t b) := by
  unfold tailTx
  by_cases c : (!b && t.tooFull) = true
  · rw [if_pos c]
    refine ⟨relayAll_ris t es _, h.2.imp id fun z => ?_⟩
    show (relayAll t es (SetTable.grown es.size)).2.1.led = true
    rw [relayAll_led t es _]
    exact z
  · rw [if_neg c]; exact h
theorem add_wk {D : SD} (h : Int) (v : Value) (k : Wk w D) : Wk w (addTx h v D) := by
  unfold addTx
  refine tail_wk (plain_wk ⟨layNew_ris D.2.2 D.1 h v k.1, k.2.imp id fun z => ?_⟩)
  rw [layNew_led D.2.2 D.1 h v]
  exact z
theorem Tx.add {D : SD} {l : List Str} {k : Str} (u : Tok) (x : Tx P w D l) (hk : k ∉ l) : Tx P w (addTx (hashStr w k) (.str k u) D) (k :: l) :=
  ⟨add_ok u x.ok, add_wk _ _ x.wk, List.nodup_cons.mpr ⟨hk, x.nd⟩⟩

/-- an add of a text that is there -/
theorem dup_x {a : Addr} {T : String} {D : SD} {l : List Str} {k : Str} {u : Tok} {Q : Bool → Shared → Prop} (ho : s.heap.get? a = some (sObj T D)) (x : TxOk P w D l) (hk : k ∈ l) (hb : l.length < scanBound)
    (h : Q false s) : wpAny (model P w) A (setAddHashed a (.str k u) (hashStr w k)) Q E s := by
  obtain ⟨es, ep, t⟩ := D
  have d0 : (sObj T (es, ep, t)).data = .set es ep t := rfl
  have f0 : t.fits es.size = true := x.fit
  have e0 : ElemsOf (PySem.strKind P w) es.toList := x.el
  have z0 : es.size = l.length := x.sz
  have b0 : es.size < scanBound := by omega
  have k0 : (PySem.strKind P w).is k (.str k u) = true := is_str k u
  obtain ⟨e, he, hq⟩ := (x.mem k).mp hk
  unfold setAddHashed setAddHashedIn
  refine wpAny_holding (wpAny_bind (wpAny_setState_of ho d0 f0 ?_))
  dsimp only
  rw [byScan_of rfl b0 e0]
  simp only [↓reduceIte]
  unfold setAddByScan
  refine wpAny_bind (wpAny_bind (wpAny_rule ?_))
  refine wpAny_bind (wpAny_setScan_of (knd := PySem.strKind P w) (k := k) k0 ho d0 f0 e0 ?_)
  cases r : List.findIdx? (fun e => (PySem.strKind P w).is k e.2) es.toList with
  | none =>
    have := List.findIdx?_eq_none_iff.mp r e he
    rw [hq] at this
    cases this
  | some j => exact wpAny_pure (wpAny_pure h)

/-- at a stands the set of just the unlike texts l -/
def SetS (P : Program) (w : World) (h : Heap) (a : Addr) (l : List Str) : Prop := ∃ D : SD, h.get? a = some (sObj "set" D) ∧ Tx P w D l
theorem SetS.at {h h' : Heap} {a : Addr} {l : List Str} (x : SetS P w h a l) (k : ∀ o, h.get? a = some o → h'.get? a = some o) : SetS P w h' a l :=
  let ⟨D, e, t⟩ := x
  ⟨D, k _ e, t⟩
/-- l holds just the first i of xs -/
def Firsts (xs : List Str) (i : Nat) (l : List Str) : Prop := (∀ y, y ∈ l ↔ y ∈ xs.take i) ∧ l.length ≤ i
theorem put_x {a : Addr} {l : List Str} {k : Str} {u : Tok} {Q : Bool → Shared → Prop} (x : SetS P w s.heap a l) (hb : l.length + 1 < scanBound)
    (h : ∀ (b : Bool) (h' : Heap) (l' : List Str), Heap.SameBut a s.heap h' → SetS P w h' a l' → (∀ y, y ∈ l' ↔ y ∈ l ∨ y = k) → l'.length ≤ l.length + 1 → Q b { s with heap := h' }) :
    wpAny (model P w) A (setAddHashed a (.str k u) (hashStr w k)) Q E s := by
  obtain ⟨D, e, t⟩ := x
  by_cases hk : k ∈ l
  · refine dup_x e t.ok hk (by omega) (h false s.heap l (Heap.SameBut.refl a s.heap) ⟨D, e, t⟩ (fun y => ⟨.inl, fun z => z.elim id fun q => q ▸ hk⟩) (Nat.le_succ _))
  · refine add_x e t.ok hk hb (h true _ (k :: l) ?_ ⟨_, ?_, t.add u hk⟩ (fun y => ?_) (by simp))
    · exact Heap.SameBut.update _ _ _
    · exact get_upd _ e rfl
    · rw [List.mem_cons]
      exact Or.comm

theorem grow_x {I : Addr} {fp wr : List Addr} {G : Array GenState → Array GenState → Prop} {n : Nat} {Pv : Nat → Value → Prop} {St : Nat → Shared → Prop} {R : Result → Shared → Prop}
    (W : WalksS P w A.in1 I fp wr G n Pv St) (a : Addr) (ha : a ∉ fp) (xs : List Str) (hn : n = xs.length) (hb : xs.length + 1 < scanBound) (hv : ∀ i v, Pv i v → ∃ y t, xs[i]? = some y ∧ v = .str y t) :
    ∀ (m i : Nat) (s : Shared), n - i = m → i ≤ n → St i s → (∃ l, Firsts xs i l ∧ SetS P w s.heap a l) →
      (∀ s' l, Moved (a :: wr) G s s' → Firsts xs n l → SetS P w s'.heap a l → R (.ok (.ret .none)) s') →
      codeAny (model P w) A (.builtin "set.update.loop" ⟨[.ref a, .ref I], []⟩) R s := by
  have aw : a ∉ wr := fun z => ha (W.sub _ z)
  have more : ∀ b ∈ wr, b ∈ a :: wr := fun b z => List.mem_cons_of_mem _ z
  intro m
  induction m with
  | zero =>
    intro i s hm hi st ⟨l, hf, x⟩ hR
    obtain rfl : i = n := by omega
    refine codeAny_builtin PyProof.Rows.F.entry_set_update_loop ?_
    rw [Around.under_plainId PyProof.Rows.F.plain_set_update_loop _]
    show wpAny _ A.in1 (pyNext (.ref I) >>= _) _ _ s
    refine wpAny_bind (W.done s _ _ st fun s1 mv => wpAny_pure ?_)
    exact hR s1 l (mv.mono more) hf (x.at fun o e => mv.heap a o aw e)
  | succ m ih =>
    intro i s hm hi st ⟨l, hf, x⟩ hR
    have lt : i < n := by omega
    refine codeAny_builtin PyProof.Rows.F.entry_set_update_loop ?_
    rw [Around.under_plainId PyProof.Rows.F.plain_set_update_loop _]
    show wpAny _ A.in1 (pyNext (.ref I) >>= _) _ _ s
    refine wpAny_bind (W.item i s _ _ lt st fun v s1 pv st1 mv => ?_)
    obtain ⟨y, t, hy, rfl⟩ := hv i v pv
    have x1 : SetS P w s1.heap a l := x.at fun o e => mv.heap a o aw e
    show wpAny _ A.in1 (holding [Value.str y t] (setAdd a (.str y t)) >>= _) _ _ s1
    refine wpAny_bind (wpAny_holding ?_)
    unfold setAdd
    refine wpAny_holding (wpAny_bind ((PySem.strKind P w).pyHash (k := y) (is_str y t) ?_))
    refine put_x (s := { s1 with toks := s1.toks + 1 }) x1 (by have := hf.2; omega) fun b h1 l1 sb x2 hm2 hl2 => ?_
    have hf1 : Firsts xs (i + 1) l1 := ⟨fun z => by
      rw [hm2, hf.1, List.take_add_one, hy, List.mem_append]
      simp, by have := hf.2; omega⟩
    refine wpAny_pure ⟨plainId_quiet PyProof.Rows.F.plain_set_update_loop _, ih (i + 1) _ (by omega) lt (W.frame _ s1 _ _ st1 (Nat.le_succ _) fun b hb o e => ?_) ⟨l1, hf1, x2⟩ fun s2 l2 mv2 hf2 x3 => ?_⟩
    · exact (sb.2 b fun z => ha (z ▸ hb)).trans e
    · refine hR s2 l2 (Moved.trans W.gtrans ((mv.mono more).then_heap (Nat.le_succ _) fun b o hb e => ?_) mv2) hf2 x3
      exact (sb.2 b fun z => hb (z ▸ List.mem_cons_self)).trans e

/-- a set just made -/
abbrev ob0 (w : World) : Obj := { cls := .type "set", dict := none, data := .set #[] 0 (.fresh 0 0 (!w.params.followText "set-order")) }
theorem setS_new {h : Heap} {a : Addr} (e : h.get? a = some (ob0 w)) : SetS P w h a [] :=
  ⟨(#[], 0, .fresh 0 0 (!w.params.followText "set-order")), e, TxOk.nil rfl, ⟨List.Pairwise.nil, by
    show _ ∨ (!w.params.followText "set-order") = true
    cases w.params.followText "set-order"
    · exact .inr rfl
    · exact .inl rfl⟩, List.nodup_nil⟩

set_option maxHeartbeats 3200000 in
/-- set(t), t a tuple of texts -/
theorem call_set_tupleX {t : Addr} {items : Array Value} (xs : List Str) {Q : Value → Shared → Prop} (hh : A.handled = none) (ht : s.heap.IsTuple t items) (hx : StrsAre items.toList xs) (hb : xs.length + 1 < scanBound)
    (h : ∀ (h' : Heap) (tk : Nat) (l : List Str), SetS P w h' s.heap.objs.size l → Firsts xs xs.length l → (∀ b o, s.heap.get? b = some o → h'.get? b = some o) → Q (.ref s.heap.objs.size) { s with heap := h', toks := tk }) :
    wpAny (model P w) A (call (.type "set") [.ref t]) Q E s := by
  have hsz : items.size = xs.length := by
    have q := StrsAre.length hx
    rw [Array.length_toList] at q
    exact q
  obtain ⟨c0, tl0, mro0⟩ := PySem.F.called_set.mro
  have made0 := PySem.F.called_set.made
  have sub0 := PySem.F.called_set.sub
  refine wpAny_call (codeAny_of_tree ?_)
  show wpAny _ _ (callAny (.type "set") _) _ _ _
  refine wpAny_pure ⟨Code.quiet_builtin _ (by decide +kernel), codeAny_builtin PySem.F.entry_type_call ?_⟩
  rw [Around.under_plain (weight_type_call_type "set" [.ref t] []) rfl]
  have nt0 := PySem.F.called_set.notType
  have cc0 := PySem.F.called_set.canCreate
  have tc0 := PySem.F.typeCall_set_1 (.ref t)
  repeat (any_goals (first | assumption | wp_step))
  refine codeAny_mono (code_set_led1 (.ref t) (E := E) (Q₁ := fun v s1 => v = .ref s.heap.objs.size ∧ s1 = { s with heap := s.heap.push (ob0 w) }) ⟨rfl, rfl⟩) fun r s1 hr => ?_
  match r, hr with
  | .error e, hr => exact hr
  | .ok (.ret v), hr =>
    obtain ⟨rfl, rfl⟩ := hr
    have o0 : (s.heap.push (ob0 w)).get? s.heap.objs.size = some (ob0 w) := Heap.get?_push_size _ rfl
    have ty0 : Shared.TypeIs { s with heap := s.heap.push (ob0 w) } (.ref s.heap.objs.size) "set" := ⟨_, o0, rfl⟩
    have il0 := PySem.F.called_set.init.lookup
    have ib0 := PySem.F.called_set.init.bind (.ref s.heap.objs.size)
    repeat (any_goals (first | assumption | wp_step))
    refine codeAny_mono (codeAny_call_builtin (R := wants (fun v s2 => v = .none ∧ ∃ h2 tk l, s2 = { s with heap := h2, toks := tk } ∧ SetS P w h2 s.heap.objs.size l ∧ Firsts xs xs.length l ∧
        (∀ b o, s.heap.get? b = some o → h2.get? b = some o)) E) PySem.F.called_set.init.plain PySem.F.entry_set_init (check_set_init_1 ty0 ?_)) fun r2 s2 hr2 => ?_
    · obtain ⟨⟨oc, od, dt, osl⟩, ot, hc, nl, hd⟩ := ht
      simp only at hc hd
      subst hc
      subst hd
      have ot2 : (s.heap.push (ob0 w)).get? t = some { cls := .type "tuple", dict := od, data := .seq items nl, slots := osl } := Heap.get?_push_of_some _ ot
      have st1 := F.sub_tuple_set
      have st2 := F.sub_tuple_frozenset
      have td0 : (Value.type "tuple" == Value.type "dict") = false := by decide
      have t1 : (s.heap.push (ob0 w)).IsTuple t items := ⟨_, ot2, rfl, nl, rfl⟩
      unfold Builtin.«set.__init__» noKeywords Builtin.Frozenset.updateFrom
      generalize hPI : pyIter = PI
      wp_walk
      subst hPI
      refine wpAny_pyIter_tuple t1 (wpAny_bind (wpAny_runValue ?_))
      have lt0 : t < s.heap.objs.size := Heap.lt_size ot
      have hh3 : A.in1.in1.in1.handled = none := by simp [hh]
      have z1 : (s.heap.push (ob0 w)).objs.size = s.heap.objs.size + 1 := Heap.size_push ..
      have ne1 : t ≠ (s.heap.push (ob0 w)).objs.size := by rw [z1]; exact Nat.ne_of_lt (Nat.lt_succ_of_lt lt0)
      have nf1 : s.heap.objs.size ∉ [(s.heap.push (ob0 w)).objs.size, t] := by
        rw [z1]
        simp only [List.mem_cons, List.not_mem_nil, or_false, not_or]
        exact And.intro (Nat.ne_of_lt (Nat.lt_succ_self _)) (Nat.ne_of_gt lt0)
      have val1 : ∀ (i : Nat) (v : Value), items[i]? = some v → ∃ y u, xs[i]? = some y ∧ v = .str y u := fun i v e => by
        have hi : i < xs.length := by rw [← hsz]; exact (Array.getElem?_eq_some_iff.mp e).1
        obtain ⟨u, q⟩ := SS.strs_at hx i v (by rw [Array.getElem?_toList]; exact e)
        exact ⟨xs[i], u, List.getElem?_eq_getElem hi, by rw [q, List.getD_eq_getElem?_getD, List.getElem?_eq_getElem hi]; rfl⟩
      refine grow_x ((Walks.tuple hh3 _ t ne1 items).toS) s.heap.objs.size nf1 xs hsz hb val1 (items.size - 0) 0 _ (by omega) (Nat.zero_le _)
        ⟨⟨_, Heap.get?_push_size _ rfl, rfl, rfl⟩, (t1.push _)⟩ ⟨[], ⟨fun y => by simp, Nat.le_refl 0⟩, setS_new (Heap.get?_push_of_some _ o0)⟩ ?_
      intro s3 l3 mv hf3 x3
      obtain ⟨h3, g3, d3, tk3, os3⟩ := s3
      obtain rfl : g3 = s.gens := mv.gens
      obtain rfl : d3 = s.drawn := mv.drawn
      obtain rfl : os3 = s.os := mv.os
      show wpAny _ _ _ _ _ _
      refine wpAny_pure ?_
      show wpAny _ _ (ret Value.none) _ _ _
      rw [hsz] at hf3
      refine wpAny_pure ⟨rfl, h3, tk3, l3, rfl, x3, hf3, fun b o e => ?_⟩
      have b0 : b < s.heap.objs.size := Heap.lt_size e
      refine mv.heap b o ?_ (Heap.get?_push_of_some _ (Heap.get?_push_of_some _ e))
      rw [z1]
      simp only [List.mem_cons, List.not_mem_nil, or_false, not_or]
      exact And.intro (Nat.ne_of_lt b0) (Nat.ne_of_lt (Nat.lt_succ_of_lt b0))
    · match r2, hr2 with
      | .error e, hr2 => exact hr2
      | .ok (.ret v2), hr2 =>
        obtain ⟨rfl, h2, tk2, l2, rfl, x2, hf2, k2⟩ := hr2
        repeat (any_goals (first | assumption | wp_step))
        exact h _ _ _ x2 hf2 k2
      | .ok .next, hr2 => exact hr2.elim
      | .ok .brk, hr2 => exact hr2.elim
      | .ok .cont, hr2 => exact hr2.elim
  | .ok .next, hr => exact hr.elim
  | .ok .brk, hr => exact hr.elim
  | .ok .cont, hr => exact hr.elim
end
end Mk

set_option Elab.async false
set_option linter.all false
set_option maxRecDepth 100000
set_option maxHeartbeats 4000000
namespace Mk
open PySem PySem.Spec PyProof.Rows L2 PySem.Froz

theorem perm_sub {α : Type} [BEq α] [LawfulBEq α] : ∀ {l m : List α}, l.Nodup → (∀ x ∈ l, x ∈ m) → m.length = l.length → m.Perm l
  | [], m, _, _, h => by
    have e : m = [] := List.length_eq_zero_iff.mp (by simpa using h)
    rw [e]
  | a :: l, m, nd, h, hl => by
    have ha := h a List.mem_cons_self
    obtain ⟨n1, n2⟩ := List.nodup_cons.mp nd
    have p := List.perm_cons_erase ha
    refine p.trans (List.Perm.cons a (perm_sub n2 (fun x hx => ?_) ?_))
    · have hne : x ≠ a := fun e => n1 (e ▸ hx)
      exact (List.mem_erase_of_ne hne).mpr (h x (List.mem_cons_of_mem _ hx))
    · have := p.length_eq
      rw [List.length_cons] at this hl
      omega
/-- a value that is the text y -/
abbrev IsTx (v : Value) (y : Str) : Prop := ∃ t, v = .str y t
def txOf (v : Value) : Str := match v with
  | .str y _ => y
  | _ => Str.empty
theorem each_tx : ∀ (vs : List Value), (∀ v ∈ vs, ∃ y t, v = .str y t) → PySem.W.EachIs IsTx vs (vs.map txOf)
  | [], _ => .nil
  | v :: vs, h => by
    obtain ⟨y, t, rfl⟩ := h v List.mem_cons_self
    exact .cons ⟨t, rfl⟩ (each_tx vs fun u hu => h u (List.mem_cons_of_mem _ hu))
theorem each_len {α β : Type} {R : α → β → Prop} : ∀ {as : List α} {bs : List β}, PySem.W.EachIs R as bs → as.length = bs.length
  | _, _, .nil => rfl
  | _, _, .cons _ t => by rw [List.length_cons, List.length_cons, each_len t]
theorem each_mono {α β : Type} {R R' : α → β → Prop} (h : ∀ a b, R a b → R' a b) : ∀ {as : List α} {bs : List β}, PySem.W.EachIs R as bs → PySem.W.EachIs R' as bs
  | _, _, .nil => .nil
  | _, _, .cons r t => .cons (h _ _ r) (each_mono h t)
theorem each_vals : ∀ {vs : List Value} {ys : List Str}, PySem.W.EachIs IsTx vs ys → Vals (ys.map V.str) vs
  | _, _, .nil => .nil
  | _, _, .cons r t => .cons r (each_vals t)
theorem vals_each : ∀ {ys : List Str} {vs : List Value}, Vals (ys.map V.str) vs → PySem.W.EachIs IsTx vs ys
  | [], _, .nil => .nil
  | _ :: _, _, .cons r t => .cons r (vals_each t)
section
variable {P : Program} {w : World} {A : Around} {E : Value → Shared → Prop} {s : Shared}
theorem Tx.texts {D : SD} {l : List Str} (x : Tx P w D l) : (∀ v ∈ D.1.toList.map (·.2), ∃ y t, v = .str y t) ∧ ((D.1.toList.map (·.2)).map txOf).Perm l := by
  have h1 : ∀ v ∈ D.1.toList.map (·.2), ∃ y t, v = Value.str y t := fun v hv => by
    obtain ⟨e, he, rfl⟩ := List.mem_map.mp hv
    obtain ⟨⟨k, hk, _⟩, _⟩ := x.ok.el e he
    obtain ⟨t, q⟩ := Value.isStrOf_shape (show Value.isStrOf k e.2 = true from hk)
    exact ⟨k, t, q⟩
  refine ⟨h1, perm_sub x.nd (fun k hk => ?_) (by rw [List.length_map, List.length_map, Array.length_toList]; exact x.ok.sz)⟩
  obtain ⟨e, he, hq⟩ := (x.ok.mem k).mp hk
  obtain ⟨t, q⟩ := Value.isStrOf_shape (show Value.isStrOf k e.2 = true from hq)
  exact List.mem_map.mpr ⟨e.2, List.mem_map.mpr ⟨e, he, rfl⟩, by rw [q]; rfl⟩

/-- texts by their codes -/
abbrev byCs (x y : Str) : Bool := decide (x.cps.toList ≤ y.cps.toList)
theorem enc_le : PySem.W.dataLe false (fun x : Str => PyData.str x) = byCs := PySem.W.dataLe_str (fun x => x)
/-- sorted(set) of texts -/
theorem sorted_setX {a : Addr} {l : List Str} {Q : Value → Shared → Prop} (x : SetS P w s.heap a l) (hh : A.handled = none) (hb : l.length < scanBound) (hu : A.units + 60 < cLine)
    (hQ : ∀ s' p (out : List Value) (c : Nat) (ys : List Str), (∀ b o, s.heap.get? b = some o → s'.heap.get? b = some o) → s'.gens = s.gens → s'.os = s.os → s.heap.objs.size ≤ p →
      s'.heap.get? p = some (seqObj "list" out.toArray c) → PySem.W.EachIs IsTx out (ys.mergeSort byCs) → ys.Perm l → Q (.ref p) s') :
    wpAny (model P w) A (call (.builtin "sorted") [.ref a]) Q E s := by
  obtain ⟨D, e0, t0⟩ := x
  obtain ⟨tx, pm0⟩ := t0.texts
  refine Calls.call_function_entry kind_sorted plain_sorted entry_sorted (args_sorted1 _) ?_
  unfold Builtin.«sorted»
  refine wpAny_bind (m := checkCount "sorted" 1 1 _) (wpAny_pure ?_)
  have z0 : D.1.size < scanBound := by rw [t0.ok.sz]; exact hb
  refine wpAny_bind (collect_set (A := A.in1) (es := D.1) (ep := D.2.1) (t := D.2.2) hh ⟨_, e0, rfl, rfl⟩ t0.ok.fit z0 t0.wk.1 t0.wk.2 fun s1 vs kp hz g1 o1 pm => ?_)
  have lv : vs.length = l.length := by rw [pm.length_eq, List.length_map, Array.length_toList]; exact t0.ok.sz
  have txv : ∀ v ∈ vs, ∃ y t, v = Value.str y t := fun v hv => tx v (pm.mem_iff.mp hv)
  have ev := each_tx vs txv
  have fit : l.length ≤ sizeLine := Nat.le_trans (Nat.le_of_lt hb) (by decide)
  refine wpAny_bind (wpAny_newList ?_ (by rw [lv]; exact fit))
  have at0 : (s1.heap.push (seqObj "list" vs.toArray 0)).get? s1.heap.objs.size = some (seqObj "list" vs.toArray 0) := Heap.get?_push_size _ rfl
  refine wpAny_bind (wpAny_holding (PySem.W.list_sort_data (s := { s1 with heap := s1.heap.push (seqObj "list" vs.toArray 0) }) (enc := fun x : Str => PyData.str x) at0 ev (each_mono (fun v y ⟨t, q⟩ => ⟨[], by rw [q]; exact .str y t, (fun z => nomatch z)⟩) ev)
    (PySem.W.AllAlike.of fun _ _ => rfl) (PySem.W.Sortable.others fun _ => ⟨(fun z => nomatch z), (fun _ z => nomatch z)⟩) (by rw [List.length_map, lv]; exact fit) (fun y _ => ?_) fun out lo eo => ?_))
  · show A.units + 1 + 1 + 0 < cLine
    omega
  obtain ⟨c, hc⟩ := sortedHeap_at (vs := vs) (out := out.toArray) at0
  rw [enc_le] at eo
  refine wpAny_pure ⟨_, rfl, hQ _ s1.heap.objs.size out c _ (fun b u e => ?_) g1 o1 hz hc eo ((pm.map txOf).trans pm0)⟩
  have q := kp b u e
  have lt := Heap.lt_size q
  show (sortedHeap (s1.heap.push (seqObj "list" vs.toArray 0)) s1.heap.objs.size vs out.toArray).get? b = some u
  rw [sortedHeap_old (Nat.ne_of_lt lt) (by rw [size_push']; exact Nat.lt_succ_of_lt lt)]
  exact Heap.get?_push_of_some _ q
end
end Mk

set_option Elab.async false
set_option linter.all false
set_option maxRecDepth 100000
set_option maxHeartbeats 4000000
namespace Mk
open PySem PySem.Spec PyProof.Rows L2 PySem.Froz

/-- the set of the unlike texts l at a -/
def SetSO (P : Program) (w : World) (a : Addr) (l : List Str) : HO := .ext fun h => SetS P w h a l
section
variable {X : Cx}
theorem setSO_new {P : Program} {w : World} {H : Hp} {h : Heap} {a : Addr} {l : List Str} (x : SetS P w h a l) : ObjOk P w H h a (SetSO P w a l) := by
  obtain ⟨D, e, t⟩ := id x
  exact ⟨x, ⟨_, e⟩, fun h1 h2 y k => y.at k⟩
theorem setSO_get {pins : List (Addr × Obj)} {σ : L2.St} {H : Hp} {s : Shared} {a : Addr} {l : List Str} (I : Inv X pins σ H s) (ha : H a = some (SetSO X.prog X.w a l)) : SetS X.prog X.w s.heap a l := (I.hok a _ ha).1
theorem strs_of : ∀ {ys : List Str} {us : List Value}, Vals (ys.map V.str) us → StrsAre us ys
  | [], _, .nil => .nil
  | y :: ys, _, .cons r t => by
    obtain ⟨k, rfl⟩ := r
    exact .cons y k (strs_of t)
/-- set(t), t a tuple of texts -/
def rSetX (K : PySem.W.Frag) (P : Program) (w : World) : List V → Hp → VK → Prop := fun xs H Q => ∃ (t : Addr) (zs : List Str), xs = [.ref t] ∧ SqT K H t (zs.map V.str) ∧ zs.length + 1 < scanBound ∧
  ∀ (p : Addr) (l : List Str), H p = none → l.Nodup → (∀ y, y ∈ l ↔ y ∈ zs) → l.length ≤ zs.length → Q (.ref p) (upd H p (SetSO P w p l))
theorem cr_setX (hc : X.calm = true) : CallR X (.type "set") (rSetX X.K X.prog X.w) := by
  intro pins s σ H xs us Q I r h
  obtain ⟨t, zs, rfl, ht, hb, q⟩ := h
  rw [Vals.ref1 r]
  obtain ⟨its, rv, hl, hz⟩ := I.tuple ht
  refine call_set_tupleX (items := its.toArray) zs (I.ok.hd hc) hl (by simpa using strs_of rv) hb fun h' tk l x hf k => ?_
  obtain ⟨D, e, tx⟩ := id x
  refine ⟨.ref _, upd H s.heap.objs.size (SetSO X.prog X.w s.heap.objs.size l), I.laid k (Nat.le_refl _) (setSO_new x), rfl, q _ _ (I.hok.fresh (Nat.le_refl _)) tx.nd (fun y => ?_) hf.2⟩
  rw [hf.1, List.take_length]
/-- sorted(set of texts) -/
def rSortedSX (P : Program) (w : World) : List V → Hp → VK → Prop := fun vs H Q => ∃ (a : Addr) (l : List Str), vs = [.ref a] ∧ H a = some (SetSO P w a l) ∧ l.length < scanBound ∧
  ∀ (ys : List Str) (p : Addr), ys.Perm l → H p = none → Q (.ref p) (upd H p (.lst ((ys.mergeSort byCs).map V.str)))
theorem cr_sortedSX (hc : X.calm = true) (hu : X.A.units + 60 < cLine) : CallR X (.builtin "sorted") (rSortedSX X.prog X.w) := by
  intro pins s σ H vs us Q I r h
  obtain ⟨a, l, rfl, ha, hb, q⟩ := h
  rw [Vals.ref1 r]
  refine sorted_setX (setSO_get I ha) (I.ok.hd hc) hb hu fun s' p out c ys k g o hp hg he hm => ?_
  have lo : ((ys.mergeSort byCs).map V.str).length ≤ sizeLine := by
    rw [List.length_map, (List.mergeSort_perm ys byCs).length_eq, hm.length_eq]
    exact Nat.le_trans (Nat.le_of_lt hb) (by decide)
  have hn : H p = none := I.hok.fresh hp
  have J : Inv X pins σ (upd H p (.lst ((ys.mergeSort byCs).map V.str))) { s with heap := s'.heap, gens := s'.gens, drawn := s'.drawn, toks := s'.toks } :=
    I.call (ch := []) (Un.laid k hp hn) (I.hok.laid k hp ⟨lo, out, c, each_vals he, hg⟩) (by rw [g]; exact I.bare) (fun _ z => nomatch z)
  have e : s' = { s with heap := s'.heap, gens := s'.gens, drawn := s'.drawn, toks := s'.toks } := by
    obtain ⟨s1, s2, s3, s4, s5⟩ := s'
    obtain ⟨t1, t2, t3, t4, t5⟩ := s
    obtain rfl : s5 = t5 := o
    rfl
  rw [e]
  exact ⟨.ref p, _, J, rfl, q ys p hm hn⟩
/-- texts by their lengths -/
abbrev byLen (x y : Str) : Bool := decide ((x.length : Int) ≤ (y.length : Int))
/-- sorted(xs, key=len), xs a list of texts -/
def tSortLen (K : PySem.W.Frag) (t : TA) : TE := fun σ H Q => t σ H fun vs H1 => ∃ (a : Addr) (zs : List Str), vs = [.ref a] ∧ SqL K H1 a (zs.map V.str) ∧ (∀ z ∈ zs, z.length ≤ sizeLine) ∧
  ∀ p, H1 p = none → Q (.ref p) (upd H1 p (.lst ((zs.mergeSort byLen).map V.str)))
theorem pe_sortLen {e : Expr} {t : TA} {p p2 kp pos : Pos} (hg : Gl X "sorted") (hm : X.mg "sorted" = none) (hgL : Gl X "len") (hmL : X.mg "len" = none) (hu : X.A.units + 60 < cLine) (ha : PA X [e] t)
    (he : backTo pos (starEach [e] X.env) = (false, eval e X.env) :: backTo pos (starEach [] X.env) := by rfl) (hpl : (backTo pos (starEach [e] X.env)).any (·.1) = false := by rfl) :
    PE X (.Call (.Name "sorted" p) [e] [⟨some "key", .Name "len" p2, kp⟩] pos) (tSortLen X.K t) := by
  refine ⟨fun pins s σ H Q I h => ?_⟩
  refine wpAny_Call_Name_kw (ld_blt I hg hm (u := .builtin "sorted") (by decide +kernel) ?_)
  refine PyProof.Rows.callWith_kw (thn (ha.run pos pins s σ H _ I h) fun us s1 ⟨vs, H1, I1, r1, q1⟩ => ?_) he hpl
  show wpAny _ _ (evalAll [do let v ← eval (.Name "len" p2) X.env; standAt pos; pure v]) _ _ s1
  refine wpAny_evalAll_cons (wpAny_bind (ld_blt I1 hgL hmL (u := .builtin "len") (by decide +kernel) (wpAny_bind (wpAny_standAt (wpAny_pure (wpAny_evalAll_nil ?_))))))
  show wpAny _ _ (call (.builtin "sorted") us [(Str.ofString "key", .builtin "len")]) _ _ s1
  obtain ⟨a, zs, rfl, hs, hz, q⟩ := q1
  rw [Vals.ref1 r1]
  obtain ⟨its, rv, hl, hsz⟩ := I1.list hs
  refine PySem.W.sorted_key_data (b := false) (R := IsTx) (bs := zs) (fun x : Str => PyData.int x.length) hl.isList (vals_each rv) (PySem.W.AllAlike.of fun _ _ => rfl) (PySem.W.Sortable.others fun _ => ⟨(fun z => nomatch z), (fun _ z => nomatch z)⟩)
    (by rw [List.length_map] at hsz; exact hsz) (fun x _ => ?_) (ksk_s1 _ _) (fun _ => ksk_l1 _ _) (fun _ => ksk_t4 _ _) (fun v x hR hx h0 tk0 k0 => ?_) fun out c h' tk k hn hd hlo he => ?_
  · show X.A.units + 2 + 0 < cLine
    omega
  · obtain ⟨t0, rfl⟩ := hR
    refine PySem.P.len_str ?_ ⟨h0, _, rfl, fun _ _ z => z, .int _ _⟩
    have := hz x hx
    rw [sizeLine_eq] at this
    omega
  · have ee : PySem.W.dataLe false (fun x : Str => PyData.int (x.length : Nat)) = byLen := PySem.W.dataLe_int fun x : Str => ((x.length : Nat) : Int)
    rw [ee] at he
    refine ⟨.ref _, upd H1 (s1.heap.objs.size + 1) (.lst ((zs.mergeSort byLen).map V.str)), I1.laid (t' := tk) k (Nat.le_succ _) ⟨?_, out, c, each_vals he, hd⟩, rfl, q _ (I1.hok.fresh (Nat.le_succ _))⟩
    rw [List.length_map, (List.mergeSort_perm zs byLen).length_eq]
    rw [List.length_map] at hsz
    exact hsz
end
end Mk

set_option Elab.async false
set_option maxRecDepth 100000
set_option maxHeartbeats 4000000
namespace Mk
open PySem L2

/-! ### rules of our own -/
section
variable {X : Cx}
def CPowW (i j : Int) : Prop := 0 ≤ j ∧ (Builtin.Int.intBits i : Int) * j ≤ 2 ^ 27
theorem op_powW : OpR X (binaryOp .Pow) (rI CPowW fun i j => .int (i ^ j.toNat)) := opI fun _ _ _ _ _ _ _ hc q => PyProof.Rows.pow_int hc.1 hc.2 q
end

/-! ### the pot -/
abbrev PB : Nat := 4294967296
/-- the pot at p: its count is at most n -/
def Pot (H : Hp) (p : Addr) (n : Nat) : Prop := ∃ u m c : Int, H p = some (.lst [.int u, .int m, .int c]) ∧ 0 ≤ u ∧ u < 2 ^ 2000 ∧ 0 ≤ m ∧ m < 2 ^ 62 ∧ 0 ≤ c ∧ c ≤ (n : Int)
theorem Pot.mono {H : Hp} {p : Addr} {n k : Nat} (h : Pot H p n) (hk : n ≤ k) : Pot H p k := by
  obtain ⟨u, m, c, e, h1, h2, h3, h4, h5, h6⟩ := h
  exact ⟨u, m, c, e, h1, h2, h3, h4, h5, by omega⟩
/-- all but p is as it was -/
def But (p : Addr) (H H' : Hp) : Prop := ∀ b o, b ≠ p → H b = some o → H' b = some o

/-! rules for a comprehension's block, the written part told -/
section
variable {X : Cx} {K : PySem.W.Frag}
theorem atK {e : Expr} {T : String} {r : V → List V → Hp → VK → Prop} {to : TE} {t : TA} (K : PySem.W.Frag) (h : PE X e (tBM X.K T r to t)) (hK : X.K = K := by rfl) : PE X e (tBM K T r to t) := hK ▸ h
theorem ix_listK (K : PySem.W.Frag) (hK : X.K = K := by rfl) : IxR X (rIxL K) := by
  subst hK
  exact ix_list
theorem call_lenK (K : PySem.W.Frag) (hK : X.K = K := by rfl) : CallR X (.builtin "len") (fun xs H Q => ∃ p ys, xs = [.ref p] ∧ (SqL K H p ys ∨ SqT K H p ys) ∧ Q (.int ys.length) H) := by
  subst hK
  exact call_len_seq
end
/-! ### words -/
/-- the codes of a text -/
abbrev cs (z : Str) : List Nat := z.cps.toList
/-- a text of signs a .. e -/
def IsW (z : Str) : Prop := ∀ c ∈ cs z, 97 ≤ c ∧ c ≤ 101
theorem cs_append (x y : Str) : cs (x ++ y) = cs x ++ cs y := by
  show (x.cps ++ y.cps).toList = _
  rw [Array.toList_append]
theorem len_cs (z : Str) : z.length = (cs z).length := rfl
theorem cs_join : ∀ ys : List Str, cs (Txt.join "" ys) = (ys.map cs).flatten := by
  intro ys
  show cs (Builtin.Str.glued "" ys) = _
  rw [StrLaws.glued_eq_join]
  induction ys with
  | nil => rfl
  | cons x r ih =>
    cases r with
    | nil => simp [Str.join]
    | cons y t =>
      show cs (x ++ "" ++ Str.join "" (y :: t)) = _
      rw [cs_append, cs_append, ih]
      simp
      rfl
theorem isW_join {ys : List Str} (h : ∀ y ∈ ys, IsW y) : IsW (Txt.join "" ys) := by
  intro c hc
  rw [cs_join] at hc
  obtain ⟨l, hl, hc⟩ := List.mem_flatten.mp hc
  obtain ⟨y, hy, rfl⟩ := List.mem_map.mp hl
  exact h y hy c hc
theorem len_join (ys : List Str) : (Txt.join "" ys).length = (ys.map (·.length)).sum := by
  rw [len_cs, cs_join, List.length_flatten, List.map_map]
  rfl
theorem sum_one {ys : List Str} (h : ∀ y ∈ ys, y.length = 1) : (ys.map (·.length)).sum = ys.length := by
  induction ys with
  | nil => rfl
  | cons y r ih =>
    rw [List.map_cons, List.sum_cons, h y List.mem_cons_self, ih fun z hz => h z (List.mem_cons_of_mem _ hz), List.length_cons]
    omega
theorem isW_one {c : Nat} (h : c ∈ cs "abcde") : IsW ⟨#[c]⟩ := by
  have e : cs "abcde" = [97, 98, 99, 100, 101] := by decide +kernel
  rw [e] at h
  intro d hd
  have : d = c := by simpa [cs] using hd
  subst this
  simp at h
  omega
theorem perm_erase {α : Type} : ∀ {l : List α} {k : Nat} (h : k < l.length), (l[k] :: l.eraseIdx k).Perm l
  | [], _, h => absurd h (Nat.not_lt_zero _)
  | a :: l, 0, _ => .refl _
  | a :: l, k + 1, h => by
    have ih := perm_erase (l := l) (k := k) (by simpa using h)
    simp only [List.getElem_cons_succ, List.eraseIdx_cons_succ]
    exact (List.Perm.swap _ _ _).trans (ih.cons a)
theorem seq_at {k : Int} {n : Nat} (h0 : 0 ≤ k) (h1 : k < n) : seqIndex? k n = some k.toNat := by
  unfold seqIndex?
  rw [if_neg (by omega : ¬ k < 0)]
  simp [h0, h1]
theorem at_ofA {α : Type} {xs : List α} {z : Int} {j : Nat} {v : α} (e : z = (j : Int)) (h : xs[j]? = some v) : atI xs z = some v := by
  rw [e]
  exact atI_nat h
theorem But.refl {p : Addr} {H : Hp} : But p H H := fun _ _ _ e => e
theorem But.trans {p : Addr} {H H1 H2 : Hp} (a : But p H H1) (b : But p H1 H2) : But p H H2 := fun c o h e => b c o h (a c o h e)
theorem But.of_same {p : Addr} {H H' : Hp} (h : Same H H') : But p H H' := fun b o _ e => h b o e
theorem Same.new {H : Hp} {l : Addr} {o : HO} (hl : H l = none) : Same H (upd H l o) := fun b u e => by
  rw [upd_ne (ne_of_none e hl)]
  exact e
/-- a store at an address that was new -/
theorem But.up {p l : Addr} {o : HO} {H H1 : Hp} (a : But p H H1) (hl : H l = none) : But p H (upd H1 l o) := fun b u h e => by
  rw [upd_ne (ne_of_none e hl)]
  exact a b u h e
theorem Pot.up {H : Hp} {p l : Addr} {n : Nat} {o : HO} (h : Pot H p n) (hn : p ≠ l) : Pot (upd H l o) p n := by
  obtain ⟨u, m, c, e, r⟩ := h
  exact ⟨u, m, c, by rw [upd_ne hn]; exact e, r⟩
theorem Pot.ne {H : Hp} {p l : Addr} {n : Nat} (h : Pot H p n) (hn : H l = none) : p ≠ l := by
  obtain ⟨u, m, c, e, r⟩ := h
  exact ne_of_none e hn
theorem join_e {b : Bool} {te1 te2 : TE} {σ : L2.St} {H : Hp} {C : VK} (R : V → Prop) (hC : ∀ z, R z → C z H) (h1 : b = true → (∀ z, R z → C z H) → te1 σ H C) (h2 : b = false → (∀ z, R z → C z H) → te2 σ H C) :
    (fun (c : Bool) (H1 : Hp) => if c = true then te1 σ H1 C else te2 σ H1 C) b H := by
  cases b with
  | true => exact iteT (h1 rfl hC)
  | false => exact iteF (h2 rfl hC)
def wide_nz (j : Int) : Prop := j ≠ 0
theorem nz600 : (fun (_ j : Int) => j ≠ 0) 0 ((10 ^ Int.toNat 60) ^ Int.toNat 8) := by decide +kernel
theorem nz18 : (fun (_ j : Int) => j ≠ 0) 0 (10 ^ Int.toNat 18 + 9) := by decide +kernel
/-! ### the text by places -/
def top (i : Nat) : Stmt := PySem.Challenge.pw_mendnumber_k06_whole_costs_by_force.main.body.getD i (.Pass ⟨0, 0, 0, 0⟩)
abbrev sCup : Stmt := top 40
abbrev sToss : Stmt := top 41

/-- the names of the builtins that the text leaves alone -/
structure Bn (mg : Str → Option Value) : Prop where
  len : mg "len" = none
  int : mg "int" = none
  abs : mg "abs" = none
  max : mg "max" = none
  min : mg "min" = none
  range : mg "range" = none
  list : mg "list" = none

def spFilled (K : PySem.W.Frag) : Sp := fun vs H Q _ => ∃ (a : Addr) (ns : List Int) (k : Nat), vs = [.ref a, .int k] ∧ SqL K H a (ns.map V.int) ∧ ns.length ≤ 63 ∧ k ≤ 63 ∧
  ∀ H' p, Same H H' → H p = none → Pot H' p 0 → Q (.ref p) H'
def spDip : Sp := fun vs H Q _ => ∃ (p : Addr) (n : Nat) (t : Int), vs = [.ref p, .int t] ∧ Pot H p n ∧ n < PB ∧ 0 < t ∧ t < 1073741824 ∧
  ∀ H' (k : Int), But p H H' → (∀ b, H b = none → H' b = none) → Pot H' p (n + 1) → 0 ≤ k → k < t → Q (.int k) H'

section
variable {P : Program} {w : World} {K : PySem.W.Frag} {mg : Str → Option Value} {base : Heap}
theorem scCup : FnScope ["_law_script", "_law_at", "_law_cell", "_law_great", "_law_seed"] ["_law_script", "_law_at"] (defScope sCup) := ⟨rfl, rfl, rfl, by decide +kernel, rfl, by decide +kernel, by decide +kernel⟩
theorem ok_cup {f : Addr} {fd : FuncData} (F : Fun K "_law_cup" "_law_cup" sCup f fd) (B : Bn mg) : FnOk P w K mg base CX0 1 f fd ["_law_script", "_law_at"] (spFilled K) := by
  refine F.ok scCup (fun vs H Q E h => ?_) (fun cdv A outer s H vs Q E hr h => ?_)
  · obtain ⟨a, ns, k, rfl, _⟩ := h
    rfl
  · obtain ⟨a, ns, k, rfl, hS, hl, hk, q⟩ := h
    refine ⟨_, pss_cons (ps_set (i := 2) scCup.nd rfl (.inl rfl) (pe_ifExp (pt_cmpR op_lt (pv 1) (pe_callB call_len_seq (by rfl) B.len PySem.boot_len (pa_cons (pv 0) pa_nil)) (nomark _)) (pe_ix ix_list (pv 0) (pv 1) (fun _ _ => rfl)) (pe_op op_add (pe_op op_mul pe_int (pv 1)) pe_int)))
      (pss_cons (ps_set (i := 3) scCup.nd rfl (.inl rfl) (pe_op op_modN (pe_callTy call_int1 (by rfl) B.int (by decide +kernel) (pa_cons (pe_callB call_abs (by rfl) B.abs (by decide +kernel) (pa_cons (pv 2) pa_nil)) pa_nil)) (pe_op op_powW (pe_op op_powW pe_int pe_int) pe_int)))
      (pss_cons (ps_set (i := 4) scCup.nd rfl (.inl rfl) (pe_op op_modN (pe_callTy call_int1 (by rfl) B.int (by decide +kernel) (pa_cons (pe_op op_add (pe_op op_add (pe_op op_add (pv 3) (pe_op op_mul pe_int (pv 1))) (pe_op op_mul pe_int (pe_callTy call_int1 (by rfl) B.int (by decide +kernel) (pa_cons (pe_cmpR op_lt (pv 2) pe_int (nomark _)) pa_nil)))) pe_int) pa_nil)) (pe_op op_add (pe_op op_powW pe_int pe_int) pe_int)))
      (pss_one (ps_ret (pe_lst (pa_cons (pe_ifExp (pt_cmpR op_gt (pv 3) (pe_op op_powW pe_int pe_int) (nomark _)) (pe_op op_sub (pv 3) (pe_op op_powW pe_int pe_int)) pe_int) (pa_cons (pv 4) (pa_cons pe_int pa_nil)))))))), ?_⟩
    have hpw : CPowW 10 60 := ⟨by decide, by decide +kernel⟩
    have hpw2 : CPowW (10 ^ (60 : Int).toNat) 8 := ⟨by decide, by decide +kernel⟩
    have hpw3 : CPowW 10 18 := ⟨by decide, by decide +kernel⟩
    refine ⟨_, rfl, _, rfl, a, _, rfl, .inl hS, _, _, rfl, rfl, _, rfl, ?_⟩
    refine join_e (fun z => ∃ i, z = V.int i) ?_ ?_ ?_
    · rintro _ ⟨z, rfl⟩
      refine ⟨_, rfl, _, rfl, .inl ⟨_, rfl, _, _, rfl, rfl, hpw, _, _, rfl, rfl, hpw2, _, _, rfl, rfl, nz600, ?_⟩⟩
      refine ⟨_, rfl, _, rfl, _, _, rfl, rfl, .inl ⟨by decide, by decide⟩, _, _, rfl, rfl, ?_⟩
      refine ⟨_, rfl, _, _, rfl, rfl, .inr ⟨_, rfl, _, _, rfl, rfl, .inl ⟨by decide, by decide⟩, _, _, rfl, rfl, _, _, rfl, rfl, .inl ⟨_, rfl, _, _, rfl, rfl, hpw3, _, _, rfl, rfl, _, _, rfl, rfl, nz18, ?_⟩⟩⟩
      have hb : (0 : Int) < (10 ^ Int.toNat 60) ^ Int.toNat 8 := by decide +kernel
      have hb2 : ((10 ^ Int.toNat 60) ^ Int.toNat 8 : Int) < 2 ^ 2000 := by decide +kernel
      have hb3 : (0 : Int) < 10 ^ Int.toNat 18 + 9 := by decide +kernel
      have hb4 : (10 ^ Int.toNat 18 + 9 : Int) < 2 ^ 62 := by decide +kernel
      have hb5 : (0 : Int) < 10 ^ Int.toNat 18 := by decide +kernel
      have h1 := Int.fmod_nonneg_of_pos (if z < 0 then -z else z) hb
      have h2 := Int.fmod_lt_of_pos (if z < 0 then -z else z) hb
      have h3 := Int.fmod_nonneg_of_pos ((if z < 0 then -z else z).fmod ((10 ^ Int.toNat 60) ^ Int.toNat 8) + 7368787 * (k : Int) + (32452867 * if decide (z < 0) = true then 1 else 0) + 5) hb3
      have h4 := Int.fmod_lt_of_pos ((if z < 0 then -z else z).fmod ((10 ^ Int.toNat 60) ^ Int.toNat 8) + 7368787 * (k : Int) + (32452867 * if decide (z < 0) = true then 1 else 0) + 5) hb3
      refine ⟨_, rfl, _, _, rfl, rfl, hpw3, _, _, rfl, rfl, _, rfl, ?_⟩
      refine join_e (fun v => ∃ i, v = V.int i ∧ 0 ≤ i ∧ i < 2 ^ 2000) ?_ ?_ ?_
      · rintro _ ⟨i, rfl, i0, i1⟩
        refine ⟨_, rfl, (by show 3 ≤ sizeLine; decide), fun p hp => ?_⟩
        refine q _ p (fun b o e => ?_) hp ⟨_, _, _, upd_same, i0, i1, h3, Int.lt_trans h4 hb4, Int.le_refl _, Int.le_refl _⟩
        rw [upd_ne (ne_of_none e hp)]
        exact e
      · intro hb hC
        have hb : (if z < 0 then -z else z).fmod ((10 ^ Int.toNat 60) ^ Int.toNat 8) > 10 ^ Int.toNat 18 := of_decide_eq_true hb
        refine ⟨_, rfl, _, _, rfl, rfl, hpw3, _, _, rfl, rfl, hC _ ⟨_, rfl, Int.sub_nonneg_of_le (Int.le_of_lt hb), Int.lt_trans (Int.lt_of_le_of_lt (Int.sub_le_self _ (Int.le_of_lt hb5)) h2) hb2⟩⟩
      · intro hb hC
        exact hC _ ⟨_, rfl, Int.le_refl _, by decide⟩
    · intro hb hC
      have hk2 : (k : Int) < ((ns.map V.int).length : Nat) := of_decide_eq_true hb
      rw [List.length_map] at hk2
      have hk3 : k < ns.length := by omega
      refine ⟨_, rfl, _, rfl, a, _, _, V.int (ns[k]'hk3), rfl, rfl, hS, atI_nat (by rw [List.getElem?_map, List.getElem?_eq_getElem hk3]; rfl), hC _ ⟨_, rfl⟩⟩
    · intro hb hC
      exact ⟨_, rfl, _, _, rfl, rfl, .inl ⟨by decide, by decide⟩, _, _, rfl, rfl, hC _ ⟨_, rfl⟩⟩
theorem scToss : FnScope ["_law_cup_here", "_law_total", "_law_found", "_law_one", "_law_two", "_law_three"] ["_law_cup_here", "_law_total"] (defScope sToss) := ⟨rfl, rfl, rfl, by decide +kernel, rfl, by decide +kernel, by decide +kernel⟩
theorem ok_toss {f : Addr} {fd : FuncData} (F : Fun K "_law_toss" "_law_toss" sToss f fd) (B : Bn mg) : FnOk P w K mg base CX0 1 f fd ["_law_cup_here", "_law_total"] spDip := by
  refine F.ok scToss (fun vs H Q E h => ?_) (fun cdv A outer s H vs Q E hr h => ?_)
  · obtain ⟨p, n, t, rfl, _⟩ := h
    rfl
  · obtain ⟨p, n, t, rfl, ⟨u, m, c, hp, hu0, hu1, hm0, hm1, hc0, hc1⟩, hn, ht0, ht1, q⟩ := h
    refine ⟨_, pss_cons (ps_if (pt_cmpR op_gt (pe_ix ix_list (pv 0) pe_int (fun _ _ => rfl)) pe_int (nomark _))
        (pss_cons (ps_set (i := 2) scToss.nd rfl (.inl rfl) (pe_op op_modN (pe_callTy call_int1 (by rfl) B.int (by decide +kernel) (pa_cons (pe_ix ix_list (pv 0) pe_int (fun _ _ => rfl)) pa_nil)) (pv 1)))
        (pss_cons (ps_asg (pe_op op_fdivW (pe_ix ix_list (pv 0) pe_int (fun _ _ => rfl)) (pv 1)) (pg_sub (pv 0) pe_int set_list))
        (pss_one (ps_ret (pv 2))))) pss_nil)
      (pss_cons (ps_asg (pe_op op_add (pe_ix ix_list (pv 0) pe_int (fun _ _ => rfl)) pe_int) (pg_sub (pv 0) pe_int set_list))
      (pss_cons (ps_set (i := 3) scToss.nd rfl (.inl rfl) (pe_op op_modN (pe_callTy call_int1 (by rfl) B.int (by decide +kernel) (pa_cons (pe_op op_add (pe_ix ix_list (pv 0) pe_int (fun _ _ => rfl)) (pe_op op_mulW pe_int (pe_ix ix_list (pv 0) pe_int (fun _ _ => rfl)))) pa_nil)) pe_int))
      (pss_cons (ps_set (i := 4) scToss.nd rfl (.inl rfl) (pe_op op_modN (pe_callTy call_int1 (by rfl) B.int (by decide +kernel) (pa_cons (pe_op op_add (pe_op op_add (pe_op op_mulW (pv 3) (pv 3)) (pe_op op_fdivW (pe_ix ix_list (pv 0) pe_int (fun _ _ => rfl)) pe_int)) (pe_op op_mulW pe_int (pe_ix ix_list (pv 0) pe_int (fun _ _ => rfl)))) pa_nil)) pe_int))
      (pss_cons (ps_set (i := 5) scToss.nd rfl (.inl rfl) (pe_op op_modN (pe_callTy call_int1 (by rfl) B.int (by decide +kernel) (pa_cons (pe_op op_add (pe_op op_mulW (pv 4) (pv 4)) (pv 3)) pa_nil)) pe_int))
      (pss_one (ps_ret (pe_op op_modN (pe_callTy call_int1 (by rfl) B.int (by decide +kernel) (pa_cons (pe_op op_fdivW (pv 5) pe_int) pa_nil)) (pv 1)))))))), ?_⟩
    have tnz : t ≠ 0 := by omega
    have tb : t.natAbs < 2 ^ 30 := by omega
    refine ⟨_, rfl, p, _, _, _, rfl, rfl, SqL.of hp, atI_nat (j := 0) rfl, _, _, rfl, rfl, _, rfl, ?_⟩
    refine ite2 (fun _ => ?_) (fun _ => ?_)
    · refine ⟨_, rfl, p, _, _, _, rfl, rfl, SqL.of hp, atI_nat (j := 0) rfl, .inl ⟨_, rfl, _, rfl, _, _, rfl, rfl, tnz, ?_⟩⟩
      refine ⟨_, rfl, p, _, _, _, rfl, rfl, SqL.of hp, atI_nat (j := 0) rfl, _, rfl, _, _, rfl, rfl, wide_div ht0 tb (by decide) (by decide), ?_⟩
      refine ⟨_, rfl, p, _, _, 0, rfl, rfl, hp, rfl, _, rfl, ?_⟩
      refine q _ _ (fun b o hb e => ?_) (fun b hb => ?_) ⟨_, _, _, upd_same, ?_, ?_, hm0, hm1, hc0, by omega⟩ (Int.fmod_nonneg_of_pos _ ht0) (Int.fmod_lt_of_pos _ ht0)
      · rw [upd_ne hb]; exact e
      · have : b ≠ p := fun e => by rw [e, hp] at hb; cases hb
        rw [upd_ne this]; exact hb
      · exact Int.ediv_nonneg hu0 (by omega)
      · exact Int.lt_of_le_of_lt (Int.ediv_le_self _ hu0) hu1
    · refine ⟨_, rfl, p, _, _, _, rfl, rfl, SqL.of hp, atI_nat (j := 2) rfl, _, _, rfl, rfl, _, rfl, p, _, _, 2, rfl, rfl, hp, rfl, ?_⟩
      have hn' : n < 4294967296 := hn
      have hc2 : (c + 1).natAbs < 2 ^ 62 := by omega
      have hm2 : m.natAbs < 2 ^ 62 := by omega
      have hp2 : upd H p (.lst [V.int u, V.int m, V.int (c + 1)]) p = some (.lst [V.int u, V.int m, V.int (c + 1)]) := upd_same
      refine ⟨_, rfl, p, _, _, _, rfl, rfl, SqL.of hp2, atI_nat (j := 1) rfl, ?_⟩
      refine ⟨_, rfl, p, _, _, _, rfl, rfl, SqL.of hp2, atI_nat (j := 2) rfl, _, _, rfl, rfl, wide_mul (a := 62) (b := 62) (by decide) hc2 (by decide) (by decide) (by decide), ?_⟩
      refine ⟨_, _, rfl, rfl, .inl ⟨_, rfl, _, _, rfl, rfl, (by show wide_nz 1000000007; unfold wide_nz; decide), ?_⟩⟩
      have h1 := Int.fmod_nonneg_of_pos (m + 2147516352 * (c + 1)) (show (0 : Int) < 1000000007 by decide)
      have h2 := Int.fmod_lt_of_pos (m + 2147516352 * (c + 1)) (show (0 : Int) < 1000000007 by decide)
      have ho : ((m + 2147516352 * (c + 1)).fmod 1000000007).natAbs < 2 ^ 62 := by omega
      refine ⟨_, rfl, _, rfl, _, _, rfl, rfl, wide_mul (a := 62) (b := 62) ho ho (by decide) (by decide) (by decide), ?_⟩
      refine ⟨_, rfl, p, _, _, _, rfl, rfl, SqL.of hp2, atI_nat (j := 1) rfl, _, _, rfl, rfl, wide_div (b := 30) (by decide) (by decide) (by decide) (by decide), _, _, rfl, rfl, ?_⟩
      refine ⟨_, rfl, p, _, _, _, rfl, rfl, SqL.of hp2, atI_nat (j := 2) rfl, _, _, rfl, rfl, wide_mul (a := 62) (b := 62) (by decide) hc2 (by decide) (by decide) (by decide), ?_⟩
      refine ⟨_, _, rfl, rfl, .inl ⟨_, rfl, _, _, rfl, rfl, (by show wide_nz 998244353; unfold wide_nz; decide), ?_⟩⟩
      have h3 := Int.fmod_nonneg_of_pos (((m + 2147516352 * (c + 1)).fmod 1000000007) * ((m + 2147516352 * (c + 1)).fmod 1000000007) + m / 99991 + 7349 * (c + 1)) (show (0 : Int) < 998244353 by decide)
      have h4 := Int.fmod_lt_of_pos (((m + 2147516352 * (c + 1)).fmod 1000000007) * ((m + 2147516352 * (c + 1)).fmod 1000000007) + m / 99991 + 7349 * (c + 1)) (show (0 : Int) < 998244353 by decide)
      have hw : ((((m + 2147516352 * (c + 1)).fmod 1000000007) * ((m + 2147516352 * (c + 1)).fmod 1000000007) + m / 99991 + 7349 * (c + 1)).fmod 998244353).natAbs < 2 ^ 62 := by omega
      refine ⟨_, rfl, _, rfl, _, _, rfl, rfl, wide_mul (a := 62) (b := 62) hw hw (by decide) (by decide) (by decide), ?_⟩
      refine ⟨_, rfl, _, _, rfl, rfl, .inl ⟨_, rfl, _, _, rfl, rfl, (by show wide_nz 2147483629; unfold wide_nz; decide), ?_⟩⟩
      refine ⟨_, rfl, _, _, rfl, rfl, wide_div (b := 30) (by decide) (by decide) (by decide) (by decide), .inl ⟨_, rfl, ?_⟩⟩
      refine ⟨_, rfl, _, _, rfl, rfl, tnz, ?_⟩
      refine q _ _ (fun b o hb e => ?_) (fun b hb => ?_) ⟨_, _, _, upd_same, hu0, hu1, hm0, hm1, by omega, by omega⟩ (Int.fmod_nonneg_of_pos _ ht0) (Int.fmod_lt_of_pos _ ht0)
      · rw [upd_ne hb]; exact e
      · have : b ≠ p := fun e => by rw [e, hp] at hb; cases hb
        rw [upd_ne this]; exact hb
end
end Mk

set_option Elab.async false
set_option maxRecDepth 100000
set_option maxHeartbeats 4000000
namespace Mk
open PySem L2

abbrev sChoice : Stmt := top 44
abbrev sChoices : Stmt := top 42

/-- the pot at p has been drawn from -/
structure Nx (p : Addr) (n : Nat) (H H' : Hp) : Prop where
  but : But p H H'
  fresh : ∀ b, H b = none → H' b = none
  pot : Pot H' p n

def spChoose : Sp := fun vs H Q _ => ∃ (p : Addr) (n : Nat), Pot H p n ∧ n < PB ∧
  ((∃ (a : Addr) (xs : List V), vs = [.ref p, .ref a] ∧ a ≠ p ∧ H a = some (.lst xs) ∧ 0 < xs.length ∧ xs.length < 1000000 ∧ ∀ H' v, Nx p (n + 1) H H' → v ∈ xs → Q v H') ∨
   (∃ z : Str, vs = [.ref p, .str z] ∧ 0 < z.length ∧ z.length < 1000000 ∧ ∀ H' c, Nx p (n + 1) H H' → c ∈ z.cps.toList → Q (.str ⟨#[c]⟩) H'))

section
variable {P : Program} {w : World} {K : PySem.W.Frag} {mg : Str → Option Value} {base : Heap}
/-- a def of the text that is called by its name -/
structure Cd (P : Program) (w : World) (K : PySem.W.Frag) (mg : Str → Option Value) (base : Heap) (k : Nat) (x : Str) (ps : List Str) (sp : Sp) : Prop where
  ex : ∃ (f : Addr) (fd : FuncData), FnOk P w K mg base CX0 k f fd ps sp ∧ mg x = some (.ref f) ∧ PySem.W.keepIn K (.ref f) = true ∧ Binds K fd ps []
theorem scChoice : FnScope ["_law_cup_here", "_law_items"] ["_law_cup_here", "_law_items"] (defScope sChoice) := ⟨rfl, rfl, rfl, by decide +kernel, rfl, by decide +kernel, by decide +kernel⟩
theorem ok_choice {f : Addr} {fd : FuncData} (F : Fun K "_law_choice" "_law_choice" sChoice f fd) (B : Bn mg) (D : Cd P w K mg base 1 "_law_toss" ["_law_cup_here", "_law_total"] spDip) : FnOk P w K mg base CX0 2 f fd ["_law_cup_here", "_law_items"] spChoose := by
  obtain ⟨d, dd, G, gm, gk, gb⟩ := D.ex
  refine F.ok scChoice (fun vs H Q E h => ?_) (fun cdv A outer s H vs Q E hr h => ?_)
  · obtain ⟨p, n, _, _, ⟨a, xs, rfl, _⟩ | ⟨z, rfl, _⟩⟩ := h
    · rfl
    · rfl
  · obtain ⟨p, n, hp, hn, ⟨a, xs, rfl, hap, ha, h0, h1, q⟩ | ⟨z, rfl, h0, h1, q⟩⟩ := h
    · refine ⟨_, pss_one (ps_ret (pe_ix ix_list (pv 1) (pe_call G hr (by rfl) gm gk gb .nil pass0 (pa_cons (pv 0) (pa_cons (pe_callB call_len_seq (by rfl) B.len PySem.boot_len (pa_cons (pv 1) pa_nil)) pa_nil))) (fun _ _ => rfl))), ?_⟩
      refine ⟨_, rfl, _, rfl, _, rfl, a, _, rfl, .inl (SqL.of ha), p, n, _, rfl, hp, hn, by omega, by omega, fun H' k hb hf hP hk0 hk1 => ?_⟩
      have hk : k.toNat < xs.length := by omega
      refine ⟨a, xs, k, xs[k.toNat], rfl, rfl, SqL.of (hb _ _ hap ha), ?_, q _ _ ⟨hb, hf, hP⟩ (List.getElem_mem hk)⟩
      exact at_ofA (j := k.toNat) (by omega) (List.getElem?_eq_getElem hk)
    · refine ⟨_, pss_one (ps_ret (pe_ix ix_str (pv 1) (pe_call G hr (by rfl) gm gk gb .nil pass0 (pa_cons (pv 0) (pa_cons (pe_callB call_len_str (by rfl) B.len PySem.boot_len (pa_cons (pv 1) pa_nil)) pa_nil))) (fun _ _ => rfl))), ?_⟩
      refine ⟨_, rfl, _, rfl, _, rfl, z, rfl, Nat.le_trans (Nat.le_of_lt h1) (by decide), p, n, (z.length : Int), rfl, hp, hn, by omega, by omega, fun H' k hb hf hP hk0 hk1 => ?_⟩
      have hk : k.toNat < z.cps.toList.length := by
        have e : z.cps.toList.length = z.length := by rfl
        rw [e]
        omega
      refine ⟨z, k, z.cps.toList[k.toNat], rfl, rfl, Nat.le_trans (Nat.le_of_lt h1) (by decide), ?_, q _ _ ⟨hb, hf, hP⟩ (List.getElem_mem hk)⟩
      exact at_ofA (j := k.toNat) (by omega) (List.getElem?_eq_getElem hk)

end
end Mk

set_option Elab.async false
set_option maxRecDepth 100000
set_option maxHeartbeats 4000000
namespace Mk
open PySem L2

/-! ### strip -/
def gB (c : Nat) : Bool := decide (97 ≤ c) && decide (c ≤ 101)
def wB (z : Str) : Bool := (cs z).all gB
theorem isW_of {z : Str} (h : wB z = true) : IsW z := fun c hc => by
  have := List.all_eq_true.mp h c hc
  simpa [gB] using this
theorem wB_of {z : Str} (h : IsW z) : wB z = true := List.all_eq_true.mpr fun c hc => by
  have := h c hc
  simpa [gB] using this
theorem tw_full {p : Nat → Bool} : ∀ {l : List Nat}, (l.takeWhile p).length = l.length → l.all p = true
  | [], _ => rfl
  | a :: l, h => by
    rw [List.takeWhile_cons] at h
    cases e : p a with
    | false => rw [e] at h; simp at h
    | true =>
      rw [e] at h
      rw [List.all_cons, e, tw_full (l := l) (by simpa using h)]
      rfl
theorem tw_drop {p : Nat → Bool} : ∀ {l : List Nat}, (l.drop (l.takeWhile p).length).all p = true → l.all p = true
  | [], _ => rfl
  | a :: l, h => by
    rw [List.takeWhile_cons] at h
    cases e : p a with
    | false =>
      rw [e] at h
      simp [e] at h
    | true =>
      rw [e] at h
      rw [List.all_cons, e, tw_drop (l := l) (by simpa using h)]
      rfl
theorem tw_all {p : Nat → Bool} : ∀ {l : List Nat}, l.all p = true → l.takeWhile p = l
  | [], _ => rfl
  | a :: l, h => by
    rw [List.all_cons, Bool.and_eq_true] at h
    rw [List.takeWhile_cons, h.1, if_pos rfl, tw_all h.2]
theorem goes_eq (c : Nat) : ("abcde" : Str).cps.contains c = gB c := by
  have e : ("abcde" : Str).cps = #[97, 98, 99, 100, 101] := by decide +kernel
  rw [e, Bool.eq_iff_iff]
  simp [gB]
  omega
theorem strip_len (z : Str) : (Txt.stripChars z "abcde").length = 0 ↔ wB z = true := by
  have hg : ("abcde" : Str).cps.contains = gB := funext goes_eq
  unfold Txt.stripChars
  rw [hg]
  unfold Txt.stripBy
  have hlo : stripLo gB true z = ((cs z).takeWhile gB).length := rfl
  have hhi : stripHi gB true z (stripLo gB true z) = (cs z).length - (((cs z).drop (stripLo gB true z)).reverse.takeWhile gB).length := rfl
  have hle : ((cs z).takeWhile gB).length ≤ (cs z).length := (List.takeWhile_sublist _).length_le
  have key : wB z = true ∨ stripLo gB true z < stripHi gB true z (stripLo gB true z) := by
    cases e : wB z with
    | true => exact .inl rfl
    | false =>
      refine .inr ?_
      rw [hhi, hlo]
      have h1 : (((cs z).drop ((cs z).takeWhile gB).length).reverse.takeWhile gB).length ≠ (((cs z).drop ((cs z).takeWhile gB).length).reverse).length := fun h => by
        have := tw_full h
        rw [List.all_reverse] at this
        have q : wB z = true := tw_drop this
        rw [e] at q
        cases q
      have h2 : (((cs z).drop ((cs z).takeWhile gB).length).reverse.takeWhile gB).length ≤ (((cs z).drop ((cs z).takeWhile gB).length).reverse).length := (List.takeWhile_sublist _).length_le
      rw [List.length_reverse, List.length_drop] at h1 h2
      omega
  by_cases hs : stripSame gB true true z = true
  · rw [if_pos hs]
    constructor
    · intro h
      show (cs z).all gB = true
      rw [List.length_eq_zero_iff.mp (show (cs z).length = 0 from h)]
      rfl
    · intro h
      have e1 : stripLo gB true z = z.length := by
        rw [hlo, tw_all h]
        rfl
      unfold stripSame at hs
      rw [Bool.and_eq_true, beq_iff_eq] at hs
      omega
  · rw [if_neg hs]
    have hl : (stripped gB true true z).length = stripHi gB true z (stripLo gB true z) - stripLo gB true z := by
      show ((z.cps.extract (stripLo gB true z) (stripHi gB true z (stripLo gB true z)))).size = _
      rw [Array.size_extract]
      have : stripHi gB true z (stripLo gB true z) ≤ z.cps.size := by
        rw [hhi]
        exact Nat.sub_le _ _
      omega
    rw [hl]
    constructor
    · intro h
      rcases key with k | k
      · exact k
      · omega
    · intro h
      have e1 : stripLo gB true z = (cs z).length := by rw [hlo, tw_all h]
      have e2 : stripHi gB true z (stripLo gB true z) ≤ (cs z).length := by
        rw [hhi]
        exact Nat.sub_le _ _
      omega
theorem strip_dec (z : Str) : decide (V.str (Txt.stripChars z "abcde") = V.str "") = wB z := by
  rw [Bool.eq_iff_iff, decide_eq_true_iff, ← strip_len z]
  constructor
  · intro h
    injection h with h
    rw [h]
    decide +kernel
  · intro h
    have : Txt.stripChars z "abcde" = "" := by
      generalize Txt.stripChars z "abcde" = y at h
      obtain ⟨a⟩ := y
      have : a = #[] := Array.eq_empty_of_size_eq_zero h
      subst this
      decide +kernel
    rw [this]
end Mk

set_option Elab.async false
set_option maxRecDepth 100000
set_option maxHeartbeats 4000000
namespace Mk
open PySem L2

abbrev sIsSign : Stmt := top 16
abbrev sIsWord : Stmt := top 17
abbrev sLIsWord : Stmt := top 0

/-- a value that is no text, of a kind that isinstance tells -/
def NoStr (K : PySem.W.Frag) (H : Hp) (v : V) : Prop := ∃ t : Value, TyX K H v t ∧ PySem.W.kitOne K t (.type "str") = some false
def sgB (z : Str) : Bool := decide (z.length = 1) && wB z
/-- a def that judges a value, reading alone -/
def spJudge (g : Str → Bool) (K : PySem.W.Frag) : Sp := fun vs H Q _ => ∃ v : V, vs = [v] ∧ ((∃ z : Str, v = .str z ∧ z.length ≤ 100000 ∧ Q (.bl (g z)) H) ∨ (NoStr K H v ∧ Q (.bl false) H))
structure Wn (mg : Str → Option Value) : Prop where
  isi : mg "isinstance" = none
  str : mg "str" = none
  sg : ∃ t, mg "SIGNS" = some (.str "abcde" t)
section
variable {P : Program} {w : World} {K : PySem.W.Frag} {mg : Str → Option Value} {base : Heap}
theorem scIsSign : FnScope ["value"] ["value"] (defScope sIsSign) := ⟨rfl, rfl, rfl, by decide +kernel, rfl, by decide +kernel, by decide +kernel⟩
theorem len_one {z : Str} (h : z.length = 1) : ∃ c, z = ⟨#[c]⟩ := by
  obtain ⟨a⟩ := z
  obtain ⟨l⟩ := a
  match l, h with
  | [c], _ => exact ⟨c, rfl⟩
theorem ok_isSign {f : Addr} {fd : FuncData} (F : Fun K "is_sign" "is_sign" sIsSign f fd) (B : Bn mg) (W : Wn mg) : FnOk P w K mg base CX0 1 f fd ["value"] (spJudge sgB K) := by
  obtain ⟨t, hsg⟩ := W.sg
  refine F.ok scIsSign (fun vs H Q E h => ?_) (fun cdv A outer s H vs Q E hr h => ?_)
  · obtain ⟨v, rfl, _⟩ := h
    rfl
  · obtain ⟨v, rfl, h⟩ := h
    refine ⟨_, pss_one (ps_ret (pe_and (pe_callB call_isi (by rfl) W.isi (by decide +kernel) (pa_cons (pv 0) (pa_cons (pe_bltn (v := .ty "str") (u := .type "str") (by rfl) W.str (by decide +kernel) rfl) pa_nil)))
      (pe_and (pe_cmpR op_eq (pe_callB call_len (by rfl) B.len PySem.boot_len (pa_cons (pv 0) pa_nil)) pe_int (nomark _)) (pe_one (pe_cmpR op_in_sign (pv 0) (pe_glob (v := .str "abcde") (by rfl) hsg ⟨_, rfl⟩) (by rfl)))))), ?_⟩
    rcases h with ⟨z, rfl, hz, q⟩ | ⟨⟨tv, hty, hk⟩, q⟩
    · have hz2 : z.length ≤ sizeLine := Nat.le_trans hz (by decide)
      refine ⟨_, rfl, _, _, _, _, true, rfl, .ty "str", .base (.str z), kit_ty (by decide +kernel), _, rfl, iteT ?_⟩
      refine ⟨_, rfl, _, z.length, rfl, ⟨hz2, rfl⟩, rfl, _, rfl, ?_⟩
      have e1 : decide (V.int (z.length : Nat) = V.int 1) = decide (z.length = 1) := by
        rw [dec_int, Bool.eq_iff_iff]
        simp
        omega
      rw [e1]
      by_cases h1 : z.length = 1
      · rw [decide_eq_true h1]
        refine iteT ?_
        obtain ⟨c, rfl⟩ := len_one h1
        refine ⟨_, rfl, c, "abcde", rfl, rfl, ?_⟩
        have e2 : decide (c ∈ ("abcde" : Str).cps.toList) = sgB ⟨#[c]⟩ := by
          have e3 : ("abcde" : Str).cps.toList = [97, 98, 99, 100, 101] := by decide +kernel
          rw [e3, Bool.eq_iff_iff]
          simp [sgB, wB, gB, cs, Str.length]
          omega
        rw [e2]
        exact q
      · rw [decide_eq_false h1]
        refine iteF ?_
        have e2 : sgB z = false := by simp [sgB, h1]
        rw [e2] at q
        exact q
    · refine ⟨_, rfl, _, _, _, _, false, rfl, .ty "str", hty, hk, _, rfl, iteF q⟩
theorem scIsWord : FnScope ["value"] ["value"] (defScope sIsWord) := ⟨rfl, rfl, rfl, by decide +kernel, rfl, by decide +kernel, by decide +kernel⟩
theorem ok_isWord {f : Addr} {fd : FuncData} (F : Fun K "is_word" "is_word" sIsWord f fd) (W : Wn mg) : FnOk P w K mg base CX0 1 f fd ["value"] (spJudge wB K) := by
  obtain ⟨t, hsg⟩ := W.sg
  refine F.ok scIsWord (fun vs H Q E h => ?_) (fun cdv A outer s H vs Q E hr h => ?_)
  · obtain ⟨v, rfl, _⟩ := h
    rfl
  · obtain ⟨v, rfl, h⟩ := h
    refine ⟨_, pss_one (ps_ret (pe_and (pe_callB call_isi (by rfl) W.isi (by decide +kernel) (pa_cons (pv 0) (pa_cons (pe_bltn (v := .ty "str") (u := .type "str") (by rfl) W.str (by decide +kernel) rfl) pa_nil)))
      (pe_one (pe_cmpR op_eq (pe_bm PySem.F.plainAttrs_str PySem.F.slot_str_strip PySem.F.type_str_strip mt_stripChars (pv 0) (pa_cons (pe_glob (v := .str "abcde") (by rfl) hsg ⟨_, rfl⟩) pa_nil)) pe_str (nomark _))))), ?_⟩
    rcases h with ⟨z, rfl, hz, q⟩ | ⟨⟨tv, hty, hk⟩, q⟩
    · have hz2 : z.length ≤ sizeLine := Nat.le_trans hz (by decide)
      refine ⟨_, rfl, _, _, _, _, true, rfl, .ty "str", .base (.str z), kit_ty (by decide +kernel), _, rfl, iteT ?_⟩
      refine ⟨_, rfl, rfl, _, _, rfl, rfl, hz2, rfl, ?_⟩
      rw [strip_dec]
      exact q
    · refine ⟨_, rfl, _, _, _, _, false, rfl, .ty "str", hty, hk, _, rfl, iteF q⟩
end
end Mk

set_option Elab.async false
set_option linter.all false
set_option maxRecDepth 100000
set_option maxHeartbeats 4000000
namespace Mk
open PySem L2

theorem cs_inj {x y : Str} (h : cs x = cs y) : x = y := by
  obtain ⟨⟨a⟩⟩ := x
  obtain ⟨⟨b⟩⟩ := y
  have : a = b := h
  rw [this]
theorem byCs_trans (a b c : Str) (h1 : byCs a b = true) (h2 : byCs b c = true) : byCs a c = true := by
  simp only [byCs, decide_eq_true_eq] at *
  exact List.le_trans h1 h2
theorem byCs_total (a b : Str) : (byCs a b || byCs b a) = true := by
  simp only [byCs, Bool.or_eq_true, decide_eq_true_eq]
  exact List.le_total _ _
structure On (mg : Str → Option Value) : Prop where
  tuple : mg "tuple" = none
  all : mg "all" = none
  sorted : mg "sorted" = none
  set : mg "set" = none
end Mk

set_option Elab.async false
set_option linter.all false
set_option maxRecDepth 100000
set_option maxHeartbeats 4000000
namespace Mk
open PySem PySem.Spec PyProof.Rows L2

/-- a def's promise where nothing is being printed -/
structure FnG (P : Program) (w : World) (K : PySem.W.Frag) (mg : Str → Option Value) (base : Heap) (CX : CXT) (k : Nat) (f : Addr) (fd : FuncData) (ps : List Str) (sp : Sp) : Prop where
  len : ∀ vs H Q E, sp vs H Q E → vs.length = ps.length
  go : ∀ (A : Around) (outer : List Env) (s : Shared) (H : Hp) (args : Args) (us : List Value) (vs : List V) (Q : VK) (E : XK), Room k A → A.guards = some [] → Env0 P w K mg base A outer s H → BindsTo s fd args (ps.zip us) → Vals vs us → sp vs H Q E →
    codeAny (model P w) A (.call (.ref f) args) (CR CX outer P w H s Q E) s

section
variable {P : Program} {w : World} {K : PySem.W.Frag} {mg : Str → Option Value} {base : Heap} {CX : CXT} {k : Nat} {f : Addr} {sp : Sp} {N ps : List Str}
theorem fn_ofG {name qual : Str} {params : Arguments} {body : List Stmt} {scope : Scope} {dV kV doc pm cdv ct oc : Value} {an od : Option Addr} {osl : Array (Option Value)}
    (at0 : K.lookup f = some ⟨oc, od, .func (PySem.W.fnOf name qual params body scope dV kV doc pm an cdv ct), osl⟩) (cd0 : PySem.W.codeIn K cdv qual = true) (S : FnScope N ps scope)
    (len : ∀ vs H Q E, sp vs H Q E → vs.length = ps.length)
    (hb : ∀ (A : Around) (outer : List Env) (s : Shared) (H : Hp) (vs : List V) (Q : VK) (E : XK), Room k (A.deeper (envOfC qual scope s.heap.objs.size f cdv)) → A.guards = some [] → sp vs H Q E →
      ∃ t, PSs (cxOf CX P w K mg base N qual scope f cdv A outer s H E) body t ∧ t { nx := fun _ H' => Q .non H', rt := Q } (start N vs) H) :
    FnG P w K mg base CX (k + 1) f (PySem.W.fnOf name qual params body scope dV kV doc pm an cdv ct) ps sp := by
  refine ⟨len, fun A outer s H args us vs Q E hr gd e0 bd rel hsp => ?_⟩
  have lv := len _ _ _ _ hsp
  have kin : K.In s.heap := e0.mod.kin.keeps fun b o e => (e0.bs b o e).1
  have nol : s.heap.NoLimit := e0.mod.nolimit.keeps fun b o e => (e0.bs b o e).1
  have kinds : ∀ y ∈ ps.zip us, scope.names.lookup y.1 = some .local ∨ (scope.names.lookup y.1 = some .cell ∧ ((cellsFrom (s.heap.objs.size + 1) scope.names []).lookup y.1).isSome = true) := by
    rintro ⟨n, v⟩ hy
    exact (S.par n (List.of_mem_zip hy).1).imp id fun q => ⟨q, PySem.W.cellsFrom_some _ _ _ (.inl q)⟩
  refine codeAny_call_function hr.depth (kin _ _ at0) rfl S.co S.gen rfl (PySem.W.codeRec_of kin cd0) (bd _ _ _ _ ?_)
  refine wpAny_newFunctionEnv_cells S.kind kinds fun env he s1 x => ?_
  subst he
  obtain ⟨t, ht, hq⟩ := hb A outer s H vs Q E (hr.deeper _) gd hsp
  have I : Inv (cxOf CX P w K mg base N qual scope f cdv A outer s H E) [] (start N vs) H s1 := inv_start S hr.hd e0 lv rel x
  refine ⟨nol.keeps x.toInCall.keep, codeAny_func (wpAny_mono (ht.run [] s1 (start N vs) H _ I hq) (fun fl s' z => ?_) fun e s' z => z)⟩
  match fl, z with
  | .ret u, ⟨v, σ', H', J, rv, q⟩ => exact ⟨v, H', J.os, J.bare, J.base, J.hok, rv, q⟩
  | .next, ⟨σ', H', J, q⟩ => exact ⟨V.non, H', J.os, J.bare, J.base, J.hok, rfl, q⟩
  | .brk, ⟨_, _, _, q⟩ => exact q.elim
  | .cont, ⟨_, _, _, q⟩ => exact q.elim
/-- the rule for a def, where nothing is being printed -/
theorem Fun_okG {x qual : Str} {st : Stmt} {fd : FuncData} (F : Fun K x qual st f fd) (S : FnScope N ps (defScope st)) (len : ∀ vs H Q E, sp vs H Q E → vs.length = ps.length)
    (hb : ∀ (cdv : Value) (A : Around) (outer : List Env) (s : Shared) (H : Hp) (vs : List V) (Q : VK) (E : XK), Room k (A.deeper (envOfC qual (defScope st) s.heap.objs.size f cdv)) → A.guards = some [] → sp vs H Q E →
      ∃ t, PSs (cxOf CX0 P w K mg base N qual (defScope st) f cdv A outer s H E).nox (defBody st) t ∧ t { nx := fun _ H' => Q .non H', rt := Q } (start N vs) H) : FnG P w K mg base CX0 (k + 1) f fd ps sp := by
  obtain ⟨oc, od, kV, doc, pm, an, cdv, ct, osl, rfl, at0, cd0⟩ := F.ex
  refine fn_ofG at0 cd0 S len fun A outer s H vs Q E hr gd hsp => ?_
  obtain ⟨t, h, q⟩ := hb cdv A outer s H vs Q E hr gd hsp
  exact ⟨t, h.nox, q⟩
end
section
variable {X : Cx} {CX : CXT} {k : Nat} {f : Addr} {fd : FuncData} {ps : List Str} {sp : Sp} {E : XK} {x : Str} {p pos : Pos} {e : Expr} {es : List Expr} {t : TA}
theorem pe_callG (F : FnG X.prog X.w X.K X.mg X.base CX k f fd ps sp) (hr : Room k X.A) (gd : X.A.guards = some []) (hg : Gl X x) (hm : X.mg x = some (.ref f)) (hk : PySem.W.keepIn X.K (.ref f) = true) (hb : Binds X.K fd ps []) (hx : Passes CX X E)
    (ha : PA X (e :: es) t) (hdb : (x == ("__debug__" : Str)) = false := by decide) (he : starEach (e :: es) X.env = (false, eval e X.env) :: starEach es X.env := by rfl) (hpl : (backTo pos (starEach es X.env)).any (·.1) = false := by rfl) :
    PE X (.Call (.Name x p) (e :: es) [] pos) (tCall sp [] E t) := by
  refine ⟨fun pins s σ H Q I h => wpAny_Call_Name_kw (ld_glob I hg hm ?_ hdb)⟩
  refine PySem.W.callWith_K (h₀ := X.base) I.ok.mod.kin hk (thn (ha.run pos pins s σ H _ I h) fun us s1 ⟨vs, H1, I1, r, q⟩ => ⟨I1.kIn, ?_⟩) he hpl
  have q2 : sp (vs ++ []) H1 Q E := q
  rw [List.append_nil] at q2
  have lu : us.length = ps.length := by rw [← r.length]; exact F.len _ _ _ _ q2
  have bd := hb s1 us I1.kIn (by rw [List.append_nil]; exact lu)
  rw [List.append_nil] at bd
  refine wpAny_call (codeAny_mono (F.go X.A X.stack s1 H1 ⟨us, []⟩ us vs Q E hr gd I1.env0 bd r q2) fun r s' z => ?_)
  match r, z with
  | .error e, z => exact hx pins σ H1 s1 e s' I1 z
  | .ok (.ret u), z => exact I1.after z
  | .ok .next, z => exact False.elim z
  | .ok .brk, z => exact False.elim z
  | .ok .cont, z => exact False.elim z

/-- repr of data -/
theorem call_reprD (gd : X.A.guards = some []) (hu : X.A.units + 100 < cLine) : CallR X (.builtin "repr") (fun xs H Q => ∃ (a : Addr) (d : PyData), xs = [.ref a] ∧ Dp X.K H (.ref a) d ∧ d.showable = true ∧ d.hasDict = false ∧ d.depth ≤ 60 ∧ d.shown.length ≤ sizeLine ∧ Q (.str d.shown) H) := by
  intro pins s σ H xs us Q I r h
  obtain ⟨a, d, rfl, hd, h1, h2, h3, h4, q⟩ := h
  obtain ⟨u, rfl, hu1⟩ := vals1 r
  obtain ⟨as, rd⟩ := Dp.reads I d _ _ hd hu1
  obtain rfl : u = Value.ref a := hu1
  refine repr_of_reads' rd h1 (fun z => ?_) gd (by omega) (fun _ _ z => z) (fun h' v tk k => ⟨.str d.shown, H, I.kept k, ⟨_, rfl⟩, q⟩) h4
  rw [h2] at z
  cases z
end

section
variable {P : Program} {w : World} {K : PySem.W.Frag} {mg mb : Str → Option Value} {CX : CXT} {k : Nat} {fa a : Addr} {fd : FuncData} {x : Str} {sp : Sp} {s1 : Shared} {vs : List Value} {ns : List Int}
theorem law_callG (kin : K.In s1.heap) (hns : s1.heap.Ns mainGlobals mg) (hb : s1.heap.Ns builtinsNs mb) (hbb : ∀ x : Str, x ≠ "__name__" → mb x = bootBuiltins x) (nol : s1.heap.NoLimit) (hg : s1.gens = #[])
    (at0 : s1.heap.get? a = some { cls := .type "list", data := .seq vs.toArray }) (hi : IntsAre vs ns) (hl : ns.length ≤ sizeLine) (hr : Room k callerA)
    (F : ∀ base : Heap, K.In base → base.Ns mainGlobals mg → FnG P w K mg base CX k fa fd [x] sp) (bd : ∀ (s : Shared) (u : Value), BindsTo s fd ⟨[u], []⟩ [(x, u)])
    (hsp : ∀ H : Hp, Only H → SqL K H a (ns.map V.int) → sp [.ref a] H (fun v _ => v = .bl true) fun _ _ _ => False)
    (hCX : ∀ H e s', CX [] H s1 (fun _ _ _ => False) e s' → False) :
    codeAny (model P w) callerA (.call (.ref fa) ⟨[.ref a], []⟩) (fun r s' => r = .ok (.ret (.bool true)) ∧ OldK s1.heap s'.heap ∧ s'.os = s1.os ∧ AllBare s'.gens) s1 := by
  have rv := vals_ints hi
  have core : ∀ H : Hp, Only H → SqL K H a (ns.map V.int) → HOk P w H s1.heap → (∀ b, H b ≠ none → b = a) → (H a ≠ none → K.lookup a = none) →
      codeAny (model P w) callerA (.call (.ref fa) ⟨[.ref a], []⟩) (fun r s' => r = .ok (.ret (.bool true)) ∧ OldK s1.heap s'.heap ∧ s'.os = s1.os ∧ AllBare s'.gens) s1 := by
    intro H hO hS ok only noK
    have free : ∀ {b : Addr} {o : Obj}, s1.heap.get? b = some o → b ≠ a → H b = none := fun {b o} _ ne => by
      cases q : H b with
      | none => rfl
      | some u => exact absurd (only b (by rw [q]; exact fun z => nomatch z)) ne
    have nsH : ∀ {b : Addr} {m : Str → Option Value}, s1.heap.Ns b m → (hidT s1.heap H).Ns b m := fun {b m} ⟨o, es, ep, e, d, r⟩ => by
      refine ⟨o, es, ep, hidT_get e (free e fun z => ?_), d, r⟩
      rw [z, at0] at e
      cases e
      cases d
    have kinH : K.In (hidT s1.heap H) := fun b o e => by
      have e1 := kin b o e
      cases q : H b with
      | none => exact hidT_get e1 q
      | some u =>
        have z := only b (by rw [q]; exact fun z => nomatch z)
        subst z
        rw [noK (by rw [q]; exact fun z => nomatch z)] at e
        cases e
    have M0 : Mod K mg (hidT s1.heap H) := ⟨kinH, nsH hns, ⟨mb, nsH hb, hbb⟩, let ⟨mc, h1, h2⟩ := nol; ⟨mc, nsH h1, h2⟩⟩
    have e0 : Env0 P w K mg (hidT s1.heap H) callerA [] s1 H := ⟨rfl, M0, fun b o e => of_hidT e, Nat.le_of_eq (hidT_size _ _), trivial, fun b z => absurd (show b ∈ ([] : List Addr) from z) (by simp), ok, .of_eq hg⟩
    refine codeAny_mono ((F _ kinH (nsH hns)).go callerA [] s1 H ⟨[.ref a], []⟩ [.ref a] [.ref a] _ _ hr rfl e0 (bd s1 (.ref a)) (.cons rfl .nil) (hsp H hO hS)) fun r s' z => ?_
    match r, z with
    | .error e, z => exact (hCX H e s' z).elim
    | .ok .next, z => exact False.elim z
    | .ok .brk, z => exact False.elim z
    | .ok .cont, z => exact False.elim z
    | .ok (.ret u), ⟨v, H', os, bare, un, ok', rel, q⟩ =>
      obtain rfl : v = V.bl true := q
      obtain rfl : u = Value.bool true := rel
      refine ⟨rfl, OldK.of_keep fun b o e => ?_, os, bare⟩
      rcases hO b with z | ⟨ob, xs, z⟩
      · exact un.keep b o e z (fun q => absurd (show b ∈ ([] : List Addr) from q) (by simp)) (by simp)
      · have e1 := (ok b _ z).1
        have e2 := (ok' b _ (un.frzs b ob _ z)).1
        rw [e] at e1
        cases e1
        exact e2
  cases q : K.lookup a with
  | some o =>
    have e := kin a o q
    rw [at0] at e
    cases e
    refine core (fun _ => none) (fun _ => .inl rfl) (.inr ⟨_, vs.toArray, _, q, rfl, rfl, rfl, by rw [List.size_toArray, hi.length]; exact hl, by simpa using rv⟩) (fun b u z => nomatch z) (fun b z => absurd rfl z) fun z => absurd rfl z
  | none =>
    have self : ∀ {b : Addr} {u : HO}, (if b = a then some (HO.frz { cls := .type "list", data := .seq vs.toArray } (.lst (ns.map V.int))) else none) = some u → b = a ∧ u = .frz { cls := .type "list", data := .seq vs.toArray } (.lst (ns.map V.int)) := fun {b u} z => by
      by_cases c : b = a
      · rw [if_pos c] at z
        exact ⟨c, (Option.some.inj z).symm⟩
      · rw [if_neg c] at z
        cases z
    refine core (fun b => if b = a then some (.frz { cls := .type "list", data := .seq vs.toArray } (.lst (ns.map V.int))) else none) (fun b => ?_) (.inl (.inr ⟨_, if_pos rfl⟩)) (fun b u z => ?_) (fun b z => ?_) fun _ => q
    · by_cases c : b = a
      · exact .inr ⟨_, _, if_pos c⟩
      · exact .inl (if_neg c)
    · obtain ⟨rfl, rfl⟩ := self z
      exact ⟨at0, by rw [List.length_map]; exact hl, vs, _, rv, at0⟩
    · by_cases c : b = a
      · exact c
      · exact absurd (if_neg c) z
end
/-- the goal that k_head leaves, from the law's promise -/
theorem walk_ofG {l : PySem.W.OpenLaw} {n k : Nat} {q : Program} {loose : List Str} {XP : (Str → Option Value) → Heap → Prop} {YP : World → Heap → Prop} {d : DefRec} {K : Params → PySem.W.Frag} {sp : World → Sp} {x : Str}
    (hn : l.most = some n) (hn2 : n ≤ sizeLine) (hdf : d.params.defaults = []) (hr : Room k callerA) (hY : ∀ (w : World) (h : Heap), YP w h → (K w.params).In h)
    (F : ∀ (w : World) (mg : Str → Option Value) (fa : Addr) (h : Heap), (K w.params).In h → h.Ns mainGlobals mg → XP mg h → mg d.name = some (.ref fa) →
      ∃ fd : FuncData, (∀ (s : Shared) (u : Value), BindsTo s fd ⟨[u], []⟩ [(x, u)]) ∧ ∀ base : Heap, (K w.params).In base → base.Ns mainGlobals mg → FnG l.prog w (K w.params) mg base CX0 k fa fd [x] (sp w))
    (hsp : ∀ (w : World) (H : Hp) (a : Addr) (ns : List Int), ns.length ≤ n → Only H → SqL (K w.params) H a (ns.map V.int) → sp w [.ref a] H (fun v _ => v = .bl true) fun _ _ _ => False) :
    PySem.W.WalkO q loose XP YP l.row.toRowW d [] (fun f vs => PySem.call f vs) := by
  refine Att.attach_call hn hdf fun w s0 s1 mg mb fa o pm cd doc a vs ns G Y ho hd hcd hmg hobj hints hlen hg => ?_
  have kin := hY w _ Y
  obtain ⟨fd, bd, hF⟩ := F w mg fa _ kin G.T.g G.X hmg
  exact law_callG kin G.T.g G.T.b G.T.builtins G.T.nolimit hg hobj hints (Nat.le_trans hlen hn2) hr hF bd (fun H hO hS => hsp w H a ns hlen hO hS) fun _ _ _ z => z
end Mk

set_option Elab.async false
set_option linter.all false
set_option maxRecDepth 100000
set_option maxHeartbeats 4000000
namespace Mk
open PySem L2

abbrev sIsNum : Stmt := top 9
abbrev sIsNumW : Stmt := top 10
abbrev sChkNum : Stmt := top 0
abbrev sChkSigns : Stmt := top 0

abbrev LG : Int := 999999999999999999999999999999999999999999999999999999999999
def nuB (i : Int) : Bool := decide (-LG ≤ i) && decide (i ≤ LG)
def nwB (i a b : Int) : Bool := nuB i && (decide (a ≤ i) && decide (i ≤ b))
def spIsNum : Sp := fun vs H Q _ => ∃ i : Int, vs = [.int i] ∧ Q (.bl (nuB i)) H
def spIsNumW : Sp := fun vs H Q _ => ∃ i a b : Int, vs = [.int i, .int a, .int b] ∧ Q (.bl (nwB i a b)) H
def spChkNum : Sp := fun vs H Q _ => ∃ i a b : Int, vs = [.int i, .int a, .int b] ∧ nwB i a b = true ∧ Q .non H
/-- ascending unlike signs -/
def AscSg (zs : List Str) : Prop := zs ≠ [] ∧ (∀ z ∈ zs, sgB z = true) ∧ zs.Pairwise (fun x y => cs x < cs y)
def spChkSigns : Sp := fun vs H Q _ => ∃ (t : Addr) (zs : List Str), vs = [.ref t] ∧ H t = some (.tup (zs.map V.str)) ∧ AscSg zs ∧ zs.length ≤ 5 ∧ ∀ H', Same H H' → Q .non H'
structure Nn (mg : Str → Option Value) : Prop where
  bool : mg "bool" = none
  lg : ∃ t, mg "LARGEST" = some (.int LG t)
section
variable {P : Program} {w : World} {K : PySem.W.Frag} {mg : Str → Option Value} {base : Heap}
theorem scIsNum : FnScope ["value"] ["value"] (defScope sIsNum) := ⟨rfl, rfl, rfl, by decide +kernel, rfl, by decide +kernel, by decide +kernel⟩
theorem ok_isNum {f : Addr} {fd : FuncData} (F : Fun K "is_number" "is_number" sIsNum f fd) (B : Bn mg) (W : Wn mg) (N : Nn mg) : FnOk P w K mg base CX0 1 f fd ["value"] spIsNum := by
  obtain ⟨t, hL⟩ := N.lg
  refine F.ok scIsNum (fun vs H Q E h => ?_) (fun cdv A outer s H vs Q E hr h => ?_)
  · obtain ⟨i, rfl, _⟩ := h
    rfl
  · obtain ⟨i, rfl, q⟩ := h
    refine ⟨_, pss_cons (ps_if (PW.pt (pw_or (pt_val (pe_callB call_isi (by rfl) W.isi (by decide +kernel) (pa_cons (pv 0) (pa_cons (pe_bltn (v := .ty "bool") (u := .type "bool") (by rfl) N.bool (by decide +kernel) rfl) pa_nil))))
        (pw_or1 (pt_not (pt_val (pe_callB call_isi (by rfl) W.isi (by decide +kernel) (pa_cons (pv 0) (pa_cons (pe_bltn (v := .ty "int") (u := .type "int") (by rfl) B.int (by decide +kernel) rfl) pa_nil)))))))) (pss_one (ps_ret pe_bl)) pss_nil)
      (pss_one (ps_ret (pe_chain op_le op_le (pe_un un_neg (pe_glob (v := .int LG) (by rfl) hL ⟨_, rfl⟩)) (pv 0) (pe_glob (v := .int LG) (by rfl) hL ⟨_, rfl⟩)))), ?_⟩
    refine ⟨_, rfl, _, _, _, _, false, rfl, .ty "bool", .base (.int i), kit_ty (by decide +kernel), _, rfl, iteF ?_⟩
    refine ⟨_, rfl, _, _, _, _, true, rfl, .ty "int", .base (.int i), kit_ty (by decide +kernel), _, rfl, iteF ?_⟩
    refine ⟨_, rfl, _, rfl, _, _, rfl, rfl, _, rfl, ?_⟩
    by_cases h1 : -LG ≤ i
    · rw [decide_eq_true h1]
      refine iteT ⟨_, _, rfl, rfl, ?_⟩
      have e : decide (i ≤ LG) = nuB i := by
        unfold nuB
        rw [decide_eq_true h1, Bool.true_and]
      rw [← e] at q
      exact q
    · rw [decide_eq_false h1]
      have e : nuB i = false := by
        unfold nuB
        rw [decide_eq_false h1, Bool.false_and]
      rw [e] at q
      exact iteF q
theorem scIsNumW : FnScope ["value", "least", "most"] ["value", "least", "most"] (defScope sIsNumW) := ⟨rfl, rfl, rfl, by decide +kernel, rfl, by decide +kernel, by decide +kernel⟩
theorem ok_isNumW {f : Addr} {fd : FuncData} (F : Fun K "is_number_within" "is_number_within" sIsNumW f fd) (J : Cd P w K mg base 1 "is_number" ["value"] spIsNum) : FnOk P w K mg base CX0 2 f fd ["value", "least", "most"] spIsNumW := by
  obtain ⟨j, dj, G, gm, gk, gb⟩ := J.ex
  refine F.ok scIsNumW (fun vs H Q E h => ?_) (fun cdv A outer s H vs Q E hr h => ?_)
  · obtain ⟨i, a, b, rfl, _⟩ := h
    rfl
  · obtain ⟨i, a, b, rfl, q⟩ := h
    refine ⟨_, pss_one (ps_ret (pe_and (pe_call G hr (by rfl) gm gk gb .nil pass0 (pa_cons (pv 0) pa_nil)) (pe_one (pe_chain op_le op_le (pv 1) (pv 0) (pv 2))))), ?_⟩
    refine ⟨_, rfl, i, rfl, _, rfl, ?_⟩
    unfold nwB at q
    cases e : nuB i with
    | false =>
      rw [e, Bool.false_and] at q
      exact iteF q
    | true =>
      rw [e, Bool.true_and] at q
      refine iteT ⟨_, rfl, _, rfl, _, _, rfl, rfl, _, rfl, ?_⟩
      by_cases h1 : a ≤ i
      · rw [decide_eq_true h1] at q ⊢
        rw [Bool.true_and] at q
        exact iteT ⟨_, rfl, _, _, rfl, rfl, q⟩
      · rw [decide_eq_false h1] at q ⊢
        exact iteF q
theorem sorted_same {le : Str → Str → Bool} (tr : ∀ a b c, le a b = true → le b c = true → le a c = true) (tot : ∀ a b, (le a b || le b a) = true) (anti : ∀ a b, le a b = true → le b a = true → a = b) {l zs : List Str} (p : l.Perm zs) (s : zs.Pairwise (fun x y => le x y = true)) : l.mergeSort le = zs := by
  have s1 := List.pairwise_mergeSort tr tot l
  have p1 := (List.mergeSort_perm l le).trans p
  exact List.Perm.eq_of_pairwise (fun a b _ _ h1 h2 => anti a b h1 h2) s1 s p1
theorem dpAll_str {K : PySem.W.Frag} {H : Hp} : ∀ zs : List Str, DpAll K H (zs.map V.str) (zs.map PyData.str)
  | [] => .nil
  | z :: zs => .cons (.str z) (dpAll_str zs)
theorem lay_strs : ∀ zs : List Str, (∀ z ∈ zs, PyData.strOk z = true) → PyData.canLayAll0 (zs.map PyData.str) = true
  | [], _ => by simp [PyData.canLayAll0]
  | z :: zs, h => by simp [PyData.canLayAll0, PyData.canLay0, h z List.mem_cons_self, lay_strs zs fun y hy => h y (List.mem_cons_of_mem _ hy)]
theorem depth_strs : ∀ zs : List Str, PyData.depthAll (zs.map PyData.str) = 0
  | [] => by simp [PyData.depthAll]
  | z :: zs => by simp [PyData.depthAll, PyData.depth, depth_strs zs]
theorem shaped_strs {zs : List Str} (h : ∀ z ∈ zs, PyData.strOk z = true) : SeqAt.shaped (.tuple (zs.map PyData.str)) = true := by
  unfold SeqAt.shaped
  simp [PyData.canLay0, PyData.depth, lay_strs zs h, depth_strs]
theorem ok_of_wB {z : Str} (h : wB z = true) : PyData.strOk z = true := by
  unfold PyData.strOk
  rw [← Array.all_toList]
  refine List.all_eq_true.mpr fun c hc => ?_
  have := isW_of h c hc
  simp
  omega
theorem byCs_anti (a b : Str) (h1 : byCs a b = true) (h2 : byCs b a = true) : a = b := by
  simp only [byCs, decide_eq_true_eq] at h1 h2
  exact cs_inj (List.le_antisymm h1 h2)
theorem nodup_lt {zs : List Str} (h : zs.Pairwise (fun x y => cs x < cs y)) : zs.Nodup := List.Pairwise.imp (fun {a b} h (e : a = b) => List.lt_irrefl (cs b) (by rw [e] at h; exact h)) h
end
end Mk

set_option Elab.async false
set_option linter.all false
set_option maxRecDepth 100000
set_option maxHeartbeats 4000000
/-! d.values() of a dict whose keys are tuples -/
namespace Mk
open PySem PySem.Spec PyProof.Rows PySem.W L2

section
variable {X : Cx} {pins : List (Addr × Obj)} {σ : L2.St} {H : Hp} {s : Shared} {d : Addr} {o : Obj}
theorem frzV {kvs : List (List Key × V)} (I : Inv X pins σ H s) (hf : H d = some (.frz o (.dT kvs))) :
    (d == sysModules) = false ∧ ∃ (es : Array DictEntry) (ep : Nat), o.data = .dict es ep ∧ es.size = kvs.length ∧ s.heap.DictRaw d es ep ∧
      ∀ (i : Nat) (k : List Key) (v : V), kvs[i]? = some (k, v) → ∃ en : DictEntry, es[i]? = some en ∧ RelV v en.val := by
  obtain ⟨ho1, zl, hsm, xs, pr, o', es, ep, ho2, hx, hdt, he, _⟩ := I.hok d _ hf
  obtain rfl : o = o' := Option.some.inj (ho1.symm.trans ho2)
  refine ⟨hsm, es, ep, hdt, ?_, ⟨o, ho1, hx, hdt⟩, fun i k v e => ?_⟩
  · exact (size_of_entries he).trans (Paired.length pr).symm
  · obtain ⟨b, hb, _, _, e3⟩ := paired_get pr e
    have q := entry_at he i
    rw [hb] at q
    exact ⟨_, q, e3⟩
end
/-- the values of the locked dict at d, whose keys are tuples -/
def Itdt (d : Addr) (o : Obj) (kvs : List (List Key × V)) : It where
  go := fun i H => H d = some (.frz o (.dT kvs)) ∧ i < kvs.length
  yld := fun i H x H' => H' = H ∧ ∃ k, kvs[i]? = some (k, x)
  stop := fun i H => H d = some (.frz o (.dT kvs)) ∧ kvs.length ≤ i
theorem walk_valuesT {d : Addr} {o : Obj} {kvs : List (List Key × V)} : Walk (Itdt d o kvs) kvs.length (fun H => H d = some (.frz o (.dT kvs))) (fun i H x H' => H' = H ∧ ∃ k, kvs[i]? = some (k, x)) where
  goes := fun i _ hi q => ⟨q, hi⟩
  stops := fun _ q => ⟨q, Nat.le_refl _⟩
  yields := fun _ _ _ _ _ _ y => y
section
variable {P : Program} {w : World} {K : PySem.W.Frag} {tg : Expr} {d : Addr} {o : Obj} {es : Array DictEntry} {ep : Nat}
theorem turn_valsT {kvs : List (List Key × V)} (it : Addr) (hod : o.data = .dict es ep) : Turn P w K tg (Itdt d o kvs) [it] it (fun i h => h.IsValIter it d i kvs.length ep) where
  mem := List.mem_singleton.mpr rfl
  obj := fun i h st b hb => by
    obtain rfl := List.mem_singleton.mp hb
    obtain ⟨oi, e, c, dd⟩ := st
    refine ⟨oi, e, fun v z => ?_⟩
    rw [dd] at z
    cases z
  keep := fun i h h' st k => st.at fun oi e => k it (List.mem_singleton.mpr rfl) oi e
  item := by
    intro X hP hw hK hc i pins s σ H E I hf st hg
    subst hP hw hK
    have ⟨f0, f1, f2, f3, f4, f5⟩ := hf it (List.mem_singleton.mpr rfl)
    have ⟨hsm, es', ep', hdt, hsz, hr, ent⟩ := frzV I hg.1
    obtain ⟨rfl, rfl⟩ := dict_ep hod hdt
    have hgi : i < kvs.length := hg.2
    have hkv : kvs[i]? = some kvs[i] := List.getElem?_eq_getElem hgi
    obtain ⟨en, hen, ru⟩ := ent i _ _ hkv
    have hlt : i < es'.size := by rw [hsz]; exact hg.2
    have een : es'[i] = en := Option.some.inj ((Array.getElem?_eq_getElem hlt).symm.trans hen)
    rw [← hsz] at st ⊢
    refine wpAny_pyNext_values_item_raw st hr hlt fun h' st' sb => ?_
    have I1 := I.turned (t' := s.toks) (h' := h') (fun b ob hb e => (sb.2 b hb).trans e) f0 f1 f3 f4 f5
    have ⟨oi, e, c, dd⟩ := id st'
    exact ⟨_, rfl, go_of (s := { s with heap := h' }) e c dd (by decide) ⟨_, H, I1, by rw [een]; exact ru, ⟨rfl, _, hkv⟩, st', fun b hb => (hf b hb).1⟩⟩
  done := by
    intro X hP hw hK hc i pins s σ H E I hf st hg
    subst hP hw hK
    have ⟨f0, f1, f2, f3, f4, f5⟩ := hf it (List.mem_singleton.mpr rfl)
    have ⟨hsm, es', ep', hdt, hsz, hr, ent⟩ := frzV I hg.1
    obtain ⟨rfl, rfl⟩ := dict_ep hod hdt
    rw [← hsz] at st
    refine wpAny_pyNext_values_end_raw (I.ok.hd hc) st hr (by rw [hsz]; exact hg.2) fun h' eb => ?_
    exact ⟨rfl, I.turned (t' := s.toks) (fun b ob hb e => eb b ob hb e) f0 f1 f3 f4 f5⟩
  self := fun A i s Q E st h => wpAny_pyIter_valiter st h
end
def iValsT (td : TE) : TI := fun σ H R => td σ H fun x H1 => ∃ d o kvs, x = .ref d ∧ H1 d = some (.frz o (.dT kvs)) ∧ R (Itdt d o kvs) H1
section
variable {X : Cx} {tg e : Expr} {td : TE} {apos cpos : Pos}
theorem pi_valuesT (he : PE X e td) (hbase : attributeBase e "values" X.env (eval e X.env) = eval e X.env := by rfl) (hline : (apos.endLine == cpos.line) = true := by rfl) : PI X tg (.Call (.Attribute e "values" apos) [] [] cpos) (iValsT td) := by
  refine ⟨fun pins s σ H R I h => ?_⟩
  refine wpAny_Call_method (T := "dict") (id := "dict.values") hbase rfl hline F.plainAttrs_dict F.slot_dict_values F.type_dict_values (thn (he.run pins s σ H _ I h) fun u s1 z => ?_)
  obtain ⟨x, H1, I1, rx, d, o, kvs, rfl, hd, q⟩ := z
  obtain rfl : u = Value.ref d := rx
  have ⟨hsm, es, ep, hdt, hsz, hr, ent⟩ := frzV I1 hd
  have ⟨o1, ho1, hx1, hd1⟩ := id hr
  have I2 := I1.kept (t' := s1.toks) (h' := s1.heap.push { cls := .type "dict_values", data := .fields #[.ref d] }) fun b ob q => Heap.get?_push_of_some _ q
  have fin : wpAny (model X.prog X.w) X.A (pyIter (.ref s1.heap.objs.size)) (PIE X pins σ tg R) X.xe { s1 with heap := s1.heap.push { cls := .type "dict_values", data := .fields #[.ref d] } } := by
    refine wpAny_pyIter_values_raw (d := d) (es := es) (ep := ep) ⟨_, Heap.get?_push_size _ rfl, rfl, rfl⟩ ⟨o1, Heap.get?_push_of_some _ ho1, hx1, hd1⟩ (pi_one (tk := s1.toks) I2 _ (turn_valsT _ hdt) ⟨_, Heap.get?_push_size _ rfl, rfl, ?_⟩ q)
    rw [hsz] <;> rfl
  refine ⟨⟨o1, ho1, hx1.1⟩, ?_, ?_⟩
  · intro b e
    cases e
    exact ⟨o1, ho1, hx1.2.1⟩
  · exact method_meetsIn F.slot_dict_values F.entry_dict_values rfl (PySem.evalArgs_none ⟨rfl, ⟨o1, ho1, hx1.1⟩, F.args_dict_values_1 _, _, meets_dict_values_raw d hsm, ⟨⟨es, ep, hr⟩, fin⟩⟩)
end
end Mk

set_option Elab.async false
set_option linter.all false
set_option maxRecDepth 100000
set_option maxHeartbeats 4000000
namespace Mk
open PySem L2

abbrev sAreT : Stmt := top 26
abbrev sIsST : Stmt := top 27
abbrev sHasP : Stmt := top 28
abbrev sIsPair : Stmt := top 29

/-! ### tables of prices -/
abbrev PTab := List (Str × Int)
abbrev STab := List ((Str × Str) × Int)
def kvsP (t : PTab) : List (Key × V) := t.map fun p => (Sum.inr p.1, V.int p.2)
def kvsS (t : STab) : List (List Key × V) := t.map fun p => ([Sum.inr p.1.1, Sum.inr p.1.2], V.int p.2)
structure Pn (mg : Str → Option Value) : Prop where
  dict : mg "dict" = none
  mp : ∃ t, mg "MAX_PRICE" = some (.int 9 t)
  ms : ∃ t, mg "MAX_SWAP_PRICE" = some (.int 18 t)
/-- a generic walk: a comprehension of booleans -/
theorem wk_any {J : It} {n : Nat} {Gd : Hp → Prop} {Y : Nat → Hp → V → Hp → Prop} (wk : Walk J n Gd Y) {Body : V → Hp → (Hp → Prop) → Prop} {H0 : Hp} {Qd : Hp → Prop} (Pv : Nat → Hp → Prop) (h0 : Pv 0 H0) (hG : ∀ i H, i ≤ n → Pv i H → Gd H)
    (hs : ∀ i x H H', i < n → Pv i H → Y i H x H' → Body x H' (Pv (i + 1))) (hd : ∀ H, Pv n H → Qd H) :
    ∃ W : Nat → Nat → Hp → Prop, (∃ m, W 0 m H0) ∧ ∀ i m H, W i m H → (J.stop i H ∧ Qd H) ∨ (J.go i H ∧ ∃ Nx : Hp → Prop, (∀ H', Nx H' → ∃ m', m' < m ∧ W (i + 1) m' H') ∧ ∀ x H', J.yld i H x H' → Body x H' Nx) := by
  refine ⟨fun i m H => m = n - i ∧ i ≤ n ∧ Pv i H, ⟨n, by simp, Nat.zero_le _, h0⟩, ?_⟩
  rintro i m H ⟨rfl, le, p⟩
  by_cases lt : i < n
  · exact .inr ⟨wk.goes i H lt (hG i H le p), Pv (i + 1), fun H' p' => ⟨n - (i + 1), by omega, rfl, lt, p'⟩, fun x H' y => hs i x H H' lt p (wk.yields i H x H' lt (hG i H le p) y)⟩
  · obtain rfl : i = n := by omega
    exact .inl ⟨wk.stops H (hG _ H le p), hd H p⟩
theorem Same.upN {H H1 : Hp} {l : Addr} {o : HO} (a : Same H H1) (hl : H l = none) : Same H (upd H1 l o) := fun b u e => by
  rw [upd_ne (ne_of_none e hl)]
  exact a b u e
section
variable {X : Cx} {tg e : Expr} {td : TE} {apos cpos : Pos}
/-- d.values(), keys of either kind -/
theorem pi_valuesU (he : PE X e td) (hbase : attributeBase e "values" X.env (eval e X.env) = eval e X.env := by rfl) (hline : (apos.endLine == cpos.line) = true := by rfl) : PI X tg (.Call (.Attribute e "values" apos) [] [] cpos) (fun σ H R => iVals td σ H R ∨ iValsT td σ H R) :=
  ⟨fun pins s σ H R I h => h.elim (fun h => (pi_values he hbase hline).run pins s σ H R I h) (fun h => (pi_valuesT he hbase hline).run pins s σ H R I h)⟩
end
/-- d is a dict of prices: of signs, or of pairs -/
def IsTab (H : Hp) (d : Addr) (ns : List Int) : Prop := (∃ t : PTab, H d = some (.dK (kvsP t)) ∧ ns = t.map (·.2)) ∨ ∃ t : STab, H d = some (.dT (kvsS t)) ∧ ns = t.map (·.2)
def spHasP : Sp := fun vs H Q _ => ∃ (d : Addr) (m : Int) (ns : List Int), vs = [.ref d, .int m] ∧ IsTab H d ns ∧ ns.length ≤ 30 ∧ ∀ H', Same H H' → Q (.bl (ns.all fun i => nwB i 1 m)) H'
section
variable {P : Program} {w : World} {K : PySem.W.Frag} {mg : Str → Option Value} {base : Heap}
theorem scHasP : FnScope ["value", "most", "price"] ["value", "most"] (defScope sHasP) := ⟨rfl, rfl, rfl, by decide +kernel, rfl, by decide +kernel, by decide +kernel⟩
/-- what stands behind the walk over the locked dict at d: the list D of answers -/
structure Bls (H H1 : Hp) (d D : Addr) (u : HO) (bs : List Bool) : Prop where
  but : ∀ b o, b ≠ d → H b = some o → H1 b = some o
  at_ : H1 d = some u
  out : H1 D = some (.lst (bs.map V.bl))
theorem Bls.start {H : Hp} {d D : Addr} {u : HO} (hD : upd H d u D = none) : D ≠ d ∧ H D = none ∧ Bls H (upd (upd H d u) D (.lst [])) d D u [] := by
  have ne : D ≠ d := fun e => by
    rw [e, upd_same] at hD
    cases hD
  have h0 : H D = none := by rwa [upd_ne ne] at hD
  refine ⟨ne, h0, fun b o hb e => ?_, ?_, upd_same⟩
  · rw [upd_ne (ne_of_none e h0), upd_ne hb]
    exact e
  · rw [upd_ne ne.symm]
    exact upd_same
theorem Bls.push {H H1 : Hp} {d D : Addr} {u : HO} {bs : List Bool} (W : Bls H H1 d D u bs) (ne : D ≠ d) (h0 : H D = none) (b : Bool) : Bls H (upd H1 D (.lst (bs.map V.bl ++ [.bl b]))) d D u (bs ++ [b]) := by
  refine ⟨fun a o hb e => ?_, ?_, ?_⟩
  · rw [upd_ne (ne_of_none e h0)]
    exact W.but a o hb e
  · rw [upd_ne ne.symm]
    exact W.at_
  · rw [upd_same, List.map_append]
    rfl
theorem Bls.done {H H1 : Hp} {d D : Addr} {u u0 : HO} {bs : List Bool} (W : Bls H H1 d D u bs) (hd : H d = some u0) : Same H (upd H1 d u0) := fun b o e => by
  by_cases hb : b = d
  · subst hb
    rw [hd] at e
    cases e
    exact upd_same
  · rw [upd_ne hb]
    exact W.but b o hb e
theorem ok_hasP {f : Addr} {fd : FuncData} (F : Fun K "_has_prices" "_has_prices" sHasP f fd) (W : Wn mg) (O : On mg) (N : Pn mg) (J : Cd P w K mg base 2 "is_number_within" ["value", "least", "most"] spIsNumW) : FnOk P w K mg base CX0 3 f fd ["value", "most"] spHasP := by
  obtain ⟨j, dj, G, gm, gk, gb⟩ := J.ex
  refine F.ok scHasP (fun vs H Q E h => ?_) (fun cdv A outer s H vs Q E hr h => ?_)
  · obtain ⟨d, m, ns, rfl, _⟩ := h
    rfl
  · obtain ⟨d, m, ns, rfl, ht, hl, q⟩ := h
    refine ⟨_, pss_cons (ps_if (pt_not (pt_val (pe_callB call_isi (by rfl) W.isi (by decide +kernel) (pa_cons (pv 0) (pa_cons (pe_bltn (v := .ty "dict") (u := .type "dict") (by rfl) N.dict (by decide +kernel) rfl) pa_nil))))) (pss_one (ps_ret pe_bl)) pss_nil)
      (pss_one (ps_ret (pe_callB (cr_all rfl) (by rfl) O.all (by decide +kernel) (pa_cons (pe_lock (pe_lc (own := [("price", 2)]) (g := gName 2) (tt := tYes) rfl scHasP.nd (pi_valuesU (pv 0)) (blkOk_by (N := ["value", "most", "price"]) (sc := defScope sHasP) (by decide +kernel))
          (fun _ _ _ _ _ => pg_name (i := 2) scHasP.nd rfl (Or.inl rfl)) (fun _ _ _ _ _ => pts_nil) (fun _ _ _ _ _ => pe_call G hr (by rfl) gm gk gb .nil pass0 (pa_cons (pv 2) (pa_cons pe_int (pa_cons (pv 1) pa_nil)))))) pa_nil)))), ?_⟩
    have small : ns.length < sizeLine := Nat.lt_of_lt_of_le (by omega : ns.length < 4000) (by decide)
    rcases ht with ⟨t, hd, rfl⟩ | ⟨t, hd, rfl⟩
    · refine ⟨_, rfl, _, _, _, _, true, rfl, .ty "dict", .base (.dK hd), kit_ty (by decide +kernel), _, rfl, iteF ?_⟩
      refine ⟨d, _, hd, trivial, fun od => .inl ⟨_, rfl, d, od, kvsP t, rfl, upd_same, fun D hD => ?_⟩⟩
      obtain ⟨ne, h0, st⟩ := Bls.start hD
      refine wk_any (walk_values (d := d) (o := od) (kvs := kvsP t)) (fun i H1 => Bls H H1 d D (.frz od (.dK (kvsP t))) ((t.take i).map fun p => nwB p.2 1 m)) st (fun i H1 _ h1 => h1.at_) ?_ ?_
      · rintro i x H1 H2 hi h1 ⟨rfl, k, hx⟩
        have hi2 : i < t.length := by simpa [kvsP] using hi
        have e : x = V.int t[i].2 := by
          unfold kvsP at hx
          rw [List.getElem?_map, List.getElem?_eq_getElem hi2] at hx
          have := Option.some.inj hx
          injection this with _ e2
          exact e2.symm
        subst e
        refine ⟨rfl, _, rfl, _, rfl, t[i].2, 1, m, rfl, _, h1.out, ?_, ?_⟩
        · rw [List.length_map, List.length_map, List.length_take]
          rw [List.length_map] at small
          omega
        · have := h1.push ne h0 (nwB t[i].2 1 m)
          rw [List.take_add_one, List.getElem?_eq_getElem hi2, List.map_append]
          exact this
      · rintro H1 h1
        have e : (kvsP t).length = t.length := by simp [kvsP]
        rw [e, List.take_length] at h1
        refine ⟨h1.at_, D, _, rfl, SqL.of (by rw [upd_ne ne]; exact h1.out), ?_⟩
        rw [List.all_map]
        have := q _ (h1.done hd)
        rw [List.all_map] at this
        exact this
    · refine ⟨_, rfl, _, _, _, _, true, rfl, .ty "dict", .base (.dT hd), kit_ty (by decide +kernel), _, rfl, iteF ?_⟩
      refine ⟨d, _, hd, trivial, fun od => .inr ⟨_, rfl, d, od, kvsS t, rfl, upd_same, fun D hD => ?_⟩⟩
      obtain ⟨ne, h0, st⟩ := Bls.start hD
      refine wk_any (walk_valuesT (d := d) (o := od) (kvs := kvsS t)) (fun i H1 => Bls H H1 d D (.frz od (.dT (kvsS t))) ((t.take i).map fun p => nwB p.2 1 m)) st (fun i H1 _ h1 => h1.at_) ?_ ?_
      · rintro i x H1 H2 hi h1 ⟨rfl, k, hx⟩
        have hi2 : i < t.length := by simpa [kvsS] using hi
        have e : x = V.int t[i].2 := by
          unfold kvsS at hx
          rw [List.getElem?_map, List.getElem?_eq_getElem hi2] at hx
          have := Option.some.inj hx
          injection this with _ e2
          exact e2.symm
        subst e
        refine ⟨rfl, _, rfl, _, rfl, t[i].2, 1, m, rfl, _, h1.out, ?_, ?_⟩
        · rw [List.length_map, List.length_map, List.length_take]
          rw [List.length_map] at small
          omega
        · have := h1.push ne h0 (nwB t[i].2 1 m)
          rw [List.take_add_one, List.getElem?_eq_getElem hi2, List.map_append]
          exact this
      · rintro H1 h1
        have e : (kvsS t).length = t.length := by simp [kvsS]
        rw [e, List.take_length] at h1
        refine ⟨h1.at_, D, _, rfl, SqL.of (by rw [upd_ne ne]; exact h1.out), ?_⟩
        rw [List.all_map]
        have := q _ (h1.done hd)
        rw [List.all_map] at this
        exact this
end
end Mk

set_option Elab.async false
set_option linter.all false
set_option maxRecDepth 100000
set_option maxHeartbeats 4000000
namespace Mk
open PySem PySem.Spec PyProof.Rows L2

section
variable {prog : Program} {w : World} {A : Around} {E : Value → Shared → Prop} {s : Shared} {r d : Addr} {n : Nat} {Pi : Nat → Value → Prop} {OK : Heap → Prop}
theorem new_tuple_d {Q1 : Value → Shared → Prop} (Kd : PySem.W.KdlSrc prog w "dict" r d n Pi OK) (hh : A.handled = none) (hok : OK s.heap) (hn : n ≤ sizeLine) (hT : s.TypeIs (.ref r) "dict")
    (h : ∀ (h' : Heap) (tk : Nat) (acc : Array Value), (∀ b o, s.heap.get? b = some o → h'.get? b = some o) → ItemsOf Pi acc n → Q1 (.ref h'.objs.size) { s with heap := h'.push { cls := .type "tuple", data := .seq acc }, toks := tk }) :
    codeAny (model prog w) A (.call (.builtin "tuple.__new__") ⟨[.type "tuple", .ref r], []⟩) (wants Q1 E) s := by
  refine codeAny_of_tree ?_
  show wpAny _ A.in1 (do checkBuiltinCall "tuple.__new__" ⟨[.type "tuple", .ref r], []⟩; again (.builtin "tuple.__new__" ⟨[.type "tuple", .ref r], []⟩)) _ _ s
  refine wpAny_bind (wpAny_of_eq (F.newCall_tuple_1 _) (wpAny_pure ⟨plainId_quiet F.plain_tuple_new _, codeAny_builtin F.entry_tuple_new ?_⟩))
  rw [Around.under_plainId F.plain_tuple_new _]
  have s1 := sub_tuple_self
  have s2 := init_tuple_lookup
  have s3 := madeHere_tuple
  have h1 : A.in1.handled = none := hh
  wp_walk using wpAny_typeOf hT, PySem.W.kdu_collect (A := A.in1) Kd h1 hok hn
  intro h' tk acc k it
  show wpAny _ _ (Builtin.Tuple.tupleExact acc.toList.toArray >>= fun v => ret v) _ _ _
  unfold Builtin.Tuple.tupleExact
  have e : acc.toList.toArray = acc := by simp
  rw [e]
  refine wpAny_bind (wpAny_newObj_type ?_ (by show acc.size ≤ sizeLine; rw [it.1]; exact hn))
  exact wpAny_pure (h h' tk acc k it)
theorem call_tuple_d {Q : Value → Shared → Prop} (Kd : PySem.W.KdlSrc prog w "dict" r d n Pi OK) (hh : A.handled = none) (hok : OK s.heap) (hn : n ≤ sizeLine) (hT : s.TypeIs (.ref r) "dict")
    (h : ∀ (h' : Heap) (tk : Nat) (acc : Array Value), (∀ b o, s.heap.get? b = some o → h'.get? b = some o) → ItemsOf Pi acc n → Q (.ref h'.objs.size) { s with heap := h'.push { cls := .type "tuple", data := .seq acc }, toks := tk }) :
    wpAny (model prog w) A (call (.type "tuple") [.ref r]) Q E s := by
  refine callType_codes (Q₁ := fun v s1 => s1.TypeIs v "tuple" ∧ Q v s1) F.called_tuple (F.typeCall_tuple_1 _) F.entry_object_init
    (new_tuple_d (A := A.in1) Kd hh hok hn hT fun h' tk acc k it => ⟨⟨_, Heap.get?_push_size _ rfl, rfl⟩, h h' tk acc k it⟩) fun v s1 z => ?_
  exact ⟨z.1, F.args_object_init_2 v _, object_init_meets F.called_tuple.init.lookup F.called_tuple.made (by decide) prog w A.in1 _ s1 ⟨z.1, rfl, z.2⟩⟩
end
/-- tuple(d): its keys -/
def rTupD : List V → Hp → VK → Prop := fun xs H Q => ∃ (p : Addr) (kvs : List (Key × V)), xs = [.ref p] ∧ H p = some (.dK kvs) ∧ ∀ q, H q = none → Q (.ref q) (upd H q (.tup (kvs.map fun kv => kV kv.1)))
theorem cr_tupD {X : Cx} (hc : X.calm = true) : CallR X (.type "tuple") rTupD := by
  intro pins s σ H xs us Q I r h
  obtain ⟨p, kvs, rfl, hk, q⟩ := h
  rw [Vals.ref1 r]
  obtain ⟨z, lo, vs, rk, hd⟩ := (show ObjOk X.prog X.w H s.heap p (.dK kvs) from I.hok p _ hk)
  obtain ⟨ep, hat⟩ := hd.dictAt
  have hl : kvs.length = vs.length := Paired.length rk
  have hT : s.TypeIs (.ref p) "dict" := by
    obtain ⟨o, es, ep2, e, ex, _⟩ := hd
    exact ⟨o, e, ex.1⟩
  refine call_tuple_d (PySem.W.kdl_dict (knd := mixKind X.prog X.w) (kvs := vs) (ep := ep) lo) (I.ok.hd hc) hat (by rw [← hl]; exact z) hT fun h' tk acc k it => ?_
  have I1 : Inv X pins σ H { s with heap := h', toks := tk } := I.kept k
  have fr : H h'.objs.size = none := I1.hok.fresh (Nat.le_refl _)
  have el : acc.toList.length = acc.size := by simp
  have rv : Vals (kvs.map fun kv => kV kv.1) acc.toList := vals_of_at (by rw [List.length_map, el, it.1, hl]) fun j x v h1 h2 => by
    obtain ⟨ky, y, e1, e2⟩ := it.2 j v (by rw [← Array.getElem?_toList]; exact h2)
    have e3 : (kvs.map (·.1))[j]? = some ky := by
      rw [KV.keys rk, List.getElem?_map, e1]
      rfl
    have e4 : (kvs.map fun kv => kV kv.1) = (kvs.map (·.1)).map kV := by
      rw [List.map_map]
      rfl
    rw [e4, List.getElem?_map, e3] at h1
    obtain rfl : kV ky = x := Option.some.inj h1
    exact keyIs_rel e2
  refine ⟨.ref _, upd H h'.objs.size (.tup (kvs.map fun kv => kV kv.1)), I1.laid (t' := tk) (fun b o e => Heap.get?_push_of_some _ e) (Nat.le_refl _) ⟨by rw [List.length_map]; exact z, acc.toList, rv, ?_⟩, rfl, q _ fr⟩
  rw [Array.toArray_toList]
  exact ⟨_, Heap.get?_push_size _ rfl, rfl, _, rfl⟩
end Mk

set_option Elab.async false
set_option linter.all false
set_option maxRecDepth 100000
set_option maxHeartbeats 4000000
namespace Mk
open PySem L2

theorem kvsP_len (t : PTab) : (kvsP t).length = t.length := by simp [kvsP]
theorem kvsS_len (t : STab) : (kvsS t).length = t.length := by simp [kvsS]
theorem kvsP_keys (t : PTab) : (kvsP t).map (·.1) = (t.map (·.1)).map Sum.inr := by simp [kvsP]
theorem kvsP_at {t : PTab} {i : Nat} (h : i < t.length) : (kvsP t)[i]? = some (Sum.inr t[i].1, V.int t[i].2) := by
  unfold kvsP
  rw [List.getElem?_map, List.getElem?_eq_getElem h]
  rfl
theorem kvsS_at {t : STab} {i : Nat} (h : i < t.length) : (kvsS t)[i]? = some ([Sum.inr t[i].1.1, Sum.inr t[i].1.2], V.int t[i].2) := by
  unfold kvsS
  rw [List.getElem?_map, List.getElem?_eq_getElem h]
  rfl
def okP (t : PTab) (m : Int) : Bool := t.all fun p => nwB p.2 1 m
def okS (t : STab) (m : Int) : Bool := t.all fun p => nwB p.2 1 m
def spIsST : Sp := fun vs H Q _ => ∃ (d : Addr) (t : PTab), vs = [.ref d] ∧ H d = some (.dK (kvsP t)) ∧ t.length ≤ 5 ∧ (∀ p ∈ t, sgB p.1 = true) ∧ ∀ H', Same H H' → Q (.bl (okP t 9 && !t.isEmpty)) H'
def spPair : Sp := fun vs H Q _ => ∃ (q t : Addr) (x y : Str) (zs : List Str), vs = [.ref q, .ref t] ∧ H q = some (.tup [.str x, .str y]) ∧ H t = some (.tup (zs.map V.str)) ∧ Q (.bl (decide (x ∈ zs) && (decide (y ∈ zs) && decide (x ≠ y)))) H
theorem inV_dec (x : Str) (zs : List Str) : inV (.str x) (zs.map V.str) = decide (x ∈ zs) := by
  unfold inV
  rw [List.any_map, Bool.eq_iff_iff, decide_eq_true_iff, List.any_eq_true]
  constructor
  · rintro ⟨y, hy, e⟩
    have : eqV (.str y) (.str x) = true := e
    simp [eqV] at this
    rw [← this]
    exact hy
  · intro h
    refine ⟨x, h, ?_⟩
    show eqV (.str x) (.str x) = true
    simp [eqV]
theorem flat_str (zs : List Str) : (zs.map V.str).all flatV = true := by
  rw [List.all_map]
  exact List.all_eq_true.mpr fun _ _ => rfl
section
variable {P : Program} {w : World} {K : PySem.W.Frag} {mg : Str → Option Value} {base : Heap}
theorem scIsPair : FnScope ["value", "signs"] ["value", "signs"] (defScope sIsPair) := ⟨rfl, rfl, rfl, by decide +kernel, rfl, by decide +kernel, by decide +kernel⟩
theorem ok_isPair {f : Addr} {fd : FuncData} (F : Fun K "_is_pair" "_is_pair" sIsPair f fd) (B : Bn mg) (W : Wn mg) (O : On mg) : FnOk P w K mg base CX0 1 f fd ["value", "signs"] spPair := by
  refine F.ok scIsPair (fun vs H Q E h => ?_) (fun cdv A outer s H vs Q E hr h => ?_)
  · obtain ⟨q, t, x, y, zs, rfl, _⟩ := h
    rfl
  · obtain ⟨q, t, x, y, zs, rfl, hq, ht, k⟩ := h
    refine ⟨_, pss_cons (ps_if (PW.pt (pw_or (pt_not (pt_val (pe_callB call_isi (by rfl) W.isi (by decide +kernel) (pa_cons (pv 0) (pa_cons (pe_bltn (v := .ty "tuple") (u := .type "tuple") (by rfl) O.tuple (by decide +kernel) rfl) pa_nil)))))
        (pw_or1 (pt_cmpR op_ne (pe_callB call_len_seq (by rfl) B.len PySem.boot_len (pa_cons (pv 0) pa_nil)) pe_int (nomark _))))) (pss_one (ps_ret pe_bl)) pss_nil)
      (pss_one (ps_ret (pe_and (pe_cmpR op_in_seq (pe_ix ix_tup (pv 0) pe_int (fun _ _ => rfl)) (pv 1) (by rfl)) (pe_and (pe_cmpR op_in_seq (pe_ix ix_tup (pv 0) pe_int (fun _ _ => rfl)) (pv 1) (by rfl))
        (pe_one (pe_cmpR op_ne (pe_ix ix_tup (pv 0) pe_int (fun _ _ => rfl)) (pe_ix ix_tup (pv 0) pe_int (fun _ _ => rfl)) (nomark _))))))), ?_⟩
    refine ⟨_, rfl, _, _, _, _, true, rfl, .ty "tuple", .base (.tup hq), kit_ty (by decide +kernel), _, rfl, iteF ?_⟩
    refine ⟨_, rfl, q, _, rfl, .inr (SqT.of hq), rfl, _, rfl, iteF ?_⟩
    refine ⟨_, rfl, q, _, 0, _, rfl, rfl, SqT.of hq, rfl, _, rfl, t, _, rfl, .inr (SqT.of ht), rfl, flat_str zs, _, rfl, ?_⟩
    rw [inV_dec]
    cases e1 : decide (x ∈ zs) with
    | false =>
      rw [e1] at k
      exact iteF k
    | true =>
      rw [e1] at k
      refine iteT ⟨_, rfl, q, _, 1, _, rfl, rfl, SqT.of hq, rfl, _, rfl, t, _, rfl, .inr (SqT.of ht), rfl, flat_str zs, _, rfl, ?_⟩
      rw [inV_dec]
      cases e2 : decide (y ∈ zs) with
      | false =>
        rw [e2] at k
        exact iteF k
      | true =>
        rw [e2] at k
        refine iteT ⟨_, rfl, q, _, 0, _, rfl, rfl, SqT.of hq, rfl, _, rfl, q, _, 1, _, rfl, rfl, SqT.of hq, rfl, rfl, ?_⟩
        have e3 : (!decide (V.str x = V.str y)) = decide (x ≠ y) := by
          rw [Bool.eq_iff_iff]
          simp
        rw [e3]
        exact k
end
end Mk

set_option Elab.async false
set_option linter.all false
set_option maxRecDepth 100000
set_option maxHeartbeats 4000000
namespace Mk
open PySem L2

theorem sg_len {z : Str} (h : sgB z = true) : z.length ≤ 100000 := by
  unfold sgB at h
  rw [Bool.and_eq_true, decide_eq_true_eq] at h
  omega
theorem sg_ok {z : Str} (h : sgB z = true) : PyData.strOk z = true := by
  unfold sgB at h
  rw [Bool.and_eq_true] at h
  exact ok_of_wB h.2
section
variable {P : Program} {w : World} {K : PySem.W.Frag} {mg : Str → Option Value} {base : Heap}
theorem scIsST : FnScope ["value", "sign"] ["value"] (defScope sIsST) := ⟨rfl, rfl, rfl, by decide +kernel, rfl, by decide +kernel, by decide +kernel⟩
theorem ok_isST {f : Addr} {fd : FuncData} (F : Fun K "_is_sign_table" "_is_sign_table" sIsST f fd) (O : On mg) (N : Pn mg) (J : Cd P w K mg base 3 "_has_prices" ["value", "most"] spHasP) (S : Cd P w K mg base 1 "is_sign" ["value"] (spJudge sgB K)) : FnOk P w K mg base CX0 4 f fd ["value"] spIsST := by
  obtain ⟨j, dj, G, gm, gk, gb⟩ := J.ex
  obtain ⟨c, dc, Gc, cm, ck, cb⟩ := S.ex
  obtain ⟨tm, hm9⟩ := N.mp
  refine F.ok scIsST (fun vs H Q E h => ?_) (fun cdv A outer s H vs Q E hr h => ?_)
  · obtain ⟨d, t, rfl, _⟩ := h
    rfl
  · obtain ⟨d, t, rfl, hd, hl, hv, q⟩ := h
    refine ⟨_, pss_cons (ps_if (PW.pt (pw_or (pt_not (pt_val (pe_call G hr (by rfl) gm gk gb .nil pass0 (pa_cons (pv 0) (pa_cons (pe_glob (v := .int 9) (by rfl) hm9 ⟨_, rfl⟩) pa_nil)))))
        (pw_or1 (pt_not (pt_truth (pv 0) (by intro _; rfl)))))) (pss_one (ps_ret pe_bl)) pss_nil)
      (pss_one (ps_ret (pe_callB (cr_all rfl) (by rfl) O.all (by decide +kernel) (pa_cons (pe_lock (pe_lc (own := [("sign", 1)]) (g := gName 1) (tt := tYes) rfl scIsST.nd (pi_keys (pv 0)) (blkOk_by (N := ["value", "sign"]) (sc := defScope sIsST) (by decide +kernel))
          (fun _ _ _ _ _ => pg_name (i := 1) scIsST.nd rfl (Or.inl rfl)) (fun _ _ _ _ _ => pts_nil) (fun _ _ _ _ _ => pe_call Gc (hr.mono (by decide)) (by rfl) cm ck cb .nil pass0 (pa_cons (pv 1) pa_nil)))) pa_nil)))), ?_⟩
    refine ⟨_, rfl, d, 9, t.map (·.2), rfl, .inl ⟨t, hd, rfl⟩, by rw [List.length_map]; omega, fun H1 hS => ⟨_, rfl, ?_⟩⟩
    have ea : ((t.map (·.2)).all fun i => nwB i 1 9) = okP t 9 := by
      unfold okP
      rw [List.all_map]
      rfl
    rw [ea]
    cases e1 : okP t 9 with
    | false =>
      rw [e1] at q
      exact iteT (q _ hS)
    | true =>
    rw [e1] at q
    have hd1 := hS _ _ hd
    refine iteF ⟨_, rfl, _, .inr (.inr ⟨_, hd1, rfl⟩), ?_⟩
    cases t with
    | nil => exact iteT (q _ hS)
    | cons a l =>
    refine iteF ⟨d, _, hd1, trivial, fun od => ?_⟩
    generalize hT : (a :: l) = t at *
    have q : ∀ H', Same H H' → Q (.bl true) H' := by
      intro H' h
      have := q H' h
      rw [← hT] at this
      exact this
    refine ⟨_, rfl, d, od, rfl, .inl ⟨kvsP t, upd_same, fun D hD => ?_⟩⟩
    obtain ⟨ne, h0, st⟩ := Bls.start hD
    refine wk_any (walk_keys (d := d) (o := od) (kvs := kvsP t)) (fun i H2 => Bls H1 H2 d D (.frz od (.dK (kvsP t))) (List.replicate i true)) st (fun i H2 _ h2 => h2.at_) ?_ ?_
    · rintro i x H2 H3 hi h2 ⟨rfl, k, v, hx, rfl⟩
      have hi2 : i < t.length := by rwa [kvsP_len] at hi
      rw [kvsP_at hi2] at hx
      cases hx
      have sg := hv _ (List.getElem_mem hi2)
      refine ⟨rfl, _, rfl, _, rfl, .inl ⟨t[i].1, rfl, sg_len sg, _, h2.out, ?_, ?_⟩⟩
      · rw [List.length_map, List.length_replicate]
        exact Nat.lt_of_lt_of_le (by omega : i < 4000) (by decide)
      · rw [sg, List.replicate_succ']
        exact h2.push ne h0 true
    · rintro H2 h2
      have ea : (List.replicate (kvsP t).length true).all id = true := List.all_eq_true.mpr fun b hb => (List.mem_replicate.mp hb).2
      refine ⟨h2.at_, D, _, rfl, SqL.of (by rw [upd_ne ne]; exact h2.out), ?_⟩
      rw [ea]
      exact q _ (Same.trans hS (h2.done hd1))
end
end Mk

set_option Elab.async false
set_option linter.all false
set_option maxRecDepth 100000
set_option maxHeartbeats 4000000
namespace Mk
open PySem PySem.Spec L2 PyProof.Rows

theorem rise_up : ∀ {r : List Str} {p : Str}, risingS p r = true → (p :: r).Pairwise (fun a b => byCs a b = true)
  | [], p, _ => List.pairwise_singleton _ _
  | x :: r, p, h => by
    unfold risingS at h
    rw [Bool.and_eq_true, ltCps_eq] at h
    have hp : byCs p x = true := by
      unfold byCs
      have h1 := h.1
      simp only [Bool.not_eq_true', decide_eq_false_iff_not] at h1
      rw [decide_eq_true_iff]
      exact List.not_lt.mp h1
    have ih := rise_up h.2
    refine List.pairwise_cons.mpr ⟨fun y hy => ?_, ih⟩
    rcases List.mem_cons.mp hy with rfl | hy
    · exact hp
    · exact byCs_trans p x y hp ((List.pairwise_cons.mp ih).1 y hy)
theorem sorted_up : ∀ {l : List Str}, sortedS l = true → l.Pairwise (fun a b => byCs a b = true)
  | [], _ => .nil
  | _ :: _, h => rise_up h
theorem sorted_one {xs ys : List Str} (p : xs.Perm ys) (h1 : sortedS xs = true) (h2 : sortedS ys = true) : xs = ys :=
  List.Perm.eq_of_pairwise (fun a b _ _ k1 k2 => byCs_anti a b k1 k2) (sorted_up h1) (sorted_up h2) p
theorem shaped_strsL {zs : List Str} (h : ∀ z ∈ zs, PyData.strOk z = true) : SeqAt.shaped (.list (zs.map PyData.str)) = true := by
  unfold SeqAt.shaped
  simp [PyData.canLay0, PyData.depth, lay_strs zs h, depth_strs]
/-- three tables that agree in their signs -/
structure Agree (t1 t2 : PTab) (t3 : STab) : Prop where
  sg : ∀ p ∈ t1, sgB p.1 = true
  nd : (t1.map (·.1)).Nodup
  l1 : t1.length ≤ 5
  pm : (t2.map (·.1)).Perm (t1.map (·.1))
  l3 : t3.length ≤ 20
  pr : ∀ p ∈ t3, p.1.1 ∈ t1.map (·.1) ∧ p.1.2 ∈ t1.map (·.1) ∧ p.1.1 ≠ p.1.2
theorem Agree.sg2 {t1 t2 : PTab} {t3 : STab} (a : Agree t1 t2 t3) : ∀ p ∈ t2, sgB p.1 = true := fun p hp => by
  obtain ⟨q, hq, e⟩ := List.mem_map.mp (a.pm.mem_iff.mp (List.mem_map.mpr ⟨p, hp, rfl⟩))
  rw [← e]
  exact a.sg q hq
theorem Agree.l2 {t1 t2 : PTab} {t3 : STab} (a : Agree t1 t2 t3) : t2.length ≤ 5 := by
  have := a.pm.length_eq
  rw [List.length_map, List.length_map] at this
  rw [this]
  exact a.l1
/-- they stand in the heap -/
structure Tabs (H : Hp) (p o s : Addr) (t1 t2 : PTab) (t3 : STab) : Prop where
  p : H p = some (.dK (kvsP t1))
  o : H o = some (.dK (kvsP t2))
  s : H s = some (.dT (kvsS t3))
theorem Tabs.same {H H' : Hp} {p o s : Addr} {t1 t2 : PTab} {t3 : STab} (h : Tabs H p o s t1 t2 t3) (k : Same H H') : Tabs H' p o s t1 t2 t3 := ⟨k _ _ h.p, k _ _ h.o, k _ _ h.s⟩
def rightB (t1 t2 : PTab) (t3 : STab) : Bool := okP t1 9 && (!t1.isEmpty && (okP t2 9 && okS t3 18))
def spAreT : Sp := fun vs H Q _ => ∃ (p o s : Addr) (t1 t2 : PTab) (t3 : STab), vs = [.ref p, .ref o, .ref s] ∧ Tabs H p o s t1 t2 t3 ∧ Agree t1 t2 t3 ∧ ∀ H', Same H H' → Q (.bl (rightB t1 t2 t3)) H'
section
variable {P : Program} {w : World} {K : PySem.W.Frag} {mg : Str → Option Value} {base : Heap}
theorem scAreT : FnScope ["put", "out", "swap", "signs", "pair"] ["put", "out", "swap"] (defScope sAreT) := ⟨rfl, rfl, rfl, by decide +kernel, rfl, by decide +kernel, by decide +kernel⟩
theorem ok_areT {f : Addr} {fd : FuncData} (F : Fun K "_are_tables" "_are_tables" sAreT f fd) (O : On mg) (N : Pn mg) (J : Cd P w K mg base 4 "_is_sign_table" ["value"] spIsST) (S : Cd P w K mg base 3 "_has_prices" ["value", "most"] spHasP) (R : Cd P w K mg base 1 "_is_pair" ["value", "signs"] spPair) : FnOk P w K mg base CX0 5 f fd ["put", "out", "swap"] spAreT := by
  obtain ⟨j, dj, G, gm, gk, gb⟩ := J.ex
  obtain ⟨c, dc, Gc, cm, ck, cb⟩ := S.ex
  obtain ⟨e, de, Ge, em, ek, eb⟩ := R.ex
  obtain ⟨tm, hm18⟩ := N.ms
  refine F.ok scAreT (fun vs H Q E h => ?_) (fun cdv A outer s H vs Q E hr h => ?_)
  · obtain ⟨p, o, s, t1, t2, t3, rfl, _⟩ := h
    rfl
  · obtain ⟨p, o, sw, t1, t2, t3, rfl, hT, ag, q⟩ := h
    have hu2 : A.units + 3 + 64 < cLine := by
      have h2 : A.units + 3 + 16 * 4 + 200 < cLine := hr.un
      omega
    refine ⟨_, pss_cons (ps_if (PW.pt (pw_or (pt_not (pt_val (pe_call G hr (by rfl) gm gk gb .nil pass0 (pa_cons (pv 0) pa_nil)))) (pw_or (pt_not (pt_val (pe_call G hr (by rfl) gm gk gb .nil pass0 (pa_cons (pv 1) pa_nil))))
        (pw_or1 (pt_cmpR (op_neD hu2) (pe_callB (call_sortedD rfl) (by rfl) O.sorted (by decide +kernel) (pa_cons (pv 0) pa_nil)) (pe_callB (call_sortedD rfl) (by rfl) O.sorted (by decide +kernel) (pa_cons (pv 1) pa_nil)) (nomark _)))))) (pss_one (ps_ret pe_bl)) pss_nil)
      (pss_cons (ps_if (pt_not (pt_val (pe_call Gc (hr.mono (by decide)) (by rfl) cm ck cb .nil pass0 (pa_cons (pv 2) (pa_cons (pe_glob (v := .int 18) (by rfl) hm18 ⟨_, rfl⟩) pa_nil))))) (pss_one (ps_ret pe_bl)) pss_nil)
      (pss_cons (ps_set (i := 3) scAreT.nd rfl (.inr rfl) (pe_callTy (cr_tupD rfl) (by rfl) O.tuple (by decide +kernel) (pa_cons (pv 0) pa_nil)))
      (pss_one (ps_ret (pe_callB (cr_all rfl) (by rfl) O.all (by decide +kernel) (pa_cons (pe_lock (pe_lc (own := [("pair", 4)]) (g := gName 4) (tt := tYes) rfl scAreT.nd (pi_keys (pv 2)) (blkOk_by (N := ["put", "out", "swap", "signs", "pair"]) (sc := defScope sAreT) (by decide +kernel))
          (fun _ _ _ _ _ => pg_name (i := 4) scAreT.nd rfl (Or.inl rfl)) (fun _ _ _ _ _ => pts_nil) (fun _ _ _ _ _ => pe_call Ge (hr.mono (by decide)) (by rfl) em ek eb .nil pass0 (pa_cons (pv 4) (pa_cons (pv 3) pa_nil))))) pa_nil)))))), ?_⟩
    unfold rightB at q
    refine ⟨_, rfl, p, t1, rfl, hT.p, ag.l1, ag.sg, fun H1 s1 => ⟨_, rfl, ?_⟩⟩
    cases e1 : okP t1 9 with
    | false =>
      rw [e1] at q
      exact iteT (q _ s1)
    | true =>
    rw [e1] at q
    cases e2 : t1.isEmpty with
    | true =>
      rw [e2] at q
      exact iteT (q _ s1)
    | false =>
    rw [e2] at q
    refine iteF ?_
    have hT1 := hT.same s1
    refine ⟨_, rfl, o, t2, rfl, hT1.o, ag.l2, ag.sg2, fun H2 s2 => ⟨_, rfl, ?_⟩⟩
    have s12 := Same.trans s1 s2
    have ne2 : t2.isEmpty = false := by
      have := ag.pm.length_eq
      rw [List.length_map, List.length_map] at this
      cases t2 with
      | nil =>
        cases t1 with
        | nil => cases e2
        | cons a l => simp at this
      | cons a l => rfl
    rw [ne2]
    cases e3 : okP t2 9 with
    | false =>
      rw [e3] at q
      exact iteT (q _ s12)
    | true =>
    rw [e3] at q
    have hT2 := hT.same s12
    refine iteF ⟨_, rfl, p, kvsP t1, t1.map (·.1), rfl, .inl hT2.p, kvsP_keys t1, by rw [List.length_map]; have := ag.l1; omega, fun xs a perm sa ha => ?_⟩
    have hoa : (upd H2 a (.lst (xs.map V.str))) o = some (.dK (kvsP t2)) := (Same.new ha) _ _ hT2.o
    refine ⟨_, rfl, o, kvsP t2, t2.map (·.1), rfl, .inl hoa, kvsP_keys t2, by rw [List.length_map]; have := ag.l2; omega, fun ys b perm2 sb hb => ?_⟩
    obtain rfl : ys = xs := sorted_one ((perm2.trans ag.pm).trans perm.symm) sb sa
    have zo : ∀ y ∈ ys, PyData.strOk y = true := fun y hy => by
      obtain ⟨r, hr1, e⟩ := List.mem_map.mp (perm.mem_iff.mp hy)
      rw [← e]
      exact sg_ok (ag.sg r hr1)
    have nab : a ≠ b := ne_of_none (upd_same : upd H2 a (.lst (ys.map V.str)) a = some _) hb
    refine ⟨.list (ys.map PyData.str), .list (ys.map PyData.str), .lst (SqL.of (by rw [upd_ne nab]; exact upd_same)) (dpAll_str ys), .lst (SqL.of upd_same) (dpAll_str ys), shaped_strsL zo, shaped_strsL zo, _, rfl, ?_⟩
    rw [SeqAt.eqv_refl _ (SeqAt.canLay_of_shaped (shaped_strsL zo))]
    have s3 : Same H (upd (upd H2 a (.lst (ys.map V.str))) b (.lst (ys.map V.str))) := Same.trans (Same.trans s12 (Same.new ha)) (Same.new hb)
    have hT3 := hT.same s3
    refine iteF ⟨_, rfl, sw, 18, t3.map (·.2), rfl, .inr ⟨t3, hT3.s, rfl⟩, by rw [List.length_map]; have := ag.l3; omega, fun H4 s4 => ⟨_, rfl, ?_⟩⟩
    have ea : ((t3.map (·.2)).all fun i => nwB i 1 18) = okS t3 18 := by
      unfold okS
      rw [List.all_map]
      rfl
    rw [ea]
    have s34 := Same.trans s3 s4
    cases e4 : okS t3 18 with
    | false =>
      rw [e4] at q
      exact iteT (q _ s34)
    | true =>
    rw [e4] at q
    have hT4 := hT.same s34
    refine iteF ⟨_, rfl, p, _, rfl, hT4.p, fun t ht => ?_⟩
    have ek : (kvsP t1).map (fun kv => kV kv.1) = (t1.map (·.1)).map V.str := by
      unfold kvsP
      rw [List.map_map, List.map_map]
      rfl
    have eT : upd H4 t (.tup ((kvsP t1).map fun kv => kV kv.1)) = upd H4 t (.tup ((t1.map (·.1)).map V.str)) := by rw [ek]
    rw [eT]
    have s5 : Same H (upd H4 t (.tup ((t1.map (·.1)).map V.str))) := Same.trans s34 (Same.new ht)
    have hT5 := hT.same s5
    have x5 : upd H4 t (.tup ((t1.map (·.1)).map V.str)) t = some (.tup ((t1.map (·.1)).map V.str)) := upd_same
    generalize upd H4 t (.tup ((t1.map (·.1)).map V.str)) = H5 at s5 hT5 x5 ⊢
    refine ⟨sw, _, hT5.s, trivial, fun od => ⟨_, rfl, sw, od, rfl, .inr ⟨kvsS t3, upd_same, fun D hD => ?_⟩⟩⟩
    obtain ⟨ne, h0, st⟩ := Bls.start hD
    have nts : t ≠ sw := fun e => by
      rw [e, hT5.s] at x5
      cases x5
    refine wk_any (walk_keysT (d := sw) (o := od) (kvs := kvsS t3)) (fun i H6 => Bls H5 H6 sw D (.frz od (.dT (kvsS t3))) (List.replicate i true)) st (fun i H6 _ h6 => h6.at_) ?_ ?_
    · rintro i x H6 H7 hi h6 ⟨rfl, k, v, qa, hx, rfl, hq⟩
      have hi2 : i < t3.length := by rwa [kvsS_len] at hi
      rw [kvsS_at hi2] at hx
      cases hx
      have hpr := ag.pr _ (List.getElem_mem hi2)
      refine ⟨rfl, _, rfl, _, rfl, qa, t, t3[i].1.1, t3[i].1.2, t1.map (·.1), rfl, hq, h6.but _ _ nts x5, _, h6.out, ?_, ?_⟩
      · rw [List.length_map, List.length_replicate]
        exact Nat.lt_of_lt_of_le (by have := ag.l3; omega : i < 4000) (by decide)
      · rw [decide_eq_true hpr.1, decide_eq_true hpr.2.1, decide_eq_true hpr.2.2, List.replicate_succ']
        exact h6.push ne h0 true
    · rintro H6 h6
      have ea2 : (List.replicate (kvsS t3).length true).all id = true := List.all_eq_true.mpr fun b hb => (List.mem_replicate.mp hb).2
      refine ⟨h6.at_, D, _, rfl, SqL.of (by rw [upd_ne ne]; exact h6.out), ?_⟩
      rw [ea2]
      exact q _ (Same.trans s5 (h6.done hT5.s))
end
end Mk

set_option Elab.async false
set_option linter.all false
set_option maxRecDepth 100000
set_option maxHeartbeats 4000000
/-! sorted(d) of a dict whose keys are pairs of texts -/
namespace Mk
open PySem PySem.Spec PyProof.Rows L2

abbrev enc2 (k : Str × Str) : PyData := .tuple [.str k.1, .str k.2]
def le2 (a b : Str × Str) : Bool := decide (a.1.cps.toList < b.1.cps.toList) || (decide (a.1 = b.1) && decide (a.2.cps.toList ≤ b.2.cps.toList))
theorem enc2_le : PySem.W.dataLe false enc2 = le2 := by
  funext a b
  show (!PySem.W.dataLt (enc2 b) (enc2 a)) = le2 a b
  unfold enc2 le2
  rw [PySem.W.dataLt_pair (by simp [PySem.W.alike]) (by simp [PySem.W.alike]), PySem.W.dataLt_str, PySem.W.dataLt_str]
  have inj : ∀ {x y : Str}, x.cps.toList = y.cps.toList → x = y := by
    rintro ⟨⟨x⟩⟩ ⟨⟨y⟩⟩ h
    have h : x = y := h
    rw [h]
  by_cases e1 : b.1 = a.1
  · have q1 : PyData.eqv (.str b.1) (.str a.1) = true := by simp [PyData.eqv, e1]
    rw [if_pos q1, e1]
    have n1 : ¬ (a.1.cps.toList < a.1.cps.toList) := List.lt_irrefl _
    rw [decide_eq_false n1]
    by_cases e2 : b.2 = a.2
    · have q2 : PyData.eqv (.str b.2) (.str a.2) = true := by simp [PyData.eqv, e2]
      rw [if_pos q2, e2]
      simp
    · have q2 : ¬ PyData.eqv (.str b.2) (.str a.2) = true := by simp [PyData.eqv, e2]
      rw [if_neg q2]
      rw [Bool.eq_iff_iff]
      simp
  · have q1 : ¬ PyData.eqv (.str b.1) (.str a.1) = true := by simp [PyData.eqv, e1]
    rw [if_neg q1, decide_eq_false (fun h => e1 h.symm : ¬ a.1 = b.1)]
    rw [Bool.eq_iff_iff]
    simp
    constructor
    · intro h
      rcases Classical.em (a.1.cps.toList < b.1.cps.toList) with k | k
      · exact k
      · exact absurd (inj (List.le_antisymm h (List.not_lt.mp k))) (fun e => e1 e.symm)
    · intro h
      exact List.le_of_lt h
/-- the tuples at qs are the pairs ks -/
abbrev Pairs (H : Hp) (qs : List Addr) (ks : List (Str × Str)) : Prop := Paired (fun (q : Addr) (k : Str × Str) => H q = some (.tup [.str k.1, .str k.2])) qs ks
abbrev keyOf (k : Str × Str) : List Key := [Sum.inr k.1, Sum.inr k.2]
def rSortT2 : List V → Hp → VK → Prop := fun vs H Q => ∃ (d : Addr) (kvs : List (List Key × V)) (ks : List (Str × Str)), vs = [.ref d] ∧ Rd H d (.dT kvs) ∧ kvs.map (·.1) = ks.map keyOf ∧ ks.length ≤ 100 ∧
  ∀ (p : Addr) (qs : List Addr), H p = none → Pairs H qs (ks.mergeSort le2) → Q (.ref p) (upd H p (.lst (qs.map V.ref)))
/-- a value that is such a pair -/
def IsPr (H : Hp) (v : Value) (k : Str × Str) : Prop := ∃ q : Addr, v = .ref q ∧ H q = some (.tup [.str k.1, .str k.2])
theorem prs_of {H : Hp} : ∀ {kvs : List (List Key × V)} {xs : List (List Key × Addr × Value)} {ks : List (Str × Str)}, KT H kvs xs → kvs.map (·.1) = ks.map keyOf → PySem.W.EachIs (IsPr H) ((xs.map fun x => x.2.1).map Value.ref) ks
  | _, _, [], .nil, _ => .nil
  | _, _, _ :: _, .nil, h => nomatch h
  | _, _, [], .cons _ _, h => nomatch h
  | p :: kvs, x :: xs, k :: ks, .cons r t, h => by
    rw [List.map_cons, List.map_cons] at h
    injection h with h1 h2
    refine .cons ⟨_, rfl, ?_⟩ (prs_of t h2)
    rw [r.2.1, h1]
    rfl
theorem prs_pairs {H : Hp} : ∀ {out : List Value} {ks : List (Str × Str)}, PySem.W.EachIs (IsPr H) out ks → ∃ qs : List Addr, out = qs.map Value.ref ∧ Pairs H qs ks
  | _, _, .nil => ⟨[], rfl, .nil⟩
  | _, _, .cons ⟨q, e, h⟩ t => by
    obtain ⟨qs, e2, h2⟩ := prs_pairs t
    exact ⟨q :: qs, by rw [e, e2]; rfl, .cons h h2⟩
theorem each_mono2 {α β : Type} {R R' : α → β → Prop} (h : ∀ a b, R a b → R' a b) : ∀ {as : List α} {bs : List β}, PySem.W.EachIs R as bs → PySem.W.EachIs R' as bs
  | _, _, .nil => .nil
  | _, _, .cons r t => .cons (h _ _ r) (each_mono2 h t)
section
variable {X : Cx}
theorem cr_sortT2 (hc : X.calm = true) (hu : X.A.units + 60 < cLine) : CallR X (.builtin "sorted") rSortT2 := by
  intro pins s σ H xs us Q I r h
  obtain ⟨d, kvs, ks, rfl, hd, hks, hl, q⟩ := h
  obtain ⟨u, rfl, rx⟩ := r.one
  cases rx
  obtain ⟨z, hs, es', pr, o, es, ep, ho, hx, hdt, he, hn⟩ := (show ObjOk X.prog X.w H s.heap d (.dT kvs) from hd.ok I.hok)
  have l1 : es.size = es'.length := size_of_entries he
  have l2 : kvs.length = es'.length := Paired.length pr
  have l3 : kvs.length = ks.length := by
    have := congrArg List.length hks
    rwa [List.length_map, List.length_map] at this
  have lim : 100 ≤ sizeLine := by decide
  refine Calls.call_function_entry kind_sorted plain_sorted entry_sorted (args_sorted1 _) ?_
  unfold Builtin.«sorted»
  refine wpAny_bind (m := checkCount "sorted" 1 1 _) (wpAny_pure ?_)
  refine wpAny_bind (PySem.W.kdu_collect (A := X.A.in1) (kdl_raw hs hx hdt) (I.ok.hd hc) ho (by omega) fun h' tk acc kp it => ?_)
  have ea : acc.toList = (es'.map fun x => x.2.1).map Value.ref := by
    have hl : acc.toList.length = es'.length := by rw [Array.length_toList, it.1]; exact l1
    refine List.ext_getElem (by rw [hl, List.length_map, List.length_map]) fun j h1 h2 => ?_
    have hj : j < es'.length := by omega
    obtain ⟨en, hen, hv⟩ := it.2 j acc.toList[j] (by rw [← Array.getElem?_toList]; exact List.getElem?_eq_getElem h1)
    have qe := entry_at he j
    rw [hen, List.getElem?_eq_getElem hj] at qe
    rw [hv, Option.some.inj qe, List.getElem_map, List.getElem_map]
    rfl
  have ev : PySem.W.EachIs (IsPr H) acc.toList ks := by
    rw [ea]
    exact prs_of pr hks
  have lv : acc.toList.length = ks.length := by
    rw [ea, List.length_map, List.length_map]
    omega
  have I1 : Inv X pins σ H { s with heap := h', toks := tk } := I.kept kp
  refine wpAny_bind (wpAny_newList ?_ (by rw [lv]; omega))
  have at0 : (h'.push (seqObj "list" acc.toList.toArray 0)).get? h'.objs.size = some (seqObj "list" acc.toList.toArray 0) := Heap.get?_push_size _ rfl
  have I2 : Inv X pins σ H { s with heap := h'.push (seqObj "list" acc.toList.toArray 0), toks := tk } := I.kept fun b ob e => Heap.get?_push_of_some _ (kp b ob e)
  have rd : ∀ v k, IsPr H v k → ∃ as, Reads (h'.push (seqObj "list" acc.toList.toArray 0)) v (enc2 k) as ∧ h'.objs.size ∉ as := by
    rintro v k ⟨a, rfl, ha⟩
    obtain ⟨its, rv, ⟨ob, e1, e2, n, e3⟩, _⟩ := I2.tuple (SqT.of ha)
    cases rv with
    | cons r1 t1 =>
      obtain ⟨k1, rfl⟩ := r1
      cases t1 with
      | cons r2 t2 =>
        obtain ⟨k2, rfl⟩ := r2
        cases t2
        exact ⟨_, .tuple e1 e2 e3 (.cons (.str _ _) (.cons (.str _ _) .nil)), fun z => nomatch z⟩
  refine wpAny_bind (wpAny_holding (PySem.W.list_sort_data (s := { s with heap := h'.push (seqObj "list" acc.toList.toArray 0), toks := tk }) (enc := enc2) at0 ev (each_mono2 rd ev)
    (PySem.W.AllAlike.of fun _ _ => by simp [PySem.W.alike, PySem.W.alikeAll]) (PySem.W.Sortable.tuples fun k => ⟨_, _, rfl⟩) (by omega) (fun k _ => ?_) fun out lo eo => ?_))
  · show X.A.units + 1 + 1 + (enc2 k).depth < cLine
    have : (enc2 k).depth ≤ 2 := by simp [enc2, PyData.depth, PyData.depthAll]
    omega
  rw [enc2_le] at eo
  obtain ⟨qs, rfl, hq⟩ := prs_pairs eo
  obtain ⟨c, hcc⟩ := sortedHeap_at (vs := acc.toList) (out := (qs.map Value.ref).toArray) at0
  have lq : qs.length = ks.length := by rw [← lo, List.length_map]
  refine wpAny_pure ⟨_, rfl, .ref h'.objs.size, upd H h'.objs.size (.lst (qs.map V.ref)), I1.laid (t' := tk) (o := .lst (qs.map V.ref)) (fun b u e => ?_) (Nat.le_refl _) ⟨by rw [List.length_map]; omega, _, c, vals_refs qs, hcc⟩, rfl, q _ qs (I1.hok.fresh (Nat.le_refl _)) hq⟩
  have lt := Heap.lt_size e
  rw [sortedHeap_old (Nat.ne_of_lt lt) (by rw [size_push']; exact Nat.lt_succ_of_lt lt)]
  exact Heap.get?_push_of_some _ e
end
end Mk

set_option Elab.async false
set_option linter.all false
set_option maxRecDepth 100000
set_option maxHeartbeats 4000000
/-! dict comprehensions, whatever the keys are: told by what a store into the new dict wants -/
namespace Mk
open PySem PySem.Spec PyProof.Rows L2

/-- what a store of z under y into the dict at D wants: the heap behind it is in C -/
abbrev PutK := Addr → V → V → Hp → (Hp → Prop) → Prop
/-- such a store is made by the dict's own step -/
structure PutOk (P : Program) (w : World) (E0 : HO) (Put : PutK) : Prop where
  start : ∀ (H : Hp) (h : Heap), sysModules < h.objs.size → ObjOk P w H (h.push { cls := .type "dict", data := .dict #[] }) h.objs.size E0
  store : ∀ (Y : Cx), Y.prog = P → Y.w = w → Y.calm = true → Y.A.units + 1 < cLine → ∀ (pins : List (Addr × Obj)) (σ : L2.St) (H : Hp) (s : Shared) (D : Addr) (y z : V) (u r : Value) (C : Hp → Prop) (Q : Unit → Shared → Prop) (E : Value → Shared → Prop),
    Inv Y pins σ H s → RelV y u → RelV z r → Put D y z H C → (∀ H' s', C H' → Inv Y pins σ H' s' → Q () s') → wpAny (model P w) Y.A (dictSet D u r) Q E s
/-- one turn of the comprehension behind the walk's step -/
def turnG (Put : PutK) (g : TG) (tt : TT) (tk tv : TE) (vs : List Nat) (σ : L2.St) (D : Addr) (x : V) (H : Hp) (Nx : Hp → Prop) : Prop :=
  g x (wipe σ vs) H fun σ2 H2 => wipe σ2 vs = wipe σ vs ∧ tt σ2 H2 fun b H3 => if b = true then tk σ2 H3 fun y H4 => tv σ2 H4 fun z H5 => Put D y z H5 Nx else Nx H3
def tDcG (E0 : HO) (Put : PutK) (wi : TI) (g : TG) (tt : TT) (tk tv : TE) (vs : List Nat) : TE := fun σ H Q => wi σ H fun J H1 => ∀ D, H1 D = none → ∃ W : Nat → Nat → Hp → Prop, (∃ m, W 0 m (upd H1 D E0)) ∧
  ∀ i m H, W i m H → (J.stop i H ∧ Q (.ref D) H) ∨ (J.go i H ∧ ∃ Nx : Hp → Prop, (∀ H', Nx H' → ∃ m', m' < m ∧ W (i + 1) m' H') ∧ ∀ x H', J.yld i H x H' → turnG Put g tt tk tv vs σ D x H' Nx)
section
variable {X : Cx}
/-- the block's context stands: its own things are its own -/
theorem blk_own {s0 : Shared} {H0 : Hp} {scope : Scope} {ce : Env} {fp : List Addr} {σ : L2.St} {H : Hp} {s : Shared} (I : Inv (X.blk s0 H0 scope ce fp) [] σ H s) (hn : ∀ b ∈ fp, H b = none) : ∀ b ∈ fp, FpOk (X.blk s0 H0 scope ce fp) [] H b := by
  intro b hb
  have ⟨e1, e2⟩ := I.ok.exf b hb
  refine ⟨hn b hb, e1, I.ok.exfs b hb, Or.inl hb, fun x c e => e2 x c e, fun p hp => ?_⟩
  cases hp
/-- one turn, in the block's context -/
theorem turn_blk {E0 : HO} {Put : PutK} (K : PutOk X.prog X.w E0 Put) {kx vx tg : Expr} {ifs : List Expr} {g : TG} {tt : TT} {tk tv : TE} {vs : List Nat} {σ : L2.St} {D : Addr} {s0 : Shared} {H0 : Hp} {scope : Scope} {ce : Env} {fp : List Addr} {tn : Nat → Heap → Prop} {J : It} {it : Addr}
    (cm : X.calm = true) (un : (X.blk s0 H0 scope ce fp).A.units + 1 < cLine) (T : Turn X.prog X.w X.K tg J fp it tn) (pg : PG (X.blk s0 H0 scope ce fp) tg g) (pt : PTs (X.blk s0 H0 scope ce fp) ifs tt) (pk : PE (X.blk s0 H0 scope ce fp) kx tk) (pe : PE (X.blk s0 H0 scope ce fp) vx tv)
    {i : Nat} {s : Shared} {H : Hp} {Nx : Hp → Prop} {Goal : Shared → Prop} {E : Value → Shared → Prop} (I : Inv (X.blk s0 H0 scope ce fp) [] (wipe σ vs) H s) (nf : ∀ b ∈ fp, H b = none) (st : tn (i + 1) s.heap) {x : V} {u : Value} (rx : RelV x u)
    (step : turnG Put g tt tk tv vs σ D x H Nx) (hE : ∀ e s', (X.blk s0 H0 scope ce fp).xe e s' → E e s')
    (fin : ∀ H' s', Nx H' → Inv (X.blk s0 H0 scope ce fp) [] (wipe σ vs) H' s' → tn (i + 1) s'.heap → (∀ b ∈ fp, H' b = none) → Goal s') :
    wpAny (model X.prog X.w) (X.blk s0 H0 scope ce fp).A (assign tg (X.blk s0 H0 scope ce fp).env u) (fun _ s2 => wpAny (model X.prog X.w) (X.blk s0 H0 scope ce fp).A (forIn ifs true fun c r => if r = true then do let ok ← isTrue c (X.blk s0 H0 scope ce fp).env (eval c (X.blk s0 H0 scope ce fp).env); pure (ForInStep.yield ok) else pure (ForInStep.yield r))
      (fun ok s3 => if ok = true then wpAny (model X.prog X.w) (X.blk s0 H0 scope ce fp).A (eval kx (X.blk s0 H0 scope ce fp).env) (fun kv s4 => wpAny (model X.prog X.w) (X.blk s0 H0 scope ce fp).A (eval vx (X.blk s0 H0 scope ce fp).env) (fun vv s5 =>
          wpAny (model X.prog X.w) (X.blk s0 H0 scope ce fp).A (dictSet D kv vv) (fun _ s6 => Goal s6) E s5) E s4) E s3 else Goal s3) E s2) E s := by
  have objs := T.obj _ _ st
  have Ip := I.pinned (blk_own I nf) objs
  -- the walk's own things are held fast while the target is set and the two expressions run
  have back : ∀ {σ8 : L2.St} {H' : Hp} {s' : Shared}, wipe σ8 vs = wipe σ vs → Inv (X.blk s0 H0 scope ce fp) ([] ++ pinsAt fp s.heap) σ8 H' s' → Nx H' → Goal s' := by
    intro σ8 H' s' hw I' nx
    have held : ∀ b ∈ fp, ∀ o, s.heap.get? b = some o → s'.heap.get? b = some o ∧ H' b = none := fun b hb o e => by
      have z := I'.pin (b, o) (List.mem_append_right _ (List.mem_append_right _ (mem_pinsAt hb e)))
      exact ⟨z.1, z.2.1⟩
    refine fin H' s' nx ((I'.unpinned (pins := [])).weak ?_ fun j v e => ?_) (T.keep _ _ _ st fun b hb o e => (held b hb o e).1) fun b hb => ?_
    · rw [← hw, wipe_length]
    · rw [← hw] at e
      exact (wipe_some e).1
    · have ⟨o, e, _⟩ := objs b hb
      exact (held b hb o e).2
  refine wpAny_mono (pg.run _ s _ H x u _ Ip rx step) (fun _ s2 z => ?_) hE
  obtain ⟨σ2, H2, I2, hw, q2⟩ := z
  refine wpAny_mono (pt.run _ s2 σ2 H2 _ I2 q2) (fun ok s3 z => ?_) hE
  obtain ⟨H3, I3, q3⟩ := z
  by_cases c : ok = true
  · rw [if_pos c] at q3 ⊢
    refine wpAny_mono (pk.run _ s3 σ2 H3 _ I3 q3) (fun kv s4 z => ?_) hE
    obtain ⟨y, H4, I4, ry, q4⟩ := z
    refine wpAny_mono (pe.run _ s4 σ2 H4 _ I4 q4) (fun vv s5 z => ?_) hE
    obtain ⟨z, H5, I5, rz, q5⟩ := z
    exact K.store (X.blk s0 H0 scope ce fp) rfl rfl cm un _ σ2 H5 s5 D y z kv vv Nx _ E I5 ry rz q5 fun H6 s6 nx I6 => back hw I6 nx
  · rw [if_neg c] at q3 ⊢
    exact back hw I3 q3
/-- the block's loop -/
theorem loop_blk {E0 : HO} {Put : PutK} (K : PutOk X.prog X.w E0 Put) {kx vx tg iter : Expr} {ifs : List Expr} {scope sc2 : Scope} {pos : Pos} {g : TG} {tt : TT} {tk tv : TE} {vs : List Nat} {σ : L2.St} {D : Addr} {s0 : Shared} {H0 : Hp} {ce : Env} {fp : List Addr} {tn : Nat → Heap → Prop} {J : It} {it : Addr} {Qd : Hp → Prop} {R : Result → Shared → Prop}
    (cm : X.calm = true) (un : (X.blk s0 H0 scope ce fp).A.units + 1 < cLine) (T : Turn X.prog X.w X.K tg J fp it tn) (pg : PG (X.blk s0 H0 scope ce fp) tg g) (pt : PTs (X.blk s0 H0 scope ce fp) ifs tt) (pk : PE (X.blk s0 H0 scope ce fp) kx tk) (pe : PE (X.blk s0 H0 scope ce fp) vx tv)
    {W : Nat → Nat → Hp → Prop} (turn : ∀ i m H, W i m H → (J.stop i H ∧ Qd H) ∨ (J.go i H ∧ ∃ Nx : Hp → Prop, (∀ H', Nx H' → ∃ m', m' < m ∧ W (i + 1) m' H') ∧ ∀ x H', J.yld i H x H' → turnG Put g tt tk tv vs σ D x H' Nx))
    (hE : ∀ e s', (X.blk s0 H0 scope ce fp).xe e s' → notedBy (model X.prog X.w) (X.blk s0 H0 scope ce fp).A (X.blk s0 H0 scope ce fp).env (fun e s' => R (.error e) s') e s')
    (hR : ∀ s' H', Inv (X.blk s0 H0 scope ce fp) [] (wipe σ vs) H' s' → (∀ b ∈ fp, H' b = none) → Qd H' → R (.ok .next) s')
    {m0 : Nat} {s : Shared} {H : Hp} (I : Inv (X.blk s0 H0 scope ce fp) [] (wipe σ vs) H s) (st : tn 0 s.heap) (nf : ∀ b ∈ fp, H b = none) (w0 : W 0 m0 H) :
    codeAny (model X.prog X.w) (X.blk s0 H0 scope ce fp).A (.compLoop (.DictComp kx vx [⟨tg, iter, ifs, 0⟩] sc2 pos) 0 (.ref it) (.ref D) (X.blk s0 H0 scope ce fp).env) R s := by
  refine compLoop_anyD (fun m s' => ∃ i H', Inv (X.blk s0 H0 scope ce fp) [] (wipe σ vs) H' s' ∧ tn i s'.heap ∧ (∀ b ∈ fp, H' b = none) ∧ W i m H') ?_ m0 ⟨0, H, I, st, nf, w0⟩
  rintro m s5 ⟨i, H5, I5, st5, n5, w5⟩
  rcases turn i m H5 w5 with ⟨stop, qd⟩ | ⟨go, Nx, less, step⟩
  · have e := T.done (X.blk s0 H0 scope ce fp) rfl rfl rfl cm i [] s5 _ H5 (fun _ _ => False) I5 (blk_own I5 n5) st5 stop
    refine wpAny_mono e (fun r s6 z => ?_) fun _ _ z => z.elim
    obtain ⟨rfl, I6⟩ := z
    exact hR s6 H5 I6 n5 qd
  · have e := T.item (X.blk s0 H0 scope ce fp) rfl rfl rfl cm i [] s5 _ H5 (fun _ _ => False) I5 (blk_own I5 n5) st5 go
    refine wpAny_mono e (fun r s6 z => ?_) fun _ _ z => z.elim
    obtain ⟨u, rfl, z⟩ := z
    refine wpAny_mono z (fun _ s7 z => ?_) fun _ _ z => z.elim
    obtain ⟨x, H7, I7, rx, y7, st7, n7⟩ := z
    refine turn_blk K cm un T pg pt pk pe I7 n7 st7 rx (step x H7 y7) hE fun H' s' nx I' st' n' => ?_
    obtain ⟨m', lt, w'⟩ := less H' nx
    exact ⟨m', lt, i + 1, H', I', st', n', w'⟩
/-- the whole comprehension, as a value -/
theorem pe_dcG {E0 : HO} {Put : PutK} (K : PutOk X.prog X.w E0 Put) {kx vx tg iter : Expr} {ifs : List Expr} {scope : Scope} {own : List (Str × Nat)} {pos : Pos} {wi : TI} {g : TG} {tt : TT} {tk tv : TE} (cm : X.calm = true) (nd : X.N.Nodup) (un : X.A.units + 20 < cLine) (hi : PI X tg iter wi) (ok : BlkOk X.N X.env.scope scope own)
    (hg : ∀ s H C cl fr, PG (X.blk s H scope (compEnvC scope cl C X.env) fr) tg g) (ht : ∀ s H C cl fr, PTs (X.blk s H scope (compEnvC scope cl C X.env) fr) ifs tt) (hk : ∀ s H C cl fr, PE (X.blk s H scope (compEnvC scope cl C X.env) fr) kx tk) (hv : ∀ s H C cl fr, PE (X.blk s H scope (compEnvC scope cl C X.env) fr) vx tv)
    (fs : ∀ x, foldedSetIterable iter X.env x = pure x := by intro _; rfl) : PE X (.DictComp kx vx [⟨tg, iter, ifs, 0⟩] scope pos) (tDcG E0 Put wi g tt tk tv (own.map (·.2))) := by
  refine ⟨fun pins s σ H Q I h => ?_⟩
  rw [arm_eval_DictComp]
  have cl : ∀ y ∈ scope.names, y.2 = .free → ∃ c, X.env.cells.lookup y.1 = some c := fun y hy e => I.ok.has _ ((ok.free y hy e).elim .inl .inr)
  refine wpAny_comprehension_free rfl fs (closure_ok cl) ok.kind (fun y hy e => by rw [ok.uniq y hy, e]) (thn (hi.run pins s σ H _ I h) fun xv s1 z1 => thn z1 fun itv s2 z2 => ?_)
  obtain ⟨it, fp, tn, J, H2, rfl, I2, T, st2, f2, q⟩ := z2
  refine wpAny_newObj_type (newEnv_comp ?_)
  obtain ⟨W, ⟨m0, w0⟩, turn⟩ := q s2.heap.objs.size (I2.hok.fresh (Nat.le_refl _))
  have I3 : Inv X pins σ (upd H2 s2.heap.objs.size E0) { s2 with heap := s2.heap.push { cls := .type "dict", data := .dict #[] } } :=
    I2.laid (t' := s2.toks) (fun b o e => Heap.get?_push_of_some _ e) (Nat.le_refl _) (K.start _ _ I2.big)
  have old : ∀ b ∈ fp, b < s2.heap.objs.size := fun b hb => have ⟨_, e, _⟩ := T.obj _ _ st2 b hb; Heap.lt_size e
  have f3 : ∀ b ∈ fp, FpOk X pins (upd H2 s2.heap.objs.size E0) b ∧ b < (s2.heap.push { cls := .type "dict", data := .dict #[] }).objs.size := fun b hb =>
    ⟨⟨by rw [upd_ne (Nat.ne_of_lt (old b hb))]; exact (f2 b hb).1, (f2 b hb).2⟩, by rw [Heap.size_push]; exact Nat.lt_succ_of_lt (old b hb)⟩
  have I4 := block_start I3 ok nd f3
  have nfp : ∀ b ∈ fp, upd H2 s2.heap.objs.size E0 b = none := fun b hb => (f3 b hb).1.1
  have st4 := T.keep 0 _ (pushCells ((s2.heap.push { cls := .type "dict", data := .dict #[] }).push { cls := .type "dict", data := .dict #[] }) scope.names) st2 fun b _ o e => pushCells_keeps _ _ _ _ (Heap.get?_push_of_some _ (Heap.get?_push_of_some _ e))
  have pg := hg { s2 with heap := s2.heap.push { cls := .type "dict", data := .dict #[] } } (upd H2 s2.heap.objs.size E0) (s2.heap.push { cls := .type "dict", data := .dict #[] }).objs.size (cellsFrom ((s2.heap.push { cls := .type "dict", data := .dict #[] }).objs.size + 1) scope.names (cloFrom X.env.cells scope.names [])) fp
  have pt := ht { s2 with heap := s2.heap.push { cls := .type "dict", data := .dict #[] } } (upd H2 s2.heap.objs.size E0) (s2.heap.push { cls := .type "dict", data := .dict #[] }).objs.size (cellsFrom ((s2.heap.push { cls := .type "dict", data := .dict #[] }).objs.size + 1) scope.names (cloFrom X.env.cells scope.names [])) fp
  have pk := hk { s2 with heap := s2.heap.push { cls := .type "dict", data := .dict #[] } } (upd H2 s2.heap.objs.size E0) (s2.heap.push { cls := .type "dict", data := .dict #[] }).objs.size (cellsFrom ((s2.heap.push { cls := .type "dict", data := .dict #[] }).objs.size + 1) scope.names (cloFrom X.env.cells scope.names [])) fp
  have pw := hv { s2 with heap := s2.heap.push { cls := .type "dict", data := .dict #[] } } (upd H2 s2.heap.objs.size E0) (s2.heap.push { cls := .type "dict", data := .dict #[] }).objs.size (cellsFrom ((s2.heap.push { cls := .type "dict", data := .dict #[] }).objs.size + 1) scope.names (cloFrom X.env.cells scope.names [])) fp
  have loop := loop_blk (kx := kx) (vx := vx) (iter := iter) (sc2 := scope) (pos := pos) (R := compPost (model X.prog X.w) X.A X.xe none (EP X pins σ Q) (.ref s2.heap.objs.size) (s2.heap.push { cls := .type "dict", data := .dict #[] }).objs.size)
    K cm (by show X.A.units + 1 < cLine; omega) T pg pt pk pw turn (fun _ _ z => False.elim z) (fun s6 H6 I6 n6 qd => ?_) I4 st4 nfp w0
  · exact codeAny_compStart_dict loop (T.self X.A 0 _ _ _ st4 loop)
  · have I7 : Inv X pins σ H6 s6 := I3.call' (ch := fp) I6.os I6.base I6.hok I6.bare fun b hb => by
      have ⟨_, e2, e3, e4, e5, e6⟩ := (f3 b hb).1
      exact ⟨e4, e2, e5, e6⟩
    obtain ⟨m, hn, _⟩ := I6.loc
    have nC : H6 (s2.heap.push { cls := .type "dict", data := .dict #[] }).objs.size = none := I6.free
    obtain ⟨e0, e1, e2, e3, e4, e5⟩ := I3.fpOk (Nat.le_refl _) nC
    exact ⟨m, hn, fun h'' sb => ⟨.ref s2.heap.objs.size, H6, I7.turned (t' := s6.toks) (fun b o hb e => (sb.2 b hb).trans e) e0 e1 e3 e4 e5, rfl, qd⟩⟩
end
/-- keys that are tuples of ints and texts -/
def putT : PutK := fun D y z H C => ∃ (kvs : List (List Key × V)) (k : List Key) (b : Addr), y = .ref b ∧ H b = some (.tup (k.map kV)) ∧ H D = some (.dT kvs) ∧ kvs.length < sizeLine ∧ C (upd H D (.dT (L2.putK kvs k z)))
/-- keys that are ints and texts -/
def putP : PutK := fun D y z H C => ∃ (kvs : List (Key × V)) (k : Key), y = kV k ∧ H D = some (.dK kvs) ∧ kvs.length < sizeLine ∧ C (upd H D (.dK (L2.putK kvs k z)))
theorem putP_ok {P : Program} {w : World} : PutOk P w (.dK []) putP where
  start := fun H h big => dk_empty h big
  store := by
    intro Y hP hw cm hu pins σ H s D y z u r C Q E I ry rz st fin
    subst hP hw
    obtain ⟨kvs, k, rfl, hD, hl, hC⟩ := st
    exact d_dictSet I hD hl ry rz fun s' J => fin _ s' hC J
theorem putT_ok {P : Program} {w : World} : PutOk P w (.dT []) putT where
  start := fun H h big => dt_empty h big
  store := by
    intro Y hP hw cm hu pins σ H s D y z u r C Q E I ry rz st fin
    subst hP hw
    obtain ⟨kvs, k, b, rfl, hb, hD, hl, hC⟩ := st
    obtain rfl : u = Value.ref b := ry
    have ⟨lo, hs, xs, rel, dd⟩ := dt_of I.hok hD
    have lx : xs.length ≤ sizeLine := by rw [← Paired.length rel]; exact lo
    have ln : (L2.putK kvs k z).length ≤ sizeLine := Nat.le_trans (length_putK kvs k z) hl
    refine wpAny_dictSet_heap (hsz := lx) (show (tupleKind (mixKind Y.prog Y.w)).room Y.A from Nat.lt_of_succ_lt hu) (key_of I.hok hb) dd fun h' dd' ext => fin _ _ hC ?_
    have ⟨o, es, ep, ho, h2, h3, h4, _, h5⟩ := dd'
    have rel2 := (rel.put k hb rz).keeps (H' := upd H D (.dT (L2.putK kvs k z))) fun c ys ec => by
      have ne : c ≠ D := fun e => by
        rw [e, hD] at ec
        cases ec
      rw [upd_ne ne]
      exact ec
    exact d_write I (by rw [hD]; exact True.intro) ext ⟨o, ho⟩ ⟨ln, hs, _, rel2, o, es, ep, ho, h2, h3, h4, h5⟩
end Mk

set_option Elab.async false
set_option linter.all false
set_option maxRecDepth 100000
set_option maxHeartbeats 4000000
namespace Mk
open PySem PySem.Spec L2 PyProof.Rows

abbrev sAsc : Stmt := top 12
/-! ### a table in another order -/
section
variable {α : Type} [DecidableEq α]
def look (t : List (α × Int)) (k : α) : Int := ((t.find? fun p => decide (p.1 = k)).map (·.2)).getD 0
theorem look_mem : ∀ {t : List (α × Int)}, (t.map (·.1)).Nodup → ∀ p ∈ t, look t p.1 = p.2
  | [], _, _, h => nomatch h
  | a :: t, nd, p, h => by
    rw [List.map_cons, List.nodup_cons] at nd
    unfold look
    by_cases e : a.1 = p.1
    · rw [List.find?_cons_of_pos (by simpa using e)]
      rcases List.mem_cons.mp h with rfl | m
      · rfl
      · exact absurd (List.mem_map.mpr ⟨p, m, e.symm⟩) nd.1
    · rw [List.find?_cons_of_neg (by simpa using e)]
      rcases List.mem_cons.mp h with rfl | m
      · exact absurd rfl e
      · exact look_mem nd.2 p m
def put (t : List (α × Int)) (ys : List α) : List (α × Int) := ys.map fun k => (k, look t k)
theorem put_perm {t : List (α × Int)} (nd : (t.map (·.1)).Nodup) {ys : List α} (p : ys.Perm (t.map (·.1))) : (put t ys).Perm t := by
  have e : (t.map (·.1)).map (fun k => (k, look t k)) = t := by
    rw [List.map_map]
    conv => rhs; rw [← List.map_id t]
    exact List.map_congr_left fun q hq => by
      show (q.1, look t q.1) = q
      rw [look_mem nd q hq]
  have := p.map fun k => (k, look t k)
  rw [e] at this
  exact this
theorem put_keys (t : List (α × Int)) (ys : List α) : (put t ys).map (·.1) = ys := by
  unfold put
  rw [List.map_map]
  conv => rhs; rw [← List.map_id ys]
  rfl
end
theorem valP {t : PTab} {k : Str} (h : k ∈ t.map (·.1)) : valV (kvsP t) (Sum.inr k) = some (V.int (look t k)) := by
  induction t with
  | nil => exact nomatch h
  | cons a t ih =>
    unfold look
    by_cases e : a.1 = k
    · rw [List.find?_cons_of_pos (by simpa using e)]
      exact valV_pos (by show (Sum.inr a.1 : Key) = Sum.inr k; rw [e])
    · rw [List.find?_cons_of_neg (by simpa using e)]
      have ne : ¬ (Sum.inr a.1 : Key) = Sum.inr k := fun q => e (Sum.inr.inj q)
      refine (valV_neg ne).trans (ih ?_)
      rcases List.mem_cons.mp (by rw [List.map_cons] at h; exact h) with q | q
      · exact absurd q.symm e
      · exact q
theorem noP {t : PTab} {k : Str} (h : k ∉ t.map (·.1)) : valV (kvsP t) (Sum.inr k) = none := by
  induction t with
  | nil => rfl
  | cons a t ih =>
    rw [List.map_cons, List.mem_cons, not_or] at h
    have ne : ¬ (Sum.inr a.1 : Key) = Sum.inr k := fun q => h.1 (Sum.inr.inj q).symm
    exact (valV_neg ne).trans (ih h.2)
theorem key_inj {a b : Str × Str} (h : keyOf a = keyOf b) : a = b := by
  obtain ⟨a1, a2⟩ := a
  obtain ⟨b1, b2⟩ := b
  injection h with h1 h2
  injection h2 with h2 _
  have e1 : a1 = b1 := Sum.inr.inj h1
  have e2 : a2 = b2 := Sum.inr.inj h2
  rw [e1, e2]
theorem valS {t : STab} {k : Str × Str} (h : k ∈ t.map (·.1)) : valV (kvsS t) (keyOf k) = some (V.int (look t k)) := by
  induction t with
  | nil => exact nomatch h
  | cons a t ih =>
    unfold look
    by_cases e : a.1 = k
    · rw [List.find?_cons_of_pos (by simpa using e)]
      exact valV_pos (by show keyOf a.1 = keyOf k; rw [e])
    · rw [List.find?_cons_of_neg (by simpa using e)]
      have ne : ¬ keyOf a.1 = keyOf k := fun q => e (key_inj q)
      refine (valV_neg ne).trans (ih ?_)
      rcases List.mem_cons.mp (by rw [List.map_cons] at h; exact h) with q | q
      · exact absurd q.symm e
      · exact q
theorem noS {t : STab} {k : Str × Str} (h : k ∉ t.map (·.1)) : valV (kvsS t) (keyOf k) = none := by
  induction t with
  | nil => rfl
  | cons a t ih =>
    rw [List.map_cons, List.mem_cons, not_or] at h
    have ne : ¬ keyOf a.1 = keyOf k := fun q => h.1 (key_inj q).symm
    exact (valV_neg ne).trans (ih h.2)
theorem putP_new {t : PTab} {k : Str} {n : Int} (h : k ∉ t.map (·.1)) : L2.putK (kvsP t) (Sum.inr k) (V.int n) = kvsP (t ++ [(k, n)]) := by
  rw [putK_new _ (noP h)]
  simp [kvsP]
theorem putS_new {t : STab} {k : Str × Str} {n : Int} (h : k ∉ t.map (·.1)) : L2.putK (kvsS t) (keyOf k) (V.int n) = kvsS (t ++ [(k, n)]) := by
  rw [putK_new _ (noS h)]
  simp [kvsS]
theorem take_put {α : Type} [DecidableEq α] (t : List (α × Int)) {ys : List α} {i : Nat} (h : i < ys.length) : put t (ys.take (i + 1)) = put t (ys.take i) ++ [(ys[i], look t ys[i])] := by
  unfold put
  rw [List.take_add_one, List.getElem?_eq_getElem h, List.map_append]
  rfl
theorem not_before {α : Type} {ys : List α} (nd : ys.Nodup) {i : Nat} (h : i < ys.length) : ys[i] ∉ ys.take i := fun m => by
  obtain ⟨j, hj, e⟩ := List.getElem_of_mem m
  rw [List.length_take] at hj
  rw [List.getElem_take] at e
  have := (List.getElem_inj nd).mp e
  omega
theorem le2_total (a b : Str × Str) : (le2 a b || le2 b a) = true := by
  unfold le2
  simp only [Bool.or_eq_true, Bool.and_eq_true, decide_eq_true_eq]
  by_cases e : a.1 = b.1
  · rcases List.le_total a.2.cps.toList b.2.cps.toList with h | h
    · exact .inl (.inr ⟨e, h⟩)
    · exact .inr (.inr ⟨e.symm, h⟩)
  · rcases Classical.em (a.1.cps.toList < b.1.cps.toList) with h | h
    · exact .inl (.inl h)
    · rcases Classical.em (b.1.cps.toList < a.1.cps.toList) with k | k
      · exact .inr (.inl k)
      · exact absurd (cs_inj (List.le_antisymm (List.not_lt.mp k) (List.not_lt.mp h))) e
theorem le2_trans (a b c : Str × Str) (h1 : le2 a b = true) (h2 : le2 b c = true) : le2 a c = true := by
  unfold le2 at *
  simp only [Bool.or_eq_true, Bool.and_eq_true, decide_eq_true_eq] at *
  rcases h1 with h1 | ⟨e1, h1⟩
  · rcases h2 with h2 | ⟨e2, h2⟩
    · exact .inl (List.lt_trans h1 h2)
    · rw [← e2]
      exact .inl h1
  · rcases h2 with h2 | ⟨e2, h2⟩
    · rw [e1]
      exact .inl h2
    · exact .inr ⟨e1.trans e2, List.le_trans h1 h2⟩
theorem le2_anti (a b : Str × Str) (h1 : le2 a b = true) (h2 : le2 b a = true) : a = b := by
  unfold le2 at *
  simp only [Bool.or_eq_true, Bool.and_eq_true, decide_eq_true_eq] at *
  obtain ⟨a1, a2⟩ := a
  obtain ⟨b1, b2⟩ := b
  have stop : ∀ {x y : Str}, x.cps.toList < y.cps.toList → y.cps.toList < x.cps.toList → False := fun h k => List.lt_asymm h k
  rcases h1 with h1 | ⟨e1, h1⟩
  · rcases h2 with h2 | ⟨e2, h2⟩
    · exact (stop h1 h2).elim
    · have e2 : b1 = a1 := e2
      have h1 : a1.cps.toList < b1.cps.toList := h1
      rw [e2] at h1
      exact (List.lt_irrefl _ h1).elim
  · have e1 : a1 = b1 := e1
    subst e1
    rcases h2 with h2 | ⟨_, h2⟩
    · exact (List.lt_irrefl _ h2).elim
    · have : a2 = b2 := cs_inj (List.le_antisymm h1 h2)
      rw [this]
def spAsc : Sp := fun vs H Q _ => ∃ d : Addr, vs = [.ref d] ∧
  ((∃ t : PTab, H d = some (.dK (kvsP t)) ∧ (t.map (·.1)).Nodup ∧ t.length ≤ 60 ∧ ∀ H' D (t' : PTab), Same H H' → H D = none → H' D = some (.dK (kvsP t')) → t'.Perm t → (t'.map (·.1)).Pairwise (fun a b => byCs a b = true) → Q (.ref D) H') ∨
   ∃ t : STab, H d = some (.dT (kvsS t)) ∧ (t.map (·.1)).Nodup ∧ t.length ≤ 60 ∧ ∀ H' D (t' : STab), Same H H' → H D = none → H' D = some (.dT (kvsS t')) → t'.Perm t → (t'.map (·.1)).Pairwise (fun a b => le2 a b = true) → Q (.ref D) H')
section
variable {P : Program} {w : World} {K : PySem.W.Frag} {mg : Str → Option Value} {base : Heap}
theorem scAsc : FnScope ["table", "key"] ["table"] (defScope sAsc) := ⟨rfl, rfl, rfl, by decide +kernel, rfl, by decide +kernel, by decide +kernel⟩
theorem ok_asc {f : Addr} {fd : FuncData} (F : Fun K "ascending_dict" "ascending_dict" sAsc f fd) (O : On mg) : FnOk P w K mg base CX0 1 f fd ["table"] spAsc := by
  refine F.ok scAsc (fun vs H Q E h => ?_) (fun cdv A outer s H vs Q E hr h => ?_)
  · obtain ⟨d, rfl, _⟩ := h
    rfl
  · have hu := hu_of hr
    have h3 : A.units + 3 + 60 < cLine := by
      have h2 : A.units + 3 + 16 * 0 + 200 < cLine := hr.un
      omega
    obtain ⟨d, rfl, ⟨t, hd, nd, hl, q⟩ | ⟨t, hd, nd, hl, q⟩⟩ := h
    · refine ⟨_, pss_one (ps_ret (pe_dcG putP_ok (own := [("key", 1)]) (g := gName 1) (tt := tYes) rfl scAsc.nd (by show A.units + 3 + 20 < cLine; omega) (pi_list (pe_callB (call_sortedD rfl) (by rfl) O.sorted (by decide +kernel) (pa_cons (pv 0) pa_nil))) (blkOk_by (N := ["table", "key"]) (sc := defScope sAsc) (by decide +kernel))
        (fun _ _ _ _ _ => pg_name (i := 1) scAsc.nd rfl (Or.inl rfl)) (fun _ _ _ _ _ => pts_nil) (fun _ _ _ _ _ => pv 1) (fun _ _ _ _ _ => pe_dget hu (pv 0) (pv 1) (fun _ _ => rfl)))), ?_⟩
      refine ⟨_, rfl, d, kvsP t, t.map (·.1), rfl, .inl hd, kvsP_keys t, by rw [List.length_map]; omega, fun ys p perm so hp => ?_⟩
      have ndy : ys.Nodup := perm.nodup_iff.mpr nd
      have ly : ys.length ≤ 60 := by rw [perm.length_eq, List.length_map]; exact hl
      refine ⟨p, rfl, ⟨_, SqL.of upd_same⟩, fun D hD => ?_⟩
      have ne : D ≠ p := fun e => by rw [e, upd_same] at hD; cases hD
      have hD0 : H D = none := by rwa [upd_ne ne] at hD
      refine wk_any (walk_list (K := K) (a := p) (xs := ys.map V.str)) (fun i H1 => Same H H1 ∧ H1 p = some (.lst (ys.map V.str)) ∧ H1 D = some (.dK (kvsP (put t (ys.take i))))) ?_ (fun i H1 _ h1 => SqL.of h1.2.1) ?_ ?_
      · refine ⟨Same.trans (Same.new hp) (Same.new hD), ?_, upd_same⟩
        rw [upd_ne ne.symm]
        exact upd_same
      · rintro i x H1 H2 hi ⟨hS, hP, hDc⟩ ⟨rfl, hx⟩
        rw [List.length_map] at hi
        have ex : x = V.str ys[i] := by
          rw [List.getElem?_map, List.getElem?_eq_getElem hi] at hx
          exact (Option.some.inj hx).symm
        subst ex
        have mk : ys[i] ∈ t.map (·.1) := perm.mem_iff.mp (List.getElem_mem hi)
        have nin : ys[i] ∉ (put t (ys.take i)).map (·.1) := by
          rw [put_keys]
          exact not_before ndy hi
        refine ⟨rfl, _, rfl, _, rfl, _, rfl, d, V.int (look t ys[i]), rfl, .inl ⟨kvsP t, Sum.inr ys[i], .inl (hS _ _ hd), rfl, (valP mk).symm⟩, _, Sum.inr ys[i], rfl, hDc, ?_, ?_⟩
        · rw [kvsP_len]
          unfold put
          rw [List.length_map, List.length_take]
          exact Nat.lt_of_lt_of_le (by omega : min i ys.length < 4000) (by decide)
        · refine ⟨Same.upN hS hD0, ?_, ?_⟩
          · rw [upd_ne ne.symm]
            exact hP
          · rw [upd_same, putP_new nin, take_put t hi]
      · rintro H1 ⟨hS, hP, hDc⟩
        rw [List.length_map, List.take_length] at hDc
        exact q _ _ _ hS hD0 hDc (put_perm nd perm) (by rw [put_keys]; exact sorted_up so)
    · refine ⟨_, pss_one (ps_ret (pe_dcG putT_ok (own := [("key", 1)]) (g := gName 1) (tt := tYes) rfl scAsc.nd (by show A.units + 3 + 20 < cLine; omega) (pi_list (pe_callB (cr_sortT2 rfl h3) (by rfl) O.sorted (by decide +kernel) (pa_cons (pv 0) pa_nil))) (blkOk_by (N := ["table", "key"]) (sc := defScope sAsc) (by decide +kernel))
        (fun _ _ _ _ _ => pg_name (i := 1) scAsc.nd rfl (Or.inl rfl)) (fun _ _ _ _ _ => pts_nil) (fun _ _ _ _ _ => pv 1) (fun _ _ _ _ _ => pe_dget hu (pv 0) (pv 1) (fun _ _ => rfl)))), ?_⟩
      have hks : (kvsS t).map (·.1) = (t.map (·.1)).map keyOf := by
        unfold kvsS
        rw [List.map_map, List.map_map]
        rfl
      refine ⟨_, rfl, d, kvsS t, t.map (·.1), rfl, .inl hd, hks, by rw [List.length_map]; omega, fun p qs hp hq => ?_⟩
      have perm := List.mergeSort_perm (t.map (·.1)) le2
      have srt : ((t.map (·.1)).mergeSort le2).Pairwise (fun a b => le2 a b = true) := List.pairwise_mergeSort le2_trans le2_total _
      generalize (t.map (·.1)).mergeSort le2 = ys at hq perm srt
      have ndy : ys.Nodup := perm.nodup_iff.mpr nd
      have ly : ys.length ≤ 60 := by rw [perm.length_eq, List.length_map]; exact hl
      have lq : qs.length = ys.length := Paired.length hq
      refine ⟨p, rfl, ⟨_, SqL.of upd_same⟩, fun D hD => ?_⟩
      have ne : D ≠ p := fun e => by rw [e, upd_same] at hD; cases hD
      have hD0 : H D = none := by rwa [upd_ne ne] at hD
      refine wk_any (walk_list (K := K) (a := p) (xs := qs.map V.ref)) (fun i H1 => Same H H1 ∧ H1 p = some (.lst (qs.map V.ref)) ∧ H1 D = some (.dT (kvsS (put t (ys.take i))))) ?_ (fun i H1 _ h1 => SqL.of h1.2.1) ?_ ?_
      · refine ⟨Same.trans (Same.new hp) (Same.new hD), ?_, upd_same⟩
        rw [upd_ne ne.symm]
        exact upd_same
      · rintro i x H1 H2 hi ⟨hS, hP, hDc⟩ ⟨rfl, hx⟩
        rw [List.length_map] at hi
        have hi2 : i < ys.length := by omega
        have ex : x = V.ref qs[i] := by
          rw [List.getElem?_map, List.getElem?_eq_getElem hi] at hx
          exact (Option.some.inj hx).symm
        subst ex
        obtain ⟨k, hk, eq⟩ := paired_get hq (List.getElem?_eq_getElem hi)
        have ek : k = ys[i] := Option.some.inj (hk.symm.trans (List.getElem?_eq_getElem hi2))
        subst ek
        have mk : ys[i] ∈ t.map (·.1) := perm.mem_iff.mp (List.getElem_mem hi2)
        have nin : ys[i] ∉ (put t (ys.take i)).map (·.1) := by
          rw [put_keys]
          exact not_before ndy hi2
        have eq1 := hS _ _ eq
        refine ⟨rfl, _, rfl, _, rfl, _, rfl, d, V.int (look t ys[i]), rfl, .inr ⟨kvsS t, keyOf ys[i], qs[i], .inl (hS _ _ hd), rfl, eq1, (valS mk).symm⟩, _, keyOf ys[i], qs[i], rfl, eq1, hDc, ?_, ?_⟩
        · rw [kvsS_len]
          unfold put
          rw [List.length_map, List.length_take]
          exact Nat.lt_of_lt_of_le (by omega : min i ys.length < 4000) (by decide)
        · refine ⟨Same.upN hS hD0, ?_, ?_⟩
          · rw [upd_ne ne.symm]
            exact hP
          · rw [upd_same, putS_new nin, take_put t hi2]
      · rintro H1 ⟨hS, hP, hDc⟩
        rw [List.length_map, lq, List.take_length] at hDc
        exact q _ _ _ hS hD0 hDc (put_perm nd perm) (by rw [put_keys]; exact srt)
end
end Mk

set_option Elab.async false
set_option linter.all false
set_option maxRecDepth 100000
set_option maxHeartbeats 4000000
namespace Mk
open PySem PySem.Spec L2 PyProof.Rows

abbrev sInit : Stmt := inClass (top 22) 0
theorem But.set {x : Addr} {H H1 : Hp} {o : HO} (a : But x H H1) : But x H (upd H1 x o) := fun b u hb e => by
  rw [upd_ne hb]
  exact a b u hb e
theorem But.same {x : Addr} {H H1 H2 : Hp} (a : But x H H1) (b : Same H1 H2) : But x H H2 := fun c o h e => b c o (a c o h e)
theorem putF_len (f : Str) (v : V) : ∀ fs : List (Str × V), (putF f v fs).length ≤ fs.length + 1
  | [] => Nat.le_refl _
  | p :: r => by
    unfold putF
    by_cases h : p.1 = f
    · rw [if_pos h]
      simp
    · rw [if_neg h, List.length_cons, List.length_cons]
      exact Nat.succ_le_succ (putF_len f v r)
theorem short1 (f : Str) (v : V) : (putF f v []).length < 1000 := Nat.lt_of_le_of_lt (putF_len f v []) (by decide)
theorem short2 (f g : Str) (v u : V) : (putF f v (putF g u [])).length < 1000 := by
  have a := putF_len g u []
  have b := putF_len f v (putF g u [])
  simp at a
  omega
theorem short3 (f g k : Str) (v u z : V) : (putF f v (putF g u (putF k z []))).length < 1000 := by
  have a := putF_len k z []
  have b := putF_len g u (putF k z [])
  have c := putF_len f v (putF g u (putF k z []))
  simp at a
  omega
structure Pc (K : PySem.W.Frag) (C : Addr) : Prop where
  cl : Cls K C
  n1 : NoAttr K C "_signs"
  n2 : NoAttr K C "_put"
  n3 : NoAttr K C "_out"
  n4 : NoAttr K C "_swap"
/-- the tables are ascending -/
structure Srt (t1 t2 : PTab) (t3 : STab) : Prop where
  a : (t1.map (·.1)).Pairwise (fun a b => byCs a b = true)
  b : (t2.map (·.1)).Pairwise (fun a b => byCs a b = true)
  c : (t3.map (·.1)).Pairwise (fun a b => le2 a b = true)
abbrev fldP (t a b c : Addr) : List (Str × V) := [("_signs", V.ref t), ("_put", V.ref a), ("_out", V.ref b), ("_swap", V.ref c)]
/-- the prices at x -/
def PrAt (C : Addr) (H : Hp) (x : Addr) (t1 t2 : PTab) (t3 : STab) : Prop := ∃ dx t a b c : Addr, H x = some (.ins C dx (fldP t a b c)) ∧ H t = some (.tup ((t1.map (·.1)).map V.str)) ∧ Tabs H a b c t1 t2 t3
theorem PrAt.same {C : Addr} {H H' : Hp} {x : Addr} {t1 t2 : PTab} {t3 : STab} (h : PrAt C H x t1 t2 t3) (k : Same H H') : PrAt C H' x t1 t2 t3 := by
  obtain ⟨dx, t, a, b, c, h1, h2, h3⟩ := h
  exact ⟨dx, t, a, b, c, k _ _ h1, k _ _ h2, h3.same k⟩
theorem fld_eq (t a b c : Addr) : putF "_swap" (V.ref c) (putF "_out" (V.ref b) (putF "_put" (V.ref a) (putF "_signs" (V.ref t) []))) = fldP t a b c := by
  have n1 : ¬ (("_signs" : Str) = "_put") := by decide +kernel
  have n2 : ¬ (("_signs" : Str) = "_out") := by decide +kernel
  have n3 : ¬ (("_signs" : Str) = "_swap") := by decide +kernel
  have n4 : ¬ (("_put" : Str) = "_out") := by decide +kernel
  have n5 : ¬ (("_put" : Str) = "_swap") := by decide +kernel
  have n6 : ¬ (("_out" : Str) = "_swap") := by decide +kernel
  simp [putF, n1, n2, n3, n4, n5, n6]
def spInit (C : Addr) : Sp := fun vs H Q _ => ∃ (x dx p o s : Addr) (t1 t2 : PTab) (t3 : STab), vs = [.ref x, .ref p, .ref o, .ref s] ∧ H x = some (.ins C dx []) ∧ Tabs H p o s t1 t2 t3 ∧ Agree t1 t2 t3 ∧ (t3.map (·.1)).Nodup ∧ rightB t1 t2 t3 = true ∧
  ∀ H' u1 u2 u3, But x H H' → PrAt C H' x u1 u2 u3 → u1.Perm t1 → u2.Perm t2 → u3.Perm t3 → Srt u1 u2 u3 → Q .non H'
section
variable {P : Program} {w : World} {K : PySem.W.Frag} {mg : Str → Option Value} {base : Heap}
theorem scInit : FnScope ["self", "put", "out", "swap"] ["self", "put", "out", "swap"] (defScope sInit) := ⟨rfl, rfl, rfl, by decide +kernel, rfl, by decide +kernel, by decide +kernel⟩
theorem ok_init {f C : Addr} {fd : FuncData} (F : Fun K "__init__" "Prices.__init__" sInit f fd) (T : Pc K C) (O : On mg) (J : Cd P w K mg base 5 "_are_tables" ["put", "out", "swap"] spAreT) (S : Cd P w K mg base 1 "ascending_dict" ["table"] spAsc) : FnOk P w K mg base CX0 6 f fd ["self", "put", "out", "swap"] (spInit C) := by
  obtain ⟨j, dj, G, gm, gk, gb⟩ := J.ex
  obtain ⟨c, dc, Gc, cm, ck, cb⟩ := S.ex
  refine F.ok scInit (fun vs H Q E h => ?_) (fun cdv A outer s H vs Q E hr h => ?_)
  · obtain ⟨x, dx, p, o, s, t1, t2, t3, rfl, _⟩ := h
    rfl
  · obtain ⟨x, dx, p, o, sw, t1, t2, t3, rfl, hx, hT, ag, nd3, hright, q⟩ := h
    have hr1 : Room 1 _ := hr.mono (by decide)
    refine ⟨_, pss_cons (ps_if (pt_not (pt_val (pe_call G hr (by rfl) gm gk gb .nil pass0 (pa_cons (pv 1) (pa_cons (pv 2) (pa_cons (pv 3) pa_nil)))))) (pss_one ps_never) pss_nil)
      (pss_cons (ps_fld (pv 0) (pe_callTy call_tuple_of (by rfl) O.tuple (by decide +kernel) (pa_cons (pe_callB (call_sortedD rfl) (by rfl) O.sorted (by decide +kernel) (pa_cons (pv 1) pa_nil)) pa_nil)) rfl)
      (pss_cons (ps_fld (pv 0) (pe_call Gc hr1 (by rfl) cm ck cb .nil pass0 (pa_cons (pv 1) pa_nil)) rfl)
      (pss_cons (ps_fld (pv 0) (pe_call Gc hr1 (by rfl) cm ck cb .nil pass0 (pa_cons (pv 2) pa_nil)) rfl)
      (pss_one (ps_fld (pv 0) (pe_call Gc hr1 (by rfl) cm ck cb .nil pass0 (pa_cons (pv 3) pa_nil)) rfl))))), ?_⟩
    refine ⟨_, rfl, _, rfl, _, rfl, p, o, sw, t1, t2, t3, rfl, hT, ag, fun H1 s1 => ⟨_, rfl, ?_⟩⟩
    rw [hright]
    refine iteF ?_
    have px : p ≠ x := ne_of hT.p hx (fun z => nomatch z)
    have ox : o ≠ x := ne_of hT.o hx (fun z => nomatch z)
    have sx : sw ≠ x := ne_of hT.s hx (fun z => nomatch z)
    have nd2 : (t2.map (·.1)).Nodup := ag.pm.nodup_iff.mpr ag.nd
    have hl1 := ag.l1
    have hl2 := ag.l2
    have hl3 := ag.l3
    refine ⟨_, rfl, p, kvsP t1, t1.map (·.1), rfl, .inl (s1 _ _ hT.p), kvsP_keys t1, by rw [List.length_map]; omega, fun ys a perm so ha => ?_⟩
    refine ⟨a, _, rfl, .inl ⟨SqL.of upd_same, fun t ht => ?_⟩⟩
    have s2 : Same H (upd (upd H1 a (.lst (ys.map V.str))) t (.tup (ys.map V.str))) := Same.trans (Same.trans s1 (Same.new ha)) (Same.new ht)
    refine ⟨_, rfl, x, C, dx, [], rfl, s2 _ _ hx, T.cl, T.n1, (by show 0 < 1000; decide), ?_⟩
    have b2 : But x H (upd (upd (upd H1 a (.lst (ys.map V.str))) t (.tup (ys.map V.str))) x (.ins C dx (putF "_signs" (V.ref t) []))) := (But.of_same s2).set
    have x2 : (upd (upd (upd H1 a (.lst (ys.map V.str))) t (.tup (ys.map V.str))) x (.ins C dx (putF "_signs" (V.ref t) []))) x = some (.ins C dx (putF "_signs" (V.ref t) [])) := upd_same
    have tx : t ≠ x := fun e => by
      rw [e] at ht
      rw [(Same.trans s1 (Same.new ha)) _ _ hx] at ht
      cases ht
    have y2 : (upd (upd (upd H1 a (.lst (ys.map V.str))) t (.tup (ys.map V.str))) x (.ins C dx (putF "_signs" (V.ref t) []))) t = some (.tup (ys.map V.str)) := by
      rw [upd_ne tx]
      exact upd_same
    generalize (upd (upd (upd H1 a (.lst (ys.map V.str))) t (.tup (ys.map V.str))) x (.ins C dx (putF "_signs" (V.ref t) []))) = H2 at b2 x2 y2 ⊢
    clear s2 s1 ha ht
    refine ⟨_, rfl, p, rfl, .inl ⟨t1, b2 _ _ px hT.p, ag.nd, by omega, fun H3 D3 u1 s3 f3 e3 p3 r3 => ?_⟩⟩
    have nx3 : D3 ≠ x := fun e => by rw [e, x2] at f3; cases f3
    refine ⟨_, rfl, x, C, dx, _, rfl, s3 _ _ x2, T.cl, T.n2, short1 _ _, ?_⟩
    have b3 : But x H (upd H3 x (.ins C dx (putF "_put" (V.ref D3) (putF "_signs" (V.ref t) [])))) := (b2.same s3).set
    have x3 : (upd H3 x (.ins C dx (putF "_put" (V.ref D3) (putF "_signs" (V.ref t) [])))) x = some (.ins C dx (putF "_put" (V.ref D3) (putF "_signs" (V.ref t) []))) := upd_same
    have y3 : (upd H3 x (.ins C dx (putF "_put" (V.ref D3) (putF "_signs" (V.ref t) [])))) t = some (.tup (ys.map V.str)) := by
      rw [upd_ne tx]
      exact s3 _ _ y2
    have z3 : (upd H3 x (.ins C dx (putF "_put" (V.ref D3) (putF "_signs" (V.ref t) [])))) D3 = some (.dK (kvsP u1)) := by
      rw [upd_ne nx3]
      exact e3
    generalize (upd H3 x (.ins C dx (putF "_put" (V.ref D3) (putF "_signs" (V.ref t) [])))) = H4 at b3 x3 y3 z3 ⊢
    clear s3 e3 f3 x2 y2 b2
    refine ⟨_, rfl, o, rfl, .inl ⟨t2, b3 _ _ ox hT.o, nd2, by omega, fun H5 D5 u2 s5 f5 e5 p5 r5 => ?_⟩⟩
    have nx5 : D5 ≠ x := fun e => by rw [e, x3] at f5; cases f5
    refine ⟨_, rfl, x, C, dx, _, rfl, s5 _ _ x3, T.cl, T.n3, short2 _ _ _ _, ?_⟩
    have b5 : But x H (upd H5 x (.ins C dx (putF "_out" (V.ref D5) (putF "_put" (V.ref D3) (putF "_signs" (V.ref t) []))))) := (b3.same s5).set
    have x5 : (upd H5 x (.ins C dx (putF "_out" (V.ref D5) (putF "_put" (V.ref D3) (putF "_signs" (V.ref t) []))))) x = some (.ins C dx (putF "_out" (V.ref D5) (putF "_put" (V.ref D3) (putF "_signs" (V.ref t) [])))) := upd_same
    have keep5 : ∀ {b : Addr} {u : HO}, b ≠ x → H4 b = some u → (upd H5 x (.ins C dx (putF "_out" (V.ref D5) (putF "_put" (V.ref D3) (putF "_signs" (V.ref t) []))))) b = some u := fun hb e => by
      rw [upd_ne hb]
      exact s5 _ _ e
    have y5 := keep5 tx y3
    have z5 := keep5 nx3 z3
    have v5 : (upd H5 x (.ins C dx (putF "_out" (V.ref D5) (putF "_put" (V.ref D3) (putF "_signs" (V.ref t) []))))) D5 = some (.dK (kvsP u2)) := by
      rw [upd_ne nx5]
      exact e5
    generalize (upd H5 x (.ins C dx (putF "_out" (V.ref D5) (putF "_put" (V.ref D3) (putF "_signs" (V.ref t) []))))) = H6 at b5 x5 y5 z5 v5 ⊢
    clear keep5 s5 e5 f5 x3 y3 z3 b3
    refine ⟨_, rfl, sw, rfl, .inr ⟨t3, b5 _ _ sx hT.s, nd3, by omega, fun H7 D7 u3 s7 f7 e7 p7 r7 => ?_⟩⟩
    have nx7 : D7 ≠ x := fun e => by rw [e, x5] at f7; cases f7
    refine ⟨_, rfl, x, C, dx, _, rfl, s7 _ _ x5, T.cl, T.n4, short3 _ _ _ _ _ _, ?_⟩
    have eys : ys = u1.map (·.1) := List.Perm.eq_of_pairwise (fun a b _ _ k1 k2 => byCs_anti a b k1 k2) (sorted_up so) r3 (perm.trans (p3.map (·.1)).symm)
    have keep7 : ∀ {b : Addr} {u : HO}, b ≠ x → H6 b = some u → (upd H7 x (.ins C dx (putF "_swap" (V.ref D7) (putF "_out" (V.ref D5) (putF "_put" (V.ref D3) (putF "_signs" (V.ref t) [])))))) b = some u := fun hb e => by
      rw [upd_ne hb]
      exact s7 _ _ e
    refine q _ u1 u2 u3 (b5.same s7).set ⟨dx, t, D3, D5, D7, ?_, ?_, ⟨keep7 nx3 z5, keep7 nx5 v5, ?_⟩⟩ p3 p5 p7 ⟨r3, r5, r7⟩
    · rw [upd_same, fld_eq]
    · rw [← eys]
      exact keep7 tx y5
    · rw [upd_ne nx7]
      exact e7
end
end Mk

set_option Elab.async false
set_option linter.all false
set_option maxRecDepth 100000
set_option maxHeartbeats 4000000
namespace Mk
open PySem PySem.Spec L2 PyProof.Rows

abbrev sPairs : Stmt := top 30
def prs (zs : List Str) (x : Str) : List (Str × Str) := (zs.filter fun y => decide (x ≠ y)).map fun y => (x, y)
def pairsOf (zs : List Str) : List (Str × Str) := zs.flatMap (prs zs)
theorem Pairs.keep {H H' : Hp} (k : ∀ q xs, H q = some (.tup xs) → H' q = some (.tup xs)) : ∀ {qs : List Addr} {ks : List (Str × Str)}, Pairs H qs ks → Pairs H' qs ks
  | _, _, .nil => .nil
  | _, _, .cons h t => .cons (k _ _ h) (Pairs.keep k t)
theorem Pairs.snoc {H : Hp} {q : Addr} {k : Str × Str} (hq : H q = some (.tup [.str k.1, .str k.2])) : ∀ {qs : List Addr} {ks : List (Str × Str)}, Pairs H qs ks → Pairs H (qs ++ [q]) (ks ++ [k])
  | _, _, .nil => .cons hq .nil
  | _, _, .cons h t => .cons h (Pairs.snoc hq t)
theorem prs_len (zs : List Str) (x : Str) : (prs zs x).length ≤ zs.length := by
  unfold prs
  rw [List.length_map]
  exact List.length_filter_le _ _
theorem flat_len {α β : Type} (f : α → List β) (n : Nat) (h : ∀ a, (f a).length ≤ n) : ∀ l : List α, (l.flatMap f).length ≤ l.length * n
  | [] => by simp
  | a :: l => by
    rw [List.flatMap_cons, List.length_append, List.length_cons, Nat.succ_mul]
    have := flat_len f n h l
    have := h a
    omega
def spPairs : Sp := fun vs H Q _ => ∃ (t : Addr) (zs : List Str), vs = [.ref t] ∧ H t = some (.tup (zs.map V.str)) ∧ zs.length ≤ 5 ∧
  ∀ H' p qs, Same H H' → H p = none → H' p = some (.lst (qs.map V.ref)) → Pairs H' qs (pairsOf zs) → Q (.ref p) H'
/-- the list that grows at D -/
structure Grow (H H1 : Hp) (D : Addr) (ks : List (Str × Str)) : Prop where
  same : Same H H1
  out : ∃ qs : List Addr, H1 D = some (.lst (qs.map V.ref)) ∧ Pairs H1 qs ks
section
variable {P : Program} {w : World} {K : PySem.W.Frag} {mg : Str → Option Value} {base : Heap}
theorem scPairs : FnScope ["signs", "one", "other"] ["signs"] (defScope sPairs) := ⟨rfl, rfl, rfl, by decide +kernel, rfl, by decide +kernel, by decide +kernel⟩
theorem ok_pairs {f : Addr} {fd : FuncData} (F : Fun K "_pairs" "_pairs" sPairs f fd) : FnOk P w K mg base CX0 1 f fd ["signs"] spPairs := by
  refine F.ok scPairs (fun vs H Q E h => ?_) (fun cdv A outer s H vs Q E hr h => ?_)
  · obtain ⟨t, zs, rfl, _⟩ := h
    rfl
  · obtain ⟨t, zs, rfl, ht, hl, q⟩ := h
    refine ⟨_, pss_one (ps_ret (pe_lc2 (own := [("one", 1), ("other", 2)]) (vs1 := [2]) (g := gName 1) (g1 := gName 2) (tt := tYes) (wi1 := iTup K (tVar 0)) rfl scPairs.nd (pi_tup (pv 0)) (blkOk_by (N := ["signs", "one", "other"]) (sc := defScope sPairs) (by decide +kernel)) (by decide)
      (fun _ _ _ _ _ => pg_name (i := 1) scPairs.nd rfl (Or.inl rfl)) (fun _ _ _ _ _ => pts_nil) (fun _ _ _ _ _ => pi_tup (pv 0)) (fun _ _ _ _ _ => pg_name (i := 2) scPairs.nd rfl (Or.inl rfl))
      (fun _ _ _ _ _ => pts_one (pt_cmpR op_ne (pv 1) (pv 2) (nomark _))) (fun _ _ _ _ _ => pe_tup (pa_cons (pv 1) (pa_cons (pv 2) pa_nil))))), ?_⟩
    refine ⟨_, rfl, t, rfl, ⟨_, SqT.of ht⟩, fun D hD => wk_any (walk_tup (K := K) (a := t) (xs := zs.map V.str)) (fun i H1 => Grow H H1 D ((zs.take i).flatMap (prs zs))) ⟨Same.new hD, [], upd_same, .nil⟩ (fun i H1 _ h1 => SqT.of (h1.same _ _ ht)) ?_ ?_⟩
    · rintro i x H1 H2 hi G1 ⟨rfl, hx⟩
      rw [List.length_map] at hi
      have ex : x = V.str zs[i] := by
        rw [List.getElem?_map, List.getElem?_eq_getElem hi] at hx
        exact (Option.some.inj hx).symm
      subst ex
      refine ⟨rfl, _, rfl, t, rfl, ⟨_, SqT.of (G1.same _ _ ht)⟩, wk_any (walk_tup (K := K) (a := t) (xs := zs.map V.str)) (fun j H3 => Grow H H3 D ((zs.take i).flatMap (prs zs) ++ prs (zs.take j) zs[i])) ?_ (fun j H3 _ h3 => SqT.of (h3.same _ _ ht)) ?_ ?_⟩
      · show Grow H H2 D ((zs.take i).flatMap (prs zs) ++ prs (zs.take 0) zs[i])
        have : prs (zs.take 0) zs[i] = [] := by simp [prs]
        rw [this, List.append_nil]
        exact G1
      · rintro j y H3 H4 hj G3 ⟨rfl, hy⟩
        rw [List.length_map] at hj
        have ey : y = V.str zs[j] := by
          rw [List.getElem?_map, List.getElem?_eq_getElem hj] at hy
          exact (Option.some.inj hy).symm
        subst ey
        have nextK : prs (zs.take (j + 1)) zs[i] = prs (zs.take j) zs[i] ++ (if zs[i] ≠ zs[j] then [(zs[i], zs[j])] else []) := by
          unfold prs
          rw [List.take_add_one, List.getElem?_eq_getElem hj, List.filter_append, List.map_append]
          congr 1
          by_cases c : zs[i] = zs[j] <;> simp [c]
        refine ⟨rfl, _, rfl, _, rfl, rfl, _, rfl, ?_⟩
        by_cases c : zs[i] = zs[j]
        · rw [decide_eq_true (by rw [c] : V.str zs[i] = V.str zs[j])]
          refine iteF ?_
          rw [nextK, if_neg (fun h => h c), List.append_nil]
          exact G3
        · rw [decide_eq_false (fun h => c (by injection h) : ¬ V.str zs[i] = V.str zs[j])]
          obtain ⟨qs, hL, hP⟩ := G3.out
          have hk : qs.length ≤ 60 := by
            have e : qs.length = _ := Paired.length hP
            rw [e, List.length_append]
            have a1 := flat_len (prs zs) 5 (fun a => Nat.le_trans (prs_len zs a) hl) (zs.take i)
            have a2 := prs_len (zs.take j) zs[i]
            rw [List.length_take] at a1 a2
            have : min i zs.length * 5 ≤ 5 * 5 := Nat.mul_le_mul_right 5 (by omega)
            omega
          refine iteT ⟨_, rfl, _, rfl, (by show 2 ≤ sizeLine; decide), fun n hn => ⟨qs.map V.ref, (Same.new hn) _ _ hL, ?_, ?_⟩⟩
          · rw [List.length_map]
            exact Nat.lt_of_le_of_lt hk (by decide)
          · have neD : D ≠ n := ne_of_none hL hn
            have D0 : ∀ b o, H b = some o → b ≠ D := fun b o e z => by
              rw [z] at e
              rw [hD] at e
              cases e
            refine ⟨fun b o e => ?_, qs ++ [n], ?_, ?_⟩
            · rw [upd_ne (D0 b o e), upd_ne (ne_of_none (G3.same _ _ e) hn)]
              exact G3.same _ _ e
            · rw [upd_same, List.map_append]
              rfl
            · rw [nextK, if_pos c, ← List.append_assoc]
              refine Pairs.snoc (k := (zs[i], zs[j])) ?_ (Pairs.keep (fun q xs e => ?_) hP)
              · rw [upd_ne neD.symm]
                exact upd_same
              · rw [upd_ne (fun z => by rw [z, hL] at e; cases e), upd_ne (ne_of_none e hn)]
                exact e
      · intro H3 G3
        rw [List.length_map, List.take_length] at G3
        rw [List.take_add_one, List.getElem?_eq_getElem hi, List.flatMap_append]
        simpa using G3
    · intro H1 G1
      rw [List.length_map, List.take_length] at G1
      obtain ⟨qs, hL, hP⟩ := G1.out
      exact q _ _ _ G1.same hD hL hP
end
end Mk

set_option Elab.async false
set_option linter.all false
set_option maxRecDepth 100000
set_option maxHeartbeats 4000000
namespace Mk
open PySem PySem.Spec L2 PyProof.Rows

abbrev sEven : Stmt := inClass (top 22) 1
section
variable {X : Cx} {CX : CXT} {i k : Nat} {f C : Addr} {fd : FuncData} {ps ks : List Str} {sp : Sp} {E : XK} {x : Str} {p pos : Pos} {kws : List Keyword} {tk : TA} {g : List Value → List Value → List Value} {gV : List V → List V → List V}
/-- c(k = v, ..), the class in a local name -/
def tMakeL (i : Nat) (C : Addr) (m : Nat) (sp : Sp) (gV : List V → List V → List V) (E : XK) (tk : TA) : TE := fun σ H Q => σ[i]? = some (some (.ref C)) ∧ tMakeK C 0 m sp gV E tNil tk σ H Q
theorem pe_makeL (M : L2.Mk X.K C f) (F : FnOk X.prog X.w X.K X.mg X.base CX k f fd ps sp) (hr : Room (k + 1) X.A) (hN : X.N[i]? = some x) (hv : Vis X.env.scope x) (hb : KBn X.K fd ps 1 ks g gV) (hx : Passes CX X E) (hkw : PK X kws tk)
    (hall : (backToKw pos (keywordEach kws X.env)).all (·.1.isSome) = true := by rfl) (hks : (backToKw pos (keywordEach kws X.env)).filterMap (·.1) = ks := by rfl) (hdb : (x == ("__debug__" : Str)) = false := by decide) (hcd : (x == ("__classdict__" : Str)) = false := by decide)
    (hpl : ((backTo pos (starEach [] X.env)).any (·.1) || (backToKw pos (keywordEach kws X.env)).any (·.1.isNone)) = false := by rfl) :
    PE X (.Call (.Name x p) [] kws pos) (tMakeL i C ks.length sp gV E tk) := by
  refine ⟨fun pins s σ H Q I h => ?_⟩
  obtain ⟨hs, h⟩ := h
  refine wpAny_Call_Name_kw (thn ((pe_var (pos := p) hN hv hdb hcd).run pins s σ H (fun v H1 => v = .ref C ∧ H1 = H) I ⟨.ref C, hs, rfl, rfl⟩) fun u s1 ⟨v, H1, I1, r1, q1⟩ => ?_)
  obtain ⟨rfl, rfl⟩ := q1
  obtain rfl : u = Value.ref C := r1
  refine PySem.W.callWith_KW0 (h₀ := X.base) I1.ok.mod.kin M.kp hall ?_ hpl
  refine thn (hkw.run pos pins s1 σ _ _ I1 h) fun ws s2 ⟨zs, H2, I2, rz, l1, l2, q2⟩ => ⟨I2.kIn, ?_⟩
  rw [hks]
  exact run_makeK (us := []) (vs := []) M F hr hb hx I2 .nil rz rfl l2 q2
end

section
variable {X : Cx}
/-- name = {..} of a dict comprehension, the name a local -/
theorem ps_setDc {i : Nat} {y : Str} {py : Pos} {kx vx tg iter : Expr} {ifs : List Expr} {scope : Scope} {own : List (Str × Nat)} {pos spos : Pos} {wi : TI} {g : TG} {tt : TT} {tk tv : TE} (cm : X.calm = true) (nd : X.N.Nodup) (hy : X.N[i]? = some y) (lo : X.env.scope.names.lookup y = some .local)
    (sw : swapsWith (.DictComp kx vx [⟨tg, iter, ifs, 0⟩] scope pos) (some (.Name y py)) spos.line X.env = pure true) (hi : PI X tg iter wi) (ok : BlkOk X.N X.env.scope scope own)
    (hg : ∀ (s : Shared) (H : Hp) (C : Addr) (cl : List (Str × Addr)) (fr : List Addr), PG (X.blk s H scope (compEnvC scope cl C X.env) fr) tg g) (ht : ∀ (s : Shared) (H : Hp) (C : Addr) (cl : List (Str × Addr)) (fr : List Addr), PTs (X.blk s H scope (compEnvC scope cl C X.env) fr) ifs tt)
    (hk : ∀ (s : Shared) (H : Hp) (C : Addr) (cl : List (Str × Addr)) (fr : List Addr), PE (X.blk s H scope (compEnvC scope cl C X.env) fr) kx tk) (hv : ∀ (s : Shared) (H : Hp) (C : Addr) (cl : List (Str × Addr)) (fr : List Addr), PE (X.blk s H scope (compEnvC scope cl C X.env) fr) vx tv)
    (fs : ∀ x, foldedSetIterable iter X.env x = pure x := by intro _; rfl) : PS X (.Assign [.Name y py] (.DictComp kx vx [⟨tg, iter, ifs, 0⟩] scope pos) spos) (tAsg (tDc wi g tt tk tv (own.map (·.2))) (gName i)) := by
  refine ⟨fun pins s σ H D I h => ?_⟩
  rw [exec_Assign_Name_used _ _ _ _ sw]
  refine wpAny_bind (wpAny_standAt (wpAny_bind ?_))
  show wpAny _ X.A (do let _ ← comprehension (.DictComp kx vx [⟨tg, iter, ifs, 0⟩] scope pos) scope X.env (firstIterPos [⟨tg, iter, ifs, 0⟩] pos) newDict false (eval iter X.env) (some (assign (.Name y py) X.env))) _ _ s
  have h2 : tDc wi g tt tk tv (own.map (·.2)) σ H (fun x H1 => gName i x σ H1 D.nx) := h
  refine wpAny_bind (thn (dc_core (Qf := fun _ s' => SP X pins D .next s') cm nd I hi ok hg ht hk hv fs h2 fun L C s' m H' J q hn f => ?_) fun _ s' z => wpAny_pure (wpAny_pure z))
  show wpAny _ _ (assign (.Name y py) X.env (.ref L)) _ _ _
  refine wpAny_assign_Name (store_ok2 (v := V.ref L) J nd hy (.inl lo) rfl (fun s2 J2 ⟨a, sb, ha⟩ => ?_) (.inr lo))
  obtain ⟨f0, f1, f2, f3, f4, f5⟩ := f
  have ne : C ≠ a := ha.elim (fun z => z ▸ f1) fun z e => f4 y a z e.symm
  exact ⟨m, hn.sameBut sb ne, fun h3 sb3 => ⟨_, H', J2.turned (t' := s2.toks) (fun b o hb e => (sb3.2 b hb).trans e) f0 f1 f3 f4 f5, q⟩⟩
end
/-! ### even tables -/
def evP (zs : List Str) (i : Int) : PTab := zs.map fun z => (z, i)
def evS (zs : List Str) (i : Int) : STab := (pairsOf zs).map fun k => (k, i)
theorem evP_keys (zs : List Str) (i : Int) : (evP zs i).map (·.1) = zs := by
  unfold evP
  rw [List.map_map]
  exact List.map_id zs
theorem evS_keys (zs : List Str) (i : Int) : (evS zs i).map (·.1) = pairsOf zs := by
  unfold evS
  rw [List.map_map]
  exact List.map_id _
theorem mem_prs {zs : List Str} {x : Str} {k : Str × Str} : k ∈ prs zs x ↔ k.1 = x ∧ k.2 ∈ zs ∧ x ≠ k.2 := by
  unfold prs
  rw [List.mem_map]
  constructor
  · rintro ⟨y, hy, rfl⟩
    rw [List.mem_filter, decide_eq_true_iff] at hy
    exact ⟨rfl, hy.1, hy.2⟩
  · rintro ⟨h1, h2, h3⟩
    refine ⟨k.2, ?_, by rw [← h1]⟩
    rw [List.mem_filter, decide_eq_true_iff]
    exact ⟨h2, h3⟩
theorem mem_pairs {zs : List Str} {k : Str × Str} : k ∈ pairsOf zs ↔ k.1 ∈ zs ∧ k.2 ∈ zs ∧ k.1 ≠ k.2 := by
  unfold pairsOf
  rw [List.mem_flatMap]
  constructor
  · rintro ⟨x, hx, hk⟩
    obtain ⟨h1, h2, h3⟩ := mem_prs.mp hk
    rw [h1]
    exact ⟨hx, h2, h3⟩
  · rintro ⟨h1, h2, h3⟩
    exact ⟨k.1, h1, mem_prs.mpr ⟨rfl, h2, h3⟩⟩
theorem nodup_pairs {zs : List Str} (nd : zs.Nodup) : (pairsOf zs).Nodup := by
  unfold pairsOf List.Nodup
  rw [List.pairwise_flatMap]
  refine ⟨fun x _ => ?_, List.Pairwise.imp (fun {x y} ne => ?_) nd⟩
  · unfold prs
    rw [List.pairwise_map]
    exact (nd.sublist List.filter_sublist).imp fun {a b} h e => h (by injection e)
  · intro p hp q hq e
    have h1 := (mem_prs.mp hp).1
    have h2 := (mem_prs.mp hq).1
    exact ne (by rw [← h1, ← h2, e])
theorem len_pairs {zs : List Str} (hl : zs.length ≤ 5) : (pairsOf zs).length ≤ 20 := by
  have one : ∀ x ∈ zs, (prs zs x).length ≤ 4 := fun x hx => by
    unfold prs
    rw [List.length_map]
    have : (zs.filter fun y => decide (x ≠ y)).length < zs.length := List.length_filter_lt_length_iff_exists.mpr ⟨x, hx, by simp⟩
    omega
  have all : ∀ l : List Str, (∀ x ∈ l, (prs zs x).length ≤ 4) → (l.flatMap (prs zs)).length ≤ l.length * 4 := by
    intro l
    induction l with
    | nil => intro _; simp
    | cons a l ih =>
      intro h
      rw [List.flatMap_cons, List.length_append, List.length_cons]
      have a1 := h a List.mem_cons_self
      have a2 := ih fun x hx => h x (List.mem_cons_of_mem _ hx)
      omega
  have := all zs one
  unfold pairsOf
  omega
theorem ev_agree {zs : List Str} {i : Int} (a : AscSg zs) (hl : zs.length ≤ 5) : Agree (evP zs i) (evP zs i) (evS zs i) where
  sg := fun p hp => by
    obtain ⟨z, hz, rfl⟩ := List.mem_map.mp hp
    exact a.2.1 z hz
  nd := by
    rw [evP_keys]
    exact nodup_lt a.2.2
  l1 := by
    unfold evP
    rw [List.length_map]
    exact hl
  pm := .refl _
  l3 := by
    unfold evS
    rw [List.length_map]
    exact len_pairs hl
  pr := fun p hp => by
    obtain ⟨k, hk, rfl⟩ := List.mem_map.mp hp
    rw [evP_keys]
    exact mem_pairs.mp hk
theorem nw_up {i : Int} (h : nwB i 1 9 = true) : nwB i 1 18 = true := by
  unfold nwB at *
  simp only [Bool.and_eq_true, decide_eq_true_eq] at *
  exact ⟨h.1, h.2.1, by omega⟩
theorem ev_right {zs : List Str} {i : Int} (a : AscSg zs) (h : nwB i 1 9 = true) : rightB (evP zs i) (evP zs i) (evS zs i) = true := by
  have e1 : okP (evP zs i) 9 = true := by
    unfold okP evP
    rw [List.all_map]
    exact List.all_eq_true.mpr fun _ _ => h
  have e2 : okS (evS zs i) 18 = true := by
    unfold okS evS
    rw [List.all_map]
    exact List.all_eq_true.mpr fun _ _ => nw_up h
  have e3 : (evP zs i).isEmpty = false := by
    cases zs with
    | nil => exact absurd rfl a.1
    | cons z l => rfl
  unfold rightB
  rw [e1, e2, e3]
  rfl
def spEven (C : Addr) : Sp := fun vs H Q _ => ∃ (t : Addr) (zs : List Str) (i : Int), vs = [.ref C, .ref t, .int i] ∧ H t = some (.tup (zs.map V.str)) ∧ AscSg zs ∧ zs.length ≤ 5 ∧ nwB i 1 9 = true ∧
  ∀ H' x u1 u2 u3, Same H H' → H x = none → PrAt C H' x u1 u2 u3 → u1.Perm (evP zs i) → u2.Perm (evP zs i) → u3.Perm (evS zs i) → Srt u1 u2 u3 → Q (.ref x) H'
section
variable {P : Program} {w : World} {K : PySem.W.Frag} {mg : Str → Option Value} {base : Heap}
theorem kbn_init {f : Addr} {fd : FuncData} (F : Fun K "__init__" "Prices.__init__" sInit f fd) : KBn K fd ["self", "put", "out", "swap"] 1 ["put", "out", "swap"] (fun us ws => us ++ ws) (fun vs zs => vs ++ zs) := by
  obtain ⟨oc, od, kV, doc, pm, an, cdv, ct, osl, rfl, lk, hcd⟩ := F.ex
  refine ⟨fun s us ws X l1 l2 => BindsTo.of_eq ?_, fun r1 r2 => r1.append r2⟩
  match us, ws, l1, l2 with
  | [_], [_, _, _], _, _ => rfl
end
end Mk

set_option Elab.async false
set_option linter.all false
set_option maxRecDepth 100000
set_option maxHeartbeats 4000000
namespace Mk
open PySem PySem.Spec L2 PyProof.Rows

abbrev sPutP : Stmt := inClass (top 22) 3
abbrev sOutP : Stmt := inClass (top 22) 4
abbrev sSwapP : Stmt := inClass (top 22) 5
abbrev sMult : Stmt := top 0
abbrev sIsPrice : Stmt := top 0
/-- the three tables of the prices at x -/
def spTabP (C : Addr) (g : PTab → PTab → PTab) : Sp := fun vs H Q _ => ∃ (x : Addr) (t1 t2 : PTab) (t3 : STab), vs = [.ref x] ∧ PrAt C H x t1 t2 t3 ∧ ((g t1 t2).map (·.1)).Nodup ∧ (g t1 t2).length ≤ 60 ∧ Srt t1 t2 t3 ∧
  ∀ H' D, Same H H' → H D = none → H' D = some (.dK (kvsP (g t1 t2))) → Q (.ref D) H'
def spTabS (C : Addr) : Sp := fun vs H Q _ => ∃ (x : Addr) (t1 t2 : PTab) (t3 : STab), vs = [.ref x] ∧ PrAt C H x t1 t2 t3 ∧ (t3.map (·.1)).Nodup ∧ t3.length ≤ 60 ∧ Srt t1 t2 t3 ∧
  ∀ H' D, Same H H' → H D = none → H' D = some (.dT (kvsS t3)) → Q (.ref D) H'
theorem tab_one {α : Type} {t u : List (α × Int)} {le : α → α → Bool} (anti : ∀ a b, le a b = true → le b a = true → a = b) (nd : (t.map (·.1)).Nodup) (p : u.Perm t) (s1 : (t.map (·.1)).Pairwise (fun a b => le a b = true)) (s2 : (u.map (·.1)).Pairwise (fun a b => le a b = true)) : u = t := by
  rw [List.pairwise_map] at s1 s2
  refine List.Perm.eq_of_pairwise (fun a b ha hb h1 h2 => ?_) s2 s1 p
  have e := anti _ _ h1 h2
  have ha2 := p.mem_iff.mp ha
  obtain ⟨i, hi, e1⟩ := List.getElem_of_mem ha2
  obtain ⟨j, hj, e2⟩ := List.getElem_of_mem hb
  have hij : (t.map (·.1))[i]'(by rw [List.length_map]; exact hi) = (t.map (·.1))[j]'(by rw [List.length_map]; exact hj) := by
    rw [List.getElem_map, List.getElem_map, e1, e2, e]
  have := (List.getElem_inj nd).mp hij
  subst this
  rw [← e1, ← e2]
section
variable {P : Program} {w : World} {K : PySem.W.Frag} {mg : Str → Option Value} {base : Heap}
theorem look_no {f g : Str} {v : V} {r : List (Str × V)} (h : ¬ f = g) : List.lookup f ((g, v) :: r) = List.lookup f r := by
  have e : (f == g) = false := beq_eq_false_iff_ne.mpr h
  rw [List.lookup_cons, e]
theorem look_yes {f : Str} {v : V} {r : List (Str × V)} : List.lookup f ((f, v) :: r) = some v := by
  rw [List.lookup_cons, beq_self_eq_true]
theorem fld_put (t a b c : Addr) : List.lookup ("_put" : Str) (fldP t a b c) = some (V.ref a) :=
  (look_no (by decide +kernel)).trans look_yes
theorem fld_out (t a b c : Addr) : List.lookup ("_out" : Str) (fldP t a b c) = some (V.ref b) :=
  (look_no (by decide +kernel)).trans ((look_no (by decide +kernel)).trans look_yes)
theorem fld_swap (t a b c : Addr) : List.lookup ("_swap" : Str) (fldP t a b c) = some (V.ref c) :=
  (look_no (by decide +kernel)).trans ((look_no (by decide +kernel)).trans ((look_no (by decide +kernel)).trans look_yes))
theorem fld_signs (t a b c : Addr) : List.lookup ("_signs" : Str) (fldP t a b c) = some (V.ref t) := look_yes
theorem scPutP : FnScope ["self"] ["self"] (defScope sPutP) := ⟨rfl, rfl, rfl, by decide +kernel, rfl, by decide +kernel, by decide +kernel⟩
theorem ok_putP {f C : Addr} {fd : FuncData} (F : Fun K "put" "Prices.put" sPutP f fd) (T : Pc K C) (S : Cd P w K mg base 1 "ascending_dict" ["table"] spAsc) : FnOk P w K mg base CX0 2 f fd ["self"] (spTabP C fun t _ => t) := by
  obtain ⟨c, dc, Gc, cm, ck, cb⟩ := S.ex
  refine F.ok scPutP (fun vs H Q E h => ?_) (fun cdv A outer s H vs Q E hr h => ?_)
  · obtain ⟨x, t1, t2, t3, rfl, _⟩ := h
    rfl
  · obtain ⟨x, t1, t2, t3, rfl, ⟨dx, t, a, b, d, hx, ht, hT⟩, nd, hl, sr, q⟩ := h
    refine ⟨_, pss_one (ps_ret (pe_call Gc hr (by rfl) cm ck cb .nil pass0 (pa_cons (pe_fld (pv 0) rfl) pa_nil))), ?_⟩
    refine ⟨_, rfl, x, C, dx, _, _, rfl, hx, T.cl, T.n2, fld_put t a b d, a, rfl, .inl ⟨t1, hT.p, nd, hl, fun H1 D u s1 f1 e1 p1 r1 => ?_⟩⟩
    obtain rfl := tab_one byCs_anti nd p1 sr.a r1
    exact q _ _ s1 f1 e1
theorem scOutP : FnScope ["self"] ["self"] (defScope sOutP) := ⟨rfl, rfl, rfl, by decide +kernel, rfl, by decide +kernel, by decide +kernel⟩
theorem ok_outP {f C : Addr} {fd : FuncData} (F : Fun K "out" "Prices.out" sOutP f fd) (T : Pc K C) (S : Cd P w K mg base 1 "ascending_dict" ["table"] spAsc) : FnOk P w K mg base CX0 2 f fd ["self"] (spTabP C fun _ t => t) := by
  obtain ⟨c, dc, Gc, cm, ck, cb⟩ := S.ex
  refine F.ok scOutP (fun vs H Q E h => ?_) (fun cdv A outer s H vs Q E hr h => ?_)
  · obtain ⟨x, t1, t2, t3, rfl, _⟩ := h
    rfl
  · obtain ⟨x, t1, t2, t3, rfl, ⟨dx, t, a, b, d, hx, ht, hT⟩, nd, hl, sr, q⟩ := h
    refine ⟨_, pss_one (ps_ret (pe_call Gc hr (by rfl) cm ck cb .nil pass0 (pa_cons (pe_fld (pv 0) rfl) pa_nil))), ?_⟩
    refine ⟨_, rfl, x, C, dx, _, _, rfl, hx, T.cl, T.n3, fld_out t a b d, b, rfl, .inl ⟨t2, hT.o, nd, hl, fun H1 D u s1 f1 e1 p1 r1 => ?_⟩⟩
    obtain rfl := tab_one byCs_anti nd p1 sr.b r1
    exact q _ _ s1 f1 e1
theorem scSwapP : FnScope ["self"] ["self"] (defScope sSwapP) := ⟨rfl, rfl, rfl, by decide +kernel, rfl, by decide +kernel, by decide +kernel⟩
theorem ok_swapP {f C : Addr} {fd : FuncData} (F : Fun K "swap" "Prices.swap" sSwapP f fd) (T : Pc K C) (S : Cd P w K mg base 1 "ascending_dict" ["table"] spAsc) : FnOk P w K mg base CX0 2 f fd ["self"] (spTabS C) := by
  obtain ⟨c, dc, Gc, cm, ck, cb⟩ := S.ex
  refine F.ok scSwapP (fun vs H Q E h => ?_) (fun cdv A outer s H vs Q E hr h => ?_)
  · obtain ⟨x, t1, t2, t3, rfl, _⟩ := h
    rfl
  · obtain ⟨x, t1, t2, t3, rfl, ⟨dx, t, a, b, d, hx, ht, hT⟩, nd, hl, sr, q⟩ := h
    refine ⟨_, pss_one (ps_ret (pe_call Gc hr (by rfl) cm ck cb .nil pass0 (pa_cons (pe_fld (pv 0) rfl) pa_nil))), ?_⟩
    refine ⟨_, rfl, x, C, dx, _, _, rfl, hx, T.cl, T.n4, fld_swap t a b d, d, rfl, .inr ⟨t3, hT.s, nd, hl, fun H1 D u s1 f1 e1 p1 r1 => ?_⟩⟩
    obtain rfl := tab_one le2_anti nd p1 sr.c r1
    exact q _ _ s1 f1 e1
end
end Mk

set_option Elab.async false
set_option linter.all false
set_option maxRecDepth 100000
set_option maxHeartbeats 4000000
namespace Mk
open PySem PySem.Spec L2 PyProof.Rows

def timesP {α : Type} (t : List (α × Int)) (m : Int) : List (α × Int) := t.map fun p => (p.1, p.2 * m)
theorem timesP_keys {α : Type} (t : List (α × Int)) (m : Int) : (timesP t m).map (·.1) = t.map (·.1) := by
  unfold timesP
  rw [List.map_map]
  rfl
theorem cm100 {i m : Int} (h0 : 0 ≤ i) (h1 : i ≤ 100) : CMul i m := .inl ⟨by omega, by omega⟩
def spMult : Sp := fun vs H Q _ => ∃ (d : Addr) (m : Int), vs = [.ref d, .int m] ∧
  ((∃ t : PTab, H d = some (.dK (kvsP t)) ∧ (t.map (·.1)).Nodup ∧ t.length ≤ 60 ∧ (∀ p ∈ t, 0 ≤ p.2 ∧ p.2 ≤ 100) ∧ ∀ H' D, Same H H' → H D = none → H' D = some (.dK (kvsP (timesP t m))) → Q (.ref D) H') ∨
   ∃ t : STab, H d = some (.dT (kvsS t)) ∧ (t.map (·.1)).Nodup ∧ t.length ≤ 60 ∧ (∀ p ∈ t, 0 ≤ p.2 ∧ p.2 ≤ 100) ∧ ∀ H' D, Same H H' → H D = none → H' D = some (.dT (kvsS (timesP t m))) → Q (.ref D) H')
/-- the new dict at D grows while d is locked -/
structure Grw (H H1 : Hp) (d D : Addr) (u v : HO) : Prop where
  but : ∀ b o, b ≠ d → H b = some o → H1 b = some o
  at_ : H1 d = some u
  out : H1 D = some v
theorem Grw.start {H : Hp} {d D : Addr} {u v : HO} (hD : upd H d u D = none) : D ≠ d ∧ H D = none ∧ Grw H (upd (upd H d u) D v) d D u v := by
  have ne : D ≠ d := fun e => by
    rw [e, upd_same] at hD
    cases hD
  have h0 : H D = none := by rwa [upd_ne ne] at hD
  refine ⟨ne, h0, fun b o hb e => ?_, ?_, upd_same⟩
  · rw [upd_ne (ne_of_none e h0), upd_ne hb]
    exact e
  · rw [upd_ne ne.symm]
    exact upd_same
theorem Grw.next {H H1 : Hp} {d D : Addr} {u v v2 : HO} (W : Grw H H1 d D u v) (ne : D ≠ d) (h0 : H D = none) : Grw H (upd H1 D v2) d D u v2 := by
  refine ⟨fun a o hb e => ?_, ?_, upd_same⟩
  · rw [upd_ne (ne_of_none e h0)]
    exact W.but a o hb e
  · rw [upd_ne ne.symm]
    exact W.at_
theorem Grw.done {H H1 : Hp} {d D : Addr} {u v u0 : HO} (W : Grw H H1 d D u v) (hd : H d = some u0) : Same H (upd H1 d u0) := fun b o e => by
  by_cases hb : b = d
  · subst hb
    rw [hd] at e
    cases e
    exact upd_same
  · rw [upd_ne hb]
    exact W.but b o hb e
section
variable {P : Program} {w : World} {K : PySem.W.Frag} {mg : Str → Option Value} {base : Heap}
end
end Mk

set_option Elab.async false
set_option linter.all false
set_option maxRecDepth 100000
set_option maxHeartbeats 4000000
namespace Mk
open PySem PySem.Spec L2 PyProof.Rows

abbrev sIsPriceF : Stmt := top 0
abbrev sIsKind : Stmt := top 0
/-- a right price for this kind of change -/
def PrOk (k : Str) (v : V) : Prop := (k = "swap" ∧ (v = .non ∨ ∃ i, v = .int i ∧ nwB i 1 18 = true)) ∨ (¬ k = "swap" ∧ ∃ i, v = .int i ∧ nwB i 1 9 = true)
def spIsPrice : Sp := fun vs H Q _ => ∃ (k : Str) (v : V), vs = [.str k, v] ∧ PrOk k v ∧ Q (.bl true) H
/-- a kind of change of the signs zs, as a tuple of texts -/
def KiOk (zs : List Str) (xs : List Str) : Prop := (∃ k x : Str, xs = [k, x] ∧ (k = "put" ∨ k = "out") ∧ x ∈ zs) ∨ ∃ x y : Str, xs = [("swap" : Str), x, y] ∧ x ∈ zs ∧ y ∈ zs ∧ x ≠ y
def spIsKind : Sp := fun vs H Q _ => ∃ (c t : Addr) (xs zs : List Str), vs = [.ref c, .ref t] ∧ H c = some (.tup (xs.map V.str)) ∧ H t = some (.tup (zs.map V.str)) ∧ KiOk zs xs ∧ ∀ H', Same H H' → Q (.bl true) H'
section
variable {P : Program} {w : World} {K : PySem.W.Frag} {mg : Str → Option Value} {base : Heap}
end
end Mk

set_option Elab.async false
set_option linter.all false
set_option maxRecDepth 100000
set_option maxHeartbeats 4000000
namespace Mk
open PySem PySem.Spec L2 PyProof.Rows

/-! ### a table with another price, or with one less -/
section
variable {α : Type} [DecidableEq α]
def setT (t : List (α × Int)) (k : α) (i : Int) : List (α × Int) := if k ∈ t.map (·.1) then t.map (fun p => if p.1 = k then (p.1, i) else p) else t ++ [(k, i)]
def delT (t : List (α × Int)) (k : α) : List (α × Int) := t.filter fun p => decide (p.1 ≠ k)
theorem setT_in {t : List (α × Int)} {k : α} {i : Int} (h : k ∈ t.map (·.1)) : (setT t k i).map (·.1) = t.map (·.1) := by
  unfold setT
  rw [if_pos h, List.map_map]
  refine List.map_congr_left fun p _ => ?_
  show (if p.1 = k then (p.1, i) else p).1 = p.1
  split <;> rfl
theorem setT_out {t : List (α × Int)} {k : α} {i : Int} (h : k ∉ t.map (·.1)) : setT t k i = t ++ [(k, i)] := by
  unfold setT
  rw [if_neg h]
theorem setT_mem {t : List (α × Int)} {k : α} {i : Int} {q : α × Int} (h : q ∈ setT t k i) : q ∈ t ∨ q = (k, i) := by
  unfold setT at h
  split at h
  · obtain ⟨p, hp, e⟩ := List.mem_map.mp h
    by_cases c : p.1 = k
    · rw [if_pos c] at e
      rw [← e, c]
      exact .inr rfl
    · rw [if_neg c] at e
      rw [← e]
      exact .inl hp
  · rcases List.mem_append.mp h with h | h
    · exact .inl h
    · exact .inr (List.mem_singleton.mp h)
theorem setT_nd {t : List (α × Int)} {k : α} {i : Int} (nd : (t.map (·.1)).Nodup) : ((setT t k i).map (·.1)).Nodup := by
  by_cases h : k ∈ t.map (·.1)
  · rw [setT_in h]
    exact nd
  · rw [setT_out h, List.map_append]
    refine List.nodup_append.mpr ⟨nd, by simp, fun a ha b hb e => ?_⟩
    have : b = k := by simpa using hb
    rw [e, this] at ha
    exact h ha
theorem delT_nd {t : List (α × Int)} {k : α} (nd : (t.map (·.1)).Nodup) : ((delT t k).map (·.1)).Nodup := nd.sublist (List.filter_sublist.map _)
theorem delT_mem {t : List (α × Int)} {k : α} {q : α × Int} (h : q ∈ delT t k) : q ∈ t := (List.mem_filter.mp h).1
end
theorem putP_set (t : PTab) (k : Str) (i : Int) : L2.putK (kvsP t) (Sum.inr k) (V.int i) = kvsP (setT t k i) := by
  by_cases h : k ∈ t.map (·.1)
  · have a : ((kvsP t).any fun kv => decide (kv.1 = (Sum.inr k : Key))) = true := by
      obtain ⟨p, hp, e⟩ := List.mem_map.mp h
      refine List.any_eq_true.mpr ⟨_, List.mem_map.mpr ⟨p, hp, rfl⟩, ?_⟩
      rw [decide_eq_true_iff, ← e]
    unfold L2.putK setT
    rw [if_pos a, if_pos h]
    unfold kvsP
    rw [List.map_map, List.map_map]
    refine List.map_congr_left fun p _ => ?_
    show (if (Sum.inr p.1 : Key) = Sum.inr k then (Sum.inr p.1, V.int i) else (Sum.inr p.1, V.int p.2)) = (Sum.inr (if p.1 = k then (p.1, i) else p).1, V.int (if p.1 = k then (p.1, i) else p).2)
    by_cases c : p.1 = k
    · rw [if_pos c, if_pos (by rw [c])]
    · rw [if_neg c, if_neg fun z => c (Sum.inr.inj z)]
  · rw [putP_new h, setT_out h]
theorem putS_set (t : STab) (k : Str × Str) (i : Int) : L2.putK (kvsS t) (keyOf k) (V.int i) = kvsS (setT t k i) := by
  by_cases h : k ∈ t.map (·.1)
  · have a : ((kvsS t).any fun kv => decide (kv.1 = keyOf k)) = true := by
      obtain ⟨p, hp, e⟩ := List.mem_map.mp h
      refine List.any_eq_true.mpr ⟨_, List.mem_map.mpr ⟨p, hp, rfl⟩, ?_⟩
      rw [decide_eq_true_iff, ← e]
    unfold L2.putK setT
    rw [if_pos a, if_pos h]
    unfold kvsS
    rw [List.map_map, List.map_map]
    refine List.map_congr_left fun p _ => ?_
    show (if keyOf p.1 = keyOf k then (keyOf p.1, V.int i) else (keyOf p.1, V.int p.2)) = (keyOf (if p.1 = k then (p.1, i) else p).1, V.int (if p.1 = k then (p.1, i) else p).2)
    by_cases c : p.1 = k
    · rw [if_pos c, if_pos (by rw [c])]
    · rw [if_neg c, if_neg fun z => c (key_inj z)]
  · rw [putS_new h, setT_out h]
theorem dropS_del (t : STab) (k : Str × Str) : L2.dropK (kvsS t) (keyOf k) = kvsS (delT t k) := by
  unfold L2.dropK delT kvsS
  rw [List.filter_map]
  refine congrArg _ (List.filter_congr fun p _ => ?_)
  show decide (keyOf p.1 ≠ keyOf k) = decide (p.1 ≠ k)
  by_cases c : p.1 = k
  · rw [c]
    simp
  · have n2 : keyOf p.1 ≠ keyOf k := fun z => c (key_inj z)
    rw [decide_eq_true c, decide_eq_true n2]
/-! ### the three tables stay alike -/
theorem Agree.set1 {t1 t2 : PTab} {t3 : STab} (a : Agree t1 t2 t3) {k : Str} {i : Int} (h : k ∈ t1.map (·.1)) : Agree (setT t1 k i) t2 t3 where
  sg := fun p hp => by
    rcases setT_mem hp with hp | rfl
    · exact a.sg p hp
    · obtain ⟨q, hq, e⟩ := List.mem_map.mp h
      rw [← e]
      exact a.sg q hq
  nd := setT_nd a.nd
  l1 := by
    have := congrArg List.length (setT_in (i := i) h)
    rw [List.length_map, List.length_map] at this
    rw [this]
    exact a.l1
  pm := by
    rw [setT_in h]
    exact a.pm
  l3 := a.l3
  pr := fun p hp => by
    rw [setT_in h]
    exact a.pr p hp
theorem Agree.set2 {t1 t2 : PTab} {t3 : STab} (a : Agree t1 t2 t3) {k : Str} {i : Int} (h : k ∈ t1.map (·.1)) : Agree t1 (setT t2 k i) t3 where
  sg := a.sg
  nd := a.nd
  l1 := a.l1
  pm := by
    rw [setT_in (a.pm.mem_iff.mpr h)]
    exact a.pm
  l3 := a.l3
  pr := a.pr
theorem okP_set {t : PTab} {k : Str} {i m : Int} (h : okP t m = true) (hi : nwB i 1 m = true) : okP (setT t k i) m = true := by
  unfold okP at *
  refine List.all_eq_true.mpr fun p hp => ?_
  rcases setT_mem hp with hp | rfl
  · exact List.all_eq_true.mp h p hp
  · exact hi
theorem okS_set {t : STab} {k : Str × Str} {i m : Int} (h : okS t m = true) (hi : nwB i 1 m = true) : okS (setT t k i) m = true := by
  unfold okS at *
  refine List.all_eq_true.mpr fun p hp => ?_
  rcases setT_mem hp with hp | rfl
  · exact List.all_eq_true.mp h p hp
  · exact hi
theorem okS_del {t : STab} {k : Str × Str} {m : Int} (h : okS t m = true) : okS (delT t k) m = true := by
  unfold okS at *
  exact List.all_eq_true.mpr fun p hp => List.all_eq_true.mp h p (delT_mem hp)
end Mk

set_option Elab.async false
set_option linter.all false
namespace Mk

/-! ### closed costs -/
section
variable {α : Type} {P : List α} {d d' c c' : α → α → Int}
structure IsCl (P : List α) (d c : α → α → Int) : Prop where
  zero : ∀ x ∈ P, c x x = 0
  tri : ∀ x ∈ P, ∀ y ∈ P, ∀ z ∈ P, c x y ≤ c x z + c z y
  le : ∀ x ∈ P, ∀ y ∈ P, c x y ≤ d x y
  max : ∀ F : α → Int, (∀ z ∈ P, ∀ y ∈ P, F y ≤ F z + d z y) → ∀ z ∈ P, ∀ y ∈ P, F y ≤ F z + c z y
theorem IsCl.below (h : IsCl P d c) (h' : IsCl P d c') {x y : α} (hx : x ∈ P) (hy : y ∈ P) : c x y ≤ c' x y := by
  have h2 := h'.max (fun y => c x y) (fun z hz y hy => by
    have h1 := h.tri x hx y hy z hz
    have h2 := h.le z hz y hy
    show c x y ≤ c x z + d z y
    omega) x hx y hy
  have h1 := h.zero x hx
  have h3 : c x y ≤ c x x + c' x y := h2
  omega
theorem IsCl.uniq (h : IsCl P d c) (h' : IsCl P d c') {x y : α} (hx : x ∈ P) (hy : y ∈ P) : c x y = c' x y := by
  have h1 := h.below h' hx hy
  have h2 := h'.below h hx hy
  omega
theorem IsCl.between (h : IsCl P d c) (a : ∀ x ∈ P, ∀ y ∈ P, c x y ≤ d' x y) (b : ∀ x ∈ P, ∀ y ∈ P, d' x y ≤ d x y) : IsCl P d' c :=
  ⟨h.zero, h.tri, a, fun F hF => h.max F fun z hz y hy => by
    have := hF z hz y hy
    have := b z hz y hy
    omega⟩
theorem IsCl.self (h : IsCl P d c) : IsCl P c c := h.between (fun _ _ _ _ => Int.le_refl _) h.le
theorem IsCl.congr (h : IsCl P d c) (e : ∀ x ∈ P, ∀ y ∈ P, c' x y = c x y) (f : ∀ x ∈ P, ∀ y ∈ P, d' x y = d x y) : IsCl P d' c' where
  zero := fun x hx => by rw [e x hx x hx]; exact h.zero x hx
  tri := fun x hx y hy z hz => by rw [e x hx y hy, e x hx z hz, e z hz y hy]; exact h.tri x hx y hy z hz
  le := fun x hx y hy => by rw [e x hx y hy, f x hx y hy]; exact h.le x hx y hy
  max := fun F hF z hz y hy => by
    rw [e z hz y hy]
    exact h.max F (fun z hz y hy => by rw [← f z hz y hy]; exact hF z hz y hy) z hz y hy
theorem IsCl.twice (h : IsCl P d c) : IsCl P (fun x y => d x y * 2) (fun x y => c x y * 2) where
  zero := fun x hx => by have := h.zero x hx; omega
  tri := fun x hx y hy z hz => by have := h.tri x hx y hy z hz; omega
  le := fun x hx y hy => by have := h.le x hx y hy; omega
  max := fun F hF z hz y hy => by
    have k := h.max (fun y => (F y - F z + 1) / 2) (fun u hu v hv => by
      have := hF u hu v hv
      show (F v - F z + 1) / 2 ≤ (F u - F z + 1) / 2 + d u v
      omega) z hz y hy
    have k2 : (F y - F z + 1) / 2 ≤ (F z - F z + 1) / 2 + c z y := k
    omega
theorem IsCl.ge [DecidableEq α] (h : IsCl P d c) {m : Int} (m0 : 0 ≤ m) (d0 : ∀ x ∈ P, ∀ y ∈ P, 0 ≤ d x y) (dm : ∀ x ∈ P, ∀ y ∈ P, x ≠ y → m ≤ d x y) {x y : α} (hx : x ∈ P) (hy : y ∈ P) (ne : x ≠ y) : m ≤ c x y := by
  have k := h.max (fun y => if y = x then 0 else m) (fun z hz y hy => by
    show (if y = x then 0 else m) ≤ (if z = x then 0 else m) + d z y
    have a := d0 z hz y hy
    by_cases e : y = x
    · rw [if_pos e]
      split <;> omega
    · rw [if_neg e]
      by_cases f : z = x
      · rw [if_pos f, f]
        have := dm x hx y hy (fun g => e g.symm)
        omega
      · rw [if_neg f]
        omega) x hx y hy
  have k2 : (if y = x then 0 else m) ≤ (if x = x then 0 else m) + c x y := k
  rw [if_neg (fun g => ne g.symm), if_pos rfl] at k2
  omega
end
/-! ### look and setT -/
section
variable {κ : Type} [DecidableEq κ]
theorem look_none {t : List (κ × Int)} {k : κ} (h : k ∉ t.map (·.1)) : t.find? (fun p => decide (p.1 = k)) = none := by
  rw [List.find?_eq_none]
  intro p hp e
  exact h (List.mem_map.mpr ⟨p, hp, of_decide_eq_true e⟩)
theorem look_setT (t : List (κ × Int)) (k k' : κ) (i : Int) : look (setT t k i) k' = if k' = k then i else look t k' := by
  by_cases h : k ∈ t.map (·.1)
  · unfold setT
    rw [if_pos h]
    induction t with
    | nil => cases h
    | cons a t ih =>
      unfold look at ih ⊢
      rw [List.map_cons]
      by_cases e : a.1 = k
      · rw [if_pos e]
        by_cases e2 : k' = k
        · subst e2
          rw [List.find?_cons_of_pos (by simpa using e), if_pos rfl]
          rfl
        · have n1 : ¬ decide (a.1 = k') = true := fun z => e2 ((of_decide_eq_true z).symm.trans e)
          rw [List.find?_cons_of_neg (by exact n1), List.find?_cons_of_neg (by exact n1), if_neg e2]
          by_cases m : k ∈ t.map (·.1)
          · rw [ih m, if_neg e2]
          · congr 2
            have : (t.map fun p => if p.1 = k then (p.1, i) else p) = t := by
              conv => rhs; rw [← List.map_id t]
              refine List.map_congr_left fun p hp => ?_
              rw [if_neg fun z => m (List.mem_map.mpr ⟨p, hp, z⟩)]
              rfl
            rw [this]
      · rw [if_neg e]
        have m : k ∈ t.map (·.1) := by
          rw [List.map_cons] at h
          rcases List.mem_cons.mp h with h | h
          · exact absurd h.symm e
          · exact h
        by_cases e3 : a.1 = k'
        · rw [List.find?_cons_of_pos (by simpa using e3), List.find?_cons_of_pos (by simpa using e3), if_neg (fun z => e (e3.trans z))]
        · rw [List.find?_cons_of_neg (by simpa using e3), List.find?_cons_of_neg (by simpa using e3)]
          exact ih m
  · unfold setT
    rw [if_neg h]
    unfold look
    rw [List.find?_append]
    by_cases e : k' = k
    · subst e
      rw [look_none h, if_pos rfl]
      simp
    · rw [if_neg e]
      cases t.find? (fun p => decide (p.1 = k')) with
      | some p => rfl
      | none =>
        have : ¬ k = k' := fun z => e z.symm
        simp [this]
theorem keys_setT (t : List (κ × Int)) (k k' : κ) (i : Int) : k' ∈ (setT t k i).map (·.1) ↔ k' ∈ t.map (·.1) ∨ k' = k := by
  by_cases h : k ∈ t.map (·.1)
  · rw [setT_in h]
    constructor
    · exact .inl
    · rintro (m | rfl)
      · exact m
      · exact h
  · rw [setT_out h, List.map_append, List.mem_append]
    simp
end
/-! ### the rounds of the program -/
section
variable {α : Type} [DecidableEq α]
abbrev Mt (α : Type) := List ((α × α) × Int)
def relx (D : Mt α) (v x y : α) : Mt α := setT D (x, y) (min (look D (x, y)) (look D (x, v) + look D (v, y)))
def fw3 (P : List α) (v x : α) (D : Mt α) : Mt α := P.foldl (fun D y => relx D v x y) D
def fw2 (P : List α) (v : α) (D : Mt α) : Mt α := P.foldl (fun D x => fw3 P v x D) D
def fw (P : List α) (D : Mt α) : Mt α := P.foldl (fun D v => fw2 P v D) D
def nw (D : Mt α) (v x y : α) : Int := min (look D (x, y)) (look D (x, v) + look D (v, y))
structure Mid (P : List α) (v : α) (D E : Mt α) : Prop where
  mid : ∀ a ∈ P, ∀ b ∈ P, look E (a, b) = look D (a, b) ∨ look E (a, b) = nw D v a b
  to : ∀ a ∈ P, look E (a, v) = look D (a, v)
  of : ∀ b ∈ P, look E (v, b) = look D (v, b)
theorem Mid.step {P : List α} {v x y : α} {D E : Mt α} (h : Mid P v D E) (hv : v ∈ P) (hx : x ∈ P) (hy : y ∈ P) (z : look D (v, v) = 0) : Mid P v D (relx E v x y) ∧ look (relx E v x y) (x, y) = nw D v x y ∧
    ∀ a b, look E (a, b) = nw D v a b → look (relx E v x y) (a, b) = nw D v a b := by
  have key : min (look E (x, y)) (look E (x, v) + look E (v, y)) = nw D v x y := by
    rw [h.to x hx, h.of y hy]
    rcases h.mid x hx y hy with e | e
    · rw [e]; rfl
    · rw [e]; unfold nw; omega
  have at_ : ∀ q, look (relx E v x y) q = if q = (x, y) then nw D v x y else look E q := fun q => by
    unfold relx
    rw [look_setT, key]
  refine ⟨⟨fun a ha b hb => ?_, fun a ha => ?_, fun b hb => ?_⟩, ?_, fun a b e => ?_⟩
  · rw [at_]
    by_cases q : (a, b) = (x, y)
    · cases q
      rw [if_pos rfl]
      exact .inr rfl
    · rw [if_neg q]
      exact h.mid a ha b hb
  · rw [at_]
    by_cases q : (a, v) = (x, y)
    · cases q
      rw [if_pos rfl]
      unfold nw
      omega
    · rw [if_neg q]
      exact h.to a ha
  · rw [at_]
    by_cases q : (v, b) = (x, y)
    · cases q
      rw [if_pos rfl]
      unfold nw
      omega
    · rw [if_neg q]
      exact h.of b hb
  · rw [at_, if_pos rfl]
  · rw [at_]
    by_cases q : (a, b) = (x, y)
    · cases q
      rw [if_pos rfl]
    · rw [if_neg q]
      exact e
theorem fw3_mid {P : List α} {v x : α} {D : Mt α} (hv : v ∈ P) (hx : x ∈ P) (z : look D (v, v) = 0) : ∀ (ys : List α) (E : Mt α), (∀ y ∈ ys, y ∈ P) → Mid P v D E →
    Mid P v D (ys.foldl (fun D y => relx D v x y) E) ∧ (∀ y ∈ ys, look (ys.foldl (fun D y => relx D v x y) E) (x, y) = nw D v x y) ∧ ∀ a b, look E (a, b) = nw D v a b → look (ys.foldl (fun D y => relx D v x y) E) (a, b) = nw D v a b
  | [], E, _, h => ⟨h, fun _ m => (nomatch m), fun _ _ e => e⟩
  | y :: ys, E, hs, h => by
    obtain ⟨s1, s2, s3⟩ := h.step hv hx (hs y List.mem_cons_self) z
    obtain ⟨r1, r2, r3⟩ := fw3_mid hv hx z ys _ (fun y hy => hs y (List.mem_cons_of_mem _ hy)) s1
    rw [List.foldl_cons]
    refine ⟨r1, fun u hu => ?_, fun a b e => r3 a b (s3 a b e)⟩
    rcases List.mem_cons.mp hu with rfl | hu
    · exact r3 _ _ s2
    · exact r2 u hu
theorem fw2_mid {P : List α} {v : α} {D : Mt α} (hv : v ∈ P) (z : look D (v, v) = 0) : ∀ (xs : List α) (E : Mt α), (∀ x ∈ xs, x ∈ P) → Mid P v D E →
    Mid P v D (xs.foldl (fun D x => fw3 P v x D) E) ∧ (∀ x ∈ xs, ∀ y ∈ P, look (xs.foldl (fun D x => fw3 P v x D) E) (x, y) = nw D v x y) ∧ ∀ a b, look E (a, b) = nw D v a b → look (xs.foldl (fun D x => fw3 P v x D) E) (a, b) = nw D v a b
  | [], E, _, h => ⟨h, fun _ m => (nomatch m), fun _ _ e => e⟩
  | x :: xs, E, hs, h => by
    obtain ⟨s1, s2, s3⟩ := fw3_mid hv (hs x List.mem_cons_self) z P E (fun _ h => h) h
    obtain ⟨r1, r2, r3⟩ := fw2_mid hv z xs _ (fun y hy => hs y (List.mem_cons_of_mem _ hy)) s1
    rw [List.foldl_cons]
    refine ⟨r1, fun u hu y hy => ?_, fun a b e => r3 a b (s3 a b e)⟩
    rcases List.mem_cons.mp hu with rfl | hu
    · exact r3 _ _ (s2 y hy)
    · exact r2 u hu y hy
theorem fw2_look {P : List α} {v x y : α} {D : Mt α} (hv : v ∈ P) (z : look D (v, v) = 0) (hx : x ∈ P) (hy : y ∈ P) : look (fw2 P v D) (x, y) = nw D v x y :=
  (fw2_mid hv z P D (fun _ h => h) ⟨fun _ _ _ _ => .inl rfl, fun _ _ => rfl, fun _ _ => rfl⟩).2.1 x hx y hy
structure Part (P S : List α) (d : α → α → Int) (D : Mt α) : Prop where
  zero : ∀ x ∈ P, look D (x, x) = 0
  ge : ∀ x ∈ P, ∀ y ∈ P, 0 ≤ look D (x, y)
  tri : ∀ x ∈ P, ∀ y ∈ P, ∀ z ∈ S, look D (x, y) ≤ look D (x, z) + look D (z, y)
  le : ∀ x ∈ P, ∀ y ∈ P, look D (x, y) ≤ d x y
  max : ∀ F : α → Int, (∀ z ∈ P, ∀ y ∈ P, F y ≤ F z + d z y) → ∀ z ∈ P, ∀ y ∈ P, F y ≤ F z + look D (z, y)
theorem Part.step {P S : List α} {v : α} {d : α → α → Int} {D : Mt α} (h : Part P S d D) (hv : v ∈ P) (hS : ∀ z ∈ S, z ∈ P) : Part P (v :: S) d (fw2 P v D) := by
  have at_ : ∀ {x y}, x ∈ P → y ∈ P → look (fw2 P v D) (x, y) = min (look D (x, y)) (look D (x, v) + look D (v, y)) := fun hx hy => fw2_look hv (h.zero v hv) hx hy
  refine ⟨fun x hx => ?_, fun x hx y hy => ?_, fun x hx y hy z hz => ?_, fun x hx y hy => ?_, fun F hF z hz y hy => ?_⟩
  · rw [at_ hx hx, h.zero x hx]
    have := h.ge x hx v hv
    have := h.ge v hv x hx
    omega
  · rw [at_ hx hy]
    have := h.ge x hx v hv
    have := h.ge v hv y hy
    have := h.ge x hx y hy
    omega
  · have v0 := h.zero v hv
    rcases List.mem_cons.mp hz with rfl | hz
    · rw [at_ hx hy, at_ hx hv, at_ hv hy]
      omega
    · have zp := hS z hz
      have t1 := h.tri x hx y hy z hz
      have t2 := h.tri x hx v hv z hz
      have t3 := h.tri v hv y hy z hz
      have t4 := h.tri v hv v hv z hz
      rw [at_ hx hy, at_ hx zp, at_ zp hy]
      omega
  · rw [at_ hx hy]
    have := h.le x hx y hy
    omega
  · rw [at_ hz hy]
    have a := h.max F hF z hz y hy
    have b := h.max F hF z hz v hv
    have c := h.max F hF v hv y hy
    omega
theorem fw_part {P : List α} {d : α → α → Int} : ∀ (vs S : List α) (D : Mt α), (∀ v ∈ vs, v ∈ P) → (∀ z ∈ S, z ∈ P) → Part P S d D → Part P (vs.reverse ++ S) d (vs.foldl (fun D v => fw2 P v D) D)
  | [], _, _, _, _, h => h
  | v :: vs, S, D, hv, hS, h => by
    have := fw_part vs (v :: S) _ (fun u hu => hv u (List.mem_cons_of_mem _ hu)) (fun z hz => by
      rcases List.mem_cons.mp hz with rfl | hz
      · exact hv _ List.mem_cons_self
      · exact hS z hz) (h.step (hv v List.mem_cons_self) hS)
    rw [List.foldl_cons, List.reverse_cons, List.append_assoc]
    exact this
theorem fw_cl {P : List α} {d : α → α → Int} {D : Mt α} (e : ∀ x ∈ P, ∀ y ∈ P, look D (x, y) = d x y) (z : ∀ x ∈ P, d x x = 0) (g : ∀ x ∈ P, ∀ y ∈ P, 0 ≤ d x y) : IsCl P d (fun x y => look (fw P D) (x, y)) := by
  have p0 : Part P [] d D := ⟨fun x hx => by rw [e x hx x hx]; exact z x hx, fun x hx y hy => by rw [e x hx y hy]; exact g x hx y hy, fun _ _ _ _ _ m => (nomatch m), fun x hx y hy => by rw [e x hx y hy]; exact Int.le_refl _, fun F hF z hz y hy => by rw [e z hz y hy]; exact hF z hz y hy⟩
  have p := fw_part P [] D (fun _ h => h) (fun _ m => (nomatch m)) p0
  exact ⟨p.zero, fun x hx y hy z hz => p.tri x hx y hy z (List.mem_append_left _ (List.mem_reverse.mpr hz)), p.le, p.max⟩
end
end Mk

set_option Elab.async false
set_option linter.all false
set_option maxRecDepth 100000
set_option maxHeartbeats 1000000
/-! the program's direct prices, as plain lists -/
namespace Mk
open PySem L2
section
variable {α : Type} [DecidableEq α]
theorem len_setT (t : List (α × Int)) (k : α) (i : Int) : (setT t k i).length ≤ t.length + 1 := by
  unfold setT
  split
  · rw [List.length_map]; omega
  · rw [List.length_append]; simp
def dget (t : List (α × Int)) (k : α) (d : Int) : Int := if k ∈ t.map (·.1) then look t k else d
end
theorem foldl_take {α β : Type} (f : β → α → β) (a : β) (l : List α) {i : Nat} (h : i < l.length) : (l.take (i + 1)).foldl f a = f ((l.take i).foldl f a) l[i] := by
  rw [List.take_add_one, List.getElem?_eq_getElem h, List.foldl_append]
  rfl
def dirS (t1 t2 : PTab) (t3 : STab) (one : Str) (D : STab) (other : Str) : STab := setT D (one, other) (dget t3 (one, other) (look t2 one + look t1 other))
def dirA (t1 t2 : PTab) (D : STab) (one : Str) : STab := setT (setT D (("" : Str), one) (look t1 one)) (one, ("" : Str)) (look t2 one)
def dirI (t1 t2 : PTab) (t3 : STab) (one : Str) (ys : List Str) (D : STab) : STab := ys.foldl (dirS t1 t2 t3 one) D
def dirO (t1 t2 : PTab) (t3 : STab) (ks : List Str) (D : STab) (one : Str) : STab := setT (dirI t1 t2 t3 one ks (dirA t1 t2 D one)) (one, one) 0
def dir0 : STab := [(("", ""), 0)]
def dirL (t1 t2 : PTab) (t3 : STab) (ks xs : List Str) : STab := xs.foldl (dirO t1 t2 t3 ks) dir0
def dir (t1 t2 : PTab) (t3 : STab) : STab := dirL t1 t2 t3 (t1.map (·.1)) (t1.map (·.1))
theorem dirI_len (t1 t2 : PTab) (t3 : STab) (one : Str) : ∀ (ys : List Str) (D : STab), (dirI t1 t2 t3 one ys D).length ≤ D.length + ys.length
  | [], D => by show D.length ≤ D.length + 0; omega
  | y :: ys, D => by
    have a := dirI_len t1 t2 t3 one ys (dirS t1 t2 t3 one D y)
    have b := len_setT D (one, y) (dget t3 (one, y) (look t2 one + look t1 y))
    show (dirI t1 t2 t3 one ys (dirS t1 t2 t3 one D y)).length ≤ _
    rw [List.length_cons]
    unfold dirS at a ⊢
    omega
theorem dirO_len (t1 t2 : PTab) (t3 : STab) (ks : List Str) (D : STab) (one : Str) : (dirO t1 t2 t3 ks D one).length ≤ D.length + ks.length + 3 := by
  unfold dirO
  have a := len_setT (dirI t1 t2 t3 one ks (dirA t1 t2 D one)) (one, one) 0
  have b := dirI_len t1 t2 t3 one ks (dirA t1 t2 D one)
  unfold dirA at a b ⊢
  have c := len_setT (setT D (("" : Str), one) (look t1 one)) (one, ("" : Str)) (look t2 one)
  have d := len_setT D (("" : Str), one) (look t1 one)
  omega
theorem dirL_len (t1 t2 : PTab) (t3 : STab) (ks : List Str) : ∀ (xs : List Str) (D : STab), (xs.foldl (dirO t1 t2 t3 ks) D).length ≤ D.length + xs.length * (ks.length + 3)
  | [], D => by show D.length ≤ _; omega
  | x :: xs, D => by
    have a := dirL_len t1 t2 t3 ks xs (dirO t1 t2 t3 ks D x)
    have b := dirO_len t1 t2 t3 ks D x
    rw [List.foldl_cons, List.length_cons, Nat.add_mul]
    omega
/-! what stands in it -/
/-- the direct price of a way -/
def dd (t1 t2 : PTab) (t3 : STab) (x y : Str) : Int :=
  if x = y then 0 else if x = "" then look t1 y else if y = "" then look t2 x else dget t3 (x, y) (look t2 x + look t1 y)
theorem dirI_look (t1 t2 : PTab) (t3 : STab) (one : Str) : ∀ (ys : List Str) (D : STab) (q : Str × Str), look (dirI t1 t2 t3 one ys D) q = if q.1 = one ∧ q.2 ∈ ys then dget t3 q (look t2 q.1 + look t1 q.2) else look D q
  | [], D, q => by
    show look D q = _
    rw [if_neg (by rintro ⟨_, h⟩; cases h)]
  | y :: ys, D, q => by
    show look (dirI t1 t2 t3 one ys (dirS t1 t2 t3 one D y)) q = _
    rw [dirI_look t1 t2 t3 one ys]
    unfold dirS
    rw [look_setT]
    by_cases h1 : q.1 = one ∧ q.2 ∈ ys
    · rw [if_pos h1, if_pos ⟨h1.1, List.mem_cons_of_mem _ h1.2⟩]
    · rw [if_neg h1]
      by_cases h2 : q = (one, y)
      · subst h2
        rw [if_pos rfl, if_pos ⟨rfl, List.mem_cons_self⟩]
      · rw [if_neg h2, if_neg]
        rintro ⟨e, m⟩
        rcases List.mem_cons.mp m with m | m
        · exact h2 (by rw [← e, ← m])
        · exact h1 ⟨e, m⟩
theorem dirI_keys (t1 t2 : PTab) (t3 : STab) (one : Str) : ∀ (ys : List Str) (D : STab) (q : Str × Str), q ∈ (dirI t1 t2 t3 one ys D).map (·.1) ↔ (q.1 = one ∧ q.2 ∈ ys) ∨ q ∈ D.map (·.1)
  | [], D, q => by
    show q ∈ D.map (·.1) ↔ _
    simp
  | y :: ys, D, q => by
    show q ∈ (dirI t1 t2 t3 one ys (dirS t1 t2 t3 one D y)).map (·.1) ↔ _
    rw [dirI_keys t1 t2 t3 one ys]
    unfold dirS
    rw [keys_setT, List.mem_cons]
    obtain ⟨a, b⟩ := q
    show (a = one ∧ b ∈ ys) ∨ (a, b) ∈ D.map (·.1) ∨ (a, b) = (one, y) ↔ (a = one ∧ (b = y ∨ b ∈ ys)) ∨ (a, b) ∈ D.map (·.1)
    rw [Prod.mk.injEq]
    constructor
    · rintro (⟨e, m⟩ | m | ⟨e, m⟩)
      · exact .inl ⟨e, .inr m⟩
      · exact .inr m
      · exact .inl ⟨e, .inl m⟩
    · rintro (⟨e, m | m⟩ | m)
      · exact .inr (.inr ⟨e, m⟩)
      · exact .inl ⟨e, m⟩
      · exact .inr (.inl m)
theorem dirO_look (t1 t2 : PTab) (t3 : STab) (ks : List Str) (D : STab) (one : Str) (n1 : one ≠ "") (n0 : ("" : Str) ∉ ks) (q : Str × Str) : look (dirO t1 t2 t3 ks D one) q =
    if q = (one, one) then 0 else if q.1 = one ∧ q.2 ∈ ks then dget t3 q (look t2 q.1 + look t1 q.2) else if q = (one, ("" : Str)) then look t2 one else if q = (("" : Str), one) then look t1 one else look D q := by
  unfold dirO dirA
  rw [look_setT, dirI_look, look_setT, look_setT]
theorem dirO_keys (t1 t2 : PTab) (t3 : STab) (ks : List Str) (D : STab) (one : Str) (q : Str × Str) : q ∈ (dirO t1 t2 t3 ks D one).map (·.1) ↔ q = (one, one) ∨ (q.1 = one ∧ q.2 ∈ ks) ∨ q = (one, ("" : Str)) ∨ q = (("" : Str), one) ∨ q ∈ D.map (·.1) := by
  unfold dirO dirA
  rw [keys_setT, dirI_keys, keys_setT, keys_setT]
  constructor
  · rintro ((h | (h | h) | h) | h)
    · exact .inr (.inl h)
    · exact .inr (.inr (.inr (.inr h)))
    · exact .inr (.inr (.inr (.inl h)))
    · exact .inr (.inr (.inl h))
    · exact .inl h
  · rintro (h | h | h | h | h)
    · exact .inr h
    · exact .inl (.inl h)
    · exact .inl (.inr (.inr h))
    · exact .inl (.inr (.inl (.inr h)))
    · exact .inl (.inr (.inl (.inl h)))
/-- where the walk has been -/
structure DirAt (t1 t2 : PTab) (t3 : STab) (ks xs : List Str) (D : STab) : Prop where
  keys : ∀ x y : Str, (x, y) ∈ D.map (·.1) ↔ (x = "" ∧ y = "") ∨ (x = "" ∧ y ∈ xs) ∨ (x ∈ xs ∧ (y = "" ∨ y ∈ ks))
  val : ∀ x y : Str, (x, y) ∈ D.map (·.1) → look D (x, y) = dd t1 t2 t3 x y
theorem DirAt.next {t1 t2 : PTab} {t3 : STab} {ks xs : List Str} {D : STab} (n0 : ("" : Str) ∉ ks) (h : DirAt t1 t2 t3 ks xs D) {one : Str} (m : one ∈ ks) : DirAt t1 t2 t3 ks (xs ++ [one]) (dirO t1 t2 t3 ks D one) := by
  have n1 : one ≠ "" := fun e => n0 (e ▸ m)
  refine ⟨fun x y => ?_, fun x y hq => ?_⟩
  · rw [dirO_keys, h.keys]
    simp only [Prod.mk.injEq, List.mem_append, List.mem_singleton]
    constructor
    · rintro (⟨rfl, rfl⟩ | ⟨rfl, b⟩ | ⟨rfl, rfl⟩ | ⟨rfl, rfl⟩ | a | ⟨a, b⟩ | ⟨a, b⟩)
      · exact .inr (.inr ⟨.inr rfl, .inr m⟩)
      · exact .inr (.inr ⟨.inr rfl, .inr b⟩)
      · exact .inr (.inr ⟨.inr rfl, .inl rfl⟩)
      · exact .inr (.inl ⟨rfl, .inr rfl⟩)
      · exact .inl a
      · exact .inr (.inl ⟨a, .inl b⟩)
      · exact .inr (.inr ⟨.inl a, b⟩)
    · rintro (a | ⟨a, b | b⟩ | ⟨a | a, b⟩)
      · exact .inr (.inr (.inr (.inr (.inl a))))
      · exact .inr (.inr (.inr (.inr (.inr (.inl ⟨a, b⟩)))))
      · exact .inr (.inr (.inr (.inl ⟨a, b⟩)))
      · exact .inr (.inr (.inr (.inr (.inr (.inr ⟨a, b⟩)))))
      · rcases b with b | b
        · exact .inr (.inr (.inl ⟨a, b⟩))
        · exact .inr (.inl ⟨a, b⟩)
  · rw [dirO_look t1 t2 t3 ks D one n1 n0]
    unfold dd
    by_cases c1 : (x, y) = (one, one)
    · rw [if_pos c1, if_pos (by cases c1; rfl)]
    · rw [if_neg c1]
      by_cases c2 : x = one ∧ y ∈ ks
      · have xy : x ≠ y := fun e => c1 (by rw [← e, c2.1])
        have y0 : y ≠ "" := fun e => n0 (e ▸ c2.2)
        rw [if_pos c2, if_neg xy, if_neg (by rw [c2.1]; exact n1), if_neg y0]
      · rw [if_neg c2]
        by_cases c3 : (x, y) = (one, ("" : Str))
        · cases c3
          rw [if_pos rfl, if_neg n1, if_neg n1, if_pos rfl]
        · rw [if_neg c3]
          by_cases c4 : (x, y) = (("" : Str), one)
          · cases c4
            rw [if_pos rfl, if_neg n1.symm, if_pos rfl]
          · rw [if_neg c4]
            rw [dirO_keys] at hq
            have hq' : (x, y) ∈ D.map (·.1) := by
              rcases hq with a | a | a | a | a
              · exact absurd a c1
              · exact absurd a c2
              · exact absurd a c3
              · exact absurd a c4
              · exact a
            rw [h.val x y hq']
            rfl
theorem dirL_at {t1 t2 : PTab} {t3 : STab} {ks : List Str} (n0 : ("" : Str) ∉ ks) : ∀ (xs ys : List Str) (D : STab), (∀ x ∈ xs, x ∈ ks) → DirAt t1 t2 t3 ks ys D → DirAt t1 t2 t3 ks (ys ++ xs) (xs.foldl (dirO t1 t2 t3 ks) D)
  | [], ys, D, _, h => by rw [List.append_nil]; exact h
  | x :: xs, ys, D, s, h => by
    have := dirL_at n0 xs (ys ++ [x]) _ (fun u hu => s u (List.mem_cons_of_mem _ hu)) (h.next n0 (s x List.mem_cons_self))
    rw [List.append_assoc] at this
    exact this
theorem dir_at {t1 t2 : PTab} {t3 : STab} (n0 : ("" : Str) ∉ t1.map (·.1)) : DirAt t1 t2 t3 (t1.map (·.1)) (t1.map (·.1)) (dir t1 t2 t3) := by
  refine dirL_at n0 _ [] dir0 (fun _ h => h) ⟨fun x y => ?_, fun x y h => ?_⟩
  · unfold dir0
    simp
  · unfold dir0 at h
    simp only [List.map_cons, List.map_nil, List.mem_singleton, Prod.mk.injEq] at h
    obtain ⟨rfl, rfl⟩ := h
    unfold dd
    rw [if_pos rfl]
    rfl
/-- the places of a way -/
abbrev plc (t1 : PTab) : List Str := "" :: t1.map (·.1)
theorem dir_keys {t1 t2 : PTab} {t3 : STab} (n0 : ("" : Str) ∉ t1.map (·.1)) {x y : Str} : (x, y) ∈ (dir t1 t2 t3).map (·.1) ↔ x ∈ plc t1 ∧ y ∈ plc t1 := by
  rw [(dir_at n0).keys, List.mem_cons, List.mem_cons]
  constructor
  · rintro (⟨a, b⟩ | ⟨a, b⟩ | ⟨a, b⟩)
    · exact ⟨.inl a, .inl b⟩
    · exact ⟨.inl a, .inr b⟩
    · exact ⟨.inr a, b⟩
  · rintro ⟨a | a, b | b⟩
    · exact .inl ⟨a, b⟩
    · exact .inr (.inl ⟨a, b⟩)
    · exact .inr (.inr ⟨a, .inl b⟩)
    · exact .inr (.inr ⟨a, .inr b⟩)
theorem dir_val {t1 t2 : PTab} {t3 : STab} (n0 : ("" : Str) ∉ t1.map (·.1)) {x y : Str} (hx : x ∈ plc t1) (hy : y ∈ plc t1) : look (dir t1 t2 t3) (x, y) = dd t1 t2 t3 x y := (dir_at n0).val x y ((dir_keys n0).mpr ⟨hx, hy⟩)
/-! the least costs -/
def lc (t1 t2 : PTab) (t3 : STab) : STab := fw (plc t1) (dir t1 t2 t3)
theorem relx_keys {D : STab} {v x y : Str} (h : (x, y) ∈ D.map (·.1)) : (relx D v x y).map (·.1) = D.map (·.1) := setT_in h
theorem fw3_keys {v x : Str} : ∀ (ys : List Str) (D : STab), (∀ y ∈ ys, (x, y) ∈ D.map (·.1)) → (ys.foldl (fun D y => relx D v x y) D).map (·.1) = D.map (·.1)
  | [], D, _ => rfl
  | y :: ys, D, h => by
    have e := relx_keys (v := v) (h y List.mem_cons_self)
    rw [List.foldl_cons, fw3_keys ys _ (fun u hu => by rw [e]; exact h u (List.mem_cons_of_mem _ hu)), e]
theorem fw2_keys {P : List Str} {v : Str} : ∀ (xs : List Str) (D : STab), (∀ x ∈ xs, ∀ y ∈ P, (x, y) ∈ D.map (·.1)) → (xs.foldl (fun D x => fw3 P v x D) D).map (·.1) = D.map (·.1)
  | [], D, _ => rfl
  | x :: xs, D, h => by
    have e : (fw3 P v x D).map (·.1) = D.map (·.1) := fw3_keys P D (h x List.mem_cons_self)
    rw [List.foldl_cons, fw2_keys xs _ (fun u hu y hy => by rw [e]; exact h u (List.mem_cons_of_mem _ hu) y hy), e]
theorem fw_keys {P : List Str} : ∀ (vs : List Str) (D : STab), (∀ x ∈ P, ∀ y ∈ P, (x, y) ∈ D.map (·.1)) → (vs.foldl (fun D v => fw2 P v D) D).map (·.1) = D.map (·.1)
  | [], D, _ => rfl
  | v :: vs, D, h => by
    have e : (fw2 P v D).map (·.1) = D.map (·.1) := fw2_keys (P := P) P D h
    rw [List.foldl_cons, fw_keys vs _ (fun x hx y hy => by rw [e]; exact h x hx y hy), e]
theorem lc_keys {t1 t2 : PTab} {t3 : STab} (n0 : ("" : Str) ∉ t1.map (·.1)) : (lc t1 t2 t3).map (·.1) = (dir t1 t2 t3).map (·.1) := fw_keys _ _ fun x hx y hy => (dir_keys n0).mpr ⟨hx, hy⟩
/-- what a way costs -/
def cc (t1 t2 : PTab) (t3 : STab) (x y : Str) : Int := look (lc t1 t2 t3) (x, y)
theorem cc_cl {t1 t2 : PTab} {t3 : STab} (n0 : ("" : Str) ∉ t1.map (·.1)) (g : ∀ x ∈ plc t1, ∀ y ∈ plc t1, 0 ≤ dd t1 t2 t3 x y) : IsCl (plc t1) (dd t1 t2 t3) (cc t1 t2 t3) :=
  fw_cl (fun x hx y hy => dir_val n0 hx hy) (fun x _ => by unfold dd; rw [if_pos rfl]) g
end Mk

set_option Elab.async false
set_option linter.all false
set_option maxRecDepth 100000
set_option maxHeartbeats 4000000
/-! a dict display whose keys are tuples -/
namespace Mk
open PySem PySem.Spec PyProof.Rows L2

abbrev Row3 := List Key × Addr × V
def allT (acc : List (List Key × V)) (ks : List Row3) : List (List Key × V) := ks.foldl (fun a k => L2.putK a k.1 k.2.2) acc
def tDispT (trs : List (TE × TE)) : TE := fun σ H Q => ∀ p, H p = none → tPairs trs σ (upd H p (.dT [])) fun ps H2 => H2 p = some (.dT []) ∧ ∃ ks : List Row3, ps = ks.map (fun k => (V.ref k.2.1, k.2.2)) ∧
  (∀ k ∈ ks, H2 k.2.1 = some (.tup (k.1.map kV))) ∧ ks.length ≤ 15 ∧ Q (.ref p) (upd H2 p (.dT (allT [] ks)))
theorem allT_len : ∀ (ks : List Row3) (acc : List (List Key × V)), (allT acc ks).length ≤ acc.length + ks.length
  | [], acc => by show acc.length ≤ acc.length + 0; omega
  | k :: ks, acc => by
    have a := allT_len ks (L2.putK acc k.1 k.2.2)
    have b := length_putK acc k.1 k.2.2
    show (allT (L2.putK acc k.1 k.2.2) ks).length ≤ _
    rw [List.length_cons]
    omega
theorem kt_all {H : Hp} : ∀ {ks : List Row3} {ws : List (Value × Value)} {acc : List (List Key × V)} {xs : List (List Key × Addr × Value)}, KT H acc xs → VV (ks.map fun k => (V.ref k.2.1, k.2.2)) ws → (∀ k ∈ ks, H k.2.1 = some (.tup (k.1.map kV))) →
    ∃ ps : List (List Key × Addr × Value), KT H (allT acc ks) (storedAllH xs ps) ∧ ps.length = ks.length ∧ ws = ps.map (fun p => (Value.ref p.2.1, p.2.2)) ∧ ∀ p ∈ ps, H p.2.1 = some (.tup (p.1.map kV))
  | [], ws, acc, xs, r, v, _ => by
    cases v
    exact ⟨[], r, rfl, rfl, fun _ m => (nomatch m)⟩
  | k :: ks, ws, acc, xs, r, v, h => by
    rw [List.map_cons] at v
    cases v with
    | @cons _ q _ ws hq t =>
      obtain ⟨a1, a2⟩ := hq
      have a1 : q.1 = Value.ref k.2.1 := a1
      obtain ⟨ps, e1, e2, e3, e4⟩ := kt_all (r.put k.1 (h k List.mem_cons_self) a2) t fun k' hk' => h k' (List.mem_cons_of_mem _ hk')
      refine ⟨(k.1, k.2.1, q.2) :: ps, e1, by rw [List.length_cons, e2, List.length_cons], ?_, fun p hp => ?_⟩
      · rw [List.map_cons, ← e3, ← a1]
      · rcases List.mem_cons.mp hp with rfl | hp
        · exact h k List.mem_cons_self
        · exact e4 p hp
theorem carries_all {P : Program} {w : World} {h : Heap} : ∀ {ps : List (List Key × Addr × Value)}, (∀ p ∈ ps, (tupleKind (mixKind P w)).is h p.1 p.2.1) → CarriesH (tupleKind (mixKind P w)) h (ps.map fun p => (Value.ref p.2.1, p.2.2)) ps
  | [], _ => True.intro
  | p :: ps, a => ⟨rfl, rfl, a p List.mem_cons_self, carries_all fun q hq => a q (List.mem_cons_of_mem _ hq)⟩
theorem pe_dispT {X : Cx} {pos : Pos} {keys : List (Option Expr)} {values : List Expr} {trs : List (TE × TE)} (hu : X.A.units + 1 < cLine) (h : PPs X pos keys values trs) (hall : keys.all (·.isSome) = true) (hl : keys.length = values.length) (h0 : keys ≠ [])
    (h15 : keys.length ≤ 15) : PE X (.Dict keys values pos) (tDispT trs) := by
  refine ⟨fun pins s σ H Q I q => ?_⟩
  have nn := I.hok.fresh (Nat.le_refl s.heap.objs.size)
  have I1 := I.laid (a := s.heap.objs.size) (o := .dT []) (t' := s.toks) (fun _ _ z => Heap.get?_push_of_some _ z) (Nat.le_refl _) (dt_empty s.heap I.big)
  have ln := pairTrees_length keys values X.env pos hall hl
  have ne : pairTrees keys values X.env pos ≠ [] := fun e => by
    rw [e] at ln
    exact h0 (List.length_eq_zero_iff.mp ln.symm)
  rw [arm_eval_Dict, zip_pairTrees keys values X.env pos hall hl, dictDisplay_pairs _ ne (by omega)]
  refine wpAny_bind (wpAny_standAt (wpAny_bind ?_))
  refine wpAny_subDictH (knd := tupleKind (mixKind X.prog X.w)) (show (tupleKind (mixKind X.prog X.w)).room X.A from Nat.lt_of_succ_lt hu) (by omega) ?_
  refine thn (h.run pins _ σ _ _ I1 (q _ nn)) fun ws s2 z => ?_
  obtain ⟨ps, H2, I2, rel, e, ks, rfl, hk, lk, q2⟩ := z
  obtain ⟨lo, hs, xs, rk, dd⟩ := dt_of I2.hok e
  cases rk
  obtain ⟨rs, k1, k2, rfl, k4⟩ := kt_all (H := H2) (acc := []) (xs := []) .nil rel hk
  refine ⟨rs, carries_all fun p hp => key_of I2.hok (k4 p hp), dd, fun h' tk dd' ext => wpAny_pure ⟨.ref s.heap.objs.size, _, ?_, rfl, q2⟩⟩
  have k1' := k1.keeps (H' := upd H2 s.heap.objs.size (.dT (allT [] ks))) fun c ys ec => by
    have n : c ≠ s.heap.objs.size := fun z => by
      rw [z, e] at ec
      cases ec
    rw [upd_ne n]
    exact ec
  have lz : (allT [] ks).length ≤ sizeLine := by
    have := allT_len ks []
    rw [List.length_nil] at this
    rw [sizeLine_eq]
    omega
  have ⟨o, es, ep, ho, h2, h3, h4, _, h5⟩ := dd'
  exact d_write I2 (by rw [e]; exact True.intro) ext ⟨o, ho⟩ ⟨lz, hs, _, k1', o, es, ep, ho, h2, h3, h4, h5⟩
end Mk

set_option Elab.async false
set_option linter.all false
set_option maxRecDepth 100000
set_option maxHeartbeats 1000000
/-! _direct_costs -/
namespace Mk
open PySem PySem.Spec L2 PyProof.Rows

abbrev sDirC : Stmt := top 32
/-- all but the dict at c stands, and at c the ways of D have their costs -/
structure Wy (H0 H1 : Hp) (c : Addr) (D : STab) : Prop where
  same : ∀ b o, b ≠ c → H0 b = some o → H1 b = some o
  out : H1 c = some (.dT (kvsS D))
theorem Wy.new {H0 H1 : Hp} {c t : Addr} {D : STab} {o : HO} (W : Wy H0 H1 c D) (ht : H1 t = none) : Wy H0 (upd H1 t o) c D := by
  refine ⟨fun b u n e => ?_, ?_⟩
  · have := W.same b u n e
    rw [upd_ne (ne_of_none this ht)]
    exact this
  · rw [upd_ne (ne_of_none W.out ht)]
    exact W.out
theorem Wy.get {H0 H1 : Hp} {c t : Addr} {D : STab} {x y : Str} (W : Wy H0 H1 c D) (ht : H1 t = none) (hk : (x, y) ∈ D.map (·.1)) : DGet (upd H1 t (.tup [.str x, .str y])) c (.ref t) (some (V.int (look D (x, y)))) :=
  .inr ⟨kvsS D, keyOf (x, y), t, .inl (W.new ht).out, rfl, upd_same, (valS hk).symm⟩
theorem Wy.put {H0 H1 : Hp} {c t : Addr} {D : STab} {x y : Str} {i : Int} (W : Wy H0 H1 c D) (ht : H1 t = none) (hl : D.length < 1000) : ∃ H4, DPut (upd H1 t (.tup [.str x, .str y])) c (.ref t) (.int i) H4 ∧ Wy H0 H4 c (setT D (x, y) i) := by
  have W2 := W.new (o := .tup [.str x, .str y]) ht
  refine ⟨_, .inr ⟨kvsS D, keyOf (x, y), t, W2.out, rfl, upd_same, ?_, rfl⟩, fun b u n e => ?_, ?_⟩
  · rw [kvsS_len]
    exact Nat.lt_of_lt_of_le hl (by decide)
  · rw [upd_ne n]
    exact W2.same b u n e
  · rw [upd_same, putS_set]
theorem getP {H : Hp} {d : Addr} {t : PTab} {k : Str} (h : Rd H d (.dK (kvsP t))) (hk : k ∈ t.map (·.1)) : DGet H d (.str k) (some (V.int (look t k))) := .inl ⟨kvsP t, Sum.inr k, h, rfl, (valP hk).symm⟩
theorem dget_S (t : STab) (k : Str × Str) (z : Int) : (valV (kvsS t) (keyOf k)).getD (V.int z) = V.int (dget t k z) := by
  unfold dget
  by_cases m : k ∈ t.map (·.1)
  · rw [valS m, if_pos m]
    rfl
  · rw [noS m, if_neg m]
    rfl
def spDir : Sp := fun vs H Q _ => ∃ (p o s : Addr) (t1 t2 : PTab) (t3 : STab), vs = [.ref p, .ref o, .ref s] ∧ p ≠ o ∧ Tabs H p o s t1 t2 t3 ∧ (∀ k ∈ t1.map (·.1), k ∈ t2.map (·.1)) ∧ t1.length ≤ 5 ∧
  ∀ H' c, Same H H' → H c = none → H' c = some (.dT (kvsS (dir t1 t2 t3))) → Q (.ref c) H'
abbrev nDir : List Str := ["put", "out", "swap", "costs", "one", "other"]
section
variable {P : Program} {w : World} {K : PySem.W.Frag} {mg : Str → Option Value} {base : Heap}
theorem scDirC : FnScope nDir ["put", "out", "swap"] (defScope sDirC) := ⟨rfl, rfl, rfl, by decide +kernel, rfl, by decide +kernel, by decide +kernel⟩
theorem ok_dir {f : Addr} {fd : FuncData} (F : Fun K "_direct_costs" "_direct_costs" sDirC f fd) : FnOk P w K mg base CX0 1 f fd ["put", "out", "swap"] spDir := by
  refine F.ok scDirC (fun vs H Q E h => ?_) (fun cdv A outer s H vs Q E hr h => ?_)
  · obtain ⟨p, o, s, t1, t2, t3, rfl, _⟩ := h
    rfl
  · have hu := hu_of hr
    obtain ⟨p, o, s, t1, t2, t3, rfl, po, hT, sub, hl, q⟩ := h
    refine ⟨_, pss_cons (ps_set (i := 3) scDirC.nd rfl (.inl rfl) (pe_dispT hu (pps_cons (pe_tup (pa_cons pe_str (pa_cons pe_str pa_nil))) pe_int pps_nil) rfl rfl (by decide) (by decide)))
      (pss_cons (ps_lock (ps_for PassesOwn.never rfl (pi_keys (pv 0)) (pg_name (i := 4) scDirC.nd rfl (.inl rfl))
        (pss_cons (ps_dput hu (pv 3) (pe_tup (pa_cons pe_str (pa_cons (pv 4) pa_nil))) (pe_dget hu (pv 0) (pv 4) (fun _ _ => rfl)) rfl)
        (pss_cons (ps_dput hu (pv 3) (pe_tup (pa_cons (pv 4) (pa_cons pe_str pa_nil))) (pe_dget hu (pv 1) (pv 4) (fun _ _ => rfl)) rfl)
        (pss_cons (ps_for PassesOwn.never rfl (pi_keys (pv 0)) (pg_name (i := 5) scDirC.nd rfl (.inl rfl))
          (pss_one (ps_dput hu (pv 3) (pe_tup (pa_cons (pv 4) (pa_cons (pv 5) pa_nil))) (pe_dget2 hu (pv 2) (pe_tup (pa_cons (pv 4) (pa_cons (pv 5) pa_nil))) (pe_op op_add (pe_dget hu (pv 1) (pv 4) (fun _ _ => rfl)) (pe_dget hu (pv 0) (pv 5) (fun _ _ => rfl))) ⟨rfl, rfl, rfl, rfl⟩) rfl)))
        (pss_one (ps_dput hu (pv 3) (pe_tup (pa_cons (pv 4) (pa_cons (pv 4) pa_nil))) pe_int rfl)))))))
      (pss_one (ps_ret (pv 3)))), ?_⟩
    have n2 : 2 ≤ sizeLine := by decide
    refine fun c hc => ⟨n2, fun t ht => ⟨?_, [([Sum.inr "", Sum.inr ""], t, V.int 0)], rfl, ?_, (by show 1 ≤ 15; decide), ?_⟩⟩
    · rw [upd_ne (ne_of_none upd_same ht)]
      exact upd_same
    · intro k hk
      rw [List.mem_singleton.mp hk]
      exact upd_same
    have hH0 : ∀ b u, H b = some u → (upd (upd (upd H c (.dT [])) t (.tup [.str "", .str ""])) c (.dT (allT [] [([Sum.inr "", Sum.inr ""], t, V.int 0)]))) b = some u := fun b u e => by
      have h1 := ne_of_none e hc
      have h2 : (upd H c (.dT [])) b = some u := by rw [upd_ne h1]; exact e
      rw [upd_ne h1, upd_ne (ne_of_none h2 ht)]
      exact h2
    have hc0 : (upd (upd (upd H c (.dT [])) t (.tup [.str "", .str ""])) c (.dT (allT [] [([Sum.inr "", Sum.inr ""], t, V.int 0)]))) c = some (.dT (kvsS dir0)) := upd_same
    generalize upd (upd (upd H c (.dT [])) t (.tup [.str "", .str ""])) c (.dT (allT [] [([Sum.inr "", Sum.inr ""], t, V.int 0)])) = H0 at hH0 hc0 ⊢
    have pc : p ≠ c := ne_of_none hT.p hc
    have oc : o ≠ c := ne_of_none hT.o hc
    have sc : s ≠ c := ne_of_none hT.s hc
    refine ⟨p, _, hH0 _ _ hT.p, trivial, fun od => ⟨_, rfl, p, od, rfl, .inl ⟨kvsP t1, upd_same, ?_⟩⟩⟩
    have hL : ∀ b u, b ≠ p → H0 b = some u → (upd H0 p (.frz od (.dK (kvsP t1)))) b = some u := fun b u n e => by
      rw [upd_ne n]
      exact e
    have ep : (upd H0 p (.frz od (.dK (kvsP t1)))) p = some (.frz od (.dK (kvsP t1))) := upd_same
    have eo := hL o _ po.symm (hH0 _ _ hT.o)
    have es := hL s _ (fun e => by
      have h1 := hT.s
      rw [e, hT.p] at h1
      cases h1) (hH0 _ _ hT.s)
    have ec := hL c _ pc.symm hc0
    generalize hHL : upd H0 p (.frz od (.dK (kvsP t1))) = HL at hL ep eo es ec ⊢
    have lk : (t1.map (·.1)).length ≤ 5 := by rw [List.length_map]; exact hl
    refine for_it (walk_keys (d := p) (o := od) (kvs := kvsP t1)) (fun i σ H1 => (∃ u v, σ = [some (.ref p), some (.ref o), some (.ref s), some (.ref c), u, v]) ∧ Wy HL H1 c (dirL t1 t2 t3 (t1.map (·.1)) ((t1.map (·.1)).take i))) ?_ (fun i σ H1 _ h1 => h1.2.same _ _ pc ep) ?_ ?_
    · exact ⟨⟨_, _, rfl⟩, fun b u _ e => e, ec⟩
    · rintro i x σ H1 H2 hi ⟨⟨u, v, rfl⟩, W⟩ ⟨rfl, k, vv, hx, rfl⟩
      have hi2 : i < t1.length := by rwa [kvsP_len] at hi
      rw [kvsP_at hi2] at hx
      cases hx
      have mk : t1[i].1 ∈ t1.map (·.1) := List.mem_map.mpr ⟨_, List.getElem_mem hi2, rfl⟩
      have hi3 : i < (t1.map (·.1)).length := by rwa [List.length_map]
      have eone : (t1.map (·.1))[i] = t1[i].1 := List.getElem_map _
      have nx : dirL t1 t2 t3 (t1.map (·.1)) ((t1.map (·.1)).take (i + 1)) = dirO t1 t2 t3 (t1.map (·.1)) (dirL t1 t2 t3 (t1.map (·.1)) ((t1.map (·.1)).take i)) t1[i].1 := by
        rw [← eone]
        exact foldl_take _ _ _ hi3
      have lD : (dirL t1 t2 t3 (t1.map (·.1)) ((t1.map (·.1)).take i)).length ≤ 41 := by
        have a := dirL_len t1 t2 t3 (t1.map (·.1)) ((t1.map (·.1)).take i) dir0
        have b : ((t1.map (·.1)).take i).length ≤ 5 := by rw [List.length_take]; omega
        have c : ((t1.map (·.1)).take i).length * ((t1.map (·.1)).length + 3) ≤ 5 * 8 := Nat.mul_le_mul b (by omega)
        have d : dir0.length = 1 := rfl
        exact Nat.le_trans a (by omega)
      rw [nx]
      generalize dirL t1 t2 t3 (t1.map (·.1)) ((t1.map (·.1)).take i) = D at W lD ⊢
      generalize t1[i].1 = one at mk ⊢
      clear nx eone hi hi2 hi3
      have fp : ∀ {H1 : Hp} {D : STab}, Wy HL H1 c D → Rd H1 p (.dK (kvsP t1)) := fun W => .inr ⟨od, W.same _ _ pc ep⟩
      have fo : ∀ {H1 : Hp} {D : STab}, Wy HL H1 c D → Rd H1 o (.dK (kvsP t2)) := fun W => .inl (W.same _ _ oc eo)
      refine ⟨_, rfl, _, rfl, p, _, rfl, getP (fp W) mk, _, rfl, _, rfl, n2, fun a1 ha1 => ?_⟩
      obtain ⟨H3, d3, W3⟩ := W.put (x := "") (y := one) (i := look t1 one) ha1 (by omega)
      refine ⟨c, H3, rfl, d3, ?_⟩
      refine ⟨_, rfl, _, rfl, o, _, rfl, getP (fo W3) (sub _ mk), _, rfl, _, rfl, n2, fun a2 ha2 => ?_⟩
      have l3 := len_setT D (("" : Str), one) (look t1 one)
      obtain ⟨H4, d4, W4⟩ := W3.put (x := one) (y := "") (i := look t2 one) ha2 (by omega)
      refine ⟨c, H4, rfl, d4, ?_⟩
      have l4 := len_setT (setT D (("" : Str), one) (look t1 one)) (one, ("" : Str)) (look t2 one)
      have e4 : setT (setT D (("" : Str), one) (look t1 one)) (one, ("" : Str)) (look t2 one) = dirA t1 t2 D one := rfl
      rw [e4] at l4 W4
      refine ⟨_, rfl, p, od, rfl, .inl ⟨kvsP t1, W4.same _ _ pc ep, ?_⟩⟩
      refine for_it (walk_keys (d := p) (o := od) (kvs := kvsP t1)) (fun j σ H1 => (∃ v, σ = [some (.ref p), some (.ref o), some (.ref s), some (.ref c), some (.str one), v]) ∧ Wy HL H1 c (dirI t1 t2 t3 one ((t1.map (·.1)).take j) (dirA t1 t2 D one))) ?_ (fun i σ H1 _ h1 => h1.2.same _ _ pc ep) ?_ ?_
      · exact ⟨⟨_, rfl⟩, W4⟩
      · rintro j x σ H5 H6 hj ⟨⟨v, rfl⟩, W5⟩ ⟨rfl, k, vv, hx, rfl⟩
        have hj2 : j < t1.length := by rwa [kvsP_len] at hj
        rw [kvsP_at hj2] at hx
        cases hx
        have mo : t1[j].1 ∈ t1.map (·.1) := List.mem_map.mpr ⟨_, List.getElem_mem hj2, rfl⟩
        have hj3 : j < (t1.map (·.1)).length := by rwa [List.length_map]
        have nx : dirI t1 t2 t3 one ((t1.map (·.1)).take (j + 1)) (dirA t1 t2 D one) = dirS t1 t2 t3 one (dirI t1 t2 t3 one ((t1.map (·.1)).take j) (dirA t1 t2 D one)) t1[j].1 := by
          have e : (t1.map (·.1))[j] = t1[j].1 := List.getElem_map _
          rw [← e]
          exact foldl_take _ _ _ hj3
        have l5 := dirI_len t1 t2 t3 one ((t1.map (·.1)).take j) (dirA t1 t2 D one)
        rw [List.length_take] at l5
        rw [nx]
        generalize dirI t1 t2 t3 one ((t1.map (·.1)).take j) (dirA t1 t2 D one) = D5 at W5 l5 ⊢
        generalize t1[j].1 = other at mo ⊢
        have hs5 := W5.same _ _ sc es
        refine ⟨_, rfl, s, rfl, .inr ⟨_, .inl hs5⟩, _, rfl, _, rfl, n2, fun a3 ha3 => ?_⟩
        have W6 := W5.new (o := .tup [.str one, .str other]) ha3
        refine ⟨_, rfl, _, rfl, o, _, rfl, getP (fo W6) (sub _ mk), _, rfl, _, rfl, p, _, rfl, getP (fp W6) mo, _, _, rfl, rfl, _, .inr ⟨kvsS t3, keyOf (one, other), a3, .inl (W6.same _ _ sc es), rfl, upd_same, rfl⟩, ?_⟩
        rw [dget_S]
        refine ⟨_, rfl, _, rfl, _, rfl, n2, fun a4 ha4 => ?_⟩
        obtain ⟨H7, d7, W7⟩ := W6.put (x := one) (y := other) (i := dget t3 (one, other) (look t2 one + look t1 other)) ha4 (by omega)
        exact ⟨c, H7, rfl, d7, ⟨_, rfl⟩, W7⟩
      · rintro σ H5 ⟨⟨v, rfl⟩, W5⟩
        rw [kvsP_len, ← List.length_map (f := fun x : Str × Int => x.1), List.take_length] at W5
        have l5 := dirI_len t1 t2 t3 one (t1.map (·.1)) (dirA t1 t2 D one)
        refine ⟨_, rfl, _, rfl, _, rfl, n2, fun a3 ha3 => ?_⟩
        obtain ⟨H7, d7, W7⟩ := W5.put (x := one) (y := one) (i := 0) ha3 (by omega)
        exact ⟨c, H7, rfl, d7, ⟨_, _, rfl⟩, W7⟩
    · rintro σ H1 ⟨⟨u, v, rfl⟩, W⟩
      rw [kvsP_len, ← List.length_map (f := fun x : Str × Int => x.1), List.take_length] at W
      refine ⟨W.same _ _ pc ep, _, rfl, q _ c (fun b u e => ?_) hc ?_⟩
      · by_cases hb : b = p
        · subst hb
          rw [hT.p] at e
          cases e
          exact upd_same
        · rw [upd_ne hb]
          exact W.same _ _ (ne_of_none e hc) (hL b u hb (hH0 b u e))
      · rw [upd_ne pc.symm]
        exact W.out
end
end Mk

set_option Elab.async false
set_option linter.all false
set_option maxRecDepth 100000
set_option maxHeartbeats 4000000
namespace Mk
open PySem PySem.Spec L2 PyProof.Rows

abbrev sWithP : Stmt := inClass (top 22) 10
/-- what a deed makes of the tables -/
def Deed (t1 t2 : PTab) (t3 : STab) (xs : List Str) (v : V) (r1 r2 : PTab) (r3 : STab) : Prop :=
  (∃ (s : Str) (i : Int), xs = [("put" : Str), s] ∧ s ∈ t1.map (·.1) ∧ v = .int i ∧ nwB i 1 9 = true ∧ r1 = setT t1 s i ∧ r2 = t2 ∧ r3 = t3) ∨
  (∃ (s : Str) (i : Int), xs = [("out" : Str), s] ∧ s ∈ t1.map (·.1) ∧ v = .int i ∧ nwB i 1 9 = true ∧ r1 = t1 ∧ r2 = setT t2 s i ∧ r3 = t3) ∨
  (∃ (a b : Str), xs = [("swap" : Str), a, b] ∧ a ∈ t1.map (·.1) ∧ b ∈ t1.map (·.1) ∧ a ≠ b ∧ r1 = t1 ∧ r2 = t2 ∧ ((v = .non ∧ r3 = delT t3 (a, b)) ∨ ∃ i, v = .int i ∧ nwB i 1 18 = true ∧ r3 = setT t3 (a, b) i ∧ r3.length ≤ 20))
/-- a def of the class that is read as a property -/
abbrev tb (a b c : Addr) : List (Key × V) := [(Sum.inr ("put" : Str), V.ref a), (Sum.inr ("out" : Str), V.ref b), (Sum.inr ("swap" : Str), V.ref c)]
theorem kn {a b : Str} (h : ¬ a = b) : ¬ (Sum.inr a : Key) = Sum.inr b := fun z => h (Sum.inr.inj z)
theorem tb_eq (a b c : Addr) : mergeK [] (tb a b c) = tb a b c := by
  have n1 : ¬ ("put" : Str) = "out" := by decide +kernel
  have n2 : ¬ ("put" : Str) = "swap" := by decide +kernel
  have n3 : ¬ ("out" : Str) = "swap" := by decide +kernel
  unfold mergeK tb
  simp only [List.foldl_cons, List.foldl_nil]
  rw [putK_new _ (show valV ([] : List (Key × V)) (Sum.inr "put") = none from rfl), List.nil_append, putK_new _ ((valV_neg (kn n1)).trans rfl), List.singleton_append, putK_new _ ((valV_neg (kn n2)).trans ((valV_neg (kn n3)).trans rfl))]
  rfl
theorem tb_put (a b c : Addr) : valV (tb a b c) (Sum.inr "put") = some (V.ref a) := valV_pos rfl
theorem tb_out (a b c : Addr) : valV (tb a b c) (Sum.inr "out") = some (V.ref b) := (valV_neg (kn (by decide +kernel))).trans (valV_pos rfl)
theorem tb_swap (a b c : Addr) : valV (tb a b c) (Sum.inr "swap") = some (V.ref c) := (valV_neg (kn (by decide +kernel))).trans ((valV_neg (kn (by decide +kernel))).trans (valV_pos rfl))
theorem Agree.del3 {t1 t2 : PTab} {t3 : STab} {k : Str × Str} (a : Agree t1 t2 t3) : Agree t1 t2 (delT t3 k) where
  sg := a.sg
  nd := a.nd
  l1 := a.l1
  pm := a.pm
  l3 := Nat.le_trans (List.length_filter_le _ _) a.l3
  pr := fun p hp => a.pr p (delT_mem hp)
theorem Agree.set3 {t1 t2 : PTab} {t3 : STab} {x y : Str} {i : Int} (a : Agree t1 t2 t3) (hx : x ∈ t1.map (·.1)) (hy : y ∈ t1.map (·.1)) (hxy : x ≠ y) (hl : (setT t3 (x, y) i).length ≤ 20) : Agree t1 t2 (setT t3 (x, y) i) where
  sg := a.sg
  nd := a.nd
  l1 := a.l1
  pm := a.pm
  l3 := hl
  pr := fun p hp => by
    rcases setT_mem hp with hp | rfl
    · exact a.pr p hp
    · exact ⟨hx, hy, hxy⟩
theorem right_1 {t1 t2 : PTab} {t3 : STab} {k : Str} {i : Int} (h : rightB t1 t2 t3 = true) (hi : nwB i 1 9 = true) : rightB (setT t1 k i) t2 t3 = true := by
  unfold rightB at *
  simp only [Bool.and_eq_true, Bool.not_eq_true'] at *
  refine ⟨okP_set h.1 hi, ?_, h.2.2⟩
  cases t1 with
  | nil => exact absurd h.2.1 (by simp)
  | cons p r =>
    unfold setT
    split <;> simp
theorem right_2 {t1 t2 : PTab} {t3 : STab} {k : Str} {i : Int} (h : rightB t1 t2 t3 = true) (hi : nwB i 1 9 = true) : rightB t1 (setT t2 k i) t3 = true := by
  unfold rightB at *
  simp only [Bool.and_eq_true, Bool.not_eq_true'] at *
  exact ⟨h.1, h.2.1, okP_set h.2.2.1 hi, h.2.2.2⟩
theorem right_3 {t1 t2 : PTab} {t3 u3 : STab} (h : rightB t1 t2 t3 = true) (hu : okS t3 18 = true → okS u3 18 = true) : rightB t1 t2 u3 = true := by
  unfold rightB at *
  simp only [Bool.and_eq_true, Bool.not_eq_true'] at *
  exact ⟨h.1, h.2.1, h.2.2.1, hu h.2.2.2⟩
structure Pd (P : Program) (w : World) (K : PySem.W.Frag) (mg : Str → Option Value) (base : Heap) (C : Addr) (k : Nat) (f : Str) (sp : Sp) : Prop where
  ex : ∃ (p g : Addr) (fd : FuncData), PropOf K C f p g ∧ FnOk P w K mg base CX0 k g fd ["self"] sp ∧ Binds K fd ["self"] []
section
variable {P : Program} {w : World} {K : PySem.W.Frag} {mg : Str → Option Value} {base : Heap}
def spWith (C : Addr) : Sp := fun vs H Q _ => ∃ (x c : Addr) (v : V) (xs : List Str) (t1 t2 : PTab) (t3 : STab) (r1 r2 : PTab) (r3 : STab), vs = [.ref x, .ref c, v] ∧ PrAt C H x t1 t2 t3 ∧ H c = some (.tup (xs.map V.str)) ∧ Agree t1 t2 t3 ∧ (t3.map (·.1)).Nodup ∧ rightB t1 t2 t3 = true ∧ Srt t1 t2 t3 ∧ Deed t1 t2 t3 xs v r1 r2 r3 ∧
  ∀ H' y u1 u2 u3, Same H H' → H y = none → PrAt C H' y u1 u2 u3 → u1.Perm r1 → u2.Perm r2 → u3.Perm r3 → Srt u1 u2 u3 → Q (.ref y) H'
end
end Mk

set_option Elab.async false
set_option linter.all false
set_option maxRecDepth 100000
set_option maxHeartbeats 4000000
/-! a class's own len, in, str, == and != -/
namespace Mk
open PySem PySem.Spec L2 PyProof.Rows

/-- the def g of the class at C under this name -/
structure OwnD (K : PySem.W.Frag) (C g : Addr) (name : Str) : Prop where
  find : PySem.W.findIn K (.ref C) name = some (some (.ref g))
  fn : PySem.W.isFn K (.ref g) = true
/-- it, with its promise -/
structure OwnF (X : Cx) (C : Addr) (n : Nat) (name : Str) (ps : List Str) (sp : Sp) : Prop where
  ex : ∃ (g : Addr) (fd : FuncData), OwnD X.K C g name ∧ FnOk X.prog X.w X.K X.mg X.base CX0 n g fd ps sp ∧ Binds X.K fd ps []
section
variable {X : Cx} {n : Nat} {C g : Addr} {fd : FuncData} {ps : List Str} {sp : Sp} {pins : List (Addr × Obj)} {σ : L2.St} {H : Hp} {s : Shared} {name : Str} {Q : VK}
theorem own_run (F : FnOk X.prog X.w X.K X.mg X.base CX0 n g fd ps sp) (hb : Binds X.K fd ps []) {A : Around} (sb : Sub X n A) (I : Inv X pins σ H s) {vs : List V} {us : List Value} (r : Vals vs us) (hsp : sp vs H Q (fun _ _ _ => False)) :
    wpAny (model X.prog X.w) A (call (.ref g) us) (fun v s' => ∃ x H', Inv X pins σ H' s' ∧ RelV x v ∧ Q x H') X.xe s := by
  have e1 := I.env0
  have e0 : Env0 X.prog X.w X.K X.mg X.base A X.stack s H := ⟨sb.fr.trans e1.frames, e1.mod, e1.bs, e1.bsz, e1.funs, e1.frf, e1.hok, e1.bare⟩
  have lu : us.length = ps.length := r.length.symm.trans (F.len _ _ _ _ hsp)
  have bd := hb s us I.kIn (by simpa using lu)
  rw [List.append_nil] at bd
  refine wpAny_call (codeAny_mono (F.run A X.stack s H ⟨us, []⟩ us vs Q _ sb.room e0 bd r hsp) fun res s' z => ?_)
  match res, z with
  | .error e, z => exact pass0 pins σ H s e s' I z
  | .ok (.ret u), z => exact I.after z
  | .ok .next, z => exact z.elim
  | .ok .brk, z => exact z.elim
  | .ok .cont, z => exact z.elim
theorem sub_1 {A : Around} (hr : Room (n + 1) X.A) : Sub X n X.A.in1 := ⟨hr.in1, rfl⟩
theorem sub_2 {A : Around} (hr : Room (n + 2) X.A) : Sub X n X.A.in1.in1 := ⟨hr.in1.in1, rfl⟩
/-- what stands behind a token more -/
theorem inv_tok {t : Nat} (I : Inv X pins σ H s) : Inv X pins σ H { s with toks := t } := by
  have := I.kept (h' := s.heap) (t' := t) fun _ _ e => e
  exact this
theorem call_len_own (O : OwnF X C n "__len__" ps sp) (hr : Room (n + 1) X.A) : CallR X (.builtin "len") (fun xs H Q => ∃ a dx fs, xs = [.ref a] ∧ H a = some (.ins C dx fs) ∧ sp [.ref a] H (fun v H' => ∃ k : Nat, v = .int k ∧ k < 2 ^ 63 ∧ Q v H') (fun _ _ _ => False)) := by
  intro pins s σ H xs us Q I r h
  obtain ⟨a, dx, fs, rfl, ha, h⟩ := h
  obtain ⟨u, rfl, hu⟩ := vals1 r
  obtain rfl : u = Value.ref a := hu
  obtain ⟨g, fd, D, F, hb⟩ := O.ex
  obtain ⟨mA, J, _⟩ := ins_get I.hok ha
  obtain ⟨od, J, _⟩ := J.look
  obtain ⟨m, hF⟩ := I.fr
  refine PySem.W.len_K hF I.ok.mod.kin J D.find D.fn (wpAny_mono (own_run F hb (sub_1 (A := X.A) hr) I r h) (fun v s' z => ?_) fun _ _ z => z)
  obtain ⟨x, H', I', rx, k, rfl, hk, q⟩ := z
  obtain ⟨t, rfl⟩ := rx
  exact ⟨⟨by omega, by omega⟩, .int k, H', inv_tok I', ⟨_, rfl⟩, q⟩
/-- x in o -/
def rInOwn (C : Addr) (sp : Sp) : R2 := fun x y H Q => ∃ a dx fs, y = .ref a ∧ H a = some (.ins C dx fs) ∧ sp [.ref a, x] H (fun v H' => ∃ b, v = .bl b ∧ Q v H') (fun _ _ _ => False)
theorem op_in_own (O : OwnF X C n "__contains__" ps sp) (hr : Room n X.A) : OpR X (compareOp .In) (rInOwn C sp) := by
  intro pins s σ H x y v u Q I rx ry h
  obtain ⟨a, dx, fs, rfl, ha, h⟩ := h
  obtain rfl : u = Value.ref a := ry
  obtain ⟨g, fd, D, F, hb⟩ := O.ex
  obtain ⟨mA, J, _⟩ := ins_get I.hok ha
  obtain ⟨od, J, _⟩ := J.look
  obtain ⟨m, hF⟩ := I.fr
  refine PySem.W.in_K hF I.ok.mod.kin J D.find D.fn (wpAny_mono (own_run (vs := [.ref a, x]) F hb ⟨hr, rfl⟩ I (.cons rfl (.cons rx .nil)) h) (fun w s' z => ?_) fun _ _ z => z)
  obtain ⟨x', H', I', rx', b, rfl, q⟩ := z
  obtain rfl : w = Value.bool b := rx'
  exact wpAny_truthy_bool ⟨.bl b, H', I', rfl, q⟩
theorem call_str_own (O : OwnF X C n "__str__" ps sp) (hr : Room (n + 2) X.A) : CallR X (.type "str") (fun xs H Q => ∃ a dx fs, xs = [.ref a] ∧ H a = some (.ins C dx fs) ∧ sp [.ref a] H (fun v H' => ∃ z : Str, v = .str z ∧ Q v H') (fun _ _ _ => False)) := by
  intro pins s σ H xs us Q I r h
  obtain ⟨a, dx, fs, rfl, ha, h⟩ := h
  obtain ⟨u, rfl, hu⟩ := vals1 r
  obtain rfl : u = Value.ref a := hu
  obtain ⟨g, fd, D, F, hb⟩ := O.ex
  obtain ⟨mA, J, _⟩ := ins_get I.hok ha
  obtain ⟨od, J, _⟩ := J.look
  refine PySem.W.kso_call hr.in1.in1.units0 I.kIn J D.find D.fn (wpAny_mono (own_run F hb (sub_2 (A := X.A) hr) I r h) (fun v s' z => ?_) fun _ _ z => z)
  obtain ⟨x, H', I', rx, k, rfl, q⟩ := z
  obtain ⟨t, rfl⟩ := rx
  exact ⟨.str k, H', I', ⟨_, rfl⟩, q⟩
/-- the kind of what stands on the right of o == .. -/
inductive Rgt (K : PySem.W.Frag) (C : Addr) (H : Hp) : V → Prop where
  | ins {b dx : Addr} {fs : List (Str × V)} : H b = some (.ins C dx fs) → Rgt K C H (.ref b)
  | lst {b : Addr} {xs : List V} : H b = some (.lst xs) → PySem.W.subIn K (.type "list") (.ref C) = some false → Rgt K C H (.ref b)
  | int (i : Int) : PySem.W.subIn K (.type "int") (.ref C) = some false → Rgt K C H (.int i)
def rEqOwn (X : Cx) (C : Addr) (sp : Sp) : R2 := fun x y H Q => ∃ a dx fs, x = .ref a ∧ H a = some (.ins C dx fs) ∧ Rgt X.K C H y ∧ sp [.ref a, y] H (fun v H' => ∃ b, v = .bl b ∧ Q v H') (fun _ _ _ => False)
theorem Rgt.looks {M : Model} {y : V} {u : Value} (h : Rgt X.K C H y) (I : Inv X pins σ H s) (r : RelV y u) : ∃ tb, PySem.W.Looks M s.heap (typeOf u) tb ∧ PySem.W.notFirst X.K C tb = true := by
  cases h with
  | ins e =>
    obtain rfl := r
    obtain ⟨mB, J, _⟩ := ins_get I.hok e
    obtain ⟨od, J, _⟩ := J.look
    exact ⟨_, J.type, by simp [PySem.W.notFirst]⟩
  | lst e hs =>
    obtain rfl := r
    obtain ⟨z, its, k, r, e⟩ := I.hok _ _ e
    refine ⟨.type "list", fun A Q E s2 kp q => wpAny_typeOf_ref (kp _ _ e) q, ?_⟩
    unfold PySem.W.notFirst
    rw [hs]
    simp
  | int i hs =>
    obtain ⟨t, rfl⟩ := r
    refine ⟨.type "int", fun A Q E s2 kp q => wpAny_pure q, ?_⟩
    unfold PySem.W.notFirst
    rw [hs]
    simp
theorem op_eq_own (O : OwnF X C n "__eq__" ps sp) (hr : Room n X.A) : OpR X (compareOp .Eq) (rEqOwn X C sp) := by
  intro pins s σ H x y v u Q I rx ry h
  obtain ⟨a, dx, fs, rfl, ha, hy, h⟩ := h
  obtain rfl : v = Value.ref a := rx
  obtain ⟨g, fd, D, F, hb⟩ := O.ex
  obtain ⟨mA, J, _⟩ := ins_get I.hok ha
  obtain ⟨od, J, _⟩ := J.look
  obtain ⟨m, hF⟩ := I.fr
  obtain ⟨tb, hl, hn⟩ := hy.looks (M := model X.prog X.w) I ry
  refine PySem.W.cmp_K (op := .Eq) hr.units0 hF I.ok.mod.kin J hl hn D.find D.fn (wpAny_mono (own_run (vs := [.ref a, y]) F hb ⟨hr, rfl⟩ I (.cons rfl (.cons ry .nil)) h) (fun w s' z => ?_) fun _ _ z => z)
  obtain ⟨x', H', I', rx', b, rfl, q⟩ := z
  obtain rfl : w = Value.bool b := rx'
  exact ⟨.bl b, H', I', rfl, q⟩
/-- what != of an own == leans on -/
structure NeD (K : PySem.W.Frag) (C : Addr) : Prop where
  find : PySem.W.findIn K (.ref C) "__ne__" = some (some (.builtin "object.__ne__"))
  obj : PySem.W.mroIn K C (.type "object") = some true
theorem run_ne (O : OwnF X C n "__eq__" ps sp) (hr : Room (n + 1) X.A) {a dx : Addr} {fs : List (Str × V)} {y : V} {u : Value} (ne : NeD X.K C) (I : Inv X pins σ H s) (ha : H a = some (.ins C dx fs)) (ry : RelV y u) (h : sp [.ref a, y] H (fun v H' => ∃ b, v = .bl b ∧ Q (.bl (!b)) H') (fun _ _ _ => False)) :
    wpAny (model X.prog X.w) X.A (tryCompare (.ref a) "__ne__" u) (fun r s' => ∃ x H' v, r = some v ∧ Inv X pins σ H' s' ∧ RelV x v ∧ Q x H' ∧ ∃ b, v = .bool b) X.xe s := by
  obtain ⟨g, fd, D, F, hb⟩ := O.ex
  obtain ⟨mA, J, _⟩ := ins_get I.hok ha
  obtain ⟨od, J, _⟩ := J.look
  have body : wpAny (model X.prog X.w) X.A.in1 (Builtin.«object.__ne__» ⟨[.ref a, u], []⟩) (fun fin s' => ∃ b H', fin = .done (.ret (.bool (!b))) ∧ Inv X pins σ H' s' ∧ Q (.bl (!b)) H') X.xe s := by
    unfold Builtin.«object.__ne__»
    refine wpAny_bind (m := slotArgs "__ne__" 1 _) (wpAny_pure ?_)
    refine wpAny_bind (m := cRoomFor _ _) (wpAny_cRoomFor hr.in1.units0 ?_)
    refine wpAny_bind (m := callSpecialIfBound? (.ref a) _ _) (PySem.W.ifBound_K I.kIn J D.find D.fn (wpAny_mono (own_run (vs := [.ref a, y]) F hb (sub_1 (A := X.A) hr) I (.cons rfl (.cons ry .nil)) h) (fun w s' z => ?_) fun _ _ z => z))
    obtain ⟨x', H', I', rx', b, rfl, q⟩ := z
    obtain rfl : w = Value.bool b := rx'
    exact wpAny_bind (wpAny_truthy_bool (wpAny_pure ⟨b, H', rfl, I', q⟩))
  unfold tryCompare
  refine wpAny_bind (m := callSpecialIfBound? (.ref a) _ _) ?_
  simp only [callSpecialIfBound?, bindSpecialIfBound?]
  refine wpAny_holding (wpAny_bind (wpAny_bind (wpAny_bind (J.type.here ((PySem.W.looks_findIn I.kIn ne.find).here ?_)))))
  refine wpAny_bind (wpAny_askSetting (wpAny_ite ?_))
  have fin : ∀ R : Option Value → Shared → Prop, (∀ b H' s', Inv X pins σ H' s' → Q (.bl (!b)) H' → R (some (.bool (!b))) s') → wpAny (model X.prog X.w) X.A (call (.builtin "object.__ne__") ([.ref a] ++ [u]) >>= fun v => pure (some v)) R X.xe s := fun R hR => by
    refine wpAny_bind (wpAny_call (codeAny_call_builtin PySem.F.slot_enumerate_ne.plain PySem.F.cmpEntry_ne (PySem.W.check_slot (i := "object.__ne__") (owner := "object") (n := "__ne__") PySem.F.cmpKind_ne PySem.F.cmpSplit_ne (J.type.andThen (PySem.W.looks_mroIn I.kIn ne.obj)) (PySem.F.cmpArgs_ne _ _) ?_)))
    refine wpAny_mono body (fun fn s' z => ?_) fun _ _ z => z
    obtain ⟨b, H', rfl, I', q⟩ := z
    exact wpAny_pure (hR b H' s' I' q)
  have last : ∀ b H' s', Inv X pins σ H' s' → Q (.bl (!b)) H' → ∃ x H'' v, some (Value.bool (!b)) = some v ∧ Inv X pins σ H'' s' ∧ RelV x v ∧ Q x H'' ∧ ∃ b, v = .bool b := fun b H' s' I' q => ⟨.bl (!b), H', _, rfl, I', rfl, q, _, rfl⟩
  split
  · refine wpAny_bind ((PySem.W.Looks.of_pure (PySem.F.slot_enumerate_ne.bind _)).here (wpAny_pure ?_))
    exact fin _ fun b H' s' I' q => wpAny_pure (last b H' s' I' q)
  · refine wpAny_tryCatch (wpAny_bind ((PySem.W.Looks.of_pure (PySem.F.slot_enumerate_ne.bind _)).here (wpAny_pure ?_)))
    exact fin _ fun b H' s' I' q => wpAny_pure (last b H' s' I' q)
def rNeOwn (X : Cx) (C : Addr) (sp : Sp) : R2 := fun x y H Q => ∃ a dx fs, x = .ref a ∧ H a = some (.ins C dx fs) ∧ Rgt X.K C H y ∧ sp [.ref a, y] H (fun v H' => ∃ b, v = .bl b ∧ Q (.bl (!b)) H') (fun _ _ _ => False)
theorem op_ne_own (O : OwnF X C n "__eq__" ps sp) (ne : NeD X.K C) (hr : Room (n + 1) X.A) : OpR X (compareOp .NotEq) (rNeOwn X C sp) := by
  intro pins s σ H x y v u Q I rx ry h
  obtain ⟨a, dx, fs, rfl, ha, hy, h⟩ := h
  obtain rfl : v = Value.ref a := rx
  obtain ⟨mA, J, _⟩ := ins_get I.hok ha
  obtain ⟨od, J, _⟩ := J.look
  obtain ⟨tb, hl, hn⟩ := hy.looks (M := model X.prog X.w) I ry
  have one := run_ne O hr ne I ha ry h
  show wpAny (model X.prog X.w) X.A (richCompare .NotEq (.ref a) u) (EP X pins σ Q) X.xe s
  unfold richCompare
  simp only [oneThing_ref]
  refine wpAny_holding (wpAny_bind (wpAny_cRoomFor hr.units0 ?_))
  refine wpAny_bind (J.type.here (wpAny_bind (hl.here ?_)))
  have fin : ∀ r s', (∃ x H' v, r = some v ∧ Inv X pins σ H' s' ∧ RelV x v ∧ Q x H' ∧ ∃ b, v = .bool b) → ∃ v, r = some v ∧ EP X pins σ Q v s' := fun r s' ⟨x, H', v, e, I', rv, q, _⟩ => ⟨v, e, x, H', I', rv, q⟩
  split
  · rename_i q
    have e : PySem.W.subIn X.K tb (.ref C) = some false := by
      rcases Bool.or_eq_true_iff.mp hn with e | e
      · rw [beq_iff_eq.mp e] at q; simp at q
      · exact beq_iff_eq.mp e
    refine wpAny_bind ((PySem.W.looks_subIn I.kIn e).here ?_)
    simp only [Bool.false_eq_true, if_false]
    refine wpAny_bind (wpAny_mono one (fun r s' z => ?_) fun _ _ e => e)
    obtain ⟨v, rfl, hq⟩ := fin _ _ z
    exact wpAny_pure hq
  · refine wpAny_bind (wpAny_pure ?_)
    simp only [Bool.false_eq_true, if_false]
    refine wpAny_bind (wpAny_mono one (fun r s' z => ?_) fun _ _ e => e)
    obtain ⟨v, rfl, hq⟩ := fin _ _ z
    exact wpAny_pure hq
end
end Mk

set_option Elab.async false
set_option linter.all false
set_option maxRecDepth 100000
set_option maxHeartbeats 1000000
namespace Mk
open PySem PySem.Spec L2 PyProof.Rows

abbrev sContP : Stmt := inClass (top 22) 13
abbrev sHave : Stmt := top 24
/-- data, an empty dict too -/
inductive Da (K : PySem.W.Frag) (H : Hp) : V → PyData → Prop where
  | of {v : V} {d : PyData} : Dp K H v d → SeqAt.shaped d = true → Da K H v d
  | dic {a : Addr} : H a = some (.dK []) → Da K H (.ref a) (.dict [])
/-- it is one of these texts -/
def inS (zs : List Str) : PyData → Bool
  | .str z => decide (z ∈ zs)
  | _ => false
theorem any_inS : ∀ (zs : List Str) (d : PyData), ((zs.map PyData.str).any fun y => PyData.eqv y d) = inS zs d
  | [], .str z => by simp [inS]
  | [], .none | [], .bool _ | [], .int _ | [], .list _ | [], .tuple _ | [], .dict _ => by simp [inS]
  | x :: zs, .str z => by
    have ih := any_inS zs (.str z)
    rw [List.map_cons, List.any_cons, ih]
    unfold inS
    have e : PyData.eqv (.str x) (.str z) = decide (x = z) := by
      show (x == z) = decide (x = z)
      by_cases h : x = z
      · rw [decide_eq_true h, h, beq_self_eq_true]
      · rw [decide_eq_false h, beq_eq_false_iff_ne.mpr h]
    rw [e]
    by_cases h : x = z
    · subst h
      simp
    · have h2 : ¬ z = x := fun k => h k.symm
      simp [h, h2]
  | x :: zs, .none | x :: zs, .bool _ | x :: zs, .int _ | x :: zs, .list _ | x :: zs, .tuple _ | x :: zs, .dict _ => by
    rw [List.map_cons, List.any_cons, any_inS zs _]
    simp [inS, PyData.eqv]
theorem strs_read {h : Heap} : ∀ {zs : List Str} {vs : List Value} {as : List Addr}, ReadsAll h vs (zs.map PyData.str) as → ∀ y ∈ vs, ∃ (z : Str) (t : Tok), y = .str z t
  | [], _, _, .nil, _, hy => nomatch hy
  | z :: zs, _, _, .cons r1 r2, y, hy => by
    rcases List.mem_cons.mp hy with rfl | hy
    · cases r1
      exact ⟨_, _, rfl⟩
    · exact strs_read r2 y hy
theorem lay_strs' (zs : List Str) (h : ∀ z ∈ zs, PyData.strOk z = true) : PyData.canLayAll0 (zs.map PyData.str) = true := lay_strs zs h
section
variable {A : Around} {s : Shared}
/-- a text is no dict -/
theorem eq_str_dict {d : Addr} {o : Obj} {es : Array DictEntry} {ep : Nat} (b : Str) (u : Tok) (ho : s.heap.get? d = some o) (hx : o.ExactDict) (hd : o.data = .dict es ep) (hu : A.units < cLine) : SeqAt.EqAt A s (.str b u) (.ref d) false := fun prog w E Q h => by
  have ty : s.TypeIs (.ref d) "dict" := ⟨o, ho, hx.1⟩
  have f1 : wpAny (model prog w) A (richCompare .Eq (.str b u) (.ref d)) (fun v s' => v = .bool false ∧ s' = s) E s := by
    refine SeqAt.rc_eq_decline_or (k := false) (typeIs_str s b u) ty (by decide) PySem.F.sub_dict_str PySem.F.slot_str_eq PySem.F.slot_dict_eq_refl (fun Q' hq => ?_) (fun Q' hq => ?_) (fun Q' hq => wpAny_of_eq (rfl : isSame (.str b u) (.ref d) = pure false) hq) (.inr hu) ⟨rfl, rfl⟩
    · refine wpAny_call_entry PySem.F.slot_str_eq (typeIs_str s b u) PySem.F.entry_str_eq ?_ (PySem.F.args_str_eq_2 _ _)
      wp_walk using wpAny_load ho
      rw [hd]
      refine wpAny_pure (wpAny_bind (wpAny_rule (wpAny_pure ⟨_, rfl, hq⟩)))
    · refine wpAny_call_entry PySem.F.slot_dict_eq ty PySem.F.entry_dict_eq ?_ (PySem.F.args_dict_eq_2 _ _)
      show wpAny (model prog w) _ (Builtin.Dict.dictSlotArgs "__eq__" ⟨[.ref d, .str b u], []⟩ >>= _) _ _ s
      unfold Builtin.Dict.dictSlotArgs
      refine wpAny_bind (wpAny_bind (wpAny_notOrdered_dict ty ?_))
      show wpAny (model prog w) _ (pure (Value.ref d, Value.str b u)) _ _ s
      refine wpAny_pure (wpAny_bind (wpAny_isInstance (T := "str") (typeIs_str s b u) PySem.F.sub_str_dict ?_))
      simp only [Bool.not_false, ite_true]
      first
        | exact wpAny_bind (wpAny_rule (wpAny_pure ⟨_, rfl, hq⟩))
        | exact wpAny_rule (wpAny_pure ⟨_, rfl, hq⟩)
        | exact wpAny_bind (wpAny_rule (wpAny_bind (wpAny_pure (wpAny_pure ⟨_, rfl, hq⟩))))
  unfold eqBool
  refine wpAny_holding (wpAny_ite_split (fun hab => absurd (eq_of_beq hab) nofun) fun _ => wpAny_bind (wpAny_mono f1 (fun v s' z => ?_) fun _ _ z => z))
  obtain ⟨rfl, rfl⟩ := z
  exact wpAny_truthy_bool h
end
section
variable {X : Cx}
def rInS (K : PySem.W.Frag) : R2 := fun x y H Q => ∃ p d, ∃ zs : List Str, y = .ref p ∧ SqT K H p (zs.map V.str) ∧ (∀ z ∈ zs, PyData.strOk z = true) ∧ Da K H x d ∧ Q (.bl (inS zs d)) H
theorem op_inS (hu : X.A.units + 65 < cLine) : OpR X (compareOp .In) (rInS X.K) := by
  intro pins s σ H x y v u Q I rx ry h
  obtain ⟨p, d, zs, rfl, hp, ok, hd, q⟩ := h
  obtain ⟨bs, r2⟩ := Dp.reads I (.tuple (zs.map PyData.str)) (.ref p) u (.tup hp (dpAll_str zs)) ry
  have dep : PyData.depthAll (zs.map PyData.str) = 0 := depth_strs zs
  have fin : wpAny (model X.prog X.w) X.A (compareOp .In v u) (EP X pins σ Q) X.xe s → wpAny (model X.prog X.w) X.A (compareOp .In v u) (EP X pins σ Q) X.xe s := id
  have last : EP X pins σ Q (Value.bool ((zs.map PyData.str).any fun y => PyData.eqv y d)) s := by
    rw [any_inS]
    exact ⟨.bl (inS zs d), H, I, rfl, q⟩
  cases hd with
  | of h1 h2 =>
    obtain ⟨as, r1⟩ := Dp.reads I d x v h1 rx
    exact SeqAt.in_tuple_reads r2 r1 (lay_strs' zs ok) (SeqAt.canLay_of_shaped h2) (by rw [dep]; omega) last
  | dic h1 =>
    obtain rfl := rx
    obtain ⟨_, _, vs, kv, o, es, ep, ho, hx, hdt, r⟩ := I.hok _ _ h1
    have e0 : vs = [] := by cases kv; rfl
    subst e0
    have ez : es = #[] := by
      have := r.2.1.length
      simpa using this
    subst ez
    have all : ((zs.map PyData.str).any fun y => PyData.eqv y (.dict [])) = false := any_inS zs (.dict [])
    rw [all] at last
    cases r2 with
    | tuple h1 h2 h3 h4 =>
      refine SeqAt.in_tupleAt (fun _ => false) ⟨_, h1, h2, _, h3⟩ (fun y hy => ?_) (by rw [show (Array.any _ fun _ => false) = false from Array.any_eq_false.mpr (by simp)]; exact last)
      obtain ⟨dy, cs, ry, _, _⟩ := SeqAt.readsAll_mem _ _ _ (lay_strs' zs ok) h4 y (by simpa using hy)
      have hs := strs_read h4 y (by simpa using hy)
      obtain ⟨z, tk, rfl⟩ := hs
      exact eq_str_dict z tk ho hx hdt (by show X.A.units + 1 < cLine; omega)
theorem inSK (K : PySem.W.Frag) (hu : X.A.units + 65 < cLine) (hK : X.K = K := by rfl) : OpR X (compareOp .In) (rInS K) := by
  subst hK
  exact op_inS hu
end
def spCont (K : PySem.W.Frag) (C : Addr) : Sp := fun vs H Q _ => ∃ (x : Addr) (v : V) (d : PyData) (t1 t2 : PTab) (t3 : STab), vs = [.ref x, v] ∧ PrAt C H x t1 t2 t3 ∧ (∀ p ∈ t1, sgB p.1 = true) ∧ Da K H v d ∧ Q (.bl (inS (t1.map (·.1)) d)) H
def spHave (C : Addr) : Sp := fun vs H Q _ => ∃ (x t : Addr) (zs : List Str) (t1 t2 : PTab) (t3 : STab), vs = [.ref x, .ref t] ∧ PrAt C H x t1 t2 t3 ∧ (∀ p ∈ t1, sgB p.1 = true) ∧ H t = some (.tup (zs.map V.str)) ∧ zs.length ≤ 4000 ∧ (∀ z ∈ zs, z ∈ t1.map (·.1)) ∧ ∀ H', Same H H' → Q (.bl true) H'
section
variable {P : Program} {w : World} {K : PySem.W.Frag} {mg : Str → Option Value} {base : Heap}
theorem scContP : FnScope ["self", "value"] ["self", "value"] (defScope sContP) := ⟨rfl, rfl, rfl, by decide +kernel, rfl, by decide +kernel, by decide +kernel⟩
theorem ok_contP {f C : Addr} {fd : FuncData} (F : Fun K "__contains__" "Prices.__contains__" sContP f fd) (T : Pc K C) : FnOk P w K mg base CX0 1 f fd ["self", "value"] (spCont K C) := by
  refine F.ok scContP (fun vs H Q E h => ?_) (fun cdv A outer s H vs Q E hr h => ?_)
  · obtain ⟨x, v, d, t1, t2, t3, rfl, _⟩ := h
    rfl
  · obtain ⟨x, v, d, t1, t2, t3, rfl, ⟨dx, t, a, b, e, hx, ht, hT⟩, sg, hd, q⟩ := h
    have hu : A.units + 3 + 65 < cLine := by
      have h2 : A.units + 3 + 16 * 0 + 200 < cLine := hr.un
      omega
    refine ⟨_, pss_one (ps_ret (pe_cmpR (op_inS hu) (pv 1) (pe_fld (pv 0) rfl) (by rfl))), ?_⟩
    exact ⟨_, rfl, _, rfl, x, C, dx, _, _, rfl, hx, T.cl, T.n1, fld_signs t a b e, t, d, t1.map (·.1), rfl, SqT.of ht, fun z hz => by
      obtain ⟨p, hp, rfl⟩ := List.mem_map.mp hz
      exact sg_ok (sg p hp), hd, q⟩
theorem scHave : FnScope ["prices", "signs", "sign"] ["prices", "signs"] (defScope sHave) := ⟨rfl, rfl, rfl, by decide +kernel, rfl, by decide +kernel, by decide +kernel⟩
theorem ok_have {f g C : Addr} {fd fdg : FuncData} (F : Fun K "have_signs" "have_signs" sHave f fd) (O : On mg) (D : OwnD K C g "__contains__") (G : FnOk P w K mg base CX0 1 g fdg ["self", "value"] (spCont K C)) (hb : Binds K fdg ["self", "value"] []) : FnOk P w K mg base CX0 2 f fd ["prices", "signs"] (spHave C) := by
  refine F.ok scHave (fun vs H Q E h => ?_) (fun cdv A outer s H vs Q E hr h => ?_)
  · obtain ⟨x, t, zs, t1, t2, t3, rfl, _⟩ := h
    rfl
  · obtain ⟨x, t, zs, t1, t2, t3, rfl, hx, sg, ht, hl, sub, q⟩ := h
    have inO : ∀ (s0 : Shared) (H0 : Hp) (C0 : Addr) (cl : List (Str × Addr)) (fp : List Addr), True := fun _ _ _ _ _ => trivial
    refine ⟨_, pss_one (ps_ret (pe_callB (cr_all rfl) (by rfl) O.all (by decide +kernel) (pa_cons (pe_lc (own := [("sign", 2)]) (g := gName 2) (tt := tYes) rfl scHave.nd (pi_tup (pv 1)) (blkOk_by (N := ["prices", "signs", "sign"]) (sc := defScope sHave) (by decide +kernel))
          (fun _ _ _ _ _ => pg_name (i := 2) scHave.nd rfl (Or.inl rfl)) (fun _ _ _ _ _ => pts_nil) (fun _ _ _ _ _ => pe_cmpR (op_in_own (n := 1) ⟨g, fdg, D, G, hb⟩ hr) (pv 2) (pv 0) (by rfl))) pa_nil))), ?_⟩
    refine ⟨_, rfl, t, rfl, ⟨_, SqT.of ht⟩, fun D0 hD => wk_any (walk_tup (K := K) (a := t) (xs := zs.map V.str)) (fun i H2 => Same H H2 ∧ H2 D0 = some (.lst ((List.replicate i true).map V.bl))) ⟨Same.new hD, upd_same⟩ (fun i H2 _ h2 => SqT.of (h2.1 _ _ ht)) ?_ ?_⟩
    · rintro i z H2 H3 hi ⟨hS, hL⟩ ⟨rfl, hz⟩
      rw [List.length_map] at hi
      have ez : z = V.str zs[i] := by
        rw [List.getElem?_map, List.getElem?_eq_getElem hi] at hz
        exact (Option.some.inj hz).symm
      subst ez
      obtain ⟨dx, t', a, b, e, hx0, _⟩ := id (hx.same hS)
      have mz := sub _ (List.getElem_mem hi)
      have okz : PyData.strOk zs[i] = true := by
        obtain ⟨p, hp, e⟩ := List.mem_map.mp mz
        rw [← e]
        exact sg_ok (sg p hp)
      refine ⟨rfl, _, rfl, _, rfl, x, dx, _, rfl, hx0, x, V.str zs[i], PyData.str zs[i], t1, t2, t3, rfl, hx.same hS, sg, .of (.str _) (by simp [SeqAt.shaped, PyData.canLay0, PyData.depth, okz]), _, rfl, _, hL, ?_, fun b0 o0 e0 => ?_, ?_⟩
      · rw [List.length_map, List.length_replicate]
        exact Nat.lt_of_lt_of_le (by omega : i < 4000) (by decide)
      · rw [upd_ne (ne_of_none e0 hD)]
        exact hS _ _ e0
      · have e1 : inS (t1.map (·.1)) (.str zs[i]) = true := decide_eq_true mz
        rw [upd_same, e1, List.replicate_succ', List.map_append]
        rfl
    rintro H2 ⟨hS, hL⟩
    have ea : (List.replicate (zs.map V.str).length true).all id = true := List.all_eq_true.mpr fun b hb => (List.mem_replicate.mp hb).2
    refine ⟨_, _, rfl, SqL.of hL, ?_⟩
    rw [ea]
    exact q _ hS
end
end Mk

set_option Elab.async false
set_option linter.all false
set_option maxRecDepth 100000
set_option maxHeartbeats 4000000
namespace Mk
open PySem PySem.Spec L2 PyProof.Rows

abbrev sLimP : Stmt := inClass (top 22) 11
/-- the swaps among these signs -/
def within (t : STab) (zs : List Str) : STab := t.filter fun p => decide (p.1.1 ∈ zs) && (decide (p.1.2 ∈ zs) && decide (p.1.1 ≠ p.1.2))
section
variable {X : Cx}
theorem inSeqK (K : PySem.W.Frag) (hK : X.K = K := by rfl) : OpR X (compareOp .In) (rIn K false) := by
  subst hK
  exact op_in_seq
theorem fldK {o : Expr} {ta : TE} {f : Str} {pos : Pos} (K : PySem.W.Frag) (h : PE X o ta) (hb : attributeBase o f X.env (eval o X.env) = eval o X.env) (hK : X.K = K := by rfl) : PE X (.Attribute o f pos) (tFld K ta f) := by
  subst hK
  exact pe_fld h hb
end
def spLim (C : Addr) : Sp := fun vs H Q _ => ∃ (x t : Addr) (zs : List Str) (t1 t2 : PTab) (t3 : STab), vs = [.ref x, .ref t] ∧ PrAt C H x t1 t2 t3 ∧ H t = some (.tup (zs.map V.str)) ∧ AscSg zs ∧ zs.length ≤ 5 ∧ (∀ z ∈ zs, z ∈ t1.map (·.1)) ∧ Agree t1 t2 t3 ∧ (t3.map (·.1)).Nodup ∧ rightB t1 t2 t3 = true ∧
  ∀ H' y u1 u2 u3, Same H H' → H y = none → PrAt C H' y u1 u2 u3 → u1.Perm (put t1 zs) → u2.Perm (put t2 zs) → u3.Perm (within t3 zs) → Srt u1 u2 u3 → Q (.ref y) H'
theorem lim_agree {zs : List Str} {t1 t2 : PTab} {t3 : STab} (asc : AscSg zs) (hl : zs.length ≤ 5) (a : Agree t1 t2 t3) : Agree (put t1 zs) (put t2 zs) (within t3 zs) where
  sg := fun p hp => by
    obtain ⟨z, hz, rfl⟩ := List.mem_map.mp hp
    exact asc.2.1 z hz
  nd := by
    rw [put_keys]
    exact nodup_lt asc.2.2
  l1 := by
    unfold put
    rw [List.length_map]
    exact hl
  pm := by
    rw [put_keys, put_keys]
  l3 := Nat.le_trans (List.length_filter_le _ _) a.l3
  pr := fun p hp => by
    have h := (List.mem_filter.mp hp).2
    simp only [Bool.and_eq_true, decide_eq_true_eq] at h
    rw [put_keys]
    exact h
theorem okP_put {t : PTab} {zs : List Str} {m : Int} (nd : (t.map (·.1)).Nodup) (sub : ∀ z ∈ zs, z ∈ t.map (·.1)) (h : okP t m = true) : okP (put t zs) m = true := by
  unfold okP at *
  refine List.all_eq_true.mpr fun p hp => ?_
  obtain ⟨z, hz, rfl⟩ := List.mem_map.mp hp
  obtain ⟨r, hr, e⟩ := List.mem_map.mp (sub z hz)
  have := look_mem nd r hr
  rw [e] at this
  show nwB (look t z) 1 m = true
  rw [this]
  exact List.all_eq_true.mp h r hr
theorem lim_right {zs : List Str} {t1 t2 : PTab} {t3 : STab} (asc : AscSg zs) (sub : ∀ z ∈ zs, z ∈ t1.map (·.1)) (a : Agree t1 t2 t3) (h : rightB t1 t2 t3 = true) : rightB (put t1 zs) (put t2 zs) (within t3 zs) = true := by
  unfold rightB at *
  simp only [Bool.and_eq_true, Bool.not_eq_true'] at *
  refine ⟨okP_put a.nd sub h.1, ?_, okP_put (a.pm.nodup_iff.mpr a.nd) (fun z hz => a.pm.mem_iff.mpr (sub z hz)) h.2.2.1, ?_⟩
  · cases zs with
    | nil => exact absurd rfl asc.1
    | cons z l => rfl
  · unfold okS at *
    exact List.all_eq_true.mpr fun p hp => List.all_eq_true.mp h.2.2.2 p (List.mem_filter.mp hp).1
section
variable {P : Program} {w : World} {K : PySem.W.Frag} {mg : Str → Option Value} {base : Heap}
end
end Mk

set_option Elab.async false
set_option linter.all false
set_option maxRecDepth 100000
set_option maxHeartbeats 4000000
namespace Mk
open PySem PySem.Spec L2 PyProof.Rows

abbrev sSignsP : Stmt := inClass (top 22) 2
abbrev sLenP : Stmt := inClass (top 22) 14
def spSigns (C : Addr) : Sp := fun vs H Q _ => ∃ (x : Addr) (t1 t2 : PTab) (t3 : STab), vs = [.ref x] ∧ PrAt C H x t1 t2 t3 ∧ ∀ t, H t = some (.tup ((t1.map (·.1)).map V.str)) → Q (.ref t) H
def spLenP (C : Addr) : Sp := fun vs H Q _ => ∃ (x : Addr) (t1 t2 : PTab) (t3 : STab), vs = [.ref x] ∧ PrAt C H x t1 t2 t3 ∧ Q (.int (t1.length : Nat)) H
section
variable {P : Program} {w : World} {K : PySem.W.Frag} {mg : Str → Option Value} {base : Heap}
theorem scSignsP : FnScope ["self"] ["self"] (defScope sSignsP) := ⟨rfl, rfl, rfl, by decide +kernel, rfl, by decide +kernel, by decide +kernel⟩
theorem ok_signsP {f C : Addr} {fd : FuncData} (F : Fun K "signs" "Prices.signs" sSignsP f fd) (T : Pc K C) : FnOk P w K mg base CX0 1 f fd ["self"] (spSigns C) := by
  refine F.ok scSignsP (fun vs H Q E h => ?_) (fun cdv A outer s H vs Q E hr h => ?_)
  · obtain ⟨x, t1, t2, t3, rfl, _⟩ := h
    rfl
  · obtain ⟨x, t1, t2, t3, rfl, ⟨dx, t, a, b, d, hx, ht, hT⟩, q⟩ := h
    exact ⟨_, pss_one (ps_ret (pe_fld (pv 0) rfl)), _, rfl, x, C, dx, _, _, rfl, hx, T.cl, T.n1, fld_signs t a b d, q t ht⟩
end
end Mk

set_option Elab.async false
set_option linter.all false
set_option maxRecDepth 100000
set_option maxHeartbeats 1000000
namespace Mk
open PySem PySem.Spec L2 PyProof.Rows

abbrev sTimes : Stmt := inClass (top 22) 12
/-- an own exception, made with a text -/
structure ExK (K : PySem.W.Frag) (mg : Str → Option Value) (x : Str) (C : Addr) : Prop where
  gC : mg x = some (.ref C)
  kC : PySem.W.keepIn K (.ref C) = true
  q : PySem.W.excIn K C [.type "ValueError", .type "Exception", .type "BaseException", .type "object"] "ValueError.__new__" = true
  b : PySem.W.subIn K (.ref C) (.type "BaseException") = some true
  t : PySem.W.typeIn K (.ref C) = some (.type "type")
theorem agree_times {t1 t2 : PTab} {t3 : STab} {m : Int} (a : Agree t1 t2 t3) : Agree (timesP t1 m) (timesP t2 m) (timesP t3 m) where
  sg := fun p hp => by
    obtain ⟨q, hq, rfl⟩ := List.mem_map.mp hp
    exact a.sg q hq
  nd := by rw [timesP_keys]; exact a.nd
  l1 := by unfold timesP; rw [List.length_map]; exact a.l1
  pm := by rw [timesP_keys, timesP_keys]; exact a.pm
  l3 := by unfold timesP; rw [List.length_map]; exact a.l3
  pr := fun p hp => by
    obtain ⟨q, hq, rfl⟩ := List.mem_map.mp hp
    rw [timesP_keys]
    exact a.pr q hq
theorem ok_bounds {t : PTab} {m : Int} (hm : m ≤ 18) (h : okP t m = true) : ∀ p ∈ t, 0 ≤ p.2 ∧ p.2 ≤ 100 := fun p hp => by
  have := List.all_eq_true.mp h p hp
  unfold nwB at this
  simp only [Bool.and_eq_true, decide_eq_true_eq] at this
  omega
theorem okS_bounds {t : STab} {m : Int} (hm : m ≤ 18) (h : okS t m = true) : ∀ p ∈ t, 0 ≤ p.2 ∧ p.2 ≤ 100 := fun p hp => by
  have := List.all_eq_true.mp h p hp
  unfold nwB at this
  simp only [Bool.and_eq_true, decide_eq_true_eq] at this
  omega
def spTimes (C CI : Addr) : Sp := fun vs H Q E => ∃ (x : Addr) (m : Int) (t1 t2 : PTab) (t3 : STab), vs = [.ref x, .int m] ∧ PrAt C H x t1 t2 t3 ∧ 1 ≤ m ∧ m ≤ LG ∧ Agree t1 t2 t3 ∧ (t3.map (·.1)).Nodup ∧ rightB t1 t2 t3 = true ∧
  (rightB (timesP t1 m) (timesP t2 m) (timesP t3 m) = true → ∀ H' y u1 u2 u3, Same H H' → H y = none → PrAt C H' y u1 u2 u3 → u1.Perm (timesP t1 m) → u2.Perm (timesP t2 m) → u3.Perm (timesP t3 m) → Srt u1 u2 u3 → Q (.ref y) H') ∧
  (rightB (timesP t1 m) (timesP t2 m) (timesP t3 m) = false → ∀ H', Same H H' → E (.ref CI) none H')
section
variable {P : Program} {w : World} {K : PySem.W.Frag} {mg : Str → Option Value} {base : Heap}
end
end Mk

set_option Elab.async false
set_option linter.all false
set_option maxRecDepth 100000
set_option maxHeartbeats 1000000
/-! == of two tables, keys texts or pairs of texts -/
namespace Mk
open PySem PySem.Spec L2 PyProof.Rows

section
variable {κ : Type} [DecidableEq κ]
/-- the pair is in the dict, its value equal -/
def hasP (ls : List (κ × V)) (p : κ × V) : Bool := match valV ls p.1 with
  | some v => eqV p.2 v
  | none => false
def sameKV (ks ls : List (κ × V)) : Bool := (ks.length == ls.length) && ks.all (hasP ls)
theorem hits_any {P : Program} {w : World} {A : Around} {s : Shared} {ls : List (κ × V)} {vb : List (κ × Value)} (rb : KV ls vb) (fb : ∀ p ∈ ls, flatV p.2 = true) : ∀ {ks : List (κ × V)} {va : List (κ × Value)}, KV ks va → (∀ p ∈ ks, flatV p.2 = true) → PySem.W.KeqHitsP P w A s vb va (ks.all (hasP ls))
  | [], _, .nil, _ => .nil
  | p :: ks, (k, v) :: va, .cons ⟨h1, h2⟩ t, hf => by
    have ih := hits_any (A := A) (s := s) (P := P) (w := w) rb fb t fun q hq => hf q (List.mem_cons_of_mem _ hq)
    have e1 : p.1 = k := h1
    subst e1
    have rr := rb.val p.1
    rw [List.all_cons]
    cases hv : valV ls p.1 with
    | none =>
      rw [hv] at rr
      cases hw : valueAt vb p.1 with
      | some y => rw [hw] at rr; exact rr.elim
      | none =>
        have : hasP ls p = false := by unfold hasP; rw [hv]
        rw [this, Bool.false_and]
        exact .miss hw
    | some u =>
      rw [hv] at rr
      cases hw : valueAt vb p.1 with
      | none => rw [hw] at rr; exact rr.elim
      | some y =>
        rw [hw] at rr
        have fu : flatV u = true := by
          unfold valV at hv
          obtain ⟨q, hq, e⟩ := Option.map_eq_some_iff.mp hv
          rw [← e]
          exact fb q (List.mem_of_find?_eq_some hq)
        have : hasP ls p = eqV p.2 u := by unfold hasP; rw [hv]
        rw [this]
        exact .hit hw (fun E Q hq => (eqAt_V (A := A) (s := s) h2 rr (hf p List.mem_cons_self) fu) P w E Q hq) ih
end
section
variable {X : Cx}
def rEqDK : R2 := fun x y H Q => ∃ a b ks ls, x = .ref a ∧ y = .ref b ∧ H a = some (.dK ks) ∧ H b = some (.dK ls) ∧ (∀ p ∈ ks, flatV p.2 = true) ∧ (∀ p ∈ ls, flatV p.2 = true) ∧ Q (.bl (sameKV ks ls)) H
theorem op_eq_dK (hu : X.A.units < cLine) : OpR X (compareOp .Eq) rEqDK := by
  intro pins s σ H x y v u Q I rx ry h
  obtain ⟨a, b, ks, ls, rfl, rfl, ea, eb, fk, fl, q⟩ := h
  cases rx
  cases ry
  obtain ⟨_, ya, va, ra, da⟩ := I.hok a _ ea
  obtain ⟨_, yb, vb, rb, db⟩ := I.hok b _ eb
  refine PySem.W.rcP_dicts (knd := mixKind X.prog X.w) (r := ks.all (hasP ls)) ya yb da db hu (fun _ => hits_any rb fl ra fk) _ _ ?_
  have e1 : va.length = ks.length := (Paired.length ra).symm
  have e2 : vb.length = ls.length := (Paired.length rb).symm
  rw [e1, e2]
  exact ⟨.bl _, H, I, rfl, q⟩
theorem keys_of {H : Hp} : ∀ {ls : List (List Key × V)} {xb : List (List Key × Addr × Value)}, KT H ls xb → ls.map (·.1) = xb.map (·.1)
  | _, _, .nil => rfl
  | _, _, .cons h t => by rw [List.map_cons, List.map_cons, h.1, keys_of t]
/-- the dicts with pairs as keys -/
theorem pairsT {P : Program} {w : World} {A : Around} {E : Value → Shared → Prop} {s : Shared} {H : Hp} {nm : String} {a b : Addr} {ks ls : List (List Key × V)} {xa xb : List (List Key × Addr × Value)} (hu : A.units < cLine) (na : (a == sysModules) = false) (nb : (b == sysModules) = false)
    (ra : KT H ks xa) (rb : KT H ls xb) (da : s.heap.DictOfH (tupleKind (mixKind P w)) a xa) (db : s.heap.DictOfH (tupleKind (mixKind P w)) b xb) (fk : ∀ p ∈ ks, flatV p.2 = true) (fl : ∀ p ∈ ls, flatV p.2 = true) {Q : Bool → Shared → Prop} (q : Q (sameKV ks ls) s) :
    wpAny (model P w) A (Builtin.Dict.samePairs nm a b) Q E s := by
  obtain ⟨oa, es, ep, hoa, _, hda, hea, hia, hna⟩ := da
  obtain ⟨ob, fs, fp, hob, _, hdb, heb, hib, hnb⟩ := db
  have la : es.size = ks.length := (size_of_entries hea).trans (Paired.length ra).symm
  have lb : fs.size = ls.length := (size_of_entries heb).trans (Paired.length rb).symm
  unfold Builtin.Dict.samePairs Builtin.Dict.showsAll
  rw [if_neg (by rw [na]; exact Bool.false_ne_true), if_neg (by rw [nb]; exact Bool.false_ne_true)]
  refine wpAny_bind (wpAny_pure (wpAny_bind (wpAny_pure (wpAny_bind (wpAny_dictEntries hoa hda ?_)))))
  dsimp only
  refine wpAny_bind (wpAny_dictEntries hob hdb ?_)
  by_cases hz : es.size = fs.size
  case neg =>
    have f : sameKV ks ls = false := by
      unfold sameKV
      rw [← la, ← lb, beq_eq_false_iff_ne.mpr hz, Bool.false_and]
    rw [f] at q
    rw [if_pos (by simpa using hz)]
    exact wpAny_bind (wpAny_rule (wpAny_pure q))
  case pos =>
    have f : sameKV ks ls = ks.all (hasP ls) := by
      unfold sameKV
      rw [← la, ← lb, hz, beq_self_eq_true, Bool.true_and]
    rw [f] at q
    rw [if_neg (by rw [hz]; simp)]
    refine wpAny_bind (wpAny_dictEpoch hoa hda (wpAny_bind ?_))
    rw [Std.Legacy.Range.forIn_eq_forIn_range']
    simp only [Std.Legacy.Range.size, Nat.sub_zero, Nat.add_sub_cancel, Nat.div_one]
    refine wpAny_forIn_list _ (fun rest z s' => s' = s ∧ z = (none, ()) ∧ ∃ i, rest = List.range' i (es.size - i) ∧ i ≤ es.size ∧ (ks.drop i).all (hasP ls) = ks.all (hasP ls)) _ ?_ ?_ _ _ ⟨rfl, rfl, 0, by simp, Nat.zero_le _, by rw [List.drop_zero]⟩
    · rintro i0 rest z s' ⟨rfl, rfl, i, hr, hi, hp⟩
      have hlt : i < es.size := by
        rcases Nat.lt_or_ge i es.size with h | h
        · exact h
        · rw [Nat.sub_eq_zero_of_le h] at hr
          cases hr
      obtain ⟨m, hm⟩ : ∃ m, es.size - i = m + 1 := ⟨es.size - i - 1, by omega⟩
      rw [hm, List.range'_succ] at hr
      injection hr with h1 h2
      subst h1
      have hk : i0 < ks.length := by omega
      obtain ⟨x, hx, e1, e2, e3⟩ := paired_get ra (List.getElem?_eq_getElem hk)
      have een : es[i0]? = some (entryOfKey (tupleKind (mixKind P w)) x) := by rw [entry_at hea i0, hx]; rfl
      have cell : xa[i0]? = some x := hx
      have hix := hia x (List.mem_of_getElem? cell)
      rw [List.drop_eq_getElem_cons hk, List.all_cons] at hp
      refine wpAny_bind (wpAny_dictEntries hoa hda ?_)
      rw [een]
      dsimp only
      have hash : (entryOfKey (tupleKind (mixKind P w)) x).hash = (tupleKind (mixKind P w)).hash x.1 := rfl
      have kref : (entryOfKey (tupleKind (mixKind P w)) x).key = .ref x.2.1 := rfl
      have vref : (entryOfKey (tupleKind (mixKind P w)) x).val = x.2.2 := rfl
      rw [hash, kref, vref]
      refine wpAny_bind (wpAny_holding (wpAny_bind (wpAny_dictFind_heap (knd := tupleKind (mixKind P w)) hu hix hob hdb heb hib hnb (fun hno => ?_) fun j pr hj => ?_)))
      · have vn : valV ls ks[i0].1 = none := by
          cases e : valV ls ks[i0].1 with
          | none => rfl
          | some u =>
            unfold valV at e
            obtain ⟨r, hr, _⟩ := Option.map_eq_some_iff.mp e
            obtain ⟨j, hj⟩ := List.mem_iff_getElem?.mp (List.mem_of_find?_eq_some hr)
            obtain ⟨y, hy, g1, _⟩ := paired_get rb hj
            have g2 : r.1 = ks[i0].1 := by
              have := List.find?_some hr
              exact of_decide_eq_true this
            refine absurd ?_ (hno j y.2)
            rw [← e1, ← g2, g1]
            exact hy
        have hf : hasP ls ks[i0] = false := by unfold hasP; rw [vn]
        rw [hf, Bool.false_and] at hp
        rw [← hp] at q
        refine wpAny_pure ?_
        show wpAny _ _ (if (!false) = true then _ else _) _ _ _
        rw [if_pos (by decide)]
        exact wpAny_pure (wpAny_pure q)
      · obtain ⟨r, hr, g1, _, g3⟩ := DX.pget rb hj
        have vr : valV ls ks[i0].1 = some r.2 := by
          have nd : (ls.map (·.1)).Nodup := by
            have e : ls.map (·.1) = xb.map (·.1) := by
              exact keys_of rb
            rw [e]
            exact hnb
          have := val_nodup nd r (List.mem_of_getElem? hr)
          rw [e1, ← this, g1]
        have hf : hasP ls ks[i0] = eqV ks[i0].2 r.2 := by unfold hasP; rw [vr]
        refine wpAny_bind (wpAny_dictEntries hob hdb ?_)
        rw [entry_at heb j, hj]
        refine wpAny_holding ((eqAt_V (A := A) (s := s') e3 g3 (fk _ (List.getElem_mem hk)) (fl _ (List.mem_of_getElem? hr))) P w _ _ ?_)
        rw [← hf]
        cases c : hasP ls ks[i0] with
        | false =>
          rw [c, Bool.false_and] at hp
          rw [← hp] at q
          show wpAny _ _ (if (!false) = true then _ else _) _ _ _
          rw [if_pos (by decide)]
          exact wpAny_pure (wpAny_pure q)
        | true =>
          rw [c, Bool.true_and] at hp
          show wpAny _ _ (if (!true) = true then _ else _) _ _ _
          rw [if_neg (by decide)]
          refine wpAny_bind (wpAny_dictEpoch hoa hda ?_)
          rw [if_neg (by simp)]
          exact wpAny_pure ⟨rfl, rfl, i0 + 1, by rw [h2]; congr 1; omega, hlt, hp⟩
    · rintro z s' ⟨rfl, rfl, i, hr, hi, hp⟩
      have hin : i = es.size := by
        rcases Nat.lt_or_ge i es.size with h | h
        · obtain ⟨m, hm⟩ : ∃ m, es.size - i = m + 1 := ⟨es.size - i - 1, by omega⟩
          rw [hm, List.range'_succ] at hr
          cases hr
        · omega
      rw [hin, la, List.drop_length] at hp
      rw [← hp] at q
      exact wpAny_pure q
def rEqDT : R2 := fun x y H Q => ∃ a b ks ls, x = .ref a ∧ y = .ref b ∧ H a = some (.dT ks) ∧ H b = some (.dT ls) ∧ (∀ p ∈ ks, flatV p.2 = true) ∧ (∀ p ∈ ls, flatV p.2 = true) ∧ Q (.bl (sameKV ks ls)) H
theorem op_eq_dT (hu : X.A.units + 1 < cLine) : OpR X (compareOp .Eq) rEqDT := by
  intro pins s σ H x y v u Q I rx ry h
  obtain ⟨a, b, ks, ls, rfl, rfl, ea, eb, fk, fl, q⟩ := h
  cases rx
  cases ry
  obtain ⟨_, na, xa, ra, da⟩ := dt_of I.hok ea
  obtain ⟨_, nb, xb, rb, db⟩ := dt_of I.hok eb
  show wpAny _ _ (richCompare .Eq (.ref a) (.ref b)) _ _ _
  refine wpAny_richCompare_same_room (op := .Eq) da.typeIs db.typeIs PySem.F.slot_dict_eq (wpAny_call_entry PySem.F.slot_dict_eq da.typeIs PySem.F.entry_dict_eq ?_ (PySem.F.args_dict_eq_2 _ _)) (by omega)
  show wpAny (model X.prog X.w) _ (Builtin.Dict.dictSlotArgs "__eq__" ⟨[.ref a, .ref b], []⟩ >>= _) _ _ s
  unfold Builtin.Dict.dictSlotArgs
  refine wpAny_bind (wpAny_bind (wpAny_notOrdered_dict da.typeIs ?_))
  show wpAny (model X.prog X.w) _ (pure (Value.ref a, Value.ref b)) _ _ s
  refine wpAny_pure (wpAny_bind (wpAny_isInstance (T := "dict") db.typeIs PySem.F.sub_dict_dict ?_))
  simp only [Bool.not_true, Bool.false_eq_true, ite_false]
  refine wpAny_bind (wpAny_pure (wpAny_bind (wpAny_pure (wpAny_bind (pairsT (by show X.A.units + 1 < cLine; exact hu) na nb ra rb da db fk fl ?_)))))
  have e : (sameKV ks ls == true) = sameKV ks ls := by cases sameKV ks ls <;> rfl
  rw [e]
  have last : EP X pins σ Q (Value.bool (sameKV ks ls)) s := ⟨.bl (sameKV ks ls), H, I, rfl, q⟩
  refine wpAny_pure ⟨_, rfl, ?_, last⟩
  intro z
  cases z
end
/-! ### tables of ints -/
theorem flat_P (t : PTab) : ∀ p ∈ kvsP t, flatV p.2 = true := fun p hp => by
  obtain ⟨q, _, rfl⟩ := List.mem_map.mp hp
  rfl
theorem flat_S (t : STab) : ∀ p ∈ kvsS t, flatV p.2 = true := fun p hp => by
  obtain ⟨q, _, rfl⟩ := List.mem_map.mp hp
  rfl
theorem same_P {t u : PTab} (p : u.Perm t) (nd : (t.map (·.1)).Nodup) : sameKV (kvsP t) (kvsP u) = true := by
  unfold sameKV
  rw [kvsP_len, kvsP_len, p.length_eq, beq_self_eq_true, Bool.true_and]
  refine List.all_eq_true.mpr fun q hq => ?_
  obtain ⟨r, hr, rfl⟩ := List.mem_map.mp hq
  have m : r.1 ∈ u.map (·.1) := List.mem_map.mpr ⟨r, p.mem_iff.mpr hr, rfl⟩
  have nu : (u.map (·.1)).Nodup := (p.map (·.1)).nodup_iff.mpr nd
  unfold hasP
  rw [valP m, look_mem nu r (p.mem_iff.mpr hr)]
  show (r.2 == r.2) = true
  exact beq_self_eq_true _
theorem same_S {t u : STab} (p : u.Perm t) (nd : (t.map (·.1)).Nodup) : sameKV (kvsS t) (kvsS u) = true := by
  unfold sameKV
  rw [kvsS_len, kvsS_len, p.length_eq, beq_self_eq_true, Bool.true_and]
  refine List.all_eq_true.mpr fun q hq => ?_
  obtain ⟨r, hr, rfl⟩ := List.mem_map.mp hq
  have m : r.1 ∈ u.map (·.1) := List.mem_map.mpr ⟨r, p.mem_iff.mpr hr, rfl⟩
  have nu : (u.map (·.1)).Nodup := (p.map (·.1)).nodup_iff.mpr nd
  unfold hasP
  have e := valS m
  rw [look_mem nu r (p.mem_iff.mpr hr)] at e
  show (match valV (kvsS u) (keyOf r.1) with | some v => eqV (.int r.2) v | none => false) = true
  rw [e]
  show (r.2 == r.2) = true
  exact beq_self_eq_true _
/-- another value at one key -/
theorem diff_P {t u : PTab} {k : Str} {i j : Int} (ht : (k, i) ∈ t) (hu : (k, j) ∈ u) (nu : (u.map (·.1)).Nodup) (ne : i ≠ j) : sameKV (kvsP t) (kvsP u) = false := by
  unfold sameKV
  have : (kvsP t).all (hasP (kvsP u)) = false := by
    refine List.all_eq_false.mpr ⟨_, List.mem_map.mpr ⟨(k, i), ht, rfl⟩, ?_⟩
    unfold hasP
    rw [valP (List.mem_map.mpr ⟨(k, j), hu, rfl⟩), look_mem nu (k, j) hu]
    show ¬ (i == j) = true
    simp [ne]
  rw [this, Bool.and_false]
end Mk

set_option Elab.async false
set_option linter.all false
set_option maxRecDepth 100000
set_option maxHeartbeats 1000000
/-! d.values() and d.items() as values: list(..), sorted(..), min(.., default=..) of them -/
namespace Mk
open PySem PySem.Spec PyProof.Rows L2

theorem paired_ix {α β : Type} {F : α → β → Prop} : ∀ {xs : List α} {ys : List β}, xs.length = ys.length → (∀ (j : Nat) (x : α) (y : β), xs[j]? = some x → ys[j]? = some y → F x y) → Paired F xs ys
  | [], [], _, _ => .nil
  | [], _ :: _, h, _ => nomatch h
  | _ :: _, [], h, _ => nomatch h
  | x :: xs, y :: ys, h, f => .cons (f 0 x y rfl rfl) (paired_ix (by simpa using h) fun j a b h1 h2 => f (j + 1) a b (by simpa using h1) (by simpa using h2))
/-- the pairs in the dict at a, in order -/
def RawAt (h : Heap) (a : Addr) (ps : List (V × V)) : Prop := (a == sysModules) = false ∧ ps.length ≤ sizeLine ∧ ∃ (es : Array DictEntry) (ep : Nat), DT.Raw h a es ep ∧ Paired (fun (p : V × V) (en : DictEntry) => RelV p.1 en.key ∧ RelV p.2 en.val) ps es.toList
section
variable {P : Program} {w : World} {H : Hp} {h : Heap} {a : Addr}
def psK (kvs : List (Key × V)) : List (V × V) := kvs.map fun p => (kV p.1, p.2)
def psT (qs : List Addr) (kvs : List (List Key × V)) : List (V × V) := (qs.zip kvs).map fun z => (V.ref z.1, z.2.2)
theorem rawK {kvs : List (Key × V)} (ok : HOk P w H h) (e : H a = some (.dK kvs)) : RawAt h a (psK kvs) := by
  obtain ⟨z, lo, vs, rk, o, es, ep, ho, hx, hd, hk, hp, hn⟩ := ok a _ e
  have l1 : kvs.length = vs.length := Paired.length rk
  have l2 : es.toList.length = vs.length := hp.length
  refine ⟨lo, by unfold psK; rw [List.length_map]; exact z, es, ep, ⟨o, ho, hx, hd⟩, paired_ix (by unfold psK; rw [List.length_map]; omega) fun j x en h1 h2 => ?_⟩
  unfold psK at h1
  rw [List.getElem?_map] at h1
  obtain ⟨q, hq, rfl⟩ := Option.map_eq_some_iff.mp h1
  obtain ⟨v, hv, e1, e2⟩ := paired_get rk hq
  obtain ⟨k1, v1⟩ := hp.get? (i := j) (e := en) (k := v.1) (v := v.2) h2 hv
  refine ⟨?_, by rw [v1]; exact e2⟩
  show RelV (kV q.1) en.key
  rw [e1]
  exact relV_key (show keyIs v.1 en.key = true from k1)
theorem rawT {kvs : List (List Key × V)} (ok : HOk P w H h) (e : H a = some (.dT kvs)) : ∃ qs, IsKeys H kvs qs ∧ RawAt h a (psT qs kvs) := by
  obtain ⟨z, lo, xs, rk, o, es, ep, ho, hx, hd, he, hi, hn⟩ := dt_of ok e
  have l1 : kvs.length = xs.length := Paired.length rk
  have l2 : es.toList.length = xs.length := by rw [he, List.length_map]
  refine ⟨_, isKeys_of rk, lo, ?_, es, ep, ⟨o, ho, hx, hd⟩, paired_ix ?_ fun j x en h1 h2 => ?_⟩
  · unfold psT
    rw [List.length_map, List.length_zip, List.length_map]
    omega
  · unfold psT
    rw [List.length_map, List.length_zip, List.length_map]
    omega
  unfold psT at h1
  rw [List.getElem?_map] at h1
  obtain ⟨z, hz, rfl⟩ := Option.map_eq_some_iff.mp h1
  obtain ⟨z1, z2⟩ := List.getElem?_zip_eq_some.mp hz
  rw [List.getElem?_map] at z1
  obtain ⟨x, hx1, e1⟩ := Option.map_eq_some_iff.mp z1
  obtain ⟨x', hx2, _, _, e3⟩ := paired_get rk z2
  have : x' = x := Option.some.inj (hx2.symm.trans hx1)
  subst this
  rw [he, List.getElem?_map, hx1] at h2
  have e4 : entryOfKey (tupleKind (mixKind P w)) x' = en := Option.some.inj h2
  subst e4
  refine ⟨?_, e3⟩
  show RelV (V.ref z.1) (.ref x'.2.1)
  rw [← e1]
  rfl
end
/-- the view d.values() at p -/
def valuesO (p d : Addr) : HO := .ext fun h => h.IsValuesView p d
def IsDct (H : Hp) (a : Addr) : Prop := (∃ kvs, H a = some (.dK kvs)) ∨ ∃ kvs, H a = some (.dT kvs)
theorem IsDct.raw {P : Program} {w : World} {H : Hp} {h : Heap} {a : Addr} (ok : HOk P w H h) (d : IsDct H a) : (a == sysModules) = false ∧ ∃ (es : Array DictEntry) (ep : Nat), DT.Raw h a es ep := by
  rcases d with ⟨kvs, e⟩ | ⟨kvs, e⟩
  · obtain ⟨lo, _, es, ep, r, _⟩ := rawK ok e
    exact ⟨lo, es, ep, r⟩
  · obtain ⟨qs, _, lo, _, es, ep, r, _⟩ := rawT ok e
    exact ⟨lo, es, ep, r⟩
section
variable {X : Cx}
def rVals : V → List V → Hp → VK → Prop := fun x xs H Q => ∃ a, x = .ref a ∧ xs = [] ∧ IsDct H a ∧ ∀ p, H p = none → Q (.ref p) (upd H p (valuesO p a))
def rItms : V → List V → Hp → VK → Prop := fun x xs H Q => ∃ a, x = .ref a ∧ xs = [] ∧ IsDct H a ∧ ∀ p, H p = none → Q (.ref p) (upd H p (DX.itemsO p a))
theorem mt_vals : MtR X "dict.values" rVals := by
  intro pins s σ H x xs v us Q I rx rxs h
  obtain ⟨a, rfl, rfl, hd, q⟩ := h
  cases rx
  cases rxs
  obtain ⟨lo, es, ep, r⟩ := hd.raw I.hok
  obtain ⟨o, ho, hx, hdt⟩ := r
  refine call_meetsIn PySem.F.slot_dict_values ⟨o, ho, hx.1⟩ PySem.F.entry_dict_values (PySem.F.args_dict_values_1 _) (meets_dict_values_raw a lo) ⟨⟨es, ep, o, ho, hx, hdt⟩, ?_⟩
  have hf : H s.heap.objs.size = none := I.hok.fresh (Nat.le_refl _)
  have at_ : (s.heap.push { cls := .type "dict_values", data := .fields #[.ref a] }).get? s.heap.objs.size = some { cls := .type "dict_values", data := .fields #[.ref a] } := Heap.get?_push_size _ rfl
  exact ⟨.ref s.heap.objs.size, upd H s.heap.objs.size (valuesO s.heap.objs.size a), I.laid (t' := s.toks) (fun b u e => Heap.get?_push_of_some _ e) (Nat.le_refl _) ⟨⟨_, at_, rfl, rfl⟩, ⟨_, at_⟩, fun h1 h2 x k => let ⟨o, ho, r⟩ := x; ⟨o, k o ho, r⟩⟩, rfl, q _ hf⟩
theorem mt_itms : MtR X "dict.items" rItms := by
  intro pins s σ H x xs v us Q I rx rxs h
  obtain ⟨a, rfl, rfl, hd, q⟩ := h
  cases rx
  cases rxs
  obtain ⟨lo, es, ep, r⟩ := hd.raw I.hok
  refine DT.callItems (es := es) (ep := ep) lo r ?_
  have hf : H s.heap.objs.size = none := I.hok.fresh (Nat.le_refl _)
  exact ⟨.ref s.heap.objs.size, upd H s.heap.objs.size (DX.itemsO s.heap.objs.size a), I.laid (t' := s.toks) (fun b u e => Heap.get?_push_of_some _ e) (Nat.le_refl _) (DX.itemsO_ok (Heap.get?_push_size _ rfl)), rfl, q _ hf⟩
/-- list(d.values()) -/
theorem vals_list {pins : List (Addr × Obj)} {s : Shared} {σ : L2.St} {H : Hp} {p a : Addr} {ps : List (V × V)} {Q : VK} (hc : X.calm = true) (I : Inv X pins σ H s) (hp : H p = some (valuesO p a)) (hr : RawAt s.heap a ps) (q : ∀ l, H l = none → Q (.ref l) (upd H l (.lst (ps.map (·.2))))) :
    wpAny (model X.prog X.w) X.A (call (.type "list") [.ref p]) (EP X pins σ Q) X.xe s := by
  obtain ⟨lo, hz, es, ep, r, pr⟩ := hr
  obtain ⟨vw, _⟩ := I.hok p _ hp
  have vw' : s.heap.IsValuesView p a := vw
  have le : ps.length = es.size := by
    have := Paired.length pr
    simpa using this
  refine PySem.W.kdl_call (KdlSrc.rawValues (r := p) (d := a) (es := es) (ep := ep)) (I.ok.hd hc) ⟨vw', r⟩ (by rw [← le]; exact hz) fun h' tk acc c hk hS it => ?_
  refine ⟨.ref s.heap.objs.size, upd H s.heap.objs.size (.lst (ps.map (·.2))), I.laid hk (Nat.le_refl _) ⟨by rw [List.length_map]; exact hz, acc.toList, c, ?_, by rw [Array.toArray_toList]; exact hS⟩, rfl, q _ (I.hok.fresh (Nat.le_refl _))⟩
  have la : acc.toList.length = acc.size := by simp
  refine paired_ix (by rw [List.length_map, la, it.1]; exact le) fun j x w h1 h2 => ?_
  rw [List.getElem?_map] at h1
  obtain ⟨z, hz1, rfl⟩ := Option.map_eq_some_iff.mp h1
  obtain ⟨hi, hv⟩ := it.2 j w (by rw [← Array.getElem?_toList]; exact h2)
  obtain ⟨en, he, _, e2⟩ := paired_get pr hz1
  have : en = es[j] := by
    rw [Array.getElem?_toList, Array.getElem?_eq_getElem hi] at he
    exact (Option.some.inj he).symm
  subst this
  rw [hv]
  exact e2
def rLstVals : List V → Hp → VK → Prop := fun xs H Q => ∃ p a, xs = [.ref p] ∧ H p = some (valuesO p a) ∧ ((∃ kvs, H a = some (.dK kvs) ∧ ∀ l, H l = none → Q (.ref l) (upd H l (.lst (kvs.map (·.2))))) ∨ ∃ kvs, H a = some (.dT kvs) ∧ ∀ l, H l = none → Q (.ref l) (upd H l (.lst (kvs.map (·.2)))))
theorem call_listVals (hc : X.calm = true) : CallR X (.type "list") rLstVals := by
  intro pins s σ H xs us Q I r h
  obtain ⟨p, a, rfl, hp, h⟩ := h
  obtain ⟨u, rfl, rx⟩ := vals1 r
  obtain rfl : u = Value.ref p := rx
  rcases h with ⟨kvs, e, q⟩ | ⟨kvs, e, q⟩
  · refine vals_list hc I hp (rawK I.hok e) fun l hl => ?_
    have e2 : (psK kvs).map (·.2) = kvs.map (·.2) := by
      unfold psK
      rw [List.map_map]
      rfl
    rw [e2]
    exact q l hl
  · obtain ⟨qs, hq, hr⟩ := rawT I.hok e
    refine vals_list hc I hp hr fun l hl => ?_
    have e2 : (psT qs kvs).map (·.2) = kvs.map (·.2) := by
      unfold psT
      rw [List.map_map]
      have : ((fun x : V × V => x.2) ∘ fun z : Addr × List Key × V => (V.ref z.1, z.2.2)) = (fun p : List Key × V => p.2) ∘ (fun z : Addr × List Key × V => z.2) := rfl
      rw [this, ← List.map_map, List.map_snd_zip (by have := Paired.length hq; omega)]
    rw [e2]
    exact q l hl
end
/-! ### list(d.items()), sorted(d.items()) -/
section
variable {P : Program} {w : World} {A : Around} {E : Value → Shared → Prop} {s : Shared} {es : Array DictEntry} {ep : Nat} {r d : Addr}
theorem listI {Q : Value → Shared → Prop} (hh : A.handled = none) (hv : s.heap.IsItemsView r d) (hm : DT.Raw s.heap d es ep) (hn : es.size ≤ sizeLine)
    (hQ : ∀ (h' : Heap) (tk : Nat) (acc : Array Value) (c : Nat) (as : List Addr), (∀ b o, s.heap.get? b = some o → h'.get? b = some o) → h'.get? s.heap.objs.size = some { cls := .type "list", dict := none, data := .seq acc c, slots := #[] } → as.length = es.size → DT.Made es s.heap.objs.size h' as → acc.toList = as.map Value.ref →
      Q (.ref s.heap.objs.size) { s with heap := h', toks := tk }) : wpAny (model P w) A (call (.type "list") [.ref r]) Q E s := by
  refine callType_codes (Q₁ := fun obj s1 => obj = .ref s.heap.objs.size ∧ s1 = { s with heap := s.heap.push { cls := .type "list", data := .seq #[] } }) PySem.F.called_list (PySem.F.typeCall_list_1 _) PySem.F.entry_list_init (code_list_new _ ⟨rfl, rfl⟩) fun obj s1 h1 => ?_
  obtain ⟨rfl, rfl⟩ := h1
  have e0 : (s.heap.push { cls := .type "list", data := .seq #[] }).get? s.heap.objs.size = some { cls := .type "list", data := .seq #[] } := Heap.get?_push_size _ rfl
  have lr : r < s.heap.objs.size := let ⟨_, ho, _⟩ := hv; Heap.lt_size ho
  have ld : d < s.heap.objs.size := hm.lt
  refine ⟨⟨_, e0, rfl⟩, PySem.F.args_list_init_2 _ _, ?_⟩
  show wpAny (model P w) A.in1.in1 (do let old ← Builtin.List.listItems (.ref s.heap.objs.size); Builtin.List.listUpdate (.ref s.heap.objs.size) (fun _ => #[]); letGo old.toList.reverse; Builtin.List.listExtendWith (.ref s.heap.objs.size) (.ref r) .none) _ _ _
  refine wpAny_bind ?_
  unfold Builtin.List.listItems
  refine wpAny_bind (wpAny_seqItems e0 rfl (wpAny_pure ?_))
  show wpAny (model P w) A.in1.in1 (updateSeq s.heap.objs.size (fun _ => #[]) >>= fun _ => letGo (#[] : Array Value).toList.reverse >>= fun _ => Builtin.List.listExtendWith (.ref s.heap.objs.size) (.ref r) .none) _ _ _
  refine wpAny_bind (wpAny_updateSeq e0 rfl (wpAny_bind (wpAny_letGo ?_)))
  have e1 := Heap.get?_update_self (Obj.mapSeq (fun _ => (#[] : Array Value))) e0 rfl
  have oth : ∀ b o, b ≠ s.heap.objs.size → s.heap.get? b = some o → ((s.heap.push { cls := .type "list", data := .seq #[] }).update s.heap.objs.size (Obj.mapSeq (fun _ => (#[] : Array Value)))).get? b = some o := fun b o hb e => (Heap.get?_update_other _ _ (Ne.symm hb)).trans (Heap.get?_push_of_some _ e)
  refine DT.extI (A := A.in1) (es := es) (ep := ep) hh (let ⟨o, ho, x⟩ := hv; ⟨o, oth r o (Nat.ne_of_lt lr) ho, x⟩) (hm.at' fun o e => oth d o (Nat.ne_of_lt ld) e) s.heap.objs.size (Nat.ne_of_gt lr) (Nat.ne_of_lt ld) .none _ e1 (fun h' tk acc c as hk hS hl hG ha => ?_) hn
  refine ⟨rfl, hQ h' tk acc c as (fun b o e => ?_) hS hl (hG.low ?_) ha⟩
  · have nb := Nat.ne_of_lt (Heap.lt_size e)
    exact hk b o nb (oth b o nb e)
  · exact Nat.le_of_lt (Heap.lt_size e1)
end
section
variable {X : Cx} {pins : List (Addr × Obj)} {s : Shared} {σ : L2.St} {H : Hp}
/-- the tuples that were made are told -/
theorem made_told {H1 : Hp} {h' : Heap} {tk : Nat} {es : Array DictEntry} {lo : Addr} {as : List Addr} {ps : List (V × V)} (I : Inv X pins σ H s) (I1 : Inv X pins σ H1 { s with heap := h', toks := tk }) (lo0 : s.heap.objs.size ≤ lo) (hG : DT.Made es lo h' as) (hl : as.length = ps.length) (hn : ∀ a ∈ as, H1 a = none)
    (pr : Paired (fun (p : V × V) (en : DictEntry) => RelV p.1 en.key ∧ RelV p.2 en.val) ps es.toList) :
    ∃ H2, Inv X pins σ H2 { s with heap := h', toks := tk } ∧ (∀ b o, H1 b = some o → H2 b = some o) ∧ Paired (fun (t : Addr) (p : V × V) => H2 t = some (.tup [p.1, p.2])) as ps := by
  have nd : as.Nodup := List.Pairwise.imp (fun h => Nat.ne_of_lt h) hG.rise
  obtain ⟨H2, I2, g, q⟩ := DX.takeT (P := fun b vs => ∃ (j : Nat) (p : V × V), as[j]? = some b ∧ ps[j]? = some p ∧ vs = [p.1, p.2]) I as H1 I1 nd fun b hb => by
    obtain ⟨j, hj⟩ := List.mem_iff_getElem?.mp hb
    have hj2 : j < ps.length := by
      obtain ⟨h1, _⟩ := List.getElem?_eq_some_iff.mp hj
      omega
    obtain ⟨en, he, r1, r2⟩ := paired_get pr (List.getElem?_eq_getElem hj2)
    obtain ⟨en', he', hg⟩ := hG.pairs j b hj
    rw [Array.getElem?_toList] at he
    have : en' = en := Option.some.inj (he'.symm.trans he)
    subst this
    refine ⟨Nat.le_trans lo0 (Nat.le_of_lt (hG.above b hb)), hn b hb, [ps[j].1, ps[j].2], ⟨j, ps[j], hj, List.getElem?_eq_getElem hj2, rfl⟩, fun H3 => ⟨(by show 2 ≤ sizeLine; decide), [en'.key, en'.val], .cons r1 (.cons r2 .nil), ⟨_, hg, rfl, 0, rfl⟩⟩⟩
  refine ⟨H2, I2, g, paired_ix hl fun j t p h1 h2 => ?_⟩
  obtain ⟨vs, ⟨i, p', i1, i2, e⟩, hH⟩ := q t (List.mem_of_getElem? h1)
  have eij : i = j := (List.getElem?_inj (List.getElem?_eq_some_iff.mp i1).1 nd).mp (i1.trans h1.symm)
  subst eij
  have : p' = p := Option.some.inj (i2.symm.trans h2)
  subst this
  rw [hH, e]
theorem refs_vals : ∀ bs : List Addr, Vals (bs.map V.ref) (bs.map Value.ref)
  | [] => .nil
  | _ :: r => .cons rfl (refs_vals r)
/-- list(d.items()) -/
theorem itms_list {p a : Addr} {ps : List (V × V)} {Q : VK} (hc : X.calm = true) (I : Inv X pins σ H s) (hp : H p = some (DX.itemsO p a)) (hr : RawAt s.heap a ps)
    (q : ∀ (H' : Hp) (l : Addr) (ts : List Addr), Same H H' → H l = none → H' l = some (.lst (ts.map V.ref)) → Paired (fun (t : Addr) (p : V × V) => H' t = some (.tup [p.1, p.2])) ts ps → Q (.ref l) H') :
    wpAny (model X.prog X.w) X.A (call (.type "list") [.ref p]) (EP X pins σ Q) X.xe s := by
  obtain ⟨lo, hz, es, ep, r, pr⟩ := hr
  obtain ⟨vw, _⟩ := I.hok p _ hp
  have vw' : s.heap.IsItemsView p a := vw
  have le : ps.length = es.size := by
    have := Paired.length pr
    simpa using this
  refine listI (es := es) (ep := ep) (I.ok.hd hc) vw' r (by rw [← le]; exact hz) fun h' tk acc c as hk hS hl hG ha => ?_
  have I1 : Inv X pins σ (upd H s.heap.objs.size (.lst (as.map V.ref))) { s with heap := h', toks := tk } := I.laid hk (Nat.le_refl _) ⟨by rw [List.length_map]; omega, acc.toList, c, by rw [ha]; exact refs_vals as, by rw [Array.toArray_toList]; exact hS⟩
  have hn0 : H s.heap.objs.size = none := I.hok.fresh (Nat.le_refl _)
  obtain ⟨H2, I2, g, tp⟩ := made_told I I1 (Nat.le_refl _) hG (by omega) (fun b hb => by
    have := hG.above b hb
    rw [upd_ne (Nat.ne_of_gt this)]
    exact I.hok.fresh (Nat.le_of_lt this)) pr
  exact ⟨.ref s.heap.objs.size, H2, I2, rfl, q H2 _ as (fun b o e => g b o (by rw [upd_ne (ne_of_none e hn0)]; exact e)) hn0 (g _ _ upd_same) tp⟩
def rLstItms : List V → Hp → VK → Prop := fun xs H Q => ∃ p a, xs = [.ref p] ∧ H p = some (DX.itemsO p a) ∧ ((∃ kvs, H a = some (.dK kvs) ∧ ∀ (H' : Hp) (l : Addr) (ts : List Addr), Same H H' → H l = none → H' l = some (.lst (ts.map V.ref)) → Paired (fun (t : Addr) (p : V × V) => H' t = some (.tup [p.1, p.2])) ts (psK kvs) → Q (.ref l) H') ∨
  ∃ kvs, H a = some (.dT kvs) ∧ ∀ (H' : Hp) (l : Addr) (ts qs : List Addr), Same H H' → H l = none → IsKeys H kvs qs → H' l = some (.lst (ts.map V.ref)) → Paired (fun (t : Addr) (p : V × V) => H' t = some (.tup [p.1, p.2])) ts (psT qs kvs) → Q (.ref l) H')
theorem call_listItms (hc : X.calm = true) : CallR X (.type "list") rLstItms := by
  intro pins s σ H xs us Q I r h
  obtain ⟨p, a, rfl, hp, h⟩ := h
  obtain ⟨u, rfl, rx⟩ := vals1 r
  obtain rfl : u = Value.ref p := rx
  rcases h with ⟨kvs, e, q⟩ | ⟨kvs, e, q⟩
  · exact itms_list hc I hp (rawK I.hok e) q
  · obtain ⟨qs, hq, hr⟩ := rawT I.hok e
    exact itms_list hc I hp hr fun H' l ts a1 a2 a3 a4 => q H' l ts qs a1 a2 hq a3 a4
end
end Mk

set_option Elab.async false
set_option linter.all false
set_option maxRecDepth 100000
set_option maxHeartbeats 1000000
/-! min(d.values(), default=e) -/
namespace Mk
open PySem PySem.Spec PyProof.Rows L2

section
variable {X : Cx}
/-- the least of the values of a dict with pairs as keys, or what is told -/
def tMinDT (t : TA) (td : TE) : TE := fun σ H Q => t σ H fun vs H1 => td σ H1 fun y H2 => ∃ (p a : Addr) (d : Int) (kvs : List (List Key × V)) (is : List Int), vs = [.ref p] ∧ y = .int d ∧ H2 p = some (valuesO p a) ∧ H2 a = some (.dT kvs) ∧ kvs.map (·.2) = is.map V.int ∧
  ∀ m : Int, (is = [] → m = d) → (is ≠ [] → m ∈ is ∧ ∀ j ∈ is, m ≤ j) → Q (.int m) H2
theorem pe_minDT {e de : Expr} {t : TA} {td : TE} {p kp pos : Pos} (hc : X.calm = true) (hg : Gl X "min") (hm : X.mg "min" = none) (ha : PA X [e] t) (hd : PE X de td)
    (he : backTo pos (starEach [e] X.env) = (false, eval e X.env) :: backTo pos (starEach [] X.env) := by rfl) (hpl : (backTo pos (starEach [e] X.env)).any (·.1) = false := by rfl) :
    PE X (.Call (.Name "min" p) [e] [⟨some "default", de, kp⟩] pos) (tMinDT t td) := by
  refine ⟨fun pins s σ H Q I h => ?_⟩
  refine wpAny_Call_Name_kw (ld_blt I hg hm (u := .builtin "min") (by decide +kernel) ?_)
  refine PyProof.Rows.callWith_kw (thn (ha.run pos pins s σ H _ I h) fun us s1 ⟨vs, H1, I1, r1, q1⟩ => ?_) he hpl
  show wpAny _ _ (evalAll [do let v ← eval de X.env; standAt pos; pure v]) _ _ s1
  refine wpAny_evalAll_cons (wpAny_bind (thn (hd.run pins s1 σ H1 _ I1 q1) fun u s2 ⟨y, H2, I2, r2, q2⟩ => wpAny_bind (wpAny_standAt (wpAny_pure (wpAny_evalAll_nil ?_)))))
  show wpAny _ _ (call (.builtin "min") us [(Str.ofString "default", u)]) _ _ s2
  obtain ⟨v, a, d, kvs, is, rfl, rfl, hv, ha2, hi, q⟩ := q2
  rw [Vals.ref1 r1]
  obtain ⟨tk0, rfl⟩ := r2
  obtain ⟨qs, hq, lo, hz, es, ep, r, pr⟩ := rawT I2.hok ha2
  obtain ⟨vw, _⟩ := I2.hok v _ hv
  have vw' : s2.heap.IsValuesView v a := vw
  have lk : kvs.length = is.length := by
    have := congrArg List.length hi
    rwa [List.length_map, List.length_map] at this
  have le : is.length = es.size := by
    have h1 := Paired.length pr
    have h2 := Paired.length hq
    unfold psT at h1
    rw [List.length_map, List.length_zip, ← h2, Nat.min_self] at h1
    have h3 : es.toList.length = es.size := by simp
    omega
  have hval : ∀ (i : Nat) (x : Value), (∃ hi : i < es.size, x = es[i].val) → ∃ t, x = Value.int (is.getD i 0) t := fun i x ⟨hl, e⟩ => by
    have hk : i < kvs.length := by omega
    have hqi : i < qs.length := by have := Paired.length hq; omega
    have e1 : (psT qs kvs)[i]? = some (V.ref qs[i], kvs[i].2) := by
      have z1 : (qs.zip kvs)[i]? = some (qs[i], kvs[i]) := by
        rw [List.getElem?_zip_eq_some]
        exact ⟨List.getElem?_eq_getElem hqi, List.getElem?_eq_getElem hk⟩
      unfold psT
      rw [List.getElem?_map, z1]
      rfl
    obtain ⟨en, he, _, r2⟩ := paired_get pr e1
    rw [Array.getElem?_toList, Array.getElem?_eq_getElem hl] at he
    have : es[i] = en := Option.some.inj he
    rw [← this, ← e] at r2
    have e3 : kvs[i].2 = V.int (is.getD i 0) := by
      have h1 : (kvs.map (·.2))[i]? = some kvs[i].2 := by rw [List.getElem?_map, List.getElem?_eq_getElem hk]; rfl
      rw [hi, List.getElem?_map, List.getElem?_eq_getElem (by omega : i < is.length)] at h1
      rw [List.getD_eq_getElem?_getD, List.getElem?_eq_getElem (by omega : i < is.length)]
      exact (Option.some.inj h1).symm
    have r3 : RelV (V.int (is.getD i 0)) x := by rw [← e3]; exact r2
    exact r3
  have ne : a ≠ s2.heap.objs.size := Nat.ne_of_lt r.lt
  refine PySem.call_min_walkD (wpAny_pyIter_values_raw (v := v) (d := a) vw' r ⟨s2.heap.objs.size, _, _, _, es.size, _, _, s2.heap, fun i j => decide (is.getD i 0 < is.getD j 0), rfl, (Walks.rawValues (A := X.A.in1) (I.ok.hd hc) s2.heap.objs.size a ne es ep).toS, ⟨⟨_, Heap.get?_push_size _ rfl, rfl, rfl⟩, r.at' fun o e => Heap.get?_push_of_some _ e⟩, fun b hb => ?_, fun b o e hb => ?_, fun b o e => Heap.get?_push_of_some _ e, fun h0 s' mv => ?_, fun h0 => ⟨fun i j vi vj s' Q' E' _ h1 h2 h3 => CmpOf.ints_lt (fun i => is.getD i 0) hval i j vi vj s' Q' E' h1 h2 h3, fun x s' hx mv => ?_⟩⟩)
  · show b < (s2.heap.push _).objs.size
    rw [Heap.size_push]
    rcases List.mem_cons.mp hb with rfl | hb
    · exact Nat.lt_succ_self _
    · rw [List.mem_singleton.mp hb]
      exact Nat.lt_succ_of_lt r.lt
  · exact absurd (Heap.lt_size e) (by rw [List.mem_singleton.mp hb]; exact Nat.lt_irrefl _)
  · obtain ⟨h', tk, rfl, kp⟩ := PySem.W.moved_old rfl rfl mv
    have e0 : is = [] := List.length_eq_zero_iff.mp (by omega)
    exact ⟨.int d, H2, I2.kept kp, ⟨_, rfl⟩, q d (fun _ => rfl) fun z => absurd e0 z⟩
  · obtain ⟨h', tk, rfl, kp⟩ := PySem.W.moved_old rfl rfl mv
    obtain ⟨t1, rfl⟩ := hval _ x hx
    obtain ⟨b1, b2⟩ := argBest_lt (fun i => is.getD i 0) (es.size - 1)
    refine ⟨.int _, H2, I2.kept kp, ⟨t1, rfl⟩, q _ (fun z => ?_) fun _ => ⟨?_, fun j hj => ?_⟩⟩
    · rw [z] at le
      simp at le
      omega
    · have hb : argBest (fun i j => decide (is.getD i 0 < is.getD j 0)) (es.size - 1) < is.length := by omega
      rw [List.getD_eq_getElem?_getD, List.getElem?_eq_getElem hb]
      exact List.getElem_mem hb
    · obtain ⟨i, hi2, e⟩ := List.mem_iff_getElem.mp hj
      have e2 : is.getD i 0 = j := by
        rw [List.getD_eq_getElem?_getD, List.getElem?_eq_getElem hi2, ← e]
        rfl
      rw [← e2]
      exact b2 i (by omega)
end
end Mk

set_option Elab.async false
set_option linter.all false
set_option maxRecDepth 100000
set_option maxHeartbeats 1000000
namespace Mk
open PySem PySem.Spec L2 PyProof.Rows

abbrev sSmall : Stmt := inClass (top 22) 6
abbrev sEqP : Stmt := inClass (top 22) 15
abbrev sStrP : Stmt := inClass (top 22) 16
/-- all prices of a record -/
def allP (t1 t2 : PTab) (t3 : STab) : List Int := t1.map (·.2) ++ t2.map (·.2) ++ t3.map (·.2)
/-- the least one -/
def Least (m : Int) (is : List Int) : Prop := m ∈ is ∧ ∀ j ∈ is, m ≤ j
def spSmall (C : Addr) : Sp := fun vs H Q _ => ∃ (x : Addr) (t1 t2 : PTab) (t3 : STab), vs = [.ref x] ∧ PrAt C H x t1 t2 t3 ∧ t1 ≠ [] ∧ t2 ≠ [] ∧ (∀ p ∈ t1, p.2 ≤ 9) ∧ ∀ H' m, Same H H' → Least m (allP t1 t2 t3) → Q (.int m) H'
def spStrP (C : Addr) : Sp := fun vs H Q _ => ∃ (x : Addr) (t1 t2 : PTab) (t3 : STab), vs = [.ref x] ∧ PrAt C H x t1 t2 t3 ∧ t1.length ≤ 60 ∧ t3.length ≤ 60 ∧ ∀ z : Str, z = Str.empty ++ "prices of " ++ toString ((t1.length : Nat) : Int) ++ " signs, " ++ toString ((t3.length : Nat) : Int) ++ " swaps" → Q (.str z) H
def spEqP (K : PySem.W.Frag) (C : Addr) : Sp := fun vs H Q _ => ∃ (x : Addr) (y : V) (t1 t2 : PTab) (t3 : STab), vs = [.ref x, y] ∧ PrAt C H x t1 t2 t3 ∧
  ((∃ (z : Addr) (u1 u2 : PTab) (u3 : STab), y = .ref z ∧ PrAt C H z u1 u2 u3 ∧ Q (.bl (sameKV (kvsP t1) (kvsP u1) && (sameKV (kvsP t2) (kvsP u2) && sameKV (kvsS t3) (kvsS u3)))) H) ∨
  ((∃ t, TyX K H y t ∧ PySem.W.kitOne K t (.ref C) = some false) ∧ Q (.bl false) H))
/-- what isinstance of a value of the own class leans on -/
structure IsK (K : PySem.W.Frag) (C : Addr) : Prop where
  ha : PySem.W.findIn K (.ref C) "__class__" = some (some (.builtin "object.__class__"))
  hn : PySem.W.specialIn K (.builtin "object.__class__") "__get__" = some (some (.builtin "getset_descriptor.__get__"))
  htk : PySem.W.takesIn K (.builtin "object.__class__") = some true
  hm : PySem.W.mroIn K C (.type "object") = some true
section
variable {P : Program} {w : World} {K : PySem.W.Frag} {mg : Str → Option Value} {base : Heap}
theorem mem_snd {α : Type} {t : List (α × Int)} {is : List Int} {f : List (α × Int) → List (Key × V)} (h : t.map (·.2) = is) : ∀ j, j ∈ is ↔ j ∈ t.map (·.2) := fun j => by rw [h]
theorem kvsP_snd (t : PTab) : (kvsP t).map (·.2) = (t.map (·.2)).map V.int := by
  unfold kvsP
  rw [List.map_map, List.map_map]
  rfl
theorem kvsS_snd (t : STab) : (kvsS t).map (·.2) = (t.map (·.2)).map V.int := by
  unfold kvsS
  rw [List.map_map, List.map_map]
  rfl
theorem small_log {n : Nat} (h : n ≤ 60) : ((n : Int)).natAbs.log2 < 1920 := by
  have e : ((n : Int)).natAbs = n := by omega
  rw [e]
  by_cases z : n = 0
  · subst z
    decide
  · have := (Nat.log2_lt (k := 6) z).mpr (by omega)
    omega
theorem lenapp {a b : Str} {m n : Nat} (ha : a.length ≤ m) (hb : b.length ≤ n) : (a ++ b).length ≤ m + n := by
  rw [PySem.Str.length_append]
  omega
theorem small_txt : ∀ {n : Nat}, n ≤ 60 → (toString ((n : Nat) : Int) : Str).length ≤ 2 := by
  intro n h
  have : ∀ n : Fin 61, (toString ((n.val : Nat) : Int) : Str).length ≤ 2 := by decide +kernel
  exact this ⟨n, by omega⟩
end
end Mk

set_option Elab.async false
set_option linter.all false
set_option maxRecDepth 100000
set_option maxHeartbeats 1000000
/-! sorted(d.items()) of a table -/
namespace Mk
open PySem PySem.Spec PyProof.Rows L2

/-- how keys are ordered, and written as data -/
structure KOrd (α : Type) [DecidableEq α] (enc : α → PyData) (le : α → α → Bool) : Prop where
  eq : ∀ a b, PyData.eqv (enc a) (enc b) = decide (a = b)
  lt : ∀ a b, (!PySem.W.dataLt (enc b) (enc a)) = le a b
  al : ∀ a b, PySem.W.alike (enc a) (enc b) = true
  dp : ∀ a, (enc a).depth ≤ 2
  tot : ∀ a b, (le a b || le b a) = true
  tr : ∀ a b c, le a b = true → le b c = true → le a c = true
  an : ∀ a b, le a b = true → le b a = true → a = b
abbrev encV {α : Type} (enc : α → PyData) (p : α × Int) : PyData := .tuple [enc p.1, .int p.2]
def leV {α : Type} [DecidableEq α] (le : α → α → Bool) (p q : α × Int) : Bool := if p.1 = q.1 then decide (p.2 ≤ q.2) else le p.1 q.1
section
variable {α : Type} [DecidableEq α] {enc : α → PyData} {le : α → α → Bool}
theorem encV_le (O : KOrd α enc le) : PySem.W.dataLe false (encV enc) = leV le := by
  funext p q
  show (!PySem.W.dataLt (encV enc q) (encV enc p)) = leV le p q
  unfold encV leV
  rw [PySem.W.dataLt_pair (O.al _ _) (by simp [PySem.W.alike]), PySem.W.dataLt_int, O.eq]
  by_cases e : p.1 = q.1
  · rw [if_pos e, if_pos (by rw [e, decide_eq_true rfl])]
    rw [Bool.eq_iff_iff]
    simp
    intro h
    have h2 : (q.2 == p.2) = true := h
    have h3 : q.2 = p.2 := by simpa using h2
    omega
  · rw [if_neg e, if_neg (by rw [decide_eq_false (fun z => e z.symm)]; decide)]
    exact O.lt _ _
theorem leV_tot (O : KOrd α enc le) (p q : α × Int) : (leV le p q || leV le q p) = true := by
  unfold leV
  by_cases e : p.1 = q.1
  · rw [if_pos e, if_pos e.symm, Bool.or_eq_true, decide_eq_true_eq, decide_eq_true_eq]
    omega
  · rw [if_neg e, if_neg fun z => e z.symm]
    exact O.tot _ _
theorem leV_tr (O : KOrd α enc le) (p q r : α × Int) (h1 : leV le p q = true) (h2 : leV le q r = true) : leV le p r = true := by
  unfold leV at *
  by_cases e1 : p.1 = q.1
  · rw [if_pos e1, decide_eq_true_eq] at h1
    by_cases e2 : q.1 = r.1
    · rw [if_pos e2, decide_eq_true_eq] at h2
      rw [if_pos (e1.trans e2), decide_eq_true_eq]
      omega
    · rw [if_neg e2] at h2
      rw [if_neg (by rw [e1]; exact e2), e1]
      exact h2
  · rw [if_neg e1] at h1
    by_cases e2 : q.1 = r.1
    · rw [if_neg (by rw [← e2]; exact e1), ← e2]
      exact h1
    · rw [if_neg e2] at h2
      have h3 := O.tr _ _ _ h1 h2
      by_cases e3 : p.1 = r.1
      · exact absurd (O.an _ _ h1 (by rw [e3]; exact h2)) e1
      · rw [if_neg e3]
        exact h3
theorem sortV_up (O : KOrd α enc le) (t : List (α × Int)) : ((t.mergeSort (leV le)).map (·.1)).Pairwise (fun a b => le a b = true) := by
  rw [List.pairwise_map]
  refine List.Pairwise.imp ?_ (List.pairwise_mergeSort (fun a b c => leV_tr O a b c) (leV_tot O) t)
  intro p q h
  unfold leV at h
  by_cases e : p.1 = q.1
  · rw [e]
    have := O.tot q.1 q.1
    simpa using this
  · rwa [if_neg e] at h
end
theorem ordK : KOrd Str PyData.str byCs where
  eq := fun a b => by
    show (a == b) = decide (a = b)
    by_cases h : a = b
    · rw [decide_eq_true h, h, beq_self_eq_true]
    · rw [decide_eq_false h, beq_eq_false_iff_ne.mpr h]
  lt := fun a b => by
    rw [PySem.W.dataLt_str]
    unfold byCs
    rw [Bool.eq_iff_iff]
    simp
  al := fun a b => by simp [PySem.W.alike]
  dp := fun a => by simp [PyData.depth]
  tot := byCs_total
  tr := byCs_trans
  an := byCs_anti
theorem ordT : KOrd (Str × Str) enc2 le2 where
  eq := fun a b => by
    by_cases h : a = b
    · rw [decide_eq_true h, h]
      simp [enc2, PyData.eqv, PyData.eqvAll]
    · rw [decide_eq_false h]
      have : ¬ (a.1 = b.1 ∧ a.2 = b.2) := fun z => h (Prod.ext z.1 z.2)
      simp [enc2, PyData.eqv, PyData.eqvAll]
      intro e1 e2
      exact this ⟨e1, e2⟩
  lt := fun a b => congrFun (congrFun enc2_le a) b
  al := fun a b => by simp [PySem.W.alike, PySem.W.alikeAll]
  dp := fun a => by simp [enc2, PyData.depth, PyData.depthAll]
  tot := le2_total
  tr := le2_trans
  an := le2_anti
theorem each_ix {β : Type} {R : Value → β → Prop} : ∀ {as : List Addr} {t : List β}, as.length = t.length → (∀ (j : Nat) (b : Addr) (y : β), as[j]? = some b → t[j]? = some y → R (.ref b) y) → PySem.W.EachIs R (as.map Value.ref) t
  | [], [], _, _ => .nil
  | [], _ :: _, h, _ => nomatch h
  | _ :: _, [], h, _ => nomatch h
  | b :: as, y :: t, h, f => .cons (f 0 b y rfl rfl) (each_ix (by simpa using h) fun j c z h1 h2 => f (j + 1) c z (by simpa using h1) (by simpa using h2))
theorem each_refs {β : Type} {F : Addr → β → Prop} : ∀ {out : List Value} {ys : List β}, PySem.W.EachIs (fun v y => ∃ b : Addr, v = .ref b ∧ F b y) out ys → ∃ ts : List Addr, out = ts.map Value.ref ∧ Paired F ts ys
  | _, _, .nil => ⟨[], rfl, .nil⟩
  | _, _, .cons ⟨b, e, h⟩ r => by
    obtain ⟨ts, e2, h2⟩ := each_refs r
    exact ⟨b :: ts, by rw [e, e2]; rfl, .cons h h2⟩
section
variable {X : Cx}
/-- sorted of a view of items, by what the made pairs are as data -/
theorem itms_sorted {α : Type} [DecidableEq α] {enc : α → PyData} {le : α → α → Bool} (O : KOrd α enc le) {pins : List (Addr × Obj)} {s : Shared} {σ : L2.St} {H : Hp} {p a : Addr} {ps : List (V × V)} {t : List (α × Int)} {Q : VK} (hc : X.calm = true) (hu : X.A.units + 60 < cLine) (I : Inv X pins σ H s) (hp : H p = some (DX.itemsO p a)) (hr : RawAt s.heap a ps)
    (hl : ps.length = t.length) (h100 : t.length ≤ 100) (tell : ∀ (j : Nat) (x : V × V) (y : α × Int), ps[j]? = some x → t[j]? = some y → x.2 = .int y.2 ∧ ∀ (u : Value), RelV x.1 u → ∀ h : Heap, (∀ b o, s.heap.get? b = some o → h.get? b = some o) → Reads h u (enc y.1) [])
    (q : ∀ (H' : Hp) (l : Addr) (ts : List Addr) (u : List (α × Int)), Same H H' → H l = none → H' l = some (.lst (ts.map V.ref)) → u.Perm t → (u.map (·.1)).Pairwise (fun a b => le a b = true) → Paired (fun (b : Addr) (y : α × Int) => ∃ x : V × V, H' b = some (.tup [x.1, x.2]) ∧ ∃ j : Nat, ps[j]? = some x ∧ t[j]? = some y) ts u → Q (.ref l) H') :
    wpAny (model X.prog X.w) X.A (call (.builtin "sorted") [.ref p]) (EP X pins σ Q) X.xe s := by
  obtain ⟨lo, hz, es, ep, r, pr⟩ := hr
  obtain ⟨vw, _⟩ := I.hok p _ hp
  have vw' : s.heap.IsItemsView p a := vw
  have le0 : ps.length = es.size := by
    have := Paired.length pr
    simpa using this
  have lim : 100 ≤ sizeLine := by decide
  refine DT.sortedI (es := es) (ep := ep) (I.ok.hd hc) vw' r (by omega) fun h' tk as hk hlt hla hG => ?_
  have nd : as.Nodup := List.Pairwise.imp (fun h => Nat.ne_of_lt h) hG.rise
  have at0 : (h'.push { cls := .type "list", data := .seq (as.map Value.ref).toArray }).get? h'.objs.size = some (seqObj "list" (as.map Value.ref).toArray 0) := Heap.get?_push_size _ rfl
  have kb : ∀ b o, h'.get? b = some o → (h'.push { cls := .type "list", data := .seq (as.map Value.ref).toArray }).get? b = some o := fun b o e => Heap.get?_push_of_some _ e
  generalize h'.push { cls := .type "list", data := .seq (as.map Value.ref).toArray } = h2 at at0 kb ⊢
  -- what a made pair is
  have made : ∀ (j : Nat) (b : Addr), as[j]? = some b → ∃ (x : V × V) (y : α × Int) (k v : Value), ps[j]? = some x ∧ t[j]? = some y ∧ RelV x.1 k ∧ RelV x.2 v ∧ h'.get? b = some { cls := .type "tuple", data := .seq #[k, v] } := fun j b hj => by
    obtain ⟨h1, _⟩ := List.getElem?_eq_some_iff.mp hj
    have j1 : j < ps.length := by omega
    have j2 : j < t.length := by omega
    obtain ⟨en, he, r1, r2⟩ := paired_get pr (List.getElem?_eq_getElem j1)
    obtain ⟨en', he', hg⟩ := hG.pairs j b hj
    rw [Array.getElem?_toList] at he
    have : en' = en := Option.some.inj (he'.symm.trans he)
    subst this
    exact ⟨_, _, _, _, List.getElem?_eq_getElem j1, List.getElem?_eq_getElem j2, r1, r2, hg⟩
  let R : Value → α × Int → Prop := fun v y => ∃ b : Addr, v = .ref b ∧ ∃ j : Nat, as[j]? = some b ∧ t[j]? = some y
  have ev : PySem.W.EachIs R (as.map Value.ref) t := by
    exact each_ix (by omega) fun j b y h1 h2 => ⟨b, rfl, j, h1, h2⟩
  have rd : ∀ v y, R v y → ∃ bs, Reads h2 v (encV enc y) bs ∧ h'.objs.size ∉ bs := by
    rintro v y ⟨b, rfl, j, hj, hy⟩
    obtain ⟨x, y', k, u, hx, hy', r1, r2, hg⟩ := made j b hj
    have : y' = y := Option.some.inj (hy'.symm.trans hy)
    subst this
    obtain ⟨t1, t2⟩ := tell j x y' hx hy
    rw [t1] at r2
    obtain ⟨tk2, rfl⟩ := r2
    have r3 := t2 k r1 h2 fun b o e => kb b o (hk b o e)
    exact ⟨_, .tuple (kb _ _ hg) rfl rfl (.cons r3 (.cons (.int _ _) .nil)), fun z => nomatch z⟩
  refine wpAny_mono (PySem.W.list_sort_data (A := X.A.in1) (s := { s with heap := h2, toks := tk }) (enc := encV enc) (Q := fun v s' => EP X pins σ Q (.ref h'.objs.size) s') at0 ev (each_mono2 rd ev) (PySem.W.AllAlike.of fun y z => by simp [encV, PySem.W.alike, PySem.W.alikeAll, O.al]) (PySem.W.Sortable.tuples fun k => ⟨_, _, rfl⟩) (by omega) (fun k _ => ?_) fun out lo2 eo => ?_) (fun _ _ z => z) fun _ _ z => z
  · show X.A.units + 1 + 1 + (encV enc k).depth < cLine
    have d1 := O.dp k.1
    have : (encV enc k).depth ≤ 3 := by
      simp only [encV, PyData.depth, PyData.depthAll]
      omega
    omega
  rw [encV_le O] at eo
  obtain ⟨ts, rfl, tp⟩ := each_refs eo
  have lts : ts.length = t.length := by rw [← lo2, List.length_map]
  obtain ⟨c, hcc⟩ := sortedHeap_at (vs := as.map Value.ref) (out := (ts.map Value.ref).toArray) at0
  have kF : ∀ b o, b ≠ h'.objs.size → h2.get? b = some o → (sortedHeap h2 h'.objs.size (as.map Value.ref) (ts.map Value.ref).toArray).get? b = some o := fun b o hb e => (sortedHeap_old hb (Heap.lt_size e)).trans e
  have kH : ∀ b o, h'.get? b = some o → (sortedHeap h2 h'.objs.size (as.map Value.ref) (ts.map Value.ref).toArray).get? b = some o := fun b o e => kF b o (Nat.ne_of_lt (Heap.lt_size e)) (kb b o e)
  generalize sortedHeap h2 h'.objs.size (as.map Value.ref) (ts.map Value.ref).toArray = h3 at hcc kH ⊢
  have I0 : Inv X pins σ H { s with heap := h3, toks := tk } := I.kept (t' := tk) fun b o e => kH b o (hk b o e)
  have hn0 : H h'.objs.size = none := I.hok.fresh (Nat.le_of_lt hlt)
  have I1 : Inv X pins σ (upd H h'.objs.size (.lst (ts.map V.ref))) { s with heap := h3, toks := tk } := I0.take (h' := h3) (t' := tk) (fun b ob _ e => e) (I.fpOk (Nat.le_of_lt hlt) hn0) ⟨by rw [List.length_map]; omega, _, c, refs_vals ts, hcc⟩
  have hG3 : DT.Made es s.heap.objs.size h3 as := ⟨hG.rise, hG.above, fun j b h => let ⟨e, he, hg⟩ := hG.pairs j b h; ⟨e, he, kH _ _ hg⟩⟩
  obtain ⟨H2, I2, g, mt⟩ := made_told I I1 (Nat.le_refl _) hG3 (by omega) (fun b hb => by
    have l1 : b < h'.objs.size := hG.there hb
    rw [upd_ne (Nat.ne_of_lt l1)]
    exact I.hok.fresh (Nat.le_of_lt (hG.above b hb))) pr
  refine ⟨.ref h'.objs.size, H2, I2, rfl, q H2 _ ts _ (fun b o e => g b o (by rw [upd_ne (ne_of_none e hn0)]; exact e)) hn0 (g _ _ upd_same) (List.mergeSort_perm _ _) (sortV_up O t) ?_⟩
  refine Paired.mapP tp fun b y ⟨j, h1, h2⟩ => ?_
  obtain ⟨h4, _⟩ := List.getElem?_eq_some_iff.mp h1
  have j1 : j < ps.length := by omega
  obtain ⟨x, hx, e⟩ := paired_get mt h1
  exact ⟨x, e, j, hx, h2⟩
def rSortK : List V → Hp → VK → Prop := fun vs H Q => ∃ (p a : Addr) (t : PTab), vs = [.ref p] ∧ H p = some (DX.itemsO p a) ∧ H a = some (.dK (kvsP t)) ∧ t.length ≤ 100 ∧
  ∀ (H' : Hp) (l : Addr) (ts : List Addr) (u : PTab), Same H H' → H l = none → H' l = some (.lst (ts.map V.ref)) → u.Perm t → (u.map (·.1)).Pairwise (fun a b => byCs a b = true) → Paired (fun (b : Addr) (y : Str × Int) => H' b = some (.tup [.str y.1, .int y.2])) ts u → Q (.ref l) H'
theorem call_sortK (hc : X.calm = true) (hu : X.A.units + 60 < cLine) : CallR X (.builtin "sorted") rSortK := by
  intro pins s σ H xs us Q I r h
  obtain ⟨p, a, t, rfl, hp, ha, hl, q⟩ := h
  obtain ⟨u, rfl, rx⟩ := vals1 r
  obtain rfl : u = Value.ref p := rx
  have at_ : ∀ (j : Nat) (x : V × V) (y : Str × Int), (psK (kvsP t))[j]? = some x → t[j]? = some y → x = (.str y.1, .int y.2) := fun j x y h1 h2 => by
    unfold psK kvsP at h1
    rw [List.map_map, List.getElem?_map, h2] at h1
    exact (Option.some.inj h1).symm
  refine itms_sorted ordK hc hu I hp (rawK I.hok ha) (t := t) (by unfold psK kvsP; rw [List.length_map, List.length_map]) hl (fun j x y h1 h2 => ?_) fun H' l ts u a1 a2 a3 a4 a5 a6 => q H' l ts u a1 a2 a3 a4 a5 (Paired.mapP a6 fun b y ⟨x, e, j, h1, h2⟩ => ?_)
  · rw [at_ j x y h1 h2]
    refine ⟨rfl, fun u r h _ => ?_⟩
    obtain ⟨tk, rfl⟩ := r
    exact .str _ _
  · rw [e, at_ j x y h1 h2]
def rSortT : List V → Hp → VK → Prop := fun vs H Q => ∃ (p a : Addr) (t : STab), vs = [.ref p] ∧ H p = some (DX.itemsO p a) ∧ H a = some (.dT (kvsS t)) ∧ t.length ≤ 100 ∧
  ∀ (H' : Hp) (l : Addr) (ts : List Addr) (u : STab), Same H H' → H l = none → H' l = some (.lst (ts.map V.ref)) → u.Perm t → (u.map (·.1)).Pairwise (fun a b => le2 a b = true) → Paired (fun (b : Addr) (y : (Str × Str) × Int) => ∃ k : Addr, H' b = some (.tup [.ref k, .int y.2]) ∧ H' k = some (.tup [.str y.1.1, .str y.1.2])) ts u → Q (.ref l) H'
theorem zip_at {qs : List Addr} {kvs : List (List Key × V)} {j : Nat} {x : V × V} (h : (psT qs kvs)[j]? = some x) : ∃ q p, qs[j]? = some q ∧ kvs[j]? = some p ∧ x = (V.ref q, p.2) := by
  unfold psT at h
  rw [List.getElem?_map] at h
  obtain ⟨z, hz, rfl⟩ := Option.map_eq_some_iff.mp h
  obtain ⟨z1, z2⟩ := List.getElem?_zip_eq_some.mp hz
  exact ⟨z.1, z.2, z1, z2, rfl⟩
theorem keys_at {H : Hp} {kvs : List (List Key × V)} {qs : List Addr} (h : IsKeys H kvs qs) {j : Nat} {q : Addr} {p : List Key × V} (h1 : qs[j]? = some q) (h2 : kvs[j]? = some p) : H q = some (.tup (p.1.map kV)) := by
  obtain ⟨q', e1, e2⟩ := paired_get h h2
  have : q' = q := Option.some.inj (e1.symm.trans h1)
  rwa [this] at e2
theorem call_sortT (hc : X.calm = true) (hu : X.A.units + 60 < cLine) : CallR X (.builtin "sorted") rSortT := by
  intro pins s σ H xs us Q I r h
  obtain ⟨p, a, t, rfl, hp, ha, hl, q⟩ := h
  obtain ⟨u, rfl, rx⟩ := vals1 r
  obtain rfl : u = Value.ref p := rx
  obtain ⟨qs, hq, hr⟩ := rawT I.hok ha
  have at_ : ∀ (j : Nat) (x : V × V) (y : (Str × Str) × Int), (psT qs (kvsS t))[j]? = some x → t[j]? = some y → ∃ k : Addr, x = (.ref k, .int y.2) ∧ H k = some (.tup [.str y.1.1, .str y.1.2]) := fun j x y h1 h2 => by
    obtain ⟨k, pr, e1, e2, e3⟩ := zip_at h1
    have e4 := keys_at hq e1 e2
    unfold kvsS at e2
    rw [List.getElem?_map, h2] at e2
    have e5 := (Option.some.inj e2).symm
    rw [e5] at e3 e4
    exact ⟨k, e3, e4⟩
  have lk : (psT qs (kvsS t)).length = t.length := by
    have := Paired.length hq
    unfold psT
    rw [List.length_map, List.length_zip, ← this, Nat.min_self, kvsS_len]
  refine itms_sorted ordT hc hu I hp hr (t := t) lk hl (fun j x y h1 h2 => ?_) fun H' l ts u a1 a2 a3 a4 a5 a6 => q H' l ts u a1 a2 a3 a4 a5 (Paired.mapP a6 fun b y ⟨x, e, j, h1, h2⟩ => ?_)
  · obtain ⟨k, rfl, hk⟩ := at_ j x y h1 h2
    refine ⟨rfl, fun u r h kp => ?_⟩
    obtain rfl := r
    obtain ⟨its, rv, ⟨ob, e1, e2, n, e3⟩, _⟩ := I.tuple (SqT.of hk)
    cases rv with
    | cons r1 t1 =>
      obtain ⟨k1, rfl⟩ := r1
      cases t1 with
      | cons r2 t2 =>
        obtain ⟨k2, rfl⟩ := r2
        cases t2
        exact .tuple (kp _ _ e1) e2 e3 (.cons (.str _ _) (.cons (.str _ _) .nil))
  · obtain ⟨k, rfl, hk⟩ := at_ j x y h1 h2
    exact ⟨k, e, a1 _ _ hk⟩
end
end Mk

set_option Elab.async false
set_option linter.all false
set_option maxRecDepth 100000
set_option maxHeartbeats 1000000
/-! dict(l) of a list of pairs whose first items are tuples, each there once -/
namespace Mk
open PySem PySem.Spec PyProof.Rows L2

abbrev PrsT (K : PySem.W.Frag) (H : Hp) : List Addr → List (List Key × V) → Prop := Paired fun p kv => ∃ b, H b = some (.tup (kv.1.map kV)) ∧ SqT K H p [.ref b, kv.2]
section
variable {X : Cx}
theorem pairsT_of {pins : List (Addr × Obj)} {σ : L2.St} {H : Hp} {s : Shared} (I : Inv X pins σ H s) : ∀ {ps : List Addr} {kvs : List (List Key × V)}, PrsT X.K H ps kvs →
    ∃ xs : List (List Key × Addr × Value), KT H kvs xs ∧ xs.length = ps.length ∧ ∀ (j : Nat) (q : List Key × Addr × Value), xs[j]? = some q → ∃ p, ps[j]? = some p ∧ IsTup s.heap p #[.ref q.2.1, q.2.2]
  | _, _, .nil => ⟨[], .nil, rfl, fun j q e => by simp at e⟩
  | _, _, .cons (a := p) (b := kv) h t => by
    obtain ⟨xs, r, hl, hp⟩ := pairsT_of I t
    obtain ⟨b, hb, hq⟩ := h
    obtain ⟨its, rv, ht, _⟩ := I.tuple hq
    obtain ⟨u, y, ei, ru, ry⟩ := vals2 rv
    subst ei
    obtain rfl : u = Value.ref b := ru
    refine ⟨(kv.1, b, y) :: xs, .cons ⟨rfl, hb, ry⟩ r, by rw [List.length_cons, List.length_cons, hl], fun j q e => ?_⟩
    cases j with
    | zero =>
      have e' : (kv.1, b, y) = q := Option.some.inj e
      subst e'
      exact ⟨p, rfl, ht⟩
    | succ j =>
      obtain ⟨p', e1, e2⟩ := hp j q (by simpa using e)
      exact ⟨p', by simpa using e1, e2⟩
theorem KT.keys {H : Hp} {kvs : List (List Key × V)} {xs : List (List Key × Addr × Value)} (r : KT H kvs xs) : xs.map (·.1) = kvs.map (·.1) := by
  induction r with
  | nil => rfl
  | cons h t ih => rw [List.map_cons, List.map_cons, ih, h.1]
theorem call_dictPT (hcalm : X.calm = true) (hu : X.A.units + 8 < cLine) : CallR X (.type "dict") (fun xs H Q => ∃ (a : Addr) (ps : List Addr) (kvs : List (List Key × V)), xs = [.ref a] ∧ SqL X.K H a (ps.map V.ref) ∧ PrsT X.K H ps kvs ∧ (kvs.map (·.1)).Nodup ∧
    ∀ p, H p = none → Q (.ref p) (upd H p (.dT kvs))) := by
  intro pins s σ H xs us Q I r q
  obtain ⟨a, ps, kvs, ex, hq, hp, nd, q⟩ := q
  subst ex
  obtain ⟨u, eu, rx⟩ := vals1 r
  subst eu
  cases rx
  obtain ⟨its, rv, pl, hz⟩ := I.list hq
  have ei := refs_at rv
  subst ei
  rw [List.length_map] at hz
  obtain ⟨prs, rel, hl, hpr⟩ := pairsT_of I hp
  obtain ⟨o, n, ho, hc, hd, hdat⟩ := pl
  have hk2 : ∀ x ∈ prs, (tupleKind (mixKind X.prog X.w)).is s.heap x.1 x.2.1 := by
    have all : ∀ {l : List (List Key × V)} {m : List (List Key × Addr × Value)}, KT H l m → ∀ x ∈ m, (tupleKind (mixKind X.prog X.w)).is s.heap x.1 x.2.1 := by
      intro l m q
      induction q with
      | nil => intro x hx; exact nomatch hx
      | @cons p q ps qs hq t ih =>
        intro x hx
        rcases List.mem_cons.mp hx with e | hx
        · subst e
          exact key_of I.hok (by rw [← hq.1]; exact hq.2.1)
        · exact ih x hx
    exact all rel
  have er : storedAllH [] prs = prs := storedAllH_nil_of_nodup prs (by rw [KT.keys rel]; exact nd)
  refine PySem.call_dict_pairsH (knd := tupleKind (mixKind X.prog X.w)) (ps := prs) (PySem.PairArg.list a (ps.map Value.ref).toArray (fun j => ps.getD j 0) (prs.map fun q => (Value.ref q.2.1, q.2.2))) (I.ok.hd hcalm) (show (tupleKind (mixKind X.prog X.w)).room X.A.in1.in1 from ?_) ⟨⟨o, n, ho, hc, hd, hdat⟩, ?_, ?_⟩ ⟨by simp, ?_⟩ ?_ (by rw [List.length_map, hl]; exact hz) fun h' tk hd' k => ?_
  · show X.A.units + 1 + 1 < cLine
    omega
  · simp [hl]
  · intro j k v e
    rw [List.getElem?_map] at e
    obtain ⟨q, eq, e⟩ := Option.map_eq_some_iff.mp e
    cases e
    obtain ⟨p, e1, e2⟩ := hpr j q eq
    refine ⟨?_, .inl ?_⟩
    · simp [e1]
    · simp [e1]
      exact e2
  · intro i key v e
    have e : (prs.map fun q => (Value.ref q.2.1, q.2.2))[i]? = some (key, v) := e
    rw [List.getElem?_map] at e
    obtain ⟨q, eq, e⟩ := Option.map_eq_some_iff.mp e
    cases e
    exact ⟨q.1, q.2.1, eq, rfl⟩
  · intro h' hk x hx
    obtain ⟨o', its, m, h1, h2, h3, h4⟩ := hk2 x hx
    exact ⟨o', its, m, hk _ _ (Nat.ne_of_lt (Heap.lt_size h1)) (fun z => nomatch z) h1, h2, h3, h4⟩
  · rw [er] at hd'
    have hm : (s.heap.objs.size == sysModules) = false := beq_eq_false_iff_ne.mpr (Nat.ne_of_gt I.big)
    have hlen : kvs.length ≤ sizeLine := by
      rw [Paired.length rel, hl]
      exact hz
    have nS : H s.heap.objs.size = none := I.hok.fresh (Nat.le_refl _)
    have rel2 : KT (upd H s.heap.objs.size (.dT kvs)) kvs prs := rel.keeps fun b ys e => by
      rw [upd_ne (ne_of_none e nS)]
      exact e
    obtain ⟨o', es, ep, h1, h2, h3, h4, _, h5⟩ := hd'
    exact ⟨.ref s.heap.objs.size, upd H s.heap.objs.size (.dT kvs), I.laid (t' := tk) (fun b o e => k b o (fun z => nomatch z) e) (Nat.le_refl _) (show ObjOk X.prog X.w _ _ _ (.dT kvs) from ⟨hlen, hm, prs, rel2, o', es, ep, h1, h2, h3, h4, h5⟩), rfl, q _ nS⟩
end
end Mk

set_option Elab.async false
set_option linter.all false
set_option maxRecDepth 100000
set_option maxHeartbeats 1000000
namespace Mk
open PySem PySem.Spec L2 PyProof.Rows

abbrev sLSigns : Stmt := top 0
/-- the signs of a text -/
def sgs (z : Str) : List Str := (cs z).map fun c => ⟨#[c]⟩
section
variable {X : Cx}
theorem sign_vals {z : Str} {acc : Array Value} (h : ItemsOf (SignAt z) acc z.cps.size) : Vals ((sgs z).map V.str) acc.toList := by
  refine paired_ix (by simp [sgs, h.1]) fun j x y e1 e2 => ?_
  obtain ⟨c, u, hc, rfl⟩ := h.2 j y (by simpa using e2)
  have e3 : (sgs z)[j]? = some ⟨#[c]⟩ := by
    have : (cs z)[j]? = some c := by rw [← hc]; simp [cs]
    unfold sgs
    rw [List.getElem?_map, this]
    rfl
  rw [List.getElem?_map, e3] at e1
  cases e1
  exact ⟨u, rfl⟩
theorem call_listS (hc : X.calm = true) : CallR X (.type "list") (fun xs H Q => ∃ z : Str, xs = [.str z] ∧ z.length ≤ sizeLine ∧ ∀ l, H l = none → Q (.ref l) (upd H l (.lst ((sgs z).map V.str)))) := by
  intro pins s σ H xs us Q I r h
  obtain ⟨z, rfl, hl, q⟩ := h
  obtain ⟨u, rfl, rx⟩ := vals1 r
  obtain ⟨t, rfl⟩ := rx
  refine call_list_str (hn := hl) (I.ok.hd hc) z t fun h' tk acc' c' kp e it => ?_
  have rv := sign_vals it
  refine ⟨.ref s.heap.objs.size, _, I.laid (t' := tk) kp (Nat.le_refl _) (show ObjOk X.prog X.w _ h' _ (.lst ((sgs z).map V.str)) from ⟨?_, acc'.toList, c', rv, by simpa using e⟩), rfl, q _ (I.hok.fresh (Nat.le_refl _))⟩
  rw [List.length_map, sgs, List.length_map]
  exact hl
end
theorem strs_perm {ys : List V} {zs : List Str} (p : ys.Perm (zs.map V.str)) : ∃ ws : List Str, ys = ws.map V.str ∧ ws.Perm zs := by
  let f : V → Str := fun v => match v with | .str s => s | _ => ""
  have e : ∀ l : List Str, (l.map V.str).map f = l := fun l => by
    rw [List.map_map]
    exact (List.map_congr_left fun _ _ => rfl).trans (List.map_id l)
  refine ⟨ys.map f, ?_, ?_⟩
  · rw [List.map_map]
    refine ((List.map_congr_left fun v hv => ?_).trans (List.map_id ys)).symm
    obtain ⟨z, _, rfl⟩ := List.mem_map.mp (p.mem_iff.mp hv)
    rfl
  · have := p.map f
    rwa [e] at this
theorem cut_strs (ws : List Str) (j : Nat) : cutV (ws.map V.str) none (some (j : Int)) = (ws.take (min j ws.length)).map V.str := by
  unfold cutV
  rw [HT.sIx_none, HT.sIx_nat, List.length_map, List.drop_zero, Nat.sub_zero, List.map_take]
def spShufS : Sp := fun vs H Q _ => ∃ (p : Addr) (z : Str) (n : Nat), vs = [.ref p, .str z] ∧ z.length < 100000 ∧ Pot H p n ∧ n + z.length < PB ∧
  ∀ H' D ys, But p H H' → H D = none → H' D = some (.lst ys) → ys.Perm ((sgs z).map V.str) → Pot H' p (n + z.length) → Q (.ref D) H'
/-- signs, ascending -/
structure SgL (zs : List Str) : Prop where
  ne : zs ≠ []
  le : zs.length ≤ 5
  sg : ∀ z ∈ zs, sgB z = true
  nd : zs.Nodup
  up : sortedS zs = true
def spLSigns : Sp := fun vs H Q _ => ∃ (p : Addr) (n : Nat), vs = [.ref p] ∧ Pot H p n ∧ n + 6 < PB ∧
  ∀ H' S zs, But p H H' → H S = none → H' S = some (.lst (zs.map V.str)) → SgL zs → Pot H' p (n + 6) → Q (.ref S) H'
theorem But.nul {p b : Addr} {H H' : Hp} {n : Nat} (B : But p H H') (P : Pot H' p n) (h : H' b = none) : H b = none := by
  cases e : H b with
  | none => rfl
  | some o =>
    have := B b o (P.ne h).symm e
    rw [h] at this
    cases this
section
variable {P : Program} {w : World} {K : PySem.W.Frag} {mg : Str → Option Value} {base : Heap}
theorem five_sg : (∀ z ∈ sgs "abcde", sgB z = true) ∧ (sgs "abcde").Nodup ∧ (sgs "abcde").length = 5 := by
  refine ⟨by decide +kernel, by decide +kernel, by decide +kernel⟩
end
end Mk

set_option Elab.async false
set_option linter.all false
set_option maxRecDepth 100000
set_option maxHeartbeats 1000000
namespace Mk
open PySem PySem.Spec L2 PyProof.Rows

abbrev sLTables : Stmt := top 0
structure Dn (mg : Str → Option Value) : Prop where
  dict : mg "dict" = none
theorem not_in_append {t : List (Str × Int)} {p : Str × Int} {r : List (Str × Int)} (h : ((t ++ p :: r).map (·.1)).Nodup) : p.1 ∉ t.map (·.1) := fun m => by
  rw [List.map_append, List.map_cons] at h
  exact (List.nodup_append.mp h).2.2 _ m _ List.mem_cons_self rfl
theorem merge_P : ∀ (b a : PTab), ((a ++ b).map (·.1)).Nodup → mergeK (kvsP a) (kvsP b) = kvsP (a ++ b)
  | [], a, _ => by rw [List.append_nil]; rfl
  | p :: b, a, h => by
    show mergeK (L2.putK (kvsP a) (Sum.inr p.1) (V.int p.2)) (kvsP b) = _
    rw [putP_new (not_in_append h)]
    have e : a ++ [(p.1, p.2)] ++ b = a ++ p :: b := by simp
    have := merge_P b (a ++ [(p.1, p.2)]) (by rw [e]; exact h)
    rw [this, e]
theorem merge_P0 {t : PTab} (h : (t.map (·.1)).Nodup) : mergeK [] (kvsP t) = kvsP t := merge_P t [] h
/-- pairs of a sign and a number, told by tuples -/
abbrev Tups (H : Hp) (ts : List Addr) (tab : PTab) : Prop := Paired (fun (t : Addr) (q : Str × Int) => H t = some (.tup [.str q.1, .int q.2])) ts tab
theorem tups_sq {K : PySem.W.Frag} {H : Hp} : ∀ {ts : List Addr} {tab : PTab}, Tups H ts tab → Paired (fun (p : Addr) (kv : Key × V) => SqT K H p [kV kv.1, kv.2]) ts (kvsP tab)
  | _, _, .nil => .nil
  | _, _, .cons h t => .cons (SqT.of h) (tups_sq t)
theorem Paired.snocP {α β : Type} {F : α → β → Prop} {a : α} {b : β} (h : F a b) : ∀ {l : List α} {m : List β}, Paired F l m → Paired F (l ++ [a]) (m ++ [b])
  | _, _, .nil => .cons h .nil
  | _, _, .cons x t => .cons x (Paired.snocP h t)
theorem Paired.appendP {α β : Type} {F : α → β → Prop} : ∀ {l l2 : List α} {m m2 : List β}, Paired F l m → Paired F l2 m2 → Paired F (l ++ l2) (m ++ m2)
  | _, _, _, _, .nil, h => h
  | _, _, _, _, .cons x t, h => .cons x (Paired.appendP t h)
theorem Paired.permL {α β : Type} {F : α → β → Prop} {ps qs : List α} (p : ps.Perm qs) : ∀ {ks : List β}, Paired F qs ks → ∃ ls, ls.Perm ks ∧ Paired F ps ls := by
  induction p with
  | nil =>
    intro ks h
    cases h
    exact ⟨[], .refl _, .nil⟩
  | cons x _ ih =>
    intro ks h
    cases h with
    | cons a t =>
      obtain ⟨ls, p, q⟩ := ih t
      exact ⟨_ :: ls, p.cons _, .cons a q⟩
  | swap x y l =>
    intro ks h
    cases h with
    | cons a t =>
      cases t with
      | cons b t => exact ⟨_, List.Perm.swap _ _ _, .cons b (.cons a t)⟩
  | trans _ _ i1 i2 =>
    intro ks h
    obtain ⟨l1, p1, q1⟩ := i2 h
    obtain ⟨l2, p2, q2⟩ := i1 q1
    exact ⟨l2, p2.trans p1, q2⟩
theorem Paired.subL {α β : Type} {F : α → β → Prop} {ps qs : List α} (p : List.Sublist ps qs) : ∀ {ks : List β}, Paired F qs ks → ∃ ls : List β, List.Sublist ls ks ∧ Paired F ps ls := by
  induction p with
  | slnil =>
    intro ks h
    cases h
    exact ⟨[], .slnil, .nil⟩
  | cons x _ ih =>
    intro ks h
    cases h with
    | cons a t =>
      obtain ⟨ls, p, q⟩ := ih t
      exact ⟨ls, p.cons _, q⟩
  | cons_cons x _ ih =>
    intro ks h
    cases h with
    | cons a t =>
      obtain ⟨ls, p, q⟩ := ih t
      exact ⟨_ :: ls, p.cons_cons _, .cons a q⟩
/-- addresses of a permuted list of addresses -/
theorem refs_perm {ys : List V} {qs : List Addr} (p : ys.Perm (qs.map V.ref)) : ∃ ps : List Addr, ys = ps.map V.ref ∧ ps.Perm qs := by
  let f : V → Addr := fun v => match v with | .ref s => s | _ => 0
  have e : ∀ l : List Addr, (l.map V.ref).map f = l := fun l => by
    rw [List.map_map]
    exact (List.map_congr_left fun _ _ => rfl).trans (List.map_id l)
  refine ⟨ys.map f, ?_, ?_⟩
  · rw [List.map_map]
    refine ((List.map_congr_left fun v hv => ?_).trans (List.map_id ys)).symm
    obtain ⟨z, _, rfl⟩ := List.mem_map.mp (p.mem_iff.mp hv)
    rfl
  · have := p.map f
    rwa [e] at this
theorem But.new {p l : Addr} {o : HO} {H H1 : Hp} (B : But p H H1) (hl : H1 l = none) : But p H (upd H1 l o) := B.same (Same.new hl)
/-- signs with prices that are dealt out, in the list at D -/
structure Dealt (p : Addr) (H H1 : Hp) (D : Addr) (ws : List Str) (m : Int) (n : Nat) : Prop where
  but : But p H H1
  pot : Pot H1 p n
  ex : ∃ (ts : List Addr) (tab : PTab), H1 D = some (.lst (ts.map V.ref)) ∧ Tups H1 ts tab ∧ tab.map (·.1) = ws ∧ ∀ q ∈ tab, 1 ≤ q.2 ∧ q.2 ≤ m
theorem Tups.keep {H H' : Hp} (k : ∀ b xs, H b = some (.tup xs) → H' b = some (.tup xs)) {ts : List Addr} {tab : PTab} (h : Tups H ts tab) : Tups H' ts tab := L2.Paired.mapP h fun _ _ e => k _ _ e
theorem Dealt.next {p : Addr} {H H1 H2 : Hp} {D t : Addr} {ws : List Str} {z : Str} {m i : Int} {n : Nat} (W : Dealt p H H1 D ws m n) (D0 : H D = none) (b2 : But p H1 H2) (P2 : Pot H2 p (n + 1)) (h1 : 1 ≤ i) (h2 : i ≤ m) (ht : H2 t = none) (nD : D ≠ p) :
    ∃ acc, (upd H2 t (.tup [.str z, .int i])) D = some (.lst acc) ∧ acc.length = ws.length ∧ Dealt p H (upd (upd H2 t (.tup [.str z, .int i])) D (.lst (acc ++ [.ref t]))) D (ws ++ [z]) m (n + 1) := by
  obtain ⟨ts, tab, e1, e2, e3, e4⟩ := W.ex
  have e1' := b2 _ _ nD e1
  have Dt : D ≠ t := ne_of_none e1' ht
  refine ⟨ts.map V.ref, by rw [upd_ne Dt]; exact e1', ?_, ?_, ?_, ts ++ [t], tab ++ [(z, i)], ?_, ?_, ?_, ?_⟩
  · have : ts.length = tab.length := Paired.length e2
    rw [List.length_map, this, ← e3, List.length_map]
  · exact But.up ((W.but.trans b2).new ht) D0
  · exact (P2.up (P2.ne ht)).up nD.symm
  · rw [upd_same, List.map_append]
    rfl
  · refine Paired.snocP ?_ (Tups.keep (fun b xs e => ?_) e2)
    · show (upd (upd H2 t _) D _) t = _
      rw [upd_ne Dt.symm, upd_same]
    · have e' : H2 b = some (.tup xs) := b2 _ _ (fun z => by
        obtain ⟨_, _, _, ep, _⟩ := W.pot
        rw [z, ep] at e
        cases e) e
      have nb : b ≠ D := fun z => by
        rw [z, e1'] at e'
        cases e'
      rw [upd_ne nb, upd_ne (ne_of_none e' ht)]
      exact e'
  · rw [List.map_append, e3]
    rfl
  · intro q hq
    rcases List.mem_append.mp hq with hq | hq
    · exact e4 q hq
    · rw [List.mem_singleton.mp hq]
      exact ⟨h1, h2⟩
theorem pot_same {H H' : Hp} {p : Addr} {n : Nat} (h : Same H H') (P : Pot H p n) : Pot H' p n := by
  obtain ⟨u, m, c, e, r⟩ := P
  exact ⟨u, m, c, h _ _ e, r⟩
theorem rows_told {K : PySem.W.Frag} {H : Hp} : ∀ {ts : List Addr} {rows : List (Addr × Int)} {ms : List (Str × Str)}, Paired (fun (t : Addr) (r : Addr × Int) => H t = some (.tup [.ref r.1, .int r.2])) ts rows → Pairs H (rows.map (·.1)) ms →
    ∃ t3 : STab, t3.map (·.1) = ms ∧ t3.map (·.2) = rows.map (·.2) ∧ PrsT K H ts (kvsS t3)
  | _, [], _, .nil, h => by
    cases h
    exact ⟨[], rfl, rfl, .nil⟩
  | _, r :: rows, _, .cons a t, h => by
    rw [List.map_cons] at h
    cases h with
    | @cons _ k _ ms b h =>
      obtain ⟨t3, e1, e2, pr⟩ := rows_told (K := K) t h
      exact ⟨(k, r.2) :: t3, by rw [List.map_cons, e1], by rw [List.map_cons, e2, List.map_cons], .cons ⟨r.1, b, SqT.of a⟩ pr⟩
theorem kvsS_nd {t : STab} (h : (t.map (·.1)).Nodup) : ((kvsS t).map (·.1)).Nodup := by
  have e : (kvsS t).map (·.1) = (t.map (·.1)).map keyOf := by
    unfold kvsS
    rw [List.map_map, List.map_map]
    rfl
  rw [e]
  exact List.Pairwise.map _ (fun a b n z => n (key_inj z)) h
theorem nw_in {i m : Int} (h1 : 1 ≤ i) (h2 : i ≤ m) (h3 : m ≤ LG) : nwB i 1 m = true := by
  unfold nwB nuB
  have g : (-LG) ≤ 1 := by decide
  simp only [Bool.and_eq_true, decide_eq_true_eq]
  exact ⟨⟨Int.le_trans g h1, Int.le_trans h2 h3⟩, h1, h2⟩
/-- the list of pairs that grows at l -/
structure GrowL (H H1 : Hp) (l : Addr) (ks : List (Str × Str)) : Prop where
  but : But l H H1
  out : ∃ qs : List Addr, H1 l = some (.lst (qs.map V.ref)) ∧ Pairs H1 qs ks
/-- what is right about tables -/
structure RtT (t1 t2 : PTab) (t3 : STab) : Prop where
  ag : Agree t1 t2 t3
  nd : (t3.map (·.1)).Nodup
  rt : rightB t1 t2 t3 = true
def spLTables : Sp := fun vs H Q _ => ∃ (p S : Addr) (n : Nat) (zs : List Str), vs = [.ref p, .ref S] ∧ Pot H p n ∧ n + 100 < PB ∧ H S = some (.lst (zs.map V.str)) ∧ SgL zs ∧
  ∀ H' L a b c t1 t2 t3, But p H H' → H' L = some (.lst [.ref a, .ref b, .ref c]) → Tabs H' a b c t1 t2 t3 → RtT t1 t2 t3 → Pot H' p (n + 100) → Q (.ref L) H'
theorem pick1 {v : V} (h : v ∈ [V.int 2, V.int 9, V.int 9]) : ∃ m : Int, v = .int m ∧ 1 ≤ m ∧ m ≤ 9 := by
  simp only [List.mem_cons, List.not_mem_nil, or_false] at h
  rcases h with rfl | rfl | rfl
  · exact ⟨_, rfl, by decide, by decide⟩
  · exact ⟨_, rfl, by decide, by decide⟩
  · exact ⟨_, rfl, by decide, by decide⟩
theorem pick2 {v : V} (h : v ∈ [V.int 1, V.int 2, V.int 6, V.int 18]) : ∃ m : Int, v = .int m ∧ 1 ≤ m ∧ m ≤ 18 := by
  simp only [List.mem_cons, List.not_mem_nil, or_false] at h
  rcases h with rfl | rfl | rfl | rfl
  · exact ⟨_, rfl, by decide, by decide⟩
  · exact ⟨_, rfl, by decide, by decide⟩
  · exact ⟨_, rfl, by decide, by decide⟩
  · exact ⟨_, rfl, by decide, by decide⟩
theorem pick3 {v : V} (h : v ∈ [V.int 1, V.int 2, V.int 4, V.int 9]) : ∃ m : Int, v = .int m ∧ 1 ≤ m ∧ m ≤ 18 := by
  simp only [List.mem_cons, List.not_mem_nil, or_false] at h
  rcases h with rfl | rfl | rfl | rfl
  · exact ⟨_, rfl, by decide, by decide⟩
  · exact ⟨_, rfl, by decide, by decide⟩
  · exact ⟨_, rfl, by decide, by decide⟩
  · exact ⟨_, rfl, by decide, by decide⟩
section
variable {P : Program} {w : World} {K : PySem.W.Frag} {mg : Str → Option Value} {base : Heap}
abbrev nTab : List Str := ["_law_pot", "_law_signs_here", "_law_most", "_law_far", "_law_share", "_law_puts", "_law_outs", "_law_pairs", "_law_one", "_law_sign", "_law_other", "_law_pair"]
end
end Mk

set_option Elab.async false
set_option linter.all false
set_option maxRecDepth 100000
set_option maxHeartbeats 1000000
/-! _least_costs and costs_by_ends -/
namespace Mk
open PySem PySem.Spec L2 PyProof.Rows

abbrev sLeast : Stmt := top 31
abbrev sByEnds : Stmt := top 25
def spLc : Sp := fun vs H Q _ => ∃ (p o s : Addr) (t1 t2 : PTab) (t3 : STab), vs = [.ref p, .ref o, .ref s] ∧ p ≠ o ∧ Tabs H p o s t1 t2 t3 ∧ (∀ k ∈ t1.map (·.1), k ∈ t2.map (·.1)) ∧ t1.length ≤ 5 ∧ ("" : Str) ∉ t1.map (·.1) ∧
  ∀ H' c, Same H H' → H c = none → H' c = some (.dT (kvsS (lc t1 t2 t3))) → Q (.ref c) H'
abbrev nLc : List Str := ["put", "out", "swap", "costs", "places", "via", "one", "other", "way"]
/-- the walk's dict, with the keys that it had -/
structure Wk3 (H0 H1 : Hp) (c : Addr) (D0 D : STab) : Prop where
  wy : Wy H0 H1 c D
  keys : D.map (·.1) = D0.map (·.1)
theorem min_if (i j : Int) : (if j < i then j else i) = min i j := by
  split <;> omega
section
variable {P : Program} {w : World} {K : PySem.W.Frag} {mg : Str → Option Value} {base : Heap}
theorem scLeast : FnScope nLc ["put", "out", "swap"] (defScope sLeast) := ⟨rfl, rfl, rfl, by decide +kernel, rfl, by decide +kernel, by decide +kernel⟩
theorem ok_least {f : Addr} {fd : FuncData} (F : Fun K "_least_costs" "_least_costs" sLeast f fd) (B : Bn mg) (J : Cd P w K mg base 1 "_direct_costs" ["put", "out", "swap"] spDir) : FnOk P w K mg base CX0 2 f fd ["put", "out", "swap"] spLc := by
  obtain ⟨j, dj, G, gm, gk, gb⟩ := J.ex
  refine F.ok scLeast (fun vs H Q E h => ?_) (fun cdv A outer s H vs Q E hr h => ?_)
  · obtain ⟨p, o, s, t1, t2, t3, rfl, _⟩ := h
    rfl
  · have hu := hu_of hr
    obtain ⟨p, o, s, t1, t2, t3, rfl, po, hT, sub, hl, n0, q⟩ := h
    refine ⟨_, pss_cons (ps_set (i := 3) scLeast.nd rfl (.inl rfl) (pe_call G hr (by rfl) gm gk gb .nil pass0 (pa_cons (pv 0) (pa_cons (pv 1) (pa_cons (pv 2) pa_nil)))))
      (pss_cons (ps_set (i := 4) scLeast.nd rfl (.inl rfl) (pe_op op_cat (pe_lst (pa_cons pe_str pa_nil)) (pe_callTy (call_list_dK rfl) (by rfl) B.list (by decide +kernel) (pa_cons (pv 0) pa_nil))))
      (pss_cons (ps_for PassesOwn.never rfl (pi_list (pv 4)) (pg_name (i := 5) scLeast.nd rfl (.inl rfl))
        (pss_one (ps_for PassesOwn.never rfl (pi_list (pv 4)) (pg_name (i := 6) scLeast.nd rfl (.inl rfl))
          (pss_one (ps_for PassesOwn.never rfl (pi_list (pv 4)) (pg_name (i := 7) scLeast.nd rfl (.inl rfl))
            (pss_cons (ps_set (i := 8) scLeast.nd rfl (.inl rfl) (pe_op op_add (pe_dget hu (pv 3) (pe_tup (pa_cons (pv 6) (pa_cons (pv 5) pa_nil))) (fun _ _ => rfl)) (pe_dget hu (pv 3) (pe_tup (pa_cons (pv 5) (pa_cons (pv 7) pa_nil))) (fun _ _ => rfl))))
            (pss_one (ps_dput hu (pv 3) (pe_tup (pa_cons (pv 6) (pa_cons (pv 7) pa_nil))) (pe_callB (call_min2 rfl) (by rfl) B.min (by decide +kernel) (pa_cons (pe_dget hu (pv 3) (pe_tup (pa_cons (pv 6) (pa_cons (pv 7) pa_nil))) (fun _ _ => rfl)) (pa_cons (pv 8) pa_nil))) rfl))))))))
      (pss_one (ps_ret (pv 3))))), ?_⟩
    have n2 : 2 ≤ sizeLine := by decide
    refine ⟨_, rfl, _, rfl, _, rfl, p, o, s, t1, t2, t3, rfl, po, hT, sub, hl, fun H1 c s1 hc ec => ?_⟩
    refine ⟨by show 1 ≤ sizeLine; decide, fun l1 hl1 => ?_⟩
    have s2 := Same.trans s1 (Same.new (o := .lst [V.str ""]) hl1)
    refine ⟨_, rfl, p, _, rfl, s2 _ _ hT.p, fun l2 hl2 => ?_⟩
    have el1 : (upd (upd H1 l1 (.lst [V.str ""])) l2 (.lst ((kvsP t1).map fun kv => kV kv.1))) l1 = some (.lst [V.str ""]) := by
      rw [upd_ne (ne_of_none upd_same hl2)]
      exact upd_same
    have el2 : (kvsP t1).map (fun kv => kV kv.1) = (t1.map (·.1)).map V.str := by
      unfold kvsP
      rw [List.map_map, List.map_map]
      rfl
    refine ⟨l1, l2, _, _, rfl, rfl, el1, upd_same, ?_, fun L hL => ?_⟩
    · rw [List.length_map, kvsP_len, sizeLine_eq]
      show 1 + t1.length ≤ _
      omega
    have ec2 := (Same.new (o := .lst ((kvsP t1).map fun kv => kV kv.1)) hl2) _ _ ((Same.new (o := .lst [V.str ""]) hl1) _ _ ec)
    have s3 := Same.trans (Same.trans s2 (Same.new (o := .lst ((kvsP t1).map fun kv => kV kv.1)) hl2)) (Same.new (o := .lst ([V.str ""] ++ (kvsP t1).map fun kv => kV kv.1)) hL)
    have ec3 := (Same.new (o := .lst ([V.str ""] ++ (kvsP t1).map fun kv => kV kv.1)) hL) _ _ ec2
    have eL : (upd (upd (upd H1 l1 (.lst [V.str ""])) l2 (.lst ((kvsP t1).map fun kv => kV kv.1))) L (.lst ([V.str ""] ++ (kvsP t1).map fun kv => kV kv.1))) L = some (.lst ((plc t1).map V.str)) := by
      rw [upd_same, el2]
      rfl
    have Lc : L ≠ c := (ne_of_none ec2 hL).symm
    generalize upd (upd (upd H1 l1 (.lst [V.str ""])) l2 (.lst ((kvsP t1).map fun kv => kV kv.1))) L (.lst ([V.str ""] ++ (kvsP t1).map fun kv => kV kv.1)) = HL at s3 ec3 eL ⊢
    clear ec2 el1 el2 s2 hL hl1 hl2
    have hk : ∀ x ∈ plc t1, ∀ y ∈ plc t1, (x, y) ∈ (dir t1 t2 t3).map (·.1) := fun x hx y hy => (dir_keys n0).mpr ⟨hx, hy⟩
    have hq : ∀ H', Wy HL H' c (lc t1 t2 t3) → Q (.ref c) H' := fun H' W => q H' c (fun b u e => W.same _ _ (ne_of_none e hc) (s3 _ _ e)) hc W.out
    have hq2 : ∀ H', Wy HL H' c (fw (plc t1) (dir t1 t2 t3)) → Q (.ref c) H' := hq
    have hlen : (dir t1 t2 t3).length ≤ 41 := by
      have a := dirL_len t1 t2 t3 (t1.map (·.1)) (t1.map (·.1)) dir0
      have b : (t1.map (·.1)).length ≤ 5 := by rw [List.length_map]; exact hl
      have c : (t1.map (·.1)).length * ((t1.map (·.1)).length + 3) ≤ 5 * 8 := Nat.mul_le_mul b (by omega)
      have d : dir0.length = 1 := rfl
      exact Nat.le_trans a (by omega)
    generalize dir t1 t2 t3 = D0 at hk hq2 hlen ec3
    generalize plc t1 = Z at hk hq2 eL
    clear hq ec
    have at_ : ∀ {i : Nat} {x : V} (hi : i < (Z.map V.str).length), (Z.map V.str)[i]? = some x → ∃ h : i < Z.length, x = V.str Z[i] := fun {i x} hi hx => by
      have h : i < Z.length := by rwa [List.length_map] at hi
      rw [List.getElem?_map, List.getElem?_eq_getElem h] at hx
      exact ⟨h, (Option.some.inj hx).symm⟩
    have kl : ∀ {D : STab}, D.map (·.1) = D0.map (·.1) → D.length < 1000 := fun {D} e => by
      have : D.length = D0.length := by
        have := congrArg List.length e
        rwa [List.length_map, List.length_map] at this
      omega
    refine ⟨_, rfl, L, rfl, ⟨_, SqL.of eL⟩, for_it (walk_list (K := K) (a := L) (xs := Z.map V.str)) (fun i σ H2 => (∃ a b d e, σ = [some (.ref p), some (.ref o), some (.ref s), some (.ref c), some (.ref L), a, b, d, e]) ∧ Wk3 HL H2 c D0 ((Z.take i).foldl (fun D v => fw2 Z v D) D0)) ?_ (fun i σ H2 _ h2 => SqL.of (h2.2.wy.same _ _ Lc eL)) ?_ ?_⟩
    · exact ⟨⟨_, _, _, _, rfl⟩, ⟨fun b u _ e => e, ec3⟩, rfl⟩
    · rintro i x σ H2 H3 hi ⟨⟨a, b, d, e, rfl⟩, W⟩ ⟨rfl, hx⟩
      obtain ⟨hi2, rfl⟩ := at_ hi hx
      have nx : (Z.take (i + 1)).foldl (fun D v => fw2 Z v D) D0 = fw2 Z Z[i] ((Z.take i).foldl (fun D v => fw2 Z v D) D0) := foldl_take _ _ _ hi2
      rw [nx]
      generalize (Z.take i).foldl (fun D v => fw2 Z v D) D0 = D1 at W ⊢
      have mv : Z[i] ∈ Z := List.getElem_mem hi2
      generalize Z[i] = via at mv ⊢
      clear nx hi hi2 hx
      refine ⟨_, rfl, L, rfl, ⟨_, SqL.of (W.wy.same _ _ Lc eL)⟩, for_it (walk_list (K := K) (a := L) (xs := Z.map V.str)) (fun i σ H2 => (∃ b d e, σ = [some (.ref p), some (.ref o), some (.ref s), some (.ref c), some (.ref L), some (.str via), b, d, e]) ∧ Wk3 HL H2 c D0 ((Z.take i).foldl (fun D x => fw3 Z via x D) D1)) ?_ (fun i σ H2 _ h2 => SqL.of (h2.2.wy.same _ _ Lc eL)) ?_ ?_⟩
      · exact ⟨⟨_, _, _, rfl⟩, W⟩
      · rintro i x σ H2 H3 hi ⟨⟨b, d, e, rfl⟩, W⟩ ⟨rfl, hx⟩
        obtain ⟨hi2, rfl⟩ := at_ hi hx
        have nx : (Z.take (i + 1)).foldl (fun D x => fw3 Z via x D) D1 = fw3 Z via Z[i] ((Z.take i).foldl (fun D x => fw3 Z via x D) D1) := foldl_take _ _ _ hi2
        rw [nx]
        generalize (Z.take i).foldl (fun D x => fw3 Z via x D) D1 = D2 at W ⊢
        have mx : Z[i] ∈ Z := List.getElem_mem hi2
        generalize Z[i] = one at mx ⊢
        clear nx hi hi2 hx
        refine ⟨_, rfl, L, rfl, ⟨_, SqL.of (W.wy.same _ _ Lc eL)⟩, for_it (walk_list (K := K) (a := L) (xs := Z.map V.str)) (fun i σ H2 => (∃ d e, σ = [some (.ref p), some (.ref o), some (.ref s), some (.ref c), some (.ref L), some (.str via), some (.str one), d, e]) ∧ Wk3 HL H2 c D0 ((Z.take i).foldl (fun D y => relx D via one y) D2)) ?_ (fun i σ H2 _ h2 => SqL.of (h2.2.wy.same _ _ Lc eL)) ?_ ?_⟩
        · exact ⟨⟨_, _, rfl⟩, W⟩
        · rintro i x σ H2 H3 hi ⟨⟨d, e, rfl⟩, W⟩ ⟨rfl, hx⟩
          obtain ⟨hi2, rfl⟩ := at_ hi hx
          have nx : (Z.take (i + 1)).foldl (fun D y => relx D via one y) D2 = relx ((Z.take i).foldl (fun D y => relx D via one y) D2) via one Z[i] := foldl_take _ _ _ hi2
          rw [nx]
          generalize (Z.take i).foldl (fun D y => relx D via one y) D2 = D3 at W ⊢
          have my : Z[i] ∈ Z := List.getElem_mem hi2
          generalize Z[i] = other at my ⊢
          clear nx hi hi2 hx
          have k1 : (one, via) ∈ D3.map (·.1) := by rw [W.keys]; exact hk _ mx _ mv
          have k2 : (via, other) ∈ D3.map (·.1) := by rw [W.keys]; exact hk _ mv _ my
          have k3 : (one, other) ∈ D3.map (·.1) := by rw [W.keys]; exact hk _ mx _ my
          refine ⟨_, rfl, _, rfl, _, rfl, n2, fun a1 h1 => ⟨c, _, rfl, W.wy.get h1 k1, ?_⟩⟩
          have W1 := W.wy.new (o := .tup [.str one, .str via]) h1
          refine ⟨_, rfl, _, rfl, _, rfl, n2, fun a2 h2 => ⟨c, _, rfl, W1.get h2 k2, _, _, rfl, rfl, ?_⟩⟩
          have W2 := W1.new (o := .tup [.str via, .str other]) h2
          refine ⟨_, rfl, _, rfl, _, rfl, n2, fun a3 h3 => ⟨c, _, rfl, W2.get h3 k3, _, rfl, _, _, rfl, ?_⟩⟩
          have W3 := W2.new (o := .tup [.str one, .str other]) h3
          refine ⟨_, rfl, _, rfl, _, rfl, n2, fun a4 h4 => ?_⟩
          obtain ⟨H7, d7, W7⟩ := W3.put (x := one) (y := other) (i := min (look D3 (one, other)) (look D3 (one, via) + look D3 (via, other))) h4 (kl W.keys)
          rw [min_if]
          exact ⟨c, H7, rfl, d7, ⟨_, _, rfl⟩, W7, (relx_keys k3).trans W.keys⟩
        · rintro σ H2 ⟨⟨d, e, rfl⟩, W⟩
          rw [List.length_map, List.take_length] at W
          exact ⟨⟨_, _, _, rfl⟩, W⟩
      · rintro σ H2 ⟨⟨b, d, e, rfl⟩, W⟩
        rw [List.length_map, List.take_length] at W
        exact ⟨⟨_, _, _, _, rfl⟩, W⟩
    · rintro σ H2 ⟨⟨a, b, d, e, rfl⟩, W⟩
      rw [List.length_map, List.take_length] at W
      exact ⟨_, rfl, hq2 _ W.wy⟩
/-! costs_by_ends -/
def spBy (C : Addr) : Sp := fun vs H Q _ => ∃ (x : Addr) (t1 t2 : PTab) (t3 : STab), vs = [.ref x] ∧ PrAt C H x t1 t2 t3 ∧ RtT t1 t2 t3 ∧ Srt t1 t2 t3 ∧
  ∀ H' c, Same H H' → H c = none → H' c = some (.dT (kvsS (lc t1 t2 t3))) → Q (.ref c) H'
theorem scByEnds : FnScope ["prices"] ["prices"] (defScope sByEnds) := ⟨rfl, rfl, rfl, by decide +kernel, rfl, by decide +kernel, by decide +kernel⟩
theorem em_no {t1 t2 : PTab} {t3 : STab} (a : Agree t1 t2 t3) : ("" : Str) ∉ t1.map (·.1) := fun m => by
  obtain ⟨p, hp, e⟩ := List.mem_map.mp m
  have := a.sg p hp
  rw [e] at this
  exact absurd this (by decide +kernel)
theorem ok_by {f C : Addr} {fd : FuncData} (F : Fun K "costs_by_ends" "costs_by_ends" sByEnds f fd) (T : Pc K C) (J : Cd P w K mg base 2 "_least_costs" ["put", "out", "swap"] spLc) (P1 : Pd P w K mg base C 2 "put" (spTabP C fun t _ => t)) (P2 : Pd P w K mg base C 2 "out" (spTabP C fun _ t => t)) (P3 : Pd P w K mg base C 2 "swap" (spTabS C)) : FnOk P w K mg base CX0 4 f fd ["prices"] (spBy C) := by
  obtain ⟨j, dj, G, gm, gk, gb⟩ := J.ex
  obtain ⟨pa, ga, da, oa, Fa, ba⟩ := P1.ex
  obtain ⟨pb, gb2, db, ob, Fb, bb⟩ := P2.ex
  obtain ⟨pc, gc, dc, oc, Fc, bc⟩ := P3.ex
  refine F.ok scByEnds (fun vs H Q E h => ?_) (fun cdv A outer s H vs Q E hr h => ?_)
  · obtain ⟨x, t1, t2, t3, rfl, _⟩ := h
    rfl
  · obtain ⟨x, t1, t2, t3, rfl, hx, R, sr, q⟩ := h
    refine ⟨_, pss_one (ps_ret (pe_call G (hr.mono (by decide)) (by rfl) gm gk gb .nil pass0 (pa_cons (pe_prop (pv 0) T.cl oa Fa hr ba .nil pass0 rfl) (pa_cons (pe_prop (pv 0) T.cl ob Fb hr bb .nil pass0 rfl) (pa_cons (pe_prop (pv 0) T.cl oc Fc hr bc .nil pass0 rfl) pa_nil))))), ?_⟩
    have ag := R.ag
    have hl1 := ag.l1
    have hl2 := ag.l2
    have hl3 := ag.l3
    have nd2 : (t2.map (·.1)).Nodup := ag.pm.nodup_iff.mpr ag.nd
    obtain ⟨dx, t, a, b, d, hx0, ht, hT⟩ := id hx
    refine ⟨_, rfl, x, dx, _, rfl, hx0, x, t1, t2, t3, rfl, hx, ag.nd, (by show t1.length ≤ 60; omega), sr, fun H1 D1 s1 f1 e1 => ?_⟩
    refine ⟨_, rfl, x, dx, _, rfl, s1 _ _ hx0, x, t1, t2, t3, rfl, hx.same s1, nd2, (by show t2.length ≤ 60; omega), sr, fun H2 D2 s2 f2 e2 => ?_⟩
    have s12 := Same.trans s1 s2
    refine ⟨_, rfl, x, dx, _, rfl, s12 _ _ hx0, x, t1, t2, t3, rfl, hx.same s12, R.nd, by omega, sr, fun H3 D3 s3 f3 e3 => ?_⟩
    have g1 : H2 D1 = some (.dK (kvsP t1)) := s2 _ _ e1
    refine ⟨D1, D2, D3, t1, t2, t3, rfl, ne_of_none e1 f2, ⟨s3 _ _ g1, s3 _ _ e2, e3⟩, fun k hk => ag.pm.mem_iff.mpr hk, ag.l1, em_no ag, fun H4 c s4 hc ec => ?_⟩
    have s14 := Same.trans (Same.trans s12 s3) s4
    exact q _ c s14 ((Same.trans s12 s3).free hc) ec
end
end Mk

set_option Elab.async false
set_option linter.all false
set_option maxRecDepth 100000
set_option maxHeartbeats 1000000
/-! closed tables -/
namespace Mk
open PySem L2

theorem IsCl.perm {α : Type} {P P' : List α} {d c : α → α → Int} (h : IsCl P d c) (e : ∀ x, x ∈ P' → x ∈ P) (e' : ∀ x, x ∈ P → x ∈ P') : IsCl P' d c :=
  ⟨fun x hx => h.zero x (e x hx), fun x hx y hy z hz => h.tri x (e x hx) y (e y hy) z (e z hz), fun x hx y hy => h.le x (e x hx) y (e y hy),
    fun F hF z hz y hy => h.max F (fun z hz y hy => hF z (e' z hz) y (e' y hy)) z (e z hz) y (e y hy)⟩
section
variable {κ : Type} [DecidableEq κ]
theorem look_out {t : List (κ × Int)} {k : κ} (h : k ∉ t.map (·.1)) : look t k = 0 := by
  unfold look
  rw [look_none h]
  rfl
theorem look_is {t : List (κ × Int)} {k : κ} (h : k ∈ t.map (·.1)) : ∃ p ∈ t, p.1 = k ∧ look t k = p.2 := by
  obtain ⟨q, hq, e⟩ := List.mem_map.mp h
  cases f : t.find? (fun p => decide (p.1 = k)) with
  | none =>
    have := List.find?_eq_none.mp f q hq
    exact absurd e (by simpa using this)
  | some p =>
    refine ⟨p, List.mem_of_find?_eq_some f, by simpa using List.find?_some f, ?_⟩
    unfold look
    rw [f]
    rfl
theorem look_prm {t u : List (κ × Int)} (p : t.Perm u) (nd : (t.map (·.1)).Nodup) (k : κ) : look t k = look u k := by
  have nu : (u.map (·.1)).Nodup := (p.map (·.1)).nodup_iff.mp nd
  by_cases h : k ∈ t.map (·.1)
  · obtain ⟨q, hq, rfl, e⟩ := look_is h
    rw [e, look_mem nu q (p.mem_iff.mp hq)]
  · rw [look_out h, look_out (fun m => h ((p.map (·.1)).mem_iff.mpr m))]
theorem look_b {t : List (κ × Int)} {a b : Int} (h : ∀ p ∈ t, a ≤ p.2 ∧ p.2 ≤ b) {k : κ} (hk : k ∈ t.map (·.1)) : a ≤ look t k ∧ look t k ≤ b := by
  obtain ⟨p, hp, _, e⟩ := look_is hk
  rw [e]
  exact h p hp
theorem look_times (t : List (κ × Int)) (m : Int) (k : κ) : look (timesP t m) k = look t k * m := by
  by_cases h : k ∈ t.map (·.1)
  · unfold look timesP
    rw [List.find?_map]
    have : (fun p : κ × Int => decide (p.1 = k)) ∘ (fun p : κ × Int => (p.1, p.2 * m)) = fun p => decide (p.1 = k) := rfl
    rw [this]
    cases t.find? (fun p => decide (p.1 = k)) with
    | none => show (0 : Int) = 0 * m; omega
    | some p => rfl
  · rw [look_out h, look_out (by rw [timesP_keys]; exact h)]
    omega
end
def tabP (ks : List Str) (f : Str → Int) : PTab := ks.map fun z => (z, f z)
def tabS (ks : List (Str × Str)) (c : Str → Str → Int) : STab := ks.map fun k => (k, c k.1 k.2)
theorem tabP_keys (ks : List Str) (f : Str → Int) : (tabP ks f).map (·.1) = ks := by
  unfold tabP
  rw [List.map_map]
  exact List.map_id _
theorem tabS_keys (ks : List (Str × Str)) (c : Str → Str → Int) : (tabS ks c).map (·.1) = ks := by
  unfold tabS
  rw [List.map_map]
  exact List.map_id _
theorem tabP_look {ks : List Str} {f : Str → Int} {k : Str} (h : k ∈ ks) : look (tabP ks f) k = f k := by
  obtain ⟨p, hp, e, e2⟩ := look_is (t := tabP ks f) (by rw [tabP_keys]; exact h)
  obtain ⟨z, _, rfl⟩ := List.mem_map.mp hp
  rw [e2, ← e]
theorem tabS_look {ks : List (Str × Str)} {c : Str → Str → Int} {k : Str × Str} (h : k ∈ ks) : look (tabS ks c) k = c k.1 k.2 := by
  obtain ⟨p, hp, e, e2⟩ := look_is (t := tabS ks c) (by rw [tabS_keys]; exact h)
  obtain ⟨z, _, rfl⟩ := List.mem_map.mp hp
  rw [e2, ← e]
/-- r are the closed tables of t -/
structure CtW (t1 t2 : PTab) (t3 : STab) (r1 r2 : PTab) (r3 : STab) (c : Str → Str → Int) : Prop where
  cl : IsCl (plc t1) (dd t1 t2 t3) c
  p1 : r1.Perm (tabP (t1.map (·.1)) (c ""))
  p2 : r2.Perm (tabP (t1.map (·.1)) fun z => c z "")
  p3 : r3.Perm (tabS (pairsOf (t1.map (·.1))) c)
def Ct (t1 t2 : PTab) (t3 : STab) (r1 r2 : PTab) (r3 : STab) : Prop := ∃ c, CtW t1 t2 t3 r1 r2 r3 c
theorem ab1 {t : PTab} {m : Int} (h : okP t m = true) : ∀ p ∈ t, 1 ≤ p.2 ∧ p.2 ≤ m := fun p hp => by
  have := List.all_eq_true.mp h p hp
  unfold nwB at this
  simp only [Bool.and_eq_true, decide_eq_true_eq] at this
  exact this.2
theorem ab3 {t : STab} {m : Int} (h : okS t m = true) : ∀ p ∈ t, 1 ≤ p.2 ∧ p.2 ≤ m := fun p hp => by
  have := List.all_eq_true.mp h p hp
  unfold nwB at this
  simp only [Bool.and_eq_true, decide_eq_true_eq] at this
  exact this.2
structure Bds (t1 t2 : PTab) (t3 : STab) : Prop where
  b1 : ∀ p ∈ t1, 1 ≤ p.2 ∧ p.2 ≤ 9
  b2 : ∀ p ∈ t2, 1 ≤ p.2 ∧ p.2 ≤ 9
  b3 : ∀ p ∈ t3, 1 ≤ p.2 ∧ p.2 ≤ 18
  ne : t1 ≠ []
theorem RtT.bds {t1 t2 : PTab} {t3 : STab} (R : RtT t1 t2 t3) : Bds t1 t2 t3 := by
  have h := R.rt
  unfold rightB at h
  simp only [Bool.and_eq_true] at h
  exact ⟨ab1 h.1, ab1 h.2.2.1, ab3 h.2.2.2, by simpa using h.2.1⟩
section
variable {t1 t2 : PTab} {t3 : STab}
theorem pl_em {x : Str} (h : x ∈ plc t1) (n : x ≠ "") : x ∈ t1.map (·.1) := (List.mem_cons.mp h).resolve_left n
theorem em_not {t1 t2 : PTab} {t3 : STab} (a : Agree t1 t2 t3) : ("" : Str) ∉ t1.map (·.1) := fun m => by
  obtain ⟨p, hp, e⟩ := List.mem_map.mp m
  have := a.sg p hp
  rw [e] at this
  exact absurd this (by decide +kernel)
theorem dd_ne (a : Agree t1 t2 t3) {m : Int} (m0 : 0 ≤ m) (h1 : ∀ p ∈ t1, m ≤ p.2 ∧ p.2 ≤ 9) (h2 : ∀ p ∈ t2, m ≤ p.2 ∧ p.2 ≤ 9) (h3 : ∀ p ∈ t3, m ≤ p.2 ∧ p.2 ≤ 18) {x y : Str} (hx : x ∈ plc t1) (hy : y ∈ plc t1) (ne : x ≠ y) : m ≤ dd t1 t2 t3 x y := by
  unfold dd
  rw [if_neg ne]
  by_cases c1 : x = ""
  · rw [if_pos c1]
    exact (look_b h1 (pl_em hy fun e => ne (c1.trans e.symm))).1
  · rw [if_neg c1]
    have x2 : x ∈ t2.map (·.1) := a.pm.mem_iff.mpr (pl_em hx c1)
    by_cases c2 : y = ""
    · rw [if_pos c2]
      exact (look_b h2 x2).1
    · rw [if_neg c2]
      unfold dget
      by_cases c3 : (x, y) ∈ t3.map (·.1)
      · rw [if_pos c3]
        exact (look_b h3 c3).1
      · rw [if_neg c3]
        have a1 := (look_b h2 x2).1
        have a2 := (look_b h1 (pl_em hy c2)).1
        omega
theorem dd_self (x : Str) : dd t1 t2 t3 x x = 0 := by
  unfold dd
  rw [if_pos rfl]
theorem dd_ge (a : Agree t1 t2 t3) (b : Bds t1 t2 t3) {x y : Str} (hx : x ∈ plc t1) (hy : y ∈ plc t1) : 0 ≤ dd t1 t2 t3 x y := by
  by_cases c : x = y
  · rw [c, dd_self]
    exact Int.le_refl _
  · exact Int.le_trans (by decide) (dd_ne a (m := 1) (by decide) b.b1 b.b2 b.b3 hx hy c)
theorem cl_of (R : RtT t1 t2 t3) : IsCl (plc t1) (dd t1 t2 t3) (cc t1 t2 t3) := cc_cl (em_not R.ag) fun x hx y hy => dd_ge R.ag R.bds hx hy
theorem cl_least {c : Str → Str → Int} (a : Agree t1 t2 t3) (h : IsCl (plc t1) (dd t1 t2 t3) c) {m : Int} (m0 : 0 ≤ m) (h1 : ∀ p ∈ t1, m ≤ p.2 ∧ p.2 ≤ 9) (h2 : ∀ p ∈ t2, m ≤ p.2 ∧ p.2 ≤ 9) (h3 : ∀ p ∈ t3, m ≤ p.2 ∧ p.2 ≤ 18) {x y : Str} (hx : x ∈ plc t1) (hy : y ∈ plc t1) (ne : x ≠ y) : m ≤ c x y :=
  h.ge m0 (fun x hx y hy => by
    by_cases c : x = y
    · rw [c, dd_self]
      exact Int.le_refl _
    · exact Int.le_trans m0 (dd_ne a m0 h1 h2 h3 hx hy c)) (fun x hx y hy ne => dd_ne a m0 h1 h2 h3 hx hy ne) hx hy ne
theorem em_in : ("" : Str) ∈ plc t1 := List.mem_cons_self
theorem cl_put {c : Str → Str → Int} (a : Agree t1 t2 t3) (h : IsCl (plc t1) (dd t1 t2 t3) c) {s : Str} (hs : s ∈ t1.map (·.1)) : c "" s ≤ look t1 s := by
  have := h.le "" em_in s (List.mem_cons_of_mem _ hs)
  have n : s ≠ "" := fun e => em_not a (e ▸ hs)
  unfold dd at this
  rwa [if_neg n.symm, if_pos rfl] at this
theorem cl_out {c : Str → Str → Int} (a : Agree t1 t2 t3) (h : IsCl (plc t1) (dd t1 t2 t3) c) {s : Str} (hs : s ∈ t1.map (·.1)) : c s "" ≤ look t2 s := by
  have := h.le s (List.mem_cons_of_mem _ hs) "" em_in
  have n : s ≠ "" := fun e => em_not a (e ▸ hs)
  unfold dd at this
  rwa [if_neg n, if_neg n, if_pos rfl] at this
theorem CtW.keys1 {r1 r2 : PTab} {r3 : STab} {c : Str → Str → Int} (w : CtW t1 t2 t3 r1 r2 r3 c) : (r1.map (·.1)).Perm (t1.map (·.1)) := by
  have := w.p1.map (·.1)
  rwa [tabP_keys] at this
theorem CtW.keys2 {r1 r2 : PTab} {r3 : STab} {c : Str → Str → Int} (w : CtW t1 t2 t3 r1 r2 r3 c) : (r2.map (·.1)).Perm (t1.map (·.1)) := by
  have := w.p2.map (·.1)
  rwa [tabP_keys] at this
theorem CtW.keys3 {r1 r2 : PTab} {r3 : STab} {c : Str → Str → Int} (w : CtW t1 t2 t3 r1 r2 r3 c) : (r3.map (·.1)).Perm (pairsOf (t1.map (·.1))) := by
  have := w.p3.map (·.1)
  rwa [tabS_keys] at this
theorem CtW.rt {r1 r2 : PTab} {r3 : STab} {c : Str → Str → Int} (R : RtT t1 t2 t3) (w : CtW t1 t2 t3 r1 r2 r3 c) : RtT r1 r2 r3 := by
  have a := R.ag
  have b := R.bds
  have lo : ∀ {x y : Str}, x ∈ plc t1 → y ∈ plc t1 → x ≠ y → 1 ≤ c x y := fun hx hy ne => cl_least a w.cl (by decide) b.b1 b.b2 b.b3 hx hy ne
  have nz : ∀ {z : Str}, z ∈ t1.map (·.1) → z ≠ "" := fun hz e => em_not a (e ▸ hz)
  have up1 : ∀ {z : Str}, z ∈ t1.map (·.1) → c "" z ≤ 9 := fun hz => Int.le_trans (cl_put a w.cl hz) (look_b b.b1 hz).2
  have up2 : ∀ {z : Str}, z ∈ t1.map (·.1) → c z "" ≤ 9 := fun hz => Int.le_trans (cl_out a w.cl hz) (look_b b.b2 (a.pm.mem_iff.mpr hz)).2
  have pl : ∀ {z : Str}, z ∈ t1.map (·.1) → z ∈ plc t1 := fun hz => List.mem_cons_of_mem _ hz
  refine ⟨⟨fun p hp => ?_, w.keys1.nodup_iff.mpr a.nd, ?_, w.keys2.trans w.keys1.symm, ?_, fun p hp => ?_⟩, ?_, ?_⟩
  · have m := w.keys1.mem_iff.mp (List.mem_map.mpr ⟨p, hp, rfl⟩)
    obtain ⟨q, hq, e⟩ := List.mem_map.mp m
    have := a.sg q hq
    rwa [e] at this
  · have := w.keys1.length_eq
    rw [List.length_map, List.length_map] at this
    have := a.l1
    omega
  · have e := w.keys3.length_eq
    rw [List.length_map] at e
    have l := len_pairs (zs := t1.map (·.1)) (by rw [List.length_map]; exact a.l1)
    omega
  · have m := mem_pairs.mp (w.keys3.mem_iff.mp (List.mem_map.mpr ⟨p, hp, rfl⟩))
    exact ⟨w.keys1.mem_iff.mpr m.1, w.keys1.mem_iff.mpr m.2.1, m.2.2⟩
  · exact w.keys3.nodup_iff.mpr (nodup_pairs a.nd)
  · have e1 : okP r1 9 = true := List.all_eq_true.mpr fun p hp => by
      obtain ⟨z, hz, rfl⟩ := List.mem_map.mp (w.p1.mem_iff.mp hp)
      exact nw_in (lo em_in (pl hz) (nz hz).symm) (up1 hz) (by decide)
    have e2 : okP r2 9 = true := List.all_eq_true.mpr fun p hp => by
      obtain ⟨z, hz, rfl⟩ := List.mem_map.mp (w.p2.mem_iff.mp hp)
      exact nw_in (lo (pl hz) em_in (nz hz)) (up2 hz) (by decide)
    have e3 : okS r3 18 = true := List.all_eq_true.mpr fun p hp => by
      obtain ⟨k, hk, rfl⟩ := List.mem_map.mp (w.p3.mem_iff.mp hp)
      obtain ⟨h1, h2, h3⟩ := mem_pairs.mp hk
      have t := w.cl.tri k.1 (pl h1) k.2 (pl h2) "" em_in
      have u1 := up1 h2
      have u2 := up2 h1
      exact nw_in (lo (pl h1) (pl h2) h3) (by show c k.1 k.2 ≤ 18; omega) (by decide)
    have e4 : r1.isEmpty = false := by
      cases r1 with
      | nil =>
        have := w.keys1.length_eq
        rw [List.length_map, List.length_map] at this
        exact absurd (List.length_eq_zero_iff.mp this.symm) b.ne
      | cons _ _ => rfl
    unfold rightB
    rw [e1, e2, e3, e4]
    rfl
theorem CtW.uniq {r1 r2 s1 s2 : PTab} {r3 s3 : STab} {c c' : Str → Str → Int} (w : CtW t1 t2 t3 r1 r2 r3 c) (w' : CtW t1 t2 t3 s1 s2 s3 c') : r1.Perm s1 ∧ r2.Perm s2 ∧ r3.Perm s3 := by
  have e : ∀ {x y : Str}, x ∈ plc t1 → y ∈ plc t1 → c x y = c' x y := fun hx hy => w.cl.uniq w'.cl hx hy
  have pl : ∀ {z : Str}, z ∈ t1.map (·.1) → z ∈ plc t1 := fun hz => List.mem_cons_of_mem _ hz
  have q1 : tabP (t1.map (·.1)) (c "") = tabP (t1.map (·.1)) (c' "") := List.map_congr_left fun z hz => by rw [e em_in (pl hz)]
  have q2 : tabP (t1.map (·.1)) (fun z => c z "") = tabP (t1.map (·.1)) (fun z => c' z "") := List.map_congr_left fun z hz => by
    show (z, c z "") = (z, c' z "")
    rw [e (pl hz) em_in]
  have q3 : tabS (pairsOf (t1.map (·.1))) c = tabS (pairsOf (t1.map (·.1))) c' := List.map_congr_left fun k hk => by
    obtain ⟨h1, h2, _⟩ := mem_pairs.mp hk
    rw [e (pl h1) (pl h2)]
  have p1 := w.p1
  have p2 := w.p2
  have p3 := w.p3
  rw [q1] at p1
  rw [q2] at p2
  rw [q3] at p3
  exact ⟨p1.trans w'.p1.symm, p2.trans w'.p2.symm, p3.trans w'.p3.symm⟩
/-- what the closed tables cost -/
theorem CtW.dd {r1 r2 : PTab} {r3 : STab} {c : Str → Str → Int} (R : RtT t1 t2 t3) (w : CtW t1 t2 t3 r1 r2 r3 c) {x y : Str} (hx : x ∈ plc t1) (hy : y ∈ plc t1) : Mk.dd r1 r2 r3 x y = c x y := by
  have Rr := w.rt R
  unfold Mk.dd
  by_cases c0 : x = y
  · rw [if_pos c0, c0, w.cl.zero y hy]
  · rw [if_neg c0]
    by_cases c1 : x = ""
    · rw [if_pos c1, c1, look_prm w.p1 Rr.ag.nd, tabP_look (pl_em hy fun e => c0 (c1.trans e.symm))]
    · rw [if_neg c1]
      have hx' := pl_em hx c1
      by_cases c2 : y = ""
      · rw [if_pos c2, c2, look_prm w.p2 (Rr.ag.pm.nodup_iff.mpr Rr.ag.nd), tabP_look hx']
      · rw [if_neg c2]
        have m : (x, y) ∈ pairsOf (t1.map (·.1)) := mem_pairs.mpr ⟨hx', pl_em hy c2, c0⟩
        unfold dget
        rw [if_pos (w.keys3.mem_iff.mpr m), look_prm w.p3 Rr.nd, tabS_look m]
theorem plc_iff {r1 : PTab} (p : (r1.map (·.1)).Perm (t1.map (·.1))) (x : Str) : x ∈ plc r1 ↔ x ∈ plc t1 := by
  rw [List.mem_cons, List.mem_cons, p.mem_iff]
theorem perm_pairs {zs ws : List Str} (nz : zs.Nodup) (p : zs.Perm ws) : (pairsOf zs).Perm (pairsOf ws) := by
  have nw := p.nodup_iff.mp nz
  refine (List.perm_ext_iff_of_nodup (nodup_pairs nz) (nodup_pairs nw)).mpr fun k => ?_
  rw [mem_pairs, mem_pairs, p.mem_iff, p.mem_iff]
/-- tables with the same signs whose costs lie between have the same closed tables -/
theorem CtW.between {u1 u2 r1 r2 : PTab} {u3 r3 : STab} {c : Str → Str → Int} (w : CtW t1 t2 t3 r1 r2 r3 c) (nd : (t1.map (·.1)).Nodup) (p : (u1.map (·.1)).Perm (t1.map (·.1))) (lo : ∀ x ∈ plc t1, ∀ y ∈ plc t1, c x y ≤ Mk.dd u1 u2 u3 x y) (hi : ∀ x ∈ plc t1, ∀ y ∈ plc t1, Mk.dd u1 u2 u3 x y ≤ Mk.dd t1 t2 t3 x y) : CtW u1 u2 u3 r1 r2 r3 c where
  cl := (w.cl.between lo hi).perm (fun x hx => (plc_iff p x).mp hx) (fun x hx => (plc_iff p x).mpr hx)
  p1 := w.p1.trans (p.symm.map _)
  p2 := w.p2.trans (p.symm.map _)
  p3 := w.p3.trans ((perm_pairs nd p.symm).map _)
theorem CtW.self {r1 r2 : PTab} {r3 : STab} {c : Str → Str → Int} (R : RtT t1 t2 t3) (w : CtW t1 t2 t3 r1 r2 r3 c) : CtW r1 r2 r3 r1 r2 r3 c :=
  w.between R.ag.nd w.keys1 (fun x hx y hy => by rw [w.dd R hx hy]; exact Int.le_refl _) (fun x hx y hy => by rw [w.dd R hx hy]; exact w.cl.le x hx y hy)
/-- tables in another order -/
theorem dd_perm {u1 u2 : PTab} {u3 : STab} (a : Agree t1 t2 t3) (n3 : (t3.map (·.1)).Nodup) (p1 : u1.Perm t1) (p2 : u2.Perm t2) (p3 : u3.Perm t3) (x y : Str) : Mk.dd u1 u2 u3 x y = Mk.dd t1 t2 t3 x y := by
  have nd2 : (t2.map (·.1)).Nodup := a.pm.nodup_iff.mpr a.nd
  have e1 : ∀ k, look u1 k = look t1 k := fun k => (look_prm p1.symm a.nd k).symm
  have e2 : ∀ k, look u2 k = look t2 k := fun k => (look_prm p2.symm nd2 k).symm
  have e3 : ∀ k, look u3 k = look t3 k := fun k => (look_prm p3.symm n3 k).symm
  have e4 : ∀ k, k ∈ u3.map (·.1) ↔ k ∈ t3.map (·.1) := fun k => (p3.map (·.1)).mem_iff
  have e5 : dget u3 (x, y) (look u2 x + look u1 y) = dget t3 (x, y) (look t2 x + look t1 y) := by
    unfold dget
    by_cases m : (x, y) ∈ t3.map (·.1)
    · rw [if_pos m, if_pos ((e4 _).mpr m), e3]
    · rw [if_neg m, if_neg (fun z => m ((e4 _).mp z)), e1, e2]
  unfold Mk.dd
  rw [e5, e1, e2]
theorem CtW.order {u1 u2 r1 r2 : PTab} {u3 r3 : STab} {c : Str → Str → Int} (R : RtT t1 t2 t3) (w : CtW t1 t2 t3 r1 r2 r3 c) (p1 : u1.Perm t1) (p2 : u2.Perm t2) (p3 : u3.Perm t3) : CtW u1 u2 u3 r1 r2 r3 c :=
  w.between R.ag.nd (p1.map (·.1)) (fun x hx y hy => by rw [dd_perm R.ag R.nd p1 p2 p3]; exact w.cl.le x hx y hy) (fun x hx y hy => by rw [dd_perm R.ag R.nd p1 p2 p3]; exact Int.le_refl _)
theorem CtW.perm {s1 s2 r1 r2 : PTab} {s3 r3 : STab} {c : Str → Str → Int} (w : CtW t1 t2 t3 r1 r2 r3 c) (p1 : s1.Perm r1) (p2 : s2.Perm r2) (p3 : s3.Perm r3) : CtW t1 t2 t3 s1 s2 s3 c := ⟨w.cl, p1.trans w.p1, p2.trans w.p2, p3.trans w.p3⟩
theorem ct_of (R : RtT t1 t2 t3) : CtW t1 t2 t3 (tabP (t1.map (·.1)) (cc t1 t2 t3 "")) (tabP (t1.map (·.1)) fun z => cc t1 t2 t3 z "") (tabS (pairsOf (t1.map (·.1))) (cc t1 t2 t3)) (cc t1 t2 t3) := ⟨cl_of R, .refl _, .refl _, .refl _⟩
end
end Mk

set_option Elab.async false
set_option linter.all false
set_option maxRecDepth 100000
set_option maxHeartbeats 1000000
/-! closed, is_closed, is_at_most -/
namespace Mk
open PySem PySem.Spec L2 PyProof.Rows

abbrev sClosed : Stmt := inClass (top 22) 7
abbrev sIsClosed : Stmt := inClass (top 22) 8
abbrev sIsAtMost : Stmt := inClass (top 22) 9
abbrev sChkPr : Stmt := top 23
def spClosed (C : Addr) : Sp := fun vs H Q _ => ∃ (x : Addr) (t1 t2 : PTab) (t3 : STab), vs = [.ref x] ∧ PrAt C H x t1 t2 t3 ∧ RtT t1 t2 t3 ∧ Srt t1 t2 t3 ∧
  ∀ H' y r1 r2 r3 c, Same H H' → H y = none → PrAt C H' y r1 r2 r3 → CtW t1 t2 t3 r1 r2 r3 c → Srt r1 r2 r3 → Q (.ref y) H'
theorem lc_in {t1 t2 : PTab} {t3 : STab} (a : Agree t1 t2 t3) {x y : Str} (hx : x ∈ plc t1) (hy : y ∈ plc t1) : (x, y) ∈ (lc t1 t2 t3).map (·.1) := by
  rw [lc_keys (em_not a)]
  exact (dir_keys (em_not a)).mpr ⟨hx, hy⟩
theorem tabP_take (ks : List Str) (f : Str → Int) {i : Nat} (h : i < ks.length) : tabP (ks.take (i + 1)) f = tabP (ks.take i) f ++ [(ks[i], f ks[i])] := by
  unfold tabP
  rw [List.take_add_one, List.getElem?_eq_getElem h, List.map_append]
  rfl
theorem tabS_take (ks : List (Str × Str)) (c : Str → Str → Int) {i : Nat} (h : i < ks.length) : tabS (ks.take (i + 1)) c = tabS (ks.take i) c ++ [(ks[i], c ks[i].1 ks[i].2)] := by
  unfold tabS
  rw [List.take_add_one, List.getElem?_eq_getElem h, List.map_append]
  rfl
section
variable {P : Program} {w : World} {K : PySem.W.Frag} {mg : Str → Option Value} {base : Heap}
theorem scClosed : FnScope ["self", "costs", "sign", "pair"] ["self"] (defScope sClosed) := ⟨rfl, rfl, rfl, by decide +kernel, rfl, by decide +kernel, by decide +kernel⟩
theorem ok_closed {f fi C : Addr} {fd fdi : FuncData} (F : Fun K "closed" "Prices.closed" sClosed f fd) (T : Pc K C) (M : L2.Mk K C fi) (FI : Fun K "__init__" "Prices.__init__" sInit fi fdi) (I : FnOk P w K mg base CX0 6 fi fdi ["self", "put", "out", "swap"] (spInit C)) (mgC : mg "Prices" = some (.ref C))
    (A1 : Cd P w K mg base 4 "costs_by_ends" ["prices"] (spBy C)) (A2 : Cd P w K mg base 1 "_pairs" ["signs"] spPairs) : FnOk P w K mg base CX0 8 f fd ["self"] (spClosed C) := by
  obtain ⟨j, dj, G, gm, gk, gb⟩ := A1.ex
  obtain ⟨e, de, Ge, em, ek, eb⟩ := A2.ex
  refine F.ok scClosed (fun vs H Q E h => ?_) (fun cdv A outer s H vs Q E hr h => ?_)
  · obtain ⟨x, t1, t2, t3, rfl, _⟩ := h
    rfl
  · obtain ⟨x, t1, t2, t3, rfl, hx, R, sr, q⟩ := h
    have hu := hu_of hr
    have h20 : A.units + 3 + 20 < cLine := by
      have h2 : A.units + 3 + 16 * 7 + 200 < cLine := hr.un
      omega
    refine ⟨_, pss_cons (ps_set (i := 1) scClosed.nd rfl (.inr rfl) (pe_call G (hr.mono (by decide)) (by rfl) gm gk gb .nil pass0 (pa_cons (pv 0) pa_nil)))
      (pss_one (ps_ret (pe_makeK0 M I hr (by rfl) mgC (kbn_init FI) pass0
        (pk_cons (pe_dcG putP_ok (own := [("sign", 2)]) (g := gName 2) (tt := tYes) rfl scClosed.nd h20 (pi_tup (pe_fld (pv 0) rfl)) (blkOk_by (N := ["self", "costs", "sign", "pair"]) (sc := defScope sClosed) (by decide +kernel)) (fun _ _ _ _ _ => pg_name (i := 2) scClosed.nd rfl (Or.inl rfl)) (fun _ _ _ _ _ => pts_nil) (fun _ _ _ _ _ => pv 2) (fun _ _ _ _ _ => pe_dget hu (pv 1) (pe_tup (pa_cons pe_str (pa_cons (pv 2) pa_nil))) (fun _ _ => rfl)))
        (pk_cons (pe_dcG putP_ok (own := [("sign", 2)]) (g := gName 2) (tt := tYes) rfl scClosed.nd h20 (pi_tup (pe_fld (pv 0) rfl)) (blkOk_by (N := ["self", "costs", "sign", "pair"]) (sc := defScope sClosed) (by decide +kernel)) (fun _ _ _ _ _ => pg_name (i := 2) scClosed.nd rfl (Or.inl rfl)) (fun _ _ _ _ _ => pts_nil) (fun _ _ _ _ _ => pv 2) (fun _ _ _ _ _ => pe_dget hu (pv 1) (pe_tup (pa_cons (pv 2) (pa_cons pe_str pa_nil))) (fun _ _ => rfl)))
        (pk_cons (pe_dcG putT_ok (own := [("pair", 3)]) (g := gName 3) (tt := tYes) rfl scClosed.nd h20 (pi_list (pe_call Ge (hr.mono (by decide)) (by rfl) em ek eb .nil pass0 (pa_cons (pe_fld (pv 0) rfl) pa_nil))) (blkOk_by (N := ["self", "costs", "sign", "pair"]) (sc := defScope sClosed) (by decide +kernel)) (fun _ _ _ _ _ => pg_name (i := 3) scClosed.nd rfl (Or.inl rfl)) (fun _ _ _ _ _ => pts_nil) (fun _ _ _ _ _ => pv 3) (fun _ _ _ _ _ => pe_dget hu (pv 1) (pv 3) (fun _ _ => rfl)))
        pk_nil)))))), ?_⟩
    obtain ⟨dx, t, a, b, d, hx0, ht, hT⟩ := id hx
    have ag := R.ag
    refine ⟨_, rfl, x, t1, t2, t3, rfl, hx, R, sr, fun H1 ca s1 fa ea => ?_⟩
    have pl : ∀ {z : Str}, z ∈ t1.map (·.1) → z ∈ plc t1 := fun hz => List.mem_cons_of_mem _ hz
    have W := ct_of R
    have hin : ∀ {x y : Str}, x ∈ plc t1 → y ∈ plc t1 → (x, y) ∈ (lc t1 t2 t3).map (·.1) := fun hx hy => lc_in ag hx hy
    have hcc : ∀ x y, look (lc t1 t2 t3) (x, y) = cc t1 t2 t3 x y := fun _ _ => rfl
    generalize cc t1 t2 t3 = c at W hcc
    generalize lc t1 t2 t3 = Dl at ea hin hcc
    generalize ezs : t1.map (·.1) = zs at ht pl W
    have ndz : zs.Nodup := by rw [← ezs]; exact ag.nd
    have hl : zs.length ≤ 5 := by rw [← ezs, List.length_map]; exact ag.l1
    have n2 : 2 ≤ sizeLine := by decide
    have gW : ∀ {H' : Hp} {tt : Addr} {x y : Str}, H' ca = some (.dT (kvsS Dl)) → H' tt = none → x ∈ plc t1 → y ∈ plc t1 → DGet (upd H' tt (.tup [.str x, .str y])) ca (.ref tt) (some (V.int (c x y))) := fun {H' tt x y} e ht hx hy => by
      have := Wy.get (H0 := H') (H1 := H') ⟨fun b u _ e => e, e⟩ ht (hin hx hy)
      rwa [hcc] at this
    have ht1 := s1 _ _ ht
    have hx1 := s1 _ _ hx0
    refine ⟨_, rfl, x, C, dx, _, _, rfl, hx1, T.cl, T.n1, fld_signs t a b d, t, rfl, ⟨_, SqT.of ht1⟩, fun D1 hD1 => wk_any (walk_tup (K := K) (a := t) (xs := zs.map V.str)) (fun i H' => Same H1 H' ∧ H' D1 = some (.dK (kvsP (tabP (zs.take i) (c ""))))) ⟨Same.new hD1, upd_same⟩ (fun i H' _ h => SqT.of (h.1 _ _ ht1)) ?_ ?_⟩
    · rintro i z H' H'' hi ⟨hS, hL⟩ ⟨rfl, hz⟩
      rw [List.length_map] at hi
      have ez : z = V.str zs[i] := by
        rw [List.getElem?_map, List.getElem?_eq_getElem hi] at hz
        exact (Option.some.inj hz).symm
      subst ez
      have nin : zs[i] ∉ (tabP (zs.take i) (c "")).map (·.1) := by
        rw [tabP_keys]
        exact not_before ndz hi
      refine ⟨rfl, _, rfl, _, rfl, _, rfl, n2, fun tt htt => ⟨ca, _, rfl, gW (hS _ _ ea) htt em_in (pl (List.getElem_mem hi)), _, Sum.inr zs[i], rfl, (Same.new htt) _ _ hL, ?_, fun b0 o0 e0 => ?_, ?_⟩⟩
      · rw [kvsP_len]
        unfold tabP
        rw [List.length_map, List.length_take]
        exact Nat.lt_of_lt_of_le (by omega : min i zs.length < 4000) (by decide)
      · rw [upd_ne (ne_of_none e0 hD1)]
        exact (Same.new htt) _ _ (hS _ _ e0)
      · rw [upd_same, putP_new nin, tabP_take zs (c "") hi]
    rintro H3 ⟨hS3, hL3⟩
    rw [List.length_map, List.take_length] at hL3
    have ht3 := hS3 _ _ ht1
    have hx3 := hS3 _ _ hx1
    refine ⟨_, rfl, x, C, dx, _, _, rfl, hx3, T.cl, T.n1, fld_signs t a b d, t, rfl, ⟨_, SqT.of ht3⟩, fun D2 hD2 => wk_any (walk_tup (K := K) (a := t) (xs := zs.map V.str)) (fun i H' => Same H3 H' ∧ H' D2 = some (.dK (kvsP (tabP (zs.take i) fun z => c z "")))) ⟨Same.new hD2, upd_same⟩ (fun i H' _ h => SqT.of (h.1 _ _ ht3)) ?_ ?_⟩
    · rintro i z H' H'' hi ⟨hS, hL⟩ ⟨rfl, hz⟩
      rw [List.length_map] at hi
      have ez : z = V.str zs[i] := by
        rw [List.getElem?_map, List.getElem?_eq_getElem hi] at hz
        exact (Option.some.inj hz).symm
      subst ez
      have nin : zs[i] ∉ (tabP (zs.take i) fun z => c z "").map (·.1) := by
        rw [tabP_keys]
        exact not_before ndz hi
      refine ⟨rfl, _, rfl, _, rfl, _, rfl, n2, fun tt htt => ⟨ca, _, rfl, gW (hS _ _ (hS3 _ _ ea)) htt (pl (List.getElem_mem hi)) em_in, _, Sum.inr zs[i], rfl, (Same.new htt) _ _ hL, ?_, fun b0 o0 e0 => ?_, ?_⟩⟩
      · rw [kvsP_len]
        unfold tabP
        rw [List.length_map, List.length_take]
        exact Nat.lt_of_lt_of_le (by omega : min i zs.length < 4000) (by decide)
      · rw [upd_ne (ne_of_none e0 hD2)]
        exact (Same.new htt) _ _ (hS _ _ e0)
      · rw [upd_same, putP_new nin, tabP_take zs (fun z => c z "") hi]
    rintro H4 ⟨hS4, hL4⟩
    rw [List.length_map, List.take_length] at hL4
    have s13 := Same.trans hS3 hS4
    refine ⟨_, rfl, x, C, dx, _, _, rfl, hS4 _ _ hx3, T.cl, T.n1, fld_signs t a b d, t, zs, rfl, hS4 _ _ ht3, hl, fun H5 p qs s5 hp hP hq => ?_⟩
    have s15 := Same.trans s13 s5
    have ndp := nodup_pairs ndz
    have lp := len_pairs hl
    have mp : ∀ k ∈ pairsOf zs, k.1 ∈ plc t1 ∧ k.2 ∈ plc t1 := fun k hk => ⟨pl (mem_pairs.mp hk).1, pl (mem_pairs.mp hk).2.1⟩
    have ev : tabS (pairsOf zs) c = tabS (pairsOf zs) c := rfl
    have Wp3 := W.p3
    have Wq : ∀ ks, pairsOf zs = ks → tabS (pairsOf zs) c = tabS ks c := fun ks e => by rw [e]
    generalize hks : pairsOf zs = ks at hq ndp lp mp
    have lq : qs.length = ks.length := Paired.length hq
    refine ⟨p, rfl, ⟨_, SqL.of hP⟩, fun D3 hD3 => wk_any (walk_list (K := K) (a := p) (xs := qs.map V.ref)) (fun n H6 => Same H5 H6 ∧ H6 D3 = some (.dT (kvsS (tabS (ks.take n) c)))) ⟨Same.new hD3, upd_same⟩ (fun n H6 _ h6 => SqL.of (h6.1 _ _ hP)) ?_ ?_⟩
    · rintro n z H6 H7 hn ⟨s6, hE⟩ ⟨rfl, hz⟩
      rw [List.length_map] at hn
      have hn2 : n < ks.length := by omega
      have ez : z = V.ref qs[n] := by
        rw [List.getElem?_map, List.getElem?_eq_getElem hn] at hz
        exact (Option.some.inj hz).symm
      subst ez
      obtain ⟨k, hk, eq⟩ := paired_get hq (List.getElem?_eq_getElem hn)
      have ek : k = ks[n] := Option.some.inj (hk.symm.trans (List.getElem?_eq_getElem hn2))
      subst ek
      obtain ⟨m1, m2⟩ := mp _ (List.getElem_mem hn2)
      have nin : ks[n] ∉ (tabS (ks.take n) c).map (·.1) := by
        rw [tabS_keys]
        exact not_before ndp hn2
      have gv : valV (kvsS Dl) (keyOf ks[n]) = some (V.int (c ks[n].1 ks[n].2)) := by
        have := valS (hin m1 m2)
        rwa [hcc] at this
      refine ⟨rfl, _, rfl, _, rfl, _, rfl, ca, _, rfl, .inr ⟨kvsS Dl, keyOf ks[n], qs[n], .inl (s6 _ _ (s15 _ _ ea)), rfl, s6 _ _ eq, gv.symm⟩, _, keyOf ks[n], qs[n], rfl, s6 _ _ eq, hE, ?_, fun b0 o0 e0 => ?_, ?_⟩
      · rw [kvsS_len]
        unfold tabS
        rw [List.length_map, List.length_take]
        exact Nat.lt_of_lt_of_le (by omega : min n ks.length < 4000) (by decide)
      · rw [upd_ne (ne_of_none e0 hD3)]
        exact s6 _ _ e0
      · rw [upd_same, putS_new nin, tabS_take ks c hn2]
    rintro H6 ⟨s6, hE⟩
    rw [List.length_map, lq, List.take_length] at hE
    refine ⟨rfl, rfl, fun y dy hy hdy ne => ?_⟩
    have s16 : Same H H6 := Same.trans (Same.trans s1 s15) s6
    have sN : Same H6 (upd (upd H6 dy (.own y)) y (.ins C dy [])) := fun b o e => by
      rw [upd_ne (ne_of_none e hy), upd_ne (ne_of_none e hdy)]
      exact e
    have w1 := s6 _ _ (s5 _ _ (hS4 _ _ hL3))
    have w2 := s6 _ _ (s5 _ _ hL4)
    subst ezs
    subst hks
    have Rr := W.rt R
    refine ⟨y, dy, D1, D2, D3, _, _, _, rfl, upd_same, ⟨sN _ _ w1, sN _ _ w2, sN _ _ hE⟩, Rr.ag, Rr.nd, Rr.rt, fun H9 u1 u2 u3 b9 pr k1 k2 k3 sr9 => ⟨rfl, ?_⟩⟩
    refine q _ y u1 u2 u3 c (fun b o e => ?_) (s16.free hy) pr (W.perm k1 k2 k3) sr9
    have nb : b ≠ y := fun z => by
      have := s16 _ _ e
      rw [z, hy] at this
      cases this
    exact b9 _ _ nb (sN _ _ (s16 _ _ e))
end
end Mk

set_option Elab.async false
set_option linter.all false
set_option maxRecDepth 100000
set_option maxHeartbeats 1000000
namespace Mk
open PySem PySem.Spec L2 PyProof.Rows

abbrev sMade : Stmt := top 0
abbrev sCopied : Stmt := top 0
/-- the record at L has these tables -/
structure Rec (H : Hp) (L a b c : Addr) (t1 t2 : PTab) (t3 : STab) : Prop where
  l : H L = some (.lst [.ref a, .ref b, .ref c])
  t : Tabs H a b c t1 t2 t3
theorem Rec.same {H H' : Hp} {L a b c : Addr} {t1 t2 : PTab} {t3 : STab} (r : Rec H L a b c t1 t2 t3) (s : Same H H') : Rec H' L a b c t1 t2 t3 := ⟨s _ _ r.l, r.t.same s⟩
def spMade (C : Addr) : Sp := fun vs H Q _ => ∃ (L a b c : Addr) (t1 t2 : PTab) (t3 : STab), vs = [.ref L] ∧ Rec H L a b c t1 t2 t3 ∧ RtT t1 t2 t3 ∧
  ∀ H' y u1 u2 u3, Same H H' → H y = none → PrAt C H' y u1 u2 u3 → u1.Perm t1 → u2.Perm t2 → u3.Perm t3 → Srt u1 u2 u3 → Q (.ref y) H'
def spCopied : Sp := fun vs H Q _ => ∃ (L a b c : Addr) (t1 t2 : PTab) (t3 : STab), vs = [.ref L] ∧ Rec H L a b c t1 t2 t3 ∧ (t1.map (·.1)).Nodup ∧ (t2.map (·.1)).Nodup ∧ (t3.map (·.1)).Nodup ∧
  ∀ H' M d e g, Same H H' → H M = none → Rec H' M d e g t1 t2 t3 → H d = none → H e = none → H g = none → d ≠ e → Q (.ref M) H'
theorem Paired.unmapR {α β γ : Type} {F : α → γ → Prop} {g : β → γ} : ∀ {l : List α} {m : List β}, Paired F l (m.map g) → Paired (fun a b => F a (g b)) l m
  | _, [], h => by cases h; exact .nil
  | _, _ :: _, h => by
    rw [List.map_cons] at h
    cases h with
    | cons a t => exact .cons a (Paired.unmapR t)
theorem Paired.memR {α β : Type} {F : α → β → Prop} : ∀ {l : List α} {m : List β}, Paired F l m → ∀ y ∈ m, ∃ x ∈ l, F x y
  | _, _, .nil, _, h => nomatch h
  | _, _, .cons a t, y, h => by
    rcases List.mem_cons.mp h with rfl | h
    · exact ⟨_, List.mem_cons_self, a⟩
    · obtain ⟨x, hx, f⟩ := Paired.memR t y h
      exact ⟨x, List.mem_cons_of_mem _ hx, f⟩
theorem paired3 {α β : Type} {F : α → β → Prop} {a b c : α} : ∀ {m : List β}, Paired F [a, b, c] m → ∃ d e g, m = [d, e, g] ∧ F a d ∧ F b e ∧ F c g
  | _, .cons x (.cons y (.cons z .nil)) => ⟨_, _, _, rfl, x, y, z⟩
theorem itms_T {K : PySem.W.Frag} {H : Hp} : ∀ {kvs : List (List Key × V)} {qs ts : List Addr}, IsKeys H kvs qs → Paired (fun (t : Addr) (p : V × V) => H t = some (.tup [p.1, p.2])) ts (psT qs kvs) → PrsT K H ts kvs
  | _, _, _, .nil, h => by
    cases h
    exact .nil
  | _, _, _, .cons (b := q) k r, h => by
    unfold psT at h
    rw [List.zip_cons_cons, List.map_cons] at h
    cases h with
    | cons a t => exact .cons ⟨q, k, SqT.of a⟩ (itms_T r t)
section
variable {X : Cx}
theorem atK0 {e : Expr} {T : String} {r : V → List V → Hp → VK → Prop} {to : TE} (K : PySem.W.Frag) (h : PE X e (tBM0 X.K T r to)) (hK : X.K = K := by rfl) : PE X e (tBM0 K T r to) := hK ▸ h
theorem call_dict2 (K : PySem.W.Frag) (hc : X.calm = true) (hu : X.A.units + 8 < cLine) (hK : X.K = K := by rfl) : CallR X (.type "dict") (fun xs H Q =>
    (∃ (a : Addr) (ps : List Addr) (kvs : List (Key × V)), xs = [.ref a] ∧ SqL K H a (ps.map V.ref) ∧ Paired (fun p kv => SqT K H p [kV kv.1, kv.2]) ps kvs ∧ ∀ p, H p = none → Q (.ref p) (upd H p (.dK (mergeK [] kvs)))) ∨
    (∃ (a : Addr) (ps : List Addr) (kvs : List (List Key × V)), xs = [.ref a] ∧ SqL K H a (ps.map V.ref) ∧ PrsT K H ps kvs ∧ (kvs.map (·.1)).Nodup ∧ ∀ p, H p = none → Q (.ref p) (upd H p (.dT kvs)))) := by
  subst hK
  exact CallR.or (call_dictP hc) (call_dictPT hc hu)
end
/-- a dict that stands for a table -/
def IsTb (o : HO) : Prop := (∃ t : PTab, o = .dK (kvsP t) ∧ (t.map (·.1)).Nodup) ∨ ∃ t : STab, o = .dT (kvsS t) ∧ (t.map (·.1)).Nodup
section
variable {P : Program} {w : World} {K : PySem.W.Frag} {mg : Str → Option Value} {base : Heap}
end
end Mk

set_option Elab.async false
set_option linter.all false
set_option maxRecDepth 100000
set_option maxHeartbeats 1000000
namespace Mk
open PySem PySem.Spec L2 PyProof.Rows

section
variable {α : Type} [DecidableEq α]
theorem setT_perm {t u : List (α × Int)} (p : u.Perm t) (k : α) (i : Int) : (setT u k i).Perm (setT t k i) := by
  have m : k ∈ u.map (·.1) ↔ k ∈ t.map (·.1) := (p.map (·.1)).mem_iff
  by_cases h : k ∈ t.map (·.1)
  · unfold setT
    rw [if_pos h, if_pos (m.mpr h)]
    exact p.map _
  · rw [setT_out h, setT_out (fun z => h (m.mp z))]
    exact p.append_right _
theorem delT_perm {t u : List (α × Int)} (p : u.Perm t) (k : α) : (delT u k).Perm (delT t k) := p.filter _
theorem look_perm {t u : List (α × Int)} (p : u.Perm t) (nd : (t.map (·.1)).Nodup) {k : α} (h : k ∈ t.map (·.1)) : look u k = look t k := by
  obtain ⟨q, hq, rfl⟩ := List.mem_map.mp h
  rw [look_mem nd q hq, look_mem ((p.map (·.1)).nodup_iff.mpr nd) q (p.mem_iff.mpr hq)]
theorem put_same {t u : List (α × Int)} (p : u.Perm t) (nd : (t.map (·.1)).Nodup) {zs : List α} (h : ∀ z ∈ zs, z ∈ t.map (·.1)) : put u zs = put t zs :=
  List.map_congr_left fun z hz => by rw [look_perm p nd (h z hz)]
end
theorem okP_perm {t u : PTab} (p : u.Perm t) {m : Int} (h : okP t m = true) : okP u m = true := List.all_eq_true.mpr fun q hq => List.all_eq_true.mp h q (p.mem_iff.mp hq)
theorem okS_perm {t u : STab} (p : u.Perm t) {m : Int} (h : okS t m = true) : okS u m = true := List.all_eq_true.mpr fun q hq => List.all_eq_true.mp h q (p.mem_iff.mp hq)
theorem Agree.perm {t1 t2 u1 u2 : PTab} {t3 u3 : STab} (a : Agree t1 t2 t3) (p1 : u1.Perm t1) (p2 : u2.Perm t2) (p3 : u3.Perm t3) : Agree u1 u2 u3 where
  sg := fun p hp => a.sg p (p1.mem_iff.mp hp)
  nd := (p1.map (·.1)).nodup_iff.mpr a.nd
  l1 := by rw [p1.length_eq]; exact a.l1
  pm := ((p2.map (·.1)).trans a.pm).trans (p1.map (·.1)).symm
  l3 := by rw [p3.length_eq]; exact a.l3
  pr := fun p hp => by
    have h := a.pr p (p3.mem_iff.mp hp)
    exact ⟨(p1.map (·.1)).mem_iff.mpr h.1, (p1.map (·.1)).mem_iff.mpr h.2.1, h.2.2⟩
theorem right_perm {t1 t2 u1 u2 : PTab} {t3 u3 : STab} (h : rightB t1 t2 t3 = true) (p1 : u1.Perm t1) (p2 : u2.Perm t2) (p3 : u3.Perm t3) : rightB u1 u2 u3 = true := by
  unfold rightB at h ⊢
  simp only [Bool.and_eq_true] at h ⊢
  refine ⟨okP_perm p1 h.1, ?_, okP_perm p2 h.2.2.1, okS_perm p3 h.2.2.2⟩
  have h2 := h.2.1
  cases u1 with
  | nil =>
    have := List.Perm.nil_eq p1
    rw [← this] at h2
    exact h2
  | cons _ _ => rfl
theorem RtT.perm {t1 t2 u1 u2 : PTab} {t3 u3 : STab} (r : RtT t1 t2 t3) (p1 : u1.Perm t1) (p2 : u2.Perm t2) (p3 : u3.Perm t3) : RtT u1 u2 u3 :=
  ⟨r.ag.perm p1 p2 p3, (p3.map (·.1)).nodup_iff.mpr r.nd, right_perm r.rt p1 p2 p3⟩
section
variable {t1 t2 : PTab} {t3 : STab}
theorem RtT.set1 (r : RtT t1 t2 t3) {k : Str} {i : Int} (h : k ∈ t1.map (·.1)) (hi : nwB i 1 9 = true) : RtT (setT t1 k i) t2 t3 := ⟨r.ag.set1 h, r.nd, right_1 r.rt hi⟩
theorem RtT.set2 (r : RtT t1 t2 t3) {k : Str} {i : Int} (h : k ∈ t1.map (·.1)) (hi : nwB i 1 9 = true) : RtT t1 (setT t2 k i) t3 := ⟨r.ag.set2 h, r.nd, right_2 r.rt hi⟩
theorem RtT.del3 (r : RtT t1 t2 t3) (k : Str × Str) : RtT t1 t2 (delT t3 k) := ⟨r.ag.del3, delT_nd r.nd, right_3 r.rt fun h => okS_del h⟩
theorem nodup_len {α : Type} [DecidableEq α] : ∀ {ks ls : List α}, ks.Nodup → (∀ k ∈ ks, k ∈ ls) → ks.length ≤ ls.length
  | [], _, _, _ => Nat.zero_le _
  | k :: ks, ls, nd, h => by
    have hk := h k List.mem_cons_self
    obtain ⟨n1, n2⟩ := List.nodup_cons.mp nd
    have ih := nodup_len (ls := ls.erase k) n2 fun x hx => (List.mem_erase_of_ne (fun e : x = k => n1 (by rw [← e]; exact hx))).mpr (h x (List.mem_cons_of_mem _ hx))
    rw [List.length_erase_of_mem hk] at ih
    have := List.length_pos_of_mem hk
    rw [List.length_cons]
    omega
/-- pairs of at most five signs are at most twenty -/
theorem few_pairs {zs : List Str} {ks : List (Str × Str)} (nd : ks.Nodup) (ndz : zs.Nodup) (hl : zs.length ≤ 5) (h : ∀ k ∈ ks, k.1 ∈ zs ∧ k.2 ∈ zs ∧ k.1 ≠ k.2) : ks.length ≤ 20 :=
  Nat.le_trans (nodup_len nd fun k hk => mem_pairs.mpr (h k hk)) (len_pairs hl)
theorem RtT.set3 (r : RtT t1 t2 t3) {x y : Str} {i : Int} (hx : x ∈ t1.map (·.1)) (hy : y ∈ t1.map (·.1)) (hxy : x ≠ y) (hi : nwB i 1 18 = true) : (setT t3 (x, y) i).length ≤ 20 ∧ RtT t1 t2 (setT t3 (x, y) i) := by
  have nd := setT_nd (k := (x, y)) (i := i) r.nd
  have l20 : (setT t3 (x, y) i).length ≤ 20 := by
    have := few_pairs (zs := t1.map (·.1)) nd r.ag.nd (by rw [List.length_map]; exact r.ag.l1) fun k hk => by
      obtain ⟨q, hq, rfl⟩ := List.mem_map.mp hk
      rcases setT_mem hq with h | rfl
      · exact r.ag.pr q h
      · exact ⟨hx, hy, hxy⟩
    rwa [List.length_map] at this
  exact ⟨l20, r.ag.set3 hx hy hxy l20, nd, right_3 r.rt fun h => okS_set h hi⟩
end
/-- the prices at x tell these tables -/
def Told (C : Addr) (H : Hp) (x : Addr) (t1 t2 : PTab) (t3 : STab) : Prop := ∃ u1 u2 u3, PrAt C H x u1 u2 u3 ∧ u1.Perm t1 ∧ u2.Perm t2 ∧ u3.Perm t3 ∧ Srt u1 u2 u3
theorem Told.same {C : Addr} {H H' : Hp} {x : Addr} {t1 t2 : PTab} {t3 : STab} (h : Told C H x t1 t2 t3) (s : Same H H') : Told C H' x t1 t2 t3 := by
  obtain ⟨u1, u2, u3, a, r⟩ := h
  exact ⟨u1, u2, u3, a.same s, r⟩
def Good (C : Addr) (H : Hp) (x L : Addr) : Prop := ∃ a b c t1 t2 t3, Told C H x t1 t2 t3 ∧ Rec H L a b c t1 t2 t3 ∧ RtT t1 t2 t3
theorem Good.same {C : Addr} {H H' : Hp} {x L : Addr} (h : Good C H x L) (s : Same H H') : Good C H' x L := by
  obtain ⟨a, b, c, t1, t2, t3, t, r, q⟩ := h
  exact ⟨a, b, c, t1, t2, t3, t.same s, r.same s, q⟩
section
variable {C p x L a b c : Addr} {H H' : Hp} {n : Nat} {t1 t2 : PTab} {t3 : STab}
theorem Pot.not {o : HO} (P : Pot H p n) (e : H b = some o) (h : ∀ i j k : Int, o ≠ .lst [.int i, .int j, .int k]) : b ≠ p := fun z => by
  obtain ⟨u, m, k, ep, _⟩ := P
  rw [z, ep] at e
  exact h _ _ _ (Option.some.inj e).symm
theorem But.at_ {o : HO} (B : But p H H') (P : Pot H p n) (e : H b = some o) (h : ∀ i j k : Int, o ≠ .lst [.int i, .int j, .int k]) : H' b = some o := B _ _ (P.not e h) e
theorem Tabs.but (h : Tabs H a b c t1 t2 t3) (B : But p H H') (P : Pot H p n) : Tabs H' a b c t1 t2 t3 := ⟨B.at_ P h.p (fun _ _ _ z => nomatch z), B.at_ P h.o (fun _ _ _ z => nomatch z), B.at_ P h.s (fun _ _ _ z => nomatch z)⟩
theorem Rec.but (h : Rec H L a b c t1 t2 t3) (B : But p H H') (P : Pot H p n) : Rec H' L a b c t1 t2 t3 := ⟨B.at_ P h.l (fun _ _ _ z => by cases z), h.t.but B P⟩
theorem strs_not {zs : List Str} : ∀ i j k : Int, (HO.lst (zs.map V.str)) ≠ .lst [.int i, .int j, .int k] := fun i j k z => by
  injection z with z
  obtain ⟨y, r, _, e, _⟩ := List.map_eq_cons_iff.mp z
  cases e
theorem Told.but (h : Told C H x t1 t2 t3) (B : But p H H') (P : Pot H p n) : Told C H' x t1 t2 t3 := by
  obtain ⟨u1, u2, u3, ⟨dx, t, a, b, c, h1, h2, h3⟩, r⟩ := h
  exact ⟨u1, u2, u3, ⟨dx, t, a, b, c, B.at_ P h1 (fun _ _ _ z => nomatch z), B.at_ P h2 (fun _ _ _ z => nomatch z), h3.but B P⟩, r⟩
theorem Good.but (h : Good C H x L) (B : But p H H') (P : Pot H p n) : Good C H' x L := by
  obtain ⟨a, b, c, t1, t2, t3, t, r, q⟩ := h
  exact ⟨a, b, c, t1, t2, t3, t.but B P, r.but B P, q⟩
end
/-- a deed of the law: from prices and their record to other ones -/
def spDeedL (C : Addr) : Sp := fun vs H Q _ => ∃ (p x L : Addr) (n : Nat), vs = [.ref p, .ref x, .ref L] ∧ Pot H p n ∧ n + 200 < PB ∧ Good C H x L ∧
  ∀ H' M y L', But p H H' → H' M = some (.lst [.ref y, .ref L']) → Good C H' y L' → Pot H' p (n + 200) → Q (.ref M) H'
/-- a method of the class -/
structure Md (P : Program) (w : World) (K : PySem.W.Frag) (mg : Str → Option Value) (base : Heap) (C : Addr) (CX : CXT) (k : Nat) (m : Str) (ps : List Str) (sp : Sp) : Prop where
  ex : ∃ (g : Addr) (fd : FuncData), Meth K C m g ∧ FnOk P w K mg base CX k g fd ps sp ∧ Binds K fd ps []
theorem fld_no {m : Str} (n1 : ¬ m = "_signs") (n2 : ¬ m = "_put") (n3 : ¬ m = "_out") (n4 : ¬ m = "_swap") (t a b c : Addr) : List.lookup m (fldP t a b c) = none := by
  unfold fldP
  rw [look_no n1, look_no n2, look_no n3, look_no n4]
  rfl
end Mk

set_option Elab.async false
set_option linter.all false
set_option maxRecDepth 100000
set_option maxHeartbeats 1000000
namespace Mk
open PySem PySem.Spec L2 PyProof.Rows

theorem eqv_strs : ∀ xs ys : List Str, PyData.eqvAll (xs.map PyData.str) (ys.map PyData.str) = decide (xs = ys)
  | [], [] => rfl
  | [], _ :: _ => rfl
  | _ :: _, [] => rfl
  | x :: xs, y :: ys => by
    rw [List.map_cons, List.map_cons, PyData.eqvAll, eqv_strs xs ys]
    simp only [PyData.eqv]
    rw [Bool.eq_iff_iff]
    simp
theorem eqv_tups (xs ys : List Str) : PyData.eqv (.tuple (xs.map PyData.str)) (.tuple (ys.map PyData.str)) = decide (xs = ys) := by
  simp only [PyData.eqv]
  exact eqv_strs xs ys
theorem eqv_lsts (xs ys : List Str) : PyData.eqv (.list (xs.map PyData.str)) (.list (ys.map PyData.str)) = decide (xs = ys) := by
  simp only [PyData.eqv]
  exact eqv_strs xs ys
def sameT (t1 t2 : PTab) (t3 : STab) (u1 u2 : PTab) (u3 : STab) : Bool := sameKV (kvsP t1) (kvsP u1) && (sameKV (kvsP t2) (kvsP u2) && sameKV (kvsS t3) (kvsS u3))
def spIsClosed (C : Addr) : Sp := fun vs H Q _ => ∃ (x : Addr) (t1 t2 : PTab) (t3 : STab), vs = [.ref x] ∧ PrAt C H x t1 t2 t3 ∧ RtT t1 t2 t3 ∧ Srt t1 t2 t3 ∧
  ∀ H' r1 r2 r3 c, Same H H' → CtW t1 t2 t3 r1 r2 r3 c → Q (.bl (sameT t1 t2 t3 r1 r2 r3)) H'
def spChkPr (C : Addr) : Sp := fun vs H Q _ => ∃ (x : Addr) (t1 t2 : PTab) (t3 : STab), vs = [.ref x] ∧ PrAt C H x t1 t2 t3 ∧ Q .non H
/-- no closed price is greater -/
def AtM (t1 t2 : PTab) (t3 : STab) (u1 u2 : PTab) (u3 : STab) : Prop := t1.map (·.1) = u1.map (·.1) ∧ ∀ x ∈ plc t1, ∀ y ∈ plc t1, cc t1 t2 t3 x y ≤ cc u1 u2 u3 x y
def spAtMost (C : Addr) : Sp := fun vs H Q _ => ∃ (x y : Addr) (t1 t2 : PTab) (t3 : STab) (u1 u2 : PTab) (u3 : STab), vs = [.ref x, .ref y] ∧ PrAt C H x t1 t2 t3 ∧ RtT t1 t2 t3 ∧ Srt t1 t2 t3 ∧ PrAt C H y u1 u2 u3 ∧ RtT u1 u2 u3 ∧ Srt u1 u2 u3 ∧
  ∀ H' (b : Bool), Same H H' → (b = true ↔ AtM t1 t2 t3 u1 u2 u3) → Q (.bl b) H'
theorem lc_len {t1 t2 : PTab} {t3 : STab} (a : Agree t1 t2 t3) : (lc t1 t2 t3).length ≤ 41 := by
  have e := congrArg List.length (lc_keys (t1 := t1) (t2 := t2) (t3 := t3) (em_not a))
  rw [List.length_map, List.length_map] at e
  rw [e]
  have l := a.l1
  have x := dirL_len t1 t2 t3 (t1.map (·.1)) (t1.map (·.1)) dir0
  have b : (t1.map (·.1)).length ≤ 5 := by rw [List.length_map]; exact l
  have c : (t1.map (·.1)).length * ((t1.map (·.1)).length + 3) ≤ 5 * 8 := Nat.mul_le_mul b (by omega)
  have d : dir0.length = 1 := rfl
  exact Nat.le_trans x (by omega)
section
variable {P : Program} {w : World} {K : PySem.W.Frag} {mg : Str → Option Value} {base : Heap}
theorem scChkPr : FnScope ["prices"] ["prices"] (defScope sChkPr) := ⟨rfl, rfl, rfl, by decide +kernel, rfl, by decide +kernel, by decide +kernel⟩
theorem ok_chkPr {f C : Addr} {fd : FuncData} (F : Fun K "check_prices" "check_prices" sChkPr f fd) (T : Pc K C) (O : IsK K C) (mgC : mg "Prices" = some (.ref C)) (hi : mg "isinstance" = none) : FnOk P w K mg base CX0 1 f fd ["prices"] (spChkPr C) := by
  refine F.ok scChkPr (fun vs H Q E h => ?_) (fun cdv A outer s H vs Q E hr h => ?_)
  · obtain ⟨x, t1, t2, t3, rfl, _⟩ := h
    rfl
  · obtain ⟨x, t1, t2, t3, rfl, ⟨dx, t, a, b, d, hx, ht, hT⟩, q⟩ := h
    refine ⟨_, pss_one (ps_if (pt_not (pt_val (pe_callB call_isi (by rfl) hi (by decide +kernel) (pa_cons (pv 0) (pa_cons (pe_glob (v := .ref C) (by rfl) mgC rfl) pa_nil))))) (pss_one ps_never) pss_nil), ?_⟩
    exact ⟨_, rfl, .ref x, .ref C, .ref C, .ref C, true, rfl, .own C, .base (.ins hx T.cl O.ha O.hn O.htk O.hm), if_pos (beq_self_eq_true _), true, rfl, iteF q⟩
abbrev nAtM : List Str := ["self", "other", "costs", "limits", "way"]
theorem scAtM : FnScope nAtM ["self", "other"] (defScope sIsAtMost) := ⟨rfl, rfl, rfl, by decide +kernel, rfl, by decide +kernel, by decide +kernel⟩
end
end Mk

set_option Elab.async false
set_option linter.all false
set_option maxRecDepth 100000
set_option maxHeartbeats 1000000
/-! _cost_rows -/
namespace Mk
open PySem PySem.Spec L2 PyProof.Rows

abbrev sRows : Stmt := top 38
abbrev sBetw : Stmt := top 37
abbrev nRows : List Str := ["one", "other", "costs", "rows", "sign", "old", "above", "row", "at", "new"]
structure En (mg : Str → Option Value) : Prop where
  en : mg "enumerate" = none
/-- a dict of closed costs -/
def Cst6 (H : Hp) (ca : Addr) (P : List Str) (c : Str → Str → Int) : Prop := ∃ Dl : STab, H ca = some (.dT (kvsS Dl)) ∧ ∀ x ∈ P, ∀ y ∈ P, (x, y) ∈ Dl.map (·.1) ∧ look Dl (x, y) = c x y
theorem Cst6.keep {H H' : Hp} {ca : Addr} {P : List Str} {c : Str → Str → Int} (h : Cst6 H ca P c) (k : ∀ o, H ca = some o → H' ca = some o) : Cst6 H' ca P c := by
  obtain ⟨Dl, e, q⟩ := h
  exact ⟨Dl, k _ e, q⟩
theorem Cst6.get {H : Hp} {ca t : Addr} {P : List Str} {c : Str → Str → Int} {x y : Str} (h : Cst6 H ca P c) (ht : H t = none) (hx : x ∈ P) (hy : y ∈ P) : DGet (upd H t (.tup [.str x, .str y])) ca (.ref t) (some (V.int (c x y))) := by
  obtain ⟨Dl, e, q⟩ := h
  obtain ⟨q1, q2⟩ := q x hx y hy
  have := Wy.get (H0 := H) (H1 := H) ⟨fun b u _ e => e, e⟩ ht q1
  rwa [q2] at this
theorem at_last {xs : List V} {v : V} : atI (xs ++ [v]) (-1) = some v := by
  unfold atI ixN
  simp
  rw [if_pos (by omega)]
  have e : (-1 + ((xs.length : Int) + 1)).toNat = xs.length := by omega
  simp [e]
/-! the cells -/
section
variable (c : Str → Str → Int) (su sv : List Str)
def cel (i j : Nat) : Int := crn ("" : Str) c (su.take i).reverse (sv.take j).reverse
def rowL (i k : Nat) : List V := (List.range k).map fun j => V.int (cel c su sv i j)
variable {c su sv}
theorem take_rev {α : Type} {l : List α} {i : Nat} (h : i < l.length) : (l.take (i + 1)).reverse = l[i] :: (l.take i).reverse := by
  rw [List.take_add_one, List.getElem?_eq_getElem h, List.reverse_append]
  rfl
theorem cel_00 : cel c su sv 0 0 = 0 := by
  unfold cel
  rw [List.take_zero, List.take_zero, List.reverse_nil, crn]
theorem cel_0s {j : Nat} (h : j < sv.length) : cel c su sv 0 (j + 1) = cel c su sv 0 j + c "" sv[j] := by
  unfold cel
  rw [take_rev h, List.take_zero, List.reverse_nil, crn]
theorem cel_s0 {i : Nat} (h : i < su.length) : cel c su sv (i + 1) 0 = cel c su sv i 0 + c su[i] "" := by
  unfold cel
  rw [take_rev h, List.take_zero, List.reverse_nil, crn]
theorem cel_ss {i j : Nat} (h : i < su.length) (g : j < sv.length) : cel c su sv (i + 1) (j + 1) = min (min (cel c su sv i (j + 1) + c su[i] "") (cel c su sv (i + 1) j + c "" sv[j])) (cel c su sv i j + c su[i] sv[j]) := by
  unfold cel
  rw [take_rev h, take_rev g, crn]
theorem rowL_len (i k : Nat) : (rowL c su sv i k).length = k := by
  unfold rowL
  rw [List.length_map, List.length_range]
theorem rowL_succ (i k : Nat) : rowL c su sv i (k + 1) = rowL c su sv i k ++ [.int (cel c su sv i k)] := by
  unfold rowL
  rw [List.range_succ, List.map_append]
  rfl
theorem rowL_at {i j k : Nat} (h : j < k) : atI (rowL c su sv i k) (j : Int) = some (.int (cel c su sv i j)) := by
  refine atI_nat ?_
  unfold rowL
  rw [List.getElem?_map, List.getElem?_range h]
  rfl
theorem rowL_last (i k : Nat) : atI (rowL c su sv i (k + 1)) (-1) = some (.int (cel c su sv i k)) := by
  rw [rowL_succ]
  exact at_last
end
theorem sgs_at {z : Str} {i c : Nat} (h : z.cps[i]? = some c) : (sgs z)[i]? = some ⟨#[c]⟩ := by
  have : (cs z)[i]? = some c := by rw [← h]; simp [cs]
  unfold sgs
  rw [List.getElem?_map, this]
  rfl
theorem sgs_len (z : Str) : (sgs z).length = z.cps.size := by
  unfold sgs
  rw [List.length_map]
  rfl
def spRows : Sp := fun vs H Q _ => ∃ (u v : Str) (ca : Addr) (P : List Str) (c : Str → Str → Int), vs = [.str u, .str v, .ref ca] ∧ Cst6 H ca P c ∧ ("" : Str) ∈ P ∧ (∀ x ∈ sgs u, x ∈ P) ∧ (∀ x ∈ sgs v, x ∈ P) ∧ u.cps.size ≤ 300 ∧ v.cps.size ≤ 300 ∧
  ∀ H' R r (rs ns : List V), Same H H' → H' R = some (.lst (rs ++ [.ref r])) → H' r = some (.lst (ns ++ [.int (crn ("" : Str) c (sgs u).reverse (sgs v).reverse)])) → Q (.ref R) H'
def spBetw : Sp := fun vs H Q _ => ∃ (u v : Str) (ca : Addr) (P : List Str) (c : Str → Str → Int), vs = [.str u, .str v, .ref ca] ∧ Cst6 H ca P c ∧ ("" : Str) ∈ P ∧ (∀ x ∈ sgs u, x ∈ P) ∧ (∀ x ∈ sgs v, x ∈ P) ∧ u.cps.size ≤ 300 ∧ v.cps.size ≤ 300 ∧
  ∀ H', Same H H' → Q (.int (crn ("" : Str) c (sgs u).reverse (sgs v).reverse)) H'
section
variable {P : Program} {w : World} {K : PySem.W.Frag} {mg : Str → Option Value} {base : Heap}
theorem scRows : FnScope nRows ["one", "other", "costs"] (defScope sRows) := ⟨rfl, rfl, rfl, by decide +kernel, rfl, by decide +kernel, by decide +kernel⟩
theorem ok_rows {f : Addr} {fd : FuncData} (F : Fun K "_cost_rows" "_cost_rows" sRows f fd) (B : Bn mg) (En : En mg) : FnOk P w K mg base CX0 1 f fd ["one", "other", "costs"] spRows := by
  refine F.ok scRows (fun vs H Q E h => ?_) (fun cdv A outer s H vs Q E hr h => ?_)
  · obtain ⟨u, v, ca, Pl, c, rfl, _⟩ := h
    rfl
  · obtain ⟨u, v, ca, Pl, c, rfl, hc, e0, pu, pv', lu, lv, q⟩ := h
    have hu := hu_of hr
    refine ⟨_, pss_cons (ps_set (i := 3) scRows.nd rfl (.inl rfl) (pe_lst (pa_cons (pe_lst (pa_cons pe_int pa_nil)) pa_nil)))
      (pss_cons (ps_for PassesOwn.never rfl (pi_str (pv 1)) (pg_name (i := 4) scRows.nd rfl (.inl rfl))
        (pss_one (ps_expr (pe_bm PySem.F.plainAttrs_list PySem.F.slot_list_append PySem.F.type_list_append mt_append (pe_ix ix_list (pv 3) pe_int (fun _ _ => rfl)) (pa_cons (pe_op op_add (pe_ix ix_list (pe_ix ix_list (pv 3) pe_int (fun _ _ => rfl)) (pe_un un_neg pe_int) (fun _ _ => rfl)) (pe_dget hu (pv 2) (pe_tup (pa_cons pe_str (pa_cons (pv 4) pa_nil))) (fun _ _ => rfl))) pa_nil)))))
      (pss_cons (ps_for PassesOwn.never rfl (pi_str (pv 0)) (pg_name (i := 5) scRows.nd rfl (.inl rfl))
        (pss_cons (ps_set (i := 6) scRows.nd rfl (.inl rfl) (pe_ix ix_list (pv 3) (pe_un un_neg pe_int) (fun _ _ => rfl)))
        (pss_cons (ps_set (i := 7) scRows.nd rfl (.inl rfl) (pe_lst (pa_cons (pe_op op_add (pe_ix ix_list (pv 6) pe_int (fun _ _ => rfl)) (pe_dget hu (pv 2) (pe_tup (pa_cons (pv 5) (pa_cons pe_str pa_nil))) (fun _ _ => rfl))) pa_nil)))
        (pss_cons (ps_for PassesOwn.never rfl (pi_enumS (by rfl) En.en (pa_cons (pv 1) pa_nil)) (pg_tup rfl (pgs_cons (pg_name (i := 8) scRows.nd rfl (.inl rfl)) (pgs_cons (pg_name (i := 9) scRows.nd rfl (.inl rfl)) pgs_nil)))
          (pss_one (ps_expr (pe_bm PySem.F.plainAttrs_list PySem.F.slot_list_append PySem.F.type_list_append mt_append (pv 7) (pa_cons (pe_callB (call_min3Nu rfl) (by rfl) B.min (by decide +kernel)
            (pa_cons (pe_op op_add (pe_ix ix_list (pv 6) (pe_op op_add (pv 8) pe_int) (fun _ _ => rfl)) (pe_dget hu (pv 2) (pe_tup (pa_cons (pv 5) (pa_cons pe_str pa_nil))) (fun _ _ => rfl)))
            (pa_cons (pe_op op_add (pe_ix ix_list (pv 7) (pv 8) (fun _ _ => rfl)) (pe_dget hu (pv 2) (pe_tup (pa_cons pe_str (pa_cons (pv 9) pa_nil))) (fun _ _ => rfl)))
            (pa_cons (pe_op op_add (pe_ix ix_list (pv 6) (pv 8) (fun _ _ => rfl)) (pe_dget hu (pv 2) (pe_tup (pa_cons (pv 5) (pa_cons (pv 9) pa_nil))) (fun _ _ => rfl))) pa_nil)))) pa_nil)))))
        (pss_one (ps_expr (pe_bm PySem.F.plainAttrs_list PySem.F.slot_list_append PySem.F.type_list_append mt_append (pv 3) (pa_cons (pv 7) pa_nil))))))))
      (pss_one (ps_ret (pv 3))))), ?_⟩
    have n1 : 1 ≤ sizeLine := by decide
    have n2 : 2 ≤ sizeLine := by decide
    have lt1 : ∀ {n : Nat}, n ≤ 1000 → n < sizeLine := fun h1 => by rw [sizeLine_eq]; omega
    refine ⟨n1, fun r0 hr0 => ⟨n1, fun R hR => ?_⟩⟩
    have s0 : Same H (upd (upd H r0 (.lst [.int 0])) R (.lst [.ref r0])) := Same.trans (Same.new hr0) (Same.new hR)
    have Rr : R ≠ r0 := (ne_of_none upd_same hR).symm
    have x0 : (upd (upd H r0 (.lst [.int 0])) R (.lst [.ref r0])) r0 = some (.lst (rowL c (sgs u) (sgs v) 0 1)) := by
      rw [upd_ne Rr.symm, upd_same, rowL_succ, cel_00]
      rfl
    have xR : (upd (upd H r0 (.lst [.int 0])) R (.lst [.ref r0])) R = some (.lst [.ref r0]) := upd_same
    have R0 : H R = none := by
      rw [upd_ne Rr] at hR
      exact hR
    have cn : ca ≠ r0 ∧ ca ≠ R := by
      obtain ⟨Dl, e, _⟩ := hc
      exact ⟨ne_of_none e hr0, ne_of_none e R0⟩
    have hc1 := hc.keep (s0 ca)
    generalize upd (upd H r0 (.lst [.int 0])) R (.lst [.ref r0]) = H1 at s0 x0 xR hc1 ⊢
    have lsu := sgs_len u
    have lsv := sgs_len v
    generalize hsu : sgs u = su at *
    generalize hsv : sgs v = sv at *
    refine ⟨_, rfl, v, rfl, for_it walk_str (fun j σ H2 => (∃ o4 o5 o6 o7 o8 o9, σ = [some (.str u), some (.str v), some (.ref ca), some (.ref R), o4, o5, o6, o7, o8, o9]) ∧ But r0 H1 H2 ∧ H2 r0 = some (.lst (rowL c su sv 0 (j + 1)))) ?_ (fun _ _ _ _ _ => trivial) ?_ ?_⟩
    · exact ⟨⟨_, _, _, _, _, _, rfl⟩, But.refl, x0⟩
    · rintro j x σ H2 H3 hj ⟨⟨o4, o5, o6, o7, o8, o9, rfl⟩, b2, e2⟩ ⟨rfl, cd, hx, rfl⟩
      have hj2 : j < sv.length := by omega
      have ex : (⟨#[cd]⟩ : Str) = sv[j] := by
        have := sgs_at hx
        rw [hsv, List.getElem?_eq_getElem hj2] at this
        exact (Option.some.inj this).symm
      rw [ex]
      have mj : sv[j] ∈ Pl := pv' _ (List.getElem_mem hj2)
      have eR := b2 _ _ Rr xR
      have hc2 := hc1.keep (fun o e => b2 _ _ cn.1 e)
      refine ⟨_, rfl, R, _, _, _, rfl, rfl, SqL.of eR, atI_nat (j := 0) rfl, .inl ⟨rfl, _, SqL.of e2⟩, ?_⟩
      refine ⟨_, rfl, R, _, _, _, rfl, rfl, SqL.of eR, atI_nat (j := 0) rfl, _, rfl, r0, _, _, _, rfl, rfl, SqL.of e2, rowL_last 0 j, ?_⟩
      refine ⟨_, rfl, _, rfl, n2, fun t ht => ⟨ca, _, rfl, hc2.get ht e0 mj, _, _, rfl, rfl, ?_⟩⟩
      have nt : r0 ≠ t := ne_of_none e2 ht
      refine ⟨r0, _, _, rfl, rfl, by rw [upd_ne nt]; exact e2, lt1 (by rw [rowL_len]; omega), ⟨_, _, _, _, _, _, rfl⟩, fun b o n e => ?_, ?_⟩
      · have e' := b2 _ _ n e
        rw [upd_ne n, upd_ne (ne_of_none e' ht)]
        exact e'
      · rw [upd_same, rowL_succ 0 (j + 1), cel_0s hj2]
    · rintro σ H2 ⟨⟨o4, o5, o6, o7, o8, o9, rfl⟩, b2, e2⟩
      have b2' : But r0 H H2 := (But.of_same s0).trans b2
      have eR := b2 _ _ Rr xR
      have s2 : Same H H2 := fun b o e => b2' _ _ (ne_of_none e hr0) e
      have hc2 := hc1.keep (fun o e => b2 _ _ cn.1 e)
      clear b2 b2' x0 xR hc1 s0
      refine ⟨_, rfl, u, rfl, for_it walk_str (fun i σ H3 => (∃ o4 o5 o6 o7 o8 o9, σ = [some (.str u), some (.str v), some (.ref ca), some (.ref R), o4, o5, o6, o7, o8, o9]) ∧ But R H2 H3 ∧ ∃ (rs : List V) (r : Addr), H3 R = some (.lst (rs ++ [.ref r])) ∧ rs.length = i ∧ r ≠ R ∧ H3 r = some (.lst (rowL c su sv i (v.cps.size + 1)))) ?_ (fun _ _ _ _ _ => trivial) ?_ ?_⟩
      · exact ⟨⟨_, _, _, _, _, _, rfl⟩, But.refl, [], r0, eR, rfl, Rr.symm, e2⟩
      · rintro i x σ H3 H4 hi ⟨⟨p4, p5, p6, p7, p8, p9, rfl⟩, b3, rs, r, f1, f2, f3, f4⟩ ⟨rfl, cd, hx, rfl⟩
        have hi2 : i < su.length := by omega
        have ex : (⟨#[cd]⟩ : Str) = su[i] := by
          have := sgs_at hx
          rw [hsu, List.getElem?_eq_getElem hi2] at this
          exact (Option.some.inj this).symm
        rw [ex]
        have mi : su[i] ∈ Pl := pu _ (List.getElem_mem hi2)
        have hc3 := hc2.keep (fun o e => b3 _ _ cn.2 e)
        refine ⟨_, rfl, _, rfl, R, _, _, _, rfl, rfl, SqL.of f1, at_last, ?_⟩
        refine ⟨_, rfl, r, _, _, _, rfl, rfl, SqL.of f4, rowL_at (j := 0) (Nat.succ_pos _), _, rfl, _, rfl, n2, fun t ht => ⟨ca, _, rfl, hc3.get ht mi e0, _, _, rfl, rfl, n1, fun w hw => ?_⟩⟩
        have sW : Same H4 (upd (upd H4 t (.tup [.str su[i], .str ""])) w (.lst [.int (cel c su sv i 0 + c su[i] "")])) := Same.trans (Same.new ht) (Same.new hw)
        have w0 : H4 w = none := by
          cases e : H4 w with
          | none => rfl
          | some o =>
            have := (Same.new (o := .tup [.str su[i], .str ""]) ht) _ _ e
            rw [hw] at this
            cases this
        have eW : (upd (upd H4 t (.tup [.str su[i], .str ""])) w (.lst [.int (cel c su sv i 0 + c su[i] "")])) w = some (.lst (rowL c su sv (i + 1) 1)) := by
          rw [upd_same, rowL_succ, cel_s0 hi2]
          rfl
        have wr : r ≠ w := ne_of_none f4 w0
        have wR : R ≠ w := ne_of_none f1 w0
        have wc : ca ≠ w := by
          obtain ⟨Dl, e, _⟩ := hc3
          exact ne_of_none e w0
        have gr := sW _ _ f4
        have gR := sW _ _ f1
        have hc4 := hc3.keep (sW ca)
        show _
        generalize upd (upd H4 t (.tup [.str su[i], .str ""])) w (.lst [.int (cel c su sv i 0 + c su[i] "")]) = H5 at sW eW gr gR hc4 ⊢
        refine ⟨_, rfl, v, rfl, for_it walk_enumS (fun j σ H6 => (∃ o8 o9, σ = [some (.str u), some (.str v), some (.ref ca), some (.ref R), p4, some (.str su[i]), some (.ref r), some (.ref w), o8, o9]) ∧ But w H5 H6 ∧ H6 w = some (.lst (rowL c su sv (i + 1) (j + 1)))) ?_ (fun _ _ _ _ _ => trivial) ?_ ?_⟩
        · exact ⟨⟨_, _, rfl⟩, But.refl, eW⟩
        · rintro j x σ H6 H7 hj ⟨⟨p8, p9, rfl⟩, b6, e6⟩ ⟨T, cd, rfl, hT, rfl, hx⟩
          have hj2 : j < sv.length := by omega
          have ex : (⟨#[cd]⟩ : Str) = sv[j] := by
            have := sgs_at hx
            rw [hsv, List.getElem?_eq_getElem hj2] at this
            exact (Option.some.inj this).symm
          rw [ex]
          have mj : sv[j] ∈ Pl := pv' _ (List.getElem_mem hj2)
          have nT : w ≠ T := ne_of_none e6 hT
          have b7 : But w H5 (upd H6 T (.tup [.int (j : Nat), .str sv[j]])) := fun b o n e => by
            have e' := b6 _ _ n e
            rw [upd_ne (ne_of_none e' hT)]
            exact e'
          have e7 : (upd H6 T (.tup [.int (j : Nat), .str sv[j]])) w = some (.lst (rowL c su sv (i + 1) (j + 1))) := by
            rw [upd_ne nT]
            exact e6
          have eT : (upd H6 T (.tup [.int (j : Nat), .str sv[j]])) T = some (.tup [.int (j : Nat), .str sv[j]]) := upd_same
          generalize upd H6 T (.tup [.int (j : Nat), .str sv[j]]) = H7 at b7 e7 eT ⊢
          have g7 := b7 _ _ wr gr
          have hc7 := hc4.keep (fun o e => b7 _ _ wc e)
          refine ⟨T, _, rfl, SqT.of eT, rfl, _, _, rfl, _, _, rfl, rfl, ?_⟩
          refine ⟨_, rfl, .inl ⟨rfl, _, SqL.of e7⟩, ?_⟩
          have ej : (j : Int) + 1 = ((j + 1 : Nat) : Int) := by omega
          refine ⟨_, rfl, _, rfl, _, _, rfl, rfl, r, _, _, _, rfl, rfl, SqL.of g7, (by show atI _ ((j : Int) + 1) = _; rw [ej]; exact rowL_at (by omega)), _, rfl, _, rfl, n2, fun t1 ht1 => ⟨ca, _, rfl, hc7.get ht1 mi e0, _, _, rfl, rfl, ?_⟩⟩
          have s1 := Same.new (o := .tup [.str su[i], .str ""]) ht1
          have hc8 := hc7.keep (s1 ca)
          refine ⟨_, rfl, _, rfl, w, _, _, _, rfl, rfl, SqL.of (s1 _ _ e7), rowL_at (by omega), _, rfl, _, rfl, n2, fun t2 ht2 => ⟨ca, _, rfl, hc8.get ht2 e0 mj, _, _, rfl, rfl, ?_⟩⟩
          have s2 := Same.trans s1 (Same.new (o := .tup [.str "", .str sv[j]]) ht2)
          have hc9 := hc7.keep (s2 ca)
          refine ⟨_, rfl, _, rfl, r, _, _, _, rfl, rfl, SqL.of (s2 _ _ g7), rowL_at (by omega), _, rfl, _, rfl, _, rfl, n2, fun t3 ht3 => ⟨ca, _, rfl, hc9.get ht3 mi mj, _, _, rfl, rfl, ?_⟩⟩
          have s3 := Same.trans s2 (Same.new (o := .tup [.str su[i], .str sv[j]]) ht3)
          refine ⟨_, _, _, _, rfl, min3_int _ _ _, ?_⟩
          refine ⟨w, _, _, rfl, rfl, s3 _ _ e7, lt1 (by rw [rowL_len]; omega), ⟨_, _, rfl⟩, fun b o n e => ?_, ?_⟩
          · rw [upd_ne n]
            exact s3 _ _ (b7 _ _ n e)
          · rw [upd_same, rowL_succ (i + 1) (j + 1), cel_ss hi2 hj2]
        · rintro σ H6 ⟨⟨p8, p9, rfl⟩, b6, e6⟩
          have g6 := b6 _ _ wR gR
          refine ⟨_, rfl, .inl ⟨rfl, _, SqL.of g6⟩, _, rfl, R, _, _, rfl, rfl, g6, lt1 (by rw [List.length_append, f2]; show i + 1 ≤ 1000; omega), ⟨_, _, _, _, _, _, rfl⟩, fun b o n e => ?_, rs ++ [.ref r], w, upd_same, ?_, wR.symm, ?_⟩
          · rw [upd_ne n]
            have e' := b3 _ _ n e
            exact b6 _ _ (ne_of_none e' w0) (sW _ _ e')
          · rw [List.length_append, f2]
            rfl
          · rw [upd_ne wR.symm]
            exact e6
      · rintro σ H3 ⟨⟨p4, p5, p6, p7, p8, p9, rfl⟩, b3, rs, r, f1, f2, f3, f4⟩
        refine ⟨_, rfl, q _ R r rs (rowL c su sv u.cps.size v.cps.size) (fun b o e => b3 _ _ (ne_of_none e R0) (s2 _ _ e)) f1 ?_⟩
        rw [f4, rowL_succ]
        unfold cel
        rw [List.take_of_length_le (Nat.le_of_eq lsu), List.take_of_length_le (Nat.le_of_eq lsv)]
theorem scBetw : FnScope ["one", "other", "costs"] ["one", "other", "costs"] (defScope sBetw) := ⟨rfl, rfl, rfl, by decide +kernel, rfl, by decide +kernel, by decide +kernel⟩
theorem ok_betw {f : Addr} {fd : FuncData} (F : Fun K "_cost_between" "_cost_between" sBetw f fd) (J : Cd P w K mg base 1 "_cost_rows" ["one", "other", "costs"] spRows) : FnOk P w K mg base CX0 2 f fd ["one", "other", "costs"] spBetw := by
  obtain ⟨j, dj, G, gm, gk, gb⟩ := J.ex
  refine F.ok scBetw (fun vs H Q E h => ?_) (fun cdv A outer s H vs Q E hr h => ?_)
  · obtain ⟨u, v, ca, Pl, c, rfl, _⟩ := h
    rfl
  · obtain ⟨u, v, ca, Pl, c, rfl, hc, e0, pu, pv', lu, lv, q⟩ := h
    refine ⟨_, pss_one (ps_ret (pe_ix ix_list (pe_ix ix_list (pe_call G hr (by rfl) gm gk gb .nil pass0 (pa_cons (pv 0) (pa_cons (pv 1) (pa_cons (pv 2) pa_nil)))) (pe_un un_neg pe_int) (fun _ _ => rfl)) (pe_un un_neg pe_int) (fun _ _ => rfl))), ?_⟩
    refine ⟨_, rfl, _, rfl, _, rfl, u, v, ca, Pl, c, rfl, hc, e0, pu, pv', lu, lv, fun H1 R r rs ns s1 e1 e2 => ?_⟩
    exact ⟨_, rfl, R, _, _, _, rfl, rfl, SqL.of e1, at_last, _, rfl, r, _, _, _, rfl, rfl, SqL.of e2, at_last, q _ s1⟩
end
end Mk

set_option Elab.async false
set_option linter.all false
set_option maxRecDepth 100000
set_option maxHeartbeats 1000000
/-! the law's words behind one change -/
namespace Mk
open PySem PySem.Spec L2 PyProof.Rows

abbrev sBeh : Stmt := top 0
abbrev nBeh : List Str := ["_law_tables_here", "_law_word", "_law_puts", "_law_outs", "_law_swaps", "_law_found", "_law_at", "_law_sign"]
def pre (z : Str) (k : Int) : Str := cutS z none (some k)
def post (z : Str) (k : Int) : Str := cutS z (some k) none
abbrev sgAt (z : Str) (i : Nat) : Str := ⟨#[(cs z).getD i 0]⟩
def bhS (t3 : STab) (w : Str) (i : Nat) (s : Str) : PTab := if (sgAt w i, s) ∈ t3.map (·.1) then [(pre w i ++ s ++ post w ((i : Int) + 1), look t3 (sgAt w i, s))] else []
def bhA (t1 t2 : PTab) (t3 : STab) (w : Str) (i : Nat) : PTab := (pre w i ++ post w ((i : Int) + 1), look t2 (sgAt w i)) :: (t1.map (·.1)).flatMap (bhS t3 w i)
def bhB (t1 : PTab) (w : Str) (i : Nat) : PTab := (t1.map (·.1)).map fun s => (pre w i ++ s ++ post w i, look t1 s)
def nPut (w : Str) : Nat := if w.length < 2 then w.length + 1 else 0
def bh (t1 t2 : PTab) (t3 : STab) (w : Str) : PTab := (List.range w.length).flatMap (bhA t1 t2 t3 w) ++ (List.range (nPut w)).flatMap (bhB t1 w)
/-- all but the list at l stands; it holds the words and prices of tab -/
structure Gw (H0 H1 : Hp) (l : Addr) (tab : PTab) : Prop where
  same : ∀ b o, b ≠ l → H0 b = some o → H1 b = some o
  out : ∃ ts : List Addr, H1 l = some (.lst (ts.map V.ref)) ∧ Tups H1 ts tab
def spBeh : Sp := fun vs H Q _ => ∃ (L a b c : Addr) (t1 t2 : PTab) (t3 : STab) (z : Str), vs = [.ref L, .str z] ∧ Rec H L a b c t1 t2 t3 ∧ (∀ k ∈ t1.map (·.1), k ∈ t2.map (·.1)) ∧ t1.length ≤ 5 ∧ (∀ k ∈ t1.map (·.1), k.length ≤ 1) ∧ z.length ≤ 2 ∧ (∀ i, i < z.length → sgAt z i ∈ t1.map (·.1)) ∧
  ∀ H' l ts, Same H H' → H l = none → H' l = some (.lst (ts.map V.ref)) → Tups H' ts (bh t1 t2 t3 z) → Q (.ref l) H'
theorem Gw.new {H0 H1 : Hp} {l t : Addr} {tab : PTab} {o : HO} (W : Gw H0 H1 l tab) (ht : H1 t = none) : Gw H0 (upd H1 t o) l tab := by
  obtain ⟨ts, e1, e2⟩ := W.out
  refine ⟨fun b u n e => ?_, ts, ?_, Tups.keep (fun b xs e => ?_) e2⟩
  · have := W.same b u n e
    rw [upd_ne (ne_of_none this ht)]
    exact this
  · rw [upd_ne (ne_of_none e1 ht)]
    exact e1
  · rw [upd_ne (ne_of_none e ht)]
    exact e
theorem Gw.push {H0 H1 : Hp} {l t : Addr} {tab : PTab} {z : Str} {i : Int} (W : Gw H0 H1 l tab) (ht : H1 t = some (.tup [.str z, .int i])) (hl : H0 t = none ∨ t ≠ l) : ∃ acc, H1 l = some (.lst acc) ∧ acc.length = tab.length ∧ Gw H0 (upd H1 l (.lst (acc ++ [.ref t]))) l (tab ++ [(z, i)]) := by
  obtain ⟨ts, e1, e2⟩ := W.out
  have nt : t ≠ l := fun e => by
    rw [e, e1] at ht
    cases ht
  refine ⟨_, e1, ?_, fun b u n e => ?_, ts ++ [t], ?_, Paired.snocP ?_ (Tups.keep (fun b xs e => ?_) e2)⟩
  · rw [List.length_map]
    exact Paired.length e2
  · rw [upd_ne n]
    exact W.same b u n e
  · rw [upd_same, List.map_append]
    rfl
  · show (upd H1 l _) t = _
    rw [upd_ne nt]
    exact ht
  · rw [upd_ne (fun z => by rw [z, e1] at e; cases e)]
    exact e
theorem cut_len (z : Str) (lo hi : Option Int) : (cutS z lo hi).length ≤ z.length := by
  show (((z.cps.toList.drop _).take _).toArray).size ≤ z.cps.size
  rw [List.size_toArray, List.length_take, List.length_drop, Array.length_toList]
  omega
theorem pre_len (z : Str) (k : Int) : (pre z k).length ≤ z.length := cut_len _ _ _
theorem post_len (z : Str) (k : Int) : (post z k).length ≤ z.length := cut_len _ _ _
theorem app_len (x y : Str) : (x ++ y).length = x.length + y.length := by
  rw [len_cs, cs_append, List.length_append, ← len_cs, ← len_cs]
theorem bhS_len (t3 : STab) (w : Str) (i : Nat) (s : Str) : (bhS t3 w i s).length ≤ 1 := by
  unfold bhS
  split <;> simp
section
variable {P : Program} {w : World} {K : PySem.W.Frag} {mg : Str → Option Value} {base : Heap}
end
end Mk

set_option Elab.async false
set_option linter.all false
set_option maxRecDepth 100000
set_option maxHeartbeats 1000000
/-! what is asked of words and prices; the cost between two words -/
namespace Mk
open PySem PySem.Spec L2 PyProof.Rows

abbrev sChkW : Stmt := top 18
abbrev sPair6 : Stmt := top 36
abbrev sDist : Stmt := top 35
def spChkW : Sp := fun vs H Q _ => ∃ z : Str, vs = [.str z] ∧ wB z = true ∧ z.length ≤ 1000 ∧ Q .non H
def spHaveS (C : Addr) : Sp := fun vs H Q _ => ∃ (x : Addr) (z : Str) (t1 t2 : PTab) (t3 : STab), vs = [.ref x, .str z] ∧ PrAt C H x t1 t2 t3 ∧ (∀ p ∈ t1, sgB p.1 = true) ∧ z.length ≤ 4000 ∧ (∀ y ∈ sgs z, y ∈ t1.map (·.1)) ∧ ∀ H', Same H H' → Q (.bl true) H'
def spPair6 (C : Addr) : Sp := fun vs H Q _ => ∃ (u v : Str) (x : Addr) (t1 t2 : PTab) (t3 : STab), vs = [.str u, .str v, .ref x] ∧ PrAt C H x t1 t2 t3 ∧ (∀ p ∈ t1, sgB p.1 = true) ∧ (∀ y ∈ sgs u, y ∈ t1.map (·.1)) ∧ (∀ y ∈ sgs v, y ∈ t1.map (·.1)) ∧ u.length ≤ 200 ∧ v.length ≤ 200 ∧ ∀ H', Same H H' → Q .non H'
/-- the cost from u to v -/
def ds (t1 t2 : PTab) (t3 : STab) (u v : Str) : Int := crn ("" : Str) (cc t1 t2 t3) (sgs u).reverse (sgs v).reverse
def spDist (C : Addr) : Sp := fun vs H Q _ => ∃ (u v : Str) (x : Addr) (t1 t2 : PTab) (t3 : STab), vs = [.str u, .str v, .ref x] ∧ PrAt C H x t1 t2 t3 ∧ RtT t1 t2 t3 ∧ Srt t1 t2 t3 ∧ (∀ y ∈ sgs u, y ∈ t1.map (·.1)) ∧ (∀ y ∈ sgs v, y ∈ t1.map (·.1)) ∧ u.length ≤ 200 ∧ v.length ≤ 200 ∧ ∀ H', Same H H' → Q (.int (ds t1 t2 t3 u v)) H'
theorem sgs_app (x y : Str) : sgs (x ++ y) = sgs x ++ sgs y := by
  unfold sgs
  rw [cs_append, List.map_append]
theorem wB_sgs {ks : List Str} (sg : ∀ k ∈ ks, sgB k = true) {z : Str} (h : ∀ y ∈ sgs z, y ∈ ks) : wB z = true := by
  unfold wB
  refine List.all_eq_true.mpr fun c hc => ?_
  have m : (⟨#[c]⟩ : Str) ∈ sgs z := List.mem_map.mpr ⟨c, hc, rfl⟩
  have := sg _ (h _ m)
  unfold sgB wB at this
  simp only [Bool.and_eq_true] at this
  exact List.all_eq_true.mp this.2 c (by simp [cs])
structure Mx2 (mg : Str → Option Value) : Prop where
  mw : ∃ t, mg "MAX_WORD" = some (.int 1000 t)
  mc : ∃ t, mg "MAX_COMPARED" = some (.int 200 t)
section
variable {P : Program} {w : World} {K : PySem.W.Frag} {mg : Str → Option Value} {base : Heap}
theorem scChkW : FnScope ["word"] ["word"] (defScope sChkW) := ⟨rfl, rfl, rfl, by decide +kernel, rfl, by decide +kernel, by decide +kernel⟩
theorem ok_chkW {f : Addr} {fd : FuncData} (F : Fun K "check_word" "check_word" sChkW f fd) (B : Bn mg) (M : Mx2 mg) (J : Cd P w K mg base 1 "is_word" ["value"] (spJudge wB K)) : FnOk P w K mg base CX0 2 f fd ["word"] spChkW := by
  obtain ⟨j, dj, G, gm, gk, gb⟩ := J.ex
  obtain ⟨tm, hm⟩ := M.mw
  refine F.ok scChkW (fun vs H Q E h => ?_) (fun cdv A outer s H vs Q E hr h => ?_)
  · obtain ⟨z, rfl, _⟩ := h
    rfl
  · obtain ⟨z, rfl, hz, hl, q⟩ := h
    refine ⟨_, pss_one (ps_if (PW.pt (pw_or (pt_not (pt_val (pe_call G hr (by rfl) gm gk gb .nil pass0 (pa_cons (pv 0) pa_nil)))) (pw_or1 (pt_cmpR op_gt (pe_callB call_len_str (by rfl) B.len PySem.boot_len (pa_cons (pv 0) pa_nil)) (pe_glob (v := .int 1000) (by rfl) hm ⟨_, rfl⟩) (nomark _))))) (pss_one ps_never) pss_nil), ?_⟩
    refine ⟨_, rfl, _, rfl, .inl ⟨z, rfl, by omega, _, rfl, ?_⟩⟩
    rw [hz]
    refine iteF ⟨_, rfl, z, rfl, Nat.le_trans hl (by decide), _, _, rfl, rfl, _, rfl, ?_⟩
    rw [decide_eq_false (by omega)]
    exact iteF q
theorem ok_haveS {f g C : Addr} {fd fdg : FuncData} (F : Fun K "have_signs" "have_signs" sHave f fd) (O : On mg) (D : OwnD K C g "__contains__") (G : FnOk P w K mg base CX0 1 g fdg ["self", "value"] (spCont K C)) (hb : Binds K fdg ["self", "value"] []) : FnOk P w K mg base CX0 2 f fd ["prices", "signs"] (spHaveS C) := by
  refine F.ok scHave (fun vs H Q E h => ?_) (fun cdv A outer s H vs Q E hr h => ?_)
  · obtain ⟨x, z, t1, t2, t3, rfl, _⟩ := h
    rfl
  · obtain ⟨x, z, t1, t2, t3, rfl, hx, sg, hl, sub, q⟩ := h
    refine ⟨_, pss_one (ps_ret (pe_callB (cr_all rfl) (by rfl) O.all (by decide +kernel) (pa_cons (pe_lc (own := [("sign", 2)]) (g := gName 2) (tt := tYes) rfl scHave.nd (pi_str (pv 1)) (blkOk_by (N := ["prices", "signs", "sign"]) (sc := defScope sHave) (by decide +kernel))
          (fun _ _ _ _ _ => pg_name (i := 2) scHave.nd rfl (Or.inl rfl)) (fun _ _ _ _ _ => pts_nil) (fun _ _ _ _ _ => pe_cmpR (op_in_own (n := 1) ⟨g, fdg, D, G, hb⟩ hr) (pv 2) (pv 0) (by rfl))) pa_nil))), ?_⟩
    refine ⟨_, rfl, z, rfl, fun D0 hD => wk_any walk_str (fun i H2 => Same H H2 ∧ H2 D0 = some (.lst ((List.replicate i true).map V.bl))) ⟨Same.new hD, upd_same⟩ (fun _ _ _ _ => trivial) ?_ ?_⟩
    · rintro i y H2 H3 hi ⟨hS, hL⟩ ⟨rfl, cd, hz, rfl⟩
      have m : (⟨#[cd]⟩ : Str) ∈ sgs z := List.mem_of_getElem? (sgs_at hz)
      have hz' : z.length = z.cps.size := rfl
      obtain ⟨dx, t', a, b, e, hx0, _⟩ := id (hx.same hS)
      have mz := sub _ m
      have okz : PyData.strOk ⟨#[cd]⟩ = true := by
        obtain ⟨p, hp, e⟩ := List.mem_map.mp mz
        rw [← e]
        exact sg_ok (sg p hp)
      refine ⟨rfl, _, rfl, _, rfl, x, dx, _, rfl, hx0, x, V.str ⟨#[cd]⟩, PyData.str ⟨#[cd]⟩, t1, t2, t3, rfl, hx.same hS, sg, .of (.str _) (by simp [SeqAt.shaped, PyData.canLay0, PyData.depth, okz]), _, rfl, _, hL, ?_, fun b0 o0 e0 => ?_, ?_⟩
      · rw [List.length_map, List.length_replicate]
        exact Nat.lt_of_lt_of_le (by omega : i < 4001) (by decide)
      · rw [upd_ne (ne_of_none e0 hD)]
        exact hS _ _ e0
      · have e1 : inS (t1.map (·.1)) (.str ⟨#[cd]⟩) = true := decide_eq_true mz
        rw [upd_same, e1, List.replicate_succ', List.map_append]
        rfl
    rintro H2 ⟨hS, hL⟩
    have ea : (List.replicate z.cps.size true).all id = true := List.all_eq_true.mpr fun b hb => (List.mem_replicate.mp hb).2
    refine ⟨_, _, rfl, SqL.of hL, ?_⟩
    rw [ea]
    exact q _ hS
theorem scPair6 : FnScope ["one", "other", "prices"] ["one", "other", "prices"] (defScope sPair6) := ⟨rfl, rfl, rfl, by decide +kernel, rfl, by decide +kernel, by decide +kernel⟩
theorem ok_pair6 {f C : Addr} {fd : FuncData} (F : Fun K "_check_pair" "_check_pair" sPair6 f fd) (B : Bn mg) (M : Mx2 mg) (J : Cd P w K mg base 2 "check_word" ["word"] spChkW) (J2 : Cd P w K mg base 1 "check_prices" ["prices"] (spChkPr C)) (J3 : Cd P w K mg base 2 "have_signs" ["prices", "signs"] (spHaveS C)) : FnOk P w K mg base CX0 3 f fd ["one", "other", "prices"] (spPair6 C) := by
  obtain ⟨j, dj, G, gm, gk, gb⟩ := J.ex
  obtain ⟨e, de, Ge, em, ek, eb⟩ := J2.ex
  obtain ⟨i, di, Gi, im, ik, ib⟩ := J3.ex
  obtain ⟨tm, hm⟩ := M.mc
  refine F.ok scPair6 (fun vs H Q E h => ?_) (fun cdv A outer s H vs Q E hr h => ?_)
  · obtain ⟨u, v, x, t1, t2, t3, rfl, _⟩ := h
    rfl
  · obtain ⟨u, v, x, t1, t2, t3, rfl, hx, sg, su, sv, lu, lv, q⟩ := h
    refine ⟨_, pss_cons (ps_expr (pe_call G hr (by rfl) gm gk gb .nil pass0 (pa_cons (pv 0) pa_nil)))
      (pss_cons (ps_expr (pe_call G hr (by rfl) gm gk gb .nil pass0 (pa_cons (pv 1) pa_nil)))
      (pss_cons (ps_expr (pe_call Ge (hr.mono (by decide)) (by rfl) em ek eb .nil pass0 (pa_cons (pv 2) pa_nil)))
      (pss_cons (ps_if (pt_not (pt_val (pe_call Gi hr (by rfl) im ik ib .nil pass0 (pa_cons (pv 2) (pa_cons (pe_op op_add_str (pv 0) (pv 1)) pa_nil))))) (pss_one ps_never) pss_nil)
      (pss_one (ps_if (pt_cmpR op_gt (pe_callB (call_max2 rfl) (by rfl) B.max (by decide +kernel) (pa_cons (pe_callB call_len_str (by rfl) B.len PySem.boot_len (pa_cons (pv 0) pa_nil)) (pa_cons (pe_callB call_len_str (by rfl) B.len PySem.boot_len (pa_cons (pv 1) pa_nil)) pa_nil))) (pe_glob (v := .int 200) (by rfl) hm ⟨_, rfl⟩) (nomark _)) (pss_one ps_never) pss_nil))))), ?_⟩
    have sg' : ∀ k ∈ t1.map (·.1), sgB k = true := fun k hk => by
      obtain ⟨p, hp, rfl⟩ := List.mem_map.mp hk
      exact sg p hp
    refine ⟨_, rfl, u, rfl, wB_sgs sg' su, by omega, _, rfl, v, rfl, wB_sgs sg' sv, by omega, _, rfl, x, t1, t2, t3, rfl, hx, ?_⟩
    have lA : (u ++ v).length = u.length + v.length := app_len u v
    refine ⟨_, rfl, _, rfl, _, rfl, _, _, rfl, rfl, Nat.le_trans (by omega : u.length + v.length ≤ 4000) (by decide), x, u ++ v, t1, t2, t3, rfl, hx, sg, by omega, fun y hy => ?_, fun H1 s1 => ⟨_, rfl, iteF ?_⟩⟩
    · rw [sgs_app] at hy
      exact (List.mem_append.mp hy).elim (su y) (sv y)
    · refine ⟨_, rfl, u, rfl, Nat.le_trans lu (by decide), _, rfl, v, rfl, Nat.le_trans lv (by decide), _, _, rfl, _, _, rfl, rfl, _, rfl, ?_⟩
      rw [decide_eq_false (by split <;> omega)]
      exact iteF (q _ s1)
theorem scDist : FnScope ["one", "other", "prices"] ["one", "other", "prices"] (defScope sDist) := ⟨rfl, rfl, rfl, by decide +kernel, rfl, by decide +kernel, by decide +kernel⟩
theorem ok_dist {f C : Addr} {fd : FuncData} (F : Fun K "distance" "distance" sDist f fd) (J : Cd P w K mg base 3 "_check_pair" ["one", "other", "prices"] (spPair6 C)) (J2 : Cd P w K mg base 4 "costs_by_ends" ["prices"] (spBy C)) (J3 : Cd P w K mg base 2 "_cost_between" ["one", "other", "costs"] spBetw) : FnOk P w K mg base CX0 5 f fd ["one", "other", "prices"] (spDist C) := by
  obtain ⟨j, dj, G, gm, gk, gb⟩ := J.ex
  obtain ⟨e, de, Ge, em, ek, eb⟩ := J2.ex
  obtain ⟨i, di, Gi, im, ik, ib⟩ := J3.ex
  refine F.ok scDist (fun vs H Q E h => ?_) (fun cdv A outer s H vs Q E hr h => ?_)
  · obtain ⟨u, v, x, t1, t2, t3, rfl, _⟩ := h
    rfl
  · obtain ⟨u, v, x, t1, t2, t3, rfl, hx, R, sr, su, sv, lu, lv, q⟩ := h
    refine ⟨_, pss_cons (ps_expr (pe_call G (hr.mono (by decide)) (by rfl) gm gk gb .nil pass0 (pa_cons (pv 0) (pa_cons (pv 1) (pa_cons (pv 2) pa_nil)))))
      (pss_one (ps_ret (pe_call Gi (hr.mono (by decide)) (by rfl) im ik ib .nil pass0 (pa_cons (pv 0) (pa_cons (pv 1) (pa_cons (pe_call Ge hr (by rfl) em ek eb .nil pass0 (pa_cons (pv 2) pa_nil)) pa_nil)))))), ?_⟩
    refine ⟨_, rfl, _, rfl, _, rfl, u, v, x, t1, t2, t3, rfl, hx, R.ag.sg, su, sv, lu, lv, fun H1 s1 => ?_⟩
    refine ⟨_, rfl, _, rfl, _, rfl, x, t1, t2, t3, rfl, hx.same s1, R, sr, fun H2 ca s2 fa ea => ?_⟩
    have em0 := em_not R.ag
    have pl : ∀ {z : Str}, z ∈ t1.map (·.1) → z ∈ plc t1 := fun hz => List.mem_cons_of_mem _ hz
    refine ⟨u, v, ca, plc t1, cc t1 t2 t3, rfl, ⟨_, ea, fun x hx y hy => ⟨lc_in R.ag hx hy, rfl⟩⟩, em_in, fun y hy => pl (su y hy), fun y hy => pl (sv y hy), ?_, ?_, fun H3 s3 => q _ (Same.trans (Same.trans s1 s2) s3)⟩
    · show u.length ≤ 300
      omega
    · show v.length ≤ 300
      omega
end
end Mk

set_option Elab.async false
set_option linter.all false
/-! least costs by rounds -/
namespace Mk
section
variable {α : Type} [DecidableEq α]
abbrev Tab (α : Type) := List (α × Int)
abbrev Stps (α : Type) := List (α × Tab α)
def better (f : Tab α) (z : α) (e : α × Int) : Prop := e.1 ∉ f.map (·.1) ∨ look f z + e.2 < look f e.1
instance (f : Tab α) (z : α) (e : α × Int) : Decidable (better f z e) := by unfold better; infer_instance
def rlxB (s : Tab α × Bool) (z : α) (e : α × Int) : Tab α × Bool := if better s.1 z e then (setT s.1 e.1 (look s.1 z + e.2), true) else s
def rowB (s : Tab α × Bool) (st : α × Tab α) : Tab α × Bool := if st.1 ∈ s.1.map (·.1) then st.2.foldl (fun s e => rlxB s st.1 e) s else s
def rndB (steps : Stps α) (f : Tab α) : Tab α × Bool := steps.foldl rowB (f, false)
def rounds (steps : Stps α) : Nat → Tab α → Tab α
  | 0, f => f
  | n + 1, f => if (rndB steps f).2 = true then rounds steps n (rndB steps f).1 else (rndB steps f).1
/-! walks -/
def Edge (steps : Stps α) (z y : α) (p : Int) : Prop := ∃ es, (z, es) ∈ steps ∧ (y, p) ∈ es
inductive Wkl (steps : Stps α) (w : α) : List α → α → Int → Prop
  | nil : Wkl steps w [] w 0
  | snoc {l : List α} {z y : α} {c p : Int} : Wkl steps w l z c → Edge steps z y p → Wkl steps w (z :: l) y (c + p)
theorem Wkl.cut {steps : Stps α} {w : α} (hp : ∀ z y p, Edge steps z y p → 0 ≤ p) : ∀ {l : List α} {x : α} {c : Int}, Wkl steps w l x c → ∀ y ∈ l, ∃ l' c', Wkl steps w l' y c' ∧ c' ≤ c ∧ (y :: l').Sublist l
  | _, _, _, .snoc (l := l) (z := z) (c := c) (p := p) h e, y, m => by
    have p0 := hp _ _ _ e
    rcases List.mem_cons.mp m with rfl | m
    · exact ⟨l, c, h, by omega, List.Sublist.refl _⟩
    · obtain ⟨l', c', a, b, s⟩ := Wkl.cut hp h y m
      exact ⟨l', c', a, by omega, s.cons _⟩
theorem Wkl.short {steps : Stps α} {w : α} (hp : ∀ z y p, Edge steps z y p → 0 ≤ p) : ∀ {l : List α} {x : α} {c : Int}, Wkl steps w l x c → ∃ l' c', Wkl steps w l' x c' ∧ c' ≤ c ∧ (x :: l').Nodup
  | _, _, _, .nil => ⟨[], 0, .nil, Int.le_refl _, by simp⟩
  | _, y, _, .snoc (z := z) (c := c) (p := p) h e => by
    have p0 := hp _ _ _ e
    obtain ⟨l', c', a, b, n⟩ := Wkl.short hp h
    by_cases m : y ∈ z :: l'
    · rcases List.mem_cons.mp m with rfl | m
      · exact ⟨l', c', a, by omega, n⟩
      · obtain ⟨l2, c2, a2, b2, s⟩ := a.cut hp y m
        exact ⟨l2, c2, a2, by omega, (List.nodup_cons.mp n).2.sublist s⟩
    · exact ⟨z :: l', c' + p, a.snoc e, by omega, List.nodup_cons.mpr ⟨m, n⟩⟩
theorem Wkl.from {steps : Stps α} {w : α} : ∀ {l : List α} {x : α} {c : Int}, Wkl steps w l x c → ∀ y ∈ l, y ∈ steps.map (·.1)
  | _, _, _, .snoc h e, y, m => by
    rcases List.mem_cons.mp m with rfl | m
    · obtain ⟨es, h1, _⟩ := e
      exact List.mem_map.mpr ⟨_, h1, rfl⟩
    · exact Wkl.from h y m
theorem Wkl.few {steps : Stps α} {w : α} (hp : ∀ z y p, Edge steps z y p → 0 ≤ p) {l : List α} {x : α} {c : Int} (h : Wkl steps w l x c) : ∃ l' c', Wkl steps w l' x c' ∧ c' ≤ c ∧ l'.length ≤ steps.length := by
  obtain ⟨l', c', a, b, n⟩ := h.short hp
  refine ⟨l', c', a, b, ?_⟩
  have := (List.nodup_cons.mp n).2.length_le_of_subset (l₂ := steps.map (·.1)) fun y hy => a.from y hy
  rwa [List.length_map] at this
/-! what a round does -/
/-- g is at least as good as f -/
def Bet (f g : Tab α) : Prop := ∀ k ∈ f.map (·.1), k ∈ g.map (·.1) ∧ look g k ≤ look f k
theorem Bet.refl (f : Tab α) : Bet f f := fun _ h => ⟨h, Int.le_refl _⟩
theorem Bet.trans {f g h : Tab α} (a : Bet f g) (b : Bet g h) : Bet f h := fun k hk => by
  obtain ⟨a1, a2⟩ := a k hk
  obtain ⟨b1, b2⟩ := b k a1
  exact ⟨b1, Int.le_trans b2 a2⟩
theorem rlx_bet (s : Tab α × Bool) (z : α) (e : α × Int) : Bet s.1 (rlxB s z e).1 := by
  unfold rlxB
  by_cases c : better s.1 z e
  · rw [if_pos c]
    intro k hk
    refine ⟨(keys_setT _ _ _ _).mpr (.inl hk), ?_⟩
    show look (setT s.1 e.1 (look s.1 z + e.2)) k ≤ look s.1 k
    rw [look_setT]
    by_cases q : k = e.1
    · rw [if_pos q]
      rcases c with c | c
      · rw [q] at hk
        exact absurd hk c
      · rw [q]
        omega
    · rw [if_neg q]
      exact Int.le_refl _
  · rw [if_neg c]
    exact Bet.refl _
theorem rlx_done (s : Tab α × Bool) (z : α) (e : α × Int) : e.1 ∈ (rlxB s z e).1.map (·.1) ∧ look (rlxB s z e).1 e.1 ≤ look s.1 z + e.2 := by
  unfold rlxB
  by_cases c : better s.1 z e
  · rw [if_pos c]
    refine ⟨(keys_setT _ _ _ _).mpr (.inr rfl), ?_⟩
    show look (setT s.1 e.1 (look s.1 z + e.2)) e.1 ≤ _
    rw [look_setT, if_pos rfl]
    exact Int.le_refl _
  · rw [if_neg c]
    unfold better at c
    by_cases m : e.1 ∈ s.1.map (·.1)
    · refine ⟨m, ?_⟩
      by_cases l : look s.1 z + e.2 < look s.1 e.1
      · exact absurd (.inr l) c
      · omega
    · exact absurd (.inl m) c
theorem rlx_flag (s : Tab α × Bool) (z : α) (e : α × Int) : (rlxB s z e).2 = false → s.2 = false ∧ (rlxB s z e).1 = s.1 := by
  unfold rlxB
  by_cases c : better s.1 z e
  · rw [if_pos c]
    intro h
    cases h
  · rw [if_neg c]
    exact fun h => ⟨h, rfl⟩
theorem fold_bet (z : α) : ∀ (es : Tab α) (s : Tab α × Bool), Bet s.1 (es.foldl (fun s e => rlxB s z e) s).1
  | [], s => Bet.refl _
  | e :: es, s => (rlx_bet s z e).trans (fold_bet z es _)
theorem fold_done (z : α) : ∀ (es : Tab α) (s : Tab α × Bool), z ∈ s.1.map (·.1) → ∀ e ∈ es, e.1 ∈ (es.foldl (fun s e => rlxB s z e) s).1.map (·.1) ∧ look (es.foldl (fun s e => rlxB s z e) s).1 e.1 ≤ look s.1 z + e.2
  | e0 :: es, s, hz, e, m => by
    rw [List.foldl_cons]
    rcases List.mem_cons.mp m with rfl | m
    · obtain ⟨a, b⟩ := rlx_done s z e
      obtain ⟨c, d⟩ := fold_bet z es (rlxB s z e) e.1 a
      exact ⟨c, Int.le_trans d b⟩
    · obtain ⟨a, b⟩ := rlx_bet s z e0 z hz
      obtain ⟨c, d⟩ := fold_done z es (rlxB s z e0) a e m
      exact ⟨c, by omega⟩
theorem fold_flag (z : α) : ∀ (es : Tab α) (s : Tab α × Bool), (es.foldl (fun s e => rlxB s z e) s).2 = false → s.2 = false ∧ (es.foldl (fun s e => rlxB s z e) s).1 = s.1
  | [], s, h => ⟨h, rfl⟩
  | e :: es, s, h => by
    rw [List.foldl_cons] at h ⊢
    obtain ⟨a, b⟩ := fold_flag z es _ h
    obtain ⟨c, d⟩ := rlx_flag s z e a
    exact ⟨c, b.trans d⟩
theorem row_bet (s : Tab α × Bool) (st : α × Tab α) : Bet s.1 (rowB s st).1 := by
  unfold rowB
  split
  · exact fold_bet _ _ _
  · exact Bet.refl _
theorem row_flag (s : Tab α × Bool) (st : α × Tab α) : (rowB s st).2 = false → s.2 = false ∧ (rowB s st).1 = s.1 := by
  unfold rowB
  split
  · exact fold_flag _ _ _
  · exact fun h => ⟨h, rfl⟩
theorem rows_bet : ∀ (steps : Stps α) (s : Tab α × Bool), Bet s.1 (steps.foldl rowB s).1
  | [], s => Bet.refl _
  | st :: steps, s => (row_bet s st).trans (rows_bet steps _)
theorem rows_flag : ∀ (steps : Stps α) (s : Tab α × Bool), (steps.foldl rowB s).2 = false → s.2 = false ∧ (steps.foldl rowB s).1 = s.1
  | [], s, h => ⟨h, rfl⟩
  | st :: steps, s, h => by
    rw [List.foldl_cons] at h ⊢
    obtain ⟨a, b⟩ := rows_flag steps _ h
    obtain ⟨c, d⟩ := row_flag s st a
    exact ⟨c, b.trans d⟩
theorem rows_done : ∀ (steps : Stps α) (s : Tab α × Bool) (z y : α) (p : Int), Edge steps z y p → z ∈ s.1.map (·.1) → y ∈ (steps.foldl rowB s).1.map (·.1) ∧ look (steps.foldl rowB s).1 y ≤ look s.1 z + p
  | [], _, _, _, _, ⟨_, h, _⟩, _ => nomatch h
  | st :: steps, s, z, y, p, ⟨es, h, he⟩, hz => by
    rw [List.foldl_cons]
    rcases List.mem_cons.mp h with rfl | h
    · have e : rowB s (z, es) = es.foldl (fun s e => rlxB s z e) s := by
        unfold rowB
        rw [if_pos hz]
      rw [e]
      obtain ⟨a, b⟩ := fold_done z es s hz (y, p) he
      obtain ⟨c, d⟩ := rows_bet steps (es.foldl (fun s e => rlxB s z e) s) y a
      exact ⟨c, Int.le_trans d b⟩
    · obtain ⟨a, b⟩ := row_bet s st z hz
      obtain ⟨c, d⟩ := rows_done steps (rowB s st) z y p ⟨es, h, he⟩ a
      exact ⟨c, by omega⟩
/-- no edge leads to anything better -/
def Shut (steps : Stps α) (f : Tab α) : Prop := ∀ z y p, Edge steps z y p → z ∈ f.map (·.1) → y ∈ f.map (·.1) ∧ look f y ≤ look f z + p
theorem shut_of {steps : Stps α} {f : Tab α} (h : (rndB steps f).2 = false) : Shut steps (rndB steps f).1 := by
  obtain ⟨_, b⟩ := rows_flag steps (f, false) h
  have b : (rndB steps f).1 = f := b
  intro z y p e hz
  rw [b] at hz ⊢
  have := rows_done steps (f, false) z y p e hz
  have b' : (steps.foldl rowB (f, false)).1 = f := b
  rw [b'] at this
  exact this
/-- all walks of at most k edges are reckoned -/
def Upto (steps : Stps α) (w : α) (k : Nat) (f : Tab α) : Prop := ∀ l x c, Wkl steps w l x c → l.length ≤ k → x ∈ f.map (·.1) ∧ look f x ≤ c
theorem upto_next {steps : Stps α} {w : α} {k : Nat} {f : Tab α} (h : Upto steps w k f) (hw : w ∈ f.map (·.1)) (h0 : look f w ≤ 0) : Upto steps w (k + 1) (rndB steps f).1 := by
  intro l x c W hl
  cases W with
  | nil =>
    obtain ⟨a, b⟩ := rows_bet steps (f, false) w hw
    exact ⟨a, Int.le_trans b h0⟩
  | @snoc l z _ c p W e =>
    obtain ⟨a, b⟩ := h l z c W (by simpa using hl)
    obtain ⟨c1, d⟩ := rows_done steps (f, false) z x p e a
    refine ⟨c1, ?_⟩
    have d : look (rndB steps f).1 x ≤ look f z + p := d
    omega
/-- what is found is the cost of a walk -/
def Real (steps : Stps α) (w : α) (f : Tab α) : Prop := ∀ k ∈ f.map (·.1), ∃ l, Wkl steps w l k (look f k)
theorem rlx_real {steps : Stps α} {w : α} {s : Tab α × Bool} {z : α} {e : α × Int} (h : Real steps w s.1) (hz : z ∈ s.1.map (·.1)) (he : Edge steps z e.1 e.2) : Real steps w (rlxB s z e).1 := by
  unfold rlxB
  by_cases c : better s.1 z e
  · rw [if_pos c]
    intro k hk
    show ∃ l, Wkl steps w l k (look (setT s.1 e.1 (look s.1 z + e.2)) k)
    rw [look_setT]
    by_cases q : k = e.1
    · rw [if_pos q, q]
      obtain ⟨l, W⟩ := h z hz
      exact ⟨z :: l, W.snoc he⟩
    · rw [if_neg q]
      exact h k (((keys_setT _ _ _ _).mp hk).resolve_right q)
  · rw [if_neg c]
    exact h
theorem fold_real {steps : Stps α} {w z : α} : ∀ (es : Tab α) (s : Tab α × Bool), (∀ e ∈ es, Edge steps z e.1 e.2) → Real steps w s.1 → z ∈ s.1.map (·.1) → Real steps w (es.foldl (fun s e => rlxB s z e) s).1
  | [], s, _, h, _ => h
  | e :: es, s, he, h, hz => by
    rw [List.foldl_cons]
    exact fold_real es _ (fun e' h' => he e' (List.mem_cons_of_mem _ h')) (rlx_real h hz (he e List.mem_cons_self)) (rlx_bet s z e z hz).1
theorem rows_real {steps : Stps α} {w : α} : ∀ (sts : Stps α) (s : Tab α × Bool), (∀ st ∈ sts, st ∈ steps) → Real steps w s.1 → Real steps w (sts.foldl rowB s).1
  | [], s, _, h => h
  | st :: sts, s, hs, h => by
    rw [List.foldl_cons]
    refine rows_real sts _ (fun x hx => hs x (List.mem_cons_of_mem _ hx)) ?_
    unfold rowB
    by_cases c : st.1 ∈ s.1.map (·.1)
    · rw [if_pos c]
      exact fold_real st.2 s (fun e he => ⟨st.2, hs st List.mem_cons_self, he⟩) h c
    · rw [if_neg c]
      exact h
structure Fit (steps : Stps α) (w : α) (f : Tab α) : Prop where
  real : Real steps w f
  start : w ∈ f.map (·.1) ∧ look f w ≤ 0
theorem Fit.next {steps : Stps α} {w : α} {f : Tab α} (h : Fit steps w f) : Fit steps w (rndB steps f).1 := by
  refine ⟨rows_real steps (f, false) (fun _ h => h) h.real, ?_⟩
  obtain ⟨a, b⟩ := rows_bet steps (f, false) w h.start.1
  exact ⟨a, Int.le_trans b h.start.2⟩
theorem rounds_fit {steps : Stps α} {w : α} : ∀ (n : Nat) (f : Tab α), Fit steps w f → Fit steps w (rounds steps n f)
  | 0, _, h => h
  | n + 1, f, h => by
    unfold rounds
    split
    · exact rounds_fit n _ h.next
    · exact h.next
theorem rounds_end {steps : Stps α} {w : α} : ∀ (n k : Nat) (f : Tab α), Fit steps w f → Upto steps w k f → Shut steps (rounds steps n f) ∨ Upto steps w (k + n) (rounds steps n f)
  | 0, k, f, _, h => .inr h
  | n + 1, k, f, g, h => by
    unfold rounds
    by_cases c : (rndB steps f).2 = true
    · rw [if_pos c]
      have := rounds_end n (k + 1) _ g.next (upto_next h g.start.1 g.start.2)
      rwa [show k + 1 + n = k + (n + 1) by omega] at this
    · rw [if_neg c]
      exact .inl (shut_of (by simpa using c))
theorem rounds_shut {steps : Stps α} {w : α} (hp : ∀ z y p, Edge steps z y p → 0 ≤ p) : Fit steps w (rounds steps steps.length [(w, 0)]) ∧ Shut steps (rounds steps steps.length [(w, 0)]) := by
  have l0 : look [(w, (0 : Int))] w = 0 := by simp [look]
  have f0 : Fit steps w [(w, 0)] := by
    refine ⟨fun k hk => ?_, by simp, by rw [l0]; exact Int.le_refl _⟩
    have : k = w := by simpa using hk
    subst this
    rw [l0]
    exact ⟨[], .nil⟩
  have u0 : Upto steps w 0 [(w, 0)] := fun l x c W hl => by
    cases W with
    | nil => exact ⟨by simp, by rw [l0]; exact Int.le_refl _⟩
    | snoc _ _ => simp at hl
  have F := rounds_fit steps.length _ f0
  refine ⟨F, ?_⟩
  rcases rounds_end steps.length 0 _ f0 u0 with h | h
  · exact h
  · intro z y p e hz
    obtain ⟨l, W⟩ := F.real z hz
    obtain ⟨l', c', W', hc, hl⟩ := (W.snoc e).few hp
    obtain ⟨a, b⟩ := h l' y c' W' (by omega)
    exact ⟨a, Int.le_trans b hc⟩
end
end Mk

set_option Elab.async false
set_option linter.all false
set_option maxRecDepth 100000
set_option maxHeartbeats 1000000
/-! words near words, and the least costs through them -/
namespace Mk
open PySem L2

theorem mk_len {x : Str} (h : x.length = 1) : sgs x = [x] := by
  obtain ⟨a⟩ := x
  obtain ⟨l⟩ := a
  match l, h with
  | [c], _ => rfl
theorem sgs_one {z y : Str} (h : y ∈ sgs z) : y.length = 1 := by
  obtain ⟨c, _, rfl⟩ := List.mem_map.mp h
  rfl
theorem cs_flat (z : Str) : (sgs z).flatMap cs = cs z := by
  unfold sgs
  generalize cs z = l
  induction l with
  | nil => rfl
  | cons c l ih =>
    rw [List.map_cons, List.flatMap_cons, ih]
    rfl
theorem sgs_inj {a b : Str} (h : sgs a = sgs b) : a = b := by
  apply cs_inj
  rw [← cs_flat a, ← cs_flat b, h]
/-- the word of these signs -/
def wd (l : List Str) : Str := ⟨(l.flatMap cs).toArray⟩
theorem sgs_wd : ∀ {l : List Str}, (∀ x ∈ l, x.length = 1) → sgs (wd l) = l
  | [], _ => rfl
  | x :: l, h => by
    have e : wd (x :: l) = x ++ wd l := by
      apply cs_inj
      rw [cs_append]
      simp [wd, cs]
    rw [e, sgs_app, mk_len (h x List.mem_cons_self), sgs_wd fun y hy => h y (List.mem_cons_of_mem _ hy)]
    rfl
theorem wd_sgs (z : Str) : wd (sgs z) = z := sgs_inj (sgs_wd fun _ hy => sgs_one hy)
theorem sgs_length (z : Str) : (sgs z).length = z.length := by
  unfold sgs
  rw [List.length_map]
  rfl
theorem sgs_pre (z : Str) (i : Nat) : sgs (pre z i) = (sgs z).take i := by
  have e : cs (pre z i) = (cs z).take i := by
    unfold pre cutS
    rw [HT.sIx_none, HT.sIx_nat, List.drop_zero, Nat.sub_zero]
    show (z.cps.toList.take (min i z.length)) = _
    have hl : z.length = z.cps.toList.length := rfl
    rw [hl, ← List.take_take, List.take_of_length_le (l := z.cps.toList) (Nat.le_refl _)]
  unfold sgs
  rw [e, List.map_take]
theorem sgs_post (z : Str) (i : Nat) : sgs (post z i) = (sgs z).drop i := by
  have e : cs (post z i) = (cs z).drop i := by
    unfold post cutS
    rw [HT.sIx_none, HT.sIx_nat]
    show ((z.cps.toList.drop (min i z.length)).take (z.length - min i z.length)) = _
    have hl : z.length = z.cps.toList.length := rfl
    rw [hl]
    by_cases h : i ≤ z.cps.toList.length
    · rw [Nat.min_eq_left h, List.take_of_length_le (by rw [List.length_drop]; omega)]
    · rw [Nat.min_eq_right (by omega), List.drop_of_length_le (Nat.le_refl _), List.drop_of_length_le (l := cs z) (by show z.cps.toList.length ≤ i; omega)]
      exact List.take_nil
  unfold sgs
  rw [e, List.map_drop]
theorem sgAt_at {z : Str} {i : Nat} (h : i < (sgs z).length) : (sgs z)[i] = sgAt z i := by
  have h2 : i < (cs z).length := by
    unfold sgs at h
    rwa [List.length_map] at h
  have e : (sgs z)[i]? = some (sgAt z i) := by
    unfold sgs sgAt
    rw [List.getElem?_map, List.getElem?_eq_getElem h2, List.getD_eq_getElem?_getD, List.getElem?_eq_getElem h2]
    rfl
  rw [List.getElem?_eq_getElem h] at e
  exact Option.some.inj e
/-! changed words -/
def insW (w : Str) (i : Nat) (s : Str) : Str := pre w i ++ s ++ post w i
def swpW (w : Str) (i : Nat) (s : Str) : Str := pre w i ++ s ++ post w ((i + 1 : Nat) : Int)
def outW (w : Str) (i : Nat) : Str := pre w i ++ post w ((i + 1 : Nat) : Int)
theorem sgs_ins (w : Str) (i : Nat) {s : Str} (h : s.length = 1) : sgs (insW w i s) = (sgs w).take i ++ s :: (sgs w).drop i := by
  unfold insW
  rw [sgs_app, sgs_app, sgs_pre, sgs_post, mk_len h, List.append_assoc]
  rfl
theorem sgs_swp (w : Str) (i : Nat) {s : Str} (h : s.length = 1) : sgs (swpW w i s) = (sgs w).take i ++ s :: (sgs w).drop (i + 1) := by
  unfold swpW
  rw [sgs_app, sgs_app, sgs_pre, sgs_post, mk_len h, List.append_assoc]
  rfl
theorem sgs_out (w : Str) (i : Nat) : sgs (outW w i) = (sgs w).take i ++ (sgs w).drop (i + 1) := by
  unfold outW
  rw [sgs_app, sgs_pre, sgs_post]
theorem sgs_split {w : Str} {i : Nat} (h : i < (sgs w).length) : sgs w = (sgs w).take i ++ sgAt w i :: (sgs w).drop (i + 1) := by
  rw [← sgAt_at h, List.getElem_cons_drop, List.take_append_drop]
/-- what stands near a word, up to the place i -/
structure NearU (t1 t2 : PTab) (t3 : STab) (zs : List Str) (most : Nat) (w : Str) (i : Nat) (tab : PTab) : Prop where
  sound : ∀ e ∈ tab, (∃ j s, j ≤ w.length ∧ s ∈ zs ∧ w.length < most ∧ e = (insW w j s, look t1 s)) ∨ (∃ j s, j < w.length ∧ s ∈ zs ∧ (sgAt w j, s) ∈ t3.map (·.1) ∧ e = (swpW w j s, look t3 (sgAt w j, s))) ∨ (∃ j, j < w.length ∧ e = (outW w j, look t2 (sgAt w j)))
  ins : ∀ j, j < i → ∀ s ∈ zs, w.length < most → (insW w j s, look t1 s) ∈ tab
  swp : ∀ j, j < i → j < w.length → ∀ s ∈ zs, (sgAt w j, s) ∈ t3.map (·.1) → (swpW w j s, look t3 (sgAt w j, s)) ∈ tab
  out : ∀ j, j < i → j < w.length → (outW w j, look t2 (sgAt w j)) ∈ tab
abbrev Near (t1 t2 : PTab) (t3 : STab) (zs : List Str) (most : Nat) (w : Str) (tab : PTab) : Prop := NearU t1 t2 t3 zs most w (w.length + 1) tab
/-! one change, by its place -/
theorem stp_put {e : Str} {c : Str → Str → Int} {P : Str → Prop} {s : Str} {p : Int} (hs : P s) (h : c e s ≤ p) (r : List Str) : ∀ l : List Str, Stp1 e c P (l ++ r) (l ++ s :: r) p
  | [] => .put hs h
  | _ :: l => .cons (stp_put hs h r l)
theorem stp_out {e : Str} {c : Str → Str → Int} {P : Str → Prop} {s : Str} {p : Int} (hs : P s) (h : c s e ≤ p) (r : List Str) : ∀ l : List Str, Stp1 e c P (l ++ s :: r) (l ++ r) p
  | [] => .out hs h
  | _ :: l => .cons (stp_out hs h r l)
theorem stp_swap {e : Str} {c : Str → Str → Int} {P : Str → Prop} {s t : Str} {p : Int} (hs : P s) (ht : P t) (h : c s t ≤ p) (r : List Str) : ∀ l : List Str, Stp1 e c P (l ++ s :: r) (l ++ t :: r) p
  | [] => .swap hs ht h
  | _ :: l => .cons (stp_swap hs ht h r l)
theorem rev_mid (a b : List Str) (s : Str) : (a ++ s :: b).reverse = b.reverse ++ s :: a.reverse := by
  rw [List.reverse_append, List.reverse_cons, List.append_assoc]
  rfl
section
variable {t1 t2 : PTab} {t3 : STab} {zs : List Str} {most : Nat} {steps : Stps Str}
/-- the words, and what stands near them -/
structure Net (t1 t2 : PTab) (t3 : STab) (zs : List Str) (most : Nat) (steps : Stps Str) : Prop where
  rt : RtT t1 t2 t3
  keys : ∀ z, z ∈ zs ↔ z ∈ t1.map (·.1)
  ws : ∀ w, w ∈ steps.map (·.1) ↔ (∀ x ∈ sgs w, x ∈ zs) ∧ w.length ≤ most
  near : ∀ st ∈ steps, Near t1 t2 t3 zs most st.1 st.2
theorem Net.sg (N : Net t1 t2 t3 zs most steps) {z : Str} (h : z ∈ zs) : z.length = 1 := by
  have := N.rt.ag.sg
  obtain ⟨p, hp, rfl⟩ := List.mem_map.mp ((N.keys z).mp h)
  have := this p hp
  unfold sgB at this
  simp only [Bool.and_eq_true, decide_eq_true_eq] at this
  exact this.1
theorem Net.pl (N : Net t1 t2 t3 zs most steps) {z : Str} (h : z ∈ zs) : z ∈ plc t1 := List.mem_cons_of_mem _ ((N.keys z).mp h)
theorem Net.ne (N : Net t1 t2 t3 zs most steps) {z : Str} (h : z ∈ zs) : z ≠ "" := fun e => em_not N.rt.ag (e ▸ (N.keys z).mp h)
theorem Net.cst (N : Net t1 t2 t3 zs most steps) : Cst ("" : Str) (cc t1 t2 t3) (· ∈ plc t1) :=
  ⟨em_in, (cl_of N.rt).zero, fun x y z hx hy hz => (cl_of N.rt).tri x hx y hy z hz⟩
theorem Net.cput (N : Net t1 t2 t3 zs most steps) {s : Str} (h : s ∈ zs) : cc t1 t2 t3 "" s ≤ look t1 s := by
  have := (cl_of N.rt).le _ em_in _ (N.pl h)
  unfold dd at this
  rwa [if_neg (N.ne h).symm, if_pos rfl] at this
theorem Net.cout (N : Net t1 t2 t3 zs most steps) {s : Str} (h : s ∈ zs) : cc t1 t2 t3 s "" ≤ look t2 s := by
  have := (cl_of N.rt).le _ (N.pl h) _ em_in
  unfold dd at this
  rwa [if_neg (N.ne h), if_neg (N.ne h), if_pos rfl] at this
theorem Net.cswp (N : Net t1 t2 t3 zs most steps) {s t : Str} (h : s ∈ zs) (h' : t ∈ zs) (m : (s, t) ∈ t3.map (·.1)) : cc t1 t2 t3 s t ≤ look t3 (s, t) := by
  have := (cl_of N.rt).le _ (N.pl h) _ (N.pl h')
  obtain ⟨p, hp, e⟩ := List.mem_map.mp m
  have d := (N.rt.ag.pr p hp).2.2
  rw [e] at d
  unfold dd dget at this
  rwa [if_neg d, if_neg (N.ne h), if_neg (N.ne h'), if_pos m] at this
theorem Net.at_ (N : Net t1 t2 t3 zs most steps) {w : Str} (h : ∀ x ∈ sgs w, x ∈ zs) {i : Nat} (hi : i < w.length) : sgAt w i ∈ zs := by
  have h2 : i < (sgs w).length := by rw [sgs_length]; exact hi
  rw [← sgAt_at h2]
  exact h _ (List.getElem_mem h2)
/-- an edge is one change -/
theorem Net.edge (N : Net t1 t2 t3 zs most steps) {z y : Str} {p : Int} (e : Edge steps z y p) : z ∈ steps.map (·.1) ∧ y ∈ steps.map (·.1) ∧ 0 ≤ p ∧ Stp1 ("" : Str) (cc t1 t2 t3) (· ∈ plc t1) (sgs z).reverse (sgs y).reverse p := by
  obtain ⟨es, h1, h2⟩ := e
  have mz : z ∈ steps.map (·.1) := List.mem_map.mpr ⟨_, h1, rfl⟩
  obtain ⟨z1, z2⟩ := (N.ws z).mp mz
  have l1 := sgs_length z
  have bd := N.rt.bds
  refine ⟨mz, ?_⟩
  rcases (N.near _ h1).sound _ h2 with ⟨j, s, hj, hs, hm, e⟩ | ⟨j, s, hj, hs, hk, e⟩ | ⟨j, hj, e⟩
  · cases e
    have e := sgs_ins z j (N.sg hs)
    refine ⟨(N.ws _).mpr ⟨fun x hx => ?_, ?_⟩, Int.le_trans (by decide) (look_b bd.b1 ((N.keys s).mp hs)).1, ?_⟩
    · rw [e] at hx
      rcases List.mem_append.mp hx with hx | hx
      · exact z1 x (List.mem_of_mem_take hx)
      · rcases List.mem_cons.mp hx with rfl | hx
        · exact hs
        · exact z1 x (List.mem_of_mem_drop hx)
    · rw [← sgs_length, e, List.length_append, List.length_cons, List.length_take, List.length_drop]
      show min j (sgs z).length + ((sgs z).length - j + 1) ≤ most
      have hm : z.length < most := hm
      omega
    · rw [e, rev_mid]
      have e2 : (sgs z).reverse = ((sgs z).drop j).reverse ++ ((sgs z).take j).reverse := by rw [← List.reverse_append, List.take_append_drop]
      rw [e2]
      exact stp_put (N.pl hs) (N.cput hs) _ _
  · cases e
    have hj : j < z.length := hj
    have ma := N.at_ z1 hj
    have e := sgs_swp z j (N.sg hs)
    have sp := sgs_split (w := z) (i := j) (by rw [l1]; exact hj)
    refine ⟨(N.ws _).mpr ⟨fun x hx => ?_, ?_⟩, Int.le_trans (by decide) (look_b bd.b3 hk).1, ?_⟩
    · rw [e] at hx
      rcases List.mem_append.mp hx with hx | hx
      · exact z1 x (List.mem_of_mem_take hx)
      · rcases List.mem_cons.mp hx with rfl | hx
        · exact hs
        · exact z1 x (List.mem_of_mem_drop hx)
    · rw [← sgs_length, e, List.length_append, List.length_cons, List.length_take, List.length_drop]
      show min j (sgs z).length + ((sgs z).length - (j + 1) + 1) ≤ most
      omega
    · rw [e, rev_mid]
      have e2 := congrArg List.reverse sp
      rw [rev_mid] at e2
      rw [e2]
      exact stp_swap (N.pl ma) (N.pl hs) (N.cswp ma hs hk) _ _
  · cases e
    have hj : j < z.length := hj
    have ma := N.at_ z1 hj
    have e := sgs_out z j
    have sp := sgs_split (w := z) (i := j) (by rw [l1]; exact hj)
    refine ⟨(N.ws _).mpr ⟨fun x hx => ?_, ?_⟩, Int.le_trans (by decide) (look_b bd.b2 (N.rt.ag.pm.mem_iff.mpr ((N.keys _).mp ma))).1, ?_⟩
    · rw [e] at hx
      rcases List.mem_append.mp hx with hx | hx
      · exact z1 x (List.mem_of_mem_take hx)
      · exact z1 x (List.mem_of_mem_drop hx)
    · rw [← sgs_length, e, List.length_append, List.length_take, List.length_drop]
      omega
    · rw [e, List.reverse_append]
      have e2 := congrArg List.reverse sp
      rw [rev_mid] at e2
      rw [e2]
      exact stp_out (N.pl ma) (N.cout ma) _ _
theorem Net.mem (N : Net t1 t2 t3 zs most steps) {w : Str} (h : w ∈ steps.map (·.1)) : ∀ x ∈ (sgs w).reverse, x ∈ plc t1 := fun x hx => N.pl (((N.ws w).mp h).1 x (List.mem_reverse.mp hx))
theorem Net.low (N : Net t1 t2 t3 zs most steps) {b : Str} (hb : b ∈ steps.map (·.1)) : ∀ {l : List Str} {y : Str} {q : Int}, Wkl steps b l y q → y ∈ steps.map (·.1) ∧ ds t1 t2 t3 b y ≤ q
  | _, _, _, .nil => ⟨hb, (aln_self N.cst (N.mem hb)).ge⟩
  | _, _, _, .snoc (z := z) W e => by
    obtain ⟨m, k⟩ := Net.low N hb W
    obtain ⟨_, my, _, s⟩ := N.edge e
    have := crn_next N.cst (N.mem hb) (N.mem m) s
    refine ⟨my, ?_⟩
    unfold ds at k ⊢
    omega
end
end Mk

set_option Elab.async false
set_option linter.all false
set_option maxRecDepth 100000
set_option maxHeartbeats 1000000
/-! what the rounds find are the costs -/
namespace Mk
open PySem L2

section
variable {t1 t2 : PTab} {t3 : STab} {zs : List Str} {most : Nat} {steps : Stps Str} {f : Tab Str}
/-- the word with these signs, the last one first -/
def wr (l : List Str) : Str := wd l.reverse
theorem sgs_wr {l : List Str} (h : ∀ x ∈ l, x.length = 1) : sgs (wr l) = l.reverse := sgs_wd fun x hx => h x (List.mem_reverse.mp hx)
theorem wr_sgs (z : Str) : wr (sgs z).reverse = z := by
  unfold wr
  rw [List.reverse_reverse]
  exact wd_sgs z
theorem Net.one (N : Net t1 t2 t3 zs most steps) {l : List Str} (h : ∀ x ∈ l, x ∈ zs) : ∀ x ∈ l, x.length = 1 := fun x hx => N.sg (h x hx)
theorem Net.wr_in (N : Net t1 t2 t3 zs most steps) {l : List Str} (h : ∀ x ∈ l, x ∈ zs) (hl : l.length ≤ most) : wr l ∈ steps.map (·.1) := by
  have e := sgs_wr (N.one h)
  refine (N.ws _).mpr ⟨fun x hx => ?_, ?_⟩
  · rw [e] at hx
    exact h x (List.mem_reverse.mp hx)
  · rw [← sgs_length, e, List.length_reverse]
    exact hl
theorem Net.has (N : Net t1 t2 t3 zs most steps) {w : Str} (h : w ∈ steps.map (·.1)) : ∃ tab, (w, tab) ∈ steps ∧ Near t1 t2 t3 zs most w tab := by
  obtain ⟨st, hs, rfl⟩ := List.mem_map.mp h
  exact ⟨st.2, hs, N.near st hs⟩
theorem all_mid {l r : List Str} {s : Str} (hl : ∀ x ∈ l, x ∈ zs) (hr : ∀ x ∈ r, x ∈ zs) (hs : s ∈ zs) : ∀ x ∈ l ++ s :: r, x ∈ zs := fun x hx => by
  rcases List.mem_append.mp hx with hx | hx
  · exact hl x hx
  · rcases List.mem_cons.mp hx with rfl | hx
    · exact hs
    · exact hr x hx
theorem all_app {l r : List Str} (hl : ∀ x ∈ l, x ∈ zs) (hr : ∀ x ∈ r, x ∈ zs) : ∀ x ∈ l ++ r, x ∈ zs := fun x hx => (List.mem_append.mp hx).elim (hl x) (hr x)
/-- the edges around a place -/
theorem Net.e_put (N : Net t1 t2 t3 zs most steps) {l r : List Str} (h : l.length + r.length < most) (hl : ∀ x ∈ l, x ∈ zs) (hr : ∀ x ∈ r, x ∈ zs) {s : Str} (hs : s ∈ zs) : Edge steps (wr (l ++ r)) (wr (l ++ s :: r)) (look t1 s) := by
  have a := all_app hl hr
  obtain ⟨tab, m, nr⟩ := N.has (N.wr_in a (by rw [List.length_append]; omega))
  have e1 := sgs_wr (N.one a)
  have lw : (wr (l ++ r)).length = l.length + r.length := by rw [← sgs_length, e1, List.length_reverse, List.length_append]
  refine ⟨tab, m, ?_⟩
  have := nr.ins r.length (by omega) s hs (by omega)
  have e : insW (wr (l ++ r)) r.length s = wr (l ++ s :: r) := by
    apply sgs_inj
    rw [sgs_ins _ _ (N.sg hs), e1, sgs_wr (N.one (all_mid hl hr hs)), rev_mid, List.reverse_append, List.take_append_of_le_length (by rw [List.length_reverse]; exact Nat.le_refl _), List.take_of_length_le (by rw [List.length_reverse]; exact Nat.le_refl _), List.drop_append_of_le_length (by rw [List.length_reverse]; exact Nat.le_refl _), List.drop_of_length_le (by rw [List.length_reverse]; exact Nat.le_refl _)]
    rfl
  rwa [e] at this
theorem wr_at (N : Net t1 t2 t3 zs most steps) {l r : List Str} (hl : ∀ x ∈ l, x ∈ zs) (hr : ∀ x ∈ r, x ∈ zs) {s : Str} (hs : s ∈ zs) : sgs (wr (l ++ s :: r)) = r.reverse ++ s :: l.reverse ∧ (wr (l ++ s :: r)).length = l.length + r.length + 1 ∧ sgAt (wr (l ++ s :: r)) r.length = s ∧ (sgs (wr (l ++ s :: r))).take r.length = r.reverse ∧ (sgs (wr (l ++ s :: r))).drop (r.length + 1) = l.reverse := by
  have e := sgs_wr (N.one (all_mid hl hr hs))
  rw [rev_mid] at e
  have lr : r.reverse.length = r.length := List.length_reverse
  have ll : l.reverse.length = l.length := List.length_reverse
  have le : (wr (l ++ s :: r)).length = l.length + r.length + 1 := by
    rw [← sgs_length, e, List.length_append, List.length_cons, lr, ll]
    omega
  refine ⟨e, le, ?_, ?_, ?_⟩
  · rw [← sgAt_at (by rw [sgs_length]; omega)]
    have : (sgs (wr (l ++ s :: r)))[r.length]? = some s := by
      rw [e, List.getElem?_append_right (by omega), lr, Nat.sub_self]
      rfl
    rw [List.getElem?_eq_getElem (by rw [sgs_length]; omega)] at this
    exact Option.some.inj this
  · rw [e, List.take_append_of_le_length (by omega), List.take_of_length_le (by omega)]
  · rw [e, List.drop_append, List.drop_of_length_le (by omega), lr, show r.length + 1 - r.length = 1 by omega]
    rfl
theorem Net.e_out (N : Net t1 t2 t3 zs most steps) {l r : List Str} (h : l.length + r.length < most) (hl : ∀ x ∈ l, x ∈ zs) (hr : ∀ x ∈ r, x ∈ zs) {s : Str} (hs : s ∈ zs) : Edge steps (wr (l ++ s :: r)) (wr (l ++ r)) (look t2 s) := by
  obtain ⟨w1, w2, w3, w4, w5⟩ := wr_at N hl hr hs
  obtain ⟨tab, m, nr⟩ := N.has (N.wr_in (all_mid hl hr hs) (by rw [List.length_append, List.length_cons]; omega))
  refine ⟨tab, m, ?_⟩
  have := nr.out r.length (by omega) (by omega)
  have e : outW (wr (l ++ s :: r)) r.length = wr (l ++ r) := by
    apply sgs_inj
    rw [sgs_out, w4, w5, sgs_wr (N.one (all_app hl hr)), List.reverse_append]
  rwa [e, w3] at this
theorem Net.e_swap (N : Net t1 t2 t3 zs most steps) {l r : List Str} (h : l.length + r.length < most) (hl : ∀ x ∈ l, x ∈ zs) (hr : ∀ x ∈ r, x ∈ zs) {s t : Str} (hs : s ∈ zs) (ht : t ∈ zs) (k : (s, t) ∈ t3.map (·.1)) : Edge steps (wr (l ++ s :: r)) (wr (l ++ t :: r)) (look t3 (s, t)) := by
  obtain ⟨w1, w2, w3, w4, w5⟩ := wr_at N hl hr hs
  obtain ⟨tab, m, nr⟩ := N.has (N.wr_in (all_mid hl hr hs) (by rw [List.length_append, List.length_cons]; omega))
  refine ⟨tab, m, ?_⟩
  have := nr.swp r.length (by omega) (by omega) t ht (by rw [w3]; exact k)
  have e : swpW (wr (l ++ s :: r)) r.length t = wr (l ++ t :: r) := by
    apply sgs_inj
    rw [sgs_swp _ _ (N.sg ht), w4, w5, (wr_at N hl hr ht).1]
  rwa [e, w3] at this
/-- all words are found -/
theorem Net.down (N : Net t1 t2 t3 zs most steps) (S : Shut steps f) : ∀ {l : List Str}, (∀ x ∈ l, x ∈ zs) → l.length ≤ most → wr l ∈ f.map (·.1) → wr [] ∈ f.map (·.1)
  | [], _, _, h => h
  | s :: l, hl, hm, h => by
    have hl' : ∀ x ∈ l, x ∈ zs := fun x hx => hl x (List.mem_cons_of_mem _ hx)
    rw [List.length_cons] at hm
    have := (S _ _ _ (N.e_out (l := []) (r := l) (by show 0 + l.length < most; omega) (fun x hx => nomatch hx) hl' (hl s List.mem_cons_self)) h).1
    exact Net.down N S hl' (by omega) this
theorem Net.up (N : Net t1 t2 t3 zs most steps) (S : Shut steps f) (h : wr [] ∈ f.map (·.1)) : ∀ {l : List Str}, (∀ x ∈ l, x ∈ zs) → l.length ≤ most → wr l ∈ f.map (·.1)
  | [], _, _ => h
  | s :: l, hl, hm => by
    have hl' : ∀ x ∈ l, x ∈ zs := fun x hx => hl x (List.mem_cons_of_mem _ hx)
    rw [List.length_cons] at hm
    exact (S _ _ _ (N.e_put (l := []) (r := l) (by show 0 + l.length < most; omega) (fun x hx => nomatch hx) hl' (hl s List.mem_cons_self)) (Net.up N S h hl' (show l.length ≤ most by omega))).1
theorem Net.lets (N : Net t1 t2 t3 zs most steps) (S : Shut steps f) (h : wr [] ∈ f.map (·.1)) : Lets ("" : Str) (cc t1 t2 t3) (· ∈ zs) most (fun l => look f (wr l)) := by
  intro l r hlr hl hr
  have inF : ∀ {k : List Str}, (∀ x ∈ k, x ∈ zs) → k.length ≤ most → wr k ∈ f.map (·.1) := fun a b => N.up S h a b
  have m0 : wr (l ++ r) ∈ f.map (·.1) := inF (all_app hl hr) (by rw [List.length_append]; omega)
  have m1 : ∀ {s : Str}, s ∈ zs → wr (l ++ s :: r) ∈ f.map (·.1) := fun hs => inF (all_mid hl hr hs) (by rw [List.length_append, List.length_cons]; omega)
  have k := (cl_of N.rt).max (fun x => if x = "" then look f (wr (l ++ r)) else look f (wr (l ++ x :: r))) (fun z hz y hy => by
    show (if y = "" then look f (wr (l ++ r)) else look f (wr (l ++ y :: r))) ≤ (if z = "" then look f (wr (l ++ r)) else look f (wr (l ++ z :: r))) + dd t1 t2 t3 z y
    unfold dd
    by_cases e : z = y
    · rw [if_pos e, e]
      omega
    · rw [if_neg e]
      by_cases e1 : z = ""
      · have hy' : y ∈ zs := (N.keys y).mpr (pl_em hy fun c => e (e1.trans c.symm))
        rw [if_pos e1, if_pos e1, if_neg (N.ne hy')]
        exact (S _ _ _ (N.e_put hlr hl hr hy') m0).2
      · have hz' : z ∈ zs := (N.keys z).mpr (pl_em hz e1)
        rw [if_neg e1, if_neg e1]
        have o := S _ _ _ (N.e_out hlr hl hr hz') (m1 hz')
        by_cases e2 : y = ""
        · rw [if_pos e2, if_pos e2]
          exact o.2
        · have hy' : y ∈ zs := (N.keys y).mpr (pl_em hy e2)
          rw [if_neg e2, if_neg e2]
          unfold dget
          by_cases c : (z, y) ∈ t3.map (·.1)
          · rw [if_pos c]
            exact (S _ _ _ (N.e_swap hlr hl hr hz' hy' c) (m1 hz')).2
          · rw [if_neg c]
            have := (S _ _ _ (N.e_put hlr hl hr hy') m0).2
            have := o.2
            omega)
  have k : ∀ z, z ∈ plc t1 → ∀ y, y ∈ plc t1 → (if y = "" then look f (wr (l ++ r)) else look f (wr (l ++ y :: r))) ≤ (if z = "" then look f (wr (l ++ r)) else look f (wr (l ++ z :: r))) + cc t1 t2 t3 z y := k
  refine ⟨fun s hs => ⟨?_, ?_⟩, fun s t hs ht => ?_⟩
  · have := k _ em_in _ (N.pl hs)
    rwa [if_neg (N.ne hs), if_pos rfl] at this
  · have := k _ (N.pl hs) _ em_in
    rwa [if_neg (N.ne hs), if_pos rfl] at this
  · have := k _ (N.pl hs) _ (N.pl ht)
    rwa [if_neg (N.ne hs), if_neg (N.ne ht)] at this
theorem rounds_shut2 {steps : Stps Str} {w : Str} (hp : ∀ z y p, Edge steps z y p → 0 ≤ p) {n : Nat} (hn : steps.length ≤ n) : Fit steps w (rounds steps n [(w, 0)]) ∧ Shut steps (rounds steps n [(w, 0)]) := by
  have l0 : look [(w, (0 : Int))] w = 0 := by simp [look]
  have f0 : Fit steps w [(w, 0)] := by
    refine ⟨fun k hk => ?_, by simp, by rw [l0]; exact Int.le_refl _⟩
    have : k = w := by simpa using hk
    subst this
    rw [l0]
    exact ⟨[], .nil⟩
  have u0 : Upto steps w 0 [(w, 0)] := fun l x c W hl => by
    cases W with
    | nil => exact ⟨by simp, by rw [l0]; exact Int.le_refl _⟩
    | snoc _ _ => simp at hl
  have F := rounds_fit n _ f0
  refine ⟨F, ?_⟩
  rcases rounds_end n 0 _ f0 u0 with h | h
  · exact h
  · intro z y p e hz
    obtain ⟨l, W⟩ := F.real z hz
    obtain ⟨l', c', W', hc, hl⟩ := (W.snoc e).few hp
    obtain ⟨a, b⟩ := h l' y c' W' (by omega)
    exact ⟨a, Int.le_trans b hc⟩
/-- what the rounds find -/
theorem Net.found (N : Net t1 t2 t3 zs most steps) {b : Str} (hb : b ∈ steps.map (·.1)) {n : Nat} (hn : steps.length ≤ n) {w : Str} (hw : w ∈ steps.map (·.1)) :
    w ∈ (rounds steps n [(b, 0)]).map (·.1) ∧ look (rounds steps n [(b, 0)]) w = ds t1 t2 t3 b w := by
  obtain ⟨F, S⟩ := rounds_shut2 (steps := steps) (w := b) (fun z y p e => (N.edge e).2.2.1) hn
  generalize rounds steps n [(b, 0)] = f at F S ⊢
  obtain ⟨b1, b2⟩ := (N.ws b).mp hb
  obtain ⟨w1, w2⟩ := (N.ws w).mp hw
  have rb : ∀ x ∈ (sgs b).reverse, x ∈ zs := fun x hx => b1 x (List.mem_reverse.mp hx)
  have rw' : ∀ x ∈ (sgs w).reverse, x ∈ zs := fun x hx => w1 x (List.mem_reverse.mp hx)
  have lb : (sgs b).reverse.length ≤ most := by rw [List.length_reverse, sgs_length]; exact b2
  have lw : (sgs w).reverse.length ≤ most := by rw [List.length_reverse, sgs_length]; exact w2
  have z0 := N.down S rb lb (by rw [wr_sgs]; exact F.start.1)
  have mw := N.up S z0 rw' lw
  rw [wr_sgs] at mw
  refine ⟨mw, ?_⟩
  have h1 := crn_ge (N.lets S z0) lb lw rb rw'
  have h1 : look f (wr (sgs w).reverse) ≤ look f (wr (sgs b).reverse) + ds t1 t2 t3 b w := h1
  rw [wr_sgs, wr_sgs] at h1
  have h0 := F.start.2
  obtain ⟨l, W⟩ := F.real w mw
  have h2 := (N.low hb W).2
  omega
theorem Net.zero (N : Net t1 t2 t3 zs most steps) {b w : Str} (hb : b ∈ steps.map (·.1)) (hw : w ∈ steps.map (·.1)) : ds t1 t2 t3 b w = 0 ↔ b = w := by
  have bd := N.rt.bds
  have le : ∀ x y, x ∈ plc t1 → y ∈ plc t1 → x ≠ y → 1 ≤ cc t1 t2 t3 x y := fun x y hx hy ne => cl_least N.rt.ag (cl_of N.rt) (m := 1) (by decide) bd.b1 bd.b2 bd.b3 hx hy ne
  have nn : ∀ x y, x ∈ plc t1 → y ∈ plc t1 → 0 ≤ cc t1 t2 t3 x y := fun x y hx hy => by
    by_cases e : x = y
    · rw [e, (cl_of N.rt).zero y hy]
      exact Int.le_refl _
    · exact Int.le_trans (by decide) (le x y hx hy e)
  have q := crn_zero N.cst nn le (u := (sgs b).reverse) (v := (sgs w).reverse) (fun x hx => ⟨N.mem hb x hx, N.ne (((N.ws b).mp hb).1 x (List.mem_reverse.mp hx))⟩) (fun x hx => ⟨N.mem hw x hx, N.ne (((N.ws w).mp hw).1 x (List.mem_reverse.mp hx))⟩)
  unfold ds
  rw [q]
  constructor
  · intro h
    exact sgs_inj (by simpa using congrArg List.reverse h)
  · rintro rfl
    rfl
end
end Mk

set_option Elab.async false
set_option linter.all false
set_option maxRecDepth 100000
set_option maxHeartbeats 1000000
/-! all words of some signs -/
namespace Mk
open PySem PySem.Spec L2 PyProof.Rows

abbrev sWords : Stmt := top 47
abbrev nWords : List Str := ["_law_letters", "_law_most", "_law_found", "_law_level", "_law_turn", "_law_wider", "_law_word", "_law_sign"]
def wide (zs : List Str) (l : List Str) : List Str := l.flatMap fun w => zs.map (w ++ ·)
def lev (zs : List Str) : Nat → List Str
  | 0 => [""]
  | n + 1 => wide zs (lev zs n)
def wds (zs : List Str) : Nat → List Str
  | 0 => [""]
  | n + 1 => wds zs n ++ lev zs (n + 1)
theorem wide_len (zs : List Str) : ∀ l : List Str, (wide zs l).length = l.length * zs.length
  | [] => by
    show 0 = 0 * _
    omega
  | w :: l => by
    unfold wide
    rw [List.flatMap_cons, List.length_append, List.length_map, List.length_cons, Nat.add_mul]
    have := wide_len zs l
    unfold wide at this
    omega
theorem lev_len (zs : List Str) : ∀ n : Nat, (lev zs n).length = zs.length ^ n
  | 0 => rfl
  | n + 1 => by
    unfold lev
    rw [wide_len, lev_len zs n, Nat.pow_succ]
def cnt (k : Nat) : Nat → Nat
  | 0 => 1
  | n + 1 => cnt k n + k ^ (n + 1)
theorem wds_len (zs : List Str) : ∀ n : Nat, (wds zs n).length = cnt zs.length n
  | 0 => rfl
  | n + 1 => by
    unfold wds cnt
    rw [List.length_append, wds_len zs n, lev_len]
theorem lev_mem {zs : List Str} (sg : ∀ z ∈ zs, z.length = 1) : ∀ (n : Nat) (w : Str), w ∈ lev zs n ↔ (∀ x ∈ sgs w, x ∈ zs) ∧ w.length = n
  | 0, w => by
    unfold lev
    rw [List.mem_singleton]
    constructor
    · rintro rfl
      exact ⟨fun x hx => (List.not_mem_nil (show x ∈ [] from hx)).elim, rfl⟩
    · rintro ⟨_, h⟩
      apply sgs_inj
      rw [← sgs_length] at h
      rw [List.length_eq_zero_iff.mp h]
      rfl
  | n + 1, w => by
    unfold lev wide
    rw [List.mem_flatMap]
    constructor
    · rintro ⟨v, hv, hw⟩
      obtain ⟨s, hs, rfl⟩ := List.mem_map.mp hw
      obtain ⟨h1, h2⟩ := (lev_mem sg n v).mp hv
      refine ⟨fun x hx => ?_, ?_⟩
      · rw [sgs_app, mk_len (sg s hs)] at hx
        rcases List.mem_append.mp hx with hx | hx
        · exact h1 x hx
        · rw [List.mem_singleton.mp hx]
          exact hs
      · rw [app_len, h2, sg s hs]
    · rintro ⟨h1, h2⟩
      have hl : (sgs w).length = n + 1 := by rw [sgs_length]; exact h2
      have e := (List.take_append_drop n (sgs w)).symm
      obtain ⟨s, es⟩ : ∃ s, (sgs w).drop n = [s] := by
        have : ((sgs w).drop n).length = 1 := by rw [List.length_drop]; omega
        exact List.length_eq_one_iff.mp this
      rw [es] at e
      have ms : s ∈ zs := h1 s (by rw [e]; simp)
      have m1 : ∀ x ∈ (sgs w).take n, x ∈ zs := fun x hx => h1 x (List.mem_of_mem_take hx)
      have e2 := sgs_wd (l := (sgs w).take n) fun x hx => sg x (m1 x hx)
      refine ⟨wd ((sgs w).take n), (lev_mem sg n _).mpr ⟨fun x hx => ?_, ?_⟩, List.mem_map.mpr ⟨s, ms, ?_⟩⟩
      · rw [e2] at hx
        exact m1 x hx
      · rw [← sgs_length, e2, List.length_take]
        omega
      · apply sgs_inj
        rw [sgs_app, e2, mk_len (sg s ms)]
        exact e.symm
theorem lev_nd {zs : List Str} (sg : ∀ z ∈ zs, z.length = 1) (nd : zs.Nodup) : ∀ n : Nat, (lev zs n).Nodup
  | 0 => by
    unfold lev
    simp
  | n + 1 => by
    unfold lev wide List.Nodup
    rw [List.pairwise_flatMap]
    refine ⟨fun a ha => ?_, List.Pairwise.imp_of_mem (fun {a b} ha hb ne => ?_) (lev_nd sg nd n)⟩
    · rw [List.pairwise_map]
      refine List.Pairwise.imp (fun {x y} n e => n ?_) nd
      have := congrArg cs e
      rw [cs_append, cs_append] at this
      exact cs_inj (List.append_cancel_left this)
    · intro x hx y hy e
      obtain ⟨s, hs, rfl⟩ := List.mem_map.mp hx
      obtain ⟨t, ht, rfl⟩ := List.mem_map.mp hy
      have := congrArg sgs e
      rw [sgs_app, sgs_app, mk_len (sg s hs), mk_len (sg t ht)] at this
      exact ne (sgs_inj (List.append_inj' this rfl).1)
theorem wds_mem {zs : List Str} (sg : ∀ z ∈ zs, z.length = 1) : ∀ (n : Nat) (w : Str), w ∈ wds zs n ↔ (∀ x ∈ sgs w, x ∈ zs) ∧ w.length ≤ n
  | 0, w => by
    have := lev_mem sg 0 w
    unfold wds
    rw [show ([""] : List Str) = lev zs 0 from rfl, this]
    constructor
    · exact fun h => ⟨h.1, by omega⟩
    · exact fun h => ⟨h.1, by omega⟩
  | n + 1, w => by
    unfold wds
    rw [List.mem_append, wds_mem sg n w, lev_mem sg (n + 1) w]
    constructor
    · rintro (h | h)
      · exact ⟨h.1, by omega⟩
      · exact ⟨h.1, by omega⟩
    · rintro ⟨h1, h2⟩
      by_cases c : w.length = n + 1
      · exact .inr ⟨h1, c⟩
      · exact .inl ⟨h1, by omega⟩
theorem wds_nd {zs : List Str} (sg : ∀ z ∈ zs, z.length = 1) (nd : zs.Nodup) : ∀ n : Nat, (wds zs n).Nodup
  | 0 => by
    unfold wds
    simp
  | n + 1 => by
    unfold wds
    refine List.nodup_append.mpr ⟨wds_nd sg nd n, lev_nd sg nd (n + 1), fun x hx y hy e => ?_⟩
    have h1 := ((wds_mem sg n x).mp hx).2
    have h2 := ((lev_mem sg (n + 1) y).mp hy).2
    rw [e] at h1
    omega
/-- one sign and eight, two and four, or three and three -/
def Sz (k m : Nat) : Prop := (k = 1 ∧ m = 8) ∨ (k = 2 ∧ m = 4) ∨ (k = 3 ∧ m = 3)
theorem cnt_mono (k : Nat) : ∀ {n m : Nat}, n ≤ m → cnt k n ≤ cnt k m
  | n, 0, h => by
    have : n = 0 := by omega
    rw [this]
    exact Nat.le_refl _
  | n, m + 1, h => by
    by_cases c : n = m + 1
    · rw [c]
      exact Nat.le_refl _
    · have := cnt_mono k (n := n) (m := m) (by omega)
      show cnt k n ≤ cnt k m + k ^ (m + 1)
      omega
theorem cnt_le {k m n : Nat} (h : Sz k m) (hn : n ≤ m) : cnt k n ≤ 40 := by
  refine Nat.le_trans (cnt_mono k hn) ?_
  rcases h with ⟨rfl, rfl⟩ | ⟨rfl, rfl⟩ | ⟨rfl, rfl⟩ <;> decide
theorem pow_le {k m n : Nat} (h : Sz k m) (hn : n ≤ m) : k ^ n ≤ 40 := by
  have := cnt_le h hn
  cases n with
  | zero => exact Nat.le_trans (by decide : 1 ≤ 40) (Nat.le_refl _)
  | succ n =>
    unfold cnt at this
    omega
def spWords : Sp := fun vs H Q _ => ∃ (S : Addr) (zs : List Str) (m : Nat), vs = [.ref S, .int m] ∧ H S = some (.lst (zs.map V.str)) ∧ (∀ z ∈ zs, z.length = 1) ∧ Sz zs.length m ∧
  ∀ H' W, Same H H' → H W = none → H' W = some (.lst ((wds zs m).map V.str)) → Q (.ref W) H'
section
variable {P : Program} {w : World} {K : PySem.W.Frag} {mg : Str → Option Value} {base : Heap}
theorem scWords : FnScope nWords ["_law_letters", "_law_most"] (defScope sWords) := ⟨rfl, rfl, rfl, by decide +kernel, rfl, by decide +kernel, by decide +kernel⟩
theorem ok_words {f : Addr} {fd : FuncData} (F : Fun K "_law_listed_words" "_law_listed_words" sWords f fd) (B : Bn mg) : FnOk P w K mg base CX0 1 f fd ["_law_letters", "_law_most"] spWords := by
  refine F.ok scWords (fun vs H Q E h => ?_) (fun cdv A outer s H vs Q E hr h => ?_)
  · obtain ⟨S, zs, m, rfl, _⟩ := h
    rfl
  · obtain ⟨S, zs, m, rfl, hS, sg, sz, q⟩ := h
    refine ⟨_, pss_cons (ps_par (i := 2) (j := 3) rfl scWords.nd rfl rfl (by decide) rfl rfl (pa_cons (pe_lst (pa_cons pe_str pa_nil)) (pa_cons (pe_lst (pa_cons pe_str pa_nil)) pa_nil)) (by rfl))
      (pss_cons (ps_for PassesOwn.never rfl (pi_range1 (by rfl) B.range (pa_cons (pv 1) pa_nil)) (pg_name (i := 4) scWords.nd rfl (.inl rfl))
        (pss_cons (ps_set (i := 5) scWords.nd rfl (.inl rfl) (pe_lst pa_nil))
        (pss_cons (ps_for PassesOwn.never rfl (pi_list (pv 3)) (pg_name (i := 6) scWords.nd rfl (.inr rfl))
          (pss_one (ps_set (i := 5) scWords.nd rfl (.inl rfl) (pe_op op_cat (pv 5) (pe_lc (own := [("_law_sign", 7)]) (g := gName 7) (tt := tYes) rfl scWords.nd (pi_list (pv 0)) (blkOk_by (N := nWords) (sc := defScope sWords) (by decide +kernel))
            (fun _ _ _ _ _ => pg_name (i := 7) scWords.nd rfl (Or.inl rfl)) (fun _ _ _ _ _ => pts_nil) (fun _ _ _ _ _ => pe_op op_add_str (pv 6) (pv 7)))))))
        (pss_one (ps_par (i := 2) (j := 3) rfl scWords.nd rfl rfl (by decide) rfl rfl (pa_cons (pe_op op_cat (pv 2) (pv 5)) (pa_cons (pv 5) pa_nil)) (by rfl))))))
      (pss_one (ps_ret (pv 2)))), ?_⟩
    have n1 : 1 ≤ sizeLine := by decide
    have nar : ∀ {n : Nat}, n ≤ 1000 → n ≤ sizeLine := fun h1 => by rw [sizeLine_eq]; omega
    have lt1 : ∀ {n : Nat}, n ≤ 1000 → n < sizeLine := fun h1 => by rw [sizeLine_eq]; omega
    have k3 : zs.length ≤ 3 := by rcases sz with h | h | h <;> omega
    have m8 : m ≤ 8 := by rcases sz with h | h | h <;> omega
    refine ⟨n1, fun a ha => ⟨n1, fun b hb => ⟨_, _, rfl, ?_⟩⟩⟩
    have s0 : Same H (upd (upd H a (.lst [.str ""])) b (.lst [.str ""])) := Same.trans (Same.new ha) (Same.new hb)
    have ea : (upd (upd H a (.lst [.str ""])) b (.lst [.str ""])) a = some (.lst ((wds zs 0).map V.str)) := by
      rw [upd_ne (ne_of_none upd_same hb)]
      exact upd_same
    have eb : (upd (upd H a (.lst [.str ""])) b (.lst [.str ""])) b = some (.lst ((lev zs 0).map V.str)) := upd_same
    generalize upd (upd H a (.lst [.str ""])) b (.lst [.str ""]) = H1 at s0 ea eb ⊢
    have nul : ∀ {H' : Hp} {x : Addr}, Same H H' → H' x = none → H x = none := fun {H' x} s h => by
      cases e : H x with
      | none => rfl
      | some o =>
        have := s _ _ e
        rw [h] at this
        cases this
    refine ⟨_, rfl, _, rfl, by omega, by omega, ?_⟩
    rw [Int.toNat_natCast]
    refine for_range (lo := 0) (n := m) (fun i σ H2 => ∃ F L o4 o5 o6 o7, σ = [some (.ref S), some (.int m), some (.ref F), some (.ref L), o4, o5, o6, o7] ∧ Same H H2 ∧ H F = none ∧ H2 F = some (.lst ((wds zs i).map V.str)) ∧ H2 L = some (.lst ((lev zs i).map V.str))) ?_ ?_ ?_
    · exact ⟨a, b, _, _, _, _, rfl, s0, ha, ea, eb⟩
    · rintro i σ H2 hi ⟨F, L, o4, o5, o6, o7, rfl, s2, F0, eF, eL⟩
      have lw : (wds zs i).length ≤ 40 := by rw [wds_len]; exact cnt_le sz (by omega)
      have ll : (lev zs i).length ≤ 40 := by rw [lev_len]; exact pow_le sz (by omega)
      have lw1 : (wds zs (i + 1)).length ≤ 40 := by rw [wds_len]; exact cnt_le sz (by omega)
      have ll1 : (wide zs (lev zs i)).length ≤ 40 := by
        show (lev zs (i + 1)).length ≤ 40
        rw [lev_len]
        exact pow_le sz (by omega)
      refine ⟨Nat.zero_le _, fun v hv => ?_⟩
      have s3 := Same.trans s2 (Same.new (o := .lst []) hv)
      have eF3 := (Same.new (o := .lst []) hv) _ _ eF
      have eL3 := (Same.new (o := .lst []) hv) _ _ eL
      have eS3 := s3 _ _ hS
      have ev : (upd H2 v (.lst [])) v = some (.lst ((wide zs ((lev zs i).take 0)).map V.str)) := by rw [upd_same]; rfl
      generalize upd H2 v (.lst []) = H3 at s3 eF3 eL3 eS3 ev ⊢
      clear s2 eF eL hv
      refine ⟨_, rfl, L, rfl, ⟨_, SqL.of eL3⟩, for_it (walk_list (K := K) (a := L) (xs := (lev zs i).map V.str)) (fun j σ H4 => ∃ v o6 o7, σ = [some (.ref S), some (.int m), some (.ref F), some (.ref L), some (.int (0 + (i : Nat))), some (.ref v), o6, o7] ∧ Same H3 H4 ∧ H4 v = some (.lst ((wide zs ((lev zs i).take j)).map V.str))) ?_ (fun j σ H4 _ h4 => by obtain ⟨_, _, _, _, s4, _⟩ := h4; exact SqL.of (s4 _ _ eL3)) ?_ ?_⟩
      · exact ⟨v, _, _, rfl, fun _ _ e => e, ev⟩
      · rintro j x σ H4 H5 hj ⟨v, o6, o7, rfl, s4, e4⟩ ⟨rfl, hx⟩
        rw [List.length_map] at hj
        have ex : x = V.str (lev zs i)[j] := by
          rw [List.getElem?_map, List.getElem?_eq_getElem hj] at hx
          exact (Option.some.inj hx).symm
        subst ex
        have nx : wide zs ((lev zs i).take (j + 1)) = wide zs ((lev zs i).take j) ++ zs.map ((lev zs i)[j] ++ ·) := by
          unfold wide
          rw [List.take_add_one, List.getElem?_eq_getElem hj, List.flatMap_append]
          simp
        have hwl : (lev zs i)[j].length = i := by
          exact ((lev_mem sg i _).mp (List.getElem_mem hj)).2
        have lt4 : (wide zs ((lev zs i).take j)).length ≤ 120 := by
          rw [wide_len, List.length_take]
          exact Nat.le_trans (Nat.mul_le_mul (show min j (lev zs i).length ≤ 40 by omega) k3) (by decide)
        rw [nx]
        generalize (lev zs i)[j] = wj at hwl ⊢
        generalize wide zs ((lev zs i).take j) = acc at e4 lt4 ⊢
        refine ⟨_, rfl, _, rfl, S, rfl, ⟨_, SqL.of (s4 _ _ eS3)⟩, fun D hD => lc_it (walk_list (K := K) (a := S) (xs := zs.map V.str)) (fun k H6 => Same H5 H6 ∧ H6 D = some (.lst (((zs.take k).map (wj ++ ·)).map V.str))) ?_ (fun k H6 _ h6 => SqL.of (h6.1 _ _ (s4 _ _ eS3))) ?_ ?_⟩
        · exact ⟨Same.new hD, upd_same⟩
        · rintro k y H6 H7 hk ⟨s6, e6⟩ ⟨rfl, hy⟩
          rw [List.length_map] at hk
          have ey : y = V.str zs[k] := by
            rw [List.getElem?_map, List.getElem?_eq_getElem hk] at hy
            exact (Option.some.inj hy).symm
          subst ey
          have l1 := sg _ (List.getElem_mem hk)
          refine ⟨rfl, _, rfl, _, rfl, wj, zs[k], rfl, rfl, nar (by omega), _, e6, lt1 (by rw [List.length_map, List.length_map, List.length_take]; omega), fun b o e => ?_, ?_⟩
          · rw [upd_ne (ne_of_none e hD)]
            exact s6 _ _ e
          · rw [upd_same, List.take_add_one, List.getElem?_eq_getElem hk, List.map_append, List.map_append]
            rfl
        · rintro H6 ⟨s6, e6⟩
          rw [List.length_map, List.take_length] at e6
          refine ⟨v, D, _, _, rfl, rfl, s6 _ _ e4, e6, ?_, fun u hu0 => ?_⟩
          · rw [List.length_map, List.length_map, List.length_map]
            exact nar (by omega)
          · refine ⟨u, _, _, rfl, fun b o e => ?_, ?_⟩
            · exact (Same.new hu0) _ _ (s6 _ _ (s4 _ _ e))
            · rw [upd_same, List.map_append]
      · rintro σ H4 ⟨v, o6, o7, rfl, s4, e4⟩
        rw [List.length_map, List.take_length] at e4
        refine ⟨_, rfl, _, rfl, F, v, _, _, rfl, rfl, s4 _ _ eF3, e4, ?_, fun u hu0 => ⟨_, rfl, _, _, rfl, ?_⟩⟩
        · rw [List.length_map, List.length_map]
          exact nar (by omega)
        · have s5 := Same.trans s3 s4
          refine ⟨u, v, _, _, _, _, rfl, Same.trans s5 (Same.new hu0), nul s5 hu0, ?_, (Same.new hu0) _ _ e4⟩
          rw [upd_same, ← List.map_append]
          rfl
    · rintro σ H2 ⟨F, L, o4, o5, o6, o7, rfl, s2, F0, eF, eL⟩
      exact ⟨_, rfl, q _ _ s2 F0 eF⟩
end
end Mk

set_option Elab.async false
set_option linter.all false
set_option maxRecDepth 100000
set_option maxHeartbeats 1000000
/-! what is near a word, by the law -/
namespace Mk
open PySem PySem.Spec L2 PyProof.Rows

abbrev sNear : Stmt := top 48
abbrev nNear : List Str := ["_law_table", "_law_word", "_law_most", "_law_found", "_law_at", "_law_one"]
/-- all about the places ahead of i, and at i about these signs -/
structure NearV (t1 t2 : PTab) (t3 : STab) (zs : List Str) (most : Nat) (w : Str) (i : Nat) (ys : List Str) (tab : PTab) : Prop where
  u : NearU t1 t2 t3 zs most w i tab
  ins : ∀ s ∈ ys, w.length < most → (insW w i s, look t1 s) ∈ tab
  swp : i < w.length → ∀ s ∈ ys, (sgAt w i, s) ∈ t3.map (·.1) → (swpW w i s, look t3 (sgAt w i, s)) ∈ tab
section
variable {t1 t2 : PTab} {t3 : STab} {zs : List Str} {most : Nat} {w : Str} {i : Nat} {ys : List Str} {tab : PTab}
theorem NearU.push (N : NearU t1 t2 t3 zs most w i tab) {e : Str × Int} (h : (∃ j s, j ≤ w.length ∧ s ∈ zs ∧ w.length < most ∧ e = (insW w j s, look t1 s)) ∨ (∃ j s, j < w.length ∧ s ∈ zs ∧ (sgAt w j, s) ∈ t3.map (·.1) ∧ e = (swpW w j s, look t3 (sgAt w j, s))) ∨ (∃ j, j < w.length ∧ e = (outW w j, look t2 (sgAt w j)))) : NearU t1 t2 t3 zs most w i (tab ++ [e]) where
  sound := fun x hx => (List.mem_append.mp hx).elim (N.sound x) fun m => by
    rw [List.mem_singleton.mp m]
    exact h
  ins := fun j hj s hs hm => List.mem_append_left _ (N.ins j hj s hs hm)
  swp := fun j hj hw s hs hk => List.mem_append_left _ (N.swp j hj hw s hs hk)
  out := fun j hj hw => List.mem_append_left _ (N.out j hj hw)
theorem NearV.next (N : NearV t1 t2 t3 zs most w i ys tab) (h : ∀ k ∈ zs, k ∈ ys) (o : i < w.length → (outW w i, look t2 (sgAt w i)) ∈ tab) : NearU t1 t2 t3 zs most w (i + 1) tab where
  sound := N.u.sound
  ins := fun j hj s hs hm => by
    by_cases e : j = i
    · rw [e]
      exact N.ins s (h s hs) hm
    · exact N.u.ins j (by omega) s hs hm
  swp := fun j hj hw s hs hk => by
    by_cases e : j = i
    · rw [e] at hw hk ⊢
      exact N.swp hw s (h s hs) hk
    · exact N.u.swp j (by omega) hw s hs hk
  out := fun j hj hw => by
    by_cases e : j = i
    · rw [e] at hw ⊢
      exact o hw
    · exact N.u.out j (by omega) hw
theorem by_wayH6 (Cn : Hp → Prop) {X : Hp → Prop} {G : Prop} (h1 : (∀ H, Cn H → X H) → G) (h2 : ∀ H, Cn H → X H) : G := h1 h2
theorem nearU_nil : NearU t1 t2 t3 zs most w 0 [] := ⟨(fun _ h => nomatch h), fun _ h => absurd h (Nat.not_lt_zero _), fun _ h => absurd h (Nat.not_lt_zero _), fun _ h => absurd h (Nat.not_lt_zero _)⟩
end
def spNear : Sp := fun vs H Q _ => ∃ (L a b c : Addr) (t1 t2 : PTab) (t3 : STab) (z : Str) (m : Nat), vs = [.ref L, .str z, .int m] ∧ Rec H L a b c t1 t2 t3 ∧ RtT t1 t2 t3 ∧ (∀ x ∈ sgs z, x ∈ t1.map (·.1)) ∧ z.length ≤ 8 ∧ t1.length ≤ 3 ∧
  ∀ H' l ts tab, Same H H' → H l = none → H' l = some (.lst (ts.map V.ref)) → Tups H' ts tab → Near t1 t2 t3 (t1.map (·.1)) m z tab → tab.length ≤ 100 → Q (.ref l) H'
section
variable {P : Program} {w : World} {K : PySem.W.Frag} {mg : Str → Option Value} {base : Heap}
theorem scNear : FnScope nNear ["_law_table", "_law_word", "_law_most"] (defScope sNear) := ⟨rfl, rfl, rfl, by decide +kernel, rfl, by decide +kernel, by decide +kernel⟩
theorem ok_near {f : Addr} {fd : FuncData} (F : Fun K "_law_nearby" "_law_nearby" sNear f fd) (B : Bn mg) (O : On mg) : FnOk P w K mg base CX0 1 f fd ["_law_table", "_law_word", "_law_most"] spNear := by
  refine F.ok scNear (fun vs H Q E h => ?_) (fun cdv A outer s H vs Q E hr h => ?_)
  · obtain ⟨L, a, b, c, t1, t2, t3, z, m, rfl, _⟩ := h
    rfl
  · have hu := hu_of hr
    obtain ⟨L, a, b, c, t1, t2, t3, z, m, rfl, r, R, hz, lz, l1, q⟩ := h
    refine ⟨_, pss_cons (ps_set (i := 3) scNear.nd rfl (.inl rfl) (pe_lst pa_nil))
      (pss_cons (ps_for PassesOwn.never rfl (pi_range1 (by rfl) B.range (pa_cons (pe_op op_add (pe_callB call_len_str (by rfl) B.len PySem.boot_len (pa_cons (pv 1) pa_nil)) pe_int) pa_nil)) (pg_name (i := 4) scNear.nd rfl (.inl rfl))
        (pss_cons (ps_for PassesOwn.never rfl (pi_list (pe_callB (call_sortedD rfl) (by rfl) O.sorted (by decide +kernel) (pa_cons (pe_ix ix_list (pv 0) pe_int (fun _ _ => rfl)) pa_nil))) (pg_name (i := 5) scNear.nd rfl (.inl rfl))
          (pss_cons (ps_if (pt_cmpR op_lt (pe_callB call_len_str (by rfl) B.len PySem.boot_len (pa_cons (pv 1) pa_nil)) (pv 2) (nomark _))
            (pss_one (ps_expr (pe_bm PySem.F.plainAttrs_list PySem.F.slot_list_append PySem.F.type_list_append mt_append (pv 3) (pa_cons (pe_tup (pa_cons (pe_op op_add_str (pe_op op_add_str (pe_slice sl_str (pv 1) po_none (po_some (pv 4))) (pv 5)) (pe_slice sl_str (pv 1) (po_some (pv 4)) po_none)) (pa_cons (pe_dget hu (pe_ix ix_list (pv 0) pe_int (fun _ _ => rfl)) (pv 5) (fun _ _ => rfl)) pa_nil))) pa_nil)))) pss_nil)
          (pss_one (ps_if (PW.pt (pw_and (pt_cmpR op_lt (pv 4) (pe_callB call_len_str (by rfl) B.len PySem.boot_len (pa_cons (pv 1) pa_nil)) (nomark _)) (pw_and1 (pt_cmp (pc_din hu (pe_tup (pa_cons (pe_ix ix_str (pv 1) (pv 4) (fun _ _ => rfl)) (pa_cons (pv 5) pa_nil))) (pe_ix ix_list (pv 0) pe_int (fun _ _ => rfl)))))))
            (pss_one (ps_expr (pe_bm PySem.F.plainAttrs_list PySem.F.slot_list_append PySem.F.type_list_append mt_append (pv 3) (pa_cons (pe_tup (pa_cons (pe_op op_add_str (pe_op op_add_str (pe_slice sl_str (pv 1) po_none (po_some (pv 4))) (pv 5)) (pe_slice sl_str (pv 1) (po_some (pe_op op_add (pv 4) pe_int)) po_none)) (pa_cons (pe_dget hu (pe_ix ix_list (pv 0) pe_int (fun _ _ => rfl)) (pe_tup (pa_cons (pe_ix ix_str (pv 1) (pv 4) (fun _ _ => rfl)) (pa_cons (pv 5) pa_nil))) (fun _ _ => rfl)) pa_nil))) pa_nil)))) pss_nil))))
        (pss_one (ps_if (pt_cmpR op_lt (pv 4) (pe_callB call_len_str (by rfl) B.len PySem.boot_len (pa_cons (pv 1) pa_nil)) (nomark _))
            (pss_one (ps_expr (pe_bm PySem.F.plainAttrs_list PySem.F.slot_list_append PySem.F.type_list_append mt_append (pv 3) (pa_cons (pe_tup (pa_cons (pe_op op_add_str (pe_slice sl_str (pv 1) po_none (po_some (pv 4))) (pe_slice sl_str (pv 1) (po_some (pe_op op_add (pv 4) pe_int)) po_none)) (pa_cons (pe_dget hu (pe_ix ix_list (pv 0) pe_int (fun _ _ => rfl)) (pe_ix ix_str (pv 1) (pv 4) (fun _ _ => rfl)) (fun _ _ => rfl)) pa_nil))) pa_nil)))) pss_nil))))
      (pss_one (ps_ret (pv 3)))), ?_⟩
    have nar : ∀ {n : Nat}, n ≤ 1000 → n ≤ sizeLine := fun h1 => by rw [sizeLine_eq]; omega
    have lt1 : ∀ {n : Nat}, n ≤ 1000 → n < sizeLine := fun h1 => by rw [sizeLine_eq]; omega
    have n2 : 2 ≤ sizeLine := by decide
    have zl : z.length ≤ sizeLine := nar (by omega)
    have one : ∀ k ∈ t1.map (·.1), k.length = 1 := fun k hk => by
      obtain ⟨p, hp, rfl⟩ := List.mem_map.mp hk
      have := R.ag.sg p hp
      unfold sgB at this
      simp only [Bool.and_eq_true, decide_eq_true_eq] at this
      exact this.1
    refine ⟨nar (by decide), fun l hl0 => ?_⟩
    have s0 : Same H (upd H l (.lst [])) := Same.new hl0
    have Ll : L ≠ l := ne_of_none r.l hl0
    have al : a ≠ l := ne_of_none r.t.p hl0
    have bl : b ≠ l := ne_of_none r.t.o hl0
    have cl : c ≠ l := ne_of_none r.t.s hl0
    have eL := s0 _ _ r.l
    have ea := s0 _ _ r.t.p
    have eb := s0 _ _ r.t.o
    have ec := s0 _ _ r.t.s
    have el : (upd H l (.lst [])) l = some (.lst []) := upd_same
    generalize upd H l (.lst []) = H0 at s0 eL ea eb ec el ⊢
    refine ⟨_, rfl, z, rfl, zl, _, _, rfl, rfl, _, rfl, by omega, by omega, ?_⟩
    have eN : (((z.length : Nat) : Int) + 1).toNat = z.length + 1 := by omega
    rw [eN]
    refine for_range (lo := 0) (n := z.length + 1) (fun i σ H1 => (∃ o1 o2, σ = [some (.ref L), some (.str z), some (.int m), some (.ref l), o1, o2]) ∧ ∃ tab, Gw H0 H1 l tab ∧ NearU t1 t2 t3 (t1.map (·.1)) m z i tab ∧ tab.length ≤ i * 7) ?_ ?_ ?_
    · exact ⟨⟨_, _, rfl⟩, [], ⟨fun b u _ e => e, [], el, .nil⟩, nearU_nil, Nat.zero_le _⟩
    · rintro i σ H1 hi ⟨⟨o1, o2, rfl⟩, tab, W, N, lt⟩
      rw [Int.zero_add]
      have hi : i < z.length + 1 := hi
      have p1 := pre_len z (i : Int)
      have p2 := post_len z (i : Int)
      have p3 := post_len z ((i : Int) + 1)
      have e1 : ((i : Int) + 1) = ((i + 1 : Nat) : Int) := by omega
      refine ⟨_, rfl, L, _, _, _, rfl, rfl, SqL.of (W.same _ _ Ll eL), atI_nat (j := 0) rfl, a, kvsP t1, t1.map (·.1), rfl, .inl (W.same _ _ al ea), kvsP_keys t1, by rw [List.length_map]; omega, fun ys S pys so hS => ?_⟩
      have lys : ys.length ≤ 3 := by rw [pys.length_eq, List.length_map]; exact l1
      have W1 := W.new (o := .lst (ys.map V.str)) hS
      have Sl : S ≠ l := by
        obtain ⟨ts, g, _⟩ := W.out
        exact (ne_of_none g hS).symm
      have eS : (upd H1 S (.lst (ys.map V.str))) S = some (.lst (ys.map V.str)) := upd_same
      generalize upd H1 S (.lst (ys.map V.str)) = H2 at W1 eS ⊢
      clear W hS
      refine ⟨S, rfl, ⟨_, SqL.of eS⟩, for_it (walk_list (K := K) (a := S) (xs := ys.map V.str)) (fun j σ H3 => (∃ o2, σ = [some (.ref L), some (.str z), some (.int m), some (.ref l), some (.int i), o2]) ∧ H3 S = some (.lst (ys.map V.str)) ∧ ∃ tab, Gw H0 H3 l tab ∧ NearV t1 t2 t3 (t1.map (·.1)) m z i (ys.take j) tab ∧ tab.length ≤ i * 7 + 2 * j) ?_ (fun j σ H3 _ h3 => SqL.of h3.2.1) ?_ ?_⟩
      · exact ⟨⟨_, rfl⟩, eS, tab, W1, ⟨N, (fun _ h => nomatch h), (fun _ _ h => nomatch h)⟩, lt⟩
      · rintro j x σ H3 H4 hj ⟨⟨o2, rfl⟩, eS3, tb, W3, V3, lt3⟩ ⟨rfl, hx⟩
        rw [List.length_map] at hj
        have ex : x = V.str ys[j] := by
          rw [List.getElem?_map, List.getElem?_eq_getElem hj] at hx
          exact (Option.some.inj hx).symm
        subst ex
        have ms : ys[j] ∈ t1.map (·.1) := pys.mem_iff.mp (List.getElem_mem hj)
        have nx : ys.take (j + 1) = ys.take j ++ [ys[j]] := by rw [List.take_add_one, List.getElem?_eq_getElem hj]; rfl
        rw [nx]
        generalize ys[j] = sg at ms ⊢
        have ls := one _ ms
        clear nx hx
        have lt9 : tb.length ≤ 80 := by omega
        have hik : i ≤ z.length := by omega
        refine ⟨_, rfl, z, rfl, zl, _, rfl, _, _, rfl, rfl, _, rfl, ?_⟩
        apply by_wayH6 (fun H5 => H5 S = some (.lst (ys.map V.str)) ∧ ∃ tb5, Gw H0 H5 l tb5 ∧ NearU t1 t2 t3 (t1.map (·.1)) m z i tb5 ∧ (∀ s ∈ ys.take j ++ [sg], z.length < m → (insW z i s, look t1 s) ∈ tb5) ∧ (i < z.length → ∀ s ∈ ys.take j, (sgAt z i, s) ∈ t3.map (·.1) → (swpW z i s, look t3 (sgAt z i, s)) ∈ tb5) ∧ tb5.length ≤ i * 7 + 2 * j + 1)
        · intro hX
          by_cases h : ¬ z.length < m
          · rw [decide_eq_false (by omega : ¬ ((z.length : Nat) : Int) < (m : Int))]
            exact iteF (hX H4 ⟨eS3, tb, W3, V3.u, fun s hs hm => absurd hm h, V3.swp, by omega⟩)
          · have h : z.length < m := Nat.lt_of_not_le fun c => h (Nat.not_lt_of_le c)
            rw [decide_eq_true (by omega : ((z.length : Nat) : Int) < (m : Int))]
            refine iteT ?_
            obtain ⟨ts, g1, g2⟩ := W3.out
            refine ⟨_, rfl, .inl ⟨rfl, _, SqL.of g1⟩, _, rfl, _, rfl, _, rfl, z, rfl, zl, _, rfl, pre z (i : Int), sg, rfl, rfl, nar (by omega), ?_⟩
            refine ⟨_, rfl, _, rfl, _, rfl, z, rfl, zl, pre z (i : Int) ++ sg, post z (i : Int), rfl, rfl, nar (by rw [app_len]; omega), ?_⟩
            refine ⟨_, rfl, L, _, _, _, rfl, rfl, SqL.of (W3.same _ _ Ll eL), atI_nat (j := 0) rfl, _, rfl, a, _, rfl, getP (.inl (W3.same _ _ al ea)) ms, n2, fun t ht => ?_⟩
            obtain ⟨acc, q1, q2, W5⟩ := (W3.new (o := .tup [.str (insW z i sg), .int (look t1 sg)]) ht).push upd_same (.inr fun e => by
              rw [e, g1] at ht
              cases ht)
            refine ⟨l, acc, _, rfl, rfl, q1, lt1 (by rw [q2]; omega), ?_⟩
            have eS5 : (upd (upd H4 t (.tup [.str (insW z i sg), .int (look t1 sg)])) l (.lst (acc ++ [.ref t]))) S = some (.lst (ys.map V.str)) := by
              rw [upd_ne Sl, upd_ne (ne_of_none eS3 ht)]
              exact eS3
            refine hX _ ⟨eS5, _, W5, V3.u.push (.inl ⟨i, sg, hik, ms, h, rfl⟩), fun s hs hm => ?_, fun hw s hs hk => List.mem_append_left _ (V3.swp hw s hs hk), by rw [List.length_append, List.length_singleton]; omega⟩
            rcases List.mem_append.mp hs with hs | hs
            · exact List.mem_append_left _ (V3.ins s hs hm)
            · rw [List.mem_singleton.mp hs]
              exact List.mem_append_right _ (List.mem_singleton.mpr rfl)
        · rintro H5 ⟨eS5, tb5, W5, N5, i5, w5, lt5⟩
          clear W3 V3 eS3 lt3
          refine ⟨_, rfl, _, rfl, z, rfl, zl, _, _, rfl, rfl, _, rfl, ?_⟩
          by_cases hiz : i < z.length
          · rw [decide_eq_true (by omega : (i : Int) < ((z.length : Nat) : Int))]
            have ic : (cs z)[i]? = some ((cs z).getD i 0) := by
              have h : i < (cs z).length := by rw [← len_cs]; exact hiz
              rw [List.getElem?_eq_getElem h, List.getD_eq_getElem?_getD, List.getElem?_eq_getElem h]
              rfl
            refine iteT ⟨_, rfl, _, rfl, z, (i : Int), _, rfl, rfl, zl, atI_nat ic, _, rfl, n2, fun u hu0 => ?_⟩
            have W6 := W5.new (o := .tup [.str (sgAt z i), .str sg]) hu0
            have ec6 := W6.same _ _ cl ec
            have eS6 : (upd H5 u (.tup [.str (sgAt z i), .str sg])) S = some (.lst (ys.map V.str)) := by
              rw [upd_ne (ne_of_none eS5 hu0)]
              exact eS5
            refine ⟨_, rfl, L, _, _, _, rfl, rfl, SqL.of (W6.same _ _ Ll eL), atI_nat (j := 2) rfl, c, _, rfl, .inr ⟨kvsS t3, keyOf (sgAt z i, sg), u, .inl ec6, rfl, upd_same, rfl⟩, _, rfl, ?_⟩
            by_cases mk : (sgAt z i, sg) ∈ t3.map (·.1)
            · rw [valS mk]
              refine iteT ?_
              obtain ⟨ts6, g6, _⟩ := W6.out
              refine ⟨_, rfl, .inl ⟨rfl, _, SqL.of g6⟩, _, rfl, _, rfl, _, rfl, z, rfl, zl, _, rfl, pre z (i : Int), sg, rfl, rfl, nar (by omega), ?_⟩
              refine ⟨_, rfl, _, rfl, _, _, rfl, rfl, _, rfl, z, rfl, zl, pre z (i : Int) ++ sg, post z ((i : Int) + 1), rfl, rfl, nar (by rw [app_len]; omega), ?_⟩
              refine ⟨_, rfl, L, _, _, _, rfl, rfl, SqL.of (W6.same _ _ Ll eL), atI_nat (j := 2) rfl, ?_⟩
              refine ⟨_, rfl, _, rfl, z, (i : Int), _, rfl, rfl, zl, atI_nat ic, _, rfl, n2, fun u2 hu2 => ?_⟩
              have W7 := W6.new (o := .tup [.str (sgAt z i), .str sg]) hu2
              refine ⟨c, _, rfl, .inr ⟨kvsS t3, keyOf (sgAt z i, sg), u2, .inl (W7.same _ _ cl ec), rfl, upd_same, (valS mk).symm⟩, n2, fun u3 hu3 => ?_⟩
              obtain ⟨ts7, g7, _⟩ := W7.out
              obtain ⟨acc, q1, q2, W8⟩ := (W7.new (o := .tup [.str (swpW z i sg), .int (look t3 (sgAt z i, sg))]) hu3).push upd_same (.inr fun e => by
                rw [e, g7] at hu3
                cases hu3)
              refine ⟨l, acc, _, rfl, rfl, q1, lt1 (by rw [q2]; omega), ⟨_, rfl⟩, ?_, _, W8, ⟨N5.push (.inr (.inl ⟨i, sg, hiz, ms, mk, rfl⟩)), fun s hs hm => List.mem_append_left _ (i5 s hs hm), fun hw s hs hk => ?_⟩, by rw [List.length_append, List.length_singleton]; omega⟩
              · have e7 := (Same.new (o := .tup [.str (sgAt z i), .str sg]) hu2) _ _ eS6
                rw [upd_ne Sl, upd_ne (ne_of_none e7 hu3)]
                exact e7
              · rcases List.mem_append.mp hs with hs | hs
                · exact List.mem_append_left _ (w5 hw s hs hk)
                · rw [List.mem_singleton.mp hs]
                  exact List.mem_append_right _ (List.mem_singleton.mpr rfl)
            · rw [noS mk]
              refine iteF ⟨⟨_, rfl⟩, eS6, tb5, W6, ⟨N5, i5, fun hw s hs hk => ?_⟩, by omega⟩
              rcases List.mem_append.mp hs with hs | hs
              · exact w5 hw s hs hk
              · rw [List.mem_singleton.mp hs] at hk
                exact absurd hk mk
          · rw [decide_eq_false (by omega : ¬ (i : Int) < ((z.length : Nat) : Int))]
            exact iteF (iteF ⟨⟨_, rfl⟩, eS5, tb5, W5, ⟨N5, i5, fun hw => absurd hw hiz⟩, by omega⟩)
      · rintro σ H3 ⟨⟨o2, rfl⟩, eS3, tb, W3, V3, lt3⟩
        rw [List.length_map] at lt3 V3
        rw [List.take_length] at V3
        have all : ∀ k ∈ t1.map (·.1), k ∈ ys := fun k hk => pys.mem_iff.mpr hk
        refine ⟨_, rfl, _, rfl, z, rfl, zl, _, _, rfl, rfl, _, rfl, ?_⟩
        by_cases hiz : i < z.length
        · rw [decide_eq_true (by omega : (i : Int) < ((z.length : Nat) : Int))]
          have ic : (cs z)[i]? = some ((cs z).getD i 0) := by
            have h : i < (cs z).length := by rw [← len_cs]; exact hiz
            rw [List.getElem?_eq_getElem h, List.getD_eq_getElem?_getD, List.getElem?_eq_getElem h]
            rfl
          have m1 : sgAt z i ∈ t1.map (·.1) := by
            have h2 : i < (sgs z).length := by rw [sgs_length]; exact hiz
            rw [← sgAt_at h2]
            exact hz _ (List.getElem_mem h2)
          have m2 : sgAt z i ∈ t2.map (·.1) := R.ag.pm.mem_iff.mpr m1
          refine iteT ?_
          obtain ⟨ts, g1, g2⟩ := W3.out
          refine ⟨_, rfl, .inl ⟨rfl, _, SqL.of g1⟩, _, rfl, _, rfl, _, rfl, z, rfl, zl, ?_⟩
          refine ⟨_, rfl, _, rfl, _, _, rfl, rfl, _, rfl, z, rfl, zl, pre z (i : Int), post z ((i : Int) + 1), rfl, rfl, nar (by omega), ?_⟩
          refine ⟨_, rfl, L, _, _, _, rfl, rfl, SqL.of (W3.same _ _ Ll eL), atI_nat (j := 1) rfl, _, rfl, _, rfl, z, (i : Int), _, rfl, rfl, zl, atI_nat ic, b, _, rfl, getP (.inl (W3.same _ _ bl eb)) m2, n2, fun t ht => ?_⟩
          obtain ⟨acc, q1, q2, W5⟩ := (W3.new (o := .tup [.str (outW z i), .int (look t2 (sgAt z i))]) ht).push upd_same (.inr fun e => by
            rw [e, g1] at ht
            cases ht)
          refine ⟨l, acc, _, rfl, rfl, q1, lt1 (by rw [q2]; omega), ⟨_, _, rfl⟩, _, W5, NearV.next ⟨V3.u.push (.inr (.inr ⟨i, hiz, rfl⟩)), fun s hs hm => List.mem_append_left _ (V3.ins s hs hm), fun hw s hs hk => List.mem_append_left _ (V3.swp hw s hs hk)⟩ all fun _ => List.mem_append_right _ (List.mem_singleton.mpr rfl), by rw [List.length_append, List.length_singleton]; omega⟩
        · rw [decide_eq_false (by omega : ¬ (i : Int) < ((z.length : Nat) : Int))]
          exact iteF ⟨⟨_, _, rfl⟩, tb, W3, V3.next all fun hw => absurd hw hiz, by omega⟩
    · rintro σ H1 ⟨⟨o1, o2, rfl⟩, tab, W, N, lt⟩
      obtain ⟨ts, g1, g2⟩ := W.out
      exact ⟨_, rfl, q _ l ts tab (fun b o e => W.same _ _ (ne_of_none e hl0) (s0 _ _ e)) hl0 g1 g2 N (by omega)⟩
end
end Mk

set_option Elab.async false
set_option linter.all false
set_option maxRecDepth 100000
set_option maxHeartbeats 1000000
/-! the law's least costs by rounds -/
namespace Mk
open PySem PySem.Spec L2 PyProof.Rows

abbrev sLq : Stmt := top 0
abbrev nLq : List Str := ["_law_steps", "_law_word", "_law_found", "_law_turn", "_law_is_new", "_law_one", "_law_other", "_law_price"]
def kvsR (l : List (Str × Addr)) : List (Key × V) := l.map fun p => (Sum.inr p.1, V.ref p.2)
/-- a list of words and prices -/
def RowAt (H : Hp) (a : Addr) (tab : PTab) : Prop := ∃ ts : List Addr, H a = some (.lst (ts.map V.ref)) ∧ Tups H ts tab
/-- the steps that the dict at S tells -/
structure Stp (H : Hp) (S : Addr) (l : List (Str × Addr)) (steps : Stps Str) : Prop where
  at_ : H S = some (.dK (kvsR l))
  rows : Paired (fun (p : Str × Addr) (q : Str × PTab) => p.1 = q.1 ∧ RowAt H p.2 q.2) l steps
  nd : (steps.map (·.1)).Nodup
theorem RowAt.keep {H H' : Hp} {a : Addr} {tab : PTab} (h : RowAt H a tab) (k1 : ∀ b xs, H b = some (.lst xs) → H' b = some (.lst xs)) (k2 : ∀ b xs, H b = some (.tup xs) → H' b = some (.tup xs)) : RowAt H' a tab := by
  obtain ⟨ts, e1, e2⟩ := h
  exact ⟨ts, k1 _ _ e1, Tups.keep k2 e2⟩
theorem stp_keys {F : (Str × Addr) → (Str × PTab) → Prop} (hF : ∀ p q, F p q → p.1 = q.1) : ∀ {l : List (Str × Addr)} {steps : Stps Str}, Paired F l steps → l.map (·.1) = steps.map (·.1)
  | _, _, .nil => rfl
  | _, _, .cons h t => by
    rw [List.map_cons, List.map_cons, hF _ _ h, stp_keys hF t]
theorem valR : ∀ {l : List (Str × Addr)}, (l.map (·.1)).Nodup → ∀ {i : Nat} (h : i < l.length), valV (kvsR l) (Sum.inr l[i].1) = some (V.ref l[i].2)
  | [], _, _, h => absurd h (Nat.not_lt_zero _)
  | p :: l, nd, 0, _ => valV_pos rfl
  | p :: l, nd, i + 1, h => by
    rw [List.map_cons, List.nodup_cons] at nd
    have h2 : i < l.length := by simpa using h
    have ne : ¬ (Sum.inr p.1 : Key) = Sum.inr l[i].1 := fun e => nd.1 (by
      rw [Sum.inr.inj e]
      exact List.mem_map.mpr ⟨_, List.getElem_mem h2, rfl⟩)
    have := valR nd.2 h2
    exact (valV_neg ne).trans this
theorem look_app (t : PTab) (k : Str) : (valV (kvsP t) (Sum.inr k)).isSome = decide (k ∈ t.map (·.1)) := by
  by_cases m : k ∈ t.map (·.1)
  · rw [valP m, decide_eq_true m]
    rfl
  · rw [noP m, decide_eq_false m]
    rfl
def spLq : Sp := fun vs H Q _ => ∃ (S : Addr) (l : List (Str × Addr)) (steps : Stps Str) (z : Str) (U : List Str), vs = [.ref S, .str z] ∧ Stp H S l steps ∧ z ∈ U ∧ (∀ st ∈ steps, ∀ e ∈ st.2, e.1 ∈ U) ∧ U.length ≤ 1000 ∧ steps.length ≤ 1000 ∧
  ∀ H' F, Same H H' → H F = none → H' F = some (.dK (kvsP (rounds steps steps.length [(z, 0)]))) → Q (.ref F) H'
/-- the walk's table: its words are among U -/
structure Okt (U : List Str) (f : PTab) : Prop where
  nd : (f.map (·.1)).Nodup
  sub : ∀ k ∈ f.map (·.1), k ∈ U
theorem Okt.len {U : List Str} {f : PTab} (h : Okt U f) : f.length ≤ U.length := by
  have := h.nd.length_le_of_subset (l₂ := U) h.sub
  rwa [List.length_map] at this
theorem Okt.set {U : List Str} {f : PTab} {k : Str} {i : Int} (h : Okt U f) (hk : k ∈ U) : Okt U (setT f k i) := ⟨setT_nd h.nd, fun x hx => ((keys_setT _ _ _ _).mp hx).elim (h.sub x) fun e => e ▸ hk⟩
/-- all but the dict at F stands; it has these costs -/
structure Fw (H0 H1 : Hp) (F : Addr) (U : List Str) (f : PTab) : Prop where
  same : ∀ b o, b ≠ F → H0 b = some o → H1 b = some o
  out : H1 F = some (.dK (kvsP f))
  ok : Okt U f
theorem Fw.set {H0 H1 : Hp} {F : Addr} {U : List Str} {f : PTab} {k : Str} {i : Int} (W : Fw H0 H1 F U f) (hk : k ∈ U) : Fw H0 (upd H1 F (.dK (kvsP (setT f k i)))) F U (setT f k i) := ⟨fun b u n e => by
    rw [upd_ne n]
    exact W.same b u n e, upd_same, W.ok.set hk⟩
section
variable {P : Program} {w : World} {K : PySem.W.Frag} {mg : Str → Option Value} {base : Heap}
end
end Mk

set_option Elab.async false
set_option linter.all false
set_option maxRecDepth 100000
set_option maxHeartbeats 1000000
/-! the law's least costs are the closed ones -/
namespace Mk
open PySem L2

abbrev w1 (k : Nat) : Str := ⟨#[k]⟩
abbrev w2 (k m : Nat) : Str := ⟨#[k, m]⟩
theorem w1_app (k m : Nat) : w1 k ++ w1 m = w2 k m := rfl
theorem pre10 (k : Nat) : pre (w1 k) ((0 : Nat) : Int) = "" := rfl
theorem post11 (k : Nat) : post (w1 k) (((0 : Nat) : Int) + 1) = "" := rfl
theorem pre20 (k m : Nat) : pre (w2 k m) ((0 : Nat) : Int) = "" := rfl
theorem pre21 (k m : Nat) : pre (w2 k m) ((1 : Nat) : Int) = w1 k := rfl
theorem post21 (k m : Nat) : post (w2 k m) (((0 : Nat) : Int) + 1) = w1 m := rfl
theorem post22 (k m : Nat) : post (w2 k m) (((1 : Nat) : Int) + 1) = "" := rfl
theorem pre00 : pre "" ((0 : Nat) : Int) = "" := rfl
theorem post00 : post "" ((0 : Nat) : Int) = "" := rfl
theorem post10 (k : Nat) : post (w1 k) ((0 : Nat) : Int) = w1 k := rfl
theorem pre11 (k : Nat) : pre (w1 k) ((1 : Nat) : Int) = w1 k := rfl
theorem post1e (k : Nat) : post (w1 k) ((1 : Nat) : Int) = "" := rfl
theorem em_app (s : Str) : ("" : Str) ++ s = s := cs_inj (by rw [cs_append]; rfl)
theorem app_em (s : Str) : s ++ ("" : Str) = s := cs_inj (by rw [cs_append]; exact List.append_nil _)
/-- the words of at most two signs -/
def wordsOf (zs : List Str) : List Str := "" :: zs.flatMap fun a => a :: zs.map (a ++ ·)
def stepsOf (t1 t2 : PTab) (t3 : STab) (zs : List Str) : Stps Str := (wordsOf zs).map fun z => (z, bh t1 t2 t3 z)
/-- one change between words of at most two signs -/
inductive Ed (t1 t2 : PTab) (t3 : STab) (ks : List Str) : Str → Str → Int → Prop
  | put0 {m : Nat} : w1 m ∈ ks → Ed t1 t2 t3 ks "" (w1 m) (look t1 (w1 m))
  | out1 {k : Nat} : w1 k ∈ ks → Ed t1 t2 t3 ks (w1 k) "" (look t2 (w1 k))
  | swap1 {k m : Nat} : w1 k ∈ ks → w1 m ∈ ks → (w1 k, w1 m) ∈ t3.map (·.1) → Ed t1 t2 t3 ks (w1 k) (w1 m) (look t3 (w1 k, w1 m))
  | putA {k m : Nat} : w1 k ∈ ks → w1 m ∈ ks → Ed t1 t2 t3 ks (w1 k) (w2 m k) (look t1 (w1 m))
  | putB {k m : Nat} : w1 k ∈ ks → w1 m ∈ ks → Ed t1 t2 t3 ks (w1 k) (w2 k m) (look t1 (w1 m))
  | outA {k m : Nat} : w1 k ∈ ks → w1 m ∈ ks → Ed t1 t2 t3 ks (w2 k m) (w1 m) (look t2 (w1 k))
  | outB {k m : Nat} : w1 k ∈ ks → w1 m ∈ ks → Ed t1 t2 t3 ks (w2 k m) (w1 k) (look t2 (w1 m))
  | swapA {k m j : Nat} : w1 k ∈ ks → w1 m ∈ ks → w1 j ∈ ks → (w1 k, w1 j) ∈ t3.map (·.1) → Ed t1 t2 t3 ks (w2 k m) (w2 j m) (look t3 (w1 k, w1 j))
  | swapB {k m j : Nat} : w1 k ∈ ks → w1 m ∈ ks → w1 j ∈ ks → (w1 m, w1 j) ∈ t3.map (·.1) → Ed t1 t2 t3 ks (w2 k m) (w2 k j) (look t3 (w1 m, w1 j))
section
variable {t1 t2 : PTab} {t3 : STab} {zs : List Str}
theorem one_sign {ks : List Str} (h : ∀ z ∈ ks, sgB z = true) {z : Str} (hz : z ∈ ks) : ∃ k, z = w1 k := by
  have := h z hz
  unfold sgB at this
  simp only [Bool.and_eq_true, decide_eq_true_eq] at this
  exact len_one this.1
theorem in_words {z : Str} (h : z ∈ wordsOf zs) : z = "" ∨ z ∈ zs ∨ ∃ a ∈ zs, ∃ b ∈ zs, z = a ++ b := by
  unfold wordsOf at h
  rcases List.mem_cons.mp h with h | h
  · exact .inl h
  · obtain ⟨a, ha, h⟩ := List.mem_flatMap.mp h
    rcases List.mem_cons.mp h with h | h
    · exact .inr (.inl (h ▸ ha))
    · obtain ⟨b, hb, e⟩ := List.mem_map.mp h
      exact .inr (.inr ⟨a, ha, b, hb, e.symm⟩)
theorem mem_bhA {w : Str} {i : Nat} {e : Str × Int} : e ∈ bhA t1 t2 t3 w i ↔ e = (pre w i ++ post w ((i : Int) + 1), look t2 (sgAt w i)) ∨ ∃ s ∈ t1.map (·.1), (sgAt w i, s) ∈ t3.map (·.1) ∧ e = (pre w i ++ s ++ post w ((i : Int) + 1), look t3 (sgAt w i, s)) := by
  unfold bhA
  rw [List.mem_cons, List.mem_flatMap]
  constructor
  · rintro (h | ⟨s, hs, h⟩)
    · exact .inl h
    · unfold bhS at h
      by_cases c : (sgAt w i, s) ∈ t3.map (·.1)
      · rw [if_pos c] at h
        exact .inr ⟨s, hs, c, List.mem_singleton.mp h⟩
      · rw [if_neg c] at h
        cases h
  · rintro (h | ⟨s, hs, c, h⟩)
    · exact .inl h
    · refine .inr ⟨s, hs, ?_⟩
      unfold bhS
      rw [if_pos c, h]
      exact List.mem_singleton.mpr rfl
theorem mem_bhB {w : Str} {i : Nat} {e : Str × Int} : e ∈ bhB t1 w i ↔ ∃ s ∈ t1.map (·.1), e = (pre w i ++ s ++ post w i, look t1 s) := by
  unfold bhB
  rw [List.mem_map]
  constructor
  · rintro ⟨s, hs, h⟩
    exact ⟨s, hs, h.symm⟩
  · rintro ⟨s, hs, h⟩
    exact ⟨s, hs, h.symm⟩
theorem bh0 {e : Str × Int} : e ∈ bh t1 t2 t3 "" ↔ ∃ s ∈ t1.map (·.1), e = (s, look t1 s) := by
  have h : bh t1 t2 t3 "" = bhB t1 "" 0 := List.append_nil _
  rw [h, mem_bhB]
  refine exists_congr fun s => and_congr_right fun _ => ?_
  rw [pre00, post00, em_app, app_em]
theorem bh1 {k : Nat} {e : Str × Int} : e ∈ bh t1 t2 t3 (w1 k) ↔ e = (("" : Str), look t2 (w1 k)) ∨ (∃ s ∈ t1.map (·.1), (w1 k, s) ∈ t3.map (·.1) ∧ e = (s, look t3 (w1 k, s))) ∨ (∃ s ∈ t1.map (·.1), e = (s ++ w1 k, look t1 s)) ∨ ∃ s ∈ t1.map (·.1), e = (w1 k ++ s, look t1 s) := by
  have h : bh t1 t2 t3 (w1 k) = bhA t1 t2 t3 (w1 k) 0 ++ [] ++ (bhB t1 (w1 k) 0 ++ (bhB t1 (w1 k) 1 ++ [])) := rfl
  have c : sgAt (w1 k) 0 = w1 k := rfl
  rw [h, List.append_nil, List.append_nil, List.mem_append, List.mem_append, mem_bhA, mem_bhB, mem_bhB, pre10, post11, post10, pre11, post1e, c]
  simp only [em_app, app_em, or_assoc]
theorem bh2 {k m : Nat} {e : Str × Int} : e ∈ bh t1 t2 t3 (w2 k m) ↔ e = (w1 m, look t2 (w1 k)) ∨ (∃ s ∈ t1.map (·.1), (w1 k, s) ∈ t3.map (·.1) ∧ e = (s ++ w1 m, look t3 (w1 k, s))) ∨ e = (w1 k, look t2 (w1 m)) ∨ ∃ s ∈ t1.map (·.1), (w1 m, s) ∈ t3.map (·.1) ∧ e = (w1 k ++ s, look t3 (w1 m, s)) := by
  have h : bh t1 t2 t3 (w2 k m) = bhA t1 t2 t3 (w2 k m) 0 ++ (bhA t1 t2 t3 (w2 k m) 1 ++ []) ++ [] := rfl
  have c0 : sgAt (w2 k m) 0 = w1 k := rfl
  have c1 : sgAt (w2 k m) 1 = w1 m := rfl
  rw [h, List.append_nil, List.append_nil, List.mem_append, mem_bhA, mem_bhA, pre20, post21, pre21, post22, c0, c1]
  simp only [em_app, app_em, or_assoc]
theorem ed_of (sg : ∀ z ∈ t1.map (·.1), sgB z = true) (p : ∀ z, z ∈ zs ↔ z ∈ t1.map (·.1)) {z y : Str} {q : Int} (e : Edge (stepsOf t1 t2 t3 zs) z y q) : Ed t1 t2 t3 (t1.map (·.1)) z y q := by
  obtain ⟨es, h1, h2⟩ := e
  unfold stepsOf at h1
  obtain ⟨z', hz, e⟩ := List.mem_map.mp h1
  cases e
  rcases in_words hz with rfl | hz | ⟨a, ha, b, hb, rfl⟩
  · obtain ⟨s, hs, e⟩ := bh0.mp h2
    cases e
    obtain ⟨m, rfl⟩ := one_sign sg hs
    exact .put0 hs
  · have hk := (p z).mp hz
    obtain ⟨k, rfl⟩ := one_sign sg hk
    rcases bh1.mp h2 with e | ⟨s, hs, c, e⟩ | ⟨s, hs, e⟩ | ⟨s, hs, e⟩
    · cases e
      exact .out1 hk
    · cases e
      obtain ⟨m, rfl⟩ := one_sign sg hs
      exact .swap1 hk hs c
    · cases e
      obtain ⟨m, rfl⟩ := one_sign sg hs
      exact .putA hk hs
    · cases e
      obtain ⟨m, rfl⟩ := one_sign sg hs
      exact .putB hk hs
  · have hk := (p a).mp ha
    have hm := (p b).mp hb
    obtain ⟨k, rfl⟩ := one_sign sg hk
    obtain ⟨m, rfl⟩ := one_sign sg hm
    rcases bh2.mp h2 with e | ⟨s, hs, c, e⟩ | e | ⟨s, hs, c, e⟩
    · cases e
      exact .outA hk hm
    · cases e
      obtain ⟨j, rfl⟩ := one_sign sg hs
      exact .swapA hk hm hs c
    · cases e
      exact .outB hk hm
    · cases e
      obtain ⟨j, rfl⟩ := one_sign sg hs
      exact .swapB hk hm hs c
theorem to_edge {z y : Str} {q : Int} (hz : z ∈ wordsOf zs) (h : (y, q) ∈ bh t1 t2 t3 z) : Edge (stepsOf t1 t2 t3 zs) z y q := ⟨_, List.mem_map.mpr ⟨z, hz, rfl⟩, h⟩
/-- a number that no walk goes below -/
def pot (c : Str → Str → Int) (x z : Str) : Int := match z.cps.toList with
  | [] => c x ""
  | [k] => c x (w1 k)
  | [k, m] => min (c x (w1 k) + c "" (w1 m)) (c "" (w1 k) + c x (w1 m))
  | _ => 0
theorem pot0 (c : Str → Str → Int) (x : Str) : pot c x "" = c x "" := rfl
theorem pot1 (c : Str → Str → Int) (x : Str) (k : Nat) : pot c x (w1 k) = c x (w1 k) := rfl
theorem pot2 (c : Str → Str → Int) (x : Str) (k m : Nat) : pot c x (w2 k m) = min (c x (w1 k) + c "" (w1 m)) (c "" (w1 k) + c x (w1 m)) := rfl
theorem cl_swap {c : Str → Str → Int} (a : Agree t1 t2 t3) (h : IsCl (plc t1) (dd t1 t2 t3) c) {x y : Str} (m : (x, y) ∈ t3.map (·.1)) : c x y ≤ look t3 (x, y) := by
  obtain ⟨q, hq, e⟩ := List.mem_map.mp m
  have := a.pr q hq
  rw [e] at this
  obtain ⟨h1, h2, h3⟩ := this
  have h1 : x ∈ t1.map (·.1) := h1
  have h2 : y ∈ t1.map (·.1) := h2
  have n1 : x ≠ "" := fun e => em_not a (e ▸ h1)
  have n2 : y ≠ "" := fun e => em_not a (e ▸ h2)
  have l := h.le x (List.mem_cons_of_mem _ h1) y (List.mem_cons_of_mem _ h2)
  unfold dd dget at l
  rwa [if_neg h3, if_neg n1, if_neg n2, if_pos m] at l
theorem pot_ed {c : Str → Str → Int} (R : RtT t1 t2 t3) (h : IsCl (plc t1) (dd t1 t2 t3) c) {x : Str} (hx : x ∈ plc t1) {z y : Str} {q : Int} (e : Ed t1 t2 t3 (t1.map (·.1)) z y q) : pot c x y ≤ pot c x z + q := by
  have a := R.ag
  have pl : ∀ {z : Str}, z ∈ t1.map (·.1) → z ∈ plc t1 := fun hz => List.mem_cons_of_mem _ hz
  have tri : ∀ {u v w : Str}, u ∈ plc t1 → v ∈ plc t1 → w ∈ plc t1 → c u v ≤ c u w + c w v := fun hu hv hw => h.tri _ hu _ hv _ hw
  have e0 : ("" : Str) ∈ plc t1 := em_in
  cases e with
  | put0 hm =>
    rw [pot0, pot1]
    have := tri hx (pl hm) e0
    have := cl_put a h hm
    omega
  | out1 hk =>
    rw [pot0, pot1]
    have := tri hx e0 (pl hk)
    have := cl_out a h hk
    omega
  | swap1 hk hm s =>
    rw [pot1, pot1]
    have := tri hx (pl hm) (pl hk)
    have := cl_swap a h s
    omega
  | putA hk hm =>
    rw [pot2, pot1]
    have := cl_put a h hm
    omega
  | putB hk hm =>
    rw [pot2, pot1]
    have := cl_put a h hm
    omega
  | @outA k m hk hm =>
    rw [pot2, pot1]
    have t1 := tri hx (pl hm) (pl hk)
    have t2 := tri (pl hk) (pl hm) e0
    have := cl_out a h hk
    have n1 : 0 ≤ c (w1 k) "" := Int.le_trans (by decide) (cl_least a h (m := 1) (by decide) R.bds.b1 R.bds.b2 R.bds.b3 (pl hk) e0 (fun e => em_not a (e ▸ hk)))
    have n2 : 0 ≤ c "" (w1 k) := Int.le_trans (by decide) (cl_least a h (m := 1) (by decide) R.bds.b1 R.bds.b2 R.bds.b3 e0 (pl hk) (fun e => em_not a (e ▸ hk)))
    omega
  | @outB k m hk hm =>
    rw [pot2, pot1]
    have t1 := tri hx (pl hk) (pl hm)
    have t2 := tri (pl hm) (pl hk) e0
    have := cl_out a h hm
    have n1 : 0 ≤ c (w1 m) "" := Int.le_trans (by decide) (cl_least a h (m := 1) (by decide) R.bds.b1 R.bds.b2 R.bds.b3 (pl hm) e0 (fun e => em_not a (e ▸ hm)))
    have n2 : 0 ≤ c "" (w1 m) := Int.le_trans (by decide) (cl_least a h (m := 1) (by decide) R.bds.b1 R.bds.b2 R.bds.b3 e0 (pl hm) (fun e => em_not a (e ▸ hm)))
    omega
  | swapA hk hm hj s =>
    rw [pot2, pot2]
    have t1 := tri hx (pl hj) (pl hk)
    have t2 := tri e0 (pl hj) (pl hk)
    have := cl_swap a h s
    omega
  | swapB hk hm hj s =>
    rw [pot2, pot2]
    have t1 := tri hx (pl hj) (pl hm)
    have t2 := tri e0 (pl hj) (pl hm)
    have := cl_swap a h s
    omega
theorem ed_ge (R : RtT t1 t2 t3) {z y : Str} {q : Int} (e : Ed t1 t2 t3 (t1.map (·.1)) z y q) : 0 ≤ q := by
  have b := R.bds
  have l1 : ∀ {s : Str}, s ∈ t1.map (·.1) → 0 ≤ look t1 s := fun h => Int.le_trans (by decide) (look_b b.b1 h).1
  have l2 : ∀ {s : Str}, s ∈ t1.map (·.1) → 0 ≤ look t2 s := fun h => Int.le_trans (by decide) (look_b b.b2 (R.ag.pm.mem_iff.mpr h)).1
  have l3 : ∀ {s : Str × Str}, s ∈ t3.map (·.1) → 0 ≤ look t3 s := fun h => Int.le_trans (by decide) (look_b b.b3 h).1
  cases e with
  | put0 h => exact l1 h
  | out1 h => exact l2 h
  | swap1 _ _ h => exact l3 h
  | putA _ h => exact l1 h
  | putB _ h => exact l1 h
  | outA h _ => exact l2 h
  | outB _ h => exact l2 h
  | swapA _ _ _ h => exact l3 h
  | swapB _ _ _ h => exact l3 h
theorem pot_walk {c : Str → Str → Int} (R : RtT t1 t2 t3) (h : IsCl (plc t1) (dd t1 t2 t3) c) (p : ∀ z, z ∈ zs ↔ z ∈ t1.map (·.1)) (sg : ∀ z ∈ t1.map (·.1), sgB z = true) {x : Str} (hx : x ∈ plc t1) (px : pot c x x = c x x) : ∀ {l : List Str} {y : Str} {q : Int}, Wkl (stepsOf t1 t2 t3 zs) x l y q → pot c x y ≤ q
  | _, _, _, .nil => by rw [px, h.zero x hx]; exact Int.le_refl _
  | _, _, _, .snoc w e => by
    have a := pot_walk R h p sg hx px w
    have b := pot_ed R h hx (ed_of sg p e)
    omega
/-- what is found is the closed cost -/
theorem found_cl {c : Str → Str → Int} (R : RtT t1 t2 t3) (h : IsCl (plc t1) (dd t1 t2 t3) c) (p : ∀ z, z ∈ zs ↔ z ∈ t1.map (·.1)) {x y : Str} (hx : x ∈ plc t1) (hy : y ∈ plc t1) :
    y ∈ (rounds (stepsOf t1 t2 t3 zs) (stepsOf t1 t2 t3 zs).length [(x, 0)]).map (·.1) ∧ look (rounds (stepsOf t1 t2 t3 zs) (stepsOf t1 t2 t3 zs).length [(x, 0)]) y = c x y := by
  have a := R.ag
  have sg : ∀ z ∈ t1.map (·.1), sgB z = true := fun z hz => by
    obtain ⟨q, hq, e⟩ := List.mem_map.mp hz
    rw [← e]
    exact a.sg q hq
  have hp : ∀ z y p', Edge (stepsOf t1 t2 t3 zs) z y p' → 0 ≤ p' := fun z y p' e => ed_ge R (ed_of sg p e)
  obtain ⟨F, S⟩ := rounds_shut (w := x) hp
  generalize rounds (stepsOf t1 t2 t3 zs) (stepsOf t1 t2 t3 zs).length [(x, 0)] = f at F S ⊢
  have w0 : ("" : Str) ∈ wordsOf zs := List.mem_cons_self
  have ws : ∀ {s : Str}, s ∈ t1.map (·.1) → s ∈ wordsOf zs := fun {s} hs => List.mem_cons_of_mem _ (List.mem_flatMap.mpr ⟨s, (p s).mpr hs, List.mem_cons_self⟩)
  have eput : ∀ {s : Str}, s ∈ t1.map (·.1) → Edge (stepsOf t1 t2 t3 zs) "" s (look t1 s) := fun {s} hs => to_edge w0 (bh0.mpr ⟨s, hs, rfl⟩)
  have eout : ∀ {s : Str}, s ∈ t1.map (·.1) → Edge (stepsOf t1 t2 t3 zs) s "" (look t2 s) := fun {s} hs => by
    obtain ⟨k, rfl⟩ := one_sign sg hs
    exact to_edge (ws hs) (bh1.mpr (.inl rfl))
  have eswap : ∀ {s t : Str}, s ∈ t1.map (·.1) → t ∈ t1.map (·.1) → (s, t) ∈ t3.map (·.1) → Edge (stepsOf t1 t2 t3 zs) s t (look t3 (s, t)) := fun {s t} hs ht m => by
    obtain ⟨k, rfl⟩ := one_sign sg hs
    exact to_edge (ws hs) (bh1.mpr (.inr (.inl ⟨t, ht, m, rfl⟩)))
  have all0 : ("" : Str) ∈ f.map (·.1) := by
    by_cases e : x = ""
    · rw [← e]
      exact F.start.1
    · exact (S _ _ _ (eout (pl_em hx e)) F.start.1).1
  have all : ∀ z ∈ plc t1, z ∈ f.map (·.1) := fun z hz => by
    by_cases e : z = ""
    · rw [e]
      exact all0
    · exact (S _ _ _ (eput (pl_em hz e)) all0).1
  refine ⟨all y hy, ?_⟩
  have px : pot c x x = c x x := by
    by_cases e : x = ""
    · rw [e]
      rfl
    · obtain ⟨k, rfl⟩ := one_sign sg (pl_em hx e)
      rfl
  have py : pot c x y = c x y := by
    by_cases e : y = ""
    · rw [e]
      rfl
    · obtain ⟨k, rfl⟩ := one_sign sg (pl_em hy e)
      rfl
  obtain ⟨l, W⟩ := F.real y (all y hy)
  have lo := pot_walk R h p sg hx px W
  rw [py] at lo
  obtain ⟨l2, W2⟩ := F.real x F.start.1
  have x0 := pot_walk R h p sg hx px W2
  rw [px, h.zero x hx] at x0
  have hi := h.max (fun z => look f z) (fun z hz y hy => by
    show look f y ≤ look f z + dd t1 t2 t3 z y
    unfold dd
    by_cases e0 : z = y
    · rw [if_pos e0, e0]
      omega
    · rw [if_neg e0]
      by_cases e1 : z = ""
      · rw [if_pos e1, e1]
        exact (S _ _ _ (eput (pl_em hy fun e => e0 (e1.trans e.symm))) all0).2
      · rw [if_neg e1]
        have hz' := pl_em hz e1
        by_cases e2 : y = ""
        · rw [if_pos e2, e2]
          exact (S _ _ _ (eout hz') (all z hz)).2
        · rw [if_neg e2]
          have hy' := pl_em hy e2
          unfold dget
          by_cases m : (z, y) ∈ t3.map (·.1)
          · rw [if_pos m]
            exact (S _ _ _ (eswap hz' hy' m) (all z hz)).2
          · rw [if_neg m]
            have a1 := (S _ _ _ (eout hz') (all z hz)).2
            have a2 := (S _ _ _ (eput hy') all0).2
            omega) x hx y hy
  have hi : look f y ≤ look f x + c x y := hi
  have := F.start.2
  omega
end
end Mk

set_option Elab.async false
set_option linter.all false
set_option maxRecDepth 100000
set_option maxHeartbeats 1000000
/-! the words of at most two signs -/
namespace Mk
open PySem L2
/-- words behind the empty one -/
def wl (zs ks : List Str) : List Str := "" :: ks.flatMap fun a => a :: zs.map (a ++ ·)
theorem wl_take (zs ks : List Str) {i : Nat} (h : i < ks.length) : wl zs (ks.take (i + 1)) = wl zs (ks.take i) ++ [ks[i]] ++ zs.map (ks[i] ++ ·) := by
  unfold wl
  rw [List.take_add_one, List.getElem?_eq_getElem h, List.flatMap_append]
  simp
theorem wl_len (zs ks : List Str) : (wl zs ks).length = 1 + ks.length * (1 + zs.length) := by
  unfold wl
  rw [List.length_cons]
  have : (ks.flatMap fun a => a :: zs.map (a ++ ·)).length = ks.length * (1 + zs.length) := by
    induction ks with
    | nil => simp
    | cons k ks ih =>
      rw [List.flatMap_cons, List.length_append, ih, List.length_cons, List.length_cons, List.length_map, Nat.add_mul]
      omega
  omega
section
variable {zs : List Str}
theorem words_len (sg : ∀ z ∈ zs, sgB z = true) {z : Str} (h : z ∈ wordsOf zs) : z.length ≤ 2 := by
  rcases in_words h with rfl | h | ⟨a, ha, b, hb, rfl⟩
  · decide
  · obtain ⟨k, rfl⟩ := one_sign sg h
    show 1 ≤ 2
    decide
  · obtain ⟨k, rfl⟩ := one_sign sg ha
    obtain ⟨m, rfl⟩ := one_sign sg hb
    show 2 ≤ 2
    decide
theorem words_at (sg : ∀ z ∈ zs, sgB z = true) {z : Str} (h : z ∈ wordsOf zs) {i : Nat} (hi : i < z.length) : sgAt z i ∈ zs := by
  rcases in_words h with rfl | h | ⟨a, ha, b, hb, rfl⟩
  · exact absurd hi (Nat.not_lt_zero _)
  · obtain ⟨k, rfl⟩ := one_sign sg h
    have hi : i < 1 := hi
    obtain rfl : i = 0 := by omega
    exact h
  · obtain ⟨k, rfl⟩ := one_sign sg ha
    obtain ⟨m, rfl⟩ := one_sign sg hb
    have hi : i < 2 := hi
    rcases (show i = 0 ∨ i = 1 by omega) with rfl | rfl
    · exact ha
    · exact hb
theorem words_nd (sg : ∀ z ∈ zs, sgB z = true) (nd : zs.Nodup) : (wordsOf zs).Nodup := by
  unfold wordsOf
  rw [List.nodup_cons]
  constructor
  · intro m
    obtain ⟨a, ha, m⟩ := List.mem_flatMap.mp m
    obtain ⟨k, rfl⟩ := one_sign sg ha
    rcases List.mem_cons.mp m with m | m
    · exact absurd (congrArg Str.length m) (by show ¬ (0 : Nat) = 1; decide)
    · obtain ⟨b, hb, e⟩ := List.mem_map.mp m
      obtain ⟨j, rfl⟩ := one_sign sg hb
      exact absurd (congrArg Str.length e) (by show ¬ (2 : Nat) = 0; decide)
  · unfold List.Nodup
    rw [List.pairwise_flatMap]
    refine ⟨fun a ha => ?_, List.Pairwise.imp_of_mem (fun {a b} ha hb ne => ?_) nd⟩
    · obtain ⟨k, rfl⟩ := one_sign sg ha
      rw [List.pairwise_cons]
      refine ⟨fun y hy e => ?_, ?_⟩
      · obtain ⟨b, hb, e2⟩ := List.mem_map.mp hy
        obtain ⟨j, rfl⟩ := one_sign sg hb
        rw [← e] at e2
        exact absurd (congrArg Str.length e2) (by show ¬ (2 : Nat) = 1; decide)
      · rw [List.pairwise_map]
        refine List.Pairwise.imp (fun {x y} n e => n ?_) nd
        have := congrArg cs e
        rw [cs_append, cs_append] at this
        exact cs_inj (List.append_cancel_left this)
    · obtain ⟨k, rfl⟩ := one_sign sg ha
      obtain ⟨j, rfl⟩ := one_sign sg hb
      have hd : ∀ {k : Nat} {x : Str}, x ∈ (w1 k :: zs.map (w1 k ++ ·)) → (cs x).head? = some k := fun {k x} h => by
        rcases List.mem_cons.mp h with rfl | h
        · rfl
        · obtain ⟨b, _, rfl⟩ := List.mem_map.mp h
          rw [cs_append]
          rfl
      intro x hx y hy e
      have h1 := hd hx
      have h2 := hd hy
      rw [e, h2] at h1
      cases h1
      exact ne rfl
theorem ed_in {t1 t2 : PTab} {t3 : STab} (p : ∀ z, z ∈ zs ↔ z ∈ t1.map (·.1)) {z y : Str} {q : Int} (e : Ed t1 t2 t3 (t1.map (·.1)) z y q) : y ∈ wordsOf zs := by
  have s1 : ∀ {k : Nat}, w1 k ∈ t1.map (·.1) → w1 k ∈ wordsOf zs := fun h => List.mem_cons_of_mem _ (List.mem_flatMap.mpr ⟨_, (p _).mpr h, List.mem_cons_self⟩)
  have s2 : ∀ {k m : Nat}, w1 k ∈ t1.map (·.1) → w1 m ∈ t1.map (·.1) → w2 k m ∈ wordsOf zs := fun {k m} h h' => List.mem_cons_of_mem _ (List.mem_flatMap.mpr ⟨_, (p _).mpr h, List.mem_cons_of_mem _ (List.mem_map.mpr ⟨w1 m, (p _).mpr h', rfl⟩)⟩)
  cases e with
  | put0 h => exact s1 h
  | out1 h => exact List.mem_cons_self
  | swap1 _ h _ => exact s1 h
  | putA h h' => exact s2 h' h
  | putB h h' => exact s2 h h'
  | outA _ h => exact s1 h
  | outB h _ => exact s1 h
  | swapA _ h h' _ => exact s2 h' h
  | swapB h _ h' _ => exact s2 h h'
end
theorem steps_keys (t1 t2 : PTab) (t3 : STab) (zs : List Str) : (stepsOf t1 t2 t3 zs).map (·.1) = wordsOf zs := by
  unfold stepsOf
  rw [List.map_map]
  exact List.map_id _
theorem steps_len (t1 t2 : PTab) (t3 : STab) (zs : List Str) : (stepsOf t1 t2 t3 zs).length = (wordsOf zs).length := by
  unfold stepsOf
  rw [List.length_map]
theorem rows_of {H : Hp} {t1 t2 : PTab} {t3 : STab} : ∀ {l : List (Str × Addr)}, (∀ p ∈ l, RowAt H p.2 (bh t1 t2 t3 p.1)) → Paired (fun (p : Str × Addr) (q : Str × PTab) => p.1 = q.1 ∧ RowAt H p.2 q.2) l ((l.map (·.1)).map fun z => (z, bh t1 t2 t3 z))
  | [], _ => .nil
  | p :: l, h => .cons ⟨rfl, h p List.mem_cons_self⟩ (rows_of fun q hq => h q (List.mem_cons_of_mem _ hq))
end Mk

set_option Elab.async false
set_option linter.all false
set_option maxRecDepth 100000
set_option maxHeartbeats 2000000
/-! the law's closed tables -/
namespace Mk
open PySem PySem.Spec L2 PyProof.Rows

abbrev sLcl : Stmt := top 0
abbrev nLcl : List Str := ["_law_tables_here", "_law_signs_here", "_law_words", "_law_one", "_law_steps", "_law_costs_here", "_law_swaps", "_law_puts", "_law_other", "_law_word", "_law_sign"]
theorem merge_nd : ∀ (b a : List (Key × V)), ((a ++ b).map (·.1)).Nodup → mergeK a b = a ++ b
  | [], a, _ => by rw [List.append_nil]; rfl
  | p :: b, a, h => by
    show mergeK (L2.putK a p.1 p.2) b = _
    have n : p.1 ∉ a.map (·.1) := fun m => by
      rw [List.map_append, List.map_cons] at h
      exact (List.nodup_append.mp h).2.2 _ m _ List.mem_cons_self rfl
    have e0 : L2.putK a p.1 p.2 = a ++ [p] := by
      unfold L2.putK
      rw [if_neg]
      intro c
      obtain ⟨q, hq, e⟩ := List.any_eq_true.mp c
      exact n (List.mem_map.mpr ⟨q, hq, of_decide_eq_true e⟩)
    have e : a ++ [p] ++ b = a ++ p :: b := by simp
    rw [e0, merge_nd b (a ++ [p]) (by rw [e]; exact h), e]
theorem kvsR_nd {l : List (Str × Addr)} (h : (l.map (·.1)).Nodup) : ((kvsR l).map (·.1)).Nodup := by
  have e : (kvsR l).map (·.1) = (l.map (·.1)).map Sum.inr := by
    unfold kvsR
    rw [List.map_map, List.map_map]
    rfl
  rw [e]
  exact List.Pairwise.map _ (fun a b n z => n (Sum.inr.inj z)) h
theorem merge_R {l : List (Str × Addr)} (h : (l.map (·.1)).Nodup) : mergeK [] (kvsR l) = kvsR l := merge_nd _ [] (by simpa using kvsR_nd h)
/-- pairs of a word and an object, told by tuples -/
abbrev Tupr (H : Hp) (ts : List Addr) (l : List (Str × Addr)) : Prop := Paired (fun (t : Addr) (q : Str × Addr) => H t = some (.tup [.str q.1, .ref q.2])) ts l
theorem tupr_sq {K : PySem.W.Frag} {H : Hp} : ∀ {ts : List Addr} {l : List (Str × Addr)}, Tupr H ts l → Paired (fun (p : Addr) (kv : Key × V) => SqT K H p [kV kv.1, kv.2]) ts (kvsR l)
  | _, _, .nil => .nil
  | _, _, .cons h t => .cons (SqT.of h) (tupr_sq t)
theorem Tupr.keep {H H' : Hp} (k : ∀ b xs, H b = some (.tup xs) → H' b = some (.tup xs)) {ts : List Addr} {l : List (Str × Addr)} (h : Tupr H ts l) : Tupr H' ts l := L2.Paired.mapP h fun _ _ e => k _ _ e
/-- a list at D of words with objects, of which G tells -/
structure Lst (G : Hp → Addr → Str → Prop) (H0 H1 : Hp) (D : Addr) (zs : List Str) : Prop where
  same : Same H0 H1
  ex : ∃ (ts : List Addr) (l : List (Str × Addr)), H1 D = some (.lst (ts.map V.ref)) ∧ Tupr H1 ts l ∧ l.map (·.1) = zs ∧ ∀ p ∈ l, p.2 ≠ D ∧ G H1 p.2 p.1
theorem Lst.start {G : Hp → Addr → Str → Prop} {H0 : Hp} {D : Addr} (hD : H0 D = none) : Lst G H0 (upd H0 D (.lst [])) D [] := ⟨Same.new hD, [], [], upd_same, .nil, rfl, fun _ h => (nomatch h)⟩
theorem Lst.push {G : Hp → Addr → Str → Prop} (kG : ∀ {H H' : Hp} {D a : Addr} {z : Str}, (∀ b o, b ≠ D → H b = some o → H' b = some o) → (∃ xs, H D = some (.lst xs)) → a ≠ D → G H a z → G H' a z) {H0 H1 H2 : Hp} {D a t : Addr} {zs : List Str} {z : Str} (W : Lst G H0 H1 D zs) (hD : H0 D = none) (s : Same H1 H2) (ha : H1 a = none) (g : G H2 a z) (ht : H2 t = none) :
    ∃ acc, (upd H2 t (.tup [.str z, .ref a])) D = some (.lst acc) ∧ acc.length = zs.length ∧ Lst G H0 (upd (upd H2 t (.tup [.str z, .ref a])) D (.lst (acc ++ [.ref t]))) D (zs ++ [z]) := by
  obtain ⟨ts, l, e1, e2, e3, e4⟩ := W.ex
  have e1' := s _ _ e1
  have Dt : D ≠ t := ne_of_none e1' ht
  have aD : a ≠ D := fun e => by rw [e, e1] at ha; cases ha
  have lt : ts.length = l.length := Paired.length e2
  have keep : ∀ b o, b ≠ D → H2 b = some o → (upd (upd H2 t (.tup [.str z, .ref a])) D (.lst (ts.map V.ref ++ [.ref t]))) b = some o := fun b o n e => by
    rw [upd_ne n, upd_ne (ne_of_none e ht)]
    exact e
  refine ⟨ts.map V.ref, by rw [upd_ne Dt]; exact e1', ?_, fun b o e => keep b o (ne_of_none e hD) (s _ _ (W.same _ _ e)), ts ++ [t], l ++ [(z, a)], by rw [upd_same, List.map_append]; rfl, Paired.snocP ?_ (Tupr.keep (fun b xs e => ?_) e2), by rw [List.map_append, e3]; rfl, fun p hp => ?_⟩
  · rw [List.length_map, lt, ← e3, List.length_map]
  · show (upd (upd H2 t _) D _) t = _
    rw [upd_ne Dt.symm, upd_same]
  · exact keep b _ (fun z => by rw [z, e1] at e; cases e) (s _ _ e)
  · rcases List.mem_append.mp hp with hp | hp
    · obtain ⟨n, g⟩ := e4 p hp
      exact ⟨n, kG keep ⟨_, e1'⟩ n (kG (D := D) (fun b o _ e => s b o e) ⟨_, e1⟩ n g)⟩
    · rw [List.mem_singleton.mp hp]
      exact ⟨aD, kG keep ⟨_, e1'⟩ aD g⟩
theorem valR_mem {l : List (Str × Addr)} (nd : (l.map (·.1)).Nodup) {x : Str} (hx : x ∈ l.map (·.1)) : ∃ p ∈ l, p.1 = x ∧ valV (kvsR l) (Sum.inr x) = some (V.ref p.2) := by
  obtain ⟨p, hp, rfl⟩ := List.mem_map.mp hx
  obtain ⟨i, hi, rfl⟩ := List.mem_iff_getElem.mp hp
  exact ⟨_, List.getElem_mem hi, rfl, valR nd hi⟩
/-- the dict of costs, by the word that they begin with -/
structure CAt (R : Str → PTab) (H : Hp) (C : Addr) (l : List (Str × Addr)) : Prop where
  at_ : H C = some (.dK (kvsR l))
  rows : ∀ p ∈ l, H p.2 = some (.dK (kvsP (R p.1)))
theorem CAt.keep {R : Str → PTab} {H H' : Hp} {C : Addr} {l : List (Str × Addr)} (h : CAt R H C l) (k : ∀ b kvs, H b = some (.dK kvs) → H' b = some (.dK kvs)) : CAt R H' C l := ⟨k _ _ h.at_, fun p hp => k _ _ (h.rows p hp)⟩
theorem CAt.get {R : Str → PTab} {H : Hp} {C : Addr} {l : List (Str × Addr)} (h : CAt R H C l) (nd : (l.map (·.1)).Nodup) {x y : Str} (hx : x ∈ l.map (·.1)) (hy : y ∈ (R x).map (·.1)) : ∃ a, DGet H C (.str x) (some (V.ref a)) ∧ DGet H a (.str y) (some (V.int (look (R x) y))) := by
  obtain ⟨p, hp, rfl, e⟩ := valR_mem nd hx
  exact ⟨p.2, .inl ⟨kvsR l, Sum.inr p.1, .inl h.at_, rfl, e.symm⟩, getP (.inl (h.rows p hp)) hy⟩
abbrev RowsS (H : Hp) (ts : List Addr) (tab : STab) : Prop := Paired (fun (t : Addr) (q : (Str × Str) × Int) => ∃ k : Addr, H t = some (.tup [.ref k, .int q.2]) ∧ H k = some (.tup [.str q.1.1, .str q.1.2])) ts tab
theorem RowsS.keep {H H' : Hp} (k : ∀ b xs, H b = some (.tup xs) → H' b = some (.tup xs)) {ts : List Addr} {tab : STab} (h : RowsS H ts tab) : RowsS H' ts tab := L2.Paired.mapP h fun _ _ e => by
  obtain ⟨q, e1, e2⟩ := e
  exact ⟨q, k _ _ e1, k _ _ e2⟩
theorem rows_prs {K : PySem.W.Frag} {H : Hp} : ∀ {ts : List Addr} {tab : STab}, RowsS H ts tab → PrsT K H ts (kvsS tab)
  | _, _, .nil => .nil
  | _, _, .cons h t => by
    obtain ⟨q, e1, e2⟩ := h
    exact .cons ⟨q, e2, SqT.of e1⟩ (rows_prs t)
/-- all but the list at l stands; it holds the pairs and costs of tab -/
structure Sww (H0 H1 : Hp) (l : Addr) (tab : STab) : Prop where
  same : ∀ b o, b ≠ l → H0 b = some o → H1 b = some o
  out : ∃ ts : List Addr, H1 l = some (.lst (ts.map V.ref)) ∧ RowsS H1 ts tab
theorem Sww.push {H0 H1 : Hp} {D k t : Addr} {tab : STab} {x y : Str} {i : Int} (W : Sww H0 H1 D tab) (hD : H0 D = none) (hk : H1 k = none) (ht : (upd H1 k (.tup [.str x, .str y])) t = none) :
    ∃ acc, (upd (upd H1 k (.tup [.str x, .str y])) t (.tup [.ref k, .int i])) D = some (.lst acc) ∧ acc.length = tab.length ∧ Sww H0 (upd (upd (upd H1 k (.tup [.str x, .str y])) t (.tup [.ref k, .int i])) D (.lst (acc ++ [.ref t]))) D (tab ++ [((x, y), i)]) := by
  obtain ⟨ts, e1, e2⟩ := W.out
  have Dk : D ≠ k := ne_of_none e1 hk
  have e1' : (upd H1 k (.tup [.str x, .str y])) D = some (.lst (ts.map V.ref)) := by rw [upd_ne Dk]; exact e1
  have Dt : D ≠ t := ne_of_none e1' ht
  have kt : k ≠ t := ne_of_none upd_same ht
  have e1'' : (upd (upd H1 k (.tup [.str x, .str y])) t (.tup [.ref k, .int i])) D = some (.lst (ts.map V.ref)) := by rw [upd_ne Dt]; exact e1'
  have keep : ∀ b o, b ≠ D → H1 b = some o → (upd (upd (upd H1 k (.tup [.str x, .str y])) t (.tup [.ref k, .int i])) D (.lst (ts.map V.ref ++ [.ref t]))) b = some o := fun b o n e => by
    have a1 : (upd H1 k (.tup [.str x, .str y])) b = some o := by rw [upd_ne (ne_of_none e hk)]; exact e
    rw [upd_ne n, upd_ne (ne_of_none a1 ht)]
    exact a1
  refine ⟨_, e1'', by rw [List.length_map]; exact Paired.length e2, fun b u n e => keep b u n (W.same b u n e), ts ++ [t], by rw [upd_same, List.map_append]; rfl, Paired.snocP ⟨k, ?_, ?_⟩ (RowsS.keep (fun b xs e => keep b _ (fun z => by rw [z, e1] at e; cases e) e) e2)⟩
  · rw [upd_ne Dt.symm]
    exact upd_same
  · rw [upd_ne Dk.symm, upd_ne kt]
    exact upd_same
theorem prs_take (zs : List Str) (x : Str) {j : Nat} (h : j < zs.length) : prs (zs.take (j + 1)) x = prs (zs.take j) x ++ (if x = zs[j] then [] else [(x, zs[j])]) := by
  unfold prs
  rw [List.take_add_one, List.getElem?_eq_getElem h, List.filter_append, List.map_append]
  congr 1
  by_cases c : x = zs[j] <;> simp [c]
theorem tabS_app (a b : List (Str × Str)) (c : Str → Str → Int) : tabS (a ++ b) c = tabS a c ++ tabS b c := List.map_append
theorem tabS_pairs (zs : List Str) (c : Str → Str → Int) : tabS (pairsOf zs) c = zs.flatMap fun a => tabS (prs zs a) c := by
  unfold tabS pairsOf
  rw [List.map_flatMap]
def spLcl : Sp := fun vs H Q _ => ∃ (L a b c : Addr) (t1 t2 : PTab) (t3 : STab), vs = [.ref L] ∧ Rec H L a b c t1 t2 t3 ∧ RtT t1 t2 t3 ∧
  ∀ H' M d e g r1 r2 r3 cf, Same H H' → H M = none → Rec H' M d e g r1 r2 r3 → CtW t1 t2 t3 r1 r2 r3 cf → H d = none → H e = none → H g = none → Q (.ref M) H'
theorem nulH {H H' : Hp} (k : ∀ b u, H b = some u → H' b = some u) {x : Addr} (h : H' x = none) : H x = none := by
  cases e : H x with
  | none => rfl
  | some u =>
    have := k _ _ e
    rw [h] at this
    cases this
section
variable {P : Program} {w : World} {K : PySem.W.Frag} {mg : Str → Option Value} {base : Heap}
end
end Mk

set_option Elab.async false
set_option linter.all false
set_option maxRecDepth 100000
set_option maxHeartbeats 1000000
/-! least costs by force -/
namespace Mk
open PySem PySem.Spec L2 PyProof.Rows

abbrev sForced : Stmt := top 49
abbrev nForced : List Str := ["_law_table", "_law_begin", "_law_words", "_law_most", "_law_word", "_law_found", "_law_nearby_here", "_law_turn", "_law_is_new", "_law_other", "_law_step"]
/-- all words of these signs up to a length -/
structure AllW (ks : List Str) (m : Nat) (ws : List Str) : Prop where
  nd : ws.Nodup
  le : ws.length ≤ 40
  mem : ∀ w, w ∈ ws ↔ (∀ x ∈ sgs w, x ∈ ks) ∧ w.length ≤ m
def spForced : Sp := fun vs H Q _ => ∃ (L a b c W : Addr) (t1 t2 : PTab) (t3 : STab) (z : Str) (m : Nat) (ws : List Str), vs = [.ref L, .str z, .ref W, .int m] ∧ Rec H L a b c t1 t2 t3 ∧ RtT t1 t2 t3 ∧ t1.length ≤ 3 ∧ m ≤ 8 ∧ H W = some (.lst (ws.map V.str)) ∧ AllW (t1.map (·.1)) m ws ∧ z ∈ ws ∧
  ∀ H' F (f : PTab), Same H H' → H F = none → H' F = some (.dK (kvsP f)) → (∀ w ∈ ws, w ∈ f.map (·.1) ∧ look f w = ds t1 t2 t3 z w ∧ (ds t1 t2 t3 z w = 0 ↔ z = w)) → Q (.ref F) H'
theorem near_steps {t1 t2 : PTab} {t3 : STab} {zs : List Str} {m : Nat} {H : Hp} : ∀ {l : List (Str × Addr)}, (∀ p ∈ l, ∃ tab, RowAt H p.2 tab ∧ Near t1 t2 t3 zs m p.1 tab) →
    ∃ steps : Stps Str, Paired (fun (p : Str × Addr) (q : Str × PTab) => p.1 = q.1 ∧ RowAt H p.2 q.2) l steps ∧ ∀ st ∈ steps, Near t1 t2 t3 zs m st.1 st.2
  | [], _ => ⟨[], .nil, fun _ h => nomatch h⟩
  | p :: l, h => by
    obtain ⟨steps, p1, p2⟩ := near_steps (l := l) fun q hq => h q (List.mem_cons_of_mem _ hq)
    obtain ⟨tab, r, n⟩ := h p List.mem_cons_self
    refine ⟨(p.1, tab) :: steps, .cons ⟨rfl, r⟩ p1, fun st hs => ?_⟩
    rcases List.mem_cons.mp hs with rfl | hs
    · exact n
    · exact p2 st hs
section
variable {P : Program} {w : World} {K : PySem.W.Frag} {mg : Str → Option Value} {base : Heap}
theorem scForced : FnScope nForced ["_law_table", "_law_begin", "_law_words", "_law_most"] (defScope sForced) := ⟨rfl, rfl, rfl, by decide +kernel, rfl, by decide +kernel, by decide +kernel⟩
theorem ok_forced {f : Addr} {fd : FuncData} (Fd : Fun K "_law_forced" "_law_forced" sForced f fd) (B : Bn mg) (Dd : Dn mg) (A1 : Cd P w K mg base 1 "_law_nearby" ["_law_table", "_law_word", "_law_most"] spNear) : FnOk P w K mg base CX0 2 f fd ["_law_table", "_law_begin", "_law_words", "_law_most"] spForced := by
  obtain ⟨b1, d1, Gb, bm, bk, bb⟩ := A1.ex
  refine Fd.ok scForced (fun vs H Q E h => ?_) (fun cdv A outer s H vs Q E hr h => ?_)
  · obtain ⟨L, a, b, c, W, t1, t2, t3, z, m, ws, rfl, _⟩ := h
    rfl
  · have hu := hu_of hr
    obtain ⟨L, a, b, c, Wa, t1, t2, t3, z, m, ws, rfl, r, R, l3, m8, hW, aw, zw, q⟩ := h
    refine ⟨_, pss_cons (ps_par (i := 5) (j := 6) rfl scForced.nd rfl rfl (by decide) rfl rfl (pa_cons (pe_disp (pps_cons (pv 1) pe_int pps_nil) rfl rfl (fun z => by cases z) (by decide))
        (pa_cons (pe_callTy (call_dictP rfl) (by rfl) Dd.dict (by decide +kernel) (pa_cons (pe_lc (own := [("_law_word", 4)]) (g := gName 4) (tt := tYes) rfl scForced.nd (pi_list (pv 2)) (blkOk_by (N := nForced) (sc := defScope sForced) (by decide +kernel))
          (fun _ _ _ _ _ => pg_name (i := 4) scForced.nd rfl (Or.inl rfl)) (fun _ _ _ _ _ => pts_nil) (fun _ _ _ _ _ => pe_tup (pa_cons (pv 4) (pa_cons (pe_call Gb hr (by rfl) bm bk bb .nil pass0 (pa_cons (pv 0) (pa_cons (pv 4) (pa_cons (pv 3) pa_nil)))) pa_nil)))) pa_nil)) pa_nil)) (by rfl))
      (pss_cons (ps_for PassesOwn.never rfl (pi_range1 (by rfl) B.range (pa_cons (pe_op op_add (pe_callB call_len_seq (by rfl) B.len PySem.boot_len (pa_cons (pv 2) pa_nil)) pe_int) pa_nil)) (pg_name (i := 7) scForced.nd rfl (.inl rfl))
        (pss_cons (ps_set (i := 8) scForced.nd rfl (.inl rfl) pe_bl)
        (pss_cons (ps_for PassesOwn.never rfl (pi_list (pv 2)) (pg_name (i := 4) scForced.nd rfl (.inl rfl))
          (pss_one (ps_for PassesOwn.never rfl (pi_list (pe_ifExp (pt_cmp (pc_din hu (pv 4) (pv 5))) (pe_dget hu (pv 6) (pv 4) (fun _ _ => rfl)) (pe_lst pa_nil))) (pg_tup rfl (pgs_cons (pg_name (i := 9) scForced.nd rfl (.inl rfl)) (pgs_cons (pg_name (i := 10) scForced.nd rfl (.inl rfl)) pgs_nil)))
              (pss_one (ps_if (PW.pt (pw_or (pt_cmp (pc_dnotin hu (pv 9) (pv 5))) (pw_or1 (pt_cmpR op_lt (pe_op op_add (pe_dget hu (pv 5) (pv 4) (fun _ _ => rfl)) (pv 10)) (pe_dget hu (pv 5) (pv 9) (fun _ _ => rfl)) (nomark _)))))
                (pss_cons (ps_dput hu (pv 5) (pv 9) (pe_op op_add (pe_dget hu (pv 5) (pv 4) (fun _ _ => rfl)) (pv 10)) rfl)
                (pss_one (ps_set (i := 8) scForced.nd rfl (.inl rfl) pe_bl))) pss_nil)))))
        (pss_one (ps_if (pt_not (pt_val (pv 8))) (pss_one (ps_ret (pv 5))) pss_nil)))))
      (pss_one (ps_ret (pv 5)))), ?_⟩
    have lt1 : ∀ {n : Nat}, n ≤ 1000 → n < sizeLine := fun h1 => by rw [sizeLine_eq]; omega
    have n2 : 2 ≤ sizeLine := by decide
    refine fun F hF => ⟨_, rfl, upd_same, [(Sum.inr z, V.int 0)], rfl, (by show 1 ≤ 15; decide), ?_⟩
    have h0 : ∀ b u, H b = some u → (upd (upd H F (.dK [])) F (.dK (mergeK [] [(Sum.inr z, V.int 0)]))) b = some u := fun b u e => by
      rw [upd_ne (ne_of_none e hF), upd_ne (ne_of_none e hF)]
      exact e
    have hf0 : (upd (upd H F (.dK [])) F (.dK (mergeK [] [(Sum.inr z, V.int 0)]))) F = some (.dK (kvsP [(z, 0)])) := upd_same
    generalize upd (upd H F (.dK [])) F (.dK (mergeK [] [(Sum.inr z, V.int 0)])) = H0 at h0 hf0 ⊢
    have sA : Same H H0 := h0
    have at_ : ∀ {i : Nat} {x : V} (hi : i < (ws.map V.str).length), (ws.map V.str)[i]? = some x → ∃ h : i < ws.length, x = V.str ws[i] := fun {i x} hi hx => by
      have h : i < ws.length := by rwa [List.length_map] at hi
      rw [List.getElem?_map, List.getElem?_eq_getElem h] at hx
      exact ⟨h, (Option.some.inj hx).symm⟩
    have lws := aw.le
    have kG1 : ∀ {H H' : Hp} {D a : Addr} {z : Str}, (∀ b o, b ≠ D → H b = some o → H' b = some o) → (∃ xs, H D = some (.lst xs)) → a ≠ D → (∃ tab, RowAt H a tab ∧ Near t1 t2 t3 (t1.map (·.1)) m z tab) → ∃ tab, RowAt H' a tab ∧ Near t1 t2 t3 (t1.map (·.1)) m z tab := fun {H H' D a z} k hD n g => by
      obtain ⟨xs, hD⟩ := hD
      obtain ⟨tab, ⟨ts, g1, g2⟩, g3⟩ := g
      exact ⟨tab, ⟨ts, k _ _ n g1, Tups.keep (fun b ys e => k b _ (fun z => by rw [z, hD] at e; cases e) e) g2⟩, g3⟩
    refine ⟨_, rfl, Wa, rfl, ⟨_, SqL.of (sA _ _ hW)⟩, fun D hD => lc_it (walk_list (K := K) (a := Wa) (xs := ws.map V.str)) (fun j H4 => Lst (fun H a z => ∃ tab, RowAt H a tab ∧ Near t1 t2 t3 (t1.map (·.1)) m z tab) H0 H4 D (ws.take j)) ?_ (fun j H4 _ h4 => SqL.of (h4.same _ _ (sA _ _ hW))) ?_ ?_⟩
    · exact Lst.start hD
    · rintro j y H4 H5 hj W ⟨rfl, hy⟩
      obtain ⟨hj2, rfl⟩ := at_ hj hy
      have mz := (aw.mem _).mp (List.getElem_mem hj2)
      have et : ws.take (j + 1) = ws.take j ++ [ws[j]] := by
        rw [List.take_add_one, List.getElem?_eq_getElem hj2]
        rfl
      rw [et]
      refine ⟨rfl, _, rfl, _, rfl, _, rfl, _, rfl, L, a, b, c, t1, t2, t3, ws[j], m, rfl, (r.same sA).same W.same, R, mz.1, Nat.le_trans mz.2 m8, l3, fun H6 aw' tsw tab s6 f6 e6 tw nw lt => ?_⟩
      refine ⟨n2, fun tt htt => ?_⟩
      obtain ⟨acc, q1, q2, W7⟩ := Lst.push (G := fun H a z => ∃ tab, RowAt H a tab ∧ Near t1 t2 t3 (t1.map (·.1)) m z tab) kG1 W hD s6 f6 ⟨tab, ⟨tsw, e6, tw⟩, nw⟩ htt
      exact ⟨acc, q1, lt1 (by rw [q2, List.length_take]; omega), W7⟩
    · rintro H4 W
      rw [List.length_map, List.take_length] at W
      obtain ⟨ts, l, g1, g2, g3, g4⟩ := W.ex
      refine ⟨D, ts, kvsR l, rfl, SqL.of g1, tupr_sq g2, fun S hS => ⟨_, _, rfl, ?_⟩⟩
      have ndl : (l.map (·.1)).Nodup := by rw [g3]; exact aw.nd
      rw [merge_R ndl]
      have sS : Same H4 (upd H4 S (.dK (kvsR l))) := Same.new hS
      obtain ⟨steps, pr, nr⟩ := near_steps (H := upd H4 S (.dK (kvsR l))) fun p hp => by
        obtain ⟨tab, t1, t2⟩ := (g4 p hp).2
        exact ⟨tab, t1.keep (fun b xs e => sS b _ e) (fun b xs e => sS b _ e), t2⟩
      have sk : steps.map (·.1) = ws := by rw [← stp_keys (fun p q h => h.1) pr]; exact g3
      have hS5 : Stp (upd H4 S (.dK (kvsR l))) S l steps := ⟨upd_same, pr, by rw [sk]; exact aw.nd⟩
      have sC := Same.trans W.same sS
      have eF5 := sC _ _ hf0
      have eW5 := sC _ _ (sA _ _ hW)
      have f0 : ∀ b u, b ≠ F → H b = some u → (upd H4 S (.dK (kvsR l))) b = some u := fun b u _ e => sC _ _ (sA _ _ e)
      have SF : S ≠ F := (ne_of_none (W.same _ _ hf0) hS).symm
      have N : Net t1 t2 t3 (t1.map (·.1)) m steps := ⟨R, fun _ => Iff.rfl, fun w => by rw [sk]; exact aw.mem w, nr⟩
      generalize upd H4 S (.dK (kvsR l)) = H5 at hS5 sC eF5 eW5 f0 ⊢
      clear W g1 g2 g3 g4 pr nr sS hS hD
      have WF : Wa ≠ F := ne_of_none hW hF
      have ls : l.length = steps.length := Paired.length hS5.rows
      have lsw : steps.length = ws.length := by rw [← sk, List.length_map]
      have hr0 : ∀ p ∈ List.zip l steps, p.1.1 = p.2.1 ∧ RowAt H5 p.1.2 p.2.2 := by
        have : ∀ {l : List (Str × Addr)} {m : Stps Str}, Paired (fun (p : Str × Addr) (q : Str × PTab) => p.1 = q.1 ∧ RowAt H5 p.2 q.2) l m → ∀ p ∈ List.zip l m, p.1.1 = p.2.1 ∧ RowAt H5 p.1.2 p.2.2 := by
          intro l m h
          induction h with
          | nil => intro p hp; cases hp
          | cons a _ ih =>
            intro p hp
            rw [List.zip_cons_cons] at hp
            rcases List.mem_cons.mp hp with rfl | hp
            · exact a
            · exact ih p hp
        exact this hS5.rows
      have row : ∀ {j : Nat} (h1 : j < l.length) (h2 : j < steps.length), l[j].1 = steps[j].1 ∧ RowAt H5 l[j].2 steps[j].2 := fun {j} h1 h2 => by
        have h3 : j < (List.zip l steps).length := by rw [List.length_zip]; omega
        have := hr0 _ (List.getElem_mem h3)
        rwa [List.getElem_zip] at this
      have eU : ∀ st ∈ steps, ∀ e ∈ st.2, e.1 ∈ ws := fun st hst e he => by
        have := (N.edge (z := st.1) (y := e.1) (p := e.2) ⟨st.2, hst, he⟩).2.1
        rwa [sk] at this
      refine ⟨_, rfl, Wa, _, rfl, .inl (SqL.of eW5), _, _, rfl, rfl, _, rfl, by rw [List.length_map]; omega, by rw [List.length_map]; omega, ?_⟩
      have eN : ((((ws.map V.str).length : Nat) : Int) + 1).toNat = ws.length + 1 := by rw [List.length_map]; omega
      rw [eN]
      have hq : ∀ H' f, rounds steps (ws.length + 1) [(z, 0)] = f → Same H H' → H' F = some (.dK (kvsP f)) → Q (.ref F) H' := fun H' f hf s e => q H' F f s hF e fun w hw => by
        rw [← hf]
        have a := N.found (b := z) (n := ws.length + 1) (by rw [sk]; exact zw) (by omega) (w := w) (by rw [sk]; exact hw)
        exact ⟨a.1, a.2, N.zero (by rw [sk]; exact zw) (by rw [sk]; exact hw)⟩
      generalize hR : rounds steps (ws.length + 1) [(z, 0)] = Rr at hq
      refine for_range (lo := 0) (n := ws.length + 1) (fun i σ H1 => (∃ o4 o7 o8 o9 o10, σ = [some (.ref L), some (.str z), some (.ref Wa), some (.int m), o4, some (.ref F), some (.ref S), o7, o8, o9, o10]) ∧ ∃ f, rounds steps (ws.length + 1 - i) f = Rr ∧ Fw H5 H1 F ws f) ?_ ?_ ?_
      · exact ⟨⟨_, _, _, _, _, rfl⟩, [(z, 0)], hR, ⟨fun b u _ e => e, eF5, ⟨by simp, fun k hk => by
          have : k = z := by simpa using hk
          exact this ▸ zw⟩⟩⟩
      · rintro i σ H1 hi ⟨⟨o4, o7, o8, o9, o10, rfl⟩, f, hf, W⟩
        rw [Int.zero_add]
        have e1 : ws.length + 1 - i = (ws.length + 1 - (i + 1)) + 1 := by omega
        rw [e1] at hf
        unfold rounds at hf
        refine ⟨_, rfl, Wa, rfl, ⟨_, SqL.of (W.same _ _ WF eW5)⟩, for_it (walk_list (K := K) (a := Wa) (xs := ws.map V.str)) (fun j σ H2 => (∃ o4 o9 o10, σ = [some (.ref L), some (.str z), some (.ref Wa), some (.int m), o4, some (.ref F), some (.ref S), some (.int i), some (.bl ((steps.take j).foldl rowB (f, false)).2), o9, o10]) ∧ Fw H5 H2 F ws ((steps.take j).foldl rowB (f, false)).1) ?_ (fun j σ H2 _ h2 => SqL.of (h2.2.same _ _ WF eW5)) ?_ ?_⟩
        · exact ⟨⟨_, _, _, rfl⟩, W⟩
        · rintro j x σ H2 H3 hj ⟨⟨p4, p9, p10, rfl⟩, W2⟩ ⟨rfl, hx⟩
          obtain ⟨hj0, rfl⟩ := at_ hj hx
          have hj2 : j < steps.length := by omega
          have hj1 : j < l.length := by omega
          have ew : ws[j] = steps[j].1 := by
            have : (steps.map (·.1))[j]? = some steps[j].1 := by rw [List.getElem?_map, List.getElem?_eq_getElem hj2]; rfl
            rw [sk, List.getElem?_eq_getElem hj0] at this
            exact Option.some.inj this
          rw [ew]
          have nx : (steps.take (j + 1)).foldl rowB (f, false) = rowB ((steps.take j).foldl rowB (f, false)) steps[j] := foldl_take _ _ _ hj2
          rw [nx]
          have gv := valR ndl hj1
          obtain ⟨r1, r2⟩ := row hj1 hj2
          have me : ∀ e ∈ steps[j].2, e.1 ∈ ws := eU _ (List.getElem_mem hj2)
          rw [r1] at gv
          have naF : l[j].2 ≠ F := fun e => by
            obtain ⟨ts, g, _⟩ := r2
            rw [e, eF5] at g
            cases g
          generalize steps[j] = st at r1 r2 me gv ⊢
          generalize l[j].2 = a at gv r2 naF
          obtain ⟨one, es⟩ := st
          generalize (steps.take j).foldl rowB (f, false) = s at W2 ⊢
          obtain ⟨g, b⟩ := s
          clear nx r1 ew
          have W2 : Fw H5 H3 F ws g := W2
          refine ⟨_, rfl, _, rfl, F, _, rfl, .inl ⟨kvsP g, Sum.inr one, .inl W2.out, rfl, rfl⟩, _, rfl, ?_⟩
          rw [look_app]
          unfold rowB
          by_cases mo1 : one ∈ g.map (·.1)
          · rw [decide_eq_true mo1, if_pos mo1]
            refine iteT ?_
            obtain ⟨ts, t1, t2⟩ := r2
            have lts : ts.length = es.length := Paired.length t2
            refine ⟨_, rfl, _, rfl, S, _, rfl, .inl ⟨kvsR l, Sum.inr one, .inl (W2.same _ _ SF hS5.at_), rfl, gv.symm⟩, a, rfl, ⟨_, SqL.of (W2.same _ _ naF t1)⟩, for_it (walk_list (K := K) (a := a) (xs := ts.map V.ref)) (fun k σ H4 => (∃ o9 o10, σ = [some (.ref L), some (.str z), some (.ref Wa), some (.int m), some (.str one), some (.ref F), some (.ref S), some (.int i), some (.bl ((es.take k).foldl (fun s e => rlxB s one e) (g, b)).2), o9, o10]) ∧ Fw H5 H4 F ws ((es.take k).foldl (fun s e => rlxB s one e) (g, b)).1) ?_ (fun k σ H4 _ h4 => SqL.of (h4.2.same _ _ naF t1)) ?_ ?_⟩
            · exact ⟨⟨_, _, rfl⟩, W2⟩
            · rintro k x σ H4 H6 hk ⟨⟨u6, u7, rfl⟩, W4⟩ ⟨rfl, hx⟩
              have hk1 : k < ts.length := by rwa [List.length_map] at hk
              have hk2 : k < es.length := by omega
              have ex : x = V.ref ts[k] := by
                rw [List.getElem?_map, List.getElem?_eq_getElem hk1] at hx
                exact (Option.some.inj hx).symm
              subst ex
              obtain ⟨e0, he0, et⟩ := paired_get t2 (List.getElem?_eq_getElem hk1)
              have ee : e0 = es[k] := Option.some.inj (he0.symm.trans (List.getElem?_eq_getElem hk2))
              subst ee
              have nx : (es.take (k + 1)).foldl (fun s e => rlxB s one e) (g, b) = rlxB ((es.take k).foldl (fun s e => rlxB s one e) (g, b)) one es[k] := foldl_take _ _ _ hk2
              rw [nx]
              have mb : one ∈ ((es.take k).foldl (fun s e => rlxB s one e) (g, b)).1.map (·.1) := (fold_bet one (es.take k) (g, b) one mo1).1
              have mU := me _ (List.getElem_mem hk2)
              have tF : ts[k] ≠ F := fun e => by
                rw [e, eF5] at et
                cases et
              generalize (es.take k).foldl (fun s e => rlxB s one e) (g, b) = s at W4 mb ⊢
              obtain ⟨g4, b4⟩ := s
              generalize es[k] = e at et mU ⊢
              obtain ⟨other, price⟩ := e
              have W4 : Fw H5 H6 F ws g4 := W4
              have mb : one ∈ g4.map (·.1) := mb
              have lg : g4.length ≤ 1000 := Nat.le_trans W4.ok.len (by omega)
              have gOne : DGet H6 F (.str one) (some (V.int (look g4 one))) := getP (.inl W4.out) mb
              have put : DPut H6 F (.str other) (.int (look g4 one + price)) (upd H6 F (.dK (kvsP (setT g4 other (look g4 one + price))))) := .inl ⟨kvsP g4, Sum.inr other, W4.out, rfl, by rw [kvsP_len]; exact lt1 lg, by rw [putP_set]⟩
              refine ⟨ts[k], _, rfl, SqT.of (W4.same _ _ tF et), rfl, _, _, rfl, _, _, rfl, rfl, ?_⟩
              refine ⟨_, rfl, _, rfl, F, _, rfl, .inl ⟨kvsP g4, Sum.inr other, .inl W4.out, rfl, rfl⟩, _, rfl, ?_⟩
              rw [look_app]
              unfold rlxB
              by_cases mo : other ∈ g4.map (·.1)
              · rw [decide_eq_true mo]
                refine iteF ?_
                refine ⟨_, rfl, _, rfl, F, _, rfl, gOne, _, rfl, _, _, rfl, rfl, _, rfl, _, rfl, F, _, rfl, getP (.inl W4.out) mo, _, _, rfl, rfl, _, rfl, ?_⟩
                by_cases c : look g4 one + price < look g4 other
                · rw [decide_eq_true c, if_pos (show better (g4, b4).1 one (other, price) from .inr c)]
                  refine iteT ?_
                  exact ⟨_, rfl, _, rfl, F, _, rfl, gOne, _, rfl, _, _, rfl, rfl, _, rfl, _, rfl, F, _, rfl, put, ⟨_, _, rfl⟩, W4.set mU⟩
                · rw [decide_eq_false c, if_neg (show ¬ better (g4, b4).1 one (other, price) from fun z => z.elim (fun y => y mo) c)]
                  exact iteF ⟨⟨_, _, rfl⟩, W4⟩
              · rw [decide_eq_false mo, if_pos (show better (g4, b4).1 one (other, price) from .inl mo)]
                refine iteT (iteT ?_)
                exact ⟨_, rfl, _, rfl, F, _, rfl, gOne, _, rfl, _, _, rfl, rfl, _, rfl, _, rfl, F, _, rfl, put, ⟨_, _, rfl⟩, W4.set mU⟩
            · rintro σ H4 ⟨⟨u6, u7, rfl⟩, W4⟩
              rw [List.length_map, lts, List.take_length] at W4 ⊢
              exact ⟨⟨_, _, _, rfl⟩, W4⟩
          · rw [decide_eq_false mo1, if_neg mo1]
            refine iteF ⟨Nat.zero_le _, fun e he => ?_⟩
            have W3 : Fw H5 (upd H3 e (.lst [])) F ws g := ⟨fun b u n e1 => by
              rw [upd_ne (ne_of_none (W2.same _ _ n e1) he)]
              exact W2.same _ _ n e1, by rw [upd_ne (ne_of_none W2.out he)]; exact W2.out, W2.ok⟩
            refine ⟨e, rfl, ⟨_, SqL.of upd_same⟩, for_it (walk_list (K := K) (a := e) (xs := [])) (fun k σ H4 => σ = [some (.ref L), some (.str z), some (.ref Wa), some (.int m), some (.str one), some (.ref F), some (.ref S), some (.int i), some (.bl b), p9, p10] ∧ H4 = upd H3 e (.lst [])) ⟨rfl, rfl⟩ (fun k σ H4 _ h4 => by rw [h4.2]; exact SqL.of upd_same) (fun k x σ H4 H6 hk => absurd hk (Nat.not_lt_zero _)) ?_⟩
            rintro σ H4 ⟨rfl, rfl⟩
            exact ⟨⟨_, _, _, rfl⟩, W3⟩
        · rintro σ H2 ⟨⟨p4, p9, p10, rfl⟩, W2⟩
          have e9 : steps.take ws.length = steps := by rw [← lsw, List.take_length]
          rw [List.length_map, e9] at W2 ⊢
          have hf : (if (steps.foldl rowB (f, false)).2 = true then rounds steps (ws.length + 1 - (i + 1)) (steps.foldl rowB (f, false)).1 else (steps.foldl rowB (f, false)).1) = Rr := hf
          refine ⟨_, rfl, _, rfl, ?_⟩
          generalize steps.foldl rowB (f, false) = s at hf W2 ⊢
          obtain ⟨g, b⟩ := s
          cases b with
          | true =>
            rw [if_pos rfl] at hf
            exact iteF ⟨⟨_, _, _, _, _, rfl⟩, g, hf, W2⟩
          | false =>
            rw [if_neg (by simp)] at hf
            exact iteT ⟨_, rfl, hq _ g hf.symm (fun b u e => W2.same _ _ (ne_of_none e hF) (sC _ _ (sA _ _ e))) W2.out⟩
      · rintro σ H1 ⟨⟨o4, o7, o8, o9, o10, rfl⟩, f, hf, W⟩
        rw [Nat.sub_self] at hf
        exact ⟨_, rfl, hq _ f hf.symm (fun b u e => W.same _ _ (ne_of_none e hF) (sC _ _ (sA _ _ e))) W.out⟩
end
end Mk

set_option Elab.async false
set_option linter.all false
set_option maxRecDepth 100000
set_option maxHeartbeats 1000000
/-! data that repr can show, and how long their texts are -/
namespace Mk
open PySem PySem.Spec L2 PyProof.Rows

structure Shw (d : PyData) (n k : Nat) : Prop where
  s : d.showable = true
  h : d.hasDict = false
  dp : d.depth ≤ k
  l : d.shown.length ≤ n
theorem Shw.mono {d : PyData} {n k n' k' : Nat} (h : Shw d n k) (hn : n ≤ n') (hk : k ≤ k') : Shw d n' k' := ⟨h.s, h.h, Nat.le_trans h.dp hk, Nat.le_trans h.l hn⟩
theorem shown_all : ∀ xs : List PyData, PyData.shownAll xs = xs.map PyData.shown
  | [] => by simp only [PyData.shownAll, List.map_nil]
  | x :: xs => by simp only [PyData.shownAll, List.map_cons, shown_all xs]
theorem showable_all : ∀ {xs : List PyData}, (∀ x ∈ xs, x.showable = true) → PyData.showableAll xs = true
  | [], _ => by simp only [PyData.showableAll]
  | x :: xs, h => by
    simp only [PyData.showableAll, h x List.mem_cons_self, showable_all fun y hy => h y (List.mem_cons_of_mem _ hy), Bool.and_self]
theorem hasDict_all : ∀ {xs : List PyData}, (∀ x ∈ xs, x.hasDict = false) → PyData.hasDictAll xs = false
  | [], _ => by simp only [PyData.hasDictAll]
  | x :: xs, h => by
    simp only [PyData.hasDictAll, h x List.mem_cons_self, hasDict_all fun y hy => h y (List.mem_cons_of_mem _ hy), Bool.or_self]
theorem depth_all {k : Nat} : ∀ {xs : List PyData}, (∀ x ∈ xs, x.depth ≤ k) → PyData.depthAll xs ≤ k
  | [], _ => by simp only [PyData.depthAll]; exact Nat.zero_le _
  | x :: xs, h => by
    have h1 := h x List.mem_cons_self
    have h2 := depth_all fun y hy => h y (List.mem_cons_of_mem _ hy)
    simp only [PyData.depthAll]
    omega
theorem piled_le {n : Nat} : ∀ {ts : List Str}, (∀ t ∈ ts, t.length ≤ n) → piled ts ≤ ts.length * (n + 2)
  | [], _ => Nat.zero_le _
  | t :: ts, h => by
    have h1 := h t List.mem_cons_self
    have h2 := piled_le fun y hy => h y (List.mem_cons_of_mem _ hy)
    rw [piled_cons, List.length_cons, Nat.succ_mul]
    omega
theorem joined_le (ts : List Str) : (Str.join ", " ts).length ≤ piled ts := by
  by_cases h : ts = []
  · rw [h]
    decide
  · have := join_length_add ts h
    omega
section
variable {xs : List PyData} {n k : Nat}
theorem shw_list (h : ∀ x ∈ xs, Shw x n k) : Shw (.list xs) (xs.length * (n + 2) + 2) (k + 1) := by
  refine ⟨?_, ?_, ?_, ?_⟩
  · simp only [PyData.showable]
    exact showable_all fun x hx => (h x hx).s
  · simp only [PyData.hasDict]
    exact hasDict_all fun x hx => (h x hx).h
  · have := depth_all fun x hx => (h x hx).dp
    simp only [PyData.depth]
    omega
  · have e : (PyData.list xs).shown = listText (xs.map PyData.shown) := by simp only [PyData.shown, shown_all]
    rw [e, listText_eq_join, strLen_append, strLen_append]
    have h1 := joined_le (xs.map PyData.shown)
    have h2 := piled_le (n := n) (ts := xs.map PyData.shown) fun t ht => by
      obtain ⟨x, hx, rfl⟩ := List.mem_map.mp ht
      exact (h x hx).l
    rw [List.length_map] at h2
    have e1 : ((("[" : String) : Str)).length = 1 := rfl
    have e2 : ((("]" : String) : Str)).length = 1 := rfl
    rw [e1, e2]
    omega
theorem shw_tuple (h : ∀ x ∈ xs, Shw x n k) : Shw (.tuple xs) (xs.length * (n + 2) + 3) (k + 1) := by
  refine ⟨?_, ?_, ?_, ?_⟩
  · simp only [PyData.showable]
    exact showable_all fun x hx => (h x hx).s
  · simp only [PyData.hasDict]
    exact hasDict_all fun x hx => (h x hx).h
  · have := depth_all fun x hx => (h x hx).dp
    simp only [PyData.depth]
    omega
  · have e : (PyData.tuple xs).shown = tupleText (xs.map PyData.shown) := by simp only [PyData.shown, shown_all]
    rw [e]
    unfold tupleText
    rw [strLen_append, strLen_append]
    have h1 := joined_le (xs.map PyData.shown)
    have h2 := piled_le (n := n) (ts := xs.map PyData.shown) fun t ht => by
      obtain ⟨x, hx, rfl⟩ := List.mem_map.mp ht
      exact (h x hx).l
    rw [List.length_map] at h2
    have e1 : ((("(" : String) : Str)).length = 1 := rfl
    have e3 : (((if (xs.map PyData.shown).length == 1 then ",)" else ")" : String) : Str)).length ≤ 2 := by split <;> decide
    rw [e1]
    omega
end
theorem shw_str {z : Str} {n : Nat} (h : (reprText z).length ≤ n) : Shw (.str z) n 0 := ⟨by simp only [PyData.showable], by simp only [PyData.hasDict], by simp only [PyData.depth]; exact Nat.le_refl _, by simp only [PyData.shown]; exact h⟩
theorem shw_bool (b : Bool) : Shw (.bool b) 5 0 := by
  cases b
  · exact ⟨rfl, rfl, Nat.le_refl _, by decide⟩
  · exact ⟨rfl, rfl, Nat.le_refl _, by decide⟩
theorem shw_int {i : Int} (h0 : 0 ≤ i) (h1 : i ≤ 60) : Shw (.int i) 2 0 := by
  obtain ⟨n, rfl⟩ : ∃ n : Nat, i = (n : Int) := ⟨i.toNat, by omega⟩
  refine ⟨?_, by simp only [PyData.hasDict], by simp only [PyData.depth]; exact Nat.le_refl _, ?_⟩
  · simp only [PyData.showable]
    exact decide_eq_true (small_log (by omega))
  · simp only [PyData.shown]
    exact small_txt (by omega)
/-- a sign is one of five -/
theorem sign_in {z : Str} (h : sgB z = true) : z ∈ sgs "abcde" := by
  unfold sgB at h
  simp only [Bool.and_eq_true, decide_eq_true_eq] at h
  have hw := isW_of h.2
  have hl : (cs z).length = 1 := h.1
  obtain ⟨c, hc⟩ := List.length_eq_one_iff.mp hl
  have h2 := hw c (by rw [hc]; exact List.mem_singleton.mpr rfl)
  have ez : z = ⟨#[c]⟩ := cs_inj (by rw [hc])
  have e : sgs "abcde" = [⟨#[97]⟩, ⟨#[98]⟩, ⟨#[99]⟩, ⟨#[100]⟩, ⟨#[101]⟩] := by decide +kernel
  rw [ez, e]
  rcases (by omega : c = 97 ∨ c = 98 ∨ c = 99 ∨ c = 100 ∨ c = 101) with rfl | rfl | rfl | rfl | rfl <;> simp
theorem shw_sign {z : Str} (h : sgB z = true) : Shw (.str z) 3 0 := by
  have : ∀ z ∈ sgs "abcde", (reprText z).length ≤ 3 := by decide +kernel
  exact shw_str (this z (sign_in h))
/-- a row of a table, as data -/
def rowP (q : Str × Int) : PyData := .tuple [.str q.1, .int q.2]
def rowS (q : (Str × Str) × Int) : PyData := .tuple [.tuple [.str q.1.1, .str q.1.2], .int q.2]
theorem shw_rowP {q : Str × Int} (h : sgB q.1 = true) (h0 : 0 ≤ q.2) (h1 : q.2 ≤ 60) : Shw (rowP q) 13 1 := shw_tuple (n := 3) (k := 0) (xs := [.str q.1, .int q.2]) fun x hx => by
  simp only [List.mem_cons, List.not_mem_nil, or_false] at hx
  rcases hx with rfl | rfl
  · exact shw_sign h
  · exact (shw_int h0 h1).mono (by decide) (Nat.le_refl _)
theorem shw_rowS {q : (Str × Str) × Int} (h : sgB q.1.1 = true) (h' : sgB q.1.2 = true) (h0 : 0 ≤ q.2) (h1 : q.2 ≤ 60) : Shw (rowS q) 33 2 := shw_tuple (n := 13) (k := 1) (xs := [.tuple [.str q.1.1, .str q.1.2], .int q.2]) fun x hx => by
  simp only [List.mem_cons, List.not_mem_nil, or_false] at hx
  rcases hx with rfl | rfl
  · exact shw_tuple (n := 3) (k := 0) (xs := [.str q.1.1, .str q.1.2]) fun x hx => by
      simp only [List.mem_cons, List.not_mem_nil, or_false] at hx
      rcases hx with rfl | rfl
      · exact shw_sign h
      · exact shw_sign h'
  · exact (shw_int h0 h1).mono (by decide) (by decide)
/-- all tables, as data -/
def tabD (t1 t2 : PTab) (t3 : STab) : PyData := .list [.tuple ((t1.map (·.1)).map PyData.str), .list (t1.map rowP), .list (t2.map rowP), .list (t3.map rowS)]
theorem shw_tab {t1 t2 : PTab} {t3 : STab} (r : RtT t1 t2 t3) : Shw (tabD t1 t2 t3) 2818 4 := by
  have hrt := r.rt
  unfold rightB at hrt
  simp only [Bool.and_eq_true] at hrt
  have b1 : ∀ p ∈ t1, 0 ≤ p.2 ∧ p.2 ≤ 60 := fun p hp => by
    have h := List.all_eq_true.mp hrt.1 p hp
    unfold nwB at h
    simp only [Bool.and_eq_true, decide_eq_true_eq] at h
    omega
  have b2 : ∀ p ∈ t2, 0 ≤ p.2 ∧ p.2 ≤ 60 := fun p hp => by
    have h := List.all_eq_true.mp hrt.2.2.1 p hp
    unfold nwB at h
    simp only [Bool.and_eq_true, decide_eq_true_eq] at h
    omega
  have b3 : ∀ p ∈ t3, 0 ≤ p.2 ∧ p.2 ≤ 60 := fun p hp => by
    have h := List.all_eq_true.mp hrt.2.2.2 p hp
    unfold nwB at h
    simp only [Bool.and_eq_true, decide_eq_true_eq] at h
    omega
  have sgk : ∀ z ∈ t1.map (·.1), sgB z = true := fun z hz => by
    obtain ⟨q, hq, rfl⟩ := List.mem_map.mp hz
    exact r.ag.sg q hq
  have l1 := r.ag.l1
  have l2 := r.ag.l2
  have l3 := r.ag.l3
  have w1 : Shw (.tuple ((t1.map (·.1)).map PyData.str)) 28 1 := by
    have := shw_tuple (n := 3) (k := 0) (xs := (t1.map (·.1)).map PyData.str) fun x hx => by
      obtain ⟨z, hz, rfl⟩ := List.mem_map.mp hx
      exact shw_sign (sgk z hz)
    refine this.mono ?_ (Nat.le_refl _)
    rw [List.length_map, List.length_map]
    omega
  have w2 : ∀ {t : PTab}, t.length ≤ 5 → (∀ p ∈ t, sgB p.1 = true) → (∀ p ∈ t, 0 ≤ p.2 ∧ p.2 ≤ 60) → Shw (.list (t.map rowP)) 77 2 := fun {t} hl hs hb => by
    have := shw_list (n := 13) (k := 1) (xs := t.map rowP) fun x hx => by
      obtain ⟨q, hq, rfl⟩ := List.mem_map.mp hx
      exact shw_rowP (hs q hq) (hb q hq).1 (hb q hq).2
    refine this.mono ?_ (Nat.le_refl _)
    rw [List.length_map]
    omega
  have w3 : Shw (.list (t3.map rowS)) 702 3 := by
    have := shw_list (n := 33) (k := 2) (xs := t3.map rowS) fun x hx => by
      obtain ⟨q, hq, rfl⟩ := List.mem_map.mp hx
      have h := r.ag.pr q hq
      exact shw_rowS (sgk _ h.1) (sgk _ h.2.1) (b3 q hq).1 (b3 q hq).2
    refine this.mono ?_ (Nat.le_refl _)
    rw [List.length_map]
    omega
  refine (shw_list (n := 702) (k := 3) fun x hx => ?_).mono (by show 4 * (702 + 2) + 2 ≤ 2818; decide) (Nat.le_refl _)
  simp only [List.mem_cons, List.not_mem_nil, or_false] at hx
  rcases hx with rfl | rfl | rfl | rfl
  · exact w1.mono (by decide) (by decide)
  · exact (w2 l1 r.ag.sg b1).mono (by decide) (by decide)
  · exact (w2 l2 r.ag.sg2 b2).mono (by decide) (by decide)
  · exact w3
end Mk

set_option Elab.async false
set_option linter.all false
set_option maxRecDepth 100000
set_option maxHeartbeats 1000000
/-! closed prices, held against the costs -/
namespace Mk
open PySem PySem.Spec L2 PyProof.Rows

abbrev sCR : Stmt := top 50
abbrev nCR : List Str := ["_law_table", "_law_prices", "_law_told", "_law_letters", "_law_one", "_law_other", "_law_pair"]
section
variable {t1 t2 r1 r2 : PTab} {t3 r3 : STab} {cf : Str → Str → Int}
theorem CtW.w1 (W : CtW t1 t2 t3 r1 r2 r3 cf) (R : RtT t1 t2 t3) {s : Str} (hs : s ∈ t1.map (·.1)) : look r1 s = cf "" s := by
  rw [look_prm W.p1 (W.rt R).ag.nd, tabP_look hs]
theorem CtW.w2 (W : CtW t1 t2 t3 r1 r2 r3 cf) (R : RtT t1 t2 t3) {s : Str} (hs : s ∈ t1.map (·.1)) : look r2 s = cf s "" := by
  rw [look_prm W.p2 ((W.rt R).ag.pm.nodup_iff.mpr (W.rt R).ag.nd), tabP_look hs]
theorem CtW.w3 (W : CtW t1 t2 t3 r1 r2 r3 cf) (R : RtT t1 t2 t3) {x y : Str} (hx : x ∈ t1.map (·.1)) (hy : y ∈ t1.map (·.1)) (ne : x ≠ y) : look r3 (x, y) = cf x y := by
  rw [look_prm W.p3 (W.rt R).nd, tabS_look (mem_pairs.mpr ⟨hx, hy, ne⟩)]
theorem CtW.wc (W : CtW t1 t2 t3 r1 r2 r3 cf) (R : RtT t1 t2 t3) {x y : Str} (hx : x ∈ plc t1) (hy : y ∈ plc t1) : Mk.cc t1 t2 t3 x y = cf x y := (cl_of R).uniq W.cl hx hy
theorem CtW.wr (W : CtW t1 t2 t3 r1 r2 r3 cf) (R : RtT t1 t2 t3) {x y : Str} (hx : x ∈ plc t1) (hy : y ∈ plc t1) : Mk.cc r1 r2 r3 x y = cf x y := by
  have k : ∀ {z : Str}, z ∈ plc t1 → z ∈ plc r1 := fun {z} hz => by
    rcases List.mem_cons.mp hz with rfl | hz
    · exact em_in
    · exact List.mem_cons_of_mem _ (W.keys1.mem_iff.mpr hz)
  exact (cl_of (W.rt R)).uniq (W.self R).cl (k hx) (k hy)
end
theorem crn_congr {e : Str} {c d : Str → Str → Int} {P : Str → Prop} (he : P e) (h : ∀ x y, P x → P y → c x y = d x y) : ∀ {u v : List Str}, (∀ x ∈ u, P x) → (∀ x ∈ v, P x) → crn e c u v = crn e d u v
  | [], [], _, _ => by rw [crn, crn]
  | [], b :: v, hu, hv => by
    rw [crn, crn, crn_congr he h hu fun x hx => hv x (List.mem_cons_of_mem _ hx), h e b he (hv b List.mem_cons_self)]
  | a :: u, [], hu, hv => by
    rw [crn, crn, crn_congr he h (fun x hx => hu x (List.mem_cons_of_mem _ hx)) hv, h a e (hu a List.mem_cons_self) he]
  | a :: u, b :: v, hu, hv => by
    have hu' : ∀ x ∈ u, P x := fun x hx => hu x (List.mem_cons_of_mem _ hx)
    have hv' : ∀ x ∈ v, P x := fun x hx => hv x (List.mem_cons_of_mem _ hx)
    have pa := hu a List.mem_cons_self
    have pb := hv b List.mem_cons_self
    rw [crn, crn, crn_congr he h hu' hv, crn_congr he h hu hv', crn_congr he h hu' hv', h a e pa he, h e b he pb, h a b pa pb]
termination_by u v => u.length + v.length
theorem crn_few {e : Str} {c : Str → Str → Int} {P : Str → Prop} (h1 : ∀ x, P x → c x e ≤ 9) (h2 : ∀ x, P x → c e x ≤ 9) : ∀ {u v : List Str}, (∀ x ∈ u, P x) → (∀ x ∈ v, P x) → crn e c u v ≤ 9 * ((u.length : Int) + (v.length : Int))
  | [], [], _, _ => by
    rw [crn]
    decide
  | [], b :: v, hu, hv => by
    have := crn_few h1 h2 hu fun x hx => hv x (List.mem_cons_of_mem _ hx)
    have := h2 b (hv b List.mem_cons_self)
    rw [crn, List.length_cons]
    omega
  | a :: u, v, hu, hv => by
    have k := crn_few (v := v) h1 h2 (fun x hx => hu x (List.mem_cons_of_mem _ hx)) hv
    have k2 := h1 a (hu a List.mem_cons_self)
    have := (Aln.out (a := a) (crn_aln (e := e) (c := c) u v)).ge
    rw [List.length_cons]
    omega
section
variable {t1 t2 u1 u2 : PTab} {t3 u3 : STab}
theorem ds_perm (R : RtT t1 t2 t3) (p1 : u1.Perm t1) (p2 : u2.Perm t2) (p3 : u3.Perm t3) {x y : Str} (hx : ∀ z ∈ sgs x, z ∈ t1.map (·.1)) (hy : ∀ z ∈ sgs y, z ∈ t1.map (·.1)) : ds u1 u2 u3 x y = ds t1 t2 t3 x y := by
  have W := ct_of R
  have V := W.order R p1 p2 p3
  have Ru := R.perm p1 p2 p3
  have k : ∀ {z : Str}, z ∈ plc t1 → z ∈ plc u1 := fun {z} hz => by
    rcases List.mem_cons.mp hz with rfl | hz
    · exact em_in
    · exact List.mem_cons_of_mem _ ((p1.map (·.1)).mem_iff.mpr hz)
  refine crn_congr (P := (· ∈ plc t1)) em_in (fun a b ha hb => ?_) (fun z hz => List.mem_cons_of_mem _ (hx z (List.mem_reverse.mp hz))) fun z hz => List.mem_cons_of_mem _ (hy z (List.mem_reverse.mp hz))
  rw [W.wc R ha hb, V.wc Ru (k ha) (k hb)]
theorem ds_closed {r1 r2 : PTab} {r3 : STab} {cf : Str → Str → Int} (R : RtT t1 t2 t3) (W : CtW t1 t2 t3 r1 r2 r3 cf) {x y : Str} (hx : ∀ z ∈ sgs x, z ∈ t1.map (·.1)) (hy : ∀ z ∈ sgs y, z ∈ t1.map (·.1)) : ds r1 r2 r3 x y = ds t1 t2 t3 x y := by
  refine crn_congr (P := (· ∈ plc t1)) em_in (fun a b ha hb => ?_) (fun z hz => List.mem_cons_of_mem _ (hx z (List.mem_reverse.mp hz))) fun z hz => List.mem_cons_of_mem _ (hy z (List.mem_reverse.mp hz))
  rw [W.wc R ha hb, W.wr R ha hb]
theorem ds_few (R : RtT t1 t2 t3) {x y : Str} (hx : ∀ z ∈ sgs x, z ∈ t1.map (·.1)) (hy : ∀ z ∈ sgs y, z ∈ t1.map (·.1)) (lx : x.length ≤ 8) (ly : y.length ≤ 8) : 0 ≤ ds t1 t2 t3 x y ∧ ds t1 t2 t3 x y ≤ 144 := by
  have bd := R.bds
  have ne : ∀ {z : Str}, z ∈ t1.map (·.1) → z ≠ "" := fun hz e => em_not R.ag (e ▸ hz)
  have pl : ∀ {z : Str}, z ∈ t1.map (·.1) → z ∈ plc t1 := fun hz => List.mem_cons_of_mem _ hz
  have c1 : ∀ z, z ∈ t1.map (·.1) → cc t1 t2 t3 z "" ≤ 9 := fun z hz => by
    have := (cl_of R).le _ (pl hz) _ em_in
    unfold dd at this
    rw [if_neg (ne hz), if_neg (ne hz), if_pos rfl] at this
    exact Int.le_trans this (look_b bd.b2 (R.ag.pm.mem_iff.mpr hz)).2
  have c2 : ∀ z, z ∈ t1.map (·.1) → cc t1 t2 t3 "" z ≤ 9 := fun z hz => by
    have := (cl_of R).le _ em_in _ (pl hz)
    unfold dd at this
    rw [if_neg (ne hz).symm, if_pos rfl] at this
    exact Int.le_trans this (look_b bd.b1 hz).2
  have nn : ∀ x y, x ∈ plc t1 → y ∈ plc t1 → 0 ≤ cc t1 t2 t3 x y := fun x y hx hy => by
    by_cases e : x = y
    · rw [e, (cl_of R).zero y hy]
      exact Int.le_refl _
    · exact Int.le_trans (by decide) (cl_least R.ag (cl_of R) (m := 1) (by decide) bd.b1 bd.b2 bd.b3 hx hy e)
  have a1 : ∀ z ∈ (sgs x).reverse, z ∈ t1.map (·.1) := fun z hz => hx z (List.mem_reverse.mp hz)
  have a2 : ∀ z ∈ (sgs y).reverse, z ∈ t1.map (·.1) := fun z hz => hy z (List.mem_reverse.mp hz)
  refine ⟨(crn_aln (e := ("" : Str)) (c := cc t1 t2 t3) _ _).pos (P := (· ∈ plc t1)) nn em_in (fun z hz => pl (a1 z hz)) fun z hz => pl (a2 z hz), ?_⟩
  have := crn_few (P := (· ∈ t1.map (·.1))) c1 c2 a1 a2
  rw [List.length_reverse, List.length_reverse, sgs_length, sgs_length] at this
  unfold ds
  omega
theorem ds_put (R : RtT t1 t2 t3) {s : Str} (hs : s ∈ t1.map (·.1)) (l : s.length = 1) : ds t1 t2 t3 "" s = cc t1 t2 t3 "" s := by
  unfold ds
  rw [mk_len l]
  show crn _ _ [] [s] = _
  rw [crn, crn]
  omega
theorem ds_out (R : RtT t1 t2 t3) {s : Str} (hs : s ∈ t1.map (·.1)) (l : s.length = 1) : ds t1 t2 t3 s "" = cc t1 t2 t3 s "" := by
  unfold ds
  rw [mk_len l]
  show crn _ _ [s] [] = _
  rw [crn, crn]
  omega
theorem ds_swap (R : RtT t1 t2 t3) {s t : Str} (hs : s ∈ t1.map (·.1)) (ht : t ∈ t1.map (·.1)) (l : s.length = 1) (l' : t.length = 1) : ds t1 t2 t3 s t = cc t1 t2 t3 s t := by
  have tr := (cl_of R).tri s (List.mem_cons_of_mem _ hs) t (List.mem_cons_of_mem _ ht) "" em_in
  unfold ds
  rw [mk_len l, mk_len l']
  show crn _ _ [s] [t] = _
  rw [crn, crn, crn, crn, crn, crn]
  omega
end
def spCR (C : Addr) : Sp := fun vs H Q _ => ∃ (L a b c x : Addr) (t1 t2 : PTab) (t3 : STab) (u1 u2 : PTab) (u3 : STab), vs = [.ref L, .ref x] ∧ Rec H L a b c t1 t2 t3 ∧ t1.length ≤ 3 ∧ PrAt C H x u1 u2 u3 ∧ RtT u1 u2 u3 ∧ Srt u1 u2 u3 ∧ u1.Perm t1 ∧ ∀ H', Same H H' → Q (.bl true) H'
section
variable {P : Program} {w : World} {K : PySem.W.Frag} {mg : Str → Option Value} {base : Heap}
theorem scCR : FnScope nCR ["_law_table", "_law_prices"] (defScope sCR) := ⟨rfl, rfl, rfl, by decide +kernel, rfl, by decide +kernel, by decide +kernel⟩
theorem ne_eq {i j : Int} (h : i = j) : (!decide (V.int i = V.int j)) = false := by
  rw [h]
  simp
theorem ok_cr {f C : Addr} {fd : FuncData} (F : Fun K "_law_closed_right" "_law_closed_right" sCR f fd) (T : Pc K C) (O : On mg) (Ck : Md P w K mg base C CX0 8 "closed" ["self"] (spClosed C)) (D : Cd P w K mg base 5 "distance" ["one", "other", "prices"] (spDist C)) (P1 : Pd P w K mg base C 2 "put" (spTabP C fun t _ => t)) (P2 : Pd P w K mg base C 2 "out" (spTabP C fun _ t => t)) (P3 : Pd P w K mg base C 2 "swap" (spTabS C)) : FnOk P w K mg base CX0 9 f fd ["_law_table", "_law_prices"] (spCR C) := by
  obtain ⟨d, dd, G, gm, gk, gb⟩ := D.ex
  obtain ⟨gc, dc, Mc, Gc, bc⟩ := Ck.ex
  obtain ⟨p1, g1, e1, O1, G2, c1⟩ := P1.ex
  obtain ⟨p2, g2, e2, O2, G3, c2⟩ := P2.ex
  obtain ⟨p3, g3, e3, O3, G4, c3⟩ := P3.ex
  refine F.ok scCR (fun vs H Q E h => ?_) (fun cdv A outer s H vs Q E hr h => ?_)
  · obtain ⟨L, a, b, c, x, t1, t2, t3, u1, u2, u3, rfl, _⟩ := h
    rfl
  · obtain ⟨L, a, b, c, x, t1, t2, t3, u1, u2, u3, rfl, r, l3, px, Ru, sru, pu, q⟩ := h
    have hu := hu_of hr
    have r2 : Room 3 _ := hr.mono (by decide)
    have r5 : Room 5 _ := hr.mono (by decide)
    refine ⟨_, pss_cons (ps_par (i := 2) (j := 3) rfl scCR.nd rfl rfl (by decide) rfl rfl (pa_cons (pe_meth0 (pv 1) T.cl Mc Gc hr bc .nil pass0) (pa_cons (pe_callB (call_sortedD rfl) (by rfl) O.sorted (by decide +kernel) (pa_cons (pe_ix ix_list (pv 0) pe_int (fun _ _ => rfl)) pa_nil)) pa_nil)) (by rfl))
      (pss_cons (ps_for PassesOwn.never rfl (pi_list (pv 3)) (pg_name (i := 4) scCR.nd rfl (.inl rfl))
        (pss_cons (ps_if (PW.pt (pw_or (pt_cmpR op_ne (pe_dget hu (pe_prop (pv 2) T.cl O1 G2 r2 c1 .nil pass0 rfl) (pv 4) (fun _ _ => rfl)) (pe_call G r5 (by rfl) gm gk gb .nil pass0 (pa_cons pe_str (pa_cons (pv 4) (pa_cons (pv 1) pa_nil)))) (nomark _))
            (pw_or1 (pt_cmpR op_ne (pe_dget hu (pe_prop (pv 2) T.cl O2 G3 r2 c2 .nil pass0 rfl) (pv 4) (fun _ _ => rfl)) (pe_call G r5 (by rfl) gm gk gb .nil pass0 (pa_cons (pv 4) (pa_cons pe_str (pa_cons (pv 1) pa_nil)))) (nomark _))))) (pss_one (ps_ret pe_bl)) pss_nil)
        (pss_one (ps_for PassesOwn.never rfl (pi_list (pv 3)) (pg_name (i := 5) scCR.nd rfl (.inl rfl))
          (pss_cons (ps_set (i := 6) scCR.nd rfl (.inl rfl) (pe_tup (pa_cons (pv 4) (pa_cons (pv 5) pa_nil))))
          (pss_one (ps_if (PW.pt (pw_and (pt_cmpR op_ne (pv 4) (pv 5) (nomark _)) (pw_and1 (pt_cmpR op_ne (pe_dget hu (pe_prop (pv 2) T.cl O3 G4 r2 c3 .nil pass0 rfl) (pv 6) (fun _ _ => rfl)) (pe_call G r5 (by rfl) gm gk gb .nil pass0 (pa_cons (pv 4) (pa_cons (pv 5) (pa_cons (pv 1) pa_nil)))) (nomark _))))) (pss_one (ps_ret pe_bl)) pss_nil)))))))
      (pss_one (ps_ret pe_bl))), ?_⟩
    have n2 : 2 ≤ sizeLine := by decide
    have ag := Ru.ag
    obtain ⟨dx, tx, ax, bx, cx, hx0, _, _⟩ := id px
    have fc : ∀ t a b c : Addr, List.lookup ("closed" : Str) (fldP t a b c) = none := fld_no (by decide +kernel) (by decide +kernel) (by decide +kernel) (by decide +kernel)
    refine ⟨_, rfl, x, dx, _, rfl, hx0, fc _ _ _ _, x, u1, u2, u3, rfl, px, Ru, sru, fun H1 y v1 v2 v3 cf s1 y0 py W sry => ?_⟩
    refine ⟨_, rfl, L, _, _, _, rfl, rfl, SqL.of (s1 _ _ r.l), atI_nat (j := 0) rfl, a, kvsP t1, t1.map (·.1), rfl, .inl (s1 _ _ r.t.p), kvsP_keys t1, by rw [List.length_map]; omega, fun ys S pys so hS => ⟨_, _, rfl, ?_⟩⟩
    have s2 := Same.trans s1 (Same.new (o := .lst (ys.map V.str)) hS)
    have py2 := py.same (Same.new (o := .lst (ys.map V.str)) hS)
    have eS : (upd H1 S (.lst (ys.map V.str))) S = some (.lst (ys.map V.str)) := upd_same
    have px2 := px.same s2
    generalize upd H1 S (.lst (ys.map V.str)) = H2 at s2 py2 eS px2 ⊢
    clear s1 py hS hx0 y0
    have mem : ∀ z ∈ ys, z ∈ u1.map (·.1) := fun z hz => (pu.map (·.1)).mem_iff.mpr (pys.mem_iff.mp hz)
    have one : ∀ {z : Str}, z ∈ u1.map (·.1) → z.length = 1 := fun {z} hz => by
      obtain ⟨p, hp, rfl⟩ := List.mem_map.mp hz
      have := ag.sg p hp
      unfold sgB at this
      simp only [Bool.and_eq_true, decide_eq_true_eq] at this
      exact this.1
    have sgo : ∀ {z : Str}, z ∈ u1.map (·.1) → ∀ k ∈ sgs z, k ∈ u1.map (·.1) := fun {z} hz k hk => by
      rw [mk_len (one hz)] at hk
      rw [List.mem_singleton.mp hk]
      exact hz
    have sge : ∀ k ∈ sgs (""  : Str), k ∈ u1.map (·.1) := fun k hk => (List.not_mem_nil (show k ∈ [] from hk)).elim
    have pl : ∀ {z : Str}, z ∈ u1.map (·.1) → z ∈ plc u1 := fun hz => List.mem_cons_of_mem _ hz
    have Rv := W.rt Ru
    have k1 := Rv.ag.l1
    have k2 := Rv.ag.l2
    have k3 := Rv.ag.l3
    have nd2 : (v2.map (·.1)).Nodup := Rv.ag.pm.nodup_iff.mpr Rv.ag.nd
    obtain ⟨dy, ty, ay, by_, cy, hy0, _, _⟩ := id py2
    obtain ⟨dx, tx, ax, bx, cx, hx0, _, _⟩ := id px2
    refine ⟨_, rfl, S, rfl, ⟨_, SqL.of eS⟩, for_it (walk_list (K := K) (a := S) (xs := ys.map V.str)) (fun i σ H3 => (∃ o4 o5 o6, σ = [some (.ref L), some (.ref x), some (.ref y), some (.ref S), o4, o5, o6]) ∧ Same H2 H3) ?_ (fun i σ H3 _ h3 => SqL.of (h3.2 _ _ eS)) ?_ ?_⟩
    · exact ⟨⟨_, _, _, rfl⟩, fun _ _ e => e⟩
    · rintro i z σ H3 H4 hi ⟨⟨o4, o5, o6, rfl⟩, s3⟩ ⟨rfl, hz⟩
      rw [List.length_map] at hi
      have ez : z = V.str ys[i] := by
        rw [List.getElem?_map, List.getElem?_eq_getElem hi] at hz
        exact (Option.some.inj hz).symm
      subst ez
      have m := mem _ (List.getElem_mem hi)
      generalize ys[i] = s at m ⊢
      clear hi hz
      have ls := one m
      have v1s := valP (W.keys1.mem_iff.mpr m)
      rw [W.w1 Ru m] at v1s
      have v2s := valP (W.keys2.mem_iff.mpr m)
      rw [W.w2 Ru m] at v2s
      refine ⟨_, rfl, y, dy, _, rfl, s3 _ _ hy0, y, v1, v2, v3, rfl, py2.same s3, Rv.ag.nd, (by show v1.length ≤ 60; omega), sry, fun H10 D1 s10 f10 e10 => ⟨_, rfl, D1, .int _, rfl, .inl ⟨kvsP v1, Sum.inr s, .inl e10, rfl, v1s.symm⟩, ?_⟩⟩
      have s11 := Same.trans s3 s10
      refine ⟨_, rfl, _, rfl, "", s, x, u1, u2, u3, rfl, px2.same s11, Ru, sru, sge, sgo m, by decide, by omega, fun H12 s12 => ⟨rfl, _, rfl, ?_⟩⟩
      have s13 := Same.trans s11 s12
      rw [ne_eq (by rw [ds_put Ru m ls, W.wc Ru em_in (pl m)])]
      refine iteF ⟨_, rfl, y, dy, _, rfl, s13 _ _ hy0, y, v1, v2, v3, rfl, py2.same s13, nd2, (by show v2.length ≤ 60; omega), sry, fun H14 D2 s14 f14 e14 => ⟨_, rfl, D2, .int _, rfl, .inl ⟨kvsP v2, Sum.inr s, .inl e14, rfl, v2s.symm⟩, ?_⟩⟩
      have s15 := Same.trans s13 s14
      refine ⟨_, rfl, _, rfl, s, "", x, u1, u2, u3, rfl, px2.same s15, Ru, sru, sgo m, sge, by omega, by decide, fun H16 s16 => ⟨rfl, _, rfl, ?_⟩⟩
      have s17 := Same.trans s15 s16
      rw [ne_eq (by rw [ds_out Ru m ls, W.wc Ru (pl m) em_in])]
      refine iteF ⟨_, rfl, S, rfl, ⟨_, SqL.of (s17 _ _ eS)⟩, for_it (walk_list (K := K) (a := S) (xs := ys.map V.str)) (fun j σ H5 => (∃ o5 o6, σ = [some (.ref L), some (.ref x), some (.ref y), some (.ref S), some (.str s), o5, o6]) ∧ Same H2 H5) ?_ (fun i σ H3 _ h3 => SqL.of (h3.2 _ _ eS)) ?_ ?_⟩
      · exact ⟨⟨_, _, rfl⟩, s17⟩
      · clear s3 s10 f10 e10 s11 s12 s13 s14 f14 e14 s15 s16 s17
        rintro j z σ H5 H6 hj ⟨⟨o5, o6, rfl⟩, s5⟩ ⟨rfl, hz⟩
        rw [List.length_map] at hj
        have ez : z = V.str ys[j] := by
          rw [List.getElem?_map, List.getElem?_eq_getElem hj] at hz
          exact (Option.some.inj hz).symm
        subst ez
        have m' := mem _ (List.getElem_mem hj)
        generalize ys[j] = t at m' ⊢
        clear hj hz
        refine ⟨_, rfl, _, rfl, n2, fun qa hqa => ?_⟩
        have s6 := Same.trans s5 (Same.new (o := .tup [.str s, .str t]) hqa)
        have eq : (upd H6 qa (.tup [.str s, .str t])) qa = some (.tup [.str s, .str t]) := upd_same
        generalize upd H6 qa (.tup [.str s, .str t]) = H7 at s6 eq ⊢
        refine ⟨_, rfl, _, rfl, rfl, _, rfl, ?_⟩
        by_cases ne : s = t
        · have e : (!decide (V.str s = V.str t)) = false := by rw [decide_eq_true (by rw [ne])]; rfl
          rw [e]
          exact iteF (iteF ⟨⟨_, _, rfl⟩, s6⟩)
        · have e : (!decide (V.str s = V.str t)) = true := by rw [decide_eq_false (fun z => ne (by injection z))]; rfl
          rw [e]
          have v3s := valS (k := (s, t)) (W.keys3.mem_iff.mpr (mem_pairs.mpr ⟨m, m', ne⟩))
          rw [W.w3 Ru m m' ne] at v3s
          refine iteT ⟨_, rfl, y, dy, _, rfl, s6 _ _ hy0, y, v1, v2, v3, rfl, py2.same s6, Rv.nd, (by omega), sry, fun H8 D3 s8 f8 e8 => ⟨_, rfl, D3, .int _, rfl, .inr ⟨kvsS v3, keyOf (s, t), qa, .inl e8, rfl, s8 _ _ eq, v3s.symm⟩, ?_⟩⟩
          have s9 := Same.trans s6 s8
          refine ⟨_, rfl, _, rfl, _, rfl, s, t, x, u1, u2, u3, rfl, px2.same s9, Ru, sru, sgo m, sgo m', by omega, by have := one m'; omega, fun H10 s10 => ⟨rfl, _, rfl, ?_⟩⟩
          rw [ne_eq (by rw [ds_swap Ru m m' ls (one m'), W.wc Ru (pl m) (pl m')])]
          exact iteF ⟨⟨_, _, rfl⟩, Same.trans s9 s10⟩
      · rintro σ H5 ⟨⟨o5, o6, rfl⟩, s5⟩
        exact ⟨⟨_, _, _, rfl⟩, s5⟩
    · rintro σ H3 ⟨⟨o4, o5, o6, rfl⟩, s3⟩
      exact q _ (Same.trans s2 s3)
end
end Mk

set_option Elab.async false
set_option linter.all false
set_option maxRecDepth 100000
set_option maxHeartbeats 1000000
/-! some signs drawn -/
namespace Mk
open PySem PySem.Spec L2 PyProof.Rows

abbrev sAlph : Stmt := top 43
abbrev nChs : List Str := ["_law_cup_here", "_law_items", "_law_many", "_law_left", "_law_found", "_law_turn"]
theorem map_erase {α β : Type} (f : α → β) : ∀ (l : List α) (k : Nat), (l.eraseIdx k).map f = (l.map f).eraseIdx k
  | [], _ => rfl
  | _ :: _, 0 => rfl
  | a :: l, k + 1 => by
    rw [List.eraseIdx_cons_succ, List.map_cons, List.map_cons, List.eraseIdx_cons_succ, map_erase f l k]
def spChoices : Sp := fun vs H Q _ => ∃ (p : Addr) (z : Str) (n m : Nat), vs = [.ref p, .str z, .int m] ∧ z.length < 1000 ∧ m ≤ z.length ∧ Pot H p n ∧ n + m < PB ∧
  ∀ H' D (zs rest : List Str), But p H H' → H D = none → H' D = some (.lst (zs.map V.str)) → zs.length = m → (zs ++ rest).Perm (sgs z) → Pot H' p (n + m) → Q (.ref D) H'
def spAlph : Sp := fun vs H Q _ => ∃ (p : Addr) (n : Nat), vs = [.ref p, .int 3] ∧ Pot H p n ∧ n + 6 < PB ∧
  ∀ H' S (zs : List Str), But p H H' → H S = none → H' S = some (.lst (zs.map V.str)) → SgL zs → zs.length ≤ 3 → Pot H' p (n + 6) → Q (.ref S) H'
section
variable {P : Program} {w : World} {K : PySem.W.Frag} {mg : Str → Option Value} {base : Heap}
theorem scChs : FnScope nChs ["_law_cup_here", "_law_items", "_law_many"] (defScope sChoices) := ⟨rfl, rfl, rfl, by decide +kernel, rfl, by decide +kernel, by decide +kernel⟩
theorem ok_choices {f : Addr} {fd : FuncData} (F : Fun K "_law_choices" "_law_choices" sChoices f fd) (B : Bn mg) (D : Cd P w K mg base 1 "_law_toss" ["_law_cup_here", "_law_total"] spDip) : FnOk P w K mg base CX0 2 f fd ["_law_cup_here", "_law_items", "_law_many"] spChoices := by
  obtain ⟨d, dd, G, gm, gk, gb⟩ := D.ex
  refine F.ok scChs (fun vs H Q E h => ?_) (fun cdv A outer s H vs Q E hr h => ?_)
  · obtain ⟨p, z, n, m, rfl, _⟩ := h
    rfl
  · obtain ⟨p, z, n, m, rfl, hz, hm, hp, hn, q⟩ := h
    refine ⟨_, pss_cons (ps_par (i := 3) (j := 4) rfl scChs.nd rfl rfl (by decide) rfl rfl (pa_cons (pe_callTy (call_listS rfl) (by rfl) B.list (by decide +kernel) (pa_cons (pv 1) pa_nil)) (pa_cons (pe_lst pa_nil) pa_nil)) (by rfl))
      (pss_cons (ps_for PassesOwn.never rfl (pi_range1 (by rfl) B.range (pa_cons (pe_callB (call_min2 rfl) (by rfl) B.min (by decide +kernel) (pa_cons (pv 2) (pa_cons (pe_callB call_len_str (by rfl) B.len PySem.boot_len (pa_cons (pv 1) pa_nil)) pa_nil))) pa_nil)) (pg_name (i := 5) scChs.nd rfl (.inl rfl))
        (pss_one (ps_expr (pe_bm PySem.F.plainAttrs_list PySem.F.slot_list_append PySem.F.type_list_append mt_append (pv 4) (pa_cons (pe_bm PySem.F.plainAttrs_list PySem.F.slot_list_pop PySem.F.type_list_pop mt_popAt (pv 3) (pa_cons (pe_call G hr (by rfl) gm gk gb .nil pass0 (pa_cons (pv 0) (pa_cons (pe_callB call_len_seq (by rfl) B.len PySem.boot_len (pa_cons (pv 3) pa_nil)) pa_nil))) pa_nil)) pa_nil)))))
      (pss_one (ps_ret (pv 4)))), ?_⟩
    have hzs : z.length ≤ sizeLine := Nat.le_trans (Nat.le_of_lt hz) (by decide)
    have hxl : (sgs z).length = z.length := by
      rw [sgs, List.length_map]
      rfl
    refine ⟨_, rfl, z, rfl, hzs, fun l hl0 => ⟨Nat.zero_le _, fun D hD => ⟨_, _, rfl, ?_⟩⟩⟩
    have hpl : p ≠ l := hp.ne hl0
    have hDl : D ≠ l := (ne_of_none (upd_same : upd H l (.lst ((sgs z).map V.str)) l = some (.lst ((sgs z).map V.str))) hD).symm
    have hD0 : H D = none := by rw [upd_ne hDl] at hD; exact hD
    refine ⟨_, rfl, _, rfl, z, rfl, hzs, _, _, rfl, _, rfl, ?_⟩
    have em : (if ((z.length : Nat) : Int) < (m : Int) then ((z.length : Nat) : Int) else (m : Int)) = (m : Int) := if_neg (by omega)
    rw [em]
    refine ⟨by omega, by omega, ?_⟩
    rw [Int.toNat_natCast]
    refine for_range (lo := 0) (n := m) (fun i σ H1 => (∃ o5, σ = [some (.ref p), some (.str z), some (.int m), some (.ref l), some (.ref D), o5]) ∧ ∃ (ys left : List Str), But p H H1 ∧ H1 l = some (.lst (left.map V.str)) ∧ H1 D = some (.lst (ys.map V.str)) ∧ ys.length = i ∧ (ys ++ left).Perm (sgs z) ∧ Pot H1 p (n + i)) ?_ ?_ ?_
    · refine ⟨⟨_, rfl⟩, [], sgs z, (But.up (But.up But.refl hl0) hD0), ?_, upd_same, rfl, .refl _, (hp.up hpl).up (hp.ne hD0)⟩
      rw [upd_ne hDl.symm]
      exact upd_same
    · rintro i σ H1 hi ⟨⟨o5, rfl⟩, ys, left, hB, h1, h2, hy, hperm, hP⟩
      have hlen : left.length = z.length - i := by
        have := hperm.length_eq
        rw [List.length_append] at this
        omega
      refine ⟨_, rfl, .inl ⟨rfl, _, SqL.of h2⟩, _, rfl, .inl ⟨rfl, _, SqL.of h1⟩, _, rfl, _, rfl, l, left.map V.str, rfl, .inl (SqL.of h1), p, n + i, _, rfl, hP, by omega, by rw [List.length_map]; omega, by rw [List.length_map]; omega, fun H2 k hb hf hP2 hk0 hk1 => ?_⟩
      rw [List.length_map] at hk1
      have hkn : k.toNat < left.length := by omega
      have hlp : l ≠ p := hpl.symm
      have h1' := hb _ _ hlp h1
      have h2' := hb _ _ (hp.ne hD0).symm h2
      refine ⟨l, left.map V.str, k, k.toNat, V.str left[k.toNat], rfl, rfl, h1', by omega, by omega, by rw [List.length_map]; exact seq_at hk0 hk1, by rw [List.getElem?_map, List.getElem?_eq_getElem hkn]; rfl, ?_⟩
      refine ⟨D, ys.map V.str, _, rfl, rfl, by rw [upd_ne hDl]; exact h2', by rw [List.length_map]; exact Nat.lt_of_lt_of_le (by omega : ys.length < 4000) (by decide), ⟨_, rfl⟩, ys ++ [left[k.toNat]], left.eraseIdx k.toNat, But.up (But.up (hB.trans hb) hl0) hD0, ?_, ?_, ?_, ?_, (hP2.up hpl).up (hp.ne hD0)⟩
      · rw [upd_ne hDl.symm, upd_same, map_erase]
      · rw [upd_same, List.map_append]
        rfl
      · rw [List.length_append, hy]
        rfl
      · rw [List.append_assoc]
        exact (List.Perm.append_left ys (perm_erase hkn)).trans hperm
    · rintro σ H1 ⟨⟨o5, rfl⟩, ys, left, hB, h1, h2, hy, hperm, hP⟩
      exact ⟨_, rfl, q _ _ _ _ hB hD0 h2 hy hperm hP⟩
theorem scAlph : FnScope ["_law_cup_here", "_law_most"] ["_law_cup_here", "_law_most"] (defScope sAlph) := ⟨rfl, rfl, rfl, by decide +kernel, rfl, by decide +kernel, by decide +kernel⟩
theorem ok_alph {f : Addr} {fd : FuncData} (F : Fun K "_law_alphabet" "_law_alphabet" sAlph f fd) (O : On mg) (D : Cd P w K mg base 1 "_law_toss" ["_law_cup_here", "_law_total"] spDip) (S : Cd P w K mg base 2 "_law_choices" ["_law_cup_here", "_law_items", "_law_many"] spChoices) : FnOk P w K mg base CX0 3 f fd ["_law_cup_here", "_law_most"] spAlph := by
  obtain ⟨d, dd, G, gm, gk, gb⟩ := D.ex
  obtain ⟨a, da, Gs, sm, sk, sb⟩ := S.ex
  refine F.ok scAlph (fun vs H Q E h => ?_) (fun cdv A outer s H vs Q E hr h => ?_)
  · obtain ⟨p, n, rfl, _⟩ := h
    rfl
  · obtain ⟨p, n, rfl, hp, hn, q⟩ := h
    refine ⟨_, pss_one (ps_ret (pe_callB cr_sortedS (by rfl) O.sorted (by decide +kernel) (pa_cons (pe_call Gs hr (by rfl) sm sk sb .nil pass0 (pa_cons (pv 0) (pa_cons pe_str (pa_cons (pe_op op_add pe_int (pe_call G (hr.mono (by decide)) (by rfl) gm gk gb .nil pass0 (pa_cons (pv 0) (pa_cons (pv 1) pa_nil)))) pa_nil)))) pa_nil))), ?_⟩
    obtain ⟨f1, f2, f3⟩ := five_sg
    have l5 : ("abcde" : Str).length = 5 := by decide +kernel
    refine ⟨_, rfl, _, rfl, _, rfl, p, n, 3, rfl, hp, by omega, by decide, by decide, fun H2 k b2 fr2 P2 k0 k1 => ?_⟩
    obtain ⟨j, rfl⟩ : ∃ j : Nat, k = (j : Int) := ⟨k.toNat, by omega⟩
    refine ⟨_, _, rfl, rfl, p, "abcde", n + 1, j + 1, ?_, by decide +kernel, by omega, P2, by omega, fun H1 L ws rest b1 L0 hL lw pw P1 => ?_⟩
    · exact congrArg (fun x => [V.ref p, V.str "abcde", V.int x]) (show (1 : Int) + (j : Int) = ((j + 1 : Nat) : Int) by omega)
    have ps : ∀ z ∈ ws, z ∈ sgs "abcde" := fun z hz => pw.mem_iff.mp (List.mem_append_left _ hz)
    refine ⟨L, ws, rfl, SqL.of hL, by omega, fun zs S pz so hS => ?_⟩
    have b3 : But p H H1 := b2.trans b1
    have S0 : H S = none := b3.nul P1 hS
    refine q _ S zs (b3.same (Same.new hS)) S0 upd_same ?_ (by have := pz.length_eq; omega) ((P1.up (P1.ne hS)).mono (by omega))
    have lz := pz.length_eq
    refine ⟨fun e => ?_, by omega, fun z hz => f1 z (ps z (pz.mem_iff.mp hz)), ?_, so⟩
    · rw [e] at lz
      simp at lz
      omega
    · exact pz.nodup_iff.mpr ((pw.nodup_iff.mpr f2).sublist (List.sublist_append_left _ _))
end
end Mk

set_option Elab.async false
set_option linter.all false
set_option maxRecDepth 100000
set_option maxHeartbeats 1000000
/-! drawn tables -/
namespace Mk
open PySem PySem.Spec L2 PyProof.Rows

abbrev sRates : Stmt := top 45
abbrev nRates : List Str := ["_law_cup_here", "_law_letters", "_law_most", "_law_wide", "_law_one", "_law_gains", "_law_losses", "_law_turns", "_law_other"]
def spRates : Sp := fun vs H Q _ => ∃ (p S : Addr) (n : Nat) (zs : List Str), vs = [.ref p, .ref S, .int 3] ∧ Pot H p n ∧ n + 100 < PB ∧ H S = some (.lst (zs.map V.str)) ∧ SgL zs ∧ zs.length ≤ 3 ∧
  ∀ H' L a b c t1 t2 t3, But p H H' → Rec H' L a b c t1 t2 t3 → RtT t1 t2 t3 → t1.map (·.1) = zs → t2.map (·.1) = zs → Pot H' p (n + 100) → Q (.ref L) H'
/-- the turns that grow at T -/
structure Trn (zs : List Str) (p T : Addr) (H0 H1 : Hp) (t : STab) (k n : Nat) : Prop where
  but : ∀ b o, b ≠ p → b ≠ T → H0 b = some o → H1 b = some o
  out : H1 T = some (.dT (kvsS t))
  pot : Pot H1 p n
  nd : (t.map (·.1)).Nodup
  le : t.length ≤ k
  ok : ∀ q ∈ t, 1 ≤ q.2 ∧ q.2 ≤ 18
  key : ∀ q ∈ t.map (·.1), q.1 ∈ zs ∧ q.2 ∈ zs ∧ q.1 ≠ q.2
theorem mem_setT {κ : Type} [DecidableEq κ] {t : List (κ × Int)} {k : κ} {i : Int} {q : κ × Int} (h : q ∈ setT t k i) : q ∈ t ∨ q = (k, i) := by
  unfold setT at h
  split at h
  · obtain ⟨p, hp, e⟩ := List.mem_map.mp h
    split at e
    · rename_i hk
      exact .inr (by rw [← e, ← hk])
    · exact .inl (e ▸ hp)
  · rcases List.mem_append.mp h with e | e
    · exact .inl e
    · exact .inr (List.mem_singleton.mp e)
theorem pickW {v : V} (h : v ∈ [V.int 3, V.int 3, V.int 3, V.int 9]) : ∃ m : Int, v = .int m ∧ 3 ≤ m ∧ m ≤ 9 := by
  simp only [List.mem_cons, List.not_mem_nil, or_false] at h
  rcases h with rfl | rfl | rfl | rfl <;> exact ⟨_, rfl, by decide, by decide⟩
theorem pickF {v : V} {w x : Int} (hw : 3 ≤ w) (hw9 : w ≤ 9) (hx : x = 2 * w) (h : v ∈ [V.int 3, V.int w, V.int x]) : ∃ m : Int, v = .int m ∧ 1 ≤ m ∧ m ≤ 18 := by
  simp only [List.mem_cons, List.not_mem_nil, or_false] at h
  rcases h with rfl | rfl | rfl
  · exact ⟨_, rfl, by decide, by decide⟩
  · exact ⟨_, rfl, by omega, by omega⟩
  · exact ⟨_, rfl, by omega, by omega⟩
section
variable {P : Program} {w : World} {K : PySem.W.Frag} {mg : Str → Option Value} {base : Heap}
theorem scRates : FnScope nRates ["_law_cup_here", "_law_letters", "_law_most"] (defScope sRates) := ⟨rfl, rfl, rfl, by decide +kernel, rfl, by decide +kernel, by decide +kernel⟩
theorem ok_rates {f : Addr} {fd : FuncData} (F : Fun K "_law_rates" "_law_rates" sRates f fd) (Dd : Dn mg) (D : Cd P w K mg base 1 "_law_toss" ["_law_cup_here", "_law_total"] spDip) (C : Cd P w K mg base 2 "_law_choice" ["_law_cup_here", "_law_items"] spChoose) : FnOk P w K mg base CX0 3 f fd ["_law_cup_here", "_law_letters", "_law_most"] spRates := by
  obtain ⟨d, dd, G, gm, gk, gb⟩ := D.ex
  obtain ⟨c, dc, Gc, cm, ck, cb⟩ := C.ex
  refine F.ok scRates (fun vs H Q E h => ?_) (fun cdv A outer s H vs Q E hr h => ?_)
  · obtain ⟨p, S, n, zs, rfl, _⟩ := h
    rfl
  · obtain ⟨p, S, n, zs, rfl, hp, hn, hS, sg, hl3, q⟩ := h
    have r1 : Room 1 _ := hr.mono (by decide)
    have hu := hu_of hr
    refine ⟨_, pss_cons (ps_set (i := 3) scRates.nd rfl (.inr rfl) (pe_call Gc hr (by rfl) cm ck cb .nil pass0 (pa_cons (pv 0) (pa_cons (pe_lst (pa_cons (pv 2) (pa_cons (pv 2) (pa_cons (pv 2) (pa_cons pe_int pa_nil))))) pa_nil))))
      (pss_cons (ps_set (i := 5) scRates.nd rfl (.inl rfl) (pe_callTy (call_dictP rfl) (by rfl) Dd.dict (by decide +kernel) (pa_cons (pe_lc (own := [("_law_one", 4)]) (g := gName 4) (tt := tYes) rfl scRates.nd (pi_list (pv 1)) (blkOk_by (N := nRates) (sc := defScope sRates) (by decide +kernel))
          (fun _ _ _ _ _ => pg_name (i := 4) scRates.nd rfl (Or.inl rfl)) (fun _ _ _ _ _ => pts_nil)
          (fun _ _ _ _ _ => pe_tup (pa_cons (pv 4) (pa_cons (pe_op op_add pe_int (pe_call G r1 (by rfl) gm gk gb .nil pass0 (pa_cons (pv 0) (pa_cons (pv 3) pa_nil)))) pa_nil)))) pa_nil)))
      (pss_cons (ps_par (i := 6) (j := 7) rfl scRates.nd rfl rfl (by decide) rfl rfl (pa_cons (pe_callTy (call_dictP rfl) (by rfl) Dd.dict (by decide +kernel) (pa_cons (pe_lc (own := [("_law_one", 4)]) (g := gName 4) (tt := tYes) rfl scRates.nd (pi_list (pv 1)) (blkOk_by (N := nRates) (sc := defScope sRates) (by decide +kernel))
          (fun _ _ _ _ _ => pg_name (i := 4) scRates.nd rfl (Or.inl rfl)) (fun _ _ _ _ _ => pts_nil)
          (fun _ _ _ _ _ => pe_tup (pa_cons (pv 4) (pa_cons (pe_op op_add pe_int (pe_call G r1 (by rfl) gm gk gb .nil pass0 (pa_cons (pv 0) (pa_cons (pv 3) pa_nil)))) pa_nil)))) pa_nil)) (pa_cons pe_dnewT pa_nil)) (by rfl))
      (pss_cons (ps_for PassesOwn.never rfl (pi_list (pv 1)) (pg_name (i := 4) scRates.nd rfl (.inl rfl))
        (pss_one (ps_for PassesOwn.never rfl (pi_list (pv 1)) (pg_name (i := 8) scRates.nd rfl (.inl rfl))
          (pss_one (ps_if (PW.pt (pw_and (pt_cmpR op_ne (pv 4) (pv 8) (nomark _)) (pw_and1 (pt_cmpR op_gt (pe_call G r1 (by rfl) gm gk gb .nil pass0 (pa_cons (pv 0) (pa_cons pe_int pa_nil))) pe_int (nomark _)))))
            (pss_one (ps_asg (pe_op op_add pe_int (pe_call G r1 (by rfl) gm gk gb .nil pass0 (pa_cons (pv 0) (pa_cons (pe_call Gc hr (by rfl) cm ck cb .nil pass0 (pa_cons (pv 0) (pa_cons (pe_lst (pa_cons (pv 2) (pa_cons (pv 3) (pa_cons (pe_op op_mul pe_int (pv 3)) pa_nil)))) pa_nil))) pa_nil)))) (pg_sub (pv 7) (pe_tup (pa_cons (pv 4) (pa_cons (pv 8) pa_nil))) (set_dict hu)))) pss_nil)))))
      (pss_one (ps_ret (pe_lst (pa_cons (pv 5) (pa_cons (pv 6) (pa_cons (pv 7) pa_nil))))))))), ?_⟩
    have pS : S ≠ p := fun e => by
      obtain ⟨_, _, _, ep, _⟩ := hp
      rw [e, ep] at hS
      obtain ⟨z, r, _, k, _⟩ := List.map_eq_cons_iff.mp (by injection Option.some.inj hS with z; exact z.symm)
      cases k
    have nar : ∀ {n m : Nat}, n ≤ m → m ≤ 1000 → n ≤ sizeLine := fun h1 h2 => by rw [sizeLine_eq]; omega
    have lt1 : ∀ {n : Nat}, n ≤ 100 → n < sizeLine := fun h1 => by rw [sizeLine_eq]; omega
    refine ⟨_, rfl, _, rfl, _, rfl, _, rfl, nar (m := 4) (by decide) (by decide), fun l1 hl1 => ⟨p, n, hp.up (hp.ne hl1), by omega, .inl ⟨l1, _, rfl, (hp.ne hl1).symm, upd_same, by decide, by decide, fun H1 v1 N1 m1 => ?_⟩⟩⟩
    obtain ⟨wi, rfl, wi3, wi9⟩ := pickW m1
    have b4 : But p H H1 := (But.refl.new hl1).trans N1.but
    have P4 := N1.pot
    clear N1 hl1 m1
    have lz : (zs.map V.str).length = zs.length := List.length_map _
    have ndz := sg.nd
    have hS4 := b4 _ _ pS hS
    -- the gains
    refine ⟨_, rfl, S, rfl, ⟨_, SqL.of hS4⟩, fun D hD => lc_it (walk_list (K := K) (a := S) (xs := zs.map V.str)) (fun i H6 => H6 S = some (.lst (zs.map V.str)) ∧ Dealt p H H6 D (zs.take i) wi (n + 1 + i)) ?_ (fun i H6 _ h6 => SqL.of h6.1) ?_ ?_⟩
    · exact ⟨(Same.new hD) _ _ hS4, b4.new hD, P4.up (P4.ne hD), [], [], upd_same, .nil, rfl, fun _ h => nomatch h⟩
    · rintro i x H6 H7 hi ⟨e6, W6⟩ ⟨rfl, hx⟩
      rw [List.length_map] at hi
      have ex : x = V.str zs[i] := by
        rw [List.getElem?_map, List.getElem?_eq_getElem hi] at hx
        exact (Option.some.inj hx).symm
      subst ex
      refine ⟨rfl, _, rfl, _, rfl, _, rfl, p, _, wi, rfl, W6.pot, by omega, by omega, by omega, fun H8 k b8 f8 P8 k0 k1 => ⟨_, _, rfl, rfl, (show 2 ≤ sizeLine from nar (m := 2) (by decide) (by decide)), fun t ht => ?_⟩⟩
      have D0 : H D = none := b4.nul P4 hD
      obtain ⟨acc, a1, a2, W9⟩ := W6.next (z := zs[i]) (i := 1 + k) D0 b8 P8 (by omega) (by omega) ht (P4.ne hD).symm
      refine ⟨acc, a1, lt1 (by rw [a2, List.length_take]; omega), ?_, ?_⟩
      · have L8 := b8 _ _ pS e6
        rw [upd_ne (ne_of_none hS4 hD), upd_ne (ne_of_none L8 ht)]
        exact L8
      · have et : zs.take (i + 1) = zs.take i ++ [zs[i]] := by rw [List.take_add_one, List.getElem?_eq_getElem hi]; rfl
        rw [et]
        exact W9
    rintro H6 ⟨e6, W6⟩
    rw [List.length_map] at W6
    rw [List.take_length] at W6
    obtain ⟨ts1, tab1, w1, w2, w3, w4⟩ := W6.ex
    have nd1 : (tab1.map (·.1)).Nodup := by rw [w3]; exact ndz
    refine ⟨D, ts1, kvsP tab1, rfl, SqL.of w1, tups_sq w2, fun d1 hd1 => ?_⟩
    rw [merge_P0 nd1]
    have b6 := W6.but.new (o := .dK (kvsP tab1)) hd1
    have np1 : d1 ≠ p := (W6.pot.ne hd1).symm
    have P6 : Pot (upd H6 d1 (.dK (kvsP tab1))) p (n + 10) := (W6.pot.up np1.symm).mono (by omega)
    have x1 : (upd H6 d1 (.dK (kvsP tab1))) d1 = some (.dK (kvsP tab1)) := upd_same
    have k1 : tab1.map (·.1) = zs := w3
    generalize upd H6 d1 (.dK (kvsP tab1)) = H7 at b6 P6 x1 ⊢
    clear W6 e6 w1 w2 w3 hd1 hD b4 P4 hS4
    -- the losses
    have hS6 := b6 _ _ pS hS
    refine ⟨_, rfl, S, rfl, ⟨_, SqL.of hS6⟩, fun D hD => lc_it (walk_list (K := K) (a := S) (xs := zs.map V.str)) (fun i H6 => (H6 S = some (.lst (zs.map V.str)) ∧ H6 d1 = some (.dK (kvsP tab1))) ∧ Dealt p H H6 D (zs.take i) wi (n + 10 + i)) ?_ (fun i H6 _ h6 => SqL.of h6.1.1) ?_ ?_⟩
    · exact ⟨⟨(Same.new hD) _ _ hS6, (Same.new hD) _ _ x1⟩, b6.new hD, P6.up (P6.ne hD), [], [], upd_same, .nil, rfl, fun _ h => nomatch h⟩
    · rintro i x H6 H7 hi ⟨e6, W6⟩ ⟨rfl, hx⟩
      rw [List.length_map] at hi
      have ex : x = V.str zs[i] := by
        rw [List.getElem?_map, List.getElem?_eq_getElem hi] at hx
        exact (Option.some.inj hx).symm
      subst ex
      refine ⟨rfl, _, rfl, _, rfl, _, rfl, p, _, wi, rfl, W6.pot, by omega, by omega, by omega, fun H8 k b8 f8 P8 k0 k1 => ⟨_, _, rfl, rfl, (show 2 ≤ sizeLine from nar (m := 2) (by decide) (by decide)), fun t ht => ?_⟩⟩
      have D0 : H D = none := b6.nul P6 hD
      obtain ⟨acc, a1, a2, W9⟩ := W6.next (z := zs[i]) (i := 1 + k) D0 b8 P8 (by omega) (by omega) ht (P6.ne hD).symm
      refine ⟨acc, a1, lt1 (by rw [a2, List.length_take]; omega), ⟨?_, ?_⟩, ?_⟩
      · have L8 := b8 _ _ pS e6.1
        rw [upd_ne (ne_of_none hS6 hD), upd_ne (ne_of_none L8 ht)]
        exact L8
      · have L8 := b8 _ _ np1 e6.2
        rw [upd_ne (ne_of_none x1 hD), upd_ne (ne_of_none L8 ht)]
        exact L8
      · have et : zs.take (i + 1) = zs.take i ++ [zs[i]] := by rw [List.take_add_one, List.getElem?_eq_getElem hi]; rfl
        rw [et]
        exact W9
    rintro H6 ⟨e6, W6⟩
    rw [List.length_map] at W6
    rw [List.take_length] at W6
    obtain ⟨ts2, tab2, w1, w2, w3, w42⟩ := W6.ex
    have nd2 : (tab2.map (·.1)).Nodup := by rw [w3]; exact ndz
    refine ⟨D, ts2, kvsP tab2, rfl, SqL.of w1, tups_sq w2, fun d2 hd2 => ?_⟩
    rw [merge_P0 nd2]
    have b7 := W6.but.new (o := .dK (kvsP tab2)) hd2
    have np2 : d2 ≠ p := (W6.pot.ne hd2).symm
    have P7 : Pot (upd H6 d2 (.dK (kvsP tab2))) p (n + 20) := (W6.pot.up np2.symm).mono (by omega)
    have x2 : (upd H6 d2 (.dK (kvsP tab2))) d2 = some (.dK (kvsP tab2)) := upd_same
    have x1' : (upd H6 d2 (.dK (kvsP tab2))) d1 = some (.dK (kvsP tab1)) := (Same.new hd2) _ _ e6.2
    have k2 : tab2.map (·.1) = zs := w3
    generalize upd H6 d2 (.dK (kvsP tab2)) = H7 at b7 P7 x2 x1' ⊢
    clear W6 e6 w1 w2 w3 hd2 hD b6 P6 x1 hS6
    -- the turns
    refine fun T hT => ⟨_, _, rfl, ?_⟩
    have npT : T ≠ p := (P7.ne hT).symm
    have b8 := b7.new (o := .dT []) hT
    have P8 := P7.up (o := .dT []) npT.symm
    have y1 := (Same.new (o := .dT []) hT) _ _ x1'
    have y2 := (Same.new (o := .dT []) hT) _ _ x2
    have yT : (upd H7 T (.dT [])) T = some (.dT (kvsS [])) := upd_same
    have nT1 : d1 ≠ T := ne_of_none x1' hT
    have nT2 : d2 ≠ T := ne_of_none x2 hT
    have ST : S ≠ T := ne_of_none (b7 _ _ pS hS) hT
    have T0 : H T = none := b7.nul P7 hT
    generalize upd H7 T (.dT []) = H8 at b8 P8 y1 y2 yT ⊢
    have hS8 := b8 _ _ pS hS
    clear b7 P7 x2 x1' hT
    refine ⟨_, rfl, S, rfl, ⟨_, SqL.of hS8⟩, for_it (walk_list (K := K) (a := S) (xs := zs.map V.str)) (fun i σ H9 => (∃ o4 o8, σ = [some (.ref p), some (.ref S), some (.int 3), some (.int wi), o4, some (.ref d1), some (.ref d2), some (.ref T), o8]) ∧ ∃ t, Trn zs p T H8 H9 t (3 * i) (n + 20 + 9 * i)) ?_ (fun i σ H9 _ h9 => by obtain ⟨_, t, W⟩ := h9; exact SqL.of (W.but _ _ pS ST hS8)) ?_ ?_⟩
    · exact ⟨⟨_, _, rfl⟩, [], fun _ _ _ _ e => e, yT, P8, List.nodup_nil, Nat.zero_le _, (fun _ h => nomatch h), (fun _ h => nomatch h)⟩
    · rintro i x σ H9 H10 hi ⟨⟨o4, o8, rfl⟩, t, W⟩ ⟨rfl, hx⟩
      rw [List.length_map] at hi
      have ex : x = V.str zs[i] := by
        rw [List.getElem?_map, List.getElem?_eq_getElem hi] at hx
        exact (Option.some.inj hx).symm
      subst ex
      have mi : zs[i] ∈ zs := List.getElem_mem hi
      generalize zs[i] = one at mi hx ⊢
      refine ⟨_, rfl, S, rfl, ⟨_, SqL.of (W.but _ _ pS ST hS8)⟩, for_it (walk_list (K := K) (a := S) (xs := zs.map V.str)) (fun j σ H11 => (∃ o8, σ = [some (.ref p), some (.ref S), some (.int 3), some (.int wi), some (.str one), some (.ref d1), some (.ref d2), some (.ref T), o8]) ∧ ∃ t, Trn zs p T H8 H11 t (3 * i + j) (n + 20 + 9 * i + 3 * j)) ?_ (fun i σ H9 _ h9 => by obtain ⟨_, t, W⟩ := h9; exact SqL.of (W.but _ _ pS ST hS8)) ?_ ?_⟩
      · exact ⟨⟨_, rfl⟩, t, W⟩
      · rintro j y σ H11 H12 hj ⟨⟨o8, rfl⟩, t, W⟩ ⟨rfl, hy⟩
        rw [List.length_map] at hj
        have ey : y = V.str zs[j] := by
          rw [List.getElem?_map, List.getElem?_eq_getElem hj] at hy
          exact (Option.some.inj hy).symm
        subst ey
        have mj : zs[j] ∈ zs := List.getElem_mem hj
        generalize zs[j] = other at mj hy ⊢
        refine ⟨_, rfl, _, rfl, rfl, _, rfl, ?_⟩
        by_cases h : one = other
        · have e : (!decide (V.str one = V.str other)) = false := by rw [decide_eq_true (by rw [h])]; rfl
          rw [e]
          exact iteF (iteF ⟨⟨_, rfl⟩, t, W.but, W.out, W.pot.mono (by omega), W.nd, Nat.le_trans W.le (by omega), W.ok, W.key⟩)
        · have e : (!decide (V.str one = V.str other)) = true := by rw [decide_eq_false (fun z => h (by injection z))]; rfl
          rw [e]
          refine iteT ⟨_, rfl, p, _, 3, rfl, W.pot, by omega, by decide, by decide, fun H13 k b13 f13 P13 k0 k1 => ⟨_, _, rfl, rfl, _, rfl, ?_⟩⟩
          have W13 : Trn zs p T H8 H13 t (3 * i + j) (n + 20 + 9 * i + 3 * j + 1) := ⟨fun b o n1 n2 e => b13 _ _ n1 (W.but _ _ n1 n2 e), b13 _ _ npT W.out, P13, W.nd, W.le, W.ok, W.key⟩
          clear W b13 f13 P13
          by_cases hk : k > 0
          · rw [decide_eq_true hk]
            refine iteT ⟨_, rfl, _, rfl, _, rfl, _, rfl, _, rfl, _, _, rfl, rfl, .inl ⟨by decide, by decide⟩, (show 3 ≤ sizeLine from nar (m := 3) (by decide) (by decide)), fun l hl => ⟨p, _, W13.pot.up (W13.pot.ne hl), by omega, .inl ⟨l, _, rfl, (W13.pot.ne hl).symm, upd_same, Nat.succ_pos 2, (show 3 < 1000000 by decide), fun H14 v N14 m14 => ?_⟩⟩⟩
            obtain ⟨fa, rfl, fa1, fa18⟩ := pickF wi3 wi9 rfl m14
            have nTl : T ≠ l := ne_of_none W13.out hl
            refine ⟨p, _, fa, rfl, N14.pot, by omega, by omega, by omega, fun H15 m b15 f15 P15 m0 m1 => ⟨_, _, rfl, rfl, _, rfl, _, rfl, _, rfl, (show 2 ≤ sizeLine from nar (m := 2) (by decide) (by decide)), fun tt htt => ?_⟩⟩
            have eT : H15 T = some (.dT (kvsS t)) := b15 _ _ npT (N14.but _ _ npT (by rw [upd_ne nTl]; exact W13.out))
            have lt : t.length < 1000 := by have := W13.le; omega
            have nTt : T ≠ tt := ne_of_none eT htt
            refine ⟨T, _, rfl, .inr ⟨kvsS t, keyOf (one, other), tt, by rw [upd_ne nTt]; exact eT, rfl, upd_same, by rw [kvsS_len]; exact Nat.lt_of_lt_of_le lt (by decide), rfl⟩, ⟨_, rfl⟩, setT t (one, other) (1 + m), fun b o n1 n2 e => ?_, ?_, ?_, setT_nd W13.nd, Nat.le_trans (len_setT _ _ _) (by have := W13.le; omega), fun q hq => ?_, fun q hq => ?_⟩
            · have e2 := b15 _ _ n1 (N14.but _ _ n1 (by rw [upd_ne (ne_of_none (W13.but _ _ n1 n2 e) hl)]; exact W13.but _ _ n1 n2 e))
              rw [upd_ne n2, upd_ne (ne_of_none e2 htt)]
              exact e2
            · rw [upd_same, putS_set]
            · exact ((P15.up (P15.ne htt)).up npT.symm).mono (by omega)
            · rcases mem_setT hq with hq | rfl
              · exact W13.ok q hq
              · exact ⟨(by omega : (1 : Int) ≤ 1 + m), (by omega : 1 + m ≤ 18)⟩
            · rcases (keys_setT _ _ _ _).mp hq with hq | rfl
              · exact W13.key q hq
              · exact ⟨mi, mj, h⟩
          · rw [decide_eq_false hk]
            exact iteF ⟨⟨_, rfl⟩, t, W13.but, W13.out, W13.pot.mono (by omega), W13.nd, Nat.le_trans W13.le (by omega), W13.ok, W13.key⟩
      · rintro σ H11 ⟨⟨o8, rfl⟩, t, W⟩
        rw [List.length_map] at W
        exact ⟨⟨_, _, rfl⟩, t, W.but, W.out, W.pot.mono (by omega), W.nd, Nat.le_trans W.le (by omega), W.ok, W.key⟩
    · rintro σ H9 ⟨⟨o4, o8, rfl⟩, t, W⟩
      rw [List.length_map] at W
      refine ⟨_, rfl, _, rfl, _, rfl, (show 3 ≤ sizeLine from nar (m := 3) (by decide) (by decide)), fun L hL => ?_⟩
      have s5 : Same H9 (upd H9 L (.lst [.ref d1, .ref d2, .ref T])) := Same.new hL
      refine q _ L d1 d2 T tab1 tab2 t (fun b o nb e => s5 _ _ (W.but _ _ nb (fun z => by rw [z, T0] at e; cases e) (b8 _ _ nb e))) ⟨upd_same, s5 _ _ (W.but _ _ np1 nT1 y1), s5 _ _ (W.but _ _ np2 nT2 y2), s5 _ _ W.out⟩ ?_ k1 k2 ((pot_same s5 W.pot).mono (by omega))
      have mem1 : ∀ z, z ∈ tab1.map (·.1) ↔ z ∈ zs := fun z => by rw [k1]
      refine ⟨⟨fun p hp => sg.sg _ ((mem1 _).mp (List.mem_map.mpr ⟨p, hp, rfl⟩)), nd1, ?_, ?_, ?_, fun p hp => ?_⟩, W.nd, ?_⟩
      · have := congrArg List.length k1
        rw [List.length_map] at this
        omega
      · rw [k1, k2]
      · have := W.le
        omega
      · have h := W.key _ (List.mem_map.mpr ⟨p, hp, rfl⟩)
        exact ⟨(mem1 _).mpr h.1, (mem1 _).mpr h.2.1, h.2.2⟩
      · unfold rightB
        simp only [Bool.and_eq_true]
        refine ⟨?_, ?_, ?_, ?_⟩
        · exact List.all_eq_true.mpr fun p hp => nw_in (w4 p hp).1 (Int.le_trans (w4 p hp).2 wi9) (by decide)
        · cases tab1 with
          | nil => exact absurd k1.symm sg.ne
          | cons _ _ => rfl
        · exact List.all_eq_true.mpr fun p hp => nw_in (w42 p hp).1 (Int.le_trans (w42 p hp).2 wi9) (by decide)
        · exact List.all_eq_true.mpr fun p hp => nw_in (W.ok p hp).1 (W.ok p hp).2 (by decide)
end
end Mk

set_option Elab.async false
set_option linter.all false
set_option maxRecDepth 100000
set_option maxHeartbeats 1000000
/-! prices made of tables -/
namespace Mk
open PySem PySem.Spec L2 PyProof.Rows

abbrev sPriced : Stmt := top 46
section
variable {P : Program} {w : World} {K : PySem.W.Frag} {mg : Str → Option Value} {base : Heap}
theorem scPriced : FnScope ["_law_table"] ["_law_table"] (defScope sPriced) := ⟨rfl, rfl, rfl, by decide +kernel, rfl, by decide +kernel, by decide +kernel⟩
theorem ok_priced {f fi C : Addr} {fd fdi : FuncData} (F : Fun K "_law_priced" "_law_priced" sPriced f fd) (B : Bn mg) (Dd : Dn mg) (M : L2.Mk K C fi) (FI : Fun K "__init__" "Prices.__init__" sInit fi fdi) (I : FnOk P w K mg base CX0 6 fi fdi ["self", "put", "out", "swap"] (spInit C)) (mgC : mg "Prices" = some (.ref C)) : FnOk P w K mg base CX0 8 f fd ["_law_table"] (spMade C) := by
  refine F.ok scPriced (fun vs H Q E h => ?_) (fun cdv A outer s H vs Q E hr h => ?_)
  · obtain ⟨L, a, b, c, t1, t2, t3, rfl, _⟩ := h
    rfl
  · obtain ⟨L, a, b, c, t1, t2, t3, rfl, r, rt, q⟩ := h
    have hu : A.units + 3 + 8 < cLine := by
      have h2 : A.units + 3 + 16 * 7 + 200 < cLine := hr.un
      omega
    refine ⟨_, pss_one (ps_ret (pe_makeK0 M I hr (by rfl) mgC (kbn_init FI) pass0
      (pk_cons (pe_callTy call_dictD (by rfl) Dd.dict (by decide +kernel) (pa_cons (pe_ix ix_list (pv 0) pe_int (fun _ _ => rfl)) pa_nil))
      (pk_cons (pe_callTy call_dictD (by rfl) Dd.dict (by decide +kernel) (pa_cons (pe_ix ix_list (pv 0) pe_int (fun _ _ => rfl)) pa_nil))
      (pk_cons (pe_callTy (call_dictPT rfl hu) (by rfl) Dd.dict (by decide +kernel) (pa_cons (pe_callTy (call_listItms rfl) (by rfl) B.list (by decide +kernel) (pa_cons (pe_bm0 PySem.F.plainAttrs_dict PySem.F.slot_dict_items PySem.F.type_dict_items mt_itms (pe_ix ix_list (pv 0) pe_int (fun _ _ => rfl))) pa_nil)) pa_nil)) pk_nil))))), ?_⟩
    refine ⟨_, rfl, L, _, _, _, rfl, rfl, SqL.of r.l, atI_nat (j := 0) rfl, a, _, rfl, .inl r.t.p, fun d1 h1 => ?_⟩
    have s1 := Same.new (o := .dK (kvsP t1)) h1
    have x1 : (upd H d1 (.dK (kvsP t1))) d1 = some (.dK (kvsP t1)) := upd_same
    generalize upd H d1 (.dK (kvsP t1)) = H1 at s1 x1 ⊢
    refine ⟨_, rfl, L, _, _, _, rfl, rfl, SqL.of (s1 _ _ r.l), atI_nat (j := 1) rfl, b, _, rfl, .inl (s1 _ _ r.t.o), fun d2 h2 => ?_⟩
    have s2 := Same.trans s1 (Same.new (o := .dK (kvsP t2)) h2)
    have x1 := (Same.new (o := .dK (kvsP t2)) h2) _ _ x1
    have x2 : (upd H1 d2 (.dK (kvsP t2))) d2 = some (.dK (kvsP t2)) := upd_same
    generalize upd H1 d2 (.dK (kvsP t2)) = H2 at s2 x1 x2 ⊢
    have hx3 := s2 _ _ r.t.s
    refine ⟨_, rfl, L, _, _, _, rfl, rfl, SqL.of (s2 _ _ r.l), atI_nat (j := 2) rfl, .inr (.inr (.inl ⟨rfl, .inr ⟨_, hx3⟩⟩)), _, rfl, rfl, .inr ⟨_, hx3⟩, fun v hv => ?_⟩
    refine ⟨v, _, rfl, upd_same, .inr ⟨kvsS t3, (Same.new hv) _ _ hx3, fun H3 l ts qs s3 l0 ik hl pr => ?_⟩⟩
    refine ⟨l, ts, kvsS t3, rfl, SqL.of hl, itms_T (_root_.L2.Paired.mapP ik fun _ _ e => s3 _ _ e) pr, kvsS_nd rt.nd, fun d3 h3 => ?_⟩
    have s4 := Same.trans (Same.trans (Same.new (o := DX.itemsO v c) hv) s3) (Same.new (o := .dT (kvsS t3)) h3)
    refine ⟨rfl, rfl, fun y dy hy hdy ne => ?_⟩
    have s5 : Same H2 (upd (upd (upd H3 d3 (.dT (kvsS t3))) dy (.own y)) y (.ins C dy [])) := fun b o e => by
      rw [upd_ne (ne_of_none (s4 _ _ e) hy), upd_ne (ne_of_none (s4 _ _ e) hdy)]
      exact s4 _ _ e
    have s6 := Same.trans s2 s5
    refine ⟨y, dy, d1, d2, d3, _, _, _, rfl, upd_same, ⟨s5 _ _ x1, s5 _ _ x2, ?_⟩, rt.ag, rt.nd, rt.rt, fun H9 u1 u2 u3 b9 pr k1 k2 k3 sr9 => ⟨rfl, ?_⟩⟩
    · rw [upd_ne (ne_of_none (upd_same : (upd H3 d3 (.dT (kvsS t3))) d3 = some (.dT (kvsS t3))) hy), upd_ne (ne_of_none (upd_same : (upd H3 d3 (.dT (kvsS t3))) d3 = some (.dT (kvsS t3))) hdy), upd_same]
    · refine q _ y u1 u2 u3 (fun b o e => ?_) ?_ pr k1 k2 k3 sr9
      · have e5 := s6 _ _ e
        have ny : b ≠ y := fun z => by
          have := s4 _ _ (s2 _ _ e)
          rw [z, hy] at this
          cases this
        exact b9 _ _ ny e5
      · cases e : H y with
        | none => rfl
        | some u =>
          have := s4 _ _ (s2 _ _ e)
          rw [hy] at this
          cases this
end
end Mk

set_option Elab.async false
set_option linter.all false
set_option maxRecDepth 100000
set_option maxHeartbeats 1000000
/-! the law -/
namespace Mk
open PySem PySem.Spec L2 PyProof.Rows

abbrev sLaw6 : Stmt := top 51
abbrev nLaw6 : List Str := ["_law_script", "_law_at", "_law_cup_here", "_law_letters", "_law_most", "_law_table", "_law_prices", "_law_words", "_law_begin", "_law_due", "_law_other", "_law_word", "_law_told"]
structure Rn (mg : Str → Option Value) : Prop where
  repr : mg "repr" = none
theorem PrAt.but {C p x : Addr} {H H' : Hp} {n : Nat} {u1 u2 : PTab} {u3 : STab} (h : PrAt C H x u1 u2 u3) (B : But p H H') (P : Pot H p n) : PrAt C H' x u1 u2 u3 := by
  obtain ⟨dx, t, a, b, c, h1, h2, h3⟩ := h
  exact ⟨dx, t, a, b, c, B.at_ P h1 (fun _ _ _ z => nomatch z), B.at_ P h2 (fun _ _ _ z => nomatch z), h3.but B P⟩
theorem shw_int6 {i : Int} (h0 : 0 ≤ i) (h1 : i ≤ 144) : Shw (.int i) 3 0 := by
  obtain ⟨n, rfl⟩ : ∃ n : Nat, i = (n : Int) := ⟨i.toNat, by omega⟩
  have a : ∀ n : Fin 145, ((n.val : Nat) : Int).natAbs.log2 < 1920 := by decide +kernel
  have b : ∀ n : Fin 145, (toString ((n.val : Nat) : Int) : Str).length ≤ 3 := by decide +kernel
  refine ⟨?_, by simp only [PyData.hasDict], by simp only [PyData.depth]; exact Nat.le_refl _, ?_⟩
  · simp only [PyData.showable]
    exact decide_eq_true (a ⟨n, by omega⟩)
  · simp only [PyData.shown]
    exact b ⟨n, by omega⟩
theorem most_of {k : Nat} (h0 : 0 < k) (h : k ≤ 3) : ∃ m : Nat, atI [V.int 8, V.int 4, V.int 3] ((k : Int) - 1) = some (V.int m) ∧ Sz k m ∧ m ≤ 8 := by
  rcases (show k = 1 ∨ k = 2 ∨ k = 3 by omega) with rfl | rfl | rfl
  · exact ⟨8, atI_nat (j := 0) rfl, .inl ⟨rfl, rfl⟩, by decide⟩
  · exact ⟨4, atI_nat (j := 1) rfl, .inr (.inl ⟨rfl, rfl⟩), by decide⟩
  · exact ⟨3, atI_nat (j := 2) rfl, .inr (.inr ⟨rfl, rfl⟩), by decide⟩
def spLaw (K : PySem.W.Frag) : Sp := fun vs H Q _ => ∃ (a : Addr) (ns : List Int), vs = [.ref a] ∧ SqL K H a (ns.map V.int) ∧ ns.length ≤ 63 ∧ ∀ H', Q (.bl true) H'
section
variable {P : Program} {w : World} {K : PySem.W.Frag} {mg : Str → Option Value} {base : Heap}
theorem scLaw6 : FnScope nLaw6 ["_law_script"] (defScope sLaw6) := ⟨rfl, rfl, rfl, by decide +kernel, rfl, by decide +kernel, by decide +kernel⟩
theorem ok_law6 {f C : Addr} {fd : FuncData} (F : Fun K "law" "law" sLaw6 f fd) (T : Pc K C) (B : Bn mg) (Rp : Rn mg)
    (J1 : Cd P w K mg base 1 "_law_cup" ["_law_script", "_law_at"] (spFilled K)) (J2 : Cd P w K mg base 3 "_law_alphabet" ["_law_cup_here", "_law_most"] spAlph) (J3 : Cd P w K mg base 3 "_law_rates" ["_law_cup_here", "_law_letters", "_law_most"] spRates) (J4 : Cd P w K mg base 8 "_law_priced" ["_law_table"] (spMade C))
    (J5 : Cd P w K mg base 1 "_law_listed_words" ["_law_letters", "_law_most"] spWords) (J6 : Cd P w K mg base 2 "_law_choice" ["_law_cup_here", "_law_items"] spChoose) (J7 : Cd P w K mg base 2 "_law_forced" ["_law_table", "_law_begin", "_law_words", "_law_most"] spForced)
    (J8 : Cd P w K mg base 5 "distance" ["one", "other", "prices"] (spDist C)) (J9 : Cd P w K mg base 9 "_law_closed_right" ["_law_table", "_law_prices"] (spCR C)) (Ck : Md P w K mg base C CX0 8 "closed" ["self"] (spClosed C)) : FnG P w K mg base CX0 10 f fd ["_law_script"] (spLaw K) := by
  obtain ⟨a1, d1, G1, m1, k1, b1⟩ := J1.ex
  obtain ⟨a2, d2, G2, m2, k2, b2⟩ := J2.ex
  obtain ⟨a3, d3, G3, m3, k3, b3⟩ := J3.ex
  obtain ⟨a4, d4, G4, m4, k4, b4⟩ := J4.ex
  obtain ⟨a5, d5, G5, m5, k5, b5⟩ := J5.ex
  obtain ⟨a6, d6, G6, m6, k6, b6⟩ := J6.ex
  obtain ⟨a7, d7, G7, m7, k7, b7⟩ := J7.ex
  obtain ⟨a8, d8, G8, m8, k8, b8⟩ := J8.ex
  obtain ⟨a9, d9, G9, m9, k9, b9⟩ := J9.ex
  obtain ⟨gc, dc, Mc, Gc, bc⟩ := Ck.ex
  refine Fun_okG F scLaw6 (fun vs H Q E h => ?_) (fun cdv A outer s H vs Q E hr gd h => ?_)
  · obtain ⟨a, ns, rfl, _⟩ := h
    rfl
  · obtain ⟨a, ns, rfl, hS, hlen, q⟩ := h
    have hu := hu_of hr
    have h100 : A.units + 3 + 100 < cLine := by
      have h2 : A.units + 3 + 16 * 9 + 200 < cLine := hr.un
      omega
    refine ⟨_, pss_cons (ps_for PassesOwn.never rfl (pi_range1 (by rfl) B.range (pa_cons (pe_callB (call_max2 rfl) (by rfl) B.max (by decide +kernel) (pa_cons pe_int (pa_cons (pe_callB (call_min2 rfl) (by rfl) B.min (by decide +kernel) (pa_cons pe_int (pa_cons (pe_callB call_len_seq (by rfl) B.len PySem.boot_len (pa_cons (pv 0) pa_nil)) pa_nil))) pa_nil))) pa_nil)) (pg_name (i := 1) scLaw6.nd rfl (.inl rfl))
        (pss_cons (ps_set (i := 2) scLaw6.nd rfl (.inl rfl) (pe_call G1 (hr.mono (by decide)) (by rfl) m1 k1 b1 .nil pass0 (pa_cons (pv 0) (pa_cons (pv 1) pa_nil))))
        (pss_cons (ps_set (i := 3) scLaw6.nd rfl (.inl rfl) (pe_call G2 (hr.mono (by decide)) (by rfl) m2 k2 b2 .nil pass0 (pa_cons (pv 2) (pa_cons pe_int pa_nil))))
        (pss_cons (ps_set (i := 4) scLaw6.nd rfl (.inl rfl) (pe_ix ix_list (pe_lst (pa_cons pe_int (pa_cons pe_int (pa_cons pe_int pa_nil)))) (pe_op op_sub (pe_callB call_len_seq (by rfl) B.len PySem.boot_len (pa_cons (pv 3) pa_nil)) pe_int) (fun _ _ => rfl)))
        (pss_cons (ps_set (i := 5) scLaw6.nd rfl (.inl rfl) (pe_call G3 (hr.mono (by decide)) (by rfl) m3 k3 b3 .nil pass0 (pa_cons (pv 2) (pa_cons (pv 3) (pa_cons pe_int pa_nil)))))
        (pss_cons (ps_par (i := 6) (j := 7) rfl scLaw6.nd rfl rfl (by decide) rfl rfl (pa_cons (pe_call G4 (hr.mono (by decide)) (by rfl) m4 k4 b4 .nil pass0 (pa_cons (pv 5) pa_nil)) (pa_cons (pe_call G5 (hr.mono (by decide)) (by rfl) m5 k5 b5 .nil pass0 (pa_cons (pv 3) (pa_cons (pv 4) pa_nil))) pa_nil)) (by rfl))
        (pss_cons (ps_set (i := 8) scLaw6.nd rfl (.inl rfl) (pe_call G6 (hr.mono (by decide)) (by rfl) m6 k6 b6 .nil pass0 (pa_cons (pv 2) (pa_cons (pv 7) pa_nil))))
        (pss_cons (ps_par (i := 9) (j := 10) rfl scLaw6.nd rfl rfl (by decide) rfl rfl (pa_cons (pe_call G7 (hr.mono (by decide)) (by rfl) m7 k7 b7 .nil pass0 (pa_cons (pv 5) (pa_cons (pv 8) (pa_cons (pv 7) (pa_cons (pv 4) pa_nil))))) (pa_cons (pe_meth0 (pv 6) T.cl Mc Gc (hr.mono (by decide)) bc .nil pass0) pa_nil)) (by rfl))
        (pss_cons (ps_for PassesOwn.never rfl (pi_list (pv 7)) (pg_name (i := 11) scLaw6.nd rfl (.inl rfl))
          (pss_cons (ps_set (i := 12) scLaw6.nd rfl (.inl rfl) (pe_lst (pa_cons (pe_call G8 (hr.mono (by decide)) (by rfl) m8 k8 b8 .nil pass0 (pa_cons (pv 8) (pa_cons (pv 11) (pa_cons (pv 6) pa_nil)))) (pa_cons (pe_call G8 (hr.mono (by decide)) (by rfl) m8 k8 b8 .nil pass0 (pa_cons (pv 8) (pa_cons (pv 11) (pa_cons (pv 10) pa_nil)))) pa_nil))))
          (pss_one (ps_if (PW.pt (pw_or (pt_cmpR op_ne (pe_callB (call_reprD gd h100) (by rfl) Rp.repr (by decide +kernel) (pa_cons (pv 12) pa_nil)) (pe_callB (call_reprD gd h100) (by rfl) Rp.repr (by decide +kernel) (pa_cons (pe_lst (pa_cons (pe_dget hu (pv 9) (pv 11) (fun _ _ => rfl)) (pa_cons (pe_dget hu (pv 9) (pv 11) (fun _ _ => rfl)) pa_nil))) pa_nil)) (nomark _))
            (pw_or1 (pt_cmpR op_ne (pe_cmpR op_eq (pe_dget hu (pv 9) (pv 11) (fun _ _ => rfl)) pe_int (nomark _)) (pe_cmpR op_eq (pv 11) (pv 8) (nomark _)) (nomark _))))) (pss_one (ps_ret pe_bl)) pss_nil))))
        (pss_one (ps_if (pt_not (pt_val (pe_call G9 hr (by rfl) m9 k9 b9 .nil pass0 (pa_cons (pv 5) (pa_cons (pv 6) pa_nil))))) (pss_one (ps_ret pe_bl)) pss_nil)))))))))))
      (pss_one (ps_ret pe_bl)), ?_⟩
    have n2 : 2 ≤ sizeLine := by decide
    have n3 : 3 ≤ sizeLine := by decide
    have nar : ∀ {n : Nat}, n ≤ 1000 → n ≤ sizeLine := fun h1 => by rw [sizeLine_eq]; omega
    have fc : ∀ t a b c : Addr, List.lookup ("closed" : Str) (fldP t a b c) = none := fld_no (by decide +kernel) (by decide +kernel) (by decide +kernel) (by decide +kernel)
    refine ⟨_, rfl, a, _, rfl, .inl hS, 2, _, rfl, 1, _, rfl, _, rfl, ?_, ?_, ?_⟩
    · split <;> (try split) <;> omega
    · split <;> (try split) <;> omega
    have few : ∀ z : Int, (if (if z < 2 then z else 2) > 1 then (if z < 2 then z else 2) else 1).toNat ≤ 2 := fun z => by split <;> (try split) <;> omega
    have fewz := few ((ns.map V.int).length : Nat)
    refine for_range (lo := 0) (n := Int.toNat _) (fun i σ H1 => (∃ o1 o2 o3 o4 o5 o6 o7 o8 o9 o10 o11 o12, σ = [some (.ref a), o1, o2, o3, o4, o5, o6, o7, o8, o9, o10, o11, o12]) ∧ Same H H1) ⟨⟨_, _, _, _, _, _, _, _, _, _, _, _, rfl⟩, fun _ _ e => e⟩ ?_ ?_
    · rintro i σ H1 hi ⟨⟨o1, o2, o3, o4, o5, o6, o7, o8, o9, o10, o11, o12, rfl⟩, hs⟩
      refine ⟨_, rfl, _, rfl, a, ns, i, (by show [V.ref a, V.int (0 + (i : Int))] = _; rw [Int.zero_add]), hs.seq hS, hlen, (by omega), fun H2 p s2 p0 P2 => ?_⟩
      have sA := Same.trans hs s2
      have pH : H p = none := by
        cases e : H p with
        | none => rfl
        | some o =>
          have := hs _ _ e
          rw [p0] at this
          cases this
      have bA : ∀ {H' : Hp}, But p H2 H' → Same H H' := fun B b o e => B _ _ (ne_of_none e pH) (sA _ _ e)
      clear hs s2 p0
      -- the letters
      refine ⟨_, rfl, ?_⟩
      unfold spAlph
      refine ⟨p, 0, rfl, P2, by decide, fun H3 S zs b3 S0 eS sg lz P3 => ?_⟩
      have z0 : 0 < zs.length := by
        cases zs with
        | nil => exact absurd rfl sg.ne
        | cons _ _ => exact Nat.succ_pos _
      have one : ∀ z ∈ zs, z.length = 1 := fun z hz => by
        have := sg.sg z hz
        unfold sgB at this
        simp only [Bool.and_eq_true, decide_eq_true_eq] at this
        exact this.1
      obtain ⟨m, hm, sz, m8⟩ := most_of z0 lz
      refine ⟨n3, fun l hl => ⟨_, rfl, S, _, rfl, .inl (SqL.of ((Same.new hl) _ _ eS)), _, _, rfl, rfl, l, _, _, _, rfl, rfl, SqL.of upd_same, by rw [List.length_map]; exact hm, ?_⟩⟩
      have b4 := b3.new (o := .lst [.int 8, .int 4, .int 3]) hl
      have P4 := P3.up (o := .lst [.int 8, .int 4, .int 3]) (P3.ne hl)
      have eS4 := (Same.new (o := .lst [.int 8, .int 4, .int 3]) hl) _ _ eS
      show _
      generalize upd H3 l (.lst [.int 8, .int 4, .int 3]) = H4 at b4 P4 eS4 ⊢
      clear b3 P3 eS hl
      -- the tables
      refine ⟨_, rfl, _, rfl, p, S, 6, zs, rfl, P4, by decide, eS4, sg, lz, fun H5 L ta tb tc t1 t2 t3 b5 r R k1 k2 P5 => ?_⟩
      have bB := b4.trans b5
      have eS5 := b5.at_ P4 eS4 strs_not
      have l3 : t1.length ≤ 3 := by
        have := congrArg List.length k1
        rw [List.length_map] at this
        omega
      -- the prices, the words
      refine ⟨_, rfl, L, ta, tb, tc, t1, t2, t3, rfl, r, R, fun H6 x u1 u2 u3 s6 x0 px pu1 pu2 pu3 sru => ?_⟩
      refine ⟨_, rfl, _, rfl, S, zs, m, rfl, s6 _ _ eS5, one, sz, fun H7 W s7 W0 eW => ⟨_, _, rfl, ?_⟩⟩
      have s67 := Same.trans s6 s7
      have px7 := px.same s7
      have r7 := r.same s67
      have P7 := pot_same s67 P5
      have bC := bB.same s67
      clear b4 b5 P4 P5 eS4 eS5 bB px r s6 s7 s67 W0 x0
      have Ru := R.perm pu1 pu2 pu3
      have aw : AllW (t1.map (·.1)) m (wds zs m) := ⟨wds_nd one sg.nd m, by rw [wds_len]; exact cnt_le sz (Nat.le_refl _), fun w => by rw [wds_mem one m w, k1]⟩
      have wpos : 0 < ((wds zs m).map V.str).length := by
        rw [List.length_map]
        exact List.length_pos_of_mem ((aw.mem "").mpr ⟨fun k hk => (List.not_mem_nil (show k ∈ [] from hk)).elim, Nat.zero_le _⟩)
      have wle : ((wds zs m).map V.str).length < 1000000 := by
        rw [List.length_map]
        have := aw.le
        omega
      generalize wds zs m = ws at aw wpos wle eW
      -- the word to begin with
      refine ⟨_, rfl, _, rfl, p, 106, P7, by decide, .inl ⟨W, ws.map V.str, rfl, P7.not eW strs_not, eW, wpos, wle, fun H8 v N8 hv => ?_⟩⟩
      obtain ⟨z, zw, rfl⟩ := List.mem_map.mp hv
      have eW8 := N8.but.at_ P7 eW strs_not
      have r8 := r7.but N8.but P7
      have px8 := px7.but N8.but P7
      have sH8 := bA (bC.trans N8.but)
      clear hv N8 eW r7 px7 P7 bC P2 bA
      -- the costs
      refine ⟨_, rfl, _, rfl, _, rfl, _, rfl, L, ta, tb, tc, W, t1, t2, t3, z, m, ws, rfl, r8, R, l3, m8, eW8, aw, zw, fun H9 F' ff s9 F0 eF hf => ?_⟩
      obtain ⟨dx, tx, ax, bx, cx, hx0, _, _⟩ := id (px8.same s9)
      refine ⟨_, rfl, x, dx, _, rfl, hx0, fc _ _ _ _, x, u1, u2, u3, rfl, px8.same s9, Ru, sru, fun H10 y v1 v2 v3 cf s10 y0 py Wc sry => ⟨_, _, rfl, ?_⟩⟩
      have s910 := Same.trans s9 s10
      have eW10 := s910 _ _ eW8
      have px10 := px8.same s910
      have eF10 := s10 _ _ eF
      have r10 := r8.same s910
      have sH10 := Same.trans sH8 s910
      clear s9 s10 s910 px8 r8 eW8 eF sH8 F0 y0 hx0
      have Rv := Wc.rt Ru
      have ku : ∀ k, k ∈ t1.map (·.1) → k ∈ u1.map (·.1) := fun k hk => (pu1.map (·.1)).mem_iff.mpr hk
      have kv : ∀ k, k ∈ t1.map (·.1) → k ∈ v1.map (·.1) := fun k hk => Wc.keys1.mem_iff.mpr (ku k hk)
      obtain ⟨z1, z2⟩ := (aw.mem z).mp zw
      refine ⟨_, rfl, W, rfl, ⟨_, SqL.of eW10⟩, for_it (walk_list (K := K) (a := W) (xs := ws.map V.str)) (fun j σ H11 => (∃ o11 o12, σ = [some (.ref a), some (.int (0 + (i : Int))), some (.ref p), some (.ref S), some (.int m), some (.ref L), some (.ref x), some (.ref W), some (.str z), some (.ref F'), some (.ref y), o11, o12]) ∧ Same H10 H11) ?_ (fun j σ H11 _ h11 => SqL.of (h11.2 _ _ eW10)) ?_ ?_⟩
      · exact ⟨⟨_, _, rfl⟩, fun _ _ e => e⟩
      · rintro j v σ H11 H12 hj ⟨⟨o11', o12', rfl⟩, s11⟩ ⟨rfl, hv⟩
        rw [List.length_map] at hj
        have ev : v = V.str ws[j] := by
          rw [List.getElem?_map, List.getElem?_eq_getElem hj] at hv
          exact (Option.some.inj hv).symm
        subst ev
        have mw := List.getElem_mem hj
        generalize ws[j] = wj at mw ⊢
        clear hj hv
        obtain ⟨w1, w2⟩ := (aw.mem wj).mp mw
        obtain ⟨f1, f2, f3⟩ := hf wj mw
        have d1 : ds u1 u2 u3 z wj = ds t1 t2 t3 z wj := ds_perm R pu1 pu2 pu3 z1 w1
        have d2 : ds v1 v2 v3 z wj = ds t1 t2 t3 z wj := (ds_closed Ru Wc (fun k hk => ku k (z1 k hk)) fun k hk => ku k (w1 k hk)).trans d1
        have dl := ds_few R z1 w1 (by omega) (by omega)
        have gv := valP f1
        rw [f2] at gv
        refine ⟨_, rfl, _, rfl, _, rfl, z, wj, x, u1, u2, u3, rfl, px10.same s11, Ru, sru, fun k hk => ku k (z1 k hk), fun k hk => ku k (w1 k hk), by omega, by omega, fun H13 s13 => ?_⟩
        have s13 := Same.trans s11 s13
        refine ⟨_, rfl, _, rfl, _, rfl, z, wj, y, v1, v2, v3, rfl, py.same s13, Rv, sry, fun k hk => kv k (z1 k hk), fun k hk => kv k (w1 k hk), by omega, by omega, fun H14 s14 => ?_⟩
        have s14 := Same.trans s13 s14
        rw [d1, d2]
        clear d1 d2
        generalize ds t1 t2 t3 z wj = dz at dl gv f3 ⊢
        refine ⟨n2, fun lt hlt => ?_⟩
        have sw : Shw (.list [.int dz, .int dz]) 12 1 := (shw_list (n := 3) (k := 0) (xs := [.int dz, .int dz]) fun q hq => by
          have : q = .int dz := by
            simp only [List.mem_cons, List.not_mem_nil, or_false, or_self] at hq
            exact hq
          rw [this]
          exact shw_int6 dl.1 dl.2).mono (show 2 * (3 + 2) + 2 ≤ 12 by decide) (by decide)
        have swl : (PyData.list [.int dz, .int dz]).shown.length ≤ sizeLine := Nat.le_trans sw.l (nar (by decide))
        have s15 := Same.trans s14 (Same.new (o := .lst [.int dz, .int dz]) hlt)
        have e15 : (upd H14 lt (.lst [.int dz, .int dz])) lt = some (.lst [.int dz, .int dz]) := upd_same
        show _
        generalize upd H14 lt (.lst [.int dz, .int dz]) = H15 at s15 e15 ⊢
        have dg : ∀ {H' : Hp}, Same H10 H' → DGet H' F' (.str wj) (some (V.int dz)) := fun s => .inl ⟨kvsP ff, Sum.inr wj, .inl (s _ _ eF10), rfl, gv.symm⟩
        refine ⟨_, rfl, lt, .list [.int dz, .int dz], rfl, .lst (SqL.of e15) (.cons (.int _) (.cons (.int _) .nil)), sw.s, sw.h, Nat.le_trans sw.dp (by decide), swl, ?_⟩
        refine ⟨_, rfl, _, rfl, F', _, rfl, dg s15, _, rfl, _, rfl, F', _, rfl, dg s15, n2, fun l2 hl2 => ?_⟩
        have s16 := Same.trans s15 (Same.new (o := .lst [.int dz, .int dz]) hl2)
        refine ⟨l2, .list [.int dz, .int dz], rfl, .lst (SqL.of upd_same) (.cons (.int _) (.cons (.int _) .nil)), sw.s, sw.h, Nat.le_trans sw.dp (by decide), swl, rfl, _, rfl, ?_⟩
        rw [show (!decide (V.str (PyData.list [.int dz, .int dz]).shown = V.str (PyData.list [.int dz, .int dz]).shown)) = false by simp]
        refine iteF ⟨_, rfl, _, rfl, F', _, rfl, dg s16, rfl, _, rfl, _, rfl, rfl, rfl, _, rfl, ?_⟩
        have eb : decide (V.int dz = V.int 0) = decide (V.str wj = V.str z) := by
          rw [Bool.eq_iff_iff]
          simp only [decide_eq_true_eq]
          constructor
          · intro h
            injection h with h
            rw [f3.mp h]
          · intro h
            injection h with h
            rw [f3.mpr h.symm]
        rw [eb]
        rw [show (!decide (V.bl (decide (V.str wj = V.str z)) = V.bl (decide (V.str wj = V.str z)))) = false by simp]
        exact iteF ⟨⟨_, _, rfl⟩, s16⟩
      · rintro σ H11 ⟨⟨o11', o12', rfl⟩, s11⟩
        refine ⟨_, rfl, _, rfl, L, ta, tb, tc, x, t1, t2, t3, u1, u2, u3, rfl, r10.same s11, l3, px10.same s11, Ru, sru, pu1, fun H12 s12 => ⟨_, rfl, iteF ⟨⟨_, _, _, _, _, _, _, _, _, _, _, _, rfl⟩, Same.trans sH10 (Same.trans s11 s12)⟩⟩⟩
    · rintro σ H1 ⟨⟨o1, o2, o3, o4, o5, o6, o7, o8, o9, o10, o11, o12, rfl⟩, hs⟩
      exact q _
end
end Mk

set_option Elab.async false
set_option linter.all false
set_option maxRecDepth 100000
set_option maxHeartbeats 4000000
namespace Mk
open PySem PySem.Spec PyProof.Rows L2

/-! ### what the top has written -/
structure Df (K : PySem.W.Frag) (x : Str) (st : Stmt) (f : Addr) : Prop where
  at_ : PySem.W.nsIn K mainGlobals x = some (some (.ref f))
  fn : ∃ fd, Fun K x x st f fd
theorem df_mk {K : PySem.W.Frag} {x : Str} {st : Stmt} {f : Addr} {oc kV doc pm cd ct : Value} {od an : Option Addr} {sl : Array (Option Value)} (a : PySem.W.nsIn K mainGlobals x = some (some (.ref f)))
    (l : K.lookup f = some ⟨oc, od, .func (PySem.W.fnOf x x (defArgs st) (defBody st) (defScope st) .none kV doc pm an cd ct), sl⟩) (c : PySem.W.codeIn K cd x = true) (k : PySem.W.keepIn K (.ref f) = true) : Df K x st f :=
  ⟨a, _, fun_mk (st := st) l c k⟩
/-- a def of the class -/
structure Mf (K : PySem.W.Frag) (C : Addr) (m qual : Str) (st : Stmt) (g : Addr) : Prop where
  find : PySem.W.findIn K (.ref C) m = some (some (.ref g))
  fun_ : PySem.W.isFn K (.ref g) = true
  fn : ∃ fd, Fun K m qual st g fd
theorem mf_mk {K : PySem.W.Frag} {C : Addr} {m qual : Str} {st : Stmt} {g : Addr} {oc kV doc pm cd ct : Value} {od an : Option Addr} {sl : Array (Option Value)} (a : PySem.W.findIn K (.ref C) m = some (some (.ref g))) (i : PySem.W.isFn K (.ref g) = true)
    (l : K.lookup g = some ⟨oc, od, .func (PySem.W.fnOf m qual (defArgs st) (defBody st) (defScope st) .none kV doc pm an cd ct), sl⟩) (c : PySem.W.codeIn K cd qual = true) (k : PySem.W.keepIn K (.ref g) = true) : Mf K C m qual st g :=
  ⟨a, i, _, fun_mk (st := st) l c k⟩
/-- a property of the class -/
structure Pf (K : PySem.W.Frag) (C : Addr) (m qual : Str) (st : Stmt) (p g : Addr) : Prop where
  of : PropOf K C m p g
  fn : ∃ fd, Fun K m qual st g fd
theorem pf_mk {K : PySem.W.Frag} {C : Addr} {m qual : Str} {st : Stmt} {p g : Addr} {rest : List Value} {oc kV doc pm cd ct : Value} {od an : Option Addr} {sl : Array (Option Value)} (a : PySem.W.findIn K (.ref C) m = some (some (.ref p)))
    (b : PySem.W.specialIn K (.ref p) "__get__" = some (some (.builtin "property.__get__"))) (t : PySem.W.takesIn K (.ref p) = some true) (r : PySem.W.recIn K p "property" = some (.ref g :: rest))
    (l : K.lookup g = some ⟨oc, od, .func (PySem.W.fnOf m qual (defArgs st) (defBody st) (defScope st) .none kV doc pm an cd ct), sl⟩) (c : PySem.W.codeIn K cd qual = true) (k : PySem.W.keepIn K (.ref g) = true) : Pf K C m qual st p g :=
  ⟨⟨a, b, t, _, r⟩, _, fun_mk (st := st) l c k⟩
theorem kit_own {K : PySem.W.Frag} {C : Addr} {T : String} (h1 : PySem.W.isClsIn K C = true) (h2 : PySem.W.typeIn K (.ref C) = some (.type "type")) (h3 : PySem.W.subIn K (.type T) (.ref C) = some false) : PySem.W.kitOne K (.type T) (.ref C) = some false := by
  have e2 : ((PySem.W.clsIn K C).isSome && PySem.W.typeIn K (.ref C) == some (.type "type")) = true := by
    have h4 : (PySem.W.clsIn K C).isSome = true := h1
    rw [h4, h2] <;> rfl
  unfold PySem.W.kitOne
  rw [if_neg (by intro z; cases z)]
  show (if ((PySem.W.clsIn K C).isSome && PySem.W.typeIn K (.ref C) == some (.type "type")) = true then PySem.W.subIn K (.type T) (.ref C) else none) = _
  rw [if_pos e2]
  exact h3
/-- an exception of the class at S is what the handler for S takes -/
theorem cat_self {K : PySem.W.Frag} {S : Addr} (sb : PySem.W.subIn K (.ref S) (.type "BaseException") = some true) (ic : PySem.W.isClsIn K S = true) (ty : PySem.W.typeIn K (.ref S) = some (.type "type")) (ss : PySem.W.subIn K (.ref S) (.ref S) = some true) : PySem.W.exmOne K (.ref S) (.ref S) = some true := by
  have e2 : ((PySem.W.clsIn K S).isSome && PySem.W.typeIn K (.ref S) == some (.type "type")) = true := by
    have h4 : (PySem.W.clsIn K S).isSome = true := ic
    rw [h4, ty] <;> rfl
  have e1 : (PySem.W.subIn K (.ref S) (.type "BaseException") == some true) = true := by
    rw [sb] <;> rfl
  unfold PySem.W.exmOne
  rw [if_pos e1]
  show (if ((PySem.W.clsIn K S).isSome && PySem.W.typeIn K (.ref S) == some (.type "type")) = true then PySem.W.subIn K (.ref S) (.ref S) else none) = _
  rw [if_pos e2]
  exact ss
theorem lg_of {mg : Str → Option Value} {h : Heap} (V : PySem.W.LooseAre [("LARGEST", PySem.W.WData.int LG)] mg h) : ∃ t, mg "LARGEST" = some (.int LG t) := by
  obtain ⟨v, e, r⟩ := V.val _ List.mem_cons_self
  cases r
  exact ⟨_, e⟩
theorem all_mk {l : PySem.W.OpenLaw} {w : World} {K : PySem.W.Frag} {h : Heap} {mg : Str → Option Value} {fa C fi : Addr} {f1 f2 f3 f4 f5 f6 f7 f8 f9 f10 f11 f12 f13 f14 f15 f16 f17 f18 f19 f20 f21 f22 f23 f24 f25 f26 f27 f28 f29 f30 f31 f32 gK gN p1 q1 p2 q2 p3 q3 : Addr} (X : K.In h) (G : h.Ns mainGlobals mg) (V : PySem.W.LooseAre [("LARGEST", PySem.W.WData.int LG)] mg h) (hfa : mg "law" = some (.ref fa))
    (D1 : Df K "is_number" sIsNum f1)
    (D2 : Df K "is_number_within" sIsNumW f2)
    (D3 : Df K "is_sign" sIsSign f3)
    (D4 : Df K "is_word" sIsWord f4)
    (D5 : Df K "check_word" sChkW f5)
    (D6 : Df K "check_prices" sChkPr f6)
    (D7 : Df K "have_signs" sHave f7)
    (D8 : Df K "costs_by_ends" sByEnds f8)
    (D9 : Df K "_are_tables" sAreT f9)
    (D10 : Df K "_is_sign_table" sIsST f10)
    (D11 : Df K "_has_prices" sHasP f11)
    (D12 : Df K "_is_pair" sIsPair f12)
    (D13 : Df K "ascending_dict" sAsc f13)
    (D14 : Df K "_pairs" sPairs f14)
    (D15 : Df K "_least_costs" sLeast f15)
    (D16 : Df K "_direct_costs" sDirC f16)
    (D17 : Df K "distance" sDist f17)
    (D18 : Df K "_check_pair" sPair6 f18)
    (D19 : Df K "_cost_between" sBetw f19)
    (D20 : Df K "_cost_rows" sRows f20)
    (D21 : Df K "_law_cup" sCup f21)
    (D22 : Df K "_law_toss" sToss f22)
    (D23 : Df K "_law_choices" sChoices f23)
    (D24 : Df K "_law_alphabet" sAlph f24)
    (D25 : Df K "_law_choice" sChoice f25)
    (D26 : Df K "_law_rates" sRates f26)
    (D27 : Df K "_law_priced" sPriced f27)
    (D28 : Df K "_law_listed_words" sWords f28)
    (D29 : Df K "_law_nearby" sNear f29)
    (D30 : Df K "_law_forced" sForced f30)
    (D31 : Df K "_law_closed_right" sCR f31)
    (D32 : Df K "law" sLaw6 f32)
    (z_len : PySem.W.nsIn K mainGlobals "len" = some none)
    (z_int : PySem.W.nsIn K mainGlobals "int" = some none)
    (z_abs : PySem.W.nsIn K mainGlobals "abs" = some none)
    (z_max : PySem.W.nsIn K mainGlobals "max" = some none)
    (z_min : PySem.W.nsIn K mainGlobals "min" = some none)
    (z_range : PySem.W.nsIn K mainGlobals "range" = some none)
    (z_list : PySem.W.nsIn K mainGlobals "list" = some none)
    (z_isinstance : PySem.W.nsIn K mainGlobals "isinstance" = some none)
    (z_str : PySem.W.nsIn K mainGlobals "str" = some none)
    (z_tuple : PySem.W.nsIn K mainGlobals "tuple" = some none)
    (z_all : PySem.W.nsIn K mainGlobals "all" = some none)
    (z_sorted : PySem.W.nsIn K mainGlobals "sorted" = some none)
    (z_set : PySem.W.nsIn K mainGlobals "set" = some none)
    (z_bool : PySem.W.nsIn K mainGlobals "bool" = some none)
    (z_dict : PySem.W.nsIn K mainGlobals "dict" = some none)
    (z_repr : PySem.W.nsIn K mainGlobals "repr" = some none)
    (z_enumerate : PySem.W.nsIn K mainGlobals "enumerate" = some none)
    {tS tP tM tW tQ : Tok} (vS : PySem.W.nsIn K mainGlobals "SIGNS" = some (some (.str "abcde" tS)))
    (vP : PySem.W.nsIn K mainGlobals "MAX_PRICE" = some (some (.int 9 tP))) (vM : PySem.W.nsIn K mainGlobals "MAX_SWAP_PRICE" = some (some (.int 18 tM)))
    (vW : PySem.W.nsIn K mainGlobals "MAX_WORD" = some (some (.int 1000 tW))) (vC : PySem.W.nsIn K mainGlobals "MAX_COMPARED" = some (some (.int 200 tQ)))
    (aC : PySem.W.nsIn K mainGlobals "Prices" = some (some (.ref C)))
    (pg : PySem.W.plainGet K C Str.empty = true) (hd : PySem.W.hasDictIn K C = true) (po : PySem.W.plainOver K C = true) (sa : PySem.W.findIn K (.ref C) "__setattr__" = some (some (.builtin "object.__setattr__"))) (mk : PySem.W.makesIn K C = true) (kc : PySem.W.keepIn K (.ref C) = true)
    (n1 : PySem.W.findIn K (.ref C) "_signs" = some none) (n2 : PySem.W.findIn K (.ref C) "_put" = some none) (n3 : PySem.W.findIn K (.ref C) "_out" = some none) (n4 : PySem.W.findIn K (.ref C) "_swap" = some none)
    {oi kVi doci pmi cdi cti : Value} {odi ani : Option Addr} {sli : Array (Option Value)}
    (ii : PySem.W.findIn K (.ref C) "__init__" = some (some (.ref fi))) (jf : PySem.W.isFn K (.ref fi) = true) (li : K.lookup fi = some ⟨oi, odi, .func (PySem.W.fnOf "__init__" "Prices.__init__" (defArgs sInit) (defBody sInit) (defScope sInit) .none kVi doci pmi ani cdi cti), sli⟩) (ci : PySem.W.codeIn K cdi "Prices.__init__" = true) (ki : PySem.W.keepIn K (.ref fi) = true)
    (ha : PySem.W.findIn K (.ref C) "__class__" = some (some (.builtin "object.__class__")))
    (hn : PySem.W.specialIn K (.builtin "object.__class__") "__get__" = some (some (.builtin "getset_descriptor.__get__")))
    (ht : PySem.W.takesIn K (.builtin "object.__class__") = some true) (hm : PySem.W.mroIn K C (.type "object") = some true)
    (MK : Mf K C "closed" "Prices.closed" sClosed gK)
    (MN : Mf K C "__contains__" "Prices.__contains__" sContP gN)
    (Q1 : Pf K C "put" "Prices.put" sPutP p1 q1)
    (Q2 : Pf K C "out" "Prices.out" sOutP p2 q2)
    (Q3 : Pf K C "swap" "Prices.swap" sSwapP p3 q3) :
    ∃ fd : FuncData, (∀ (s : Shared) (v : Value), BindsTo s fd ⟨[v], []⟩ [("_law_script", v)]) ∧ ∀ base : Heap, K.In base → base.Ns mainGlobals mg → FnG l.prog w K mg base CX0 10 fa fd ["_law_script"] (spLaw K) := by
  have gm := fun {x : Str} {v : Value} (e : PySem.W.nsIn K mainGlobals x = some (some v)) => PySem.W.mg_of X G e
  have gz := fun {x : Str} (e : PySem.W.nsIn K mainGlobals x = some none) => PySem.W.mg_none_of X G e
  have B : Bn mg := ⟨gz z_len, gz z_int, gz z_abs, gz z_max, gz z_min, gz z_range, gz z_list⟩
  have W : Wn mg := ⟨gz z_isinstance, gz z_str, _, gm vS⟩
  have O : On mg := ⟨gz z_tuple, gz z_all, gz z_sorted, gz z_set⟩
  have N : Nn mg := ⟨gz z_bool, lg_of V⟩
  have M : Pn mg := ⟨gz z_dict, ⟨_, gm vP⟩, ⟨_, gm vM⟩⟩
  have Dd : Dn mg := ⟨gz z_dict⟩
  have Mx : Mx2 mg := ⟨⟨_, gm vW⟩, ⟨_, gm vC⟩⟩
  obtain ⟨d1, F1⟩ := D1.fn
  have b1 := F1.binds (ps := ["value"]) fun _ _ _ _ _ _ us hl => match us, hl with | [_], _ => rfl
  obtain ⟨d2, F2⟩ := D2.fn
  have b2 := F2.binds (ps := ["value", "least", "most"]) fun _ _ _ _ _ _ us hl => match us, hl with | [_, _, _], _ => rfl
  obtain ⟨d3, F3⟩ := D3.fn
  have b3 := F3.binds (ps := ["value"]) fun _ _ _ _ _ _ us hl => match us, hl with | [_], _ => rfl
  obtain ⟨d4, F4⟩ := D4.fn
  have b4 := F4.binds (ps := ["value"]) fun _ _ _ _ _ _ us hl => match us, hl with | [_], _ => rfl
  obtain ⟨d5, F5⟩ := D5.fn
  have b5 := F5.binds (ps := ["word"]) fun _ _ _ _ _ _ us hl => match us, hl with | [_], _ => rfl
  obtain ⟨d6, F6⟩ := D6.fn
  have b6 := F6.binds (ps := ["prices"]) fun _ _ _ _ _ _ us hl => match us, hl with | [_], _ => rfl
  obtain ⟨d7, F7⟩ := D7.fn
  have b7 := F7.binds (ps := ["prices", "signs"]) fun _ _ _ _ _ _ us hl => match us, hl with | [_, _], _ => rfl
  obtain ⟨d8, F8⟩ := D8.fn
  have b8 := F8.binds (ps := ["prices"]) fun _ _ _ _ _ _ us hl => match us, hl with | [_], _ => rfl
  obtain ⟨d9, F9⟩ := D9.fn
  have b9 := F9.binds (ps := ["put", "out", "swap"]) fun _ _ _ _ _ _ us hl => match us, hl with | [_, _, _], _ => rfl
  obtain ⟨d10, F10⟩ := D10.fn
  have b10 := F10.binds (ps := ["value"]) fun _ _ _ _ _ _ us hl => match us, hl with | [_], _ => rfl
  obtain ⟨d11, F11⟩ := D11.fn
  have b11 := F11.binds (ps := ["value", "most"]) fun _ _ _ _ _ _ us hl => match us, hl with | [_, _], _ => rfl
  obtain ⟨d12, F12⟩ := D12.fn
  have b12 := F12.binds (ps := ["value", "signs"]) fun _ _ _ _ _ _ us hl => match us, hl with | [_, _], _ => rfl
  obtain ⟨d13, F13⟩ := D13.fn
  have b13 := F13.binds (ps := ["table"]) fun _ _ _ _ _ _ us hl => match us, hl with | [_], _ => rfl
  obtain ⟨d14, F14⟩ := D14.fn
  have b14 := F14.binds (ps := ["signs"]) fun _ _ _ _ _ _ us hl => match us, hl with | [_], _ => rfl
  obtain ⟨d15, F15⟩ := D15.fn
  have b15 := F15.binds (ps := ["put", "out", "swap"]) fun _ _ _ _ _ _ us hl => match us, hl with | [_, _, _], _ => rfl
  obtain ⟨d16, F16⟩ := D16.fn
  have b16 := F16.binds (ps := ["put", "out", "swap"]) fun _ _ _ _ _ _ us hl => match us, hl with | [_, _, _], _ => rfl
  obtain ⟨d17, F17⟩ := D17.fn
  have b17 := F17.binds (ps := ["one", "other", "prices"]) fun _ _ _ _ _ _ us hl => match us, hl with | [_, _, _], _ => rfl
  obtain ⟨d18, F18⟩ := D18.fn
  have b18 := F18.binds (ps := ["one", "other", "prices"]) fun _ _ _ _ _ _ us hl => match us, hl with | [_, _, _], _ => rfl
  obtain ⟨d19, F19⟩ := D19.fn
  have b19 := F19.binds (ps := ["one", "other", "costs"]) fun _ _ _ _ _ _ us hl => match us, hl with | [_, _, _], _ => rfl
  obtain ⟨d20, F20⟩ := D20.fn
  have b20 := F20.binds (ps := ["one", "other", "costs"]) fun _ _ _ _ _ _ us hl => match us, hl with | [_, _, _], _ => rfl
  obtain ⟨d21, F21⟩ := D21.fn
  have b21 := F21.binds (ps := ["_law_script", "_law_at"]) fun _ _ _ _ _ _ us hl => match us, hl with | [_, _], _ => rfl
  obtain ⟨d22, F22⟩ := D22.fn
  have b22 := F22.binds (ps := ["_law_cup_here", "_law_total"]) fun _ _ _ _ _ _ us hl => match us, hl with | [_, _], _ => rfl
  obtain ⟨d23, F23⟩ := D23.fn
  have b23 := F23.binds (ps := ["_law_cup_here", "_law_items", "_law_many"]) fun _ _ _ _ _ _ us hl => match us, hl with | [_, _, _], _ => rfl
  obtain ⟨d24, F24⟩ := D24.fn
  have b24 := F24.binds (ps := ["_law_cup_here", "_law_most"]) fun _ _ _ _ _ _ us hl => match us, hl with | [_, _], _ => rfl
  obtain ⟨d25, F25⟩ := D25.fn
  have b25 := F25.binds (ps := ["_law_cup_here", "_law_items"]) fun _ _ _ _ _ _ us hl => match us, hl with | [_, _], _ => rfl
  obtain ⟨d26, F26⟩ := D26.fn
  have b26 := F26.binds (ps := ["_law_cup_here", "_law_letters", "_law_most"]) fun _ _ _ _ _ _ us hl => match us, hl with | [_, _, _], _ => rfl
  obtain ⟨d27, F27⟩ := D27.fn
  have b27 := F27.binds (ps := ["_law_table"]) fun _ _ _ _ _ _ us hl => match us, hl with | [_], _ => rfl
  obtain ⟨d28, F28⟩ := D28.fn
  have b28 := F28.binds (ps := ["_law_letters", "_law_most"]) fun _ _ _ _ _ _ us hl => match us, hl with | [_, _], _ => rfl
  obtain ⟨d29, F29⟩ := D29.fn
  have b29 := F29.binds (ps := ["_law_table", "_law_word", "_law_most"]) fun _ _ _ _ _ _ us hl => match us, hl with | [_, _, _], _ => rfl
  obtain ⟨d30, F30⟩ := D30.fn
  have b30 := F30.binds (ps := ["_law_table", "_law_begin", "_law_words", "_law_most"]) fun _ _ _ _ _ _ us hl => match us, hl with | [_, _, _, _], _ => rfl
  obtain ⟨d31, F31⟩ := D31.fn
  have b31 := F31.binds (ps := ["_law_table", "_law_prices"]) fun _ _ _ _ _ _ us hl => match us, hl with | [_, _], _ => rfl
  obtain ⟨d32, F32⟩ := D32.fn
  obtain ⟨eK, NK⟩ := MK.fn
  have cK := NK.binds (ps := ["self"]) fun _ _ _ _ _ _ us hl => match us, hl with | [_], _ => rfl
  obtain ⟨eN, NN⟩ := MN.fn
  have cN := NN.binds (ps := ["self", "value"]) fun _ _ _ _ _ _ us hl => match us, hl with | [_, _], _ => rfl
  obtain ⟨h1, R1⟩ := Q1.fn
  have j1 := R1.binds (ps := ["self"]) fun _ _ _ _ _ _ us hl => match us, hl with | [_], _ => rfl
  obtain ⟨h2, R2⟩ := Q2.fn
  have j2 := R2.binds (ps := ["self"]) fun _ _ _ _ _ _ us hl => match us, hl with | [_], _ => rfl
  obtain ⟨h3, R3⟩ := Q3.fn
  have j3 := R3.binds (ps := ["self"]) fun _ _ _ _ _ _ us hl => match us, hl with | [_], _ => rfl
  have cl : Cls K C := ⟨pg, hd, po, sa⟩
  have Tc : Pc K C := ⟨cl, n1, n2, n3, n4⟩
  have Ik : IsK K C := ⟨ha, hn, ht, hm⟩
  have Fi := fun_mk (st := sInit) li ci ki
  have Mc : L2.Mk K C fi := ⟨mk, ii, jf, kc⟩
  have e32 : f32 = fa := by
    have e := hfa.symm.trans (gm D32.at_)
    cases e
    rfl
  subst e32
  have F32' := F32
  obtain ⟨oc', od', kV', doc', pm', an', cdv', ct', osl', rfl, lk', hcd'⟩ := F32'.ex
  refine ⟨PySem.W.fnOf "law" "law" (defArgs sLaw6) (defBody sLaw6) (defScope sLaw6) .none kV' doc' pm' an' cdv' ct', fun s v => .of_eq rfl, fun base _ _ => ?_⟩
  have C1 : Cd l.prog w K mg base 1 "is_number" ["value"] spIsNum := ⟨_, _, ok_isNum F1 B W N, gm D1.at_, F1.kp, b1⟩
  have C2 : Cd l.prog w K mg base 2 "is_number_within" ["value", "least", "most"] spIsNumW := ⟨_, _, ok_isNumW F2 C1, gm D2.at_, F2.kp, b2⟩
  have C3 : Cd l.prog w K mg base 1 "is_sign" ["value"] (spJudge sgB K) := ⟨_, _, ok_isSign F3 B W, gm D3.at_, F3.kp, b3⟩
  have C4 : Cd l.prog w K mg base 1 "is_word" ["value"] (spJudge wB K) := ⟨_, _, ok_isWord F4 W, gm D4.at_, F4.kp, b4⟩
  have C5 : Cd l.prog w K mg base 2 "check_word" ["word"] spChkW := ⟨_, _, ok_chkW F5 B Mx C4, gm D5.at_, F5.kp, b5⟩
  have C11 : Cd l.prog w K mg base 3 "_has_prices" ["value", "most"] spHasP := ⟨_, _, ok_hasP F11 W O M C2, gm D11.at_, F11.kp, b11⟩
  have C10 : Cd l.prog w K mg base 4 "_is_sign_table" ["value"] spIsST := ⟨_, _, ok_isST F10 O M C11 C3, gm D10.at_, F10.kp, b10⟩
  have C12 : Cd l.prog w K mg base 1 "_is_pair" ["value", "signs"] spPair := ⟨_, _, ok_isPair F12 B W O, gm D12.at_, F12.kp, b12⟩
  have C9 : Cd l.prog w K mg base 5 "_are_tables" ["put", "out", "swap"] spAreT := ⟨_, _, ok_areT F9 O M C10 C11 C12, gm D9.at_, F9.kp, b9⟩
  have C13 : Cd l.prog w K mg base 1 "ascending_dict" ["table"] spAsc := ⟨_, _, ok_asc F13 O, gm D13.at_, F13.kp, b13⟩
  have C14 : Cd l.prog w K mg base 1 "_pairs" ["signs"] spPairs := ⟨_, _, ok_pairs F14, gm D14.at_, F14.kp, b14⟩
  have Gi : FnOk l.prog w K mg base CX0 6 fi _ ["self", "put", "out", "swap"] (spInit C) := ok_init Fi Tc O C9 C13
  have P1 : Pd l.prog w K mg base C 2 "put" (spTabP C fun t _ => t) := ⟨p1, q1, h1, Q1.of, ok_putP R1 Tc C13, j1⟩
  have P2 : Pd l.prog w K mg base C 2 "out" (spTabP C fun _ t => t) := ⟨p2, q2, h2, Q2.of, ok_outP R2 Tc C13, j2⟩
  have P3 : Pd l.prog w K mg base C 2 "swap" (spTabS C) := ⟨p3, q3, h3, Q3.of, ok_swapP R3 Tc C13, j3⟩
  have GN : FnOk l.prog w K mg base CX0 1 gN eN ["self", "value"] (spCont K C) := ok_contP NN Tc
  have C6 : Cd l.prog w K mg base 1 "check_prices" ["prices"] (spChkPr C) := ⟨_, _, ok_chkPr F6 Tc Ik (gm aC) (gz z_isinstance), gm D6.at_, F6.kp, b6⟩
  have C7 : Cd l.prog w K mg base 2 "have_signs" ["prices", "signs"] (spHaveS C) := ⟨_, _, ok_haveS F7 O ⟨MN.find, MN.fun_⟩ GN cN, gm D7.at_, F7.kp, b7⟩
  have C16 : Cd l.prog w K mg base 1 "_direct_costs" ["put", "out", "swap"] spDir := ⟨_, _, ok_dir F16, gm D16.at_, F16.kp, b16⟩
  have C15 : Cd l.prog w K mg base 2 "_least_costs" ["put", "out", "swap"] spLc := ⟨_, _, ok_least F15 B C16, gm D15.at_, F15.kp, b15⟩
  have C8 : Cd l.prog w K mg base 4 "costs_by_ends" ["prices"] (spBy C) := ⟨_, _, ok_by F8 Tc C15 P1 P2 P3, gm D8.at_, F8.kp, b8⟩
  have C20 : Cd l.prog w K mg base 1 "_cost_rows" ["one", "other", "costs"] spRows := ⟨_, _, ok_rows F20 B ⟨gz z_enumerate⟩, gm D20.at_, F20.kp, b20⟩
  have C19 : Cd l.prog w K mg base 2 "_cost_between" ["one", "other", "costs"] spBetw := ⟨_, _, ok_betw F19 C20, gm D19.at_, F19.kp, b19⟩
  have C18 : Cd l.prog w K mg base 3 "_check_pair" ["one", "other", "prices"] (spPair6 C) := ⟨_, _, ok_pair6 F18 B Mx C5 C6 C7, gm D18.at_, F18.kp, b18⟩
  have C17 : Cd l.prog w K mg base 5 "distance" ["one", "other", "prices"] (spDist C) := ⟨_, _, ok_dist F17 C18 C8 C19, gm D17.at_, F17.kp, b17⟩
  have C21 : Cd l.prog w K mg base 1 "_law_cup" ["_law_script", "_law_at"] (spFilled K) := ⟨_, _, ok_cup F21 B, gm D21.at_, F21.kp, b21⟩
  have C22 : Cd l.prog w K mg base 1 "_law_toss" ["_law_cup_here", "_law_total"] spDip := ⟨_, _, ok_toss F22 B, gm D22.at_, F22.kp, b22⟩
  have C23 : Cd l.prog w K mg base 2 "_law_choices" ["_law_cup_here", "_law_items", "_law_many"] spChoices := ⟨_, _, ok_choices F23 B C22, gm D23.at_, F23.kp, b23⟩
  have C24 : Cd l.prog w K mg base 3 "_law_alphabet" ["_law_cup_here", "_law_most"] spAlph := ⟨_, _, ok_alph F24 O C22 C23, gm D24.at_, F24.kp, b24⟩
  have C25 : Cd l.prog w K mg base 2 "_law_choice" ["_law_cup_here", "_law_items"] spChoose := ⟨_, _, ok_choice F25 B C22, gm D25.at_, F25.kp, b25⟩
  have C26 : Cd l.prog w K mg base 3 "_law_rates" ["_law_cup_here", "_law_letters", "_law_most"] spRates := ⟨_, _, ok_rates F26 Dd C22 C25, gm D26.at_, F26.kp, b26⟩
  have C27 : Cd l.prog w K mg base 8 "_law_priced" ["_law_table"] (spMade C) := ⟨_, _, ok_priced F27 B Dd Mc Fi Gi (gm aC), gm D27.at_, F27.kp, b27⟩
  have C28 : Cd l.prog w K mg base 1 "_law_listed_words" ["_law_letters", "_law_most"] spWords := ⟨_, _, ok_words F28 B, gm D28.at_, F28.kp, b28⟩
  have C29 : Cd l.prog w K mg base 1 "_law_nearby" ["_law_table", "_law_word", "_law_most"] spNear := ⟨_, _, ok_near F29 B O, gm D29.at_, F29.kp, b29⟩
  have C30 : Cd l.prog w K mg base 2 "_law_forced" ["_law_table", "_law_begin", "_law_words", "_law_most"] spForced := ⟨_, _, ok_forced F30 B Dd C29, gm D30.at_, F30.kp, b30⟩
  have KP : Md l.prog w K mg base C CX0 8 "closed" ["self"] (spClosed C) := ⟨gK, eK, ⟨MK.find, MK.fun_, NK.kp⟩, ok_closed NK Tc Mc Fi Gi (gm aC) C8 C14, cK⟩
  have C31 : Cd l.prog w K mg base 9 "_law_closed_right" ["_law_table", "_law_prices"] (spCR C) := ⟨_, _, ok_cr F31 Tc O KP C17 P1 P2 P3, gm D31.at_, F31.kp, b31⟩
  exact ok_law6 F32 Tc B ⟨gz z_repr⟩ C21 C24 C26 C27 C28 C25 C30 C17 C31 KP
theorem walk {l : PySem.W.OpenLaw} {q p : Program} {loose : List Str} {YP : World → Heap → Prop} {d : DefRec} {K : Params → PySem.W.Frag} (hn : l.most = some 63) (hdf : d.params.defaults = [])
    (hY : ∀ (w : World) (h : Heap), YP w h → (K w.params).In h)
    (F : ∀ (w : World) (mg : Str → Option Value) (fa : Addr) (h : Heap), (K w.params).In h → h.Ns mainGlobals mg → PySem.W.XL p [("LARGEST", PySem.W.WData.int LG)] mg h → mg d.name = some (.ref fa) →
      ∃ fd : FuncData, (∀ (s : Shared) (u : Value), BindsTo s fd ⟨[u], []⟩ [("_law_script", u)]) ∧ ∀ base : Heap, (K w.params).In base → base.Ns mainGlobals mg → FnG l.prog w (K w.params) mg base CX0 10 fa fd ["_law_script"] (spLaw (K w.params))) :
    PySem.W.WalkO q loose (PySem.W.XL p [("LARGEST", PySem.W.WData.int LG)]) YP l.row.toRowW d [] (fun f vs => PySem.call f vs) :=
  walk_ofG (n := 63) (k := 10) (x := "_law_script") (sp := fun w => spLaw (K w.params)) hn (by decide) hdf ⟨rfl, by decide, by decide⟩ hY F (fun _ _ a ns hl _ hS => ⟨a, ns, rfl, hS, hl, fun _ => rfl⟩)
end Mk

open PySem PySem.W PyProof.Rows in
set_option maxRecDepth 100000 in
set_option maxHeartbeats 0 in
theorem PySem.Challenge.cw_mendnumber_k06_whole_costs_by_force_holds : PySem.Challenge.rw_mendnumber_k06_whole_costs_by_force.Holds := by
  w_on; o_law; k_head; (case hw => w_witness2)
  k_fill
  refine Mk.walk (l := PySem.Challenge.rw_mendnumber_k06_whole_costs_by_force) rfl rfl (fun w h Y => PySem.W.kIn_of Y) ?F
  case F =>
    intro w mg fa h KX G XP hmg
    refine' Mk.all_mk KX G XP.2 hmg (Mk.df_mk ?a1 ?l1 ?c1 ?k1) (Mk.df_mk ?a2 ?l2 ?c2 ?k2) (Mk.df_mk ?a3 ?l3 ?c3 ?k3) (Mk.df_mk ?a4 ?l4 ?c4 ?k4) (Mk.df_mk ?a5 ?l5 ?c5 ?k5) (Mk.df_mk ?a6 ?l6 ?c6 ?k6) (Mk.df_mk ?a7 ?l7 ?c7 ?k7) (Mk.df_mk ?a8 ?l8 ?c8 ?k8) (Mk.df_mk ?a9 ?l9 ?c9 ?k9) (Mk.df_mk ?a10 ?l10 ?c10 ?k10) (Mk.df_mk ?a11 ?l11 ?c11 ?k11) (Mk.df_mk ?a12 ?l12 ?c12 ?k12) (Mk.df_mk ?a13 ?l13 ?c13 ?k13) (Mk.df_mk ?a14 ?l14 ?c14 ?k14) (Mk.df_mk ?a15 ?l15 ?c15 ?k15) (Mk.df_mk ?a16 ?l16 ?c16 ?k16) (Mk.df_mk ?a17 ?l17 ?c17 ?k17) (Mk.df_mk ?a18 ?l18 ?c18 ?k18) (Mk.df_mk ?a19 ?l19 ?c19 ?k19) (Mk.df_mk ?a20 ?l20 ?c20 ?k20) (Mk.df_mk ?a21 ?l21 ?c21 ?k21) (Mk.df_mk ?a22 ?l22 ?c22 ?k22) (Mk.df_mk ?a23 ?l23 ?c23 ?k23) (Mk.df_mk ?a24 ?l24 ?c24 ?k24) (Mk.df_mk ?a25 ?l25 ?c25 ?k25) (Mk.df_mk ?a26 ?l26 ?c26 ?k26) (Mk.df_mk ?a27 ?l27 ?c27 ?k27) (Mk.df_mk ?a28 ?l28 ?c28 ?k28) (Mk.df_mk ?a29 ?l29 ?c29 ?k29) (Mk.df_mk ?a30 ?l30 ?c30 ?k30) (Mk.df_mk ?a31 ?l31 ?c31 ?k31) (Mk.df_mk ?a32 ?l32 ?c32 ?k32) ?y_z_len ?y_z_int ?y_z_abs ?y_z_max ?y_z_min ?y_z_range ?y_z_list ?y_z_isinstance ?y_z_str ?y_z_tuple ?y_z_all ?y_z_sorted ?y_z_set ?y_z_bool ?y_z_dict ?y_z_repr ?y_z_enumerate ?y_vS ?y_vP ?y_vM ?y_vW ?y_vC ?y_aC ?y_pg ?y_hd ?y_po ?y_sa ?y_mk ?y_kc ?y_n1 ?y_n2 ?y_n3 ?y_n4 ?y_ii ?y_jf ?y_li ?y_ci ?y_ki ?y_ha ?y_hn ?y_ht ?y_hm (Mk.mf_mk ?mKa ?mKi ?mKl ?mKc ?mKk) (Mk.mf_mk ?mNa ?mNi ?mNl ?mNc ?mNk) (Mk.pf_mk ?p1a ?p1b ?p1t ?p1r ?p1l ?p1c ?p1k) (Mk.pf_mk ?p2a ?p2b ?p2t ?p2r ?p2l ?p2c ?p2k) (Mk.pf_mk ?p3a ?p3b ?p3t ?p3r ?p3l ?p3c ?p3k)
    (case a1 => k_is)
    (case l1 => k_is)
    (case c1 => k_is)
    (case k1 => k_is)
    (case a2 => k_is)
    (case l2 => k_is)
    (case c2 => k_is)
    (case k2 => k_is)
    (case a3 => k_is)
    (case l3 => k_is)
    (case c3 => k_is)
    (case k3 => k_is)
    (case a4 => k_is)
    (case l4 => k_is)
    (case c4 => k_is)
    (case k4 => k_is)
    (case a5 => k_is)
    (case l5 => k_is)
    (case c5 => k_is)
    (case k5 => k_is)
    (case a6 => k_is)
    (case l6 => k_is)
    (case c6 => k_is)
    (case k6 => k_is)
    (case a7 => k_is)
    (case l7 => k_is)
    (case c7 => k_is)
    (case k7 => k_is)
    (case a8 => k_is)
    (case l8 => k_is)
    (case c8 => k_is)
    (case k8 => k_is)
    (case a9 => k_is)
    (case l9 => k_is)
    (case c9 => k_is)
    (case k9 => k_is)
    (case a10 => k_is)
    (case l10 => k_is)
    (case c10 => k_is)
    (case k10 => k_is)
    (case a11 => k_is)
    (case l11 => k_is)
    (case c11 => k_is)
    (case k11 => k_is)
    (case a12 => k_is)
    (case l12 => k_is)
    (case c12 => k_is)
    (case k12 => k_is)
    (case a13 => k_is)
    (case l13 => k_is)
    (case c13 => k_is)
    (case k13 => k_is)
    (case a14 => k_is)
    (case l14 => k_is)
    (case c14 => k_is)
    (case k14 => k_is)
    (case a15 => k_is)
    (case l15 => k_is)
    (case c15 => k_is)
    (case k15 => k_is)
    (case a16 => k_is)
    (case l16 => k_is)
    (case c16 => k_is)
    (case k16 => k_is)
    (case a17 => k_is)
    (case l17 => k_is)
    (case c17 => k_is)
    (case k17 => k_is)
    (case a18 => k_is)
    (case l18 => k_is)
    (case c18 => k_is)
    (case k18 => k_is)
    (case a19 => k_is)
    (case l19 => k_is)
    (case c19 => k_is)
    (case k19 => k_is)
    (case a20 => k_is)
    (case l20 => k_is)
    (case c20 => k_is)
    (case k20 => k_is)
    (case a21 => k_is)
    (case l21 => k_is)
    (case c21 => k_is)
    (case k21 => k_is)
    (case a22 => k_is)
    (case l22 => k_is)
    (case c22 => k_is)
    (case k22 => k_is)
    (case a23 => k_is)
    (case l23 => k_is)
    (case c23 => k_is)
    (case k23 => k_is)
    (case a24 => k_is)
    (case l24 => k_is)
    (case c24 => k_is)
    (case k24 => k_is)
    (case a25 => k_is)
    (case l25 => k_is)
    (case c25 => k_is)
    (case k25 => k_is)
    (case a26 => k_is)
    (case l26 => k_is)
    (case c26 => k_is)
    (case k26 => k_is)
    (case a27 => k_is)
    (case l27 => k_is)
    (case c27 => k_is)
    (case k27 => k_is)
    (case a28 => k_is)
    (case l28 => k_is)
    (case c28 => k_is)
    (case k28 => k_is)
    (case a29 => k_is)
    (case l29 => k_is)
    (case c29 => k_is)
    (case k29 => k_is)
    (case a30 => k_is)
    (case l30 => k_is)
    (case c30 => k_is)
    (case k30 => k_is)
    (case a31 => k_is)
    (case l31 => k_is)
    (case c31 => k_is)
    (case k31 => k_is)
    (case a32 => k_is)
    (case l32 => k_is)
    (case c32 => k_is)
    (case k32 => k_is)
    (case y_z_len => k_is)
    (case y_z_int => k_is)
    (case y_z_abs => k_is)
    (case y_z_max => k_is)
    (case y_z_min => k_is)
    (case y_z_range => k_is)
    (case y_z_list => k_is)
    (case y_z_isinstance => k_is)
    (case y_z_str => k_is)
    (case y_z_tuple => k_is)
    (case y_z_all => k_is)
    (case y_z_sorted => k_is)
    (case y_z_set => k_is)
    (case y_z_bool => k_is)
    (case y_z_dict => k_is)
    (case y_z_repr => k_is)
    (case y_z_enumerate => k_is)
    (case y_vS => k_is)
    (case y_vP => k_is)
    (case y_vM => k_is)
    (case y_vW => k_is)
    (case y_vC => k_is)
    (case y_aC => k_is)
    (case y_pg => k_is)
    (case y_hd => k_is)
    (case y_po => k_is)
    (case y_sa => k_is)
    (case y_mk => k_is)
    (case y_kc => k_is)
    (case y_n1 => k_is)
    (case y_n2 => k_is)
    (case y_n3 => k_is)
    (case y_n4 => k_is)
    (case y_ii => k_is)
    (case y_jf => k_is)
    (case y_li => k_is)
    (case y_ci => k_is)
    (case y_ki => k_is)
    (case y_ha => k_is)
    (case y_hn => k_is)
    (case y_ht => k_is)
    (case y_hm => k_is)
    (case mKa => k_is)
    (case mKi => k_is)
    (case mKl => k_is)
    (case mKc => k_is)
    (case mKk => k_is)
    (case mNa => k_is)
    (case mNi => k_is)
    (case mNl => k_is)
    (case mNc => k_is)
    (case mNk => k_is)
    (case p1a => k_is)
    (case p1b => k_is)
    (case p1t => k_is)
    (case p1r => k_is)
    (case p1l => k_is)
    (case p1c => k_is)
    (case p1k => k_is)
    (case p2a => k_is)
    (case p2b => k_is)
    (case p2t => k_is)
    (case p2r => k_is)
    (case p2l => k_is)
    (case p2c => k_is)
    (case p2k => k_is)
    (case p3a => k_is)
    (case p3b => k_is)
    (case p3t => k_is)
    (case p3r => k_is)
    (case p3l => k_is)
    (case p3c => k_is)
    (case p3k => k_is)
