import PyProof.Rows.All
import Wide.All
import OpenK.AllK
import Wide.FinOn
import HandS.ForMost
import HandS.Wide
import HandS.Flow
import PySem.Challenge.RW_mendnumber_k00_words_judged_and_ordered
import HandS.IsInst
import HandS.StrMore
import HandS.Walk
import HandS.Set
import HandS.SetFor
import HandS.SetTxt0
import HandS.Strs
import KE.SortData
import KE.SortLaws
import KE.SortKeyHeap
import KE.SortUse
import HandS.MakeKwOnly
import HandS.ClsMeth
import HandS.DictComp
import HandS.Conv
import HandS.More
import HandS.Iter
import HandS.Defaults
import HandS.Style
import KE.KRevSl
set_option Elab.async false
set_option maxRecDepth 100000
set_option maxHeartbeats 4000000
namespace Mk
open PySem L2

/-! ### rules of our own -/
section
variable {X : Cx}
def CPowW (i j : Int) : Prop := 0 ≤ j ∧ (Builtin.Int.intBits i : Int) * j ≤ 2 ^ 27
theorem op_powW : OpR X (binaryOp .Pow) (rI CPowW fun i j => .int (i ^ j.toNat)) := opI fun _ _ _ _ _ _ _ hc q => PyProof.Rows.pow_int hc.1 hc.2 q
end

/-! ### the pot -/
abbrev PB : Nat := 4294967296
/-- the pot at p: its count is at most n -/
def Pot (H : Hp) (p : Addr) (n : Nat) : Prop := ∃ u m c : Int, H p = some (.lst [.int u, .int m, .int c]) ∧ 0 ≤ u ∧ u < 2 ^ 2000 ∧ 0 ≤ m ∧ m < 2 ^ 62 ∧ 0 ≤ c ∧ c ≤ (n : Int)
theorem Pot.mono {H : Hp} {p : Addr} {n k : Nat} (h : Pot H p n) (hk : n ≤ k) : Pot H p k := by
  obtain ⟨u, m, c, e, h1, h2, h3, h4, h5, h6⟩ := h
  exact ⟨u, m, c, e, h1, h2, h3, h4, h5, by omega⟩
/-- all but p is as it was -/
def But (p : Addr) (H H' : Hp) : Prop := ∀ b o, b ≠ p → H b = some o → H' b = some o

/-! rules for a comprehension's block, the written part told -/
section
variable {X : Cx} {K : PySem.W.Frag}
theorem atK {e : Expr} {T : String} {r : V → List V → Hp → VK → Prop} {to : TE} {t : TA} (K : PySem.W.Frag) (h : PE X e (tBM X.K T r to t)) (hK : X.K = K := by rfl) : PE X e (tBM K T r to t) := hK ▸ h
theorem ix_listK (K : PySem.W.Frag) (hK : X.K = K := by rfl) : IxR X (rIxL K) := by
  subst hK
  exact ix_list
theorem call_lenK (K : PySem.W.Frag) (hK : X.K = K := by rfl) : CallR X (.builtin "len") (fun xs H Q => ∃ p ys, xs = [.ref p] ∧ (SqL K H p ys ∨ SqT K H p ys) ∧ Q (.int ys.length) H) := by
  subst hK
  exact call_len_seq
end
/-! ### words -/
/-- the codes of a text -/
abbrev cs (z : Str) : List Nat := z.cps.toList
/-- a text of signs a .. e -/
def IsW (z : Str) : Prop := ∀ c ∈ cs z, 97 ≤ c ∧ c ≤ 101
theorem cs_append (x y : Str) : cs (x ++ y) = cs x ++ cs y := by
  show (x.cps ++ y.cps).toList = _
  rw [Array.toList_append]
theorem len_cs (z : Str) : z.length = (cs z).length := rfl
theorem cs_join : ∀ ys : List Str, cs (Txt.join "" ys) = (ys.map cs).flatten := by
  intro ys
  show cs (Builtin.Str.glued "" ys) = _
  rw [StrLaws.glued_eq_join]
  induction ys with
  | nil => rfl
  | cons x r ih =>
    cases r with
    | nil => simp [Str.join]
    | cons y t =>
      show cs (x ++ "" ++ Str.join "" (y :: t)) = _
      rw [cs_append, cs_append, ih]
      simp
      rfl
theorem isW_join {ys : List Str} (h : ∀ y ∈ ys, IsW y) : IsW (Txt.join "" ys) := by
  intro c hc
  rw [cs_join] at hc
  obtain ⟨l, hl, hc⟩ := List.mem_flatten.mp hc
  obtain ⟨y, hy, rfl⟩ := List.mem_map.mp hl
  exact h y hy c hc
theorem len_join (ys : List Str) : (Txt.join "" ys).length = (ys.map (·.length)).sum := by
  rw [len_cs, cs_join, List.length_flatten, List.map_map]
  rfl
theorem sum_one {ys : List Str} (h : ∀ y ∈ ys, y.length = 1) : (ys.map (·.length)).sum = ys.length := by
  induction ys with
  | nil => rfl
  | cons y r ih =>
    rw [List.map_cons, List.sum_cons, h y List.mem_cons_self, ih fun z hz => h z (List.mem_cons_of_mem _ hz), List.length_cons]
    omega
theorem isW_one {c : Nat} (h : c ∈ cs "abcde") : IsW ⟨#[c]⟩ := by
  have e : cs "abcde" = [97, 98, 99, 100, 101] := by decide +kernel
  rw [e] at h
  intro d hd
  have : d = c := by simpa [cs] using hd
  subst this
  simp at h
  omega
theorem perm_erase {α : Type} : ∀ {l : List α} {k : Nat} (h : k < l.length), (l[k] :: l.eraseIdx k).Perm l
  | [], _, h => absurd h (Nat.not_lt_zero _)
  | a :: l, 0, _ => .refl _
  | a :: l, k + 1, h => by
    have ih := perm_erase (l := l) (k := k) (by simpa using h)
    simp only [List.getElem_cons_succ, List.eraseIdx_cons_succ]
    exact (List.Perm.swap _ _ _).trans (ih.cons a)
theorem seq_at {k : Int} {n : Nat} (h0 : 0 ≤ k) (h1 : k < n) : seqIndex? k n = some k.toNat := by
  unfold seqIndex?
  rw [if_neg (by omega : ¬ k < 0)]
  simp [h0, h1]
theorem at_ofA {α : Type} {xs : List α} {z : Int} {j : Nat} {v : α} (e : z = (j : Int)) (h : xs[j]? = some v) : atI xs z = some v := by
  rw [e]
  exact atI_nat h
theorem But.refl {p : Addr} {H : Hp} : But p H H := fun _ _ _ e => e
theorem But.trans {p : Addr} {H H1 H2 : Hp} (a : But p H H1) (b : But p H1 H2) : But p H H2 := fun c o h e => b c o h (a c o h e)
theorem But.of_same {p : Addr} {H H' : Hp} (h : Same H H') : But p H H' := fun b o _ e => h b o e
theorem Same.new {H : Hp} {l : Addr} {o : HO} (hl : H l = none) : Same H (upd H l o) := fun b u e => by
  rw [upd_ne (ne_of_none e hl)]
  exact e
/-- a store at an address that was new -/
theorem But.up {p l : Addr} {o : HO} {H H1 : Hp} (a : But p H H1) (hl : H l = none) : But p H (upd H1 l o) := fun b u h e => by
  rw [upd_ne (ne_of_none e hl)]
  exact a b u h e
theorem Pot.up {H : Hp} {p l : Addr} {n : Nat} {o : HO} (h : Pot H p n) (hn : p ≠ l) : Pot (upd H l o) p n := by
  obtain ⟨u, m, c, e, r⟩ := h
  exact ⟨u, m, c, by rw [upd_ne hn]; exact e, r⟩
theorem Pot.ne {H : Hp} {p l : Addr} {n : Nat} (h : Pot H p n) (hn : H l = none) : p ≠ l := by
  obtain ⟨u, m, c, e, r⟩ := h
  exact ne_of_none e hn
theorem join_e {b : Bool} {te1 te2 : TE} {σ : L2.St} {H : Hp} {C : VK} (R : V → Prop) (hC : ∀ z, R z → C z H) (h1 : b = true → (∀ z, R z → C z H) → te1 σ H C) (h2 : b = false → (∀ z, R z → C z H) → te2 σ H C) :
    (fun (c : Bool) (H1 : Hp) => if c = true then te1 σ H1 C else te2 σ H1 C) b H := by
  cases b with
  | true => exact iteT (h1 rfl hC)
  | false => exact iteF (h2 rfl hC)
def wide_nz (j : Int) : Prop := j ≠ 0
theorem nz600 : (fun (_ j : Int) => j ≠ 0) 0 ((10 ^ Int.toNat 60) ^ Int.toNat 10) := by decide +kernel
/-! ### the text by places -/
def top (i : Nat) : Stmt := PySem.Challenge.pw_mendnumber_k00_words_judged_and_ordered.main.body.getD i (.Pass ⟨0, 0, 0, 0⟩)
abbrev sFilled : Stmt := top 30
abbrev sDip : Stmt := top 31

/-- the names of the builtins that the text leaves alone -/
structure Bn (mg : Str → Option Value) : Prop where
  len : mg "len" = none
  int : mg "int" = none
  abs : mg "abs" = none
  max : mg "max" = none
  min : mg "min" = none
  range : mg "range" = none
  list : mg "list" = none

def spFilled (K : PySem.W.Frag) : Sp := fun vs H Q _ => ∃ (a : Addr) (ns : List Int) (k : Nat), vs = [.ref a, .int k] ∧ SqL K H a (ns.map V.int) ∧ ns.length ≤ 63 ∧ k ≤ 63 ∧
  ∀ H' p, Same H H' → H p = none → Pot H' p 0 → Q (.ref p) H'
def spDip : Sp := fun vs H Q _ => ∃ (p : Addr) (n : Nat) (t : Int), vs = [.ref p, .int t] ∧ Pot H p n ∧ n < PB ∧ 0 < t ∧ t < 1073741824 ∧
  ∀ H' (k : Int), But p H H' → (∀ b, H b = none → H' b = none) → Pot H' p (n + 1) → 0 ≤ k → k < t → Q (.int k) H'

section
variable {P : Program} {w : World} {K : PySem.W.Frag} {mg : Str → Option Value} {base : Heap}
theorem scFilled : FnScope ["_law_script", "_law_at", "_law_cell", "_law_whole", "_law_mixed"] ["_law_script", "_law_at"] (defScope sFilled) := ⟨rfl, rfl, rfl, by decide +kernel, rfl, by decide +kernel, by decide +kernel⟩
theorem ok_filled {f : Addr} {fd : FuncData} (F : Fun K "_law_filled" "_law_filled" sFilled f fd) (B : Bn mg) : FnOk P w K mg base CX0 1 f fd ["_law_script", "_law_at"] (spFilled K) := by
  refine F.ok scFilled (fun vs H Q E h => ?_) (fun cdv A outer s H vs Q E hr h => ?_)
  · obtain ⟨a, ns, k, rfl, _⟩ := h
    rfl
  · obtain ⟨a, ns, k, rfl, hS, hl, hk, q⟩ := h
    refine ⟨_, pss_cons (ps_set (i := 2) scFilled.nd rfl (.inl rfl) (pe_ifExp (pt_cmpR op_lt (pv 1) (pe_callB call_len_seq (by rfl) B.len PySem.boot_len (pa_cons (pv 0) pa_nil)) (nomark _)) (pe_ix ix_list (pv 0) (pv 1) (fun _ _ => rfl)) (pe_op op_add (pe_op op_mul pe_int (pv 1)) pe_int)))
      (pss_cons (ps_set (i := 3) scFilled.nd rfl (.inl rfl) (pe_op op_modN (pe_callTy call_int1 (by rfl) B.int (by decide +kernel) (pa_cons (pe_callB call_abs (by rfl) B.abs (by decide +kernel) (pa_cons (pv 2) pa_nil)) pa_nil)) (pe_op op_powW (pe_op op_powW pe_int pe_int) pe_int)))
      (pss_cons (ps_set (i := 4) scFilled.nd rfl (.inl rfl) (pe_op op_modN (pe_callTy call_int1 (by rfl) B.int (by decide +kernel) (pa_cons (pe_op op_add (pe_op op_add (pe_op op_add (pv 3) (pe_op op_mul pe_int (pv 1))) (pe_op op_mul pe_int (pe_callTy call_int1 (by rfl) B.int (by decide +kernel) (pa_cons (pe_cmpR op_lt (pv 2) pe_int (nomark _)) pa_nil)))) pe_int) pa_nil)) pe_int))
      (pss_one (ps_ret (pe_lst (pa_cons (pe_callB (call_max2 rfl) (by rfl) B.max (by decide +kernel) (pa_cons pe_int (pa_cons (pe_op op_sub (pv 3) (pe_op op_powW pe_int pe_int)) pa_nil))) (pa_cons (pv 4) (pa_cons pe_int pa_nil)))))))), ?_⟩
    have hpw : CPowW 10 60 := ⟨by decide, by decide +kernel⟩
    have hpw2 : CPowW (10 ^ (60 : Int).toNat) 10 := ⟨by decide, by decide +kernel⟩
    have hpw3 : CPowW 10 18 := ⟨by decide, by decide +kernel⟩
    refine ⟨_, rfl, _, rfl, a, _, rfl, .inl hS, _, _, rfl, rfl, _, rfl, ?_⟩
    refine join_e (fun z => ∃ i, z = V.int i) ?_ ?_ ?_
    · rintro _ ⟨z, rfl⟩
      refine ⟨_, rfl, _, rfl, .inl ⟨_, rfl, _, _, rfl, rfl, hpw, _, _, rfl, rfl, hpw2, _, _, rfl, rfl, nz600, ?_⟩⟩
      refine ⟨_, rfl, _, rfl, _, _, rfl, rfl, .inl ⟨by decide, by decide⟩, _, _, rfl, rfl, ?_⟩
      refine ⟨_, rfl, _, _, rfl, rfl, .inr ⟨_, rfl, _, _, rfl, rfl, .inl ⟨by decide, by decide⟩, _, _, rfl, rfl, _, _, rfl, rfl, .inl ⟨_, rfl, _, _, rfl, rfl, (by show (2305843009213693921 : Int) ≠ 0; decide), ?_⟩⟩⟩
      refine ⟨_, rfl, _, _, rfl, rfl, hpw3, _, _, rfl, rfl, _, _, rfl, _, rfl, (by show 3 ≤ sizeLine; decide), fun p hp => ?_⟩
      refine q _ p (fun b o e => ?_) hp ?_
      · rw [upd_ne (ne_of_none e hp)]
        exact e
      · have hb : (0 : Int) < (10 ^ Int.toNat 60) ^ Int.toNat 10 := by decide +kernel
        have hb2 : ((10 ^ Int.toNat 60) ^ Int.toNat 10 : Int) < 2 ^ 2000 := by decide +kernel
        generalize ((10 ^ Int.toNat 60) ^ Int.toNat 10 : Int) = N at hb hb2 ⊢
        have h1 := Int.fmod_nonneg_of_pos (if z < 0 then -z else z) hb
        have h2 := Int.fmod_lt_of_pos (if z < 0 then -z else z) hb
        generalize (if z < 0 then -z else z).fmod N = y at h1 h2 ⊢
        have h3 := Int.fmod_nonneg_of_pos (y + 7368787 * (k : Int) + (32452843 * if decide (z < 0) = true then 1 else 0) + 101) (show (0 : Int) < 2305843009213693921 by decide)
        have h4 := Int.fmod_lt_of_pos (y + 7368787 * (k : Int) + (32452843 * if decide (z < 0) = true then 1 else 0) + 101) (show (0 : Int) < 2305843009213693921 by decide)
        refine ⟨_, _, _, upd_same, ?_, ?_, h3, Int.lt_of_lt_of_le h4 (by decide), Int.le_refl _, Int.le_refl _⟩
        · split <;> omega
        · split
          · have : (0 : Int) < 10 ^ Int.toNat 18 := by decide +kernel
            omega
          · exact Int.lt_trans hb hb2
    · intro hb hC
      have hk2 : (k : Int) < ((ns.map V.int).length : Nat) := of_decide_eq_true hb
      rw [List.length_map] at hk2
      have hk3 : k < ns.length := by omega
      refine ⟨_, rfl, _, rfl, a, _, _, V.int (ns[k]'hk3), rfl, rfl, hS, atI_nat (by rw [List.getElem?_map, List.getElem?_eq_getElem hk3]; rfl), hC _ ⟨_, rfl⟩⟩
    · intro hb hC
      exact ⟨_, rfl, _, _, rfl, rfl, .inl ⟨by decide, by decide⟩, _, _, rfl, rfl, hC _ ⟨_, rfl⟩⟩
theorem scDip : FnScope ["_law_pot", "_law_total", "_law_found", "_law_one", "_law_two"] ["_law_pot", "_law_total"] (defScope sDip) := ⟨rfl, rfl, rfl, by decide +kernel, rfl, by decide +kernel, by decide +kernel⟩
theorem ok_dip {f : Addr} {fd : FuncData} (F : Fun K "_law_dip" "_law_dip" sDip f fd) (B : Bn mg) : FnOk P w K mg base CX0 1 f fd ["_law_pot", "_law_total"] spDip := by
  refine F.ok scDip (fun vs H Q E h => ?_) (fun cdv A outer s H vs Q E hr h => ?_)
  · obtain ⟨p, n, t, rfl, _⟩ := h
    rfl
  · obtain ⟨p, n, t, rfl, ⟨u, m, c, hp, hu0, hu1, hm0, hm1, hc0, hc1⟩, hn, ht0, ht1, q⟩ := h
    refine ⟨_, pss_cons (ps_if (pt_cmpR op_gt (pe_ix ix_list (pv 0) pe_int (fun _ _ => rfl)) pe_int (nomark _))
        (pss_cons (ps_set (i := 2) scDip.nd rfl (.inl rfl) (pe_op op_modN (pe_callTy call_int1 (by rfl) B.int (by decide +kernel) (pa_cons (pe_ix ix_list (pv 0) pe_int (fun _ _ => rfl)) pa_nil)) (pv 1)))
        (pss_cons (ps_asg (pe_op op_fdivW (pe_ix ix_list (pv 0) pe_int (fun _ _ => rfl)) (pv 1)) (pg_sub (pv 0) pe_int set_list))
        (pss_one (ps_ret (pv 2))))) pss_nil)
      (pss_cons (ps_asg (pe_op op_add (pe_ix ix_list (pv 0) pe_int (fun _ _ => rfl)) pe_int) (pg_sub (pv 0) pe_int set_list))
      (pss_cons (ps_set (i := 3) scDip.nd rfl (.inl rfl) (pe_op op_modN (pe_callTy call_int1 (by rfl) B.int (by decide +kernel) (pa_cons (pe_op op_add (pe_op op_mulW (pe_ix ix_list (pv 0) pe_int (fun _ _ => rfl)) pe_int) (pe_op op_mulW (pe_ix ix_list (pv 0) pe_int (fun _ _ => rfl)) pe_int)) pa_nil)) pe_int))
      (pss_cons (ps_set (i := 4) scDip.nd rfl (.inl rfl) (pe_op op_modN (pe_callTy call_int1 (by rfl) B.int (by decide +kernel) (pa_cons (pe_op op_add (pe_op op_mulW (pv 3) (pv 3)) (pe_op op_mulW pe_int (pe_ix ix_list (pv 0) pe_int (fun _ _ => rfl)))) pa_nil)) pe_int))
      (pss_one (ps_ret (pe_op op_modN (pe_callTy call_int1 (by rfl) B.int (by decide +kernel) (pa_cons (pe_op op_fdivW (pe_op op_modN (pe_callTy call_int1 (by rfl) B.int (by decide +kernel) (pa_cons (pe_op op_add (pe_op op_mulW (pv 4) pe_int) (pv 3)) pa_nil)) pe_int) pe_int) pa_nil)) (pv 1))))))), ?_⟩
    have tnz : t ≠ 0 := by omega
    have tb : t.natAbs < 2 ^ 30 := by omega
    have g0 : (fun (_ : V) => True) V.non := trivial
    refine ⟨_, rfl, p, _, _, _, rfl, rfl, SqL.of hp, atI_nat (j := 0) rfl, _, _, rfl, rfl, _, rfl, ?_⟩
    refine ite2 (fun _ => ?_) (fun _ => ?_)
    · refine ⟨_, rfl, p, _, _, _, rfl, rfl, SqL.of hp, atI_nat (j := 0) rfl, .inl ⟨_, rfl, _, rfl, _, _, rfl, rfl, tnz, ?_⟩⟩
      refine ⟨_, rfl, p, _, _, _, rfl, rfl, SqL.of hp, atI_nat (j := 0) rfl, _, rfl, _, _, rfl, rfl, wide_div ht0 tb (by decide) (by decide), ?_⟩
      refine ⟨_, rfl, p, _, _, 0, rfl, rfl, hp, rfl, _, rfl, ?_⟩
      refine q _ _ (fun b o hb e => ?_) (fun b hb => ?_) ⟨_, _, _, upd_same, ?_, ?_, hm0, hm1, hc0, by omega⟩ (Int.fmod_nonneg_of_pos _ ht0) (Int.fmod_lt_of_pos _ ht0)
      · rw [upd_ne hb]; exact e
      · have : b ≠ p := fun e => by rw [e, hp] at hb; cases hb
        rw [upd_ne this]; exact hb
      · exact Int.ediv_nonneg hu0 (by omega)
      · exact Int.lt_of_le_of_lt (Int.ediv_le_self _ hu0) hu1
    · have tC1 : wide_nz 2305843009213693951 := by unfold wide_nz; decide
      refine ⟨_, rfl, p, _, _, _, rfl, rfl, SqL.of hp, atI_nat (j := 2) rfl, _, _, rfl, rfl, _, rfl, p, _, _, 2, rfl, rfl, hp, rfl, ?_⟩
      have hn' : n < 4294967296 := hn
      have hc2 : (c + 1).natAbs < 2 ^ 62 := by omega
      have hm2 : m.natAbs < 2 ^ 62 := by omega
      have hp2 : upd H p (.lst [V.int u, V.int m, V.int (c + 1)]) p = some (.lst [V.int u, V.int m, V.int (c + 1)]) := upd_same
      refine ⟨_, rfl, p, _, _, _, rfl, rfl, SqL.of hp2, atI_nat (j := 1) rfl, _, _, rfl, rfl, wide_mul (a := 62) (b := 64) hm2 (by decide) (by decide) (by decide) (by decide), ?_⟩
      refine ⟨_, rfl, p, _, _, _, rfl, rfl, SqL.of hp2, atI_nat (j := 2) rfl, _, _, rfl, rfl, wide_mul (a := 62) (b := 64) hc2 (by decide) (by decide) (by decide) (by decide), ?_⟩
      refine ⟨_, _, rfl, rfl, .inl ⟨_, rfl, _, _, rfl, rfl, tC1, ?_⟩⟩
      have h1 := Int.fmod_nonneg_of_pos (m * 3935559000370003845 + (c + 1) * 2691343689449507681) (show (0 : Int) < 2305843009213693951 by decide)
      have h2 := Int.fmod_lt_of_pos (m * 3935559000370003845 + (c + 1) * 2691343689449507681) (show (0 : Int) < 2305843009213693951 by decide)
      have ho : ((m * 3935559000370003845 + (c + 1) * 2691343689449507681).fmod 2305843009213693951).natAbs < 2 ^ 62 := by omega
      refine ⟨_, rfl, _, rfl, _, _, rfl, rfl, wide_mul (a := 62) (b := 62) ho ho (by decide) (by decide) (by decide), ?_⟩
      refine ⟨_, rfl, p, _, _, _, rfl, rfl, SqL.of hp2, atI_nat (j := 2) rfl, _, _, rfl, rfl, wide_mul (a := 62) (b := 62) (by decide) hc2 (by decide) (by decide) (by decide), ?_⟩
      refine ⟨_, _, rfl, rfl, .inl ⟨_, rfl, _, _, rfl, rfl, (by show wide_nz 1152921504606846883; unfold wide_nz; decide), ?_⟩⟩
      have h3 := Int.fmod_nonneg_of_pos (((m * 3935559000370003845 + (c + 1) * 2691343689449507681).fmod 2305843009213693951) * ((m * 3935559000370003845 + (c + 1) * 2691343689449507681).fmod 2305843009213693951) + 40503 * (c + 1)) (show (0 : Int) < 1152921504606846883 by decide)
      have h4 := Int.fmod_lt_of_pos (((m * 3935559000370003845 + (c + 1) * 2691343689449507681).fmod 2305843009213693951) * ((m * 3935559000370003845 + (c + 1) * 2691343689449507681).fmod 2305843009213693951) + 40503 * (c + 1)) (show (0 : Int) < 1152921504606846883 by decide)
      have hw : ((((m * 3935559000370003845 + (c + 1) * 2691343689449507681).fmod 2305843009213693951) * ((m * 3935559000370003845 + (c + 1) * 2691343689449507681).fmod 2305843009213693951) + 40503 * (c + 1)).fmod 1152921504606846883).natAbs < 2 ^ 62 := by omega
      refine ⟨_, rfl, _, _, rfl, rfl, wide_mul (a := 62) (b := 62) hw (by decide) (by decide) (by decide) (by decide), ?_⟩
      refine ⟨_, rfl, _, _, rfl, rfl, .inl ⟨_, rfl, _, _, rfl, rfl, (by show wide_nz 4611686018427387847; unfold wide_nz; decide), ?_⟩⟩
      refine ⟨_, _, rfl, rfl, wide_div (b := 30) (by decide) (by decide) (by decide) (by decide), .inl ⟨_, rfl, ?_⟩⟩
      refine ⟨_, rfl, _, _, rfl, rfl, tnz, ?_⟩
      refine q _ _ (fun b o hb e => ?_) (fun b hb => ?_) ⟨_, _, _, upd_same, hu0, hu1, hm0, hm1, by omega, by omega⟩ (Int.fmod_nonneg_of_pos _ ht0) (Int.fmod_lt_of_pos _ ht0)
      · rw [upd_ne hb]; exact e
      · have : b ≠ p := fun e => by rw [e, hp] at hb; cases hb
        rw [upd_ne this]; exact hb
end
end Mk

set_option Elab.async false
set_option maxRecDepth 100000
set_option maxHeartbeats 4000000
namespace Mk
open PySem L2

abbrev sChoose : Stmt := top 32
abbrev sShuf : Stmt := top 33
abbrev sWord : Stmt := top 34

/-- the pot at p has been drawn from -/
structure Nx (p : Addr) (n : Nat) (H H' : Hp) : Prop where
  but : But p H H'
  fresh : ∀ b, H b = none → H' b = none
  pot : Pot H' p n

def spChoose : Sp := fun vs H Q _ => ∃ (p : Addr) (n : Nat), Pot H p n ∧ n < PB ∧
  ((∃ (a : Addr) (xs : List V), vs = [.ref p, .ref a] ∧ a ≠ p ∧ H a = some (.lst xs) ∧ 0 < xs.length ∧ xs.length < 1000000 ∧ ∀ H' v, Nx p (n + 1) H H' → v ∈ xs → Q v H') ∨
   (∃ z : Str, vs = [.ref p, .str z] ∧ 0 < z.length ∧ z.length < 1000000 ∧ ∀ H' c, Nx p (n + 1) H H' → c ∈ z.cps.toList → Q (.str ⟨#[c]⟩) H'))

section
variable {P : Program} {w : World} {K : PySem.W.Frag} {mg : Str → Option Value} {base : Heap}
/-- a def of the text that is called by its name -/
structure Cd (P : Program) (w : World) (K : PySem.W.Frag) (mg : Str → Option Value) (base : Heap) (k : Nat) (x : Str) (ps : List Str) (sp : Sp) : Prop where
  ex : ∃ (f : Addr) (fd : FuncData), FnOk P w K mg base CX0 k f fd ps sp ∧ mg x = some (.ref f) ∧ PySem.W.keepIn K (.ref f) = true ∧ Binds K fd ps []
theorem scChoose : FnScope ["_law_pot", "_law_items"] ["_law_pot", "_law_items"] (defScope sChoose) := ⟨rfl, rfl, rfl, by decide +kernel, rfl, by decide +kernel, by decide +kernel⟩
theorem ok_choose {f : Addr} {fd : FuncData} (F : Fun K "_law_choose" "_law_choose" sChoose f fd) (B : Bn mg) (D : Cd P w K mg base 1 "_law_dip" ["_law_pot", "_law_total"] spDip) : FnOk P w K mg base CX0 2 f fd ["_law_pot", "_law_items"] spChoose := by
  obtain ⟨d, dd, G, gm, gk, gb⟩ := D.ex
  refine F.ok scChoose (fun vs H Q E h => ?_) (fun cdv A outer s H vs Q E hr h => ?_)
  · obtain ⟨p, n, _, _, ⟨a, xs, rfl, _⟩ | ⟨z, rfl, _⟩⟩ := h
    · rfl
    · rfl
  · obtain ⟨p, n, hp, hn, ⟨a, xs, rfl, hap, ha, h0, h1, q⟩ | ⟨z, rfl, h0, h1, q⟩⟩ := h
    · refine ⟨_, pss_one (ps_ret (pe_ix ix_list (pv 1) (pe_call G hr (by rfl) gm gk gb .nil pass0 (pa_cons (pv 0) (pa_cons (pe_callB call_len_seq (by rfl) B.len PySem.boot_len (pa_cons (pv 1) pa_nil)) pa_nil))) (fun _ _ => rfl))), ?_⟩
      refine ⟨_, rfl, _, rfl, _, rfl, a, _, rfl, .inl (SqL.of ha), p, n, _, rfl, hp, hn, by omega, by omega, fun H' k hb hf hP hk0 hk1 => ?_⟩
      have hk : k.toNat < xs.length := by omega
      refine ⟨a, xs, k, xs[k.toNat], rfl, rfl, SqL.of (hb _ _ hap ha), ?_, q _ _ ⟨hb, hf, hP⟩ (List.getElem_mem hk)⟩
      exact at_ofA (j := k.toNat) (by omega) (List.getElem?_eq_getElem hk)
    · refine ⟨_, pss_one (ps_ret (pe_ix ix_str (pv 1) (pe_call G hr (by rfl) gm gk gb .nil pass0 (pa_cons (pv 0) (pa_cons (pe_callB call_len_str (by rfl) B.len PySem.boot_len (pa_cons (pv 1) pa_nil)) pa_nil))) (fun _ _ => rfl))), ?_⟩
      refine ⟨_, rfl, _, rfl, _, rfl, z, rfl, Nat.le_trans (Nat.le_of_lt h1) (by decide), p, n, (z.length : Int), rfl, hp, hn, by omega, by omega, fun H' k hb hf hP hk0 hk1 => ?_⟩
      have hk : k.toNat < z.cps.toList.length := by
        have e : z.cps.toList.length = z.length := by rfl
        rw [e]
        omega
      refine ⟨z, k, z.cps.toList[k.toNat], rfl, rfl, Nat.le_trans (Nat.le_of_lt h1) (by decide), ?_, q _ _ ⟨hb, hf, hP⟩ (List.getElem_mem hk)⟩
      exact at_ofA (j := k.toNat) (by omega) (List.getElem?_eq_getElem hk)

def spShuf : Sp := fun vs H Q _ => ∃ (p a : Addr) (n : Nat) (xs : List V), vs = [.ref p, .ref a] ∧ a ≠ p ∧ H a = some (.lst xs) ∧ xs.length < 100000 ∧ Pot H p n ∧ n + xs.length < PB ∧
  ∀ H' D ys, But p H H' → H D = none → H' D = some (.lst ys) → ys.Perm xs → Pot H' p (n + xs.length) → Q (.ref D) H'
theorem scShuf : FnScope ["_law_pot", "_law_items", "_law_left", "_law_turn"] ["_law_pot", "_law_items"] (defScope sShuf) := ⟨rfl, rfl, rfl, by decide +kernel, rfl, by decide +kernel, by decide +kernel⟩
theorem ok_shuf {f : Addr} {fd : FuncData} (F : Fun K "_law_shuffled" "_law_shuffled" sShuf f fd) (B : Bn mg) (D : Cd P w K mg base 1 "_law_dip" ["_law_pot", "_law_total"] spDip) : FnOk P w K mg base CX0 2 f fd ["_law_pot", "_law_items"] spShuf := by
  obtain ⟨d, dd, G, gm, gk, gb⟩ := D.ex
  refine F.ok scShuf (fun vs H Q E h => ?_) (fun cdv A outer s H vs Q E hr h => ?_)
  · obtain ⟨p, a, n, xs, rfl, _⟩ := h
    rfl
  · obtain ⟨p, a, n, xs, rfl, hap, ha, hl, hp, hn, q⟩ := h
    refine ⟨_, pss_cons (ps_set (i := 2) scShuf.nd rfl (.inr rfl) (pe_callTy call_list_of (by rfl) B.list (by decide +kernel) (pa_cons (pv 1) pa_nil)))
      (pss_one (ps_ret (pe_lc (own := [("_law_turn", 3)]) (g := gName 3) (tt := tYes) rfl scShuf.nd (pi_range1 (by rfl) B.range (pa_cons (pe_callB call_len_seq (by rfl) B.len PySem.boot_len (pa_cons (pv 1) pa_nil)) pa_nil)) (blkOk_by (N := ["_law_pot", "_law_items", "_law_left", "_law_turn"]) (sc := defScope sShuf) (by decide +kernel))
        (fun _ _ _ _ _ => pg_name (i := 3) scShuf.nd rfl (Or.inl rfl)) (fun _ _ _ _ _ => pts_nil)
        (fun _ _ _ _ _ => atK K (pe_bm PySem.F.plainAttrs_list PySem.F.slot_list_pop PySem.F.type_list_pop mt_popAt (pv 2) (pa_cons (pe_call G hr (by rfl) gm gk gb .nil pass0 (pa_cons (pv 0) (pa_cons (pe_callB (call_lenK K) (by rfl) B.len PySem.boot_len (pa_cons (pv 2) pa_nil)) pa_nil))) pa_nil)))))), ?_⟩
    refine ⟨_, rfl, a, xs, rfl, .inl (SqL.of ha), fun l hl0 => ?_⟩
    have hal : a ≠ l := ne_of_none ha hl0
    have hpl : p ≠ l := by
      obtain ⟨_, _, _, e, _⟩ := hp
      exact ne_of_none e hl0
    refine ⟨_, rfl, a, xs, rfl, .inl (SqL.of (by rw [upd_ne hal]; exact ha)), _, rfl, by omega, by omega, fun D hD => ?_⟩
    have hDl : D ≠ l := (ne_of_none (upd_same : upd H l (.lst xs) l = some (.lst xs)) hD).symm
    have hD0 : H D = none := by rw [upd_ne hDl] at hD; exact hD
    refine lc_range (lo := 0) (n := xs.length) (fun i H1 => ∃ ys left, But p H H1 ∧ H1 l = some (.lst left) ∧ H1 D = some (.lst ys) ∧ ys.length = i ∧ (ys ++ left).Perm xs ∧ Pot H1 p (n + i)) ?_ ?_ ?_
    · refine ⟨[], xs, (But.up (But.up But.refl hl0) hD0), ?_, upd_same, rfl, .refl _, (hp.up hpl).up (hp.ne hD0)⟩
      rw [upd_ne hDl.symm]
      exact upd_same
    · rintro i H1 hi ⟨ys, left, hB, h1, h2, hy, hperm, hP⟩
      have hlen : left.length = xs.length - i := by
        have := hperm.length_eq
        rw [List.length_append] at this
        omega
      refine ⟨rfl, _, rfl, .inl ⟨rfl, _, SqL.of h1⟩, _, rfl, _, rfl, l, left, rfl, .inl (SqL.of h1), p, n + i, _, rfl, hP, by omega, by omega, by omega, fun H2 k hb hf hP2 hk0 hk1 => ?_⟩
      have hkn : k.toNat < left.length := by omega
      have hlp : l ≠ p := hpl.symm
      have h1' := hb _ _ hlp h1
      have h2' := hb _ _ (hp.ne hD0).symm h2
      refine ⟨l, left, k, k.toNat, left[k.toNat], rfl, rfl, h1', by omega, by omega, ?_, List.getElem?_eq_getElem hkn, ys, ?_, ?_, ys ++ [left[k.toNat]], left.eraseIdx k.toNat, ?_, ?_, upd_same, ?_, ?_, ?_⟩
      · exact seq_at hk0 hk1
      · rw [upd_ne hDl]
        exact h2'
      · show ys.length < sizeLine
        exact Nat.lt_of_lt_of_le (by omega : ys.length < 100000) (by decide)
      · exact But.up (But.up (hB.trans hb) hl0) hD0
      · rw [upd_ne hDl.symm]
        exact upd_same
      · rw [List.length_append, hy]
        rfl
      · rw [List.append_assoc]
        exact (List.Perm.append_left ys (perm_erase hkn)).trans hperm
      · exact (hP2.up hpl).up (hp.ne hD0)
    · rintro H1 ⟨ys, left, hB, h1, h2, hy, hperm, hP⟩
      have : left = [] := by
        have := hperm.length_eq
        rw [List.length_append] at this
        exact List.length_eq_zero_iff.mp (by omega)
      subst this
      rw [List.append_nil] at hperm
      exact q _ _ _ hB hD0 h2 hperm hP

def spWord : Sp := fun vs H Q _ => ∃ (p : Addr) (n m : Nat), vs = [.ref p, .int m] ∧ m < 1000 ∧ Pot H p n ∧ n + m + 1 < PB ∧
  ∀ H' z, But p H H' → Pot H' p (n + m + 1) → IsW z → z.length ≤ m → Q (.str z) H'
theorem scWord : FnScope ["_law_pot", "_law_most", "_law_turn"] ["_law_pot", "_law_most"] (defScope sWord) := ⟨rfl, rfl, rfl, by decide +kernel, rfl, by decide +kernel, by decide +kernel⟩
theorem ok_word {f : Addr} {fd : FuncData} (F : Fun K "_law_word" "_law_word" sWord f fd) (B : Bn mg) (D : Cd P w K mg base 1 "_law_dip" ["_law_pot", "_law_total"] spDip) (C : Cd P w K mg base 2 "_law_choose" ["_law_pot", "_law_items"] spChoose) : FnOk P w K mg base CX0 3 f fd ["_law_pot", "_law_most"] spWord := by
  obtain ⟨d, dd, G, gm, gk, gb⟩ := D.ex
  obtain ⟨c, dc, Gc, cm, ck, cb⟩ := C.ex
  refine F.ok scWord (fun vs H Q E h => ?_) (fun cdv A outer s H vs Q E hr h => ?_)
  · obtain ⟨p, n, m, rfl, _⟩ := h
    rfl
  · obtain ⟨p, n, m, rfl, hm, hp, hn, q⟩ := h
    refine ⟨_, pss_one (ps_ret (pe_join pe_str (pe_lc (own := [("_law_turn", 2)]) (g := gName 2) (tt := tYes) rfl scWord.nd (pi_range1 (by rfl) B.range (pa_cons (pe_call G (hr.mono (by decide)) (by rfl) gm gk gb .nil pass0 (pa_cons (pv 0) (pa_cons (pe_op op_add (pv 1) pe_int) pa_nil))) pa_nil)) (blkOk_by (N := ["_law_pot", "_law_most", "_law_turn"]) (sc := defScope sWord) (by decide +kernel))
        (fun _ _ _ _ _ => pg_name (i := 2) scWord.nd rfl (Or.inl rfl)) (fun _ _ _ _ _ => pts_nil)
        (fun _ _ _ _ _ => pe_call Gc hr (by rfl) cm ck cb .nil pass0 (pa_cons (pv 0) (pa_cons pe_str pa_nil)))))), ?_⟩
    refine ⟨⟨_, rfl⟩, _, rfl, _, rfl, _, _, rfl, rfl, p, n, (m : Int) + 1, rfl, hp, by omega, by omega, by omega, fun H1 k hb hf hP hk0 hk1 => ?_⟩
    refine ⟨k, rfl, by omega, by omega, fun D hD => ?_⟩
    have hpD := hP.ne hD
    have hD0 : H D = none := by
      cases e : H D with
      | none => rfl
      | some o => have := hb D o hpD.symm e; rw [hD] at this; cases this
    refine lc_range (lo := 0) (n := k.toNat) (fun i H2 => ∃ ys : List Str, But p H H2 ∧ H2 D = some (.lst (ys.map V.str)) ∧ ys.length = i ∧ (∀ y ∈ ys, IsW y ∧ y.length = 1) ∧ Pot H2 p (n + 1 + i)) ?_ ?_ ?_
    · exact ⟨[], But.up hb hD0, upd_same, rfl, (fun _ h => nomatch h), hP.up hpD⟩
    · rintro i H2 hi ⟨ys, hB, h1, hl, hw, hP2⟩
      refine ⟨rfl, _, rfl, p, n + 1 + i, hP2, by omega, .inr ⟨_, rfl, by decide, by decide, fun H3 c hN hc => ?_⟩⟩
      refine ⟨ys.map V.str, hN.but _ _ hpD.symm h1, ?_, ys ++ [⟨#[c]⟩], But.up (hB.trans hN.but) hD0, ?_, ?_, ?_, hN.pot.up hpD⟩
      · rw [List.length_map, hl]
        exact Nat.lt_of_lt_of_le (by omega : i < 100000) (by decide)
      · rw [upd_same, List.map_append]
        rfl
      · rw [List.length_append, hl]
        rfl
      · intro y hy
        rcases List.mem_append.mp hy with hy | hy
        · exact hw y hy
        · rw [List.mem_singleton.mp hy]
          exact ⟨isW_one hc, rfl⟩
    · rintro H2 ⟨ys, hB, h1, hl, hw, hP2⟩
      have hsum := sum_one (ys := ys) fun y hy => (hw y hy).2
      refine ⟨_, D, ys, rfl, rfl, .inl (SqL.of h1), ?_, q _ _ hB (hP2.mono (by omega)) (isW_join fun y hy => (hw y hy).1) ?_⟩
      · rw [hsum, hl]
        show k.toNat + k.toNat * 0 ≤ 16777216
        omega
      · rw [len_join, hsum, hl]
        omega
end
end Mk

set_option Elab.async false
set_option maxRecDepth 100000
set_option maxHeartbeats 4000000
namespace Mk
open PySem L2

/-! ### strip -/
def gB (c : Nat) : Bool := decide (97 ≤ c) && decide (c ≤ 101)
def wB (z : Str) : Bool := (cs z).all gB
theorem isW_of {z : Str} (h : wB z = true) : IsW z := fun c hc => by
  have := List.all_eq_true.mp h c hc
  simpa [gB] using this
theorem wB_of {z : Str} (h : IsW z) : wB z = true := List.all_eq_true.mpr fun c hc => by
  have := h c hc
  simpa [gB] using this
theorem tw_full {p : Nat → Bool} : ∀ {l : List Nat}, (l.takeWhile p).length = l.length → l.all p = true
  | [], _ => rfl
  | a :: l, h => by
    rw [List.takeWhile_cons] at h
    cases e : p a with
    | false => rw [e] at h; simp at h
    | true =>
      rw [e] at h
      rw [List.all_cons, e, tw_full (l := l) (by simpa using h)]
      rfl
theorem tw_drop {p : Nat → Bool} : ∀ {l : List Nat}, (l.drop (l.takeWhile p).length).all p = true → l.all p = true
  | [], _ => rfl
  | a :: l, h => by
    rw [List.takeWhile_cons] at h
    cases e : p a with
    | false =>
      rw [e] at h
      simp [e] at h
    | true =>
      rw [e] at h
      rw [List.all_cons, e, tw_drop (l := l) (by simpa using h)]
      rfl
theorem tw_all {p : Nat → Bool} : ∀ {l : List Nat}, l.all p = true → l.takeWhile p = l
  | [], _ => rfl
  | a :: l, h => by
    rw [List.all_cons, Bool.and_eq_true] at h
    rw [List.takeWhile_cons, h.1, if_pos rfl, tw_all h.2]
theorem goes_eq (c : Nat) : ("abcde" : Str).cps.contains c = gB c := by
  have e : ("abcde" : Str).cps = #[97, 98, 99, 100, 101] := by decide +kernel
  rw [e, Bool.eq_iff_iff]
  simp [gB]
  omega
theorem strip_len (z : Str) : (Txt.stripChars z "abcde").length = 0 ↔ wB z = true := by
  have hg : ("abcde" : Str).cps.contains = gB := funext goes_eq
  unfold Txt.stripChars
  rw [hg]
  unfold Txt.stripBy
  have hlo : stripLo gB true z = ((cs z).takeWhile gB).length := rfl
  have hhi : stripHi gB true z (stripLo gB true z) = (cs z).length - (((cs z).drop (stripLo gB true z)).reverse.takeWhile gB).length := rfl
  have hle : ((cs z).takeWhile gB).length ≤ (cs z).length := (List.takeWhile_sublist _).length_le
  have key : wB z = true ∨ stripLo gB true z < stripHi gB true z (stripLo gB true z) := by
    cases e : wB z with
    | true => exact .inl rfl
    | false =>
      refine .inr ?_
      rw [hhi, hlo]
      have h1 : (((cs z).drop ((cs z).takeWhile gB).length).reverse.takeWhile gB).length ≠ (((cs z).drop ((cs z).takeWhile gB).length).reverse).length := fun h => by
        have := tw_full h
        rw [List.all_reverse] at this
        have q : wB z = true := tw_drop this
        rw [e] at q
        cases q
      have h2 : (((cs z).drop ((cs z).takeWhile gB).length).reverse.takeWhile gB).length ≤ (((cs z).drop ((cs z).takeWhile gB).length).reverse).length := (List.takeWhile_sublist _).length_le
      rw [List.length_reverse, List.length_drop] at h1 h2
      omega
  by_cases hs : stripSame gB true true z = true
  · rw [if_pos hs]
    constructor
    · intro h
      show (cs z).all gB = true
      rw [List.length_eq_zero_iff.mp (show (cs z).length = 0 from h)]
      rfl
    · intro h
      have e1 : stripLo gB true z = z.length := by
        rw [hlo, tw_all h]
        rfl
      unfold stripSame at hs
      rw [Bool.and_eq_true, beq_iff_eq] at hs
      omega
  · rw [if_neg hs]
    have hl : (stripped gB true true z).length = stripHi gB true z (stripLo gB true z) - stripLo gB true z := by
      show ((z.cps.extract (stripLo gB true z) (stripHi gB true z (stripLo gB true z)))).size = _
      rw [Array.size_extract]
      have : stripHi gB true z (stripLo gB true z) ≤ z.cps.size := by
        rw [hhi]
        exact Nat.sub_le _ _
      omega
    rw [hl]
    constructor
    · intro h
      rcases key with k | k
      · exact k
      · omega
    · intro h
      have e1 : stripLo gB true z = (cs z).length := by rw [hlo, tw_all h]
      have e2 : stripHi gB true z (stripLo gB true z) ≤ (cs z).length := by
        rw [hhi]
        exact Nat.sub_le _ _
      omega
theorem strip_dec (z : Str) : decide (V.str (Txt.stripChars z "abcde") = V.str "") = wB z := by
  rw [Bool.eq_iff_iff, decide_eq_true_iff, ← strip_len z]
  constructor
  · intro h
    injection h with h
    rw [h]
    decide +kernel
  · intro h
    have : Txt.stripChars z "abcde" = "" := by
      generalize Txt.stripChars z "abcde" = y at h
      obtain ⟨a⟩ := y
      have : a = #[] := Array.eq_empty_of_size_eq_zero h
      subst this
      decide +kernel
    rw [this]
end Mk

set_option Elab.async false
set_option maxRecDepth 100000
set_option maxHeartbeats 4000000
namespace Mk
open PySem L2

abbrev sIsSign : Stmt := top 14
abbrev sIsWord : Stmt := top 15
abbrev sLIsWord : Stmt := top 36

/-- a value that is no text, of a kind that isinstance tells -/
def NoStr (K : PySem.W.Frag) (H : Hp) (v : V) : Prop := ∃ t : Value, TyX K H v t ∧ PySem.W.kitOne K t (.type "str") = some false
def sgB (z : Str) : Bool := decide (z.length = 1) && wB z
/-- a def that judges a value, reading alone -/
def spJudge (g : Str → Bool) (K : PySem.W.Frag) : Sp := fun vs H Q _ => ∃ v : V, vs = [v] ∧ ((∃ z : Str, v = .str z ∧ z.length ≤ 100000 ∧ Q (.bl (g z)) H) ∨ (NoStr K H v ∧ Q (.bl false) H))
structure Wn (mg : Str → Option Value) : Prop where
  isi : mg "isinstance" = none
  str : mg "str" = none
  sg : ∃ t, mg "SIGNS" = some (.str "abcde" t)
section
variable {P : Program} {w : World} {K : PySem.W.Frag} {mg : Str → Option Value} {base : Heap}
theorem scIsSign : FnScope ["value"] ["value"] (defScope sIsSign) := ⟨rfl, rfl, rfl, by decide +kernel, rfl, by decide +kernel, by decide +kernel⟩
theorem len_one {z : Str} (h : z.length = 1) : ∃ c, z = ⟨#[c]⟩ := by
  obtain ⟨a⟩ := z
  obtain ⟨l⟩ := a
  match l, h with
  | [c], _ => exact ⟨c, rfl⟩
theorem ok_isSign {f : Addr} {fd : FuncData} (F : Fun K "is_sign" "is_sign" sIsSign f fd) (B : Bn mg) (W : Wn mg) : FnOk P w K mg base CX0 1 f fd ["value"] (spJudge sgB K) := by
  obtain ⟨t, hsg⟩ := W.sg
  refine F.ok scIsSign (fun vs H Q E h => ?_) (fun cdv A outer s H vs Q E hr h => ?_)
  · obtain ⟨v, rfl, _⟩ := h
    rfl
  · obtain ⟨v, rfl, h⟩ := h
    refine ⟨_, pss_one (ps_ret (pe_and (pe_callB call_isi (by rfl) W.isi (by decide +kernel) (pa_cons (pv 0) (pa_cons (pe_bltn (v := .ty "str") (u := .type "str") (by rfl) W.str (by decide +kernel) rfl) pa_nil)))
      (pe_and (pe_cmpR op_eq (pe_callB call_len (by rfl) B.len PySem.boot_len (pa_cons (pv 0) pa_nil)) pe_int (nomark _)) (pe_one (pe_cmpR op_in_sign (pv 0) (pe_glob (v := .str "abcde") (by rfl) hsg ⟨_, rfl⟩) (by rfl)))))), ?_⟩
    rcases h with ⟨z, rfl, hz, q⟩ | ⟨⟨tv, hty, hk⟩, q⟩
    · have hz2 : z.length ≤ sizeLine := Nat.le_trans hz (by decide)
      refine ⟨_, rfl, _, _, _, _, true, rfl, .ty "str", .base (.str z), kit_ty (by decide +kernel), _, rfl, iteT ?_⟩
      refine ⟨_, rfl, _, z.length, rfl, ⟨hz2, rfl⟩, rfl, _, rfl, ?_⟩
      have e1 : decide (V.int (z.length : Nat) = V.int 1) = decide (z.length = 1) := by
        rw [dec_int, Bool.eq_iff_iff]
        simp
        omega
      rw [e1]
      by_cases h1 : z.length = 1
      · rw [decide_eq_true h1]
        refine iteT ?_
        obtain ⟨c, rfl⟩ := len_one h1
        refine ⟨_, rfl, c, "abcde", rfl, rfl, ?_⟩
        have e2 : decide (c ∈ ("abcde" : Str).cps.toList) = sgB ⟨#[c]⟩ := by
          have e3 : ("abcde" : Str).cps.toList = [97, 98, 99, 100, 101] := by decide +kernel
          rw [e3, Bool.eq_iff_iff]
          simp [sgB, wB, gB, cs, Str.length]
          omega
        rw [e2]
        exact q
      · rw [decide_eq_false h1]
        refine iteF ?_
        have e2 : sgB z = false := by simp [sgB, h1]
        rw [e2] at q
        exact q
    · refine ⟨_, rfl, _, _, _, _, false, rfl, .ty "str", hty, hk, _, rfl, iteF q⟩
theorem scIsWord : FnScope ["value"] ["value"] (defScope sIsWord) := ⟨rfl, rfl, rfl, by decide +kernel, rfl, by decide +kernel, by decide +kernel⟩
theorem ok_isWord {f : Addr} {fd : FuncData} (F : Fun K "is_word" "is_word" sIsWord f fd) (W : Wn mg) : FnOk P w K mg base CX0 1 f fd ["value"] (spJudge wB K) := by
  obtain ⟨t, hsg⟩ := W.sg
  refine F.ok scIsWord (fun vs H Q E h => ?_) (fun cdv A outer s H vs Q E hr h => ?_)
  · obtain ⟨v, rfl, _⟩ := h
    rfl
  · obtain ⟨v, rfl, h⟩ := h
    refine ⟨_, pss_one (ps_ret (pe_and (pe_callB call_isi (by rfl) W.isi (by decide +kernel) (pa_cons (pv 0) (pa_cons (pe_bltn (v := .ty "str") (u := .type "str") (by rfl) W.str (by decide +kernel) rfl) pa_nil)))
      (pe_one (pe_cmpR op_eq (pe_bm PySem.F.plainAttrs_str PySem.F.slot_str_strip PySem.F.type_str_strip mt_stripChars (pv 0) (pa_cons (pe_glob (v := .str "abcde") (by rfl) hsg ⟨_, rfl⟩) pa_nil)) pe_str (nomark _))))), ?_⟩
    rcases h with ⟨z, rfl, hz, q⟩ | ⟨⟨tv, hty, hk⟩, q⟩
    · have hz2 : z.length ≤ sizeLine := Nat.le_trans hz (by decide)
      refine ⟨_, rfl, _, _, _, _, true, rfl, .ty "str", .base (.str z), kit_ty (by decide +kernel), _, rfl, iteT ?_⟩
      refine ⟨_, rfl, rfl, _, _, rfl, rfl, hz2, rfl, ?_⟩
      rw [strip_dec]
      exact q
    · refine ⟨_, rfl, _, _, _, _, false, rfl, .ty "str", hty, hk, _, rfl, iteF q⟩
end
end Mk

set_option Elab.async false
set_option maxRecDepth 100000
set_option maxHeartbeats 4000000
namespace Mk
open PySem L2
abbrev sAhead : Stmt := top 37
section
variable {P : Program} {w : World} {K : PySem.W.Frag} {mg : Str → Option Value} {base : Heap}
theorem scLIsWord : FnScope ["_law_value_here", "_law_char"] ["_law_value_here"] (defScope sLIsWord) := ⟨rfl, rfl, rfl, by decide +kernel, rfl, by decide +kernel, by decide +kernel⟩
theorem one_ne {c d : Nat} {x : Str} (hx : cs x = [d]) : (!decide (V.str ⟨#[c]⟩ = V.str x)) = !decide (c = d) := by
  congr 1
  rw [Bool.eq_iff_iff, decide_eq_true_iff, decide_eq_true_iff]
  constructor
  · intro h
    injection h with h
    have : cs ⟨#[c]⟩ = cs x := by rw [h]
    rw [hx] at this
    exact List.head_eq_of_cons_eq this
  · intro h
    have : x = ⟨#[c]⟩ := by
      obtain ⟨⟨l⟩⟩ := x
      have : l = [d] := hx
      rw [this, h]
    rw [this]
theorem ok_lIsWord {f : Addr} {fd : FuncData} (F : Fun K "_law_is_word" "_law_is_word" sLIsWord f fd) (W : Wn mg) : FnOk P w K mg base CX0 1 f fd ["_law_value_here"] (spJudge wB K) := by
  refine F.ok scLIsWord (fun vs H Q E h => ?_) (fun cdv A outer s H vs Q E hr h => ?_)
  · obtain ⟨v, rfl, _⟩ := h
    rfl
  · obtain ⟨v, rfl, h⟩ := h
    refine ⟨_, pss_cons (ps_if (pt_not (pt_val (pe_callB call_isi (by rfl) W.isi (by decide +kernel) (pa_cons (pv 0) (pa_cons (pe_bltn (v := .ty "str") (u := .type "str") (by rfl) W.str (by decide +kernel) rfl) pa_nil))))) (pss_one (ps_ret pe_bl)) pss_nil)
      (pss_cons (ps_for PassesOwn.never rfl (pi_str (pv 0)) (pg_name (i := 1) scLIsWord.nd rfl (.inl rfl))
        (pss_one (ps_if (PW.pt (pw_and (pt_cmpR op_ne (pv 1) pe_str (nomark _)) (pw_and (pt_cmpR op_ne (pv 1) pe_str (nomark _)) (pw_and (pt_cmpR op_ne (pv 1) pe_str (nomark _)) (pw_and (pt_cmpR op_ne (pv 1) pe_str (nomark _)) (pw_and1 (pt_cmpR op_ne (pv 1) pe_str (nomark _))))))))
          (pss_one (ps_ret pe_bl)) pss_nil))) (pss_one (ps_ret pe_bl))), ?_⟩
    rcases h with ⟨z, rfl, hz, q⟩ | ⟨⟨tv, hty, hk⟩, q⟩
    · refine ⟨_, rfl, _, _, _, _, true, rfl, .ty "str", .base (.str z), kit_ty (by decide +kernel), _, rfl, iteF ?_⟩
      refine ⟨_, rfl, z, rfl, for_it walk_str (fun i σ H1 => H1 = H ∧ (∃ o, σ = [some (.str z), o]) ∧ ((cs z).take i).all gB = true) ⟨rfl, ⟨_, rfl⟩, by simp⟩ (fun _ _ _ _ _ => trivial) ?_ ?_⟩
      · rintro i x σ H1 H2 hi ⟨rfl, ⟨o, rfl⟩, ha⟩ ⟨rfl, c, hc, rfl⟩
        have hc2 : (cs z)[i]? = some c := by rw [← hc]; simp [cs]
        have fin : gB c = true → ((cs z).take (i + 1)).all gB = true := fun h => by
          rw [List.take_add_one, hc2, List.all_append, ha]
          simp [h]
        have e97 : cs ("a" : Str) = [97] := by decide +kernel
        have e98 : cs ("b" : Str) = [98] := by decide +kernel
        have e99 : cs ("c" : Str) = [99] := by decide +kernel
        have e100 : cs ("d" : Str) = [100] := by decide +kernel
        have e101 : cs ("e" : Str) = [101] := by decide +kernel
        refine ⟨_, rfl, rfl, _, rfl, ?_⟩
        rw [one_ne e97]
        by_cases h1 : c = 97
        · rw [decide_eq_true h1]
          exact iteF ⟨rfl, ⟨_, rfl⟩, fin (by simp [gB, h1])⟩
        rw [decide_eq_false h1]
        refine iteT ⟨_, rfl, rfl, _, rfl, ?_⟩
        rw [one_ne e98]
        by_cases h2 : c = 98
        · rw [decide_eq_true h2]
          exact iteF ⟨rfl, ⟨_, rfl⟩, fin (by simp [gB, h2])⟩
        rw [decide_eq_false h2]
        refine iteT ⟨_, rfl, rfl, _, rfl, ?_⟩
        rw [one_ne e99]
        by_cases h3 : c = 99
        · rw [decide_eq_true h3]
          exact iteF ⟨rfl, ⟨_, rfl⟩, fin (by simp [gB, h3])⟩
        rw [decide_eq_false h3]
        refine iteT ⟨_, rfl, rfl, _, rfl, ?_⟩
        rw [one_ne e100]
        by_cases h4 : c = 100
        · rw [decide_eq_true h4]
          exact iteF ⟨rfl, ⟨_, rfl⟩, fin (by simp [gB, h4])⟩
        rw [decide_eq_false h4]
        refine iteT ⟨_, rfl, rfl, _, rfl, ?_⟩
        rw [one_ne e101]
        by_cases h5 : c = 101
        · rw [decide_eq_true h5]
          exact iteF ⟨rfl, ⟨_, rfl⟩, fin (by simp [gB, h5])⟩
        rw [decide_eq_false h5]
        refine iteT ?_
        have : wB z = false := by
          cases e : wB z with
          | false => rfl
          | true =>
            have := List.all_eq_true.mp e c (List.mem_of_getElem? hc2)
            simp [gB] at this
            omega
        rw [this] at q
        exact q
      · rintro σ H1 ⟨rfl, ⟨o, rfl⟩, ha⟩
        have e : wB z = true := by
          have e2 : z.cps.size = (cs z).length := rfl
          rw [e2, List.take_length] at ha
          exact ha
        rw [e] at q
        exact q
    · exact ⟨_, rfl, _, _, _, _, false, rfl, .ty "str", hty, hk, _, rfl, iteT q⟩

/-- x stands ahead of y: shorter, or as long and earlier -/
def ahB (x y : Str) : Bool := decide (x.length < y.length) || (decide (x.length = y.length) && decide (cs x < cs y))
def spAhead : Sp := fun vs H Q _ => ∃ x y : Str, vs = [.str x, .str y] ∧ IsW x ∧ IsW y ∧ x.length ≤ 100000 ∧ y.length ≤ 100000 ∧ Q (.bl (ahB x y)) H
theorem find_one {c : Nat} (h : 97 ≤ c ∧ c ≤ 101) : Txt.find "abcde" ⟨#[c]⟩ = (c : Int) - 97 := by
  have : c = 97 ∨ c = 98 ∨ c = 99 ∨ c = 100 ∨ c = 101 := by omega
  rcases this with rfl | rfl | rfl | rfl | rfl <;> decide +kernel
theorem lex_at : ∀ {l m : List Nat} {i : Nat} {c d : Nat}, l.take i = m.take i → l[i]? = some c → m[i]? = some d → c ≠ d → decide (l < m) = decide (c < d)
  | [], _, _, _, _, _, h, _, _ => by simp at h
  | _ :: _, [], _, _, _, _, _, h, _ => by simp at h
  | a :: l, b :: m, 0, c, d, _, h1, h2, h3 => by
    simp at h1 h2
    subst h1 h2
    rw [Bool.eq_iff_iff, decide_eq_true_iff, decide_eq_true_iff]
    constructor
    · intro h
      rcases List.cons_lt_cons_iff.mp h with h | ⟨h, _⟩
      · exact h
      · exact absurd h h3
    · intro h
      exact List.cons_lt_cons_iff.mpr (.inl h)
  | a :: l, b :: m, i + 1, c, d, h0, h1, h2, h3 => by
    rw [List.take_succ_cons, List.take_succ_cons] at h0
    injection h0 with e h0
    subst e
    rw [← lex_at h0 (by simpa using h1) (by simpa using h2) h3]
    rw [Bool.eq_iff_iff, decide_eq_true_iff, decide_eq_true_iff]
    constructor
    · intro h
      rcases List.cons_lt_cons_iff.mp h with h | ⟨_, h⟩
      · exact absurd h (Nat.lt_irrefl _)
      · exact h
    · intro h
      exact List.cons_lt_cons_iff.mpr (.inr ⟨rfl, h⟩)
theorem scAhead : FnScope ["_law_one", "_law_other", "_law_at"] ["_law_one", "_law_other"] (defScope sAhead) := ⟨rfl, rfl, rfl, by decide +kernel, rfl, by decide +kernel, by decide +kernel⟩
theorem ok_ahead {f : Addr} {fd : FuncData} (F : Fun K "_law_is_ahead" "_law_is_ahead" sAhead f fd) (B : Bn mg) : FnOk P w K mg base CX0 1 f fd ["_law_one", "_law_other"] spAhead := by
  refine F.ok scAhead (fun vs H Q E h => ?_) (fun cdv A outer s H vs Q E hr h => ?_)
  · obtain ⟨x, y, rfl, _⟩ := h
    rfl
  · obtain ⟨x, y, rfl, hx, hy, lx, ly, q⟩ := h
    have lx2 : x.length ≤ sizeLine := Nat.le_trans lx (by decide)
    have ly2 : y.length ≤ sizeLine := Nat.le_trans ly (by decide)
    refine ⟨_, pss_cons (ps_if (pt_cmpR op_ne (pe_callB call_len_str (by rfl) B.len PySem.boot_len (pa_cons (pv 0) pa_nil)) (pe_callB call_len_str (by rfl) B.len PySem.boot_len (pa_cons (pv 1) pa_nil)) (nomark _))
        (pss_one (ps_ret (pe_cmpR op_lt (pe_callB call_len_str (by rfl) B.len PySem.boot_len (pa_cons (pv 0) pa_nil)) (pe_callB call_len_str (by rfl) B.len PySem.boot_len (pa_cons (pv 1) pa_nil)) (nomark _)))) pss_nil)
      (pss_cons (ps_for PassesOwn.never rfl (pi_range1 (by rfl) B.range (pa_cons (pe_callB call_len_str (by rfl) B.len PySem.boot_len (pa_cons (pv 0) pa_nil)) pa_nil)) (pg_name (i := 2) scAhead.nd rfl (.inl rfl))
        (pss_one (ps_if (pt_cmpR op_ne (pe_ix ix_str (pv 0) (pv 2) (fun _ _ => rfl)) (pe_ix ix_str (pv 1) (pv 2) (fun _ _ => rfl)) (nomark _))
          (pss_one (ps_ret (pe_cmpR op_lt (pe_m1 PySem.F.slot_str_find PySem.F.type_str_find mt_find pe_str (pe_ix ix_str (pv 0) (pv 2) (fun _ _ => rfl))) (pe_m1 PySem.F.slot_str_find PySem.F.type_str_find mt_find pe_str (pe_ix ix_str (pv 1) (pv 2) (fun _ _ => rfl))) (nomark _)))) pss_nil)))
      (pss_one (ps_ret pe_bl))), ?_⟩
    refine ⟨_, rfl, x, rfl, lx2, _, rfl, y, rfl, ly2, rfl, _, rfl, ?_⟩
    rw [dec_int]
    by_cases hl : x.length = y.length
    · have e0 : (((x.length : Nat) : Int) == ((y.length : Nat) : Int)) = true := by
        rw [beq_iff_eq, hl]
      rw [e0]
      refine iteF ⟨_, rfl, x, rfl, lx2, _, rfl, by omega, by omega, ?_⟩
      refine for_range (lo := 0) (n := x.length) (fun i σ H1 => H1 = H ∧ (∃ o, σ = [some (.str x), some (.str y), o]) ∧ (cs x).take i = (cs y).take i) ⟨rfl, ⟨_, rfl⟩, rfl⟩ ?_ ?_
      · rintro i σ H1 hi ⟨rfl, ⟨o, rfl⟩, ht⟩
        have hi2 : i < (cs x).length := hi
        have hi3 : i < (cs y).length := by
          have : (cs y).length = y.length := rfl
          omega
        have g1 : (cs x)[i]? = some (cs x)[i] := List.getElem?_eq_getElem hi2
        have g2 : (cs y)[i]? = some (cs y)[i] := List.getElem?_eq_getElem hi3
        have m1 := hx _ (List.getElem_mem hi2)
        have m2 := hy _ (List.getElem_mem hi3)
        have a1 : atI x.cps.toList (0 + (i : Int)) = some (cs x)[i] := at_ofA (j := i) (by omega) g1
        have a2 : atI y.cps.toList (0 + (i : Int)) = some (cs y)[i] := at_ofA (j := i) (by omega) g2
        refine ⟨_, rfl, _, rfl, x, _, _, rfl, rfl, lx2, a1, _, rfl, _, rfl, y, _, _, rfl, rfl, ly2, a2, rfl, _, rfl, ?_⟩
        rw [one_ne (c := (cs x)[i]) (d := (cs y)[i]) rfl]
        by_cases hc : (cs x)[i] = (cs y)[i]
        · rw [decide_eq_true hc]
          refine iteF ⟨rfl, ⟨_, rfl⟩, ?_⟩
          rw [List.take_add_one, List.take_add_one, ht, g1, g2, hc]
        · rw [decide_eq_false hc]
          refine iteT ?_
          refine ⟨⟨_, rfl⟩, _, rfl, _, rfl, x, _, _, rfl, rfl, lx2, a1, _, _, rfl, rfl, ⟨_, rfl⟩, _, rfl, _, rfl, y, _, _, rfl, rfl, ly2, a2, _, _, rfl, rfl, _, _, rfl, rfl, ?_⟩
          rw [find_one m1, find_one m2]
          have e : decide ((((cs x)[i] : Nat) : Int) - 97 < (((cs y)[i] : Nat) : Int) - 97) = ahB x y := by
            unfold ahB
            rw [decide_eq_false (by omega : ¬ x.length < y.length), decide_eq_true hl, lex_at ht g1 g2 hc, Bool.eq_iff_iff]
            simp
          rw [← e] at q
          exact q
      · rintro σ H1 ⟨rfl, ⟨o, rfl⟩, ht⟩
        have e : ahB x y = false := by
          have : cs x = cs y := by
            have a1 : x.length = (cs x).length := rfl
            have a2 : y.length = (cs y).length := rfl
            rw [a1, List.take_length] at ht
            rw [ht, ← a1, hl, a2, List.take_length]
          unfold ahB
          rw [this, decide_eq_false (by omega : ¬ x.length < y.length), decide_eq_false (List.lt_irrefl _)]
          simp
        rw [e] at q
        exact q
    · have e0 : (((x.length : Nat) : Int) == ((y.length : Nat) : Int)) = false := by
        rw [beq_eq_false_iff_ne]
        omega
      rw [e0]
      refine iteT ⟨_, rfl, x, rfl, lx2, _, rfl, y, rfl, ly2, _, _, rfl, rfl, ?_⟩
      have e : decide (((x.length : Nat) : Int) < ((y.length : Nat) : Int)) = ahB x y := by
        unfold ahB
        rw [decide_eq_false hl, Bool.eq_iff_iff]
        simp
      rw [← e] at q
      exact q
end
end Mk

set_option Elab.async false
set_option linter.all false
set_option maxRecDepth 100000
set_option maxHeartbeats 4000000
namespace Mk
open PySem PySem.Spec PyProof.Rows L2 PySem.Froz

/-- the table of a payload can be walked -/
def Wk (w : World) (D : SD) : Prop := Ris D.2.2.place.toList ∧ (w.params.followText "set-order" = true ∨ D.2.2.led = true)
/-- the payload holds just the unlike texts l, and can be walked -/
structure Tx (P : Program) (w : World) (D : SD) (l : List Str) : Prop where
  ok : TxOk P w D l
  wk : Wk w D
  nd : l.Nodup

section
variable {P : Program} {w : World} {A : Around} {E : Value → Shared → Prop} {s : Shared}
theorem plain_wk {t : SetTable} (h : Ris t.place.toList ∧ (w.params.followText "set-order" = true ∨ t.led = true)) :
    Ris (if t.plain = true then { t with plain := false } else t).place.toList ∧ (w.params.followText "set-order" = true ∨ (if t.plain = true then { t with plain := false } else t).led = true) := by
  by_cases c : t.plain = true
  · rw [if_pos c]; exact h
  · rw [if_neg c]; exact h
theorem tail_wk {ep : Nat} {es : Array (Int × Value)} {t : SetTable} {b : Bool} (h : Ris t.place.toList ∧ (w.params.followText "set-order" = true ∨ t.led = true)) : Wk w (tailTx ep es t b) := by
  unfold tailTx
  by_cases c : (!b && t.tooFull) = true
  · rw [if_pos c]
    refine ⟨relayAll_ris t es _, h.2.imp id fun z => ?_⟩
    show (relayAll t es (SetTable.grown es.size)).2.1.led = true
    rw [relayAll_led t es _]
    exact z
  · rw [if_neg c]; exact h
theorem add_wk {D : SD} (h : Int) (v : Value) (k : Wk w D) : Wk w (addTx h v D) := by
  unfold addTx
  refine tail_wk (plain_wk ⟨layNew_ris D.2.2 D.1 h v k.1, k.2.imp id fun z => ?_⟩)
  rw [layNew_led D.2.2 D.1 h v]
  exact z
theorem Tx.add {D : SD} {l : List Str} {k : Str} (u : Tok) (x : Tx P w D l) (hk : k ∉ l) : Tx P w (addTx (hashStr w k) (.str k u) D) (k :: l) :=
  ⟨add_ok u x.ok, add_wk _ _ x.wk, List.nodup_cons.mpr ⟨hk, x.nd⟩⟩

/-- an add of a text that is there -/
theorem dup_x {a : Addr} {T : String} {D : SD} {l : List Str} {k : Str} {u : Tok} {Q : Bool → Shared → Prop} (ho : s.heap.get? a = some (sObj T D)) (x : TxOk P w D l) (hk : k ∈ l) (hb : l.length < scanBound)
    (h : Q false s) : wpAny (model P w) A (setAddHashed a (.str k u) (hashStr w k)) Q E s := by
  obtain ⟨es, ep, t⟩ := D
  have d0 : (sObj T (es, ep, t)).data = .set es ep t := rfl
  have f0 : t.fits es.size = true := x.fit
  have e0 : ElemsOf (PySem.strKind P w) es.toList := x.el
  have z0 : es.size = l.length := x.sz
  have b0 : es.size < scanBound := by omega
  have k0 : (PySem.strKind P w).is k (.str k u) = true := is_str k u
  obtain ⟨e, he, hq⟩ := (x.mem k).mp hk
  unfold setAddHashed setAddHashedIn
  refine wpAny_holding (wpAny_bind (wpAny_setState_of ho d0 f0 ?_))
  dsimp only
  rw [byScan_of rfl b0 e0]
  simp only [↓reduceIte]
  unfold setAddByScan
  refine wpAny_bind (wpAny_bind (wpAny_rule ?_))
  refine wpAny_bind (wpAny_setScan_of (knd := PySem.strKind P w) (k := k) k0 ho d0 f0 e0 ?_)
  cases r : List.findIdx? (fun e => (PySem.strKind P w).is k e.2) es.toList with
  | none =>
    have := List.findIdx?_eq_none_iff.mp r e he
    rw [hq] at this
    cases this
  | some j => exact wpAny_pure (wpAny_pure h)

/-- at a stands the set of just the unlike texts l -/
def SetS (P : Program) (w : World) (h : Heap) (a : Addr) (l : List Str) : Prop := ∃ D : SD, h.get? a = some (sObj "set" D) ∧ Tx P w D l
theorem SetS.at {h h' : Heap} {a : Addr} {l : List Str} (x : SetS P w h a l) (k : ∀ o, h.get? a = some o → h'.get? a = some o) : SetS P w h' a l :=
  let ⟨D, e, t⟩ := x
  ⟨D, k _ e, t⟩
/-- l holds just the first i of xs -/
def Firsts (xs : List Str) (i : Nat) (l : List Str) : Prop := (∀ y, y ∈ l ↔ y ∈ xs.take i) ∧ l.length ≤ i
theorem put_x {a : Addr} {l : List Str} {k : Str} {u : Tok} {Q : Bool → Shared → Prop} (x : SetS P w s.heap a l) (hb : l.length + 1 < scanBound)
    (h : ∀ (b : Bool) (h' : Heap) (l' : List Str), Heap.SameBut a s.heap h' → SetS P w h' a l' → (∀ y, y ∈ l' ↔ y ∈ l ∨ y = k) → l'.length ≤ l.length + 1 → Q b { s with heap := h' }) :
    wpAny (model P w) A (setAddHashed a (.str k u) (hashStr w k)) Q E s := by
  obtain ⟨D, e, t⟩ := x
  by_cases hk : k ∈ l
  · refine dup_x e t.ok hk (by omega) (h false s.heap l (Heap.SameBut.refl a s.heap) ⟨D, e, t⟩ (fun y => ⟨.inl, fun z => z.elim id fun q => q ▸ hk⟩) (Nat.le_succ _))
  · refine add_x e t.ok hk hb (h true _ (k :: l) ?_ ⟨_, ?_, t.add u hk⟩ (fun y => ?_) (by simp))
    · exact Heap.SameBut.update _ _ _
    · exact get_upd _ e rfl
    · rw [List.mem_cons]
      exact Or.comm

theorem grow_x {I : Addr} {fp wr : List Addr} {G : Array GenState → Array GenState → Prop} {n : Nat} {Pv : Nat → Value → Prop} {St : Nat → Shared → Prop} {R : Result → Shared → Prop}
    (W : WalksS P w A.in1 I fp wr G n Pv St) (a : Addr) (ha : a ∉ fp) (xs : List Str) (hn : n = xs.length) (hb : xs.length + 1 < scanBound) (hv : ∀ i v, Pv i v → ∃ y t, xs[i]? = some y ∧ v = .str y t) :
    ∀ (m i : Nat) (s : Shared), n - i = m → i ≤ n → St i s → (∃ l, Firsts xs i l ∧ SetS P w s.heap a l) →
      (∀ s' l, Moved (a :: wr) G s s' → Firsts xs n l → SetS P w s'.heap a l → R (.ok (.ret .none)) s') →
      codeAny (model P w) A (.builtin "set.update.loop" ⟨[.ref a, .ref I], []⟩) R s := by
  have aw : a ∉ wr := fun z => ha (W.sub _ z)
  have more : ∀ b ∈ wr, b ∈ a :: wr := fun b z => List.mem_cons_of_mem _ z
  intro m
  induction m with
  | zero =>
    intro i s hm hi st ⟨l, hf, x⟩ hR
    obtain rfl : i = n := by omega
    refine codeAny_builtin PyProof.Rows.F.entry_set_update_loop ?_
    rw [Around.under_plainId PyProof.Rows.F.plain_set_update_loop _]
    show wpAny _ A.in1 (pyNext (.ref I) >>= _) _ _ s
    refine wpAny_bind (W.done s _ _ st fun s1 mv => wpAny_pure ?_)
    exact hR s1 l (mv.mono more) hf (x.at fun o e => mv.heap a o aw e)
  | succ m ih =>
    intro i s hm hi st ⟨l, hf, x⟩ hR
    have lt : i < n := by omega
    refine codeAny_builtin PyProof.Rows.F.entry_set_update_loop ?_
    rw [Around.under_plainId PyProof.Rows.F.plain_set_update_loop _]
    show wpAny _ A.in1 (pyNext (.ref I) >>= _) _ _ s
    refine wpAny_bind (W.item i s _ _ lt st fun v s1 pv st1 mv => ?_)
    obtain ⟨y, t, hy, rfl⟩ := hv i v pv
    have x1 : SetS P w s1.heap a l := x.at fun o e => mv.heap a o aw e
    show wpAny _ A.in1 (holding [Value.str y t] (setAdd a (.str y t)) >>= _) _ _ s1
    refine wpAny_bind (wpAny_holding ?_)
    unfold setAdd
    refine wpAny_holding (wpAny_bind ((PySem.strKind P w).pyHash (k := y) (is_str y t) ?_))
    refine put_x (s := { s1 with toks := s1.toks + 1 }) x1 (by have := hf.2; omega) fun b h1 l1 sb x2 hm2 hl2 => ?_
    have hf1 : Firsts xs (i + 1) l1 := ⟨fun z => by
      rw [hm2, hf.1, List.take_add_one, hy, List.mem_append]
      simp, by have := hf.2; omega⟩
    refine wpAny_pure ⟨plainId_quiet PyProof.Rows.F.plain_set_update_loop _, ih (i + 1) _ (by omega) lt (W.frame _ s1 _ _ st1 (Nat.le_succ _) fun b hb o e => ?_) ⟨l1, hf1, x2⟩ fun s2 l2 mv2 hf2 x3 => ?_⟩
    · exact (sb.2 b fun z => ha (z ▸ hb)).trans e
    · refine hR s2 l2 (Moved.trans W.gtrans ((mv.mono more).then_heap (Nat.le_succ _) fun b o hb e => ?_) mv2) hf2 x3
      exact (sb.2 b fun z => hb (z ▸ List.mem_cons_self)).trans e

/-- a set just made -/
abbrev ob0 (w : World) : Obj := { cls := .type "set", dict := none, data := .set #[] 0 (.fresh 0 0 (!w.params.followText "set-order")) }
theorem setS_new {h : Heap} {a : Addr} (e : h.get? a = some (ob0 w)) : SetS P w h a [] :=
  ⟨(#[], 0, .fresh 0 0 (!w.params.followText "set-order")), e, TxOk.nil rfl, ⟨List.Pairwise.nil, by
    show _ ∨ (!w.params.followText "set-order") = true
    cases w.params.followText "set-order"
    · exact .inr rfl
    · exact .inl rfl⟩, List.nodup_nil⟩

set_option maxHeartbeats 3200000 in
/-- set(t), t a tuple of texts -/
theorem call_set_tupleX {t : Addr} {items : Array Value} (xs : List Str) {Q : Value → Shared → Prop} (hh : A.handled = none) (ht : s.heap.IsTuple t items) (hx : StrsAre items.toList xs) (hb : xs.length + 1 < scanBound)
    (h : ∀ (h' : Heap) (tk : Nat) (l : List Str), SetS P w h' s.heap.objs.size l → Firsts xs xs.length l → (∀ b o, s.heap.get? b = some o → h'.get? b = some o) → Q (.ref s.heap.objs.size) { s with heap := h', toks := tk }) :
    wpAny (model P w) A (call (.type "set") [.ref t]) Q E s := by
  have hsz : items.size = xs.length := by
    have q := StrsAre.length hx
    rw [Array.length_toList] at q
    exact q
  obtain ⟨c0, tl0, mro0⟩ := PySem.F.called_set.mro
  have made0 := PySem.F.called_set.made
  have sub0 := PySem.F.called_set.sub
  refine wpAny_call (codeAny_of_tree ?_)
  show wpAny _ _ (callAny (.type "set") _) _ _ _
  refine wpAny_pure ⟨Code.quiet_builtin _ (by decide +kernel), codeAny_builtin PySem.F.entry_type_call ?_⟩
  rw [Around.under_plain (weight_type_call_type "set" [.ref t] []) rfl]
  have nt0 := PySem.F.called_set.notType
  have cc0 := PySem.F.called_set.canCreate
  have tc0 := PySem.F.typeCall_set_1 (.ref t)
  repeat (any_goals (first | assumption | wp_step))
  refine codeAny_mono (code_set_led1 (.ref t) (E := E) (Q₁ := fun v s1 => v = .ref s.heap.objs.size ∧ s1 = { s with heap := s.heap.push (ob0 w) }) ⟨rfl, rfl⟩) fun r s1 hr => ?_
  match r, hr with
  | .error e, hr => exact hr
  | .ok (.ret v), hr =>
    obtain ⟨rfl, rfl⟩ := hr
    have o0 : (s.heap.push (ob0 w)).get? s.heap.objs.size = some (ob0 w) := Heap.get?_push_size _ rfl
    have ty0 : Shared.TypeIs { s with heap := s.heap.push (ob0 w) } (.ref s.heap.objs.size) "set" := ⟨_, o0, rfl⟩
    have il0 := PySem.F.called_set.init.lookup
    have ib0 := PySem.F.called_set.init.bind (.ref s.heap.objs.size)
    repeat (any_goals (first | assumption | wp_step))
    refine codeAny_mono (codeAny_call_builtin (R := wants (fun v s2 => v = .none ∧ ∃ h2 tk l, s2 = { s with heap := h2, toks := tk } ∧ SetS P w h2 s.heap.objs.size l ∧ Firsts xs xs.length l ∧
        (∀ b o, s.heap.get? b = some o → h2.get? b = some o)) E) PySem.F.called_set.init.plain PySem.F.entry_set_init (check_set_init_1 ty0 ?_)) fun r2 s2 hr2 => ?_
    · obtain ⟨⟨oc, od, dt, osl⟩, ot, hc, nl, hd⟩ := ht
      simp only at hc hd
      subst hc
      subst hd
      have ot2 : (s.heap.push (ob0 w)).get? t = some { cls := .type "tuple", dict := od, data := .seq items nl, slots := osl } := Heap.get?_push_of_some _ ot
      have st1 := F.sub_tuple_set
      have st2 := F.sub_tuple_frozenset
      have td0 : (Value.type "tuple" == Value.type "dict") = false := by decide
      have t1 : (s.heap.push (ob0 w)).IsTuple t items := ⟨_, ot2, rfl, nl, rfl⟩
      unfold Builtin.«set.__init__» noKeywords Builtin.Frozenset.updateFrom
      generalize hPI : pyIter = PI
      wp_walk
      subst hPI
      refine wpAny_pyIter_tuple t1 (wpAny_bind (wpAny_runValue ?_))
      have lt0 : t < s.heap.objs.size := Heap.lt_size ot
      have hh3 : A.in1.in1.in1.handled = none := by simp [hh]
      have z1 : (s.heap.push (ob0 w)).objs.size = s.heap.objs.size + 1 := Heap.size_push ..
      have ne1 : t ≠ (s.heap.push (ob0 w)).objs.size := by rw [z1]; exact Nat.ne_of_lt (Nat.lt_succ_of_lt lt0)
      have nf1 : s.heap.objs.size ∉ [(s.heap.push (ob0 w)).objs.size, t] := by
        rw [z1]
        simp only [List.mem_cons, List.not_mem_nil, or_false, not_or]
        exact And.intro (Nat.ne_of_lt (Nat.lt_succ_self _)) (Nat.ne_of_gt lt0)
      have val1 : ∀ (i : Nat) (v : Value), items[i]? = some v → ∃ y u, xs[i]? = some y ∧ v = .str y u := fun i v e => by
        have hi : i < xs.length := by rw [← hsz]; exact (Array.getElem?_eq_some_iff.mp e).1
        obtain ⟨u, q⟩ := SS.strs_at hx i v (by rw [Array.getElem?_toList]; exact e)
        exact ⟨xs[i], u, List.getElem?_eq_getElem hi, by rw [q, List.getD_eq_getElem?_getD, List.getElem?_eq_getElem hi]; rfl⟩
      refine grow_x ((Walks.tuple hh3 _ t ne1 items).toS) s.heap.objs.size nf1 xs hsz hb val1 (items.size - 0) 0 _ (by omega) (Nat.zero_le _)
        ⟨⟨_, Heap.get?_push_size _ rfl, rfl, rfl⟩, (t1.push _)⟩ ⟨[], ⟨fun y => by simp, Nat.le_refl 0⟩, setS_new (Heap.get?_push_of_some _ o0)⟩ ?_
      intro s3 l3 mv hf3 x3
      obtain ⟨h3, g3, d3, tk3, os3⟩ := s3
      obtain rfl : g3 = s.gens := mv.gens
      obtain rfl : d3 = s.drawn := mv.drawn
      obtain rfl : os3 = s.os := mv.os
      show wpAny _ _ _ _ _ _
      refine wpAny_pure ?_
      show wpAny _ _ (ret Value.none) _ _ _
      rw [hsz] at hf3
      refine wpAny_pure ⟨rfl, h3, tk3, l3, rfl, x3, hf3, fun b o e => ?_⟩
      have b0 : b < s.heap.objs.size := Heap.lt_size e
      refine mv.heap b o ?_ (Heap.get?_push_of_some _ (Heap.get?_push_of_some _ e))
      rw [z1]
      simp only [List.mem_cons, List.not_mem_nil, or_false, not_or]
      exact And.intro (Nat.ne_of_lt b0) (Nat.ne_of_lt (Nat.lt_succ_of_lt b0))
    · match r2, hr2 with
      | .error e, hr2 => exact hr2
      | .ok (.ret v2), hr2 =>
        obtain ⟨rfl, h2, tk2, l2, rfl, x2, hf2, k2⟩ := hr2
        repeat (any_goals (first | assumption | wp_step))
        exact h _ _ _ x2 hf2 k2
      | .ok .next, hr2 => exact hr2.elim
      | .ok .brk, hr2 => exact hr2.elim
      | .ok .cont, hr2 => exact hr2.elim
  | .ok .next, hr => exact hr.elim
  | .ok .brk, hr => exact hr.elim
  | .ok .cont, hr => exact hr.elim
end
end Mk

set_option Elab.async false
set_option linter.all false
set_option maxRecDepth 100000
set_option maxHeartbeats 4000000
namespace Mk
open PySem PySem.Spec PyProof.Rows L2 PySem.Froz

theorem perm_sub {α : Type} [BEq α] [LawfulBEq α] : ∀ {l m : List α}, l.Nodup → (∀ x ∈ l, x ∈ m) → m.length = l.length → m.Perm l
  | [], m, _, _, h => by
    have e : m = [] := List.length_eq_zero_iff.mp (by simpa using h)
    rw [e]
  | a :: l, m, nd, h, hl => by
    have ha := h a List.mem_cons_self
    obtain ⟨n1, n2⟩ := List.nodup_cons.mp nd
    have p := List.perm_cons_erase ha
    refine p.trans (List.Perm.cons a (perm_sub n2 (fun x hx => ?_) ?_))
    · have hne : x ≠ a := fun e => n1 (e ▸ hx)
      exact (List.mem_erase_of_ne hne).mpr (h x (List.mem_cons_of_mem _ hx))
    · have := p.length_eq
      rw [List.length_cons] at this hl
      omega
/-- a value that is the text y -/
abbrev IsTx (v : Value) (y : Str) : Prop := ∃ t, v = .str y t
def txOf (v : Value) : Str := match v with
  | .str y _ => y
  | _ => Str.empty
theorem each_tx : ∀ (vs : List Value), (∀ v ∈ vs, ∃ y t, v = .str y t) → PySem.W.EachIs IsTx vs (vs.map txOf)
  | [], _ => .nil
  | v :: vs, h => by
    obtain ⟨y, t, rfl⟩ := h v List.mem_cons_self
    exact .cons ⟨t, rfl⟩ (each_tx vs fun u hu => h u (List.mem_cons_of_mem _ hu))
theorem each_len {α β : Type} {R : α → β → Prop} : ∀ {as : List α} {bs : List β}, PySem.W.EachIs R as bs → as.length = bs.length
  | _, _, .nil => rfl
  | _, _, .cons _ t => by rw [List.length_cons, List.length_cons, each_len t]
theorem each_mono {α β : Type} {R R' : α → β → Prop} (h : ∀ a b, R a b → R' a b) : ∀ {as : List α} {bs : List β}, PySem.W.EachIs R as bs → PySem.W.EachIs R' as bs
  | _, _, .nil => .nil
  | _, _, .cons r t => .cons (h _ _ r) (each_mono h t)
theorem each_vals : ∀ {vs : List Value} {ys : List Str}, PySem.W.EachIs IsTx vs ys → Vals (ys.map V.str) vs
  | _, _, .nil => .nil
  | _, _, .cons r t => .cons r (each_vals t)
theorem vals_each : ∀ {ys : List Str} {vs : List Value}, Vals (ys.map V.str) vs → PySem.W.EachIs IsTx vs ys
  | [], _, .nil => .nil
  | _ :: _, _, .cons r t => .cons r (vals_each t)
section
variable {P : Program} {w : World} {A : Around} {E : Value → Shared → Prop} {s : Shared}
theorem Tx.texts {D : SD} {l : List Str} (x : Tx P w D l) : (∀ v ∈ D.1.toList.map (·.2), ∃ y t, v = .str y t) ∧ ((D.1.toList.map (·.2)).map txOf).Perm l := by
  have h1 : ∀ v ∈ D.1.toList.map (·.2), ∃ y t, v = Value.str y t := fun v hv => by
    obtain ⟨e, he, rfl⟩ := List.mem_map.mp hv
    obtain ⟨⟨k, hk, _⟩, _⟩ := x.ok.el e he
    obtain ⟨t, q⟩ := Value.isStrOf_shape (show Value.isStrOf k e.2 = true from hk)
    exact ⟨k, t, q⟩
  refine ⟨h1, perm_sub x.nd (fun k hk => ?_) (by rw [List.length_map, List.length_map, Array.length_toList]; exact x.ok.sz)⟩
  obtain ⟨e, he, hq⟩ := (x.ok.mem k).mp hk
  obtain ⟨t, q⟩ := Value.isStrOf_shape (show Value.isStrOf k e.2 = true from hq)
  exact List.mem_map.mpr ⟨e.2, List.mem_map.mpr ⟨e, he, rfl⟩, by rw [q]; rfl⟩

/-- texts by their codes -/
abbrev byCs (x y : Str) : Bool := decide (x.cps.toList ≤ y.cps.toList)
theorem enc_le : PySem.W.dataLe false (fun x : Str => PyData.str x) = byCs := PySem.W.dataLe_str (fun x => x)
/-- sorted(set) of texts -/
theorem sorted_setX {a : Addr} {l : List Str} {Q : Value → Shared → Prop} (x : SetS P w s.heap a l) (hh : A.handled = none) (hb : l.length < scanBound) (hu : A.units + 60 < cLine)
    (hQ : ∀ s' p (out : List Value) (c : Nat) (ys : List Str), (∀ b o, s.heap.get? b = some o → s'.heap.get? b = some o) → s'.gens = s.gens → s'.os = s.os → s.heap.objs.size ≤ p →
      s'.heap.get? p = some (seqObj "list" out.toArray c) → PySem.W.EachIs IsTx out (ys.mergeSort byCs) → ys.Perm l → Q (.ref p) s') :
    wpAny (model P w) A (call (.builtin "sorted") [.ref a]) Q E s := by
  obtain ⟨D, e0, t0⟩ := x
  obtain ⟨tx, pm0⟩ := t0.texts
  refine Calls.call_function_entry kind_sorted plain_sorted entry_sorted (args_sorted1 _) ?_
  unfold Builtin.«sorted»
  refine wpAny_bind (m := checkCount "sorted" 1 1 _) (wpAny_pure ?_)
  have z0 : D.1.size < scanBound := by rw [t0.ok.sz]; exact hb
  refine wpAny_bind (collect_set (A := A.in1) (es := D.1) (ep := D.2.1) (t := D.2.2) hh ⟨_, e0, rfl, rfl⟩ t0.ok.fit z0 t0.wk.1 t0.wk.2 fun s1 vs kp hz g1 o1 pm => ?_)
  have lv : vs.length = l.length := by rw [pm.length_eq, List.length_map, Array.length_toList]; exact t0.ok.sz
  have txv : ∀ v ∈ vs, ∃ y t, v = Value.str y t := fun v hv => tx v (pm.mem_iff.mp hv)
  have ev := each_tx vs txv
  have fit : l.length ≤ sizeLine := Nat.le_trans (Nat.le_of_lt hb) (by decide)
  refine wpAny_bind (wpAny_newList ?_ (by rw [lv]; exact fit))
  have at0 : (s1.heap.push (seqObj "list" vs.toArray 0)).get? s1.heap.objs.size = some (seqObj "list" vs.toArray 0) := Heap.get?_push_size _ rfl
  refine wpAny_bind (wpAny_holding (PySem.W.list_sort_data (s := { s1 with heap := s1.heap.push (seqObj "list" vs.toArray 0) }) (enc := fun x : Str => PyData.str x) at0 ev (each_mono (fun v y ⟨t, q⟩ => ⟨[], by rw [q]; exact .str y t, (fun z => nomatch z)⟩) ev)
    (PySem.W.AllAlike.of fun _ _ => rfl) (PySem.W.Sortable.others fun _ => ⟨(fun z => nomatch z), (fun _ z => nomatch z)⟩) (by rw [List.length_map, lv]; exact fit) (fun y _ => ?_) fun out lo eo => ?_))
  · show A.units + 1 + 1 + 0 < cLine
    omega
  obtain ⟨c, hc⟩ := sortedHeap_at (vs := vs) (out := out.toArray) at0
  rw [enc_le] at eo
  refine wpAny_pure ⟨_, rfl, hQ _ s1.heap.objs.size out c _ (fun b u e => ?_) g1 o1 hz hc eo ((pm.map txOf).trans pm0)⟩
  have q := kp b u e
  have lt := Heap.lt_size q
  show (sortedHeap (s1.heap.push (seqObj "list" vs.toArray 0)) s1.heap.objs.size vs out.toArray).get? b = some u
  rw [sortedHeap_old (Nat.ne_of_lt lt) (by rw [size_push']; exact Nat.lt_succ_of_lt lt)]
  exact Heap.get?_push_of_some _ q
end
end Mk

set_option Elab.async false
set_option linter.all false
set_option maxRecDepth 100000
set_option maxHeartbeats 4000000
namespace Mk
open PySem PySem.Spec PyProof.Rows L2 PySem.Froz

/-- the set of the unlike texts l at a -/
def SetSO (P : Program) (w : World) (a : Addr) (l : List Str) : HO := .ext fun h => SetS P w h a l
section
variable {X : Cx}
theorem setSO_new {P : Program} {w : World} {H : Hp} {h : Heap} {a : Addr} {l : List Str} (x : SetS P w h a l) : ObjOk P w H h a (SetSO P w a l) := by
  obtain ⟨D, e, t⟩ := id x
  exact ⟨x, ⟨_, e⟩, fun h1 h2 y k => y.at k⟩
theorem setSO_get {pins : List (Addr × Obj)} {σ : L2.St} {H : Hp} {s : Shared} {a : Addr} {l : List Str} (I : Inv X pins σ H s) (ha : H a = some (SetSO X.prog X.w a l)) : SetS X.prog X.w s.heap a l := (I.hok a _ ha).1
theorem strs_of : ∀ {ys : List Str} {us : List Value}, Vals (ys.map V.str) us → StrsAre us ys
  | [], _, .nil => .nil
  | y :: ys, _, .cons r t => by
    obtain ⟨k, rfl⟩ := r
    exact .cons y k (strs_of t)
/-- set(t), t a tuple of texts -/
def rSetX (K : PySem.W.Frag) (P : Program) (w : World) : List V → Hp → VK → Prop := fun xs H Q => ∃ (t : Addr) (zs : List Str), xs = [.ref t] ∧ SqT K H t (zs.map V.str) ∧ zs.length + 1 < scanBound ∧
  ∀ (p : Addr) (l : List Str), H p = none → l.Nodup → (∀ y, y ∈ l ↔ y ∈ zs) → l.length ≤ zs.length → Q (.ref p) (upd H p (SetSO P w p l))
theorem cr_setX (hc : X.calm = true) : CallR X (.type "set") (rSetX X.K X.prog X.w) := by
  intro pins s σ H xs us Q I r h
  obtain ⟨t, zs, rfl, ht, hb, q⟩ := h
  rw [Vals.ref1 r]
  obtain ⟨its, rv, hl, hz⟩ := I.tuple ht
  refine call_set_tupleX (items := its.toArray) zs (I.ok.hd hc) hl (by simpa using strs_of rv) hb fun h' tk l x hf k => ?_
  obtain ⟨D, e, tx⟩ := id x
  refine ⟨.ref _, upd H s.heap.objs.size (SetSO X.prog X.w s.heap.objs.size l), I.laid k (Nat.le_refl _) (setSO_new x), rfl, q _ _ (I.hok.fresh (Nat.le_refl _)) tx.nd (fun y => ?_) hf.2⟩
  rw [hf.1, List.take_length]
/-- sorted(set of texts) -/
def rSortedSX (P : Program) (w : World) : List V → Hp → VK → Prop := fun vs H Q => ∃ (a : Addr) (l : List Str), vs = [.ref a] ∧ H a = some (SetSO P w a l) ∧ l.length < scanBound ∧
  ∀ (ys : List Str) (p : Addr), ys.Perm l → H p = none → Q (.ref p) (upd H p (.lst ((ys.mergeSort byCs).map V.str)))
theorem cr_sortedSX (hc : X.calm = true) (hu : X.A.units + 60 < cLine) : CallR X (.builtin "sorted") (rSortedSX X.prog X.w) := by
  intro pins s σ H vs us Q I r h
  obtain ⟨a, l, rfl, ha, hb, q⟩ := h
  rw [Vals.ref1 r]
  refine sorted_setX (setSO_get I ha) (I.ok.hd hc) hb hu fun s' p out c ys k g o hp hg he hm => ?_
  have lo : ((ys.mergeSort byCs).map V.str).length ≤ sizeLine := by
    rw [List.length_map, (List.mergeSort_perm ys byCs).length_eq, hm.length_eq]
    exact Nat.le_trans (Nat.le_of_lt hb) (by decide)
  have hn : H p = none := I.hok.fresh hp
  have J : Inv X pins σ (upd H p (.lst ((ys.mergeSort byCs).map V.str))) { s with heap := s'.heap, gens := s'.gens, drawn := s'.drawn, toks := s'.toks } :=
    I.call (ch := []) (Un.laid k hp hn) (I.hok.laid k hp ⟨lo, out, c, each_vals he, hg⟩) (by rw [g]; exact I.bare) (fun _ z => nomatch z)
  have e : s' = { s with heap := s'.heap, gens := s'.gens, drawn := s'.drawn, toks := s'.toks } := by
    obtain ⟨s1, s2, s3, s4, s5⟩ := s'
    obtain ⟨t1, t2, t3, t4, t5⟩ := s
    obtain rfl : s5 = t5 := o
    rfl
  rw [e]
  exact ⟨.ref p, _, J, rfl, q ys p hm hn⟩
/-- texts by their lengths -/
abbrev byLen (x y : Str) : Bool := decide ((x.length : Int) ≤ (y.length : Int))
/-- sorted(xs, key=len), xs a list of texts -/
def tSortLen (K : PySem.W.Frag) (t : TA) : TE := fun σ H Q => t σ H fun vs H1 => ∃ (a : Addr) (zs : List Str), vs = [.ref a] ∧ SqL K H1 a (zs.map V.str) ∧ (∀ z ∈ zs, z.length ≤ sizeLine) ∧
  ∀ p, H1 p = none → Q (.ref p) (upd H1 p (.lst ((zs.mergeSort byLen).map V.str)))
theorem pe_sortLen {e : Expr} {t : TA} {p p2 kp pos : Pos} (hg : Gl X "sorted") (hm : X.mg "sorted" = none) (hgL : Gl X "len") (hmL : X.mg "len" = none) (hu : X.A.units + 60 < cLine) (ha : PA X [e] t)
    (he : backTo pos (starEach [e] X.env) = (false, eval e X.env) :: backTo pos (starEach [] X.env) := by rfl) (hpl : (backTo pos (starEach [e] X.env)).any (·.1) = false := by rfl) :
    PE X (.Call (.Name "sorted" p) [e] [⟨some "key", .Name "len" p2, kp⟩] pos) (tSortLen X.K t) := by
  refine ⟨fun pins s σ H Q I h => ?_⟩
  refine wpAny_Call_Name_kw (ld_blt I hg hm (u := .builtin "sorted") (by decide +kernel) ?_)
  refine PyProof.Rows.callWith_kw (thn (ha.run pos pins s σ H _ I h) fun us s1 ⟨vs, H1, I1, r1, q1⟩ => ?_) he hpl
  show wpAny _ _ (evalAll [do let v ← eval (.Name "len" p2) X.env; standAt pos; pure v]) _ _ s1
  refine wpAny_evalAll_cons (wpAny_bind (ld_blt I1 hgL hmL (u := .builtin "len") (by decide +kernel) (wpAny_bind (wpAny_standAt (wpAny_pure (wpAny_evalAll_nil ?_))))))
  show wpAny _ _ (call (.builtin "sorted") us [(Str.ofString "key", .builtin "len")]) _ _ s1
  obtain ⟨a, zs, rfl, hs, hz, q⟩ := q1
  rw [Vals.ref1 r1]
  obtain ⟨its, rv, hl, hsz⟩ := I1.list hs
  refine PySem.W.sorted_key_data (b := false) (R := IsTx) (bs := zs) (fun x : Str => PyData.int x.length) hl.isList (vals_each rv) (PySem.W.AllAlike.of fun _ _ => rfl) (PySem.W.Sortable.others fun _ => ⟨(fun z => nomatch z), (fun _ z => nomatch z)⟩)
    (by rw [List.length_map] at hsz; exact hsz) (fun x _ => ?_) (ksk_s1 _ _) (fun _ => ksk_l1 _ _) (fun _ => ksk_t4 _ _) (fun v x hR hx h0 tk0 k0 => ?_) fun out c h' tk k hn hd hlo he => ?_
  · show X.A.units + 2 + 0 < cLine
    omega
  · obtain ⟨t0, rfl⟩ := hR
    refine PySem.P.len_str ?_ ⟨h0, _, rfl, fun _ _ z => z, .int _ _⟩
    have := hz x hx
    rw [sizeLine_eq] at this
    omega
  · have ee : PySem.W.dataLe false (fun x : Str => PyData.int (x.length : Nat)) = byLen := PySem.W.dataLe_int fun x : Str => ((x.length : Nat) : Int)
    rw [ee] at he
    refine ⟨.ref _, upd H1 (s1.heap.objs.size + 1) (.lst ((zs.mergeSort byLen).map V.str)), I1.laid (t' := tk) k (Nat.le_succ _) ⟨?_, out, c, each_vals he, hd⟩, rfl, q _ (I1.hok.fresh (Nat.le_succ _))⟩
    rw [List.length_map, (List.mergeSort_perm zs byLen).length_eq]
    rw [List.length_map] at hsz
    exact hsz
end
end Mk

set_option Elab.async false
set_option linter.all false
set_option maxRecDepth 100000
set_option maxHeartbeats 4000000
namespace Mk
open PySem L2

theorem two_sub {α : Type} : ∀ {l : List α} {x y : α}, x ∈ l → y ∈ l → x ≠ y → List.Sublist [x, y] l ∨ List.Sublist [y, x] l
  | [], _, _, h, _, _ => nomatch h
  | a :: l, x, y, hx, hy, ne => by
    rcases List.mem_cons.mp hx with e1 | m1
    · rcases List.mem_cons.mp hy with e2 | m2
      · exact absurd (e1.trans e2.symm) ne
      · rw [e1]
        exact .inl (List.Sublist.cons_cons _ (List.singleton_sublist.mpr m2))
    · rcases List.mem_cons.mp hy with e2 | m2
      · rw [e2]
        exact .inr (List.Sublist.cons_cons _ (List.singleton_sublist.mpr m1))
      · rcases two_sub m1 m2 ne with h | h
        · exact .inl (h.cons a)
        · exact .inr (h.cons a)
theorem no_both {α : Type} : ∀ {l : List α} {x y : α}, l.Nodup → List.Sublist [x, y] l → List.Sublist [y, x] l → False
  | [], _, _, _, h, _ => nomatch h
  | a :: l, x, y, nd, h1, h2 => by
    obtain ⟨n1, n2⟩ := List.nodup_cons.mp nd
    cases h1 with
    | cons _ h1 =>
      cases h2 with
      | cons _ h2 => exact no_both n2 h1 h2
      | cons_cons _ h2 => exact n1 (h1.subset (by simp))
    | cons_cons _ h1 =>
      cases h2 with
      | cons _ h2 => exact n1 (h2.subset (by simp))
      | cons_cons _ h2 => exact n1 (List.singleton_sublist.mp h1)
theorem cs_inj {x y : Str} (h : cs x = cs y) : x = y := by
  obtain ⟨⟨a⟩⟩ := x
  obtain ⟨⟨b⟩⟩ := y
  have : a = b := h
  rw [this]
theorem byCs_trans (a b c : Str) (h1 : byCs a b = true) (h2 : byCs b c = true) : byCs a c = true := by
  simp only [byCs, decide_eq_true_eq] at *
  exact List.le_trans h1 h2
theorem byCs_total (a b : Str) : (byCs a b || byCs b a) = true := by
  simp only [byCs, Bool.or_eq_true, decide_eq_true_eq]
  exact List.le_total _ _
theorem byLen_trans (a b c : Str) (h1 : byLen a b = true) (h2 : byLen b c = true) : byLen a c = true := by
  simp only [byLen, decide_eq_true_eq] at *
  omega
theorem byLen_total (a b : Str) : (byLen a b || byLen b a) = true := by
  simp only [byLen, Bool.or_eq_true, decide_eq_true_eq]
  omega
theorem ord_pair {ys : List Str} (nd : ys.Nodup) : ((ys.mergeSort byCs).mergeSort byLen).Pairwise (fun x y => ahB x y = true) := by
  have p1 := List.mergeSort_perm ys byCs
  have p2 := List.mergeSort_perm (ys.mergeSort byCs) byLen
  have s1 := List.pairwise_mergeSort byCs_trans byCs_total ys
  have s2 := List.pairwise_mergeSort byLen_trans byLen_total (ys.mergeSort byCs)
  have n1 := p1.nodup_iff.mpr nd
  have n2 := p2.nodup_iff.mpr n1
  refine List.pairwise_iff_forall_sublist.mpr fun {x y} h => ?_
  have hl : byLen x y = true := List.pairwise_iff_forall_sublist.mp s2 h
  have ne : x ≠ y := fun e => by
    have := h.nodup n2
    rw [e] at this
    simp at this
  have mx : x ∈ ys.mergeSort byCs := p2.mem_iff.mp (h.subset (by simp))
  have my : y ∈ ys.mergeSort byCs := p2.mem_iff.mp (h.subset (by simp))
  unfold ahB
  simp only [byLen, decide_eq_true_eq] at hl
  by_cases e : x.length = y.length
  · rw [decide_eq_true e]
    have hc : cs x ≤ cs y := by
      rcases two_sub mx my ne with k | k
      · have := List.pairwise_iff_forall_sublist.mp s1 k
        simpa only [byCs, decide_eq_true_eq] using this
      · exact (no_both n2 h (List.pair_sublist_mergeSort byLen_trans byLen_total (by simp only [byLen, decide_eq_true_eq]; omega) k)).elim
    have hlt : cs x < cs y := by
      rcases Classical.em (cs x < cs y) with k | k
      · exact k
      · exact absurd (cs_inj (List.le_antisymm hc (List.not_lt.mp k))) ne
    rw [decide_eq_true hlt]
    simp
  · rw [decide_eq_true (by omega : x.length < y.length)]
    rfl

abbrev sOrdered : Stmt := top 17
/-- the tuple rs has just the words zs, each once, ascending -/
structure Asc (zs rs : List Str) : Prop where
  mem : ∀ y, y ∈ rs ↔ y ∈ zs
  up : rs.Pairwise (fun x y => ahB x y = true)
  len : rs.length ≤ zs.length
def spOrdered (K : PySem.W.Frag) : Sp := fun vs H Q _ => ∃ (t : Addr) (zs : List Str), vs = [.ref t] ∧ H t = some (.tup (zs.map V.str)) ∧ (∀ z ∈ zs, IsW z ∧ z.length ≤ 100000) ∧ zs.length < 4000 ∧
  ∀ H' p rs, Same H H' → H p = none → H' p = some (.tup (rs.map V.str)) → Asc zs rs → Q (.ref p) H'
structure On (mg : Str → Option Value) : Prop where
  tuple : mg "tuple" = none
  all : mg "all" = none
  sorted : mg "sorted" = none
  set : mg "set" = none
section
variable {P : Program} {w : World} {K : PySem.W.Frag} {mg : Str → Option Value} {base : Heap}
theorem scOrdered : FnScope ["words", "word"] ["words"] (defScope sOrdered) := ⟨rfl, rfl, rfl, by decide +kernel, rfl, by decide +kernel, by decide +kernel⟩
theorem ok_ordered {f : Addr} {fd : FuncData} (F : Fun K "ordered" "ordered" sOrdered f fd) (B : Bn mg) (W : Wn mg) (O : On mg) (J : Cd P w K mg base 1 "is_word" ["value"] (spJudge wB K)) : FnOk P w K mg base CX0 2 f fd ["words"] (spOrdered K) := by
  obtain ⟨j, dj, G, gm, gk, gb⟩ := J.ex
  refine F.ok scOrdered (fun vs H Q E h => ?_) (fun cdv A outer s H vs Q E hr h => ?_)
  · obtain ⟨t, zs, rfl, _⟩ := h
    rfl
  · obtain ⟨t, zs, rfl, ht, hw, hl, q⟩ := h
    have hu : A.units + 3 + 60 < cLine := by
      have h2 : A.units + 3 + 16 * 1 + 200 < cLine := hr.un
      omega
    refine ⟨_, pss_cons (ps_if (PW.pt (pw_or (pt_not (pt_val (pe_callB call_isi (by rfl) W.isi (by decide +kernel) (pa_cons (pv 0) (pa_cons (pe_bltn (v := .ty "tuple") (u := .type "tuple") (by rfl) O.tuple (by decide +kernel) rfl) pa_nil)))))
        (pw_or1 (pt_not (pt_val (pe_callB (cr_all rfl) (by rfl) O.all (by decide +kernel) (pa_cons (pe_lc (own := [("word", 1)]) (g := gName 1) (tt := tYes) rfl scOrdered.nd (pi_tup (pv 0)) (blkOk_by (N := ["words", "word"]) (sc := defScope sOrdered) (by decide +kernel))
          (fun _ _ _ _ _ => pg_name (i := 1) scOrdered.nd rfl (Or.inl rfl)) (fun _ _ _ _ _ => pts_nil) (fun _ _ _ _ _ => pe_call G hr (by rfl) gm gk gb .nil pass0 (pa_cons (pv 1) pa_nil))) pa_nil))))))) (pss_one ps_never) pss_nil)
      (pss_one (ps_ret (pe_callTy call_tuple_of (by rfl) O.tuple (by decide +kernel) (pa_cons (pe_sortLen (by rfl) O.sorted (by rfl) B.len hu (pa_cons (pe_callB (cr_sortedSX rfl hu) (by rfl) O.sorted (by decide +kernel) (pa_cons (pe_callTy (cr_setX rfl) (by rfl) O.set (by decide +kernel) (pa_cons (pv 0) pa_nil)) pa_nil)) pa_nil)) pa_nil)))), ?_⟩
    refine ⟨_, rfl, _, _, _, _, true, rfl, .ty "tuple", .base (.tup ht), kit_ty (by decide +kernel), _, rfl, iteF ?_⟩
    refine ⟨_, rfl, t, rfl, ⟨_, SqT.of ht⟩, fun D hD => lc_it (walk_tup (K := K) (a := t) (xs := zs.map V.str)) (fun i H1 => Same H H1 ∧ H1 D = some (.lst ((List.replicate i true).map V.bl))) ⟨Same.new hD, upd_same⟩ (fun i H1 _ h1 => SqT.of (h1.1 _ _ ht)) ?_ ?_⟩
    · rintro i x H1 H2 hi ⟨hS, hL⟩ ⟨rfl, hx⟩
      rw [List.length_map] at hi
      have ex : x = V.str zs[i] := by
        rw [List.getElem?_map, List.getElem?_eq_getElem hi] at hx
        exact (Option.some.inj hx).symm
      subst ex
      obtain ⟨w1, w2⟩ := hw _ (List.getElem_mem hi)
      refine ⟨rfl, _, rfl, _, rfl, .inl ⟨_, rfl, w2, _, hL, ?_, ?_, ?_⟩⟩
      · rw [List.length_map, List.length_replicate]
        exact Nat.lt_of_lt_of_le (by omega : i < 4000) (by decide)
      · exact fun b o e => by
          rw [upd_ne (ne_of_none e hD)]
          exact hS b o e
      · rw [upd_same, wB_of w1, List.replicate_succ', List.map_append]
        rfl
    · rintro H1 ⟨hS, hL⟩
      rw [List.length_map] at hL
      refine ⟨_, _, rfl, SqL.of hL, _, rfl, ?_⟩
      have ea : (List.replicate zs.length true).all id = true := List.all_eq_true.mpr fun b hb => (List.mem_replicate.mp hb).2
      rw [ea]
      refine iteF ?_
      refine ⟨_, rfl, t, zs, rfl, SqT.of (hS _ _ ht), by unfold scanBound; omega, fun p l hp nd hm hlen => ?_⟩
      refine ⟨p, l, rfl, upd_same, by unfold scanBound; omega, fun ys p2 perm hp2 => ?_⟩
      refine ⟨p2, ys.mergeSort byCs, rfl, SqL.of upd_same, fun z hz => ?_, fun p3 hp3 => ?_⟩
      · have m := perm.mem_iff.mp ((List.mergeSort_perm ys byCs).mem_iff.mp hz)
        exact Nat.le_trans (hw z ((hm z).mp m)).2 (by decide)
      refine ⟨p3, _, rfl, .inl ⟨SqL.of upd_same, fun p4 hp4 => ?_⟩⟩
      have s4 : Same H (upd (upd (upd (upd H1 p (SetSO P w p l)) p2 (.lst ((ys.mergeSort byCs).map V.str))) p3 (.lst (((ys.mergeSort byCs).mergeSort byLen).map V.str))) p4 (.tup (((ys.mergeSort byCs).mergeSort byLen).map V.str))) :=
        (((hS.trans (Same.new hp)).trans (Same.new hp2)).trans (Same.new hp3)).trans (Same.new hp4)
      refine q _ p4 _ s4 ?_ upd_same ⟨fun y => ?_, ord_pair (perm.nodup_iff.mpr nd), ?_⟩
      · exact ((((hS.trans (Same.new hp)).trans (Same.new hp2)).trans (Same.new hp3))).free hp4
      · rw [(List.mergeSort_perm _ byLen).mem_iff, (List.mergeSort_perm ys byCs).mem_iff, perm.mem_iff, hm]
      · rw [(List.mergeSort_perm _ byLen).length_eq, (List.mergeSort_perm ys byCs).length_eq, perm.length_eq]
        exact hlen
end
end Mk

set_option Elab.async false
set_option linter.all false
set_option maxRecDepth 100000
set_option maxHeartbeats 4000000
namespace Mk
open PySem PySem.Spec PyProof.Rows L2

/-- a def's promise where nothing is being printed -/
structure FnG (P : Program) (w : World) (K : PySem.W.Frag) (mg : Str → Option Value) (base : Heap) (CX : CXT) (k : Nat) (f : Addr) (fd : FuncData) (ps : List Str) (sp : Sp) : Prop where
  len : ∀ vs H Q E, sp vs H Q E → vs.length = ps.length
  go : ∀ (A : Around) (outer : List Env) (s : Shared) (H : Hp) (args : Args) (us : List Value) (vs : List V) (Q : VK) (E : XK), Room k A → A.guards = some [] → Env0 P w K mg base A outer s H → BindsTo s fd args (ps.zip us) → Vals vs us → sp vs H Q E →
    codeAny (model P w) A (.call (.ref f) args) (CR CX outer P w H s Q E) s

section
variable {P : Program} {w : World} {K : PySem.W.Frag} {mg : Str → Option Value} {base : Heap} {CX : CXT} {k : Nat} {f : Addr} {sp : Sp} {N ps : List Str}
theorem fn_ofG {name qual : Str} {params : Arguments} {body : List Stmt} {scope : Scope} {dV kV doc pm cdv ct oc : Value} {an od : Option Addr} {osl : Array (Option Value)}
    (at0 : K.lookup f = some ⟨oc, od, .func (PySem.W.fnOf name qual params body scope dV kV doc pm an cdv ct), osl⟩) (cd0 : PySem.W.codeIn K cdv qual = true) (S : FnScope N ps scope)
    (len : ∀ vs H Q E, sp vs H Q E → vs.length = ps.length)
    (hb : ∀ (A : Around) (outer : List Env) (s : Shared) (H : Hp) (vs : List V) (Q : VK) (E : XK), Room k (A.deeper (envOfC qual scope s.heap.objs.size f cdv)) → A.guards = some [] → sp vs H Q E →
      ∃ t, PSs (cxOf CX P w K mg base N qual scope f cdv A outer s H E) body t ∧ t { nx := fun _ H' => Q .non H', rt := Q } (start N vs) H) :
    FnG P w K mg base CX (k + 1) f (PySem.W.fnOf name qual params body scope dV kV doc pm an cdv ct) ps sp := by
  refine ⟨len, fun A outer s H args us vs Q E hr gd e0 bd rel hsp => ?_⟩
  have lv := len _ _ _ _ hsp
  have kin : K.In s.heap := e0.mod.kin.keeps fun b o e => (e0.bs b o e).1
  have nol : s.heap.NoLimit := e0.mod.nolimit.keeps fun b o e => (e0.bs b o e).1
  have kinds : ∀ y ∈ ps.zip us, scope.names.lookup y.1 = some .local ∨ (scope.names.lookup y.1 = some .cell ∧ ((cellsFrom (s.heap.objs.size + 1) scope.names []).lookup y.1).isSome = true) := by
    rintro ⟨n, v⟩ hy
    exact (S.par n (List.of_mem_zip hy).1).imp id fun q => ⟨q, PySem.W.cellsFrom_some _ _ _ (.inl q)⟩
  refine codeAny_call_function hr.depth (kin _ _ at0) rfl S.co S.gen rfl (PySem.W.codeRec_of kin cd0) (bd _ _ _ _ ?_)
  refine wpAny_newFunctionEnv_cells S.kind kinds fun env he s1 x => ?_
  subst he
  obtain ⟨t, ht, hq⟩ := hb A outer s H vs Q E (hr.deeper _) gd hsp
  have I : Inv (cxOf CX P w K mg base N qual scope f cdv A outer s H E) [] (start N vs) H s1 := inv_start S hr.hd e0 lv rel x
  refine ⟨nol.keeps x.toInCall.keep, codeAny_func (wpAny_mono (ht.run [] s1 (start N vs) H _ I hq) (fun fl s' z => ?_) fun e s' z => z)⟩
  match fl, z with
  | .ret u, ⟨v, σ', H', J, rv, q⟩ => exact ⟨v, H', J.os, J.bare, J.base, J.hok, rv, q⟩
  | .next, ⟨σ', H', J, q⟩ => exact ⟨V.non, H', J.os, J.bare, J.base, J.hok, rfl, q⟩
  | .brk, ⟨_, _, _, q⟩ => exact q.elim
  | .cont, ⟨_, _, _, q⟩ => exact q.elim
/-- the rule for a def, where nothing is being printed -/
theorem Fun_okG {x qual : Str} {st : Stmt} {fd : FuncData} (F : Fun K x qual st f fd) (S : FnScope N ps (defScope st)) (len : ∀ vs H Q E, sp vs H Q E → vs.length = ps.length)
    (hb : ∀ (cdv : Value) (A : Around) (outer : List Env) (s : Shared) (H : Hp) (vs : List V) (Q : VK) (E : XK), Room k (A.deeper (envOfC qual (defScope st) s.heap.objs.size f cdv)) → A.guards = some [] → sp vs H Q E →
      ∃ t, PSs (cxOf CX0 P w K mg base N qual (defScope st) f cdv A outer s H E).nox (defBody st) t ∧ t { nx := fun _ H' => Q .non H', rt := Q } (start N vs) H) : FnG P w K mg base CX0 (k + 1) f fd ps sp := by
  obtain ⟨oc, od, kV, doc, pm, an, cdv, ct, osl, rfl, at0, cd0⟩ := F.ex
  refine fn_ofG at0 cd0 S len fun A outer s H vs Q E hr gd hsp => ?_
  obtain ⟨t, h, q⟩ := hb cdv A outer s H vs Q E hr gd hsp
  exact ⟨t, h.nox, q⟩
end
section
variable {X : Cx} {CX : CXT} {k : Nat} {f : Addr} {fd : FuncData} {ps : List Str} {sp : Sp} {E : XK} {x : Str} {p pos : Pos} {e : Expr} {es : List Expr} {t : TA}
theorem pe_callG (F : FnG X.prog X.w X.K X.mg X.base CX k f fd ps sp) (hr : Room k X.A) (gd : X.A.guards = some []) (hg : Gl X x) (hm : X.mg x = some (.ref f)) (hk : PySem.W.keepIn X.K (.ref f) = true) (hb : Binds X.K fd ps []) (hx : Passes CX X E)
    (ha : PA X (e :: es) t) (hdb : (x == ("__debug__" : Str)) = false := by decide) (he : starEach (e :: es) X.env = (false, eval e X.env) :: starEach es X.env := by rfl) (hpl : (backTo pos (starEach es X.env)).any (·.1) = false := by rfl) :
    PE X (.Call (.Name x p) (e :: es) [] pos) (tCall sp [] E t) := by
  refine ⟨fun pins s σ H Q I h => wpAny_Call_Name_kw (ld_glob I hg hm ?_ hdb)⟩
  refine PySem.W.callWith_K (h₀ := X.base) I.ok.mod.kin hk (thn (ha.run pos pins s σ H _ I h) fun us s1 ⟨vs, H1, I1, r, q⟩ => ⟨I1.kIn, ?_⟩) he hpl
  have q2 : sp (vs ++ []) H1 Q E := q
  rw [List.append_nil] at q2
  have lu : us.length = ps.length := by rw [← r.length]; exact F.len _ _ _ _ q2
  have bd := hb s1 us I1.kIn (by rw [List.append_nil]; exact lu)
  rw [List.append_nil] at bd
  refine wpAny_call (codeAny_mono (F.go X.A X.stack s1 H1 ⟨us, []⟩ us vs Q E hr gd I1.env0 bd r q2) fun r s' z => ?_)
  match r, z with
  | .error e, z => exact hx pins σ H1 s1 e s' I1 z
  | .ok (.ret u), z => exact I1.after z
  | .ok .next, z => exact False.elim z
  | .ok .brk, z => exact False.elim z
  | .ok .cont, z => exact False.elim z

/-- repr of data -/
theorem call_reprD (gd : X.A.guards = some []) (hu : X.A.units + 100 < cLine) : CallR X (.builtin "repr") (fun xs H Q => ∃ (a : Addr) (d : PyData), xs = [.ref a] ∧ Dp X.K H (.ref a) d ∧ d.showable = true ∧ d.hasDict = false ∧ d.depth ≤ 60 ∧ d.shown.length ≤ sizeLine ∧ Q (.str d.shown) H) := by
  intro pins s σ H xs us Q I r h
  obtain ⟨a, d, rfl, hd, h1, h2, h3, h4, q⟩ := h
  obtain ⟨u, rfl, hu1⟩ := vals1 r
  obtain ⟨as, rd⟩ := Dp.reads I d _ _ hd hu1
  obtain rfl : u = Value.ref a := hu1
  refine repr_of_reads' rd h1 (fun z => ?_) gd (by omega) (fun _ _ z => z) (fun h' v tk k => ⟨.str d.shown, H, I.kept k, ⟨_, rfl⟩, q⟩) h4
  rw [h2] at z
  cases z
end

section
variable {P : Program} {w : World} {K : PySem.W.Frag} {mg mb : Str → Option Value} {CX : CXT} {k : Nat} {fa a : Addr} {fd : FuncData} {x : Str} {sp : Sp} {s1 : Shared} {vs : List Value} {ns : List Int}
theorem law_callG (kin : K.In s1.heap) (hns : s1.heap.Ns mainGlobals mg) (hb : s1.heap.Ns builtinsNs mb) (hbb : ∀ x : Str, x ≠ "__name__" → mb x = bootBuiltins x) (nol : s1.heap.NoLimit) (hg : s1.gens = #[])
    (at0 : s1.heap.get? a = some { cls := .type "list", data := .seq vs.toArray }) (hi : IntsAre vs ns) (hl : ns.length ≤ sizeLine) (hr : Room k callerA)
    (F : ∀ base : Heap, K.In base → base.Ns mainGlobals mg → FnG P w K mg base CX k fa fd [x] sp) (bd : ∀ (s : Shared) (u : Value), BindsTo s fd ⟨[u], []⟩ [(x, u)])
    (hsp : ∀ H : Hp, Only H → SqL K H a (ns.map V.int) → sp [.ref a] H (fun v _ => v = .bl true) fun _ _ _ => False)
    (hCX : ∀ H e s', CX [] H s1 (fun _ _ _ => False) e s' → False) :
    codeAny (model P w) callerA (.call (.ref fa) ⟨[.ref a], []⟩) (fun r s' => r = .ok (.ret (.bool true)) ∧ OldK s1.heap s'.heap ∧ s'.os = s1.os ∧ AllBare s'.gens) s1 := by
  have rv := vals_ints hi
  have core : ∀ H : Hp, Only H → SqL K H a (ns.map V.int) → HOk P w H s1.heap → (∀ b, H b ≠ none → b = a) → (H a ≠ none → K.lookup a = none) →
      codeAny (model P w) callerA (.call (.ref fa) ⟨[.ref a], []⟩) (fun r s' => r = .ok (.ret (.bool true)) ∧ OldK s1.heap s'.heap ∧ s'.os = s1.os ∧ AllBare s'.gens) s1 := by
    intro H hO hS ok only noK
    have free : ∀ {b : Addr} {o : Obj}, s1.heap.get? b = some o → b ≠ a → H b = none := fun {b o} _ ne => by
      cases q : H b with
      | none => rfl
      | some u => exact absurd (only b (by rw [q]; exact fun z => nomatch z)) ne
    have nsH : ∀ {b : Addr} {m : Str → Option Value}, s1.heap.Ns b m → (hidT s1.heap H).Ns b m := fun {b m} ⟨o, es, ep, e, d, r⟩ => by
      refine ⟨o, es, ep, hidT_get e (free e fun z => ?_), d, r⟩
      rw [z, at0] at e
      cases e
      cases d
    have kinH : K.In (hidT s1.heap H) := fun b o e => by
      have e1 := kin b o e
      cases q : H b with
      | none => exact hidT_get e1 q
      | some u =>
        have z := only b (by rw [q]; exact fun z => nomatch z)
        subst z
        rw [noK (by rw [q]; exact fun z => nomatch z)] at e
        cases e
    have M0 : Mod K mg (hidT s1.heap H) := ⟨kinH, nsH hns, ⟨mb, nsH hb, hbb⟩, let ⟨mc, h1, h2⟩ := nol; ⟨mc, nsH h1, h2⟩⟩
    have e0 : Env0 P w K mg (hidT s1.heap H) callerA [] s1 H := ⟨rfl, M0, fun b o e => of_hidT e, Nat.le_of_eq (hidT_size _ _), trivial, fun b z => absurd (show b ∈ ([] : List Addr) from z) (by simp), ok, .of_eq hg⟩
    refine codeAny_mono ((F _ kinH (nsH hns)).go callerA [] s1 H ⟨[.ref a], []⟩ [.ref a] [.ref a] _ _ hr rfl e0 (bd s1 (.ref a)) (.cons rfl .nil) (hsp H hO hS)) fun r s' z => ?_
    match r, z with
    | .error e, z => exact (hCX H e s' z).elim
    | .ok .next, z => exact False.elim z
    | .ok .brk, z => exact False.elim z
    | .ok .cont, z => exact False.elim z
    | .ok (.ret u), ⟨v, H', os, bare, un, ok', rel, q⟩ =>
      obtain rfl : v = V.bl true := q
      obtain rfl : u = Value.bool true := rel
      refine ⟨rfl, OldK.of_keep fun b o e => ?_, os, bare⟩
      rcases hO b with z | ⟨ob, xs, z⟩
      · exact un.keep b o e z (fun q => absurd (show b ∈ ([] : List Addr) from q) (by simp)) (by simp)
      · have e1 := (ok b _ z).1
        have e2 := (ok' b _ (un.frzs b ob _ z)).1
        rw [e] at e1
        cases e1
        exact e2
  cases q : K.lookup a with
  | some o =>
    have e := kin a o q
    rw [at0] at e
    cases e
    refine core (fun _ => none) (fun _ => .inl rfl) (.inr ⟨_, vs.toArray, _, q, rfl, rfl, rfl, by rw [List.size_toArray, hi.length]; exact hl, by simpa using rv⟩) (fun b u z => nomatch z) (fun b z => absurd rfl z) fun z => absurd rfl z
  | none =>
    have self : ∀ {b : Addr} {u : HO}, (if b = a then some (HO.frz { cls := .type "list", data := .seq vs.toArray } (.lst (ns.map V.int))) else none) = some u → b = a ∧ u = .frz { cls := .type "list", data := .seq vs.toArray } (.lst (ns.map V.int)) := fun {b u} z => by
      by_cases c : b = a
      · rw [if_pos c] at z
        exact ⟨c, (Option.some.inj z).symm⟩
      · rw [if_neg c] at z
        cases z
    refine core (fun b => if b = a then some (.frz { cls := .type "list", data := .seq vs.toArray } (.lst (ns.map V.int))) else none) (fun b => ?_) (.inl (.inr ⟨_, if_pos rfl⟩)) (fun b u z => ?_) (fun b z => ?_) fun _ => q
    · by_cases c : b = a
      · exact .inr ⟨_, _, if_pos c⟩
      · exact .inl (if_neg c)
    · obtain ⟨rfl, rfl⟩ := self z
      exact ⟨at0, by rw [List.length_map]; exact hl, vs, _, rv, at0⟩
    · by_cases c : b = a
      · exact c
      · exact absurd (if_neg c) z
end
/-- the goal that k_head leaves, from the law's promise -/
theorem walk_ofG {l : PySem.W.OpenLaw} {n k : Nat} {q : Program} {loose : List Str} {XP : (Str → Option Value) → Heap → Prop} {YP : World → Heap → Prop} {d : DefRec} {K : Params → PySem.W.Frag} {sp : World → Sp} {x : Str}
    (hn : l.most = some n) (hn2 : n ≤ sizeLine) (hdf : d.params.defaults = []) (hr : Room k callerA) (hY : ∀ (w : World) (h : Heap), YP w h → (K w.params).In h)
    (F : ∀ (w : World) (mg : Str → Option Value) (fa : Addr) (h : Heap), (K w.params).In h → h.Ns mainGlobals mg → XP mg h → mg d.name = some (.ref fa) →
      ∃ fd : FuncData, (∀ (s : Shared) (u : Value), BindsTo s fd ⟨[u], []⟩ [(x, u)]) ∧ ∀ base : Heap, (K w.params).In base → base.Ns mainGlobals mg → FnG l.prog w (K w.params) mg base CX0 k fa fd [x] (sp w))
    (hsp : ∀ (w : World) (H : Hp) (a : Addr) (ns : List Int), ns.length ≤ n → Only H → SqL (K w.params) H a (ns.map V.int) → sp w [.ref a] H (fun v _ => v = .bl true) fun _ _ _ => False) :
    PySem.W.WalkO q loose XP YP l.row.toRowW d [] (fun f vs => PySem.call f vs) := by
  refine Att.attach_call hn hdf fun w s0 s1 mg mb fa o pm cd doc a vs ns G Y ho hd hcd hmg hobj hints hlen hg => ?_
  have kin := hY w _ Y
  obtain ⟨fd, bd, hF⟩ := F w mg fa _ kin G.T.g G.X hmg
  exact law_callG kin G.T.g G.T.b G.T.builtins G.T.nolimit hg hobj hints (Nat.le_trans hlen hn2) hr hF bd (fun H hO hS => hsp w H a ns hlen hO hS) fun _ _ _ z => z
end Mk

set_option Elab.async false
set_option linter.all false
set_option maxRecDepth 100000
set_option maxHeartbeats 4000000
namespace Mk
open PySem L2

abbrev sIsNum : Stmt := top 8
abbrev sIsNumW : Stmt := top 9
abbrev sChkNum : Stmt := top 10
abbrev sChkSigns : Stmt := top 16

abbrev LG : Int := 999999999999999999999999999999999999999999999999999999999999
def nuB (i : Int) : Bool := decide (-LG ≤ i) && decide (i ≤ LG)
def nwB (i a b : Int) : Bool := nuB i && (decide (a ≤ i) && decide (i ≤ b))
def spIsNum : Sp := fun vs H Q _ => ∃ i : Int, vs = [.int i] ∧ Q (.bl (nuB i)) H
def spIsNumW : Sp := fun vs H Q _ => ∃ i a b : Int, vs = [.int i, .int a, .int b] ∧ Q (.bl (nwB i a b)) H
def spChkNum : Sp := fun vs H Q _ => ∃ i a b : Int, vs = [.int i, .int a, .int b] ∧ nwB i a b = true ∧ Q .non H
/-- ascending unlike signs -/
def AscSg (zs : List Str) : Prop := zs ≠ [] ∧ (∀ z ∈ zs, sgB z = true) ∧ zs.Pairwise (fun x y => cs x < cs y)
def spChkSigns : Sp := fun vs H Q _ => ∃ (t : Addr) (zs : List Str), vs = [.ref t] ∧ H t = some (.tup (zs.map V.str)) ∧ AscSg zs ∧ zs.length ≤ 5 ∧ ∀ H', Same H H' → Q .non H'
structure Nn (mg : Str → Option Value) : Prop where
  bool : mg "bool" = none
  lg : ∃ t, mg "LARGEST" = some (.int LG t)
section
variable {P : Program} {w : World} {K : PySem.W.Frag} {mg : Str → Option Value} {base : Heap}
theorem scIsNum : FnScope ["value"] ["value"] (defScope sIsNum) := ⟨rfl, rfl, rfl, by decide +kernel, rfl, by decide +kernel, by decide +kernel⟩
theorem ok_isNum {f : Addr} {fd : FuncData} (F : Fun K "is_number" "is_number" sIsNum f fd) (B : Bn mg) (W : Wn mg) (N : Nn mg) : FnOk P w K mg base CX0 1 f fd ["value"] spIsNum := by
  obtain ⟨t, hL⟩ := N.lg
  refine F.ok scIsNum (fun vs H Q E h => ?_) (fun cdv A outer s H vs Q E hr h => ?_)
  · obtain ⟨i, rfl, _⟩ := h
    rfl
  · obtain ⟨i, rfl, q⟩ := h
    refine ⟨_, pss_cons (ps_if (PW.pt (pw_or (pt_val (pe_callB call_isi (by rfl) W.isi (by decide +kernel) (pa_cons (pv 0) (pa_cons (pe_bltn (v := .ty "bool") (u := .type "bool") (by rfl) N.bool (by decide +kernel) rfl) pa_nil))))
        (pw_or1 (pt_not (pt_val (pe_callB call_isi (by rfl) W.isi (by decide +kernel) (pa_cons (pv 0) (pa_cons (pe_bltn (v := .ty "int") (u := .type "int") (by rfl) B.int (by decide +kernel) rfl) pa_nil)))))))) (pss_one (ps_ret pe_bl)) pss_nil)
      (pss_one (ps_ret (pe_chain op_le op_le (pe_un un_neg (pe_glob (v := .int LG) (by rfl) hL ⟨_, rfl⟩)) (pv 0) (pe_glob (v := .int LG) (by rfl) hL ⟨_, rfl⟩)))), ?_⟩
    refine ⟨_, rfl, _, _, _, _, false, rfl, .ty "bool", .base (.int i), kit_ty (by decide +kernel), _, rfl, iteF ?_⟩
    refine ⟨_, rfl, _, _, _, _, true, rfl, .ty "int", .base (.int i), kit_ty (by decide +kernel), _, rfl, iteF ?_⟩
    refine ⟨_, rfl, _, rfl, _, _, rfl, rfl, _, rfl, ?_⟩
    by_cases h1 : -LG ≤ i
    · rw [decide_eq_true h1]
      refine iteT ⟨_, _, rfl, rfl, ?_⟩
      have e : decide (i ≤ LG) = nuB i := by
        unfold nuB
        rw [decide_eq_true h1, Bool.true_and]
      rw [← e] at q
      exact q
    · rw [decide_eq_false h1]
      have e : nuB i = false := by
        unfold nuB
        rw [decide_eq_false h1, Bool.false_and]
      rw [e] at q
      exact iteF q
theorem scIsNumW : FnScope ["value", "least", "most"] ["value", "least", "most"] (defScope sIsNumW) := ⟨rfl, rfl, rfl, by decide +kernel, rfl, by decide +kernel, by decide +kernel⟩
theorem ok_isNumW {f : Addr} {fd : FuncData} (F : Fun K "is_number_within" "is_number_within" sIsNumW f fd) (J : Cd P w K mg base 1 "is_number" ["value"] spIsNum) : FnOk P w K mg base CX0 2 f fd ["value", "least", "most"] spIsNumW := by
  obtain ⟨j, dj, G, gm, gk, gb⟩ := J.ex
  refine F.ok scIsNumW (fun vs H Q E h => ?_) (fun cdv A outer s H vs Q E hr h => ?_)
  · obtain ⟨i, a, b, rfl, _⟩ := h
    rfl
  · obtain ⟨i, a, b, rfl, q⟩ := h
    refine ⟨_, pss_one (ps_ret (pe_and (pe_call G hr (by rfl) gm gk gb .nil pass0 (pa_cons (pv 0) pa_nil)) (pe_one (pe_chain op_le op_le (pv 1) (pv 0) (pv 2))))), ?_⟩
    refine ⟨_, rfl, i, rfl, _, rfl, ?_⟩
    unfold nwB at q
    cases e : nuB i with
    | false =>
      rw [e, Bool.false_and] at q
      exact iteF q
    | true =>
      rw [e, Bool.true_and] at q
      refine iteT ⟨_, rfl, _, rfl, _, _, rfl, rfl, _, rfl, ?_⟩
      by_cases h1 : a ≤ i
      · rw [decide_eq_true h1] at q ⊢
        rw [Bool.true_and] at q
        exact iteT ⟨_, rfl, _, _, rfl, rfl, q⟩
      · rw [decide_eq_false h1] at q ⊢
        exact iteF q
theorem scChkNum : FnScope ["given", "least", "most"] ["given", "least", "most"] (defScope sChkNum) := ⟨rfl, rfl, rfl, by decide +kernel, rfl, by decide +kernel, by decide +kernel⟩
theorem ok_chkNum {f : Addr} {fd : FuncData} (F : Fun K "check_number" "check_number" sChkNum f fd) (J : Cd P w K mg base 2 "is_number_within" ["value", "least", "most"] spIsNumW) : FnOk P w K mg base CX0 3 f fd ["given", "least", "most"] spChkNum := by
  obtain ⟨j, dj, G, gm, gk, gb⟩ := J.ex
  refine F.ok scChkNum (fun vs H Q E h => ?_) (fun cdv A outer s H vs Q E hr h => ?_)
  · obtain ⟨i, a, b, rfl, _⟩ := h
    rfl
  · obtain ⟨i, a, b, rfl, hn, q⟩ := h
    refine ⟨_, pss_one (ps_if (pt_not (pt_val (pe_call G hr (by rfl) gm gk gb .nil pass0 (pa_cons (pv 0) (pa_cons (pv 1) (pa_cons (pv 2) pa_nil)))))) (pss_one ps_never) pss_nil), ?_⟩
    refine ⟨_, rfl, _, rfl, _, rfl, i, a, b, rfl, _, rfl, ?_⟩
    rw [hn]
    exact iteF q

theorem sorted_same {le : Str → Str → Bool} (tr : ∀ a b c, le a b = true → le b c = true → le a c = true) (tot : ∀ a b, (le a b || le b a) = true) (anti : ∀ a b, le a b = true → le b a = true → a = b) {l zs : List Str} (p : l.Perm zs) (s : zs.Pairwise (fun x y => le x y = true)) : l.mergeSort le = zs := by
  have s1 := List.pairwise_mergeSort tr tot l
  have p1 := (List.mergeSort_perm l le).trans p
  exact List.Perm.eq_of_pairwise (fun a b _ _ h1 h2 => anti a b h1 h2) s1 s p1
theorem dpAll_str {K : PySem.W.Frag} {H : Hp} : ∀ zs : List Str, DpAll K H (zs.map V.str) (zs.map PyData.str)
  | [] => .nil
  | z :: zs => .cons (.str z) (dpAll_str zs)
theorem lay_strs : ∀ zs : List Str, (∀ z ∈ zs, PyData.strOk z = true) → PyData.canLayAll0 (zs.map PyData.str) = true
  | [], _ => by simp [PyData.canLayAll0]
  | z :: zs, h => by simp [PyData.canLayAll0, PyData.canLay0, h z List.mem_cons_self, lay_strs zs fun y hy => h y (List.mem_cons_of_mem _ hy)]
theorem depth_strs : ∀ zs : List Str, PyData.depthAll (zs.map PyData.str) = 0
  | [] => by simp [PyData.depthAll]
  | z :: zs => by simp [PyData.depthAll, PyData.depth, depth_strs zs]
theorem shaped_strs {zs : List Str} (h : ∀ z ∈ zs, PyData.strOk z = true) : SeqAt.shaped (.tuple (zs.map PyData.str)) = true := by
  unfold SeqAt.shaped
  simp [PyData.canLay0, PyData.depth, lay_strs zs h, depth_strs]
theorem ok_of_wB {z : Str} (h : wB z = true) : PyData.strOk z = true := by
  unfold PyData.strOk
  rw [← Array.all_toList]
  refine List.all_eq_true.mpr fun c hc => ?_
  have := isW_of h c hc
  simp
  omega
theorem byCs_anti (a b : Str) (h1 : byCs a b = true) (h2 : byCs b a = true) : a = b := by
  simp only [byCs, decide_eq_true_eq] at h1 h2
  exact cs_inj (List.le_antisymm h1 h2)
theorem nodup_lt {zs : List Str} (h : zs.Pairwise (fun x y => cs x < cs y)) : zs.Nodup := List.Pairwise.imp (fun {a b} h (e : a = b) => List.lt_irrefl (cs b) (by rw [e] at h; exact h)) h
theorem scChkSigns : FnScope ["signs", "sign"] ["signs"] (defScope sChkSigns) := ⟨rfl, rfl, rfl, by decide +kernel, rfl, by decide +kernel, by decide +kernel⟩
theorem ok_chkSigns {f : Addr} {fd : FuncData} (F : Fun K "check_signs" "check_signs" sChkSigns f fd) (B : Bn mg) (W : Wn mg) (O : On mg) (J : Cd P w K mg base 1 "is_sign" ["value"] (spJudge sgB K)) : FnOk P w K mg base CX0 2 f fd ["signs"] spChkSigns := by
  obtain ⟨j, dj, G, gm, gk, gb⟩ := J.ex
  refine F.ok scChkSigns (fun vs H Q E h => ?_) (fun cdv A outer s H vs Q E hr h => ?_)
  · obtain ⟨t, zs, rfl, _⟩ := h
    rfl
  · obtain ⟨t, zs, rfl, ht, ⟨z0, zg, zp⟩, zl, q⟩ := h
    have hu : A.units + 3 + 60 < cLine := by
      have h2 : A.units + 3 + 16 * 1 + 200 < cLine := hr.un
      omega
    have hu2 : A.units + 3 + 64 < cLine := by
      have h2 : A.units + 3 + 16 * 1 + 200 < cLine := hr.un
      omega
    refine ⟨_, pss_cons (ps_if (PW.pt (pw_or (pt_not (pt_val (pe_callB call_isi (by rfl) W.isi (by decide +kernel) (pa_cons (pv 0) (pa_cons (pe_bltn (v := .ty "tuple") (u := .type "tuple") (by rfl) O.tuple (by decide +kernel) rfl) pa_nil)))))
        (pw_or1 (pt_not (pt_truth (pv 0) (by intro _; rfl)))))) (pss_one ps_never) pss_nil)
      (pss_cons (ps_if (pt_not (pt_val (pe_callB (cr_all rfl) (by rfl) O.all (by decide +kernel) (pa_cons (pe_lc (own := [("sign", 1)]) (g := gName 1) (tt := tYes) rfl scChkSigns.nd (pi_tup (pv 0)) (blkOk_by (N := ["signs", "sign"]) (sc := defScope sChkSigns) (by decide +kernel))
          (fun _ _ _ _ _ => pg_name (i := 1) scChkSigns.nd rfl (Or.inl rfl)) (fun _ _ _ _ _ => pts_nil) (fun _ _ _ _ _ => pe_call G hr (by rfl) gm gk gb .nil pass0 (pa_cons (pv 1) pa_nil))) pa_nil)))) (pss_one ps_never) pss_nil)
      (pss_one (ps_if (pt_cmpR (op_neD hu2) (pv 0) (pe_callTy call_tuple_of (by rfl) O.tuple (by decide +kernel) (pa_cons (pe_callB (cr_sortedSX rfl hu) (by rfl) O.sorted (by decide +kernel) (pa_cons (pe_callTy (cr_setX rfl) (by rfl) O.set (by decide +kernel) (pa_cons (pv 0) pa_nil)) pa_nil)) pa_nil)) (nomark _))
        (pss_one ps_never) pss_nil))), ?_⟩
    refine ⟨_, rfl, _, _, _, _, true, rfl, .ty "tuple", .base (.tup ht), kit_ty (by decide +kernel), _, rfl, iteF ?_⟩
    have zo : ∀ z ∈ zs, PyData.strOk z = true := fun z hz => ok_of_wB (by
      have := zg z hz
      unfold sgB at this
      rw [Bool.and_eq_true] at this
      exact this.2)
    have zne : (!(zs.map V.str).isEmpty) = true := by
      cases zs with
      | nil => exact absurd rfl z0
      | cons a l => rfl
    refine ⟨_, rfl, _, .inr (.inl ⟨_, SqT.of ht, rfl⟩), ?_⟩
    rw [zne]
    refine iteF ?_
    refine ⟨_, rfl, t, rfl, ⟨_, SqT.of ht⟩, fun D hD => lc_it (walk_tup (K := K) (a := t) (xs := zs.map V.str)) (fun i H1 => Same H H1 ∧ H1 D = some (.lst ((List.replicate i true).map V.bl))) ⟨Same.new hD, upd_same⟩ (fun i H1 _ h1 => SqT.of (h1.1 _ _ ht)) ?_ ?_⟩
    · rintro i x H1 H2 hi ⟨hS, hL⟩ ⟨rfl, hx⟩
      rw [List.length_map] at hi
      have ex : x = V.str zs[i] := by
        rw [List.getElem?_map, List.getElem?_eq_getElem hi] at hx
        exact (Option.some.inj hx).symm
      subst ex
      have w1 := zg _ (List.getElem_mem hi)
      have w2 : zs[i].length ≤ 100000 := by
        unfold sgB at w1
        rw [Bool.and_eq_true, decide_eq_true_eq] at w1
        omega
      refine ⟨rfl, _, rfl, _, rfl, .inl ⟨_, rfl, w2, _, hL, ?_, ?_, ?_⟩⟩
      · rw [List.length_map, List.length_replicate]
        exact Nat.lt_of_lt_of_le (by omega : i < 4000) (by decide)
      · exact fun b o e => by
          rw [upd_ne (ne_of_none e hD)]
          exact hS b o e
      · rw [upd_same, w1, List.replicate_succ', List.map_append]
        rfl
    · rintro H1 ⟨hS, hL⟩
      rw [List.length_map] at hL
      refine ⟨_, _, rfl, SqL.of hL, _, rfl, ?_⟩
      have ea : (List.replicate zs.length true).all id = true := List.all_eq_true.mpr fun b hb => (List.mem_replicate.mp hb).2
      rw [ea]
      refine iteF ?_
      refine ⟨_, rfl, _, rfl, t, zs, rfl, SqT.of (hS _ _ ht), by unfold scanBound; omega, fun p l hp nd hm hlen => ?_⟩
      refine ⟨p, l, rfl, upd_same, by unfold scanBound; omega, fun ys p2 perm hp2 => ?_⟩
      have pz : ys.Perm zs := (perm.trans ((List.perm_ext_iff_of_nodup nd (nodup_lt zp)).mpr hm))
      have es : ys.mergeSort byCs = zs := sorted_same byCs_trans byCs_total byCs_anti pz (zp.imp fun {a b} h => by
        simp only [byCs, decide_eq_true_eq]
        exact List.le_of_lt h)
      rw [es]
      refine ⟨p2, _, rfl, .inl ⟨SqL.of upd_same, fun p3 hp3 => ?_⟩⟩
      have s3 : Same H (upd (upd (upd H1 p (SetSO P w p l)) p2 (.lst (zs.map V.str))) p3 (.tup (zs.map V.str))) := ((hS.trans (Same.new hp)).trans (Same.new hp2)).trans (Same.new hp3)
      refine ⟨.tuple (zs.map PyData.str), .tuple (zs.map PyData.str), .tup (SqT.of (s3 _ _ ht)) (dpAll_str zs), .tup (SqT.of upd_same) (dpAll_str zs), shaped_strs zo, shaped_strs zo, _, rfl, ?_⟩
      rw [SeqAt.eqv_refl _ (SeqAt.canLay_of_shaped (shaped_strs zo))]
      exact iteF (q _ s3)
end
end Mk

set_option Elab.async false
set_option linter.all false
set_option maxRecDepth 100000
set_option maxHeartbeats 4000000
namespace Mk
open PySem L2

abbrev sAreT : Stmt := top 24
abbrev sIsST : Stmt := top 25
abbrev sHasP : Stmt := top 26
abbrev sAsc : Stmt := top 19
abbrev sPairs : Stmt := top 28

/-- an expression that is never reached -/
def tNev : TE := fun _ _ _ => False
section
variable {X : Cx}
theorem pe_nev (e : Expr) : PE X e tNev := ⟨fun _ _ _ _ _ _ h => h.elim⟩
end
/-- a walk's turns, whatever a turn does -/
theorem wk_any {J : It} {n : Nat} {Gd : Hp → Prop} {Y : Nat → Hp → V → Hp → Prop} (wk : Walk J n Gd Y) {Body : V → Hp → (Hp → Prop) → Prop} {H0 : Hp} {Qd : Hp → Prop} (Pv : Nat → Hp → Prop) (h0 : Pv 0 H0) (hG : ∀ i H, i ≤ n → Pv i H → Gd H)
    (hs : ∀ i x H H', i < n → Pv i H → Y i H x H' → Body x H' (Pv (i + 1))) (hd : ∀ H, Pv n H → Qd H) :
    ∃ W : Nat → Nat → Hp → Prop, (∃ m, W 0 m H0) ∧ ∀ i m H, W i m H → (J.stop i H ∧ Qd H) ∨ (J.go i H ∧ ∃ Nx : Hp → Prop, (∀ H', Nx H' → ∃ m', m' < m ∧ W (i + 1) m' H') ∧ ∀ x H', J.yld i H x H' → Body x H' Nx) := by
  refine ⟨fun i m H => m = n - i ∧ i ≤ n ∧ Pv i H, ⟨n, by simp, Nat.zero_le _, h0⟩, ?_⟩
  rintro i m H ⟨rfl, le, p⟩
  by_cases lt : i < n
  · exact .inr ⟨wk.goes i H lt (hG i H le p), Pv (i + 1), fun H' p' => ⟨n - (i + 1), by omega, rfl, lt, p'⟩, fun x H' y => hs i x H H' lt p (wk.yields i H x H' lt (hG i H le p) y)⟩
  · obtain rfl : i = n := by omega
    exact .inl ⟨wk.stops H (hG _ H le p), hd H p⟩
theorem Same.upN {H H1 : Hp} {l : Addr} {o : HO} (a : Same H H1) (hl : H l = none) : Same H (upd H1 l o) := fun b u e => by
  rw [upd_ne (ne_of_none e hl)]
  exact a b u e

def spPairs1 : Sp := fun vs H Q _ => ∃ (t : Addr) (z : V), vs = [.ref t] ∧ H t = some (.tup [z]) ∧ ((∃ y, z = .str y)) ∧ ∀ H' p, Same H H' → H p = none → H' p = some (.lst []) → Q (.ref p) H'
def spHasP : Sp := fun vs H Q _ => ∃ (d : Addr) (m : Int) (kvs : List (Key × V)), vs = [.ref d, .int m] ∧ H d = some (.dK kvs) ∧ kvs.length ≤ 5 ∧ (∀ p ∈ kvs, ∃ i, p.2 = .int i ∧ nwB i 1 m = true) ∧ ∀ H', Same H H' → Q (.bl true) H'
def spIsST : Sp := fun vs H Q _ => ∃ (d : Addr) (kvs : List (Key × V)), vs = [.ref d] ∧ H d = some (.dK kvs) ∧ kvs ≠ [] ∧ kvs.length ≤ 5 ∧ (∀ p ∈ kvs, (∃ i, p.2 = .int i ∧ nwB i 1 9 = true) ∧ ∃ z, p.1 = .inr z ∧ sgB z = true) ∧ ∀ H', Same H H' → Q (.bl true) H'
def spAsc1 : Sp := fun vs H Q _ => ∃ (d : Addr) (kvs : List (Key × V)), vs = [.ref d] ∧ H d = some (.dK kvs) ∧ (kvs = [] ∨ ∃ z v, kvs = [(.inr z, v)]) ∧ ∀ H' D, Same H H' → H D = none → H' D = some (.dK kvs) → Q (.ref D) H'
structure Pn (mg : Str → Option Value) : Prop where
  dict : mg "dict" = none
  mp : ∃ t, mg "MAX_PRICE" = some (.int 9 t)
  ms : ∃ t, mg "MAX_SWAP_PRICE" = some (.int 18 t)
section
variable {P : Program} {w : World} {K : PySem.W.Frag} {mg : Str → Option Value} {base : Heap}
theorem scPairs : FnScope ["signs", "one", "other"] ["signs"] (defScope sPairs) := ⟨rfl, rfl, rfl, by decide +kernel, rfl, by decide +kernel, by decide +kernel⟩
theorem ok_pairs {f : Addr} {fd : FuncData} (F : Fun K "_pairs" "_pairs" sPairs f fd) : FnOk P w K mg base CX0 1 f fd ["signs"] spPairs1 := by
  refine F.ok scPairs (fun vs H Q E h => ?_) (fun cdv A outer s H vs Q E hr h => ?_)
  · obtain ⟨t, z, rfl, _⟩ := h
    rfl
  · obtain ⟨t, z, rfl, ht, ⟨y, rfl⟩, q⟩ := h
    refine ⟨_, pss_one (ps_ret (pe_lc2 (own := [("one", 1), ("other", 2)]) (vs1 := [2]) (g := gName 1) (g1 := gName 2) (tt := tYes) (wi1 := iTup K (tVar 0)) rfl scPairs.nd (pi_tup (pv 0)) (blkOk_by (N := ["signs", "one", "other"]) (sc := defScope sPairs) (by decide +kernel)) (by decide)
      (fun _ _ _ _ _ => pg_name (i := 1) scPairs.nd rfl (Or.inl rfl)) (fun _ _ _ _ _ => pts_nil) (fun _ _ _ _ _ => pi_tup (pv 0)) (fun _ _ _ _ _ => pg_name (i := 2) scPairs.nd rfl (Or.inl rfl))
      (fun _ _ _ _ _ => pts_one (pt_cmpR op_ne (pv 1) (pv 2) (nomark _))) (fun _ _ _ _ _ => pe_nev _))), ?_⟩
    refine ⟨_, rfl, t, rfl, ⟨_, SqT.of ht⟩, fun D hD => wk_any (walk_tup (K := K) (a := t) (xs := [V.str y])) (fun _ H1 => Same H H1 ∧ H1 D = some (.lst [])) ⟨Same.new hD, upd_same⟩ (fun i H1 _ h1 => SqT.of (h1.1 _ _ ht)) ?_ (fun H1 h1 => q _ _ h1.1 hD h1.2)⟩
    rintro i x H1 H2 hi ⟨hS, hL⟩ ⟨rfl, hx⟩
    have ex : x = V.str y := by
      obtain rfl : i = 0 := by simpa using hi
      exact (Option.some.inj hx).symm
    subst ex
    refine ⟨rfl, _, rfl, t, rfl, ⟨_, SqT.of (hS _ _ ht)⟩, wk_any (walk_tup (K := K) (a := t) (xs := [V.str y])) (fun _ H3 => Same H H3 ∧ H3 D = some (.lst [])) ⟨hS, hL⟩ (fun i H3 _ h3 => SqT.of (h3.1 _ _ ht)) ?_ (fun _ h3 => h3)⟩
    rintro j x H3 H4 hj ⟨hS3, hL3⟩ ⟨rfl, hx⟩
    have ex : x = V.str y := by
      obtain rfl : j = 0 := by simpa using hj
      exact (Option.some.inj hx).symm
    subst ex
    refine ⟨rfl, _, rfl, _, rfl, rfl, _, rfl, ?_⟩
    rw [decide_eq_true (rfl : V.str y = V.str y)]
    exact iteF ⟨hS3, hL3⟩
theorem scHasP : FnScope ["value", "most", "price"] ["value", "most"] (defScope sHasP) := ⟨rfl, rfl, rfl, by decide +kernel, rfl, by decide +kernel, by decide +kernel⟩
theorem ok_hasP {f : Addr} {fd : FuncData} (F : Fun K "_has_prices" "_has_prices" sHasP f fd) (W : Wn mg) (O : On mg) (N : Pn mg) (J : Cd P w K mg base 2 "is_number_within" ["value", "least", "most"] spIsNumW) : FnOk P w K mg base CX0 3 f fd ["value", "most"] spHasP := by
  obtain ⟨j, dj, G, gm, gk, gb⟩ := J.ex
  refine F.ok scHasP (fun vs H Q E h => ?_) (fun cdv A outer s H vs Q E hr h => ?_)
  · obtain ⟨d, m, kvs, rfl, _⟩ := h
    rfl
  · obtain ⟨d, m, kvs, rfl, hd, hl, hv, q⟩ := h
    refine ⟨_, pss_cons (ps_if (pt_not (pt_val (pe_callB call_isi (by rfl) W.isi (by decide +kernel) (pa_cons (pv 0) (pa_cons (pe_bltn (v := .ty "dict") (u := .type "dict") (by rfl) N.dict (by decide +kernel) rfl) pa_nil))))) (pss_one (ps_ret pe_bl)) pss_nil)
      (pss_one (ps_ret (pe_callB (cr_all rfl) (by rfl) O.all (by decide +kernel) (pa_cons (pe_lock (pe_lc (own := [("price", 2)]) (g := gName 2) (tt := tYes) rfl scHasP.nd (pi_values (pv 0)) (blkOk_by (N := ["value", "most", "price"]) (sc := defScope sHasP) (by decide +kernel))
          (fun _ _ _ _ _ => pg_name (i := 2) scHasP.nd rfl (Or.inl rfl)) (fun _ _ _ _ _ => pts_nil) (fun _ _ _ _ _ => pe_call G hr (by rfl) gm gk gb .nil pass0 (pa_cons (pv 2) (pa_cons pe_int (pa_cons (pv 1) pa_nil)))))) pa_nil)))), ?_⟩
    refine ⟨_, rfl, _, _, _, _, true, rfl, .ty "dict", .base (.dK hd), kit_ty (by decide +kernel), _, rfl, iteF ?_⟩
    refine ⟨d, _, hd, trivial, fun od => ?_⟩
    have dne : ∀ D, upd H d (.frz od (.dK kvs)) D = none → D ≠ d ∧ H D = none := fun D hD => by
      have ne : D ≠ d := fun e => by
        rw [e, upd_same] at hD
        cases hD
      rw [upd_ne ne] at hD
      exact ⟨ne, hD⟩
    refine ⟨_, rfl, d, od, kvs, rfl, upd_same, fun D hD => wk_any (walk_values (d := d) (o := od) (kvs := kvs)) (fun i H1 => (∀ b o, b ≠ d → H b = some o → H1 b = some o) ∧ H1 d = some (.frz od (.dK kvs)) ∧ H1 D = some (.lst ((List.replicate i true).map V.bl))) ?_ (fun i H1 _ h1 => h1.2.1) ?_ ?_⟩
    · obtain ⟨ne, h0⟩ := dne D hD
      refine ⟨fun b o hb e => ?_, ?_, upd_same⟩
      · rw [upd_ne (ne_of_none e h0), upd_ne hb]
        exact e
      · rw [upd_ne ne.symm]
        exact upd_same
    · rintro i x H1 H2 hi ⟨hB, hd1, hL⟩ ⟨rfl, k, hx⟩
      obtain ⟨ne, h0⟩ := dne D hD
      obtain ⟨z, ez, hz⟩ := hv _ (List.mem_of_getElem? hx)
      simp only at ez
      subst ez
      refine ⟨rfl, _, rfl, _, rfl, z, 1, m, rfl, _, hL, ?_, fun b o hb e => ?_, ?_, ?_⟩
      · rw [List.length_map, List.length_replicate]
        exact Nat.lt_of_lt_of_le (by omega : i < 4000) (by decide)
      · rw [upd_ne (ne_of_none e h0)]
        exact hB b o hb e
      · rw [upd_ne ne.symm]
        exact hd1
      · rw [upd_same, hz, List.replicate_succ', List.map_append]
        rfl
    · rintro H1 ⟨hB, hd1, hL⟩
      obtain ⟨ne, h0⟩ := dne D hD
      have ea : (List.replicate kvs.length true).all id = true := List.all_eq_true.mpr fun b hb => (List.mem_replicate.mp hb).2
      refine ⟨hd1, D, _, rfl, SqL.of (by rw [upd_ne ne]; exact hL), ?_⟩
      rw [ea]
      refine q _ fun b o e => ?_
      by_cases hb : b = d
      · subst hb
        rw [hd] at e
        cases e
        exact upd_same
      · rw [upd_ne hb]
        exact hB b o hb e
end
end Mk

set_option Elab.async false
set_option linter.all false
set_option maxRecDepth 100000
set_option maxHeartbeats 4000000
namespace Mk
open PySem PySem.Spec PyProof.Rows L2

section
variable {prog : Program} {w : World} {A : Around} {E : Value → Shared → Prop} {s : Shared} {r d : Addr} {n : Nat} {Pi : Nat → Value → Prop} {OK : Heap → Prop}
theorem new_tuple_d {Q1 : Value → Shared → Prop} (Kd : PySem.W.KdlSrc prog w "dict" r d n Pi OK) (hh : A.handled = none) (hok : OK s.heap) (hn : n ≤ sizeLine) (hT : s.TypeIs (.ref r) "dict")
    (h : ∀ (h' : Heap) (tk : Nat) (acc : Array Value), (∀ b o, s.heap.get? b = some o → h'.get? b = some o) → ItemsOf Pi acc n → Q1 (.ref h'.objs.size) { s with heap := h'.push { cls := .type "tuple", data := .seq acc }, toks := tk }) :
    codeAny (model prog w) A (.call (.builtin "tuple.__new__") ⟨[.type "tuple", .ref r], []⟩) (wants Q1 E) s := by
  refine codeAny_of_tree ?_
  show wpAny _ A.in1 (do checkBuiltinCall "tuple.__new__" ⟨[.type "tuple", .ref r], []⟩; again (.builtin "tuple.__new__" ⟨[.type "tuple", .ref r], []⟩)) _ _ s
  refine wpAny_bind (wpAny_of_eq (F.newCall_tuple_1 _) (wpAny_pure ⟨plainId_quiet F.plain_tuple_new _, codeAny_builtin F.entry_tuple_new ?_⟩))
  rw [Around.under_plainId F.plain_tuple_new _]
  have s1 := sub_tuple_self
  have s2 := init_tuple_lookup
  have s3 := madeHere_tuple
  have h1 : A.in1.handled = none := hh
  wp_walk using wpAny_typeOf hT, PySem.W.kdu_collect (A := A.in1) Kd h1 hok hn
  intro h' tk acc k it
  show wpAny _ _ (Builtin.Tuple.tupleExact acc.toList.toArray >>= fun v => ret v) _ _ _
  unfold Builtin.Tuple.tupleExact
  have e : acc.toList.toArray = acc := by simp
  rw [e]
  refine wpAny_bind (wpAny_newObj_type ?_ (by show acc.size ≤ sizeLine; rw [it.1]; exact hn))
  exact wpAny_pure (h h' tk acc k it)
theorem call_tuple_d {Q : Value → Shared → Prop} (Kd : PySem.W.KdlSrc prog w "dict" r d n Pi OK) (hh : A.handled = none) (hok : OK s.heap) (hn : n ≤ sizeLine) (hT : s.TypeIs (.ref r) "dict")
    (h : ∀ (h' : Heap) (tk : Nat) (acc : Array Value), (∀ b o, s.heap.get? b = some o → h'.get? b = some o) → ItemsOf Pi acc n → Q (.ref h'.objs.size) { s with heap := h'.push { cls := .type "tuple", data := .seq acc }, toks := tk }) :
    wpAny (model prog w) A (call (.type "tuple") [.ref r]) Q E s := by
  refine callType_codes (Q₁ := fun v s1 => s1.TypeIs v "tuple" ∧ Q v s1) F.called_tuple (F.typeCall_tuple_1 _) F.entry_object_init
    (new_tuple_d (A := A.in1) Kd hh hok hn hT fun h' tk acc k it => ⟨⟨_, Heap.get?_push_size _ rfl, rfl⟩, h h' tk acc k it⟩) fun v s1 z => ?_
  exact ⟨z.1, F.args_object_init_2 v _, object_init_meets F.called_tuple.init.lookup F.called_tuple.made (by decide) prog w A.in1 _ s1 ⟨z.1, rfl, z.2⟩⟩
end
/-- tuple(d): its keys -/
def rTupD : List V → Hp → VK → Prop := fun xs H Q => ∃ (p : Addr) (kvs : List (Key × V)), xs = [.ref p] ∧ H p = some (.dK kvs) ∧ ∀ q, H q = none → Q (.ref q) (upd H q (.tup (kvs.map fun kv => kV kv.1)))
theorem cr_tupD {X : Cx} (hc : X.calm = true) : CallR X (.type "tuple") rTupD := by
  intro pins s σ H xs us Q I r h
  obtain ⟨p, kvs, rfl, hk, q⟩ := h
  rw [Vals.ref1 r]
  obtain ⟨z, lo, vs, rk, hd⟩ := (show ObjOk X.prog X.w H s.heap p (.dK kvs) from I.hok p _ hk)
  obtain ⟨ep, hat⟩ := hd.dictAt
  have hl : kvs.length = vs.length := Paired.length rk
  have hT : s.TypeIs (.ref p) "dict" := by
    obtain ⟨o, es, ep2, e, ex, _⟩ := hd
    exact ⟨o, e, ex.1⟩
  refine call_tuple_d (PySem.W.kdl_dict (knd := mixKind X.prog X.w) (kvs := vs) (ep := ep) lo) (I.ok.hd hc) hat (by rw [← hl]; exact z) hT fun h' tk acc k it => ?_
  have I1 : Inv X pins σ H { s with heap := h', toks := tk } := I.kept k
  have fr : H h'.objs.size = none := I1.hok.fresh (Nat.le_refl _)
  have el : acc.toList.length = acc.size := by simp
  have rv : Vals (kvs.map fun kv => kV kv.1) acc.toList := vals_of_at (by rw [List.length_map, el, it.1, hl]) fun j x v h1 h2 => by
    obtain ⟨ky, y, e1, e2⟩ := it.2 j v (by rw [← Array.getElem?_toList]; exact h2)
    have e3 : (kvs.map (·.1))[j]? = some ky := by
      rw [KV.keys rk, List.getElem?_map, e1]
      rfl
    have e4 : (kvs.map fun kv => kV kv.1) = (kvs.map (·.1)).map kV := by
      rw [List.map_map]
      rfl
    rw [e4, List.getElem?_map, e3] at h1
    obtain rfl : kV ky = x := Option.some.inj h1
    exact keyIs_rel e2
  refine ⟨.ref _, upd H h'.objs.size (.tup (kvs.map fun kv => kV kv.1)), I1.laid (t' := tk) (fun b o e => Heap.get?_push_of_some _ e) (Nat.le_refl _) ⟨by rw [List.length_map]; exact z, acc.toList, rv, ?_⟩, rfl, q _ fr⟩
  rw [Array.toArray_toList]
  exact ⟨_, Heap.get?_push_size _ rfl, rfl, _, rfl⟩
end Mk

set_option Elab.async false
set_option linter.all false
set_option maxRecDepth 100000
set_option maxHeartbeats 4000000
namespace Mk
open PySem L2 PyProof.Rows

/-- the entries of a dict, by keys -/
def ents (kvs : List (Key × V)) (ys : List Str) : List (Key × V) := ys.map fun k => (Sum.inr k, (valV kvs (Sum.inr k)).getD .non)
def spAsc : Sp := fun vs H Q _ => ∃ (d : Addr) (kvs : List (Key × V)) (ks : List Str), vs = [.ref d] ∧ H d = some (.dK kvs) ∧ kvs.map (·.1) = ks.map Sum.inr ∧ ks.Nodup ∧ ks.length < 64 ∧
  ∀ H' D ys, Same H H' → H D = none → H' D = some (.dK (ents kvs ys)) → ys.Perm ks → sortedS ys = true → Q (.ref D) H'
theorem val_at : ∀ {kvs : List (Key × V)} {k : Key}, k ∈ kvs.map (·.1) → ∃ v, valV kvs k = some v
  | [], _, h => nomatch h
  | p :: r, k, h => by
    by_cases e : p.1 = k
    · exact ⟨p.2, valV_pos e⟩
    · rw [valV_neg e]
      rcases List.mem_cons.mp h with q | q
      · exact absurd q.symm e
      · exact val_at q
theorem ents_no {kvs : List (Key × V)} : ∀ {ys : List Str} {k : Str}, k ∉ ys → valV (ents kvs ys) (Sum.inr k) = none
  | [], _, _ => rfl
  | y :: ys, k, h => by
    have ne : ¬ (Sum.inr y : Key) = Sum.inr k := fun e => h (by rw [Sum.inr.inj e]; exact List.mem_cons_self)
    exact (valV_neg ne).trans (ents_no fun q => h (List.mem_cons_of_mem _ q))
theorem ents_put {kvs : List (Key × V)} {ys : List Str} {k : Str} {v : V} (h : k ∉ ys) (hv : valV kvs (Sum.inr k) = some v) : putK (ents kvs ys) (Sum.inr k) v = ents kvs (ys ++ [k]) := by
  rw [putK_new v (ents_no h)]
  unfold ents
  rw [List.map_append]
  simp [hv]
section
variable {P : Program} {w : World} {K : PySem.W.Frag} {mg : Str → Option Value} {base : Heap}
theorem scAsc : FnScope ["table", "key"] ["table"] (defScope sAsc) := ⟨rfl, rfl, rfl, by decide +kernel, rfl, by decide +kernel, by decide +kernel⟩
theorem ok_asc {f : Addr} {fd : FuncData} (F : Fun K "ascending_dict" "ascending_dict" sAsc f fd) (O : On mg) : FnOk P w K mg base CX0 1 f fd ["table"] spAsc := by
  refine F.ok scAsc (fun vs H Q E h => ?_) (fun cdv A outer s H vs Q E hr h => ?_)
  · obtain ⟨d, kvs, ks, rfl, _⟩ := h
    rfl
  · obtain ⟨d, kvs, ks, rfl, hd, hks, nd, hl, q⟩ := h
    have hu := hu_of hr
    refine ⟨_, pss_one (ps_ret (pe_dc (own := [("key", 1)]) (g := gName 1) (tt := tYes) rfl scAsc.nd (pi_list (pe_callB (call_sortedD rfl) (by rfl) O.sorted (by decide +kernel) (pa_cons (pv 0) pa_nil))) (blkOk_by (N := ["table", "key"]) (sc := defScope sAsc) (by decide +kernel))
      (fun _ _ _ _ _ => pg_name (i := 1) scAsc.nd rfl (Or.inl rfl)) (fun _ _ _ _ _ => pts_nil) (fun _ _ _ _ _ => pv 1) (fun _ _ _ _ _ => pe_dget hu (pv 0) (pv 1) (fun _ _ => rfl)))), ?_⟩
    refine ⟨_, rfl, d, kvs, ks, rfl, .inl hd, hks, hl, fun ys p perm so hp => ?_⟩
    have ndy : ys.Nodup := perm.nodup_iff.mpr nd
    have lny : ys.length < 64 := by rw [perm.length_eq]; exact hl
    refine ⟨p, rfl, ⟨_, SqL.of upd_same⟩, fun D hD => wk_any (walk_list (K := K) (a := p) (xs := ys.map V.str)) (fun i H1 => Same H H1 ∧ H1 p = some (.lst (ys.map V.str)) ∧ H1 D = some (.dK (ents kvs (ys.take i)))) ?_ (fun i H1 _ h1 => SqL.of h1.2.1) ?_ ?_⟩
    · have ne : D ≠ p := fun e => by rw [e, upd_same] at hD; cases hD
      refine ⟨(Same.new hp).trans (Same.new hD), ?_, upd_same⟩
      rw [upd_ne ne.symm]
      exact upd_same
    · rintro i x H1 H2 hi ⟨hS, hP, hDc⟩ ⟨rfl, hx⟩
      have ne : D ≠ p := fun e => by rw [e, upd_same] at hD; cases hD
      have hD0 : H D = none := by rw [upd_ne ne] at hD; exact hD
      rw [List.length_map] at hi
      have ex : x = V.str ys[i] := by
        rw [List.getElem?_map, List.getElem?_eq_getElem hi] at hx
        exact (Option.some.inj hx).symm
      subst ex
      have mk : ys[i] ∈ ks := perm.mem_iff.mp (List.getElem_mem hi)
      obtain ⟨v, hv⟩ := val_at (kvs := kvs) (k := Sum.inr ys[i]) (by rw [hks]; exact List.mem_map.mpr ⟨_, mk, rfl⟩)
      have nin : ys[i] ∉ ys.take i := fun m => by
        obtain ⟨j, hj, e⟩ := List.getElem_of_mem m
        rw [List.length_take] at hj
        rw [List.getElem_take] at e
        have := (List.getElem_inj ndy).mp e
        omega
      refine ⟨rfl, _, rfl, _, rfl, _, rfl, d, v, rfl, .inl ⟨kvs, Sum.inr ys[i], .inl (hS _ _ hd), rfl, hv.symm⟩, _, Sum.inr ys[i], rfl, hDc, ?_, ?_⟩
      · unfold ents
        rw [List.length_map, List.length_take]
        exact Nat.lt_of_lt_of_le (by omega : min i ys.length < 4000) (by decide)
      · refine ⟨Same.upN hS hD0, ?_, ?_⟩
        · rw [upd_ne ne.symm]
          exact hP
        · rw [upd_same, ents_put nin hv, List.take_add_one, List.getElem?_eq_getElem hi]
          rfl
    · rintro H1 ⟨hS, hP, hDc⟩
      have ne : D ≠ p := fun e => by rw [e, upd_same] at hD; cases hD
      have hD0 : H D = none := by rw [upd_ne ne] at hD; exact hD
      rw [List.length_map, List.take_length] at hDc
      exact q _ _ _ hS hD0 hDc perm so
theorem scIsST : FnScope ["value", "sign"] ["value"] (defScope sIsST) := ⟨rfl, rfl, rfl, by decide +kernel, rfl, by decide +kernel, by decide +kernel⟩
theorem ok_isST {f : Addr} {fd : FuncData} (F : Fun K "_is_sign_table" "_is_sign_table" sIsST f fd) (O : On mg) (N : Pn mg) (J : Cd P w K mg base 3 "_has_prices" ["value", "most"] spHasP) (S : Cd P w K mg base 1 "is_sign" ["value"] (spJudge sgB K)) : FnOk P w K mg base CX0 4 f fd ["value"] spIsST := by
  obtain ⟨j, dj, G, gm, gk, gb⟩ := J.ex
  obtain ⟨c, dc, Gc, cm, ck, cb⟩ := S.ex
  obtain ⟨tm, hm9⟩ := N.mp
  refine F.ok scIsST (fun vs H Q E h => ?_) (fun cdv A outer s H vs Q E hr h => ?_)
  · obtain ⟨d, kvs, rfl, _⟩ := h
    rfl
  · obtain ⟨d, kvs, rfl, hd, k0, hl, hv, q⟩ := h
    have hu := hu_of hr
    refine ⟨_, pss_cons (ps_if (PW.pt (pw_or (pt_not (pt_val (pe_call G hr (by rfl) gm gk gb .nil pass0 (pa_cons (pv 0) (pa_cons (pe_glob (v := .int 9) (by rfl) hm9 ⟨_, rfl⟩) pa_nil)))))
        (pw_or1 (pt_not (pt_truth (pv 0) (by intro _; rfl)))))) (pss_one (ps_ret pe_bl)) pss_nil)
      (pss_one (ps_ret (pe_callB (cr_all rfl) (by rfl) O.all (by decide +kernel) (pa_cons (pe_lock (pe_lc (own := [("sign", 1)]) (g := gName 1) (tt := tYes) rfl scIsST.nd (pi_keys (pv 0)) (blkOk_by (N := ["value", "sign"]) (sc := defScope sIsST) (by decide +kernel))
          (fun _ _ _ _ _ => pg_name (i := 1) scIsST.nd rfl (Or.inl rfl)) (fun _ _ _ _ _ => pts_nil) (fun _ _ _ _ _ => pe_call Gc (hr.mono (by decide)) (by rfl) cm ck cb .nil pass0 (pa_cons (pv 1) pa_nil)))) pa_nil)))), ?_⟩
    refine ⟨_, rfl, d, 9, kvs, rfl, hd, hl, fun p hp => (hv p hp).1, fun H1 hS => ⟨_, rfl, iteF ?_⟩⟩
    have hd1 := hS _ _ hd
    have kne : (!kvs.isEmpty) = true := by
      cases kvs with
      | nil => exact absurd rfl k0
      | cons a l => rfl
    refine ⟨_, rfl, _, .inr (.inr ⟨_, hd1, rfl⟩), ?_⟩
    rw [kne]
    refine iteF ⟨d, _, hd1, trivial, fun od => ?_⟩
    have dne : ∀ D, upd H1 d (.frz od (.dK kvs)) D = none → D ≠ d ∧ H1 D = none := fun D hD => by
      have ne : D ≠ d := fun e => by
        rw [e, upd_same] at hD
        cases hD
      rw [upd_ne ne] at hD
      exact ⟨ne, hD⟩
    refine ⟨_, rfl, d, od, rfl, .inl ⟨kvs, upd_same, fun D hD => wk_any (walk_keys (d := d) (o := od) (kvs := kvs)) (fun i H2 => (∀ b o, b ≠ d → H1 b = some o → H2 b = some o) ∧ H2 d = some (.frz od (.dK kvs)) ∧ H2 D = some (.lst ((List.replicate i true).map V.bl))) ?_ (fun i H2 _ h2 => h2.2.1) ?_ ?_⟩⟩
    · obtain ⟨ne, h0⟩ := dne D hD
      refine ⟨fun b o hb e => ?_, ?_, upd_same⟩
      · rw [upd_ne (ne_of_none e h0), upd_ne hb]
        exact e
      · rw [upd_ne ne.symm]
        exact upd_same
    · rintro i x H2 H3 hi ⟨hB, hd2, hL⟩ ⟨rfl, k, v, hx, rfl⟩
      obtain ⟨ne, h0⟩ := dne D hD
      obtain ⟨z, ez, hz⟩ := (hv _ (List.mem_of_getElem? hx)).2
      simp only at ez
      subst ez
      have w2 : z.length ≤ 100000 := by
        have w1 := hz
        unfold sgB at w1
        rw [Bool.and_eq_true, decide_eq_true_eq] at w1
        omega
      refine ⟨rfl, _, rfl, _, rfl, .inl ⟨z, rfl, w2, _, hL, ?_, fun b o hb e => ?_, ?_, ?_⟩⟩
      · rw [List.length_map, List.length_replicate]
        exact Nat.lt_of_lt_of_le (by omega : i < 4000) (by decide)
      · rw [upd_ne (ne_of_none e h0)]
        exact hB b o hb e
      · rw [upd_ne ne.symm]
        exact hd2
      · rw [upd_same, hz, List.replicate_succ', List.map_append]
        rfl
    · rintro H2 ⟨hB, hd2, hL⟩
      obtain ⟨ne, h0⟩ := dne D hD
      have ea : (List.replicate kvs.length true).all id = true := List.all_eq_true.mpr fun b hb => (List.mem_replicate.mp hb).2
      refine ⟨hd2, D, _, rfl, SqL.of (by rw [upd_ne ne]; exact hL), ?_⟩
      rw [ea]
      refine q _ (hS.trans fun b o e => ?_)
      by_cases hb : b = d
      · subst hb
        rw [hd1] at e
        cases e
        exact upd_same
      · rw [upd_ne hb]
        exact hB b o hb e
theorem shaped_strsL {zs : List Str} (h : ∀ z ∈ zs, PyData.strOk z = true) : SeqAt.shaped (.list (zs.map PyData.str)) = true := by
  unfold SeqAt.shaped
  simp [PyData.canLay0, PyData.depth, lay_strs zs h, depth_strs]
/-- the price tables of one sign, no swaps -/
def T1 (H : Hp) (p o s : Addr) (z : Str) : Prop := sgB z = true ∧ (∃ i, H p = some (.dK [(Sum.inr z, .int i)]) ∧ nwB i 1 9 = true) ∧ (∃ i, H o = some (.dK [(Sum.inr z, .int i)]) ∧ nwB i 1 9 = true) ∧ H s = some (.dK [])
theorem T1.same {H H' : Hp} {p o s : Addr} {z : Str} (h : T1 H p o s z) (k : Same H H') : T1 H' p o s z := by
  obtain ⟨h0, ⟨i, h1, h2⟩, ⟨j, h3, h4⟩, h5⟩ := h
  exact ⟨h0, ⟨i, k _ _ h1, h2⟩, ⟨j, k _ _ h3, h4⟩, k _ _ h5⟩
def spAreT1 : Sp := fun vs H Q _ => ∃ (p o s : Addr) (z : Str), vs = [.ref p, .ref o, .ref s] ∧ T1 H p o s z ∧ ∀ H', Same H H' → Q (.bl true) H'
theorem scAreT : FnScope ["put", "out", "swap", "signs", "pair"] ["put", "out", "swap"] (defScope sAreT) := ⟨rfl, rfl, rfl, by decide +kernel, rfl, by decide +kernel, by decide +kernel⟩
theorem perm_one {α : Type} {ys : List α} {z : α} (h : ys.Perm [z]) : ys = [z] := List.perm_singleton.mp h
theorem ok_areT {f : Addr} {fd : FuncData} (F : Fun K "_are_tables" "_are_tables" sAreT f fd) (O : On mg) (N : Pn mg) (J : Cd P w K mg base 4 "_is_sign_table" ["value"] spIsST) (S : Cd P w K mg base 3 "_has_prices" ["value", "most"] spHasP) : FnOk P w K mg base CX0 5 f fd ["put", "out", "swap"] spAreT1 := by
  obtain ⟨j, dj, G, gm, gk, gb⟩ := J.ex
  obtain ⟨c, dc, Gc, cm, ck, cb⟩ := S.ex
  obtain ⟨tm, hm18⟩ := N.ms
  refine F.ok scAreT (fun vs H Q E h => ?_) (fun cdv A outer s H vs Q E hr h => ?_)
  · obtain ⟨p, o, s, z, rfl, _⟩ := h
    rfl
  · obtain ⟨p, o, sw, z, rfl, hT, q⟩ := h
    have hu := hu_of hr
    have hu2 : A.units + 3 + 64 < cLine := by
      have h2 : A.units + 3 + 16 * 4 + 200 < cLine := hr.un
      omega
    refine ⟨_, pss_cons (ps_if (PW.pt (pw_or (pt_not (pt_val (pe_call G hr (by rfl) gm gk gb .nil pass0 (pa_cons (pv 0) pa_nil)))) (pw_or (pt_not (pt_val (pe_call G hr (by rfl) gm gk gb .nil pass0 (pa_cons (pv 1) pa_nil))))
        (pw_or1 (pt_cmpR (op_neD hu2) (pe_callB (call_sortedD rfl) (by rfl) O.sorted (by decide +kernel) (pa_cons (pv 0) pa_nil)) (pe_callB (call_sortedD rfl) (by rfl) O.sorted (by decide +kernel) (pa_cons (pv 1) pa_nil)) (nomark _)))))) (pss_one (ps_ret pe_bl)) pss_nil)
      (pss_cons (ps_if (pt_not (pt_val (pe_call Gc (hr.mono (by decide)) (by rfl) cm ck cb .nil pass0 (pa_cons (pv 2) (pa_cons (pe_glob (v := .int 18) (by rfl) hm18 ⟨_, rfl⟩) pa_nil))))) (pss_one (ps_ret pe_bl)) pss_nil)
      (pss_cons (ps_set (i := 3) scAreT.nd rfl (.inr rfl) (pe_callTy (cr_tupD rfl) (by rfl) O.tuple (by decide +kernel) (pa_cons (pv 0) pa_nil)))
      (pss_one (ps_ret (pe_callB (cr_all rfl) (by rfl) O.all (by decide +kernel) (pa_cons (pe_lock (pe_lc (own := [("pair", 4)]) (g := gName 4) (tt := tYes) rfl scAreT.nd (pi_keys (pv 2)) (blkOk_by (N := ["put", "out", "swap", "signs", "pair"]) (sc := defScope sAreT) (by decide +kernel))
          (fun _ _ _ _ _ => pg_name (i := 4) scAreT.nd rfl (Or.inl rfl)) (fun _ _ _ _ _ => pts_nil) (fun _ _ _ _ _ => pe_nev _))) pa_nil)))))), ?_⟩
    obtain ⟨hz, ⟨i, hp, hi⟩, _, _⟩ := id hT
    refine ⟨_, rfl, p, _, rfl, hp, by simp, by simp, fun a ha => ?_, fun H1 s1 => ⟨_, rfl, iteF ?_⟩⟩
    · obtain rfl := List.mem_singleton.mp ha
      exact ⟨⟨i, rfl, hi⟩, z, rfl, hz⟩
    obtain ⟨_, _, ⟨j, ho, hj⟩, _⟩ := hT.same s1
    refine ⟨_, rfl, o, _, rfl, ho, by simp, by simp, fun a ha => ?_, fun H2 s2 => ⟨_, rfl, iteF ?_⟩⟩
    · obtain rfl := List.mem_singleton.mp ha
      exact ⟨⟨j, rfl, hj⟩, z, rfl, hz⟩
    have s12 := s1.trans s2
    obtain ⟨_, ⟨i2, hp2, _⟩, ⟨j2, ho2, _⟩, hs2⟩ := hT.same s12
    refine ⟨_, rfl, p, _, [z], rfl, .inl hp2, rfl, (by show 1 < 64; decide), fun ys a perm _ ha => ?_⟩
    obtain rfl := perm_one perm
    have ho3 : (upd H2 a (.lst ([z].map V.str))) o = some (.dK [(Sum.inr z, .int j2)]) := (Same.new ha) _ _ ho2
    refine ⟨_, rfl, o, _, [z], rfl, .inl ho3, rfl, (by show 1 < 64; decide), fun ys b perm _ hb => ?_⟩
    obtain rfl := perm_one perm
    have zo : ∀ y ∈ [z], PyData.strOk y = true := fun y hy => by
      obtain rfl := List.mem_singleton.mp hy
      unfold sgB at hz
      rw [Bool.and_eq_true] at hz
      exact ok_of_wB hz.2
    have nab : a ≠ b := ne_of_none (upd_same : upd H2 a (.lst ([z].map V.str)) a = some _) hb
    refine ⟨.list ([z].map PyData.str), .list ([z].map PyData.str), .lst (SqL.of (by rw [upd_ne nab]; exact upd_same)) (dpAll_str [z]), .lst (SqL.of upd_same) (dpAll_str [z]), shaped_strsL zo, shaped_strsL zo, _, rfl, ?_⟩
    rw [SeqAt.eqv_refl _ (SeqAt.canLay_of_shaped (shaped_strsL zo))]
    refine iteF ?_
    have s3 : Same H (upd (upd H2 a (.lst ([z].map V.str))) b (.lst ([z].map V.str))) := (s12.trans (Same.new ha)).trans (Same.new hb)
    obtain ⟨_, ⟨i3, hp3, _⟩, _, hs3⟩ := hT.same s3
    refine ⟨_, rfl, sw, 18, [], rfl, hs3, by simp, (fun _ h => nomatch h), fun H4 s4 => ⟨_, rfl, iteF ?_⟩⟩
    refine ⟨_, rfl, p, _, rfl, s4 _ _ hp3, fun t ht => ?_⟩
    have s5 := (s3.trans s4).trans (Same.new (o := .tup ([(Sum.inr z, V.int i3)].map fun kv => kV kv.1)) ht)
    obtain ⟨_, _, _, hs5⟩ := hT.same s5
    refine ⟨sw, _, hs5, trivial, fun od => ?_⟩
    have dne : ∀ D, upd (upd H4 t (.tup ([(Sum.inr z, V.int i3)].map fun kv => kV kv.1))) sw (.frz od (.dK [])) D = none → D ≠ sw ∧ (upd H4 t (.tup ([(Sum.inr z, V.int i3)].map fun kv => kV kv.1))) D = none := fun D hD => by
      have ne : D ≠ sw := fun e => by
        rw [e, upd_same] at hD
        cases hD
      rw [upd_ne ne] at hD
      exact ⟨ne, hD⟩
    refine ⟨_, rfl, sw, od, rfl, .inl ⟨[], upd_same, fun D hD => wk_any (walk_keys (d := sw) (o := od) (kvs := [])) (fun i H6 => H6 = upd (upd (upd H4 t (.tup ([(Sum.inr z, V.int i3)].map fun kv => kV kv.1))) sw (.frz od (.dK []))) D (.lst [])) rfl (fun i H6 _ h6 => ?_) ?_ ?_⟩⟩
    · obtain ⟨ne, h0⟩ := dne D hD
      rw [h6, upd_ne ne.symm]
      exact upd_same
    · rintro i x H6 H7 hi
      exact absurd hi (Nat.not_lt_zero _)
    · rintro H6 rfl
      obtain ⟨ne, h0⟩ := dne D hD
      refine ⟨by rw [upd_ne ne.symm]; exact upd_same, D, [], rfl, SqL.of (by rw [upd_ne ne]; exact upd_same), ?_⟩
      refine q _ (s5.trans fun b o e => ?_)
      by_cases hb : b = sw
      · subst hb
        rw [hs5] at e
        cases e
        exact upd_same
      · rw [upd_ne hb, upd_ne (ne_of_none e h0), upd_ne hb]
        exact e
end
end Mk

set_option Elab.async false
set_option linter.all false
set_option maxRecDepth 100000
set_option maxHeartbeats 4000000
namespace Mk
open PySem L2 PyProof.Rows

abbrev sInit : Stmt := inClass (top 23) 0
abbrev sEven : Stmt := inClass (top 23) 1

section
variable {X : Cx} {CX : CXT} {i k : Nat} {f C : Addr} {fd : FuncData} {ps ks : List Str} {sp : Sp} {E : XK} {x : Str} {p pos : Pos} {kws : List Keyword} {tk : TA} {g : List Value → List Value → List Value} {gV : List V → List V → List V}
/-- c(k = v, ..), the class in a local name -/
def tMakeL (i : Nat) (C : Addr) (m : Nat) (sp : Sp) (gV : List V → List V → List V) (E : XK) (tk : TA) : TE := fun σ H Q => σ[i]? = some (some (.ref C)) ∧ tMakeK C 0 m sp gV E tNil tk σ H Q
theorem pe_makeL (M : L2.Mk X.K C f) (F : FnOk X.prog X.w X.K X.mg X.base CX k f fd ps sp) (hr : Room (k + 1) X.A) (hN : X.N[i]? = some x) (hv : Vis X.env.scope x) (hb : KBn X.K fd ps 1 ks g gV) (hx : Passes CX X E) (hkw : PK X kws tk)
    (hall : (backToKw pos (keywordEach kws X.env)).all (·.1.isSome) = true := by rfl) (hks : (backToKw pos (keywordEach kws X.env)).filterMap (·.1) = ks := by rfl) (hdb : (x == ("__debug__" : Str)) = false := by decide) (hcd : (x == ("__classdict__" : Str)) = false := by decide)
    (hpl : ((backTo pos (starEach [] X.env)).any (·.1) || (backToKw pos (keywordEach kws X.env)).any (·.1.isNone)) = false := by rfl) :
    PE X (.Call (.Name x p) [] kws pos) (tMakeL i C ks.length sp gV E tk) := by
  refine ⟨fun pins s σ H Q I h => ?_⟩
  obtain ⟨hs, h⟩ := h
  refine wpAny_Call_Name_kw (thn ((pe_var (pos := p) hN hv hdb hcd).run pins s σ H (fun v H1 => v = .ref C ∧ H1 = H) I ⟨.ref C, hs, rfl, rfl⟩) fun u s1 ⟨v, H1, I1, r1, q1⟩ => ?_)
  obtain ⟨rfl, rfl⟩ := q1
  obtain rfl : u = Value.ref C := r1
  refine PySem.W.callWith_KW0 (h₀ := X.base) I1.ok.mod.kin M.kp hall ?_ hpl
  refine thn (hkw.run pos pins s1 σ _ _ I1 h) fun ws s2 ⟨zs, H2, I2, rz, l1, l2, q2⟩ => ⟨I2.kIn, ?_⟩
  rw [hks]
  exact run_makeK (us := []) (vs := []) M F hr hb hx I2 .nil rz rfl l2 q2
end

theorem putF_len (f : Str) (v : V) : ∀ fs : List (Str × V), (putF f v fs).length ≤ fs.length + 1
  | [] => Nat.le_refl _
  | p :: r => by
    unfold putF
    by_cases h : p.1 = f
    · rw [if_pos h]
      simp
    · rw [if_neg h, List.length_cons, List.length_cons]
      exact Nat.succ_le_succ (putF_len f v r)
theorem But.set {x : Addr} {H H1 : Hp} {o : HO} (a : But x H H1) : But x H (upd H1 x o) := fun b u hb e => by
  rw [upd_ne hb]
  exact a b u hb e
theorem But.same {x : Addr} {H H1 H2 : Hp} (a : But x H H1) (b : Same H1 H2) : But x H H2 := fun c o h e => b c o (a c o h e)
section
variable {X : Cx}
/-- name = {..} of a dict comprehension, the name a local -/
theorem ps_setDc {i : Nat} {y : Str} {py : Pos} {kx vx tg iter : Expr} {ifs : List Expr} {scope : Scope} {own : List (Str × Nat)} {pos spos : Pos} {wi : TI} {g : TG} {tt : TT} {tk tv : TE} (cm : X.calm = true) (nd : X.N.Nodup) (hy : X.N[i]? = some y) (lo : X.env.scope.names.lookup y = some .local)
    (sw : swapsWith (.DictComp kx vx [⟨tg, iter, ifs, 0⟩] scope pos) (some (.Name y py)) spos.line X.env = pure true) (hi : PI X tg iter wi) (ok : BlkOk X.N X.env.scope scope own)
    (hg : ∀ (s : Shared) (H : Hp) (C : Addr) (cl : List (Str × Addr)) (fr : List Addr), PG (X.blk s H scope (compEnvC scope cl C X.env) fr) tg g) (ht : ∀ (s : Shared) (H : Hp) (C : Addr) (cl : List (Str × Addr)) (fr : List Addr), PTs (X.blk s H scope (compEnvC scope cl C X.env) fr) ifs tt)
    (hk : ∀ (s : Shared) (H : Hp) (C : Addr) (cl : List (Str × Addr)) (fr : List Addr), PE (X.blk s H scope (compEnvC scope cl C X.env) fr) kx tk) (hv : ∀ (s : Shared) (H : Hp) (C : Addr) (cl : List (Str × Addr)) (fr : List Addr), PE (X.blk s H scope (compEnvC scope cl C X.env) fr) vx tv)
    (fs : ∀ x, foldedSetIterable iter X.env x = pure x := by intro _; rfl) : PS X (.Assign [.Name y py] (.DictComp kx vx [⟨tg, iter, ifs, 0⟩] scope pos) spos) (tAsg (tDc wi g tt tk tv (own.map (·.2))) (gName i)) := by
  refine ⟨fun pins s σ H D I h => ?_⟩
  rw [exec_Assign_Name_used _ _ _ _ sw]
  refine wpAny_bind (wpAny_standAt (wpAny_bind ?_))
  show wpAny _ X.A (do let _ ← comprehension (.DictComp kx vx [⟨tg, iter, ifs, 0⟩] scope pos) scope X.env (firstIterPos [⟨tg, iter, ifs, 0⟩] pos) newDict false (eval iter X.env) (some (assign (.Name y py) X.env))) _ _ s
  have h2 : tDc wi g tt tk tv (own.map (·.2)) σ H (fun x H1 => gName i x σ H1 D.nx) := h
  refine wpAny_bind (thn (dc_core (Qf := fun _ s' => SP X pins D .next s') cm nd I hi ok hg ht hk hv fs h2 fun L C s' m H' J q hn f => ?_) fun _ s' z => wpAny_pure (wpAny_pure z))
  show wpAny _ _ (assign (.Name y py) X.env (.ref L)) _ _ _
  refine wpAny_assign_Name (store_ok2 (v := V.ref L) J nd hy (.inl lo) rfl (fun s2 J2 ⟨a, sb, ha⟩ => ?_) (.inr lo))
  obtain ⟨f0, f1, f2, f3, f4, f5⟩ := f
  have ne : C ≠ a := ha.elim (fun z => z ▸ f1) fun z e => f4 y a z e.symm
  exact ⟨m, hn.sameBut sb ne, fun h3 sb3 => ⟨_, H', J2.turned (t' := s2.toks) (fun b o hb e => (sb3.2 b hb).trans e) f0 f1 f3 f4 f5, q⟩⟩
end
def spInit1 (C : Addr) : Sp := fun vs H Q _ => ∃ (x dx p o s : Addr) (z : Str), vs = [.ref x, .ref p, .ref o, .ref s] ∧ H x = some (.ins C dx []) ∧ T1 H p o s z ∧
  ∀ H', But x H H' → (∃ fs, H' x = some (.ins C dx fs)) → Q .non H'
structure Pc (K : PySem.W.Frag) (C : Addr) : Prop where
  cl : Cls K C
  n1 : NoAttr K C "_signs"
  n2 : NoAttr K C "_put"
  n3 : NoAttr K C "_out"
  n4 : NoAttr K C "_swap"
section
variable {P : Program} {w : World} {K : PySem.W.Frag} {mg : Str → Option Value} {base : Heap}
theorem kbn_init {f : Addr} {fd : FuncData} (F : Fun K "__init__" "Prices.__init__" sInit f fd) : KBn K fd ["self", "put", "out", "swap"] 1 ["put", "out", "swap"] (fun us ws => us ++ ws) (fun vs zs => vs ++ zs) := by
  obtain ⟨oc, od, kV, doc, pm, an, cdv, ct, osl, rfl, lk, hcd⟩ := F.ex
  refine ⟨fun s us ws X l1 l2 => BindsTo.of_eq ?_, fun r1 r2 => r1.append r2⟩
  match us, ws, l1, l2 with
  | [_], [_, _, _], _, _ => rfl
theorem scInit : FnScope ["self", "put", "out", "swap"] ["self", "put", "out", "swap"] (defScope sInit) := ⟨rfl, rfl, rfl, by decide +kernel, rfl, by decide +kernel, by decide +kernel⟩
theorem ok_init {f C : Addr} {fd : FuncData} (F : Fun K "__init__" "Prices.__init__" sInit f fd) (T : Pc K C) (O : On mg) (J : Cd P w K mg base 5 "_are_tables" ["put", "out", "swap"] spAreT1) (S : Cd P w K mg base 1 "ascending_dict" ["table"] spAsc) : FnOk P w K mg base CX0 6 f fd ["self", "put", "out", "swap"] (spInit1 C) := by
  obtain ⟨j, dj, G, gm, gk, gb⟩ := J.ex
  obtain ⟨c, dc, Gc, cm, ck, cb⟩ := S.ex
  refine F.ok scInit (fun vs H Q E h => ?_) (fun cdv A outer s H vs Q E hr h => ?_)
  · obtain ⟨x, dx, p, o, s, z, rfl, _⟩ := h
    rfl
  · obtain ⟨x, dx, p, o, sw, z, rfl, hx, hT, q⟩ := h
    have hr1 : Room 1 _ := hr.mono (by decide)
    refine ⟨_, pss_cons (ps_if (pt_not (pt_val (pe_call G hr (by rfl) gm gk gb .nil pass0 (pa_cons (pv 1) (pa_cons (pv 2) (pa_cons (pv 3) pa_nil)))))) (pss_one ps_never) pss_nil)
      (pss_cons (ps_fld (pv 0) (pe_callTy call_tuple_of (by rfl) O.tuple (by decide +kernel) (pa_cons (pe_callB (call_sortedD rfl) (by rfl) O.sorted (by decide +kernel) (pa_cons (pv 1) pa_nil)) pa_nil)) rfl)
      (pss_cons (ps_fld (pv 0) (pe_call Gc hr1 (by rfl) cm ck cb .nil pass0 (pa_cons (pv 1) pa_nil)) rfl)
      (pss_cons (ps_fld (pv 0) (pe_call Gc hr1 (by rfl) cm ck cb .nil pass0 (pa_cons (pv 2) pa_nil)) rfl)
      (pss_one (ps_fld (pv 0) (pe_call Gc hr1 (by rfl) cm ck cb .nil pass0 (pa_cons (pv 3) pa_nil)) rfl))))), ?_⟩
    refine ⟨_, rfl, _, rfl, _, rfl, p, o, sw, z, rfl, hT, fun H1 s1 => ⟨_, rfl, iteF ?_⟩⟩
    obtain ⟨hz, ⟨i1, hp1, _⟩, ⟨i2, ho1, _⟩, hs1⟩ := hT.same s1
    have dif : ∀ {H : Hp} {b : Addr} {kvs : List (Key × V)} {fs : List (Str × V)}, H b = some (.dK kvs) → H x = some (.ins C dx fs) → b ≠ x := fun h1 h2 => ne_of h1 h2 (fun z => nomatch z)
    have px := dif hp1 (s1 _ _ hx)
    have ox := dif ho1 (s1 _ _ hx)
    have sx := dif hs1 (s1 _ _ hx)
    -- what is known of a heap on the way
    have put : ∀ {H1 H2 : Hp} {fs : List (Str × V)}, But x H H1 → But x H1 H2 → But x H H2 := fun a b => a.trans b
    refine ⟨_, rfl, p, _, [z], rfl, .inl hp1, rfl, (by show 1 < 64; decide), fun ys a perm _ ha => ?_⟩
    obtain rfl := perm_one perm
    refine ⟨a, _, rfl, .inl ⟨SqL.of upd_same, fun t ht => ?_⟩⟩
    have s2 := (s1.trans (Same.new (o := .lst ([z].map V.str)) ha)).trans (Same.new (o := .tup ([z].map V.str)) ht)
    refine ⟨_, rfl, x, C, dx, [], rfl, s2 _ _ hx, T.cl, T.n1, (by show 0 < 1000; decide), ?_⟩
    have b2 : But x H (upd (upd (upd H1 a (.lst ([z].map V.str))) t (.tup ([z].map V.str))) x (.ins C dx (putF "_signs" (V.ref t) []))) := (But.of_same s2).set
    have l2 : (putF "_signs" (V.ref t) []).length ≤ 1 := putF_len _ _ _
    have x2 : (upd (upd (upd H1 a (.lst ([z].map V.str))) t (.tup ([z].map V.str))) x (.ins C dx (putF "_signs" (V.ref t) []))) x = some (.ins C dx (putF "_signs" (V.ref t) [])) := upd_same
    generalize (upd (upd (upd H1 a (.lst ([z].map V.str))) t (.tup ([z].map V.str))) x (.ins C dx (putF "_signs" (V.ref t) []))) = H2 at b2 x2 ⊢
    generalize putF "_signs" (V.ref t) [] = f2 at l2 x2
    obtain ⟨_, ⟨j1, hp, _⟩, ⟨j2, ho, _⟩, hs⟩ := hT
    refine ⟨_, rfl, p, _, [z], rfl, b2 _ _ px hp, rfl, by simp, (by show 1 < 64; decide), fun H3 D3 ys3 s3 _ _ _ _ => ?_⟩
    refine ⟨_, rfl, x, C, dx, f2, rfl, s3 _ _ x2, T.cl, T.n2, (by omega), ?_⟩
    have b3 : But x H (upd H3 x (.ins C dx (putF "_put" (V.ref D3) f2))) := (b2.same s3).set
    have l3 : (putF "_put" (V.ref D3) f2).length ≤ 2 := Nat.le_trans (putF_len _ _ _) (by omega)
    have x3 : (upd H3 x (.ins C dx (putF "_put" (V.ref D3) f2))) x = some (.ins C dx (putF "_put" (V.ref D3) f2)) := upd_same
    generalize (upd H3 x (.ins C dx (putF "_put" (V.ref D3) f2))) = H4 at b3 x3 ⊢
    generalize putF "_put" (V.ref D3) f2 = f3 at l3 x3
    refine ⟨_, rfl, o, _, [z], rfl, b3 _ _ ox ho, rfl, by simp, (by show 1 < 64; decide), fun H5 D5 ys5 s5 _ _ _ _ => ?_⟩
    refine ⟨_, rfl, x, C, dx, f3, rfl, s5 _ _ x3, T.cl, T.n3, (by omega), ?_⟩
    have b4 : But x H (upd H5 x (.ins C dx (putF "_out" (V.ref D5) f3))) := (b3.same s5).set
    have l4 : (putF "_out" (V.ref D5) f3).length ≤ 3 := Nat.le_trans (putF_len _ _ _) (by omega)
    have x4 : (upd H5 x (.ins C dx (putF "_out" (V.ref D5) f3))) x = some (.ins C dx (putF "_out" (V.ref D5) f3)) := upd_same
    generalize (upd H5 x (.ins C dx (putF "_out" (V.ref D5) f3))) = H6 at b4 x4 ⊢
    generalize putF "_out" (V.ref D5) f3 = f4 at l4 x4
    refine ⟨_, rfl, sw, _, [], rfl, b4 _ _ sx hs, rfl, by simp, (by show 0 < 64; decide), fun H7 D7 ys7 s7 _ _ _ _ => ?_⟩
    refine ⟨_, rfl, x, C, dx, f4, rfl, s7 _ _ x4, T.cl, T.n4, (by omega), ?_⟩
    exact q _ (b4.same s7).set ⟨_, upd_same⟩

def spEven1 (C : Addr) : Sp := fun vs H Q _ => ∃ (t : Addr) (z : Str) (i : Int), vs = [.ref C, .ref t, .int i] ∧ H t = some (.tup [.str z]) ∧ sgB z = true ∧ nwB i 1 9 = true ∧
  ∀ H' x dx fs, Same H H' → H x = none → H' x = some (.ins C dx fs) → Q (.ref x) H'
theorem scEven : FnScope ["cls", "signs", "price", "alone", "sign", "pair"] ["cls", "signs", "price"] (defScope sEven) := ⟨rfl, rfl, rfl, by decide +kernel, rfl, by decide +kernel, by decide +kernel⟩
theorem ok_even {f fi C : Addr} {fd fdi : FuncData} (F : FunD K "even" "Prices.even" (defArgs sEven) (defBody sEven) (defScope sEven) [.int 1] [] f fd) (M : L2.Mk K C fi) (FI : Fun K "__init__" "Prices.__init__" sInit fi fdi) (I : FnOk P w K mg base CX0 6 fi fdi ["self", "put", "out", "swap"] (spInit1 C))
    (N : Pn mg) (A1 : Cd P w K mg base 2 "check_signs" ["signs"] spChkSigns) (A2 : Cd P w K mg base 3 "check_number" ["given", "least", "most"] spChkNum) (A3 : Cd P w K mg base 1 "_pairs" ["signs"] spPairs1) : FnOk P w K mg base CX0 8 f fd ["cls", "signs", "price"] (spEven1 C) := by
  obtain ⟨j, dj, G, gm, gk, gb⟩ := A1.ex
  obtain ⟨c, dc, Gc, cm, ck, cb⟩ := A2.ex
  obtain ⟨e, de, Ge, em, ek, eb⟩ := A3.ex
  obtain ⟨tm, hm9⟩ := N.mp
  refine F.ok scEven (fun vs H Q E h => ?_) (fun cdv A outer s H vs Q E hr h => ?_)
  · obtain ⟨t, z, i, rfl, _⟩ := h
    rfl
  · obtain ⟨t, z, i, rfl, ht, hz, hi, q⟩ := h
    refine ⟨_, PSs.nox (pss_cons (ps_expr (pe_call G (hr.mono (by decide)) (by rfl) gm gk gb .nil pass0 (pa_cons (pv 1) pa_nil)))
      (pss_cons (ps_expr (pe_call Gc (hr.mono (by decide)) (by rfl) cm ck cb .nil pass0 (pa_cons (pv 2) (pa_cons pe_int (pa_cons (pe_glob (v := .int 9) (by rfl) hm9 ⟨_, rfl⟩) pa_nil)))))
      (pss_cons (ps_setDc (i := 3) (own := [("sign", 4)]) (g := gName 4) (tt := tYes) rfl scEven.nd rfl rfl (by rfl) (pi_tup (pv 1)) (blkOk_by (N := ["cls", "signs", "price", "alone", "sign", "pair"]) (sc := defScope sEven) (by decide +kernel))
        (fun _ _ _ _ _ => pg_name (i := 4) scEven.nd rfl (Or.inl rfl)) (fun _ _ _ _ _ => pts_nil) (fun _ _ _ _ _ => pv 4) (fun _ _ _ _ _ => pv 2))
      (pss_one (ps_ret (pe_makeL (i := 0) M I hr rfl (.inl rfl) (kbn_init FI) pass0 (pk_cons (pv 3) (pk_cons (pv 3) (pk_cons (pe_dc (own := [("pair", 5)]) (g := gName 5) (tt := tYes) rfl scEven.nd (pi_list (pe_call Ge (hr.mono (by decide)) (by rfl) em ek eb .nil pass0 (pa_cons (pv 1) pa_nil))) (blkOk_by (N := ["cls", "signs", "price", "alone", "sign", "pair"]) (sc := defScope sEven) (by decide +kernel))
        (fun _ _ _ _ _ => pg_name (i := 5) scEven.nd rfl (Or.inl rfl)) (fun _ _ _ _ _ => pts_nil) (fun _ _ _ _ _ => pe_nev _) (fun _ _ _ _ _ => pe_nev _)) pk_nil))))))))), ?_⟩
    have hz2 := hz
    unfold sgB at hz2
    rw [Bool.and_eq_true, decide_eq_true_eq] at hz2
    refine ⟨_, rfl, t, [z], rfl, ht, ⟨by simp, fun y hy => by rw [List.mem_singleton.mp hy]; exact hz, List.pairwise_singleton _ _⟩, by simp, fun H1 s1 => ?_⟩
    refine ⟨_, rfl, i, 1, 9, rfl, hi, ?_⟩
    refine ⟨_, rfl, t, rfl, ⟨_, SqT.of (s1 _ _ ht)⟩, fun D hD => wk_any (walk_tup (K := K) (a := t) (xs := [V.str z])) (fun n H2 => Same H1 H2 ∧ H2 D = some (.dK (List.replicate (min n 1) (Sum.inr z, V.int i)))) ⟨Same.new hD, upd_same⟩ (fun n H2 _ h2 => SqT.of (h2.1 _ _ (s1 _ _ ht))) ?_ ?_⟩
    · rintro n x H2 H3 hn ⟨hS, hL⟩ ⟨rfl, hx⟩
      obtain rfl : n = 0 := by simpa using hn
      obtain rfl : V.str z = x := Option.some.inj hx
      refine ⟨rfl, _, rfl, _, rfl, _, Sum.inr z, rfl, hL, by show 0 < sizeLine; decide, fun b o e => ?_, upd_same⟩
      rw [upd_ne (ne_of_none e hD)]
      exact hS b o e
    · rintro H2 ⟨hS, hL⟩
      have hL2 : H2 D = some (.dK [(Sum.inr z, V.int i)]) := hL
      refine ⟨rfl, _, rfl, _, rfl, _, rfl, t, V.str z, rfl, hS _ _ (s1 _ _ ht), ⟨z, rfl⟩, fun H3 p s3 hp hP => ?_⟩
      refine ⟨p, rfl, ⟨_, SqL.of hP⟩, fun D2 hD2 => wk_any (walk_list (K := K) (a := p) (xs := [])) (fun _ H4 => Same H3 H4 ∧ H4 D2 = some (.dK [])) ⟨Same.new hD2, upd_same⟩ (fun n H4 _ h4 => SqL.of (h4.1 _ _ hP)) (fun n x H4 H5 hn => absurd hn (Nat.not_lt_zero _)) ?_⟩
      rintro H4 ⟨s4, hE⟩
      refine ⟨rfl, rfl, fun x dx hx hdx ne => ?_⟩
      have s14 : Same H H4 := ((s1.trans hS).trans s3).trans s4
      have sN : Same H4 (upd (upd H4 dx (.own x)) x (.ins C dx [])) := fun b o e => by
        rw [upd_ne (ne_of_none e hx), upd_ne (ne_of_none e hdx)]
        exact e
      have hD4 := s4 _ _ (s3 _ _ hL2)
      refine ⟨x, dx, D, D, D2, z, rfl, upd_same, ⟨hz, ⟨i, sN _ _ hD4, hi⟩, ⟨i, sN _ _ hD4, hi⟩, sN _ _ hE⟩, fun H5 b5 ⟨fs, h5⟩ => ⟨rfl, ?_⟩⟩
      refine q _ x dx fs (fun b o e => ?_) (s14.free hx) h5
      have nb : b ≠ x := fun z => by
        have := s14 _ _ e
        rw [z, hx] at this
        cases this
      exact b5 _ _ nb (sN _ _ (s14 _ _ e))
end
end Mk

set_option Elab.async false
set_option linter.all false
set_option maxRecDepth 100000
set_option maxHeartbeats 4000000
namespace Mk
open PySem L2 PyProof.Rows

abbrev sValue : Stmt := top 35
section
variable {X : Cx}
theorem foldl_size : ∀ (l : List (Array Nat)) (acc : Array Nat), (l.foldl (· ++ ·) acc).size = acc.size + (l.map Array.size).sum
  | [], acc => by simp
  | a :: l, acc => by
    rw [List.foldl_cons, foldl_size l, Array.size_append, List.map_cons, List.sum_cons]
    omega
theorem mul_len (x : Str) (n : Nat) (hn : 1 ≤ n) : (Txt.mul x (n : Int)).length = x.length * n := by
  unfold Txt.mul
  rw [if_neg (by omega)]
  by_cases c : ((n : Int) == 1 || x.length == 0) = true
  · rw [if_pos c]
    rw [Bool.or_eq_true, beq_iff_eq, beq_iff_eq] at c
    rcases c with c | c
    · have : n = 1 := by omega
      rw [this, Nat.mul_one]
    · rw [c, Nat.zero_mul]
  · rw [if_neg c]
    show (List.foldl (· ++ ·) #[] (List.replicate (n : Int).toNat x.cps)).size = _
    rw [foldl_size, List.map_replicate, List.sum_replicate_nat]
    simp
    exact Nat.mul_comm _ _
/-- z * n, a text -/
theorem op_mulS : OpR X (binaryOp .Mult) (fun x y H Q => ∃ (z : Str) (n : Nat), x = .str z ∧ y = .int n ∧ 1 ≤ n ∧ n ≤ 10000 ∧ z.length ≤ 1000 ∧ Q (.str (Txt.mul z n)) H) := by
  intro pins s σ H x y v u Q I rx ry h
  obtain ⟨z, n, rfl, rfl, h1, h2, h3, q⟩ := h
  obtain ⟨t, rfl⟩ := rx
  obtain ⟨t', rfl⟩ := ry
  have le : z.length * n ≤ 1000 * 10000 := Nat.mul_le_mul h3 h2
  refine SB.mul ⟨?_, fun _ _ => ?_, fun _ _ => ?_⟩ fun t2 k => ⟨.str (Txt.mul z n), H, I.tok _, ⟨_, rfl⟩, q⟩
  · rw [Bool.or_eq_false_iff, decide_eq_false_iff_not, decide_eq_false_iff_not]
    omega
  · have : ((2 : Int) ^ 63 - 1) / n ≥ 1000 := by
      rw [ge_iff_le, Int.le_ediv_iff_mul_le (by omega)]
      omega
    omega
  · have e : (n : Int).toNat = n := by omega
    rw [e]
    unfold Builtin.Str.tooLong
    rw [decide_eq_false_iff_not, sizeLine_eq]
    omega
end

/-- a value of one of the kinds, apart from the pot at p -/
def Ko (C p : Addr) (H : Hp) (v : V) : Prop := (∃ z : Str, v = .str z ∧ z.length ≤ 100000) ∨ v = .non ∨ (∃ b, v = .bl b) ∨ (∃ i, v = .int i) ∨
  ∃ a, v = .ref a ∧ a ≠ p ∧ ((∃ xs, H a = some (.lst xs)) ∨ (∃ xs, H a = some (.tup xs)) ∨ (∃ kvs, H a = some (.dK kvs)) ∨ ∃ dx fs, H a = some (.ins C dx fs))
theorem Ko.but {C p : Addr} {H H' : Hp} {v : V} (h : Ko C p H v) (b : But p H H') : Ko C p H' v := by
  rcases h with h | h | h | h | ⟨a, e, ne, h⟩
  · exact .inl h
  · exact .inr (.inl h)
  · exact .inr (.inr (.inl h))
  · exact .inr (.inr (.inr (.inl h)))
  · refine .inr (.inr (.inr (.inr ⟨a, e, ne, ?_⟩)))
    rcases h with ⟨x, h⟩ | ⟨x, h⟩ | ⟨x, h⟩ | ⟨x, y, h⟩
    · exact .inl ⟨x, b _ _ ne h⟩
    · exact .inr (.inl ⟨x, b _ _ ne h⟩)
    · exact .inr (.inr (.inl ⟨x, b _ _ ne h⟩))
    · exact .inr (.inr (.inr ⟨x, y, b _ _ ne h⟩))
theorem Ko.str {C p : Addr} {H : Hp} {z : Str} (h : z.length ≤ 100000) : Ko C p H (.str z) := .inl ⟨z, rfl, h⟩
/-- on the way: the pot, the heap at the start, the values made so far -/
structure Sv (C p : Addr) (n : Nat) (H0 H : Hp) (vs : List V) : Prop where
  pot : Pot H p n
  but : But p H0 H
  all : ∀ v ∈ vs, Ko C p H v
theorem Sv.put {C p : Addr} {n : Nat} {H0 H : Hp} {vs : List V} {v : V} (s : Sv C p n H0 H vs) (h : Ko C p H v) : Sv C p n H0 H (v :: vs) :=
  ⟨s.pot, s.but, fun u hu => (List.mem_cons.mp hu).elim (fun e => e ▸ h) (s.all u)⟩
theorem Sv.grow {C p : Addr} {n m : Nat} {H0 H H' : Hp} {vs : List V} (s : Sv C p n H0 H vs) (b : But p H H') (q : Pot H' p m) : Sv C p m H0 H' vs :=
  ⟨q, s.but.trans b, fun u hu => (s.all u hu).but b⟩
theorem Sv.new {C p a : Addr} {n : Nat} {H0 H : Hp} {vs : List V} {o : HO} (s : Sv C p n H0 H vs) (ha : H a = none) (ho : (∃ xs, o = .lst xs) ∨ (∃ xs, o = .tup xs) ∨ ∃ kvs, o = .dK kvs) : Sv C p n H0 (upd H a o) (.ref a :: vs) := by
  have ne := s.pot.ne ha
  refine (s.grow (But.of_same (Same.new ha)) (s.pot.up ne)).put (.inr (.inr (.inr (.inr ⟨a, rfl, ne.symm, ?_⟩))))
  rcases ho with ⟨x, rfl⟩ | ⟨x, rfl⟩ | ⟨x, rfl⟩
  · exact .inl ⟨x, upd_same⟩
  · exact .inr (.inl ⟨x, upd_same⟩)
  · exact .inr (.inr (.inl ⟨x, upd_same⟩))
theorem Sv.sub {C p : Addr} {n : Nat} {H0 H : Hp} {vs ws : List V} (s : Sv C p n H0 H vs) (h : ∀ v ∈ ws, v ∈ vs) : Sv C p n H0 H ws := ⟨s.pot, s.but, fun u hu => s.all u (h u hu)⟩

def spValue (C : Addr) : Sp := fun vs H Q _ => ∃ (p : Addr) (n : Nat), vs = [.ref p] ∧ Pot H p n ∧ n + 100 < PB ∧ ∀ H' v, But p H H' → Pot H' p (n + 100) → Ko C p H' v → Q v H'
section
variable {P : Program} {w : World} {K : PySem.W.Frag} {mg : Str → Option Value} {base : Heap}
theorem scValue : FnScope ["_law_pot", "_law_word_here", "_law_at", "_law_char", "_law_near", "_law_values"] ["_law_pot"] (defScope sValue) := ⟨rfl, rfl, rfl, by decide +kernel, rfl, by decide +kernel, by decide +kernel⟩
theorem ok_value {f C g pr : Addr} {mc : Value} {fd : FuncData} (F : Fun K "_law_value" "_law_value" sValue f fd) (B : Bn mg) (D : Cd P w K mg base 1 "_law_dip" ["_law_pot", "_law_total"] spDip) (Ch : Cd P w K mg base 2 "_law_choose" ["_law_pot", "_law_items"] spChoose)
    (Wo : Cd P w K mg base 3 "_law_word" ["_law_pot", "_law_most"] spWord) (mgC : mg "Prices" = some (.ref C)) (r : ClX.CRead K C mc) (cm : ClX.CMet K C mc "even" pr g) (Ev : FnR P w K mg base CX0 8 g (fun vs H Q E => spEven1 C (vs ++ [.int 1]) H Q E)) : FnOk P w K mg base CX0 9 f fd ["_law_pot"] (spValue C) := by
  obtain ⟨d, dd, Gd, dm, dk, db⟩ := D.ex
  obtain ⟨c, dc, Gc, hm, ck, cb⟩ := Ch.ex
  obtain ⟨o, dw, Gw, wm, wk, wb⟩ := Wo.ex
  refine F.ok scValue (fun vs H Q E h => ?_) (fun cdv A outer s H vs Q E hr h => ?_)
  · obtain ⟨p, n, rfl, _⟩ := h
    rfl
  · obtain ⟨p, n, rfl, hp, hn, q⟩ := h
    refine ⟨_, pss_cons (ps_set (i := 1) scValue.nd rfl (.inl rfl) (pe_call Gw (hr.mono (by decide)) (by rfl) wm wk wb .nil pass0 (pa_cons (pv 0) (pa_cons pe_int pa_nil))))
      (pss_cons (ps_set (i := 2) scValue.nd rfl (.inl rfl) (pe_call Gd (hr.mono (by decide)) (by rfl) dm dk db .nil pass0 (pa_cons (pv 0) (pa_cons (pe_op op_add (pe_callB call_len_str (by rfl) B.len PySem.boot_len (pa_cons (pv 1) pa_nil)) pe_int) pa_nil))))
      (pss_cons (ps_set (i := 3) scValue.nd rfl (.inl rfl) (pe_call Gc (hr.mono (by decide)) (by rfl) hm ck cb .nil pass0 (pa_cons (pv 0) (pa_cons (pe_lst (pa_cons pe_str (pa_cons pe_str (pa_cons pe_str (pa_cons pe_str (pa_cons pe_str (pa_cons pe_str (pa_cons pe_str (pa_cons pe_str (pa_cons pe_str (pa_cons pe_str (pa_cons pe_str (pa_cons pe_str (pa_cons pe_str pa_nil)))))))))))))) pa_nil))))
      (pss_cons (ps_set (i := 4) scValue.nd rfl (.inl rfl) (pe_op op_add_str (pe_op op_add_str (pe_slice sl_str (pv 1) po_none (po_some (pv 2))) (pv 3)) (pe_slice sl_str (pv 1) (po_some (pv 2)) po_none)))
      (pss_cons (ps_set (i := 5) scValue.nd rfl (.inl rfl) (pe_lst (pa_cons (pv 1) (pa_cons (pv 4) (pa_cons (pv 4) (pa_cons (pv 3) (pa_cons (pe_call Gc (hr.mono (by decide)) (by rfl) hm ck cb .nil pass0 (pa_cons (pv 0) (pa_cons pe_str pa_nil))) (pa_cons (pe_op op_mulS (pv 1) pe_int) (pa_cons (pe_tup (pa_cons (pv 1) pa_nil)) (pa_cons (pe_lst (pa_cons (pv 1) pa_nil))
          (pa_cons (pe_disp (pps_cons (pv 1) pe_int pps_nil) (by rfl) (by rfl) (fun z => by cases z) (by decide)) (pa_cons pe_non pa_nil))))))))))))
      (pss_cons (ps_set (i := 5) scValue.nd rfl (.inl rfl) (pe_op op_cat (pv 5) (pe_lst (pa_cons pe_int (pa_cons pe_int (pa_cons pe_bl (pa_cons pe_bl (pa_cons (pe_tup pa_nil) (pa_cons (pe_lst pa_nil) (pa_cons pe_dnewK (pa_cons (pe_tup (pa_cons pe_str (pa_cons pe_str pa_nil))) (pa_cons (pe_tup (pa_cons pe_str pa_nil)) (pa_cons pe_int
          (pa_cons (pe_op op_mulS pe_str pe_int) (pa_cons (pe_op op_add_str (pe_op op_mulS pe_str pe_int) pe_str) (pa_cons (pe_lst (pa_cons pe_str pa_nil)) pa_nil))))))))))))))))
      (pss_one (ps_ret (pe_call Gc (hr.mono (by decide)) (by rfl) hm ck cb .nil pass0 (pa_cons (pv 0) (pa_cons (pe_op op_cat (pv 5) (pe_lst (pa_cons (ClX.pe_cmeth (pe_glob (v := .ref C) (by rfl) mgC rfl) r cm Ev hr pass0 (pa_cons (pe_tup (pa_cons pe_str pa_nil)) pa_nil)) (pa_cons (pe_upper (pv 1)) (pa_cons (pe_op op_add_str (pv 1) pe_str) (pa_cons (pe_op op_add_str pe_str (pv 1)) pa_nil)))))) pa_nil)))))))))), ?_⟩
    refine ⟨_, rfl, p, n, 4, rfl, by decide, hp, (by have := hn; omega), fun H1 z b1 P1 wz lz => ?_⟩
    have zl : z.length ≤ sizeLine := Nat.le_trans lz (by decide)
    refine ⟨_, rfl, _, rfl, z, rfl, zl, _, _, rfl, rfl, p, n + 4 + 1, (z.length : Int) + 1, rfl, P1, (by omega), (by omega), (by omega), fun H2 k b2 _ P2 k0 k1 => ?_⟩
    have st2 : Sv C p (n + 6) H H2 [] := ⟨P2, b1.trans b2, fun _ h => nomatch h⟩
    refine ⟨_, rfl, (by show 13 ≤ sizeLine; decide), fun l hl => ?_⟩
    have st3 := st2.new (o := .lst [V.str "f", V.str "A", V.str " ", V.str "`", V.str "0", V.str "E", V.str "z", V.str "\n", V.str "*", V.str "-", V.str "a", V.str "e", V.str ""]) hl (.inl ⟨_, rfl⟩)
    refine ⟨p, n + 6, st3.pot, (by omega), .inl ⟨l, _, rfl, (st2.pot.ne hl).symm, upd_same, (by decide), (by decide), fun H3 v N3 hv => ?_⟩⟩
    have st4 : Sv C p (n + 7) H H3 [] := (st3.grow N3.but N3.pot).sub fun _ h => nomatch h
    obtain ⟨ch, rfl, lc⟩ : ∃ y : Str, v = .str y ∧ y.length ≤ 1 := by
      simp only [List.mem_cons, List.not_mem_nil, or_false] at hv
      rcases hv with rfl | rfl | rfl | rfl | rfl | rfl | rfl | rfl | rfl | rfl | rfl | rfl | rfl <;> exact ⟨_, rfl, by decide +kernel⟩
    have c1 : (cutS z none (some k)).length ≤ z.length := cutS_length _ _ _
    have c2 : (cutS z (some k) none).length ≤ z.length := cutS_length _ _ _
    have sz : sizeLine ≥ 1000 := by decide
    have a1 : (cutS z none (some k) ++ ch).length = (cutS z none (some k)).length + ch.length := by
      rw [len_cs, cs_append, List.length_append]
      rfl
    refine ⟨_, rfl, _, rfl, _, rfl, z, rfl, zl, _, rfl, _, _, rfl, rfl, (by omega), _, rfl, _, rfl, _, rfl, z, rfl, zl, _, _, rfl, rfl, (by omega), ?_⟩
    have nl : (cutS z none (some k) ++ ch ++ cutS z (some k) none).length ≤ 9 := by
      rw [len_cs, cs_append, List.length_append]
      have e1 : (cs (cutS z none (some k) ++ ch)).length = (cutS z none (some k) ++ ch).length := rfl
      have e2 : (cs (cutS z (some k) none)).length = (cutS z (some k) none).length := rfl
      omega
    generalize (cutS z none (some k) ++ ch ++ cutS z (some k) none) = nr at nl ⊢
    refine ⟨_, rfl, _, rfl, _, rfl, _, rfl, _, rfl, p, n + 7, st4.pot, (by omega), .inr ⟨_, rfl, (by decide +kernel), (by decide +kernel), fun H4 cc N4 hcc => ?_⟩⟩
    have st5 := ((((st4.grow N4.but N4.pot).put (Ko.str (z := ⟨#[cc]⟩) (by show 1 ≤ 100000; decide))).put (Ko.str (z := ch) (by omega))).put (Ko.str (z := nr) (by omega))).put (Ko.str (z := z) (by omega))
    have m60 : (Txt.mul z (60 : Nat)).length ≤ 100000 := by
      rw [mul_len z 60 (by decide)]
      omega
    refine ⟨_, rfl, z, 60, rfl, rfl, (by decide), (by decide), (by omega), _, rfl, (by show 1 ≤ sizeLine; decide), fun t1 ht1 => ?_⟩
    have st6 := (st5.put (Ko.str m60)).new (o := .tup [V.str z]) ht1 (.inr (.inl ⟨_, rfl⟩))
    refine ⟨_, rfl, (by show 1 ≤ sizeLine; decide), fun l2 hl2 => ?_⟩
    have st7 := st6.new (o := .lst [V.str z]) hl2 (.inl ⟨_, rfl⟩)
    intro d2 hd2
    refine ⟨_, rfl, upd_same, [(Sum.inr z, V.int 1)], rfl, (by simp), (by show 10 ≤ sizeLine; decide), fun l3 hl3 => ?_⟩
    rw [upd_upd] at hl3 ⊢
    have st8 := (st7.new (o := .dK (mergeK [] [(Sum.inr z, V.int 1)])) hd2 (.inr (.inr ⟨_, rfl⟩))).put (.inr (.inl rfl))
    have st9 := st8.new (o := .lst [V.str z, V.str nr, V.str nr, V.str ch, V.str ⟨#[cc]⟩, V.str (Txt.mul z (60 : Nat)), V.ref t1, V.ref l2, V.ref d2, V.non]) hl3 (.inl ⟨_, rfl⟩)
    have st10 := st9.sub (ws := [V.ref l3, V.str z, V.str nr, V.str nr, V.str ch, V.str ⟨#[cc]⟩, V.str (Txt.mul z (60 : Nat)), V.ref t1, V.ref l2, V.ref d2, V.non]) (by simp)
    have ne3 : l3 ≠ p := (st8.pot.ne hl3).symm
    have x10 : (upd (upd (upd (upd H4 t1 (.tup [V.str z])) l2 (.lst [V.str z])) d2 (.dK (mergeK [] [(Sum.inr z, V.int 1)]))) l3 (.lst [V.str z, V.str nr, V.str nr, V.str ch, V.str ⟨#[cc]⟩, V.str (Txt.mul z (60 : Nat)), V.ref t1, V.ref l2, V.ref d2, V.non])) l3 = some (.lst [V.str z, V.str nr, V.str nr, V.str ch, V.str ⟨#[cc]⟩, V.str (Txt.mul z (60 : Nat)), V.ref t1, V.ref l2, V.ref d2, V.non]) := upd_same
    generalize (upd (upd (upd (upd H4 t1 (.tup [V.str z])) l2 (.lst [V.str z])) d2 (.dK (mergeK [] [(Sum.inr z, V.int 1)]))) l3 (.lst [V.str z, V.str nr, V.str nr, V.str ch, V.str ⟨#[cc]⟩, V.str (Txt.mul z (60 : Nat)), V.ref t1, V.ref l2, V.ref d2, V.non])) = H5 at st10 x10 ⊢
    have n10 : ([V.str z, V.str nr, V.str nr, V.str ch, V.str ⟨#[cc]⟩, V.str (Txt.mul z (60 : Nat)), V.ref t1, V.ref l2, V.ref d2, V.non] : List V).length = 10 := rfl
    generalize ([V.str z, V.str nr, V.str nr, V.str ch, V.str ⟨#[cc]⟩, V.str (Txt.mul z (60 : Nat)), V.ref t1, V.ref l2, V.ref d2, V.non] : List V) = L at st10 x10 n10
    clear st2 st3 st4 st5 st6 st7 st8 st9
    refine ⟨_, rfl, (Nat.zero_le _), fun t2 ht2 => ?_⟩
    have su1 := st10.new (o := .tup []) ht2 (.inr (.inl ⟨_, rfl⟩))
    refine ⟨(Nat.zero_le _), fun l4 hl4 => ?_⟩
    have su2 := su1.new (o := .lst []) hl4 (.inl ⟨_, rfl⟩)
    intro d3 hd3
    have su3 := su2.new (o := .dK []) hd3 (.inr (.inr ⟨_, rfl⟩))
    refine ⟨(by show 2 ≤ sizeLine; decide), fun t3 ht3 => ?_⟩
    have su4 := su3.new (o := .tup [V.str "a", V.str "b"]) ht3 (.inr (.inl ⟨_, rfl⟩))
    refine ⟨(by show 1 ≤ sizeLine; decide), fun t4 ht4 => ?_⟩
    have su5 := su4.new (o := .tup [V.str ""]) ht4 (.inr (.inl ⟨_, rfl⟩))
    have k1 : (Txt.mul "ab" (4500 : Nat)).length = 9000 := mul_len "ab" 4500 (by decide)
    have k2 : (Txt.mul "ab" (4499 : Nat)).length = 8998 := mul_len "ab" 4499 (by decide)
    have k3 : (Txt.mul "ab" (4499 : Nat) ++ "f" : Str).length = 8999 := by
      rw [len_cs, cs_append, List.length_append]
      have e1 : (cs (Txt.mul "ab" (4499 : Nat))).length = (Txt.mul "ab" (4499 : Nat)).length := rfl
      rw [e1, k2]
      rfl
    refine ⟨"ab", 4500, rfl, rfl, (by decide), (by decide), (by decide +kernel), "ab", 4499, rfl, rfl, (by decide), (by decide), (by decide +kernel), _, _, rfl, rfl, (by rw [k2]; decide +kernel), (by show 1 ≤ sizeLine; decide), fun l5 hl5 => ?_⟩
    have su6 := (((su5.put (Ko.str (z := Txt.mul "ab" (4500 : Nat)) (by omega))).put (Ko.str (z := Txt.mul "ab" (4499 : Nat) ++ "f") (by omega)))).new (o := .lst [V.str "a"]) hl5 (.inl ⟨_, rfl⟩)
    refine ⟨(by show 13 ≤ sizeLine; decide), fun l6 hl6 => ?_⟩
    have sm := ((((((Same.new (o := .tup []) ht2).trans (Same.new (o := .lst []) hl4)).trans (Same.new (o := .dK []) hd3)).trans (Same.new (o := .tup [V.str "a", V.str "b"]) ht3)).trans (Same.new (o := .tup [V.str ""]) ht4)).trans (Same.new (o := .lst [V.str "a"]) hl5)).trans (Same.new (o := .lst [V.int 0, V.int 1, V.bl true, V.bl false, V.ref t2, V.ref l4, V.ref d3, V.ref t3, V.ref t4, V.int 97, V.str (Txt.mul "ab" (4500 : Nat)), V.str (Txt.mul "ab" (4499 : Nat) ++ "f"), V.ref l5]) hl6)
    have su7 := su6.new (o := .lst [V.int 0, V.int 1, V.bl true, V.bl false, V.ref t2, V.ref l4, V.ref d3, V.ref t3, V.ref t4, V.int 97, V.str (Txt.mul "ab" (4500 : Nat)), V.str (Txt.mul "ab" (4499 : Nat) ++ "f"), V.ref l5]) hl6 (.inl ⟨_, rfl⟩)
    have x11 := sm _ _ x10
    refine ⟨l3, l6, L, _, rfl, rfl, x11, upd_same, (by rw [n10]; show 10 + 13 ≤ sizeLine; decide), fun l7 hl7 => ?_⟩
    have su8 := su7.new (o := .lst (L ++ [V.int 0, V.int 1, V.bl true, V.bl false, V.ref t2, V.ref l4, V.ref d3, V.ref t3, V.ref t4, V.int 97, V.str (Txt.mul "ab" (4500 : Nat)), V.str (Txt.mul "ab" (4499 : Nat) ++ "f"), V.ref l5])) hl7 (.inl ⟨_, rfl⟩)
    have su9 := ((((su8.put (.inr (.inr (.inr (.inl ⟨0, rfl⟩))))).put (.inr (.inr (.inr (.inl ⟨1, rfl⟩))))).put (.inr (.inr (.inr (.inl ⟨97, rfl⟩))))).put (.inr (.inr (.inl ⟨true, rfl⟩)))).put (.inr (.inr (.inl ⟨false, rfl⟩)))
    have all23 : ∀ v ∈ L ++ [V.int 0, V.int 1, V.bl true, V.bl false, V.ref t2, V.ref l4, V.ref d3, V.ref t3, V.ref t4, V.int 97, V.str (Txt.mul "ab" (4500 : Nat)), V.str (Txt.mul "ab" (4499 : Nat) ++ "f"), V.ref l5], Ko C p _ v := fun v hv => su9.all v (by
      rcases List.mem_append.mp hv with hv | hv
      · simp [hv]
      · simp only [List.mem_cons, List.not_mem_nil, or_false] at hv ⊢
        rcases hv with rfl | rfl | rfl | rfl | rfl | rfl | rfl | rfl | rfl | rfl | rfl | rfl | rfl <;> simp)
    have n23 : (L ++ [V.int 0, V.int 1, V.bl true, V.bl false, V.ref t2, V.ref l4, V.ref d3, V.ref t3, V.ref t4, V.int 97, V.str (Txt.mul "ab" (4500 : Nat)), V.str (Txt.mul "ab" (4499 : Nat) ++ "f"), V.ref l5]).length = 23 := by
      rw [List.length_append, n10]
      rfl
    have ne7 : l7 ≠ p := (su7.pot.ne hl7).symm
    have P8 := su8.pot
    have B8 := su8.but
    have x12 : (upd _ l7 (.lst (L ++ [V.int 0, V.int 1, V.bl true, V.bl false, V.ref t2, V.ref l4, V.ref d3, V.ref t3, V.ref t4, V.int 97, V.str (Txt.mul "ab" (4500 : Nat)), V.str (Txt.mul "ab" (4499 : Nat) ++ "f"), V.ref l5]))) l7 = some (.lst (L ++ [V.int 0, V.int 1, V.bl true, V.bl false, V.ref t2, V.ref l4, V.ref d3, V.ref t3, V.ref t4, V.int 97, V.str (Txt.mul "ab" (4500 : Nat)), V.str (Txt.mul "ab" (4499 : Nat) ++ "f"), V.ref l5])) := upd_same (H := upd (upd (upd (upd (upd (upd (upd H5 t2 (.tup [])) l4 (.lst [])) d3 (.dK [])) t3 (.tup [V.str "a", V.str "b"])) t4 (.tup [V.str ""])) l5 (.lst [V.str "a"])) l6 (.lst [V.int 0, V.int 1, V.bl true, V.bl false, V.ref t2, V.ref l4, V.ref d3, V.ref t3, V.ref t4, V.int 97, V.str (Txt.mul "ab" (4500 : Nat)), V.str (Txt.mul "ab" (4499 : Nat) ++ "f"), V.ref l5]))
    generalize (upd (upd (upd (upd (upd (upd (upd (upd H5 t2 (.tup [])) l4 (.lst [])) d3 (.dK [])) t3 (.tup [V.str "a", V.str "b"])) t4 (.tup [V.str ""])) l5 (.lst [V.str "a"])) l6 (.lst [V.int 0, V.int 1, V.bl true, V.bl false, V.ref t2, V.ref l4, V.ref d3, V.ref t3, V.ref t4, V.int 97, V.str (Txt.mul "ab" (4500 : Nat)), V.str (Txt.mul "ab" (4499 : Nat) ++ "f"), V.ref l5])) l7 (.lst (L ++ [V.int 0, V.int 1, V.bl true, V.bl false, V.ref t2, V.ref l4, V.ref d3, V.ref t3, V.ref t4, V.int 97, V.str (Txt.mul "ab" (4500 : Nat)), V.str (Txt.mul "ab" (4499 : Nat) ++ "f"), V.ref l5]))) = H6 at P8 B8 x12 all23 ⊢
    generalize (L ++ [V.int 0, V.int 1, V.bl true, V.bl false, V.ref t2, V.ref l4, V.ref d3, V.ref t3, V.ref t4, V.int 97, V.str (Txt.mul "ab" (4500 : Nat)), V.str (Txt.mul "ab" (4499 : Nat) ++ "f"), V.ref l5]) = L2 at x12 all23 n23
    have sv : Sv C p (n + 8) H H6 L2 := ⟨P8, B8, all23⟩
    clear su1 su2 su3 su4 su5 su6 su7 su8 su9 sm
    refine ⟨_, rfl, _, rfl, rfl, (by show 1 ≤ sizeLine; decide), fun t5 ht5 => ?_⟩
    have sw1 := sv.grow (But.of_same (Same.new (o := .tup [V.str "a"]) ht5)) (sv.pot.up (sv.pot.ne ht5))
    refine ⟨t5, "a", 1, rfl, upd_same, (by decide +kernel), (by decide +kernel), fun H7 x dx fs s7 hx hi => ?_⟩
    have hx6 : H6 x = none := (Same.new ht5).free hx
    have px : p ≠ x := sv.pot.ne hx6
    have P7 : Pot H7 p (n + 8) := by
      obtain ⟨u, m, cc, e, rr⟩ := sw1.pot
      exact ⟨u, m, cc, s7 _ _ e, rr⟩
    have sw2 := (sw1.grow (But.of_same s7) P7).put (v := .ref x) (.inr (.inr (.inr (.inr ⟨x, rfl, px.symm, .inr (.inr (.inr ⟨dx, fs, hi⟩))⟩))))
    have lu : (Txt.upper z).length ≤ 3 * z.length := len_upper z
    have l1 : (z ++ "F").length = z.length + 1 := by
      rw [len_cs, cs_append, List.length_append]
      rfl
    have l2 : (("_" : Str) ++ z).length = 1 + z.length := by
      rw [len_cs, cs_append, List.length_append]
      rfl
    refine ⟨_, rfl, ⟨_, rfl⟩, z, rfl, rfl, (by omega), _, rfl, _, _, rfl, rfl, (by show z.length + 1 ≤ sizeLine; omega), _, rfl, _, _, rfl, rfl, (by show 1 + z.length ≤ sizeLine; omega), (by show 4 ≤ sizeLine; decide), fun l8 hl8 => ?_⟩
    have sw3 := (((sw2.put (Ko.str (z := Txt.upper z) (by omega))).put (Ko.str (z := z ++ "F") (by omega))).put (Ko.str (z := ("_" : Str) ++ z) (by omega))).new (o := .lst [V.ref x, V.str (Txt.upper z), V.str (z ++ "F"), V.str (("_" : Str) ++ z)]) hl8 (.inl ⟨_, rfl⟩)
    have x13 : upd H7 l8 (.lst [V.ref x, V.str (Txt.upper z), V.str (z ++ "F"), V.str (("_" : Str) ++ z)]) l7 = some (.lst L2) := (Same.new hl8) _ _ (s7 _ _ ((Same.new ht5) _ _ x12))
    refine ⟨l7, l8, L2, _, rfl, rfl, x13, upd_same, (by rw [n23]; show 23 + 4 ≤ sizeLine; decide), fun l9 hl9 => ?_⟩
    have sw4 := sw3.new (o := .lst (L2 ++ [V.ref x, V.str (Txt.upper z), V.str (z ++ "F"), V.str (("_" : Str) ++ z)])) hl9 (.inl ⟨_, rfl⟩)
    refine ⟨p, n + 8, sw4.pot, (by omega), .inl ⟨l9, _, rfl, (sw3.pot.ne hl9).symm, upd_same, (by rw [List.length_append, n23]; show 0 < 23 + 4; decide), (by rw [List.length_append, n23]; show 23 + 4 < 1000000; decide), fun H9 v N9 hv => ?_⟩⟩
    refine q _ _ (sw4.but.trans N9.but) (N9.pot.mono (by omega)) (Ko.but (sw4.all v ?_) N9.but)
    rcases List.mem_append.mp hv with hv | hv
    · simp [hv]
    · simp only [List.mem_cons, List.not_mem_nil, or_false] at hv
      rcases hv with rfl | rfl | rfl | rfl <;> simp
end
end Mk

set_option Elab.async false
set_option linter.all false
set_option maxRecDepth 100000
set_option maxHeartbeats 4000000
namespace Mk
open PySem L2 PyProof.Rows

abbrev sValR : Stmt := top 38
def jOf (g : Str → Bool) (v : V) : Bool := match v with
  | .str z => g z
  | _ => false
/-- what isinstance asks of the class -/
structure Pi (K : PySem.W.Frag) (C : Addr) : Prop where
  cl : Cls K C
  ha : PySem.W.findIn K (.ref C) "__class__" = some (some (.builtin "object.__class__"))
  hn : PySem.W.specialIn K (.builtin "object.__class__") "__get__" = some (some (.builtin "getset_descriptor.__get__"))
  ht : PySem.W.takesIn K (.builtin "object.__class__") = some true
  hm : PySem.W.mroIn K C (.type "object") = some true
  no : PySem.W.kitOne K (.ref C) (.type "str") = some false
theorem ko_kind {K : PySem.W.Frag} {C p : Addr} {H : Hp} {v : V} (I : Pi K C) (h : Ko C p H v) : (∃ z : Str, v = .str z ∧ z.length ≤ 100000) ∨ NoStr K H v := by
  rcases h with ⟨z, rfl, hz⟩ | rfl | ⟨b, rfl⟩ | ⟨i, rfl⟩ | ⟨a, rfl, _, h⟩
  · exact .inl ⟨z, rfl, hz⟩
  · exact .inr ⟨_, .base .non, kit_ty (by decide +kernel)⟩
  · exact .inr ⟨_, .base (.bl b), kit_ty (by decide +kernel)⟩
  · exact .inr ⟨_, .base (.int i), kit_ty (by decide +kernel)⟩
  · refine .inr ?_
    rcases h with ⟨x, h⟩ | ⟨x, h⟩ | ⟨x, h⟩ | ⟨x, y, h⟩
    · exact ⟨_, .base (.lst h), kit_ty (by decide +kernel)⟩
    · exact ⟨_, .base (.tup h), kit_ty (by decide +kernel)⟩
    · exact ⟨_, .base (.dK h), kit_ty (by decide +kernel)⟩
    · exact ⟨_, .base (.ins h I.cl I.ha I.hn I.ht I.hm), I.no⟩
/-- the two texts that are compared -/
theorem NoStr.at {K : PySem.W.Frag} {C p : Addr} {H H' : Hp} {v : V} (I : Pi K C) (h : Ko C p H v) (n : NoStr K H v) (b : But p H H') : NoStr K H' v := by
  rcases ko_kind I (h.but b) with ⟨z, rfl, _⟩ | k
  · obtain ⟨t, ty, e⟩ := n
    cases ty with
    | base q =>
      cases q
      have : PySem.W.kitOne K (.type "str") (.type "str") = some true := kit_ty (by decide +kernel)
      rw [this] at e
      cases e
  · exact k
def spValR : Sp := fun vs H Q _ => ∃ (p : Addr) (n : Nat), vs = [.ref p] ∧ Pot H p n ∧ n + 500 < PB ∧ ∀ H', But p H H' → Pot H' p (n + 400) → Q (.bl true) H'
theorem two_shown (x y : Bool) : (PyData.list [.bool x, .bool y]).showable = true ∧ (PyData.list [.bool x, .bool y]).hasDict = false ∧ (PyData.list [.bool x, .bool y]).depth ≤ 60 ∧ (PyData.list [.bool x, .bool y]).shown.length ≤ sizeLine := by
  cases x <;> cases y <;> decide +kernel
section
variable {P : Program} {w : World} {K : PySem.W.Frag} {mg : Str → Option Value} {base : Heap}
theorem scValR : FnScope ["_law_pot", "_law_turn", "_law_value_here", "_law_due", "_law_again"] ["_law_pot"] (defScope sValR) := ⟨rfl, rfl, rfl, by decide +kernel, rfl, by decide +kernel, by decide +kernel⟩
theorem ok_valR {f C : Addr} {fd : FuncData} (F : Fun K "_law_values_right" "_law_values_right" sValR f fd) (B : Bn mg) (mr : mg "repr" = none) (I : Pi K C) (V1 : Cd P w K mg base 9 "_law_value" ["_law_pot"] (spValue C)) (W1 : Cd P w K mg base 1 "_law_is_word" ["_law_value_here"] (spJudge wB K))
    (S2 : Cd P w K mg base 1 "is_sign" ["value"] (spJudge sgB K)) (W2 : Cd P w K mg base 1 "is_word" ["value"] (spJudge wB K)) : FnG P w K mg base CX0 10 f fd ["_law_pot"] spValR := by
  obtain ⟨a1, d1, G1, m1, k1, b1⟩ := V1.ex
  obtain ⟨a2, d2, G2, m2, k2, b2⟩ := W1.ex
  obtain ⟨a3, d3, G3, m3, k3, b3⟩ := S2.ex
  obtain ⟨a4, d4, G4, m4, k4, b4⟩ := W2.ex
  refine Fun_okG F scValR (fun vs H Q E h => ?_) (fun cdv A outer s H vs Q E hr gd h => ?_)
  · obtain ⟨p, n, rfl, _⟩ := h
    rfl
  · obtain ⟨p, n, rfl, hp, hn, q⟩ := h
    have r1 : Room 1 _ := hr.mono (by decide)
    have hu : A.units + 3 + 100 < cLine := by
      have h2 : A.units + 3 + 16 * 9 + 200 < cLine := hr.un
      omega
    refine ⟨_, pss_cons (ps_for PassesOwn.never rfl (pi_range1 (by rfl) B.range (pa_cons pe_int pa_nil)) (pg_name (i := 1) scValR.nd rfl (.inl rfl))
      (pss_cons (ps_set (i := 2) scValR.nd rfl (.inl rfl) (pe_call G1 hr (by rfl) m1 k1 b1 .nil pass0 (pa_cons (pv 0) pa_nil)))
      (pss_cons (ps_set (i := 3) scValR.nd rfl (.inl rfl) (pe_lst (pa_cons (pe_and (pe_call G2 r1 (by rfl) m2 k2 b2 .nil pass0 (pa_cons (pv 2) pa_nil)) (pe_one (pe_cmpR op_eq (pe_callB call_len (by rfl) B.len PySem.boot_len (pa_cons (pv 2) pa_nil)) pe_int (nomark _))))
        (pa_cons (pe_call G2 r1 (by rfl) m2 k2 b2 .nil pass0 (pa_cons (pv 2) pa_nil)) pa_nil))))
      (pss_one (ps_for PassesOwn.never rfl (pi_range1 (by rfl) B.range (pa_cons pe_int pa_nil)) (pg_name (i := 4) scValR.nd rfl (.inl rfl))
        (pss_one (ps_if (pt_cmpR op_ne (pe_callB (call_reprD gd hu) (by rfl) mr (by decide +kernel) (pa_cons (pe_lst (pa_cons (pe_call G3 r1 (by rfl) m3 k3 b3 .nil pass0 (pa_cons (pv 2) pa_nil)) (pa_cons (pe_call G4 r1 (by rfl) m4 k4 b4 .nil pass0 (pa_cons (pv 2) pa_nil)) pa_nil))) pa_nil))
            (pe_callB (call_reprD gd hu) (by rfl) mr (by decide +kernel) (pa_cons (pv 3) pa_nil)) (nomark _)) (pss_one (ps_ret pe_bl)) pss_nil)))))))
      (pss_one (ps_ret pe_bl)), ?_⟩
    refine ⟨4, rfl, by decide, by decide, for_range (lo := 0) (n := 4) (fun i σ H1 => (∃ o1 o2 o3 o4, σ = [some (.ref p), o1, o2, o3, o4]) ∧ But p H H1 ∧ Pot H1 p (n + 100 * i)) ⟨⟨_, _, _, _, rfl⟩, But.refl, hp⟩ ?_ ?_⟩
    · rintro i σ H1 hi ⟨⟨o1, o2, o3, o4, rfl⟩, hB, hP⟩
      refine ⟨_, rfl, p, n + 100 * i, rfl, hP, (by omega), fun H2 v bu P2 ko => ?_⟩
      rcases ko_kind I ko with ⟨z, rfl, hz⟩ | ns
      · have zl : z.length ≤ sizeLine := Nat.le_trans hz (by decide)
        have first : sgB z = (if wB z = true then decide (z.length = 1) else false) := by
          unfold sgB
          cases wB z <;> simp
        refine ⟨_, rfl, _, rfl, .inl ⟨z, rfl, hz, _, rfl, ?_⟩⟩
        cases e : wB z with
        | true =>
          rw [e, if_pos rfl] at first
          refine iteT ⟨_, rfl, _, _, rfl, ⟨zl, rfl⟩, rfl, ?_⟩
          have e1 : decide (V.int (z.length : Nat) = V.int 1) = sgB z := by
            rw [first, dec_int, Bool.eq_iff_iff]
            simp
            omega
          rw [e1]
          refine ⟨_, rfl, _, rfl, .inl ⟨z, rfl, hz, (by show 2 ≤ sizeLine; decide), fun D hD => ?_⟩⟩
          have pD := P2.ne hD
          refine ⟨2, rfl, by decide, by decide, for_range (lo := 0) (n := 2) (fun _ σ H4 => (∃ o5, σ = [some (.ref p), some (.int (0 + (i : Int))), some (V.str z), some (.ref D), o5]) ∧ But p H H4 ∧ Pot H4 p (n + 100 * i + 100) ∧ H4 D = some (.lst [.bl (sgB z), .bl (wB z)]) ∧ True) ⟨⟨_, rfl⟩, (hB.trans bu).same (Same.new hD), P2.up pD, upd_same, trivial⟩ ?_ ?_⟩
          · rintro i2 σ H4 hi2 ⟨⟨o5, rfl⟩, B4, P4, hD4, _⟩
            refine ⟨_, rfl, _, rfl, .inl ⟨z, rfl, hz, _, rfl, _, rfl, .inl ⟨z, rfl, hz, (by show 2 ≤ sizeLine; decide), fun a ha => ?_⟩⟩⟩
            have s5 : Same H4 (upd H4 a (.lst [.bl (sgB z), .bl (wB z)])) := Same.new ha
            obtain ⟨w1, w2, w3, w4⟩ := two_shown (sgB z) (wB z)
            refine ⟨a, .list [.bool (sgB z), .bool (wB z)], rfl, .lst (SqL.of upd_same) (.cons (.bl _) (.cons (.bl _) .nil)), w1, w2, w3, w4, ?_⟩
            refine ⟨_, rfl, D, .list [.bool (sgB z), .bool (wB z)], rfl, .lst (SqL.of (s5 _ _ hD4)) (.cons (.bl _) (.cons (.bl _) .nil)), w1, w2, w3, w4, rfl, _, rfl, ?_⟩
            rw [decide_eq_true rfl]
            exact iteF ⟨⟨_, rfl⟩, B4.same s5, P4.up (P4.ne ha), s5 _ _ hD4, trivial⟩
          · rintro σ H4 ⟨⟨o5, rfl⟩, B4, P4, hD4, _⟩
            exact ⟨⟨_, _, _, _, rfl⟩, B4, P4.mono (by omega)⟩
        | false =>
          rw [e, if_neg (by decide)] at first
          refine iteF ?_
          refine ⟨_, rfl, _, rfl, .inl ⟨z, rfl, hz, (by show 2 ≤ sizeLine; decide), fun D hD => ?_⟩⟩
          have pD := P2.ne hD
          refine ⟨2, rfl, by decide, by decide, for_range (lo := 0) (n := 2) (fun _ σ H4 => (∃ o5, σ = [some (.ref p), some (.int (0 + (i : Int))), some (V.str z), some (.ref D), o5]) ∧ But p H H4 ∧ Pot H4 p (n + 100 * i + 100) ∧ H4 D = some (.lst [.bl false, .bl false]) ∧ True) ⟨⟨_, rfl⟩, (hB.trans bu).same (Same.new hD), P2.up pD, (by rw [upd_same, e]), trivial⟩ ?_ ?_⟩
          · rintro i2 σ H4 hi2 ⟨⟨o5, rfl⟩, B4, P4, hD4, _⟩
            refine ⟨_, rfl, _, rfl, .inl ⟨z, rfl, hz, _, rfl, _, rfl, .inl ⟨z, rfl, hz, (by show 2 ≤ sizeLine; decide), fun a ha => ?_⟩⟩⟩
            rw [first, e]
            have s5 : Same H4 (upd H4 a (.lst [.bl false, .bl false])) := Same.new ha
            obtain ⟨w1, w2, w3, w4⟩ := two_shown false false
            refine ⟨a, .list [.bool false, .bool false], rfl, .lst (SqL.of upd_same) (.cons (.bl _) (.cons (.bl _) .nil)), w1, w2, w3, w4, ?_⟩
            refine ⟨_, rfl, D, .list [.bool false, .bool false], rfl, .lst (SqL.of (s5 _ _ hD4)) (.cons (.bl _) (.cons (.bl _) .nil)), w1, w2, w3, w4, rfl, _, rfl, ?_⟩
            rw [decide_eq_true rfl]
            exact iteF ⟨⟨_, rfl⟩, B4.same s5, P4.up (P4.ne ha), s5 _ _ hD4, trivial⟩
          · rintro σ H4 ⟨⟨o5, rfl⟩, B4, P4, hD4, _⟩
            exact ⟨⟨_, _, _, _, rfl⟩, B4, P4.mono (by omega)⟩
      · refine ⟨_, rfl, _, rfl, .inr ⟨ns, _, rfl, iteF ?_⟩⟩
        refine ⟨_, rfl, _, rfl, .inr ⟨ns, (by show 2 ≤ sizeLine; decide), fun D hD => ?_⟩⟩
        have pD := P2.ne hD
        refine ⟨2, rfl, by decide, by decide, for_range (lo := 0) (n := 2) (fun _ σ H4 => (∃ o5, σ = [some (.ref p), some (.int (0 + (i : Int))), some v, some (.ref D), o5]) ∧ But p H H4 ∧ Pot H4 p (n + 100 * i + 100) ∧ H4 D = some (.lst [.bl false, .bl false]) ∧ Ko C p H4 v ∧ NoStr K H4 v) ⟨⟨_, rfl⟩, (hB.trans bu).same (Same.new hD), P2.up pD, upd_same, ko.but (But.of_same (Same.new hD)), ns.at I ko (But.of_same (Same.new hD))⟩ ?_ ?_⟩
        · rintro i2 σ H4 hi2 ⟨⟨o5, rfl⟩, B4, P4, hD4, ko4, ns4⟩
          refine ⟨_, rfl, _, rfl, .inr ⟨ns4, _, rfl, _, rfl, .inr ⟨ns4, (by show 2 ≤ sizeLine; decide), fun a ha => ?_⟩⟩⟩
          have s5 : Same H4 (upd H4 a (.lst [.bl false, .bl false])) := Same.new ha
          obtain ⟨w1, w2, w3, w4⟩ := two_shown false false
          refine ⟨a, .list [.bool false, .bool false], rfl, .lst (SqL.of upd_same) (.cons (.bl _) (.cons (.bl _) .nil)), w1, w2, w3, w4, ?_⟩
          refine ⟨_, rfl, D, .list [.bool false, .bool false], rfl, .lst (SqL.of (s5 _ _ hD4)) (.cons (.bl _) (.cons (.bl _) .nil)), w1, w2, w3, w4, rfl, _, rfl, ?_⟩
          rw [decide_eq_true rfl]
          exact iteF ⟨⟨_, rfl⟩, B4.same s5, P4.up (P4.ne ha), s5 _ _ hD4, ko4.but (But.of_same s5), ns4.at I ko4 (But.of_same s5)⟩
        · rintro σ H4 ⟨⟨o5, rfl⟩, B4, P4, hD4, ko4, ns4⟩
          exact ⟨⟨_, _, _, _, rfl⟩, B4, P4.mono (by omega)⟩
    · rintro σ H1 ⟨⟨o1, o2, o3, o4, rfl⟩, hB, hP⟩
      exact q _ hB hP
end
end Mk

set_option Elab.async false
set_option linter.all false
set_option maxRecDepth 100000
set_option maxHeartbeats 4000000
namespace Mk
open PySem PySem.Spec PyProof.Rows L2

section
variable {prog : Program} {w : World} {A : Around} {E : Value → Shared → Prop} {s : Shared}
theorem places_back (n : Nat) : Builtin.Slice.slicePlaces ((n : Int) - 1) (-1) (-1) = n := by
  unfold Builtin.Slice.slicePlaces
  rw [if_neg (by decide)]
  by_cases h : (n : Int) - 1 > -1
  · rw [if_pos h]
    have e : ((n : Int) - 1 - -1 - 1) / (- -1) + 1 = (n : Int) := by
      rw [show (- -1 : Int) = 1 by decide, Int.ediv_one]
      omega
    rw [e]
    omega
  · rw [if_neg h]
    show 0 = n
    omega
theorem applied_back {sl : Addr} {vl vu vs : Value} {n : Nat} {Q : Int × Int × Nat → Shared → Prop} (hs : s.heap.IsSliceOf sl vl vu vs) (pl : IsPart vl none) (pu : IsPart vu none) (ps : IsPart vs (some (-1)))
    (h : Q ((n : Int) - 1, -1, n) s) : wpAny (model prog w) A (Builtin.Slice.sliceApplied (.ref sl) (pure (n : Int))) Q E s := by
  obtain ⟨os, hos, hcs, hds⟩ := id hs
  unfold Builtin.Slice.sliceApplied Builtin.Slice.sliceFields
  refine wpAny_bind (wpAny_bind (wpAny_field hos hds (x := vl) rfl (wpAny_bind (wpAny_field hos hds (x := vu) rfl (wpAny_bind (wpAny_field hos hds (x := vs) rfl (wpAny_pure ?_)))))))
  refine wpAny_bind (HT.slicePart_ ps ?_)
  show wpAny _ _ (if ((-1 : Int) == 0) = true then _ else _) _ _ s
  rw [if_neg (by decide)]
  refine wpAny_bind (HT.slicePart_ pl (wpAny_bind (HT.slicePart_ pu (wpAny_bind (wpAny_pure ?_)))))
  show wpAny _ _ (pure ((n : Int) - 1, (-1 : Int), Builtin.Slice.slicePlaces ((n : Int) - 1) (-1) (-1))) _ _ s
  rw [places_back]
  exact wpAny_pure h
theorem pick_back (xs : Array Value) : ((List.range xs.size).filterMap fun (m : Nat) => xs[((xs.size : Int) - 1 + (m : Int) * -1).toNat]?).toArray = xs.toList.reverse.toArray := by
  have e : (List.range xs.size).filterMap (fun (m : Nat) => xs[((xs.size : Int) - 1 + (m : Int) * -1).toNat]?) = ((List.range xs.size).map fun m => xs.size - 1 - m).filterMap (xs[·]?) := by
    rw [List.filterMap_map]
    have g : ∀ l : List Nat, (∀ m ∈ l, m < xs.size) → l.filterMap (fun (m : Nat) => xs[((xs.size : Int) - 1 + (m : Int) * -1).toNat]?) = l.filterMap ((xs[·]?) ∘ fun m => xs.size - 1 - m) := by
      intro l
      induction l with
      | nil => exact fun _ => rfl
      | cons m t ih =>
        intro h
        have := h m List.mem_cons_self
        have q : ((xs.size : Int) - 1 + (m : Int) * -1).toNat = xs.size - 1 - m := by omega
        rw [List.filterMap_cons, List.filterMap_cons, ih fun x hx => h x (List.mem_cons_of_mem _ hx), q]
        rfl
    exact g _ fun m hm => List.mem_range.mp hm
  rw [e, PySem.W.krv_range, List.filterMap_reverse, PySem.W.krv_all]
theorem getItem_tuple_back {t sl : Addr} {items : Array Value} {vl vu vs : Value} {Q : Value → Shared → Prop} (ht : IsTup s.heap t items) (hs : s.heap.IsSliceOf sl vl vu vs) (pl : IsPart vl none) (pu : IsPart vu none) (ps : IsPart vs (some (-1)))
    (h : Q (.ref s.heap.objs.size) { s with heap := s.heap.push { cls := .type "tuple", data := .seq items.toList.reverse.toArray } }) (hsz : items.size ≤ sizeLine) : wpAny (model prog w) A (getItem (.ref t) (.ref sl)) Q E s := by
  have ok : sizeOk (.seq items.toList.reverse.toArray) := by
    show items.toList.reverse.toArray.size ≤ sizeLine
    rw [List.size_toArray, List.length_reverse, Array.length_toList]
    exact hsz
  obtain ⟨os, hos, hcs, hds⟩ := id hs
  have tS : s.TypeIs (.ref sl) "slice" := ⟨os, hos, hcs⟩
  unfold getItem
  try with_reducible refine wpAny_holding ?_
  first | refine wpAny_bind (wpAny_pure ?_) | skip
  refine wpAny_bind (wpAny_sequenceKey ht.typeIs (by decide) ?_)
  refine wpAny_bind (wpAny_callSpecial?_slot (name := Str.ofString "__getitem__") ht.typeIs slot_tuple_getitem (wpAny_call_entry slot_tuple_getitem ht.typeIs entry_tuple_getitem ?_ (args_tuple_getitem _ _)))
  show wpAny _ _ (Builtin.Tuple.tupleItemsOf (.ref t) >>= _) _ _ s
  refine wpAny_bind (tupleItemsOf_ ht (wpAny_bind (wpAny_typeOf tS ?_)))
  rw [if_pos (by decide)]
  refine wpAny_bind (applied_back hs pl pu ps ?_)
  have no : ¬ (((items.size : Int) - 1 == 0 && (-1 : Int) == 1 && items.size == items.size) = true) := by
    simp
  show wpAny _ _ (if ((items.size : Int) - 1 == 0 && (-1 : Int) == 1 && items.size == items.size) = true then _ else _) _ _ s
  rw [if_neg no, pick_back]
  first
    | exact wpAny_bind (m := Builtin.Tuple.tupleExact _) (wpAny_newObj_type (wpAny_pure ⟨_, rfl, wpAny_pure h⟩) ok)
    | exact wpAny_bind (m := Builtin.Tuple.tupleExact _) (wpAny_newObj_type (wpAny_bind (wpAny_pure (wpAny_pure ⟨_, rfl, wpAny_pure h⟩))) ok)
    | exact wpAny_bind (wpAny_bind (m := Builtin.Tuple.tupleExact _) (wpAny_newObj_type (wpAny_pure (wpAny_pure ⟨_, rfl, wpAny_pure h⟩)) ok))
    | exact wpAny_bind (wpAny_bind (m := Builtin.Tuple.tupleExact _) (wpAny_newObj_type (wpAny_pure ⟨_, rfl, wpAny_pure h⟩) ok))
end
/-- t[::-1], a tuple -/
def tRevT (K : PySem.W.Frag) (te : TE) : TE := fun σ H Q => te σ H fun x H1 => ∃ a xs, x = .ref a ∧ SqT K H1 a xs ∧ ∀ p, H1 p = none → Q (.ref p) (upd H1 p (.tup xs.reverse))
section
variable {X : Cx}
theorem pe_revT {e : Expr} {te : TE} {k : Nat} {p1 p2 p3 pos : Pos} (he : PE X e te) : PE X (.Subscript e (.Slice none none (some (.UnaryOp .USub (.Constant (.int 1) k p1) p2)) p3) pos) (tRevT X.K te) := by
  refine ⟨fun pins s σ H Q I h => Subscript_ (thn (he.run pins s σ H _ I h) fun v s1 ⟨x, H1, I1, r1, a, xs, ex, hx, q⟩ => ?_)⟩
  subst ex
  obtain rfl : v = Value.ref a := r1
  have st : PO X (some (.UnaryOp .USub (.Constant (.int 1) k p1) p2)) (tPart (tUn (rU fun i => .int (-i)) (tC (.int 1)))) := po_some (pe_un un_neg pe_int)
  refine wpAny_Slice (thn (po_none.run pins s1 σ H1 (fun o H2 => o = none ∧ H2 = H1) I1 ⟨rfl, rfl⟩) fun vl s2 ⟨l, H2, I2, pl, el, e2⟩ => ?_)
  subst el e2
  refine thn (po_none.run pins s2 σ H2 (fun o H3 => o = none ∧ H3 = H2) I2 ⟨rfl, rfl⟩) fun vu s3 ⟨u, H3, I3, pu, eu, e3⟩ => ?_
  subst eu e3
  refine thn (st.run pins s3 σ H3 (fun o H4 => o = some (-1) ∧ H4 = H3) I3 ⟨1, rfl, -1, rfl, rfl, rfl⟩) fun vs s4 ⟨o, H4, I4, ps, eo, e4⟩ => ?_
  subst eo e4
  have I5 : Inv X pins σ H4 { s4 with heap := s4.heap.push { cls := .type "slice", data := .fields #[vl, vu, vs] } } := I4.kept (t' := s4.toks) fun b ob q => Heap.get?_push_of_some _ q
  obtain ⟨its, r, ht, hz⟩ := I5.tuple hx
  have ln := r.length
  have hT : IsTup (s4.heap.push { cls := .type "slice", data := .fields #[vl, vu, vs] }) a its.toArray := by
    obtain ⟨o, e1, e2, n, e3⟩ := ht
    exact ⟨o, e1, e2, n, e3⟩
  show wpAny (model X.prog X.w) X.A (subscriptTail e (.Slice none none (some (.UnaryOp .USub (.Constant (.int 1) k p1) p2)) p3) (.ref a) (.ref s4.heap.objs.size)) (EP X pins σ Q) X.xe { s4 with heap := s4.heap.push { cls := .type "slice", data := .fields #[vl, vu, vs] } }
  refine tail_any (ops := [.ref a, .ref s4.heap.objs.size]) hT.typeIs (slot_tuple_getitem.lookup) ?_ (by with_unfolding_all rfl)
  refine getItem_tuple_back hT (Heap.IsSliceOf.new _ vl vu vs) pl pu ps ?_ (by rw [List.size_toArray]; omega)
  refine ⟨.ref _, _, I5.laid (t' := s4.toks) (o := .tup xs.reverse) (fun b ob q => Heap.get?_push_of_some _ q) (Nat.le_refl _) ?_, rfl, q _ (I5.hok.fresh (Nat.le_refl _))⟩
  exact ⟨by rw [List.length_reverse]; exact hz, _, r.reverse, _, Heap.get?_push_size _ rfl, rfl, _, rfl⟩
end
end Mk

set_option Elab.async false
set_option linter.all false
set_option maxRecDepth 100000
set_option maxHeartbeats 4000000
namespace Mk
open PySem L2 PyProof.Rows

abbrev sOrdR : Stmt := top 39
/-! ### rows of words -/
theorem strV_of {R : Str → Prop} : ∀ {vs : List V}, (∀ v ∈ vs, ∃ z : Str, v = .str z ∧ R z) → ∃ zs : List Str, vs = zs.map V.str ∧ ∀ z ∈ zs, R z
  | [], _ => ⟨[], rfl, fun _ h => nomatch h⟩
  | v :: vs, h => by
    obtain ⟨z, rfl, hz⟩ := h v List.mem_cons_self
    obtain ⟨zs, rfl, hs⟩ := strV_of fun x hx => h x (List.mem_cons_of_mem _ hx)
    refine ⟨z :: zs, rfl, fun y hy => ?_⟩
    rcases List.mem_cons.mp hy with rfl | hy
    · exact hz
    · exact hs y hy
theorem ahB_irrefl (x : Str) : ahB x x = false := by
  unfold ahB
  rw [decide_eq_false (Nat.lt_irrefl _), decide_eq_false (List.lt_irrefl _)]
  simp
theorem ahB_asymm {x y : Str} (h1 : ahB x y = true) (h2 : ahB y x = true) : False := by
  simp only [ahB, Bool.or_eq_true, Bool.and_eq_true, decide_eq_true_eq] at h1 h2
  rcases h1 with h1 | ⟨e, h1⟩
  · omega
  · rcases h2 with h2 | ⟨_, h2⟩
    · omega
    · exact List.lt_asymm h1 h2
theorem asc_one : ∀ {xs ys : List Str}, xs.Pairwise (fun x y => ahB x y = true) → ys.Pairwise (fun x y => ahB x y = true) → (∀ z, z ∈ xs ↔ z ∈ ys) → xs = ys
  | [], ys, _, _, m => by
    cases ys with
    | nil => rfl
    | cons y t => exact absurd ((m y).mpr List.mem_cons_self) (by simp)
  | x :: xs, [], _, _, m => absurd ((m x).mp List.mem_cons_self) (by simp)
  | x :: xs, y :: ys, p, q, m => by
    obtain ⟨p1, p2⟩ := List.pairwise_cons.mp p
    obtain ⟨q1, q2⟩ := List.pairwise_cons.mp q
    have e : x = y := by
      rcases List.mem_cons.mp ((m x).mp List.mem_cons_self) with e | h
      · exact e
      · rcases List.mem_cons.mp ((m y).mpr List.mem_cons_self) with e | k
        · exact e.symm
        · exact (ahB_asymm (q1 x h) (p1 y k)).elim
    subst e
    rw [asc_one p2 q2 fun z => ?_]
    constructor
    · intro h
      rcases List.mem_cons.mp ((m z).mp (List.mem_cons_of_mem _ h)) with e | k
      · exact absurd (p1 z h) (by rw [e, ahB_irrefl]; decide)
      · exact k
    · intro h
      rcases List.mem_cons.mp ((m z).mpr (List.mem_cons_of_mem _ h)) with e | k
      · exact absurd (q1 z h) (by rw [e, ahB_irrefl]; decide)
      · exact k
theorem Asc.one {zs ws xs ys : List Str} (a : Asc zs xs) (b : Asc ws ys) (m : ∀ z, z ∈ zs ↔ z ∈ ws) : xs = ys :=
  asc_one a.up b.up fun z => (a.mem z).trans ((m z).trans (b.mem z).symm)
theorem inV_strs {z : Str} {zs : List Str} (h : z ∈ zs) : inV (.str z) (zs.map V.str) = true := by
  unfold inV
  rw [List.any_map]
  refine List.any_eq_true.mpr ⟨z, h, ?_⟩
  show eqV (.str z) (.str z) = true
  simp [eqV]
theorem flat_strs (zs : List Str) : (zs.map V.str).all flatV = true := by
  rw [List.all_map]
  exact List.all_eq_true.mpr fun _ _ => rfl
section
variable {X : Cx}
theorem ix_tupK (K : PySem.W.Frag) (hK : X.K = K := by rfl) : IxR X (rIxT K) := by
  subst hK
  exact ix_tup
theorem notInK (K : PySem.W.Frag) (hK : X.K = K := by rfl) : OpR X (compareOp .NotIn) (rIn K true) := by
  subst hK
  exact op_notIn_seq
end
theorem pot_same {H H' : Hp} {p : Addr} {n : Nat} (h : Same H H') (P : Pot H p n) : Pot H' p n := by
  obtain ⟨u, m, c, e, r⟩ := P
  exact ⟨u, m, c, h _ _ e, r⟩
theorem lay_bls : ∀ n : Nat, PyData.canLayAll0 (List.replicate n (PyData.bool true)) = true
  | 0 => by simp [PyData.canLayAll0]
  | n + 1 => by simp [List.replicate_succ, PyData.canLayAll0, PyData.canLay0, lay_bls n]
theorem depth_bls : ∀ n : Nat, PyData.depthAll (List.replicate n (PyData.bool true)) = 0
  | 0 => by simp [PyData.depthAll]
  | n + 1 => by simp [List.replicate_succ, PyData.depthAll, PyData.depth, depth_bls n]
theorem shaped_bls (n : Nat) : SeqAt.shaped (.list (List.replicate n (PyData.bool true))) = true := by
  unfold SeqAt.shaped
  simp [PyData.canLay0, PyData.depth, lay_bls n, depth_bls]
theorem dpAll_bls {K : PySem.W.Frag} {H : Hp} : ∀ n : Nat, DpAll K H (List.replicate n (V.bl true)) (List.replicate n (PyData.bool true))
  | 0 => .nil
  | n + 1 => .cons (.bl true) (dpAll_bls n)
theorem shaped_nilT : SeqAt.shaped (.tuple []) = true := by decide +kernel
theorem shaped_nilL : SeqAt.shaped (.list []) = true := by decide +kernel
theorem nil_nil : PyData.eqv (.list []) (.list []) = true := SeqAt.eqv_refl _ (SeqAt.canLay_of_shaped shaped_nilL)
theorem nil_nilT : PyData.eqv (.tuple []) (.tuple []) = true := SeqAt.eqv_refl _ (SeqAt.canLay_of_shaped shaped_nilT)
theorem cons_nilT (x : PyData) (xs : List PyData) : PyData.eqv (.tuple (x :: xs)) (.tuple []) = false := by
  simp [PyData.eqv, PyData.eqvAll]
def spOrdR : Sp := spValR
structure Tn (mg : Str → Option Value) : Prop where
  tuple : mg "tuple" = none
section
variable {P : Program} {w : World} {K : PySem.W.Frag} {mg : Str → Option Value} {base : Heap}
theorem scOrdR : FnScope ["_law_pot", "_law_words", "_law_found", "_law_kept", "_law_pairs", "_law_turn", "_law_word_here", "_law_at"] ["_law_pot"] (defScope sOrdR) := ⟨rfl, rfl, rfl, by decide +kernel, rfl, by decide +kernel, by decide +kernel⟩
theorem ok_ordR {f : Addr} {fd : FuncData} (F : Fun K "_law_order_right" "_law_order_right" sOrdR f fd) (B : Bn mg) (W : Wn mg) (O : On mg) (D : Cd P w K mg base 1 "_law_dip" ["_law_pot", "_law_total"] spDip) (C : Cd P w K mg base 2 "_law_choose" ["_law_pot", "_law_items"] spChoose)
    (Wo : Cd P w K mg base 3 "_law_word" ["_law_pot", "_law_most"] spWord) (Sh : Cd P w K mg base 2 "_law_shuffled" ["_law_pot", "_law_items"] spShuf) (Rd : Cd P w K mg base 2 "ordered" ["words"] (spOrdered K)) (Ahd : Cd P w K mg base 1 "_law_is_ahead" ["_law_one", "_law_other"] spAhead) : FnOk P w K mg base CX0 4 f fd ["_law_pot"] spOrdR := by
  obtain ⟨d, dd, Gd, dm, dk, db⟩ := D.ex
  obtain ⟨c, dc, Gc, cm, ck, cb⟩ := C.ex
  obtain ⟨a1, d1, Gw, wm, wk, wb⟩ := Wo.ex
  obtain ⟨a2, d2, Gs, sm, sk, sb⟩ := Sh.ex
  obtain ⟨a3, d3, Go, om, ok, ob⟩ := Rd.ex
  obtain ⟨a4, d4, Ga, am, ak, ab⟩ := Ahd.ex
  refine F.ok scOrdR (fun vs H Q E h => ?_) (fun cdv A outer s H vs Q E hr h => ?_)
  · obtain ⟨p, n, rfl, _⟩ := h
    rfl
  · obtain ⟨p, n, rfl, hp, hn, q⟩ := h
    have hu : A.units + 3 + 64 < cLine := by
      have h2 : A.units + 3 + 16 * 3 + 200 < cLine := hr.un
      omega
    have r1 : Room 1 _ := hr.mono (by decide)
    have r2 : Room 2 _ := hr.mono (by decide)
    refine ⟨_, pss_cons (ps_set (i := 1) scOrdR.nd rfl (.inr rfl) (pe_lc (own := [("_law_turn", 5)]) (g := gName 5) (tt := tYes) rfl scOrdR.nd (pi_range1 (by rfl) B.range (pa_cons (pe_call Gd r1 (by rfl) dm dk db .nil pass0 (pa_cons (pv 0) (pa_cons pe_int pa_nil))) pa_nil)) (blkOk_by (N := ["_law_pot", "_law_words", "_law_found", "_law_kept", "_law_pairs", "_law_turn", "_law_word_here", "_law_at"]) (sc := defScope sOrdR) (by decide +kernel))
        (fun _ _ _ _ _ => pg_name (i := 5) scOrdR.nd rfl (Or.inl rfl)) (fun _ _ _ _ _ => pts_nil)
        (fun _ _ _ _ _ => pe_call Gw hr (by rfl) wm wk wb .nil pass0 (pa_cons (pv 0) (pa_cons (pe_call Gc r2 (by rfl) cm ck cb .nil pass0 (pa_cons (pv 0) (pa_cons (pe_lst (pa_cons pe_int (pa_cons pe_int (pa_cons pe_int pa_nil)))) pa_nil))) pa_nil)))))
      (pss_cons (ps_set (i := 1) scOrdR.nd rfl (.inr rfl) (pe_callTy call_tuple_of (by rfl) O.tuple (by decide +kernel) (pa_cons (pe_call Gs r2 (by rfl) sm sk sb .nil pass0 (pa_cons (pv 0) (pa_cons (pe_op op_cat (pv 1) (pe_slice sl_list (pv 1) po_none (po_some (pe_call Gd r1 (by rfl) dm dk db .nil pass0 (pa_cons (pv 0) (pa_cons pe_int pa_nil)))))) pa_nil))) pa_nil)))
      (pss_cons (ps_asg (pe_tup (pa_cons (pe_call Go r2 (by rfl) om ok ob .nil pass0 (pa_cons (pv 1) pa_nil)) (pa_cons (pe_call Go r2 (by rfl) om ok ob .nil pass0 (pa_cons (pv 1) pa_nil)) pa_nil))) (pg_tup rfl (pgs_cons (pg_name (i := 2) scOrdR.nd rfl (.inr rfl)) (pgs_cons (pg_name (i := 3) scOrdR.nd rfl (.inl rfl)) pgs_nil))))
      (pss_cons (ps_if (PW.pt (pw_or (pt_not (pt_val (pe_callB call_isi (by rfl) W.isi (by decide +kernel) (pa_cons (pv 2) (pa_cons (pe_bltn (v := .ty "tuple") (u := .type "tuple") (by rfl) O.tuple (by decide +kernel) rfl) pa_nil)))))
          (pw_or (pt_cmpR (op_neD hu) (pv 2) (pv 3) (nomark _))
          (pw_or (pt_cmpR (op_neD hu) (pe_call Go r2 (by rfl) om ok ob .nil pass0 (pa_cons (pv 2) pa_nil)) (pv 2) (nomark _))
          (pw_or1 (pt_cmpR (op_neD hu) (pe_call Go r2 (by rfl) om ok ob .nil pass0 (pa_cons (pe_revT (pv 1)) pa_nil)) (pv 2) (nomark _))))))) (pss_one ps_never) pss_nil)
      (pss_cons (ps_if (PW.pt (pw_or (pt_cmpR (op_neD hu) (pe_lc (own := [("_law_word_here", 6)]) (g := gName 6) rfl scOrdR.nd (pi_tup (pv 2)) (blkOk_by (N := ["_law_pot", "_law_words", "_law_found", "_law_kept", "_law_pairs", "_law_turn", "_law_word_here", "_law_at"]) (sc := defScope sOrdR) (by decide +kernel))
            (fun _ _ _ _ _ => pg_name (i := 6) scOrdR.nd rfl (Or.inl rfl)) (fun _ _ _ _ _ => pts_one (pt_cmpR (notInK K) (pv 6) (pv 1) (by rfl))) (fun _ _ _ _ _ => pv 6)) (pe_lst pa_nil) (nomark _))
          (pw_or1 (pt_cmpR (op_neD hu) (pe_lc (own := [("_law_word_here", 6)]) (g := gName 6) rfl scOrdR.nd (pi_tup (pv 1)) (blkOk_by (N := ["_law_pot", "_law_words", "_law_found", "_law_kept", "_law_pairs", "_law_turn", "_law_word_here", "_law_at"]) (sc := defScope sOrdR) (by decide +kernel))
            (fun _ _ _ _ _ => pg_name (i := 6) scOrdR.nd rfl (Or.inl rfl)) (fun _ _ _ _ _ => pts_one (pt_cmpR (notInK K) (pv 6) (pv 2) (by rfl))) (fun _ _ _ _ _ => pv 6)) (pe_lst pa_nil) (nomark _))))) (pss_one ps_never) pss_nil)
      (pss_cons (ps_setLc (i := 4) (own := [("_law_at", 7)]) (g := gName 7) (tt := tYes) rfl scOrdR.nd rfl rfl (sw_true rfl rfl rfl rfl) (pi_range1 (by rfl) B.range (pa_cons (pe_op op_sub (pe_callB call_len_seq (by rfl) B.len PySem.boot_len (pa_cons (pv 2) pa_nil)) pe_int) pa_nil)) (blkOk_by (N := ["_law_pot", "_law_words", "_law_found", "_law_kept", "_law_pairs", "_law_turn", "_law_word_here", "_law_at"]) (sc := defScope sOrdR) (by decide +kernel))
        (fun _ _ _ _ _ => pg_name (i := 7) scOrdR.nd rfl (Or.inl rfl)) (fun _ _ _ _ _ => pts_nil)
        (fun _ _ _ _ _ => pe_call Ga r1 (by rfl) am ak ab .nil pass0 (pa_cons (pe_ix (ix_tupK K) (pv 2) (pv 7) (fun _ _ => rfl)) (pa_cons (pe_ix (ix_tupK K) (pv 2) (pe_op op_add (pv 7) pe_int) (fun _ _ => rfl)) pa_nil))))
      (pss_one (ps_ret (pe_ifExp (pt_cmpR (op_neD hu) (pv 2) (pe_tup pa_nil) (nomark _))
        (pe_cmpR (op_eqD hu) (pv 4) (pe_op op_rep (pe_lst (pa_cons pe_bl pa_nil)) (pe_op op_sub (pe_callB call_len_seq (by rfl) B.len PySem.boot_len (pa_cons (pv 2) pa_nil)) pe_int)) (nomark _))
        (pe_cmpR (op_eqD hu) (pv 1) (pe_tup pa_nil) (nomark _)))))))))), ?_⟩
    refine ⟨_, rfl, p, n, 8, rfl, hp, (by omega), (by decide), (by decide), fun H1 k b1 f1 P1 k0 k1 => ?_⟩
    refine ⟨k, rfl, by omega, by omega, fun D hD => ?_⟩
    have pD := P1.ne hD
    have D0 : H D = none := by
      cases e : H D with
      | none => rfl
      | some o => have := b1 D o pD.symm e; rw [hD] at this; cases this
    refine lc_range (lo := 0) (n := k.toNat) (fun i H2 => ∃ ys : List Str, But p H H2 ∧ H2 D = some (.lst (ys.map V.str)) ∧ ys.length = i ∧ (∀ y ∈ ys, IsW y ∧ y.length ≤ 5) ∧ Pot H2 p (n + 1 + 7 * i)) ?_ ?_ ?_
    · exact ⟨[], But.up b1 D0, upd_same, rfl, (fun _ h => nomatch h), P1.up pD⟩
    · rintro i H2 hi ⟨ys, hB, h1, hl, hw, hP2⟩
      refine ⟨rfl, _, rfl, _, rfl, (by show 3 ≤ sizeLine; decide), fun l hlf => ?_⟩
      have pl := hP2.ne hlf
      refine ⟨p, n + 1 + 7 * i, hP2.up pl, by omega, .inl ⟨l, _, rfl, pl.symm, upd_same, (by decide), (by decide), fun H3 v N3 hv => ?_⟩⟩
      obtain ⟨m, rfl, hm⟩ : ∃ m : Nat, v = .int m ∧ m ≤ 5 := by
        simp only [List.mem_cons, List.not_mem_nil, or_false] at hv
        rcases hv with rfl | rfl | rfl
        · exact ⟨1, rfl, by decide⟩
        · exact ⟨2, rfl, by decide⟩
        · exact ⟨5, rfl, by decide⟩
      refine ⟨p, _, m, rfl, by omega, N3.pot, by omega, fun H4 z b4 P4 wz lz => ?_⟩
      have hDl : D ≠ l := ne_of_none h1 hlf
      have b3 : But p H2 H4 := ((But.of_same (Same.new hlf)).trans N3.but).trans b4
      refine ⟨ys.map V.str, b3 _ _ pD.symm h1, ?_, ys ++ [z], But.up (hB.trans b3) D0, ?_, ?_, ?_, (P4.mono (by omega)).up pD⟩
      · rw [List.length_map, hl]
        exact Nat.lt_of_lt_of_le (by omega : i < 100000) (by decide)
      · rw [upd_same, List.map_append]
        rfl
      · rw [List.length_append, hl]
        rfl
      · intro y hy
        rcases List.mem_append.mp hy with hy | hy
        · exact hw y hy
        · rw [List.mem_singleton.mp hy]
          exact ⟨wz, by omega⟩
    · rintro H2 ⟨ys, hB, h1, hl, hw, hP2⟩
      have hk7 : ys.length ≤ 7 := by omega
      refine ⟨_, rfl, _, rfl, _, rfl, _, rfl, p, _, 3, rfl, hP2, (by omega), (by decide), (by decide), fun H3 j b3 f3 P3 j0 j1 => ?_⟩
      have h3 := b3 _ _ pD.symm h1
      refine ⟨j, rfl, D, _, rfl, SqL.of h3, fun c hc => ?_⟩
      have lenc : (cutV (ys.map V.str) none (some j)).length ≤ ys.length := by
        have := cutV_length (ys.map V.str) none (some j)
        rwa [List.length_map] at this
      have D3 : D ≠ c := ne_of_none h3 hc
      refine ⟨D, c, _, _, rfl, rfl, by rw [upd_ne D3]; exact h3, upd_same, ?_, fun e he => ?_⟩
      · rw [List.length_map]
        exact Nat.le_trans (by omega : ys.length + _ ≤ 14) (by decide)
      have pc := P3.ne hc
      have P4 := (P3.up (o := .lst (cutV (ys.map V.str) none (some j))) pc)
      have pe := P4.ne he
      refine ⟨p, e, _, _, rfl, pe.symm, upd_same, ?_, P4.up pe, ?_, fun H5 S vs b5 hS0 hS perm P5 => ?_⟩
      · rw [List.length_append, List.length_map]
        omega
      · rw [List.length_append, List.length_map]
        omega
      obtain ⟨zs, rfl, hz⟩ := strV_of (R := fun z => IsW z ∧ z.length ≤ 5) (vs := vs) fun v hv => by
        have hm := perm.mem_iff.mp hv
        have hm2 : v ∈ ys.map V.str := by
          rcases List.mem_append.mp hm with h | h
          · exact h
          · exact List.mem_of_mem_drop (List.mem_of_mem_take h)
        obtain ⟨y, hy, rfl⟩ := List.mem_map.mp hm2
        exact ⟨y, rfl, hw y hy⟩
      have zl : zs.length ≤ 14 := by
        have := perm.length_eq
        rw [List.length_map, List.length_append, List.length_map] at this
        omega
      have B5 : But p H H5 := (((hB.trans b3).trans (But.of_same (Same.new hc))).trans (But.of_same (Same.new he))).trans b5
      have P5' : Pot H5 p (n + 100) := P5.mono (by rw [List.length_append, List.length_map]; omega)
      refine ⟨S, _, rfl, .inl ⟨SqL.of hS, fun T hT => ?_⟩⟩
      have hz5 : ∀ z ∈ zs, IsW z ∧ z.length ≤ 100000 := fun z h => ⟨(hz z h).1, Nat.le_trans (hz z h).2 (by decide)⟩
      have BT := B5.same (Same.new (o := .tup (zs.map V.str)) hT)
      have PT := P5'.up (o := .tup (zs.map V.str)) (P5'.ne hT)
      have xT : upd H5 T (.tup (zs.map V.str)) T = some (.tup (zs.map V.str)) := upd_same
      generalize upd H5 T (.tup (zs.map V.str)) = H6 at BT PT xT ⊢
      clear P5 P5' B5 hT b5 hS0 hS perm P4 he hc P3 f3 hP2 hB h1 h3 b3
      -- the two that are found
      refine ⟨_, rfl, T, zs, rfl, xT, hz5, by omega, fun H7 u1 rs s7 _ e7 a7 => ?_⟩
      refine ⟨_, rfl, T, zs, rfl, s7 _ _ xT, hz5, by omega, fun H8 u2 rs2 s8 _ e8 a8 => ?_⟩
      obtain rfl : rs2 = rs := a8.one a7 fun _ => Iff.rfl
      refine ⟨(by show 2 ≤ sizeLine; decide), fun t ht => ⟨t, _, rfl, SqT.of upd_same, rfl, _, _, rfl, _, _, rfl, rfl, ?_⟩⟩
      have S9 : Same H6 (upd H8 t (.tup [V.ref u1, V.ref u2])) := Same.trans (Same.trans s7 s8) (Same.new ht)
      have x1 := (Same.new (o := .tup [V.ref u1, V.ref u2]) ht) _ _ (s8 _ _ e7)
      have x2 := (Same.new (o := .tup [V.ref u1, V.ref u2]) ht) _ _ e8
      have BH := BT.same S9
      have PH : Pot (upd H8 t (.tup [V.ref u1, V.ref u2])) p (n + 100) := pot_same S9 PT
      have xT2 := S9 _ _ xT
      generalize upd H8 t (.tup [V.ref u1, V.ref u2]) = H9 at BH PH xT2 x1 x2 ⊢
      clear S9 s8 e8 ht e7 s7
      have rw5 : ∀ z ∈ rs2, IsW z ∧ z.length ≤ 100000 := fun z h => hz5 z ((a7.mem z).mp h)
      have ro : ∀ z ∈ rs2, PyData.strOk z = true := fun z h => ok_of_wB (wB_of (rw5 z h).1)
      have rlen : rs2.length ≤ 14 := Nat.le_trans a7.len zl
      have rfl1 : PyData.eqv (.tuple (rs2.map PyData.str)) (.tuple (rs2.map PyData.str)) = true := SeqAt.eqv_refl _ (SeqAt.canLay_of_shaped (shaped_strs ro))
      refine ⟨_, rfl, _, _, _, _, true, rfl, .ty "tuple", .base (.tup x1), kit_ty (by decide +kernel), _, rfl, iteF ?_⟩
      refine ⟨_, rfl, _, rfl, .tuple (rs2.map PyData.str), .tuple (rs2.map PyData.str), .tup (SqT.of x1) (dpAll_str _), .tup (SqT.of x2) (dpAll_str _), shaped_strs ro, shaped_strs ro, _, rfl, ?_⟩
      rw [rfl1]
      refine iteF ⟨_, rfl, u1, rs2, rfl, x1, rw5, by omega, fun H10 v1 q1 s10 _ e10 a10 => ?_⟩
      obtain rfl : q1 = rs2 := a10.one a7 fun z => a7.mem z
      refine ⟨_, rfl, .tuple (q1.map PyData.str), .tuple (q1.map PyData.str), .tup (SqT.of e10) (dpAll_str _), .tup (SqT.of (s10 _ _ x1)) (dpAll_str _), shaped_strs ro, shaped_strs ro, _, rfl, ?_⟩
      rw [rfl1]
      refine iteF ⟨_, rfl, T, _, rfl, SqT.of (s10 _ _ xT2), fun r hr0 => ?_⟩
      have s11 : Same H9 (upd H10 r (.tup (zs.map V.str).reverse)) := Same.trans s10 (Same.new hr0)
      refine ⟨r, zs.reverse, rfl, by rw [upd_same, List.map_reverse], fun z h => hz5 z (List.mem_reverse.mp h), by rw [List.length_reverse]; omega, fun H12 v2 q2 s12 _ e12 a12 => ?_⟩
      obtain rfl : q2 = q1 := a12.one a7 fun z => List.mem_reverse
      have s13 := Same.trans s11 s12
      refine ⟨_, rfl, .tuple (q2.map PyData.str), .tuple (q2.map PyData.str), .tup (SqT.of e12) (dpAll_str _), .tup (SqT.of (s13 _ _ x1)) (dpAll_str _), shaped_strs ro, shaped_strs ro, _, rfl, ?_⟩
      rw [rfl1]
      refine iteF ?_
      have x13 := s13 _ _ x1
      have T13 := s13 _ _ xT2
      have B13 := BH.same s13
      have P13 := pot_same s13 PH
      generalize hHz : H12 = H13 at x13 T13 B13 P13 ⊢
      clear e12 s12 s13 s11 hr0 s10 e10 x1 x2 xT2 BH PH
      -- no word too much, none left out
      refine ⟨_, rfl, u1, rfl, ⟨_, SqT.of x13⟩, fun L hL => lc_it (walk_tup (K := K) (a := u1) (xs := q2.map V.str)) (fun i H1 => Same H13 H1 ∧ H1 L = some (.lst [])) ⟨Same.new hL, upd_same⟩ (fun i H1 _ h1 => SqT.of (h1.1 _ _ x13)) ?_ ?_⟩
      · rintro i x H1 H2 hi ⟨hS, hL1⟩ ⟨rfl, hx⟩
        rw [List.length_map] at hi
        have ex : x = V.str q2[i] := by
          rw [List.getElem?_map, List.getElem?_eq_getElem hi] at hx
          exact (Option.some.inj hx).symm
        subst ex
        have hin := inV_strs ((a7.mem _).mp (List.getElem_mem hi))
        refine ⟨rfl, _, rfl, _, rfl, T, _, rfl, .inr (SqT.of (hS _ _ T13)), rfl, flat_strs _, _, rfl, ?_⟩
        rw [hin]
        exact iteF ⟨hS, hL1⟩
      · rintro H1 ⟨hS, hL1⟩
        refine ⟨(Nat.zero_le _), fun L2 hL2 => ?_⟩
        have nL : L ≠ L2 := ne_of_none hL1 hL2
        refine ⟨.list [], .list [], .lst (SqL.of (by rw [upd_ne nL]; exact hL1)) .nil, .lst (SqL.of upd_same) .nil, shaped_nilL, shaped_nilL, _, rfl, ?_⟩
        rw [nil_nil]
        have S14 : Same H13 (upd H1 L2 (.lst [])) := Same.trans hS (Same.new hL2)
        have x14 := S14 _ _ x13
        have T14 := S14 _ _ T13
        have B14 := B13.same S14
        have P14 := pot_same S14 P13
        generalize upd H1 L2 (.lst []) = H14 at x14 T14 B14 P14 ⊢
        clear S14 x13 T13 B13 P13 hL1 hL2 nL hS
        refine iteF ⟨_, rfl, T, rfl, ⟨_, SqT.of T14⟩, fun L3 hL3 => lc_it (walk_tup (K := K) (a := T) (xs := zs.map V.str)) (fun i H1 => Same H14 H1 ∧ H1 L3 = some (.lst [])) ⟨Same.new hL3, upd_same⟩ (fun i H1 _ h1 => SqT.of (h1.1 _ _ T14)) ?_ ?_⟩
        · rintro i x H1 H2 hi ⟨hS, hL1⟩ ⟨rfl, hx⟩
          rw [List.length_map] at hi
          have ex : x = V.str zs[i] := by
            rw [List.getElem?_map, List.getElem?_eq_getElem hi] at hx
            exact (Option.some.inj hx).symm
          subst ex
          have hin := inV_strs ((a7.mem _).mpr (List.getElem_mem hi))
          refine ⟨rfl, _, rfl, _, rfl, u1, _, rfl, .inr (SqT.of (hS _ _ x14)), rfl, flat_strs _, _, rfl, ?_⟩
          rw [hin]
          exact iteF ⟨hS, hL1⟩
        · rintro H1 ⟨hS, hL1⟩
          refine ⟨(Nat.zero_le _), fun L4 hL4 => ?_⟩
          have nL : L3 ≠ L4 := ne_of_none hL1 hL4
          refine ⟨.list [], .list [], .lst (SqL.of (by rw [upd_ne nL]; exact hL1)) .nil, .lst (SqL.of upd_same) .nil, shaped_nilL, shaped_nilL, _, rfl, ?_⟩
          rw [nil_nil]
          have S15 : Same H14 (upd H1 L4 (.lst [])) := Same.trans hS (Same.new hL4)
          have x15 := S15 _ _ x14
          have T15 := S15 _ _ T14
          have B15 := B14.same S15
          have P15 := pot_same S15 P14
          generalize upd H1 L4 (.lst []) = H15 at x15 T15 B15 P15 ⊢
          clear S15 x14 T14 B14 P14 hL1 hL4 nL hS
          refine iteF ⟨_, rfl, u1, _, rfl, .inr (SqT.of x15), _, _, rfl, rfl, _, rfl, ?_, ?_, fun M hM => ?_⟩
          · rw [List.length_map]
            omega
          · rw [List.length_map]
            omega
          refine lc_range (lo := 0) (n := (((q2.map V.str).length : Nat) - 1 : Int).toNat) (fun i H1 => Same H15 H1 ∧ H1 M = some (.lst (List.replicate i (V.bl true)))) ⟨Same.new hM, upd_same⟩ ?_ ?_
          · rintro i H1 hi ⟨hS, hL1⟩
            rw [List.length_map] at hi
            have i1 : i < q2.length := by omega
            have i2 : i + 1 < q2.length := by omega
            have g1 : (q2.map V.str)[i]? = some (V.str q2[i]) := by
              rw [List.getElem?_map, List.getElem?_eq_getElem i1]
              rfl
            have g2 : (q2.map V.str)[i + 1]? = some (V.str q2[i + 1]) := by
              rw [List.getElem?_map, List.getElem?_eq_getElem i2]
              rfl
            have w1 := rw5 _ (List.getElem_mem i1)
            have w2 := rw5 _ (List.getElem_mem i2)
            have up : ahB q2[i] q2[i + 1] = true := List.pairwise_iff_getElem.mp a7.up i (i + 1) i1 i2 (by omega)
            refine ⟨rfl, _, rfl, _, rfl, u1, _, _, _, rfl, rfl, SqT.of (hS _ _ x15), at_ofA (j := i) (by omega) g1, _, rfl, _, rfl, _, _, rfl, rfl, u1, _, _, _, rfl, rfl, SqT.of (hS _ _ x15), at_ofA (j := i + 1) (by omega) g2, ?_⟩
            refine ⟨q2[i], q2[i + 1], rfl, w1.1, w2.1, w1.2, w2.2, _, hL1, ?_, ?_, ?_⟩
            · rw [List.length_replicate]
              exact Nat.lt_of_lt_of_le (by omega : i < 100) (by decide)
            · exact fun b o e => by
                rw [upd_ne (ne_of_none e hM)]
                exact hS b o e
            · rw [upd_same, up, List.replicate_succ']
          · rintro H1 ⟨hS, hL1⟩
            rw [List.length_map] at hL1
            have x16 := hS _ _ x15
            have T16 := hS _ _ T15
            have B16 := B15.same hS
            have P16 := pot_same hS P15
            clear hS x15 T15 B15 P15
            refine ⟨_, rfl, (Nat.zero_le _), fun L5 hL5 => ?_⟩
            have s17 : Same H1 (upd H1 L5 (.tup [])) := Same.new hL5
            refine ⟨.tuple (q2.map PyData.str), .tuple [], .tup (SqT.of (s17 _ _ x16)) (dpAll_str _), .tup (SqT.of upd_same) .nil, shaped_strs ro, shaped_nilT, _, rfl, ?_⟩
            have fin : ∀ H', Same H1 H' → Q (.bl true) H' := fun H' h => q _ (B16.same h) ((pot_same h P16).mono (by omega))
            clear q
            cases hq : q2 with
            | nil =>
              have zn : zs = [] := by
                cases zs with
                | nil => rfl
                | cons z t => exact absurd ((a7.mem z).mpr List.mem_cons_self) (by rw [hq]; simp)
              show (if (!PyData.eqv (.tuple []) (.tuple [])) = true then _ else _)
              rw [nil_nilT]
              refine iteF ⟨_, rfl, (Nat.zero_le _), fun L6 hL6 => ?_⟩
              have s18 : Same H1 (upd (upd H1 L5 (.tup [])) L6 (.tup [])) := Same.trans s17 (Same.new hL6)
              refine ⟨.tuple [], .tuple [], .tup (SqT.of (s18 _ _ T16)) (by rw [zn]; exact .nil), .tup (SqT.of upd_same) .nil, shaped_nilT, shaped_nilT, ?_⟩
              rw [nil_nilT]
              exact fin _ s18
            | cons z0 t0 =>
              show (if (!PyData.eqv (.tuple (PyData.str z0 :: t0.map PyData.str)) (.tuple [])) = true then _ else _)
              rw [cons_nilT]
              refine iteT ⟨_, rfl, (by show 1 ≤ sizeLine; decide), fun l6 hl6 => ?_⟩
              have s18 : Same H1 (upd (upd H1 L5 (.tup [])) l6 (.lst [.bl true])) := Same.trans s17 (Same.new hl6)
              have ql : q2.length = t0.length + 1 := by rw [hq]; rfl
              refine ⟨_, rfl, u1, _, rfl, .inr (SqT.of (s18 _ _ x16)), _, _, rfl, rfl, l6, _, [.bl true], rfl, rfl, upd_same, ?_, ?_, ?_, fun m hm => ?_⟩
              · rw [List.length_map]
                omega
              · rw [List.length_map]
                omega
              · rw [List.length_map]
                exact Nat.le_trans (by simp; omega : [V.bl true].length * ((q2.length : Int) - 1).toNat ≤ 100) (by decide)
              have s19 : Same H1 _ := Same.trans s18 (Same.new (o := .lst (List.replicate (((q2.map V.str).length : Nat) - 1 : Int).toNat [V.bl true]).flatten) hm)
              have eM := s19 _ _ hL1
              have eN : (upd (upd (upd H1 L5 (.tup [])) l6 (.lst [.bl true])) m (.lst (List.replicate (((q2.map V.str).length : Nat) - 1 : Int).toNat [V.bl true]).flatten)) m = some (.lst (List.replicate ((q2.length : Int) - 1).toNat (V.bl true))) := by
                rw [upd_same, List.flatten_replicate_singleton, List.length_map]
              refine ⟨.list (List.replicate ((q2.length : Int) - 1).toNat (PyData.bool true)), .list (List.replicate ((q2.length : Int) - 1).toNat (PyData.bool true)), .lst (SqL.of eM) (dpAll_bls _), .lst (SqL.of eN) (dpAll_bls _), shaped_bls _, shaped_bls _, ?_⟩
              rw [SeqAt.eqv_refl _ (SeqAt.canLay_of_shaped (shaped_bls _))]
              exact fin _ s19
end
end Mk

set_option Elab.async false
set_option linter.all false
set_option maxRecDepth 100000
set_option maxHeartbeats 4000000
namespace Mk
open PySem L2 PyProof.Rows

abbrev sLaw : Stmt := top 40
/-- a long text, and two that are longer by a sign -/
abbrev Lg : Str := Txt.mul "ab" (600 : Nat)
theorem wB_lg : wB Lg = true := by decide +kernel
theorem len_lg : Lg.length = 1200 := mul_len "ab" 600 (by decide)
theorem len_app (x y : Str) : (x ++ y).length = x.length + y.length := by
  rw [len_cs, cs_append, List.length_append]
  rfl
theorem isW_app {x y : Str} (h1 : IsW x) (h2 : IsW y) : IsW (x ++ y) := fun c hc => by
  rw [cs_append] at hc
  rcases List.mem_append.mp hc with h | h
  · exact h1 c h
  · exact h2 c h
theorem ah_long : ahB (Lg ++ "a") (Lg ++ "b") = true := by
  unfold ahB
  have e : (Lg ++ "a").length = (Lg ++ "b").length := by rw [len_app, len_app]; rfl
  rw [e, decide_eq_true rfl, cs_append, cs_append]
  have a1 : cs "a" = [97] := by decide +kernel
  have a2 : cs "b" = [98] := by decide +kernel
  rw [a1, a2, lex_at (i := (cs Lg).length) (c := 97) (d := 98) (by simp) (by simp) (by simp) (by decide)]
  simp
theorem ah_short {x y : Str} (h : x.length < y.length) : ahB x y = true := by
  unfold ahB
  rw [decide_eq_true h]
  rfl
abbrev five : List Str := [Lg ++ "b", "e", Lg ++ "a", "", Lg ++ "b"]
abbrev four : List Str := ["", "e", Lg ++ "a", Lg ++ "b"]
theorem five_isW : ∀ z ∈ five, IsW z ∧ z.length ≤ 100000 := by
  have a1 : ("a" : Str).length = 1 := by decide +kernel
  have a2 : ("b" : Str).length = 1 := by decide +kernel
  have l1 : (Lg ++ "a").length ≤ 100000 := by rw [len_app, len_lg, a1]; decide
  have l2 : (Lg ++ "b").length ≤ 100000 := by rw [len_app, len_lg, a2]; decide
  have w1 : IsW (Lg ++ "a") := isW_app (isW_of wB_lg) (isW_of (by decide +kernel))
  have w2 : IsW (Lg ++ "b") := isW_app (isW_of wB_lg) (isW_of (by decide +kernel))
  intro z hz
  simp only [List.mem_cons, List.not_mem_nil, or_false] at hz
  rcases hz with rfl | rfl | rfl | rfl | rfl
  · exact ⟨w2, l2⟩
  · exact ⟨isW_of (by decide +kernel), by decide +kernel⟩
  · exact ⟨w1, l1⟩
  · exact ⟨isW_of (by decide +kernel), by decide +kernel⟩
  · exact ⟨w2, l2⟩
theorem four_up : four.Pairwise (fun x y => ahB x y = true) := by
  have e0 : ("" : Str).length = 0 := by decide +kernel
  have e1 : ("e" : Str).length = 1 := by decide +kernel
  have la : (Lg ++ "a").length = 1201 := by
    have : ("a" : Str).length = 1 := by decide +kernel
    rw [len_app, len_lg, this]
  have lb : (Lg ++ "b").length = 1201 := by
    have : ("b" : Str).length = 1 := by decide +kernel
    rw [len_app, len_lg, this]
  refine .cons (fun y hy => ?_) (.cons (fun y hy => ?_) (.cons (fun y hy => ?_) (.cons (fun y hy => ?_) .nil)))
  · simp only [List.mem_cons, List.not_mem_nil, or_false] at hy
    rcases hy with rfl | rfl | rfl <;> exact ah_short (by omega)
  · simp only [List.mem_cons, List.not_mem_nil, or_false] at hy
    rcases hy with rfl | rfl <;> exact ah_short (by omega)
  · simp only [List.mem_cons, List.not_mem_nil, or_false] at hy
    subst hy
    exact ah_long
  · cases hy
theorem four_one {rs : List Str} (a : Asc five rs) : rs = four := by
  refine asc_one a.up four_up fun z => (a.mem z).trans ?_
  simp only [List.mem_cons, List.not_mem_nil, or_false]
  constructor
  · rintro (h | h | h | h | h)
    · exact .inr (.inr (.inr h))
    · exact .inr (.inl h)
    · exact .inr (.inr (.inl h))
    · exact .inl h
    · exact .inr (.inr (.inr h))
  · rintro (h | h | h | h)
    · exact .inr (.inr (.inr (.inl h)))
    · exact .inr (.inl h)
    · exact .inr (.inr (.inl h))
    · exact .inl h
def spLaw (K : PySem.W.Frag) : Sp := fun vs H Q _ => ∃ (a : Addr) (ns : List Int), vs = [.ref a] ∧ SqL K H a (ns.map V.int) ∧ ns.length ≤ 63 ∧ ∀ H', Q (.bl true) H'
abbrev TT2 : PyData := .list [.bool true, .bool true]
theorem dpAll_tt {K : PySem.W.Frag} {H : Hp} : ∀ ls : List Addr, (∀ a ∈ ls, H a = some (.lst [.bl true, .bl true])) → DpAll K H (ls.map V.ref) (List.replicate ls.length TT2)
  | [], _ => .nil
  | a :: ls, h => .cons (.lst (SqL.of (h a List.mem_cons_self)) (.cons (.bl _) (.cons (.bl _) .nil))) (dpAll_tt ls fun b hb => h b (List.mem_cons_of_mem _ hb))
theorem shaped_tt : SeqAt.shaped (.list (List.replicate 5 TT2)) = true := by decide +kernel
theorem three {H : Hp} {l1 l2 m : Addr} {o1 o2 o3 : HO} (h1 : H l1 = none) (h2 : upd H l1 o1 l2 = none) (h3 : upd (upd H l1 o1) l2 o2 m = none) : Same H (upd (upd (upd H l1 o1) l2 o2) m o3) ∧ (upd (upd (upd H l1 o1) l2 o2) m o3) l1 = some o1 :=
  ⟨Same.trans (Same.trans (Same.new h1) (Same.new h2)) (Same.new h3), (Same.new h3) _ _ ((Same.new h2) _ _ upd_same)⟩
theorem five_tt {K : PySem.W.Frag} {H : Hp} {l : Addr} (h : H l = some (.lst [.bl true, .bl true])) : DpAll K H (List.replicate (5 : Int).toNat [V.ref l]).flatten (List.replicate 5 TT2) :=
  dpAll_tt [l, l, l, l, l] fun b hb => by
    have : b = l := by simpa using hb
    rw [this]
    exact h
structure Ln (mg : Str → Option Value) : Prop where
  mw : ∃ t, mg "MAX_WORD" = some (.int 1000 t)
section
variable {P : Program} {w : World} {K : PySem.W.Frag} {mg : Str → Option Value} {base : Heap}
theorem scLaw : FnScope ["_law_script", "_law_at", "_law_pot", "_law_told", "_law_long", "_law_one"] ["_law_script"] (defScope sLaw) := ⟨rfl, rfl, rfl, by decide +kernel, rfl, by decide +kernel, by decide +kernel⟩
theorem ok_law {f fv : Addr} {fd fdv : FuncData} (F : Fun K "law" "law" sLaw f fd) (B : Bn mg) (W : Wn mg) (L : Ln mg) (Fi : Cd P w K mg base 1 "_law_filled" ["_law_script", "_law_at"] (spFilled K)) (Gv : FnG P w K mg base CX0 10 fv fdv ["_law_pot"] spValR) (vm : mg "_law_values_right" = some (.ref fv)) (vk : PySem.W.keepIn K (.ref fv) = true) (vb : Binds K fdv ["_law_pot"] [])
    (Om : Cd P w K mg base 4 "_law_order_right" ["_law_pot"] spOrdR) (Rd : Cd P w K mg base 2 "ordered" ["words"] (spOrdered K)) (S2 : Cd P w K mg base 1 "is_sign" ["value"] (spJudge sgB K)) (W2 : Cd P w K mg base 1 "is_word" ["value"] (spJudge wB K)) : FnG P w K mg base CX0 11 f fd ["_law_script"] (spLaw K) := by
  obtain ⟨a1, d1, G1, m1, k1, b1⟩ := Fi.ex
  obtain ⟨a2, d2, Go, om, ok, ob⟩ := Om.ex
  obtain ⟨a3, d3, Gr, rm, rk, rb⟩ := Rd.ex
  obtain ⟨a4, d4, Gs, sm, sk, sb⟩ := S2.ex
  obtain ⟨a5, d5, Gw, wm, wk, wb⟩ := W2.ex
  obtain ⟨t1, hsg⟩ := W.sg
  obtain ⟨t2, hmw⟩ := L.mw
  refine Fun_okG F scLaw (fun vs H Q E h => ?_) (fun cdv A outer s H vs Q E hr gd h => ?_)
  · obtain ⟨a, ns, rfl, _⟩ := h
    rfl
  · obtain ⟨a, ns, rfl, hS, hlen, q⟩ := h
    have r1 : Room 1 _ := hr.mono (by decide)
    have r2 : Room 2 _ := hr.mono (by decide)
    have r4 : Room 4 _ := hr.mono (by decide)
    have hu : A.units + 3 + 64 < cLine := by
      have h2 : A.units + 3 + 16 * 10 + 200 < cLine := hr.un
      omega
    refine ⟨_, pss_cons (ps_for PassesOwn.never rfl (pi_range1 (by rfl) B.range (pa_cons (pe_callB (call_max2 rfl) (by rfl) B.max (by decide +kernel) (pa_cons pe_int (pa_cons (pe_callB (call_min2 rfl) (by rfl) B.min (by decide +kernel) (pa_cons pe_int (pa_cons (pe_callB call_len_seq (by rfl) B.len PySem.boot_len (pa_cons (pv 0) pa_nil)) pa_nil))) pa_nil))) pa_nil)) (pg_name (i := 1) scLaw.nd rfl (.inl rfl))
      (pss_cons (ps_set (i := 2) scLaw.nd rfl (.inl rfl) (pe_call G1 r1 (by rfl) m1 k1 b1 .nil pass0 (pa_cons (pv 0) (pa_cons (pv 1) pa_nil))))
        (pss_one (ps_if (PW.pt (pw_or (pt_not (pt_val (pe_callG Gv hr gd (by rfl) vm vk vb pass0 (pa_cons (pv 2) pa_nil)))) (pw_or1 (pt_not (pt_val (pe_call Go r4 (by rfl) om ok ob .nil pass0 (pa_cons (pv 2) pa_nil))))))) (pss_one (ps_ret pe_bl)) pss_nil))))
      (pss_cons (ps_par (i := 3) (j := 4) rfl scLaw.nd rfl rfl (by decide) rfl rfl (pa_cons (pe_lc (own := [("_law_one", 5)]) (g := gName 5) (tt := tYes) rfl scLaw.nd (pi_str (pe_glob (v := .str "abcde") (by rfl) hsg ⟨_, rfl⟩)) (blkOk_by (N := ["_law_script", "_law_at", "_law_pot", "_law_told", "_law_long", "_law_one"]) (sc := defScope sLaw) (by decide +kernel))
          (fun _ _ _ _ _ => pg_name (i := 5) scLaw.nd rfl (Or.inl rfl)) (fun _ _ _ _ _ => pts_nil)
          (fun _ _ _ _ _ => pe_lst (pa_cons (pe_call Gs r1 (by rfl) sm sk sb .nil pass0 (pa_cons (pv 5) pa_nil)) (pa_cons (pe_call Gw r1 (by rfl) wm wk wb .nil pass0 (pa_cons (pv 5) pa_nil)) pa_nil))))
          (pa_cons (pe_op op_mulS pe_str pe_int) pa_nil)) (by rfl))
      (pss_cons (ps_if (pt_cmpR (op_neD hu) (pe_call Gr r2 (by rfl) rm rk rb .nil pass0 (pa_cons (pe_tup (pa_cons (pe_op op_add_str (pv 4) pe_str) (pa_cons pe_str (pa_cons (pe_op op_add_str (pv 4) pe_str) (pa_cons pe_str (pa_cons (pe_op op_add_str (pv 4) pe_str) pa_nil)))))) pa_nil))
          (pe_tup (pa_cons pe_str (pa_cons pe_str (pa_cons (pe_op op_add_str (pv 4) pe_str) (pa_cons (pe_op op_add_str (pv 4) pe_str) pa_nil))))) (nomark _)) (pss_one ps_never) pss_nil)
      (pss_one (ps_ret (pe_and (pe_cmpR (op_eqD hu) (pv 3) (pe_op op_rep (pe_lst (pa_cons (pe_lst (pa_cons pe_bl (pa_cons pe_bl pa_nil))) pa_nil)) pe_int) (nomark _))
        (pe_and (pe_cmpR op_eq (pe_glob (v := .str "abcde") (by rfl) hsg ⟨_, rfl⟩) pe_str (nomark _))
        (pe_and (pe_cmpR op_eq (pe_glob (v := .int 1000) (by rfl) hmw ⟨_, rfl⟩) pe_int (nomark _))
        (pe_and (pe_call Gw r1 (by rfl) wm wk wb .nil pass0 (pa_cons pe_str pa_nil))
        (pe_one (pe_not (pe_call Gs r1 (by rfl) sm sk sb .nil pass0 (pa_cons pe_str pa_nil)))))))))))), ?_⟩
    refine ⟨_, rfl, a, _, rfl, .inl hS, 6, _, rfl, 1, _, rfl, _, rfl, ?_, ?_, ?_⟩
    · split <;> (try split) <;> omega
    · split <;> (try split) <;> omega
    have few : ∀ z : Int, (if (if z < 6 then z else 6) > 1 then (if z < 6 then z else 6) else 1).toNat ≤ 6 := fun z => by split <;> (try split) <;> omega
    have fewz := few ((ns.map V.int).length : Nat)
    refine for_range (lo := 0) (n := Int.toNat _) (fun i σ H1 => (∃ o1 o2 o3 o4 o5, σ = [some (.ref a), o1, o2, o3, o4, o5]) ∧ Same H H1) ⟨⟨_, _, _, _, _, rfl⟩, fun _ _ e => e⟩ ?_ ?_
    · rintro i σ H1 hi ⟨⟨o1, o2, o3, o4, o5, rfl⟩, hs⟩
      refine ⟨_, rfl, _, rfl, a, ns, i, (by show [V.ref a, V.int (0 + (i : Int))] = _; rw [Int.zero_add]), hs.seq hS, hlen, (by omega), fun H2 p s2 p0 P2 => ?_⟩
      refine ⟨_, rfl, p, 0, rfl, P2, (by decide), fun H3 b3 P3 => ⟨_, rfl, iteF ⟨_, rfl, p, 0 + 400, rfl, P3, (by decide), fun H4 b4 P4 => ⟨_, rfl, iteF ?_⟩⟩⟩⟩
      refine ⟨⟨_, _, _, _, _, rfl⟩, fun b o e => ?_⟩
      have e1 := hs _ _ e
      have ne := ne_of_none e1 p0
      exact b4 _ _ ne (b3 _ _ ne (s2 _ _ e1))
    · rintro σ H1 ⟨⟨o1, o2, o3, o4, o5, rfl⟩, hs⟩
      clear fewz few
      refine ⟨"abcde", rfl, fun D hD => lc_it walk_str (fun i H2 => ∃ ls : List Addr, H2 D = some (.lst (ls.map V.ref)) ∧ ls.length = i ∧ ∀ b ∈ ls, H2 b = some (.lst [.bl true, .bl true])) ⟨[], upd_same, rfl, fun _ h => nomatch h⟩ (fun _ _ _ _ => trivial) ?_ ?_⟩
      · rintro i x H2 H3 hi ⟨ls, h1, h2, h3⟩ ⟨rfl, c, hc, rfl⟩
        have cm : c ∈ cs "abcde" := by
          have : (cs "abcde")[i]? = some c := by rw [← hc]; simp [cs]
          exact List.mem_of_getElem? this
        have w1 : wB ⟨#[c]⟩ = true := wB_of (isW_one cm)
        have w2 : sgB ⟨#[c]⟩ = true := by
          unfold sgB
          rw [w1]
          rfl
        refine ⟨rfl, _, rfl, _, rfl, .inl ⟨_, rfl, (by show 1 ≤ 100000; decide), _, rfl, _, rfl, .inl ⟨_, rfl, (by show 1 ≤ 100000; decide), (by show 2 ≤ sizeLine; decide), fun l hl => ?_⟩⟩⟩
        have nD : D ≠ l := ne_of_none h1 hl
        refine ⟨ls.map V.ref, by rw [upd_ne nD]; exact h1, ?_, ls ++ [l], by rw [upd_same, List.map_append]; rfl, by rw [List.length_append, h2]; rfl, ?_⟩
        · rw [List.length_map, h2]
          have : ("abcde" : Str).cps.size = 5 := by decide +kernel
          exact Nat.lt_of_lt_of_le (by omega : i < 100) (by decide)
        · intro b hb
          rcases List.mem_append.mp hb with hb | hb
          · have e := h3 b hb
            have n1 : b ≠ D := fun z => by
              rw [z, h1] at e
              have e := Option.some.inj e
              injection e with e
              cases ls with
              | nil => cases hb
              | cons y t => injection e with e; cases e
            rw [upd_ne n1, upd_ne (ne_of_none e hl)]
            exact e
          · rw [List.mem_singleton.mp hb, upd_ne nD.symm, upd_same, w1, w2]
      · rintro H2 ⟨ls, h1, h2, h3⟩
        have h5 : ls.length = 5 := by
          rw [h2]
          decide +kernel
        clear h2
        refine ⟨"ab", 600, rfl, rfl, (by decide), (by decide), (by decide +kernel), _, _, rfl, ?_⟩
        have la : ("a" : Str).length = 1 := by decide +kernel
        have lb : ("b" : Str).length = 1 := by decide +kernel
        have s1 : 2000 ≤ sizeLine := by decide
        have za : Lg.length + ("a" : Str).length ≤ sizeLine := by rw [len_lg, la]; omega
        have zb : Lg.length + ("b" : Str).length ≤ sizeLine := by rw [len_lg, lb]; omega
        refine ⟨_, rfl, _, _, rfl, rfl, zb, _, rfl, _, _, rfl, rfl, za, _, rfl, _, _, rfl, rfl, zb, (by show 5 ≤ sizeLine; decide), fun t ht => ?_⟩
        refine ⟨t, five, rfl, upd_same, five_isW, (by decide), fun H3 u rs s3 _ e3 a3' => ?_⟩
        obtain rfl := four_one a3'
        refine ⟨_, rfl, _, _, rfl, rfl, za, _, rfl, _, _, rfl, rfl, zb, (by show 4 ≤ sizeLine; decide), fun v hv => ?_⟩
        have ro : ∀ z ∈ four, PyData.strOk z = true := fun z h => ok_of_wB (wB_of (five_isW z ((a3'.mem z).mp h)).1)
        refine ⟨.tuple (four.map PyData.str), .tuple (four.map PyData.str), .tup (SqT.of ((Same.new hv) _ _ e3)) (dpAll_str _), .tup (SqT.of (xs := four.map V.str) upd_same) (dpAll_str _), shaped_strs ro, shaped_strs ro, _, rfl, ?_⟩
        rw [SeqAt.eqv_refl _ (SeqAt.canLay_of_shaped (shaped_strs ro))]
        have S4 := Same.trans (Same.trans (Same.new (o := .tup (five.map V.str)) ht) s3) (Same.new (o := .tup (four.map V.str)) hv)
        have h1' := S4 _ _ h1
        have h3' := fun b hb => S4 _ _ (h3 b hb)
        have hQ : ∀ H', Q (.bl true) H' := q
        clear q
        refine iteF ⟨_, rfl, (by show 2 ≤ sizeLine; decide), fun l1 hl1 => ⟨(by show 1 ≤ sizeLine; decide), fun l2 hl2 => ?_⟩⟩
        refine ⟨l2, 5, [.ref l1], rfl, rfl, upd_same, (by decide), (by decide), (by show 1 * 5 ≤ sizeLine; decide), fun m hm => ?_⟩
        have n12 : l1 ≠ l2 := ne_of_none upd_same hl2
        obtain ⟨S7, e1⟩ := three (o3 := .lst (List.replicate (5 : Int).toNat [V.ref l1]).flatten) hl1 hl2 hm
        have dp1 := dpAll_tt (K := K) ls fun b hb => S7 _ _ (h3' b hb)
        have dp2 := five_tt (K := K) e1
        rw [h5] at dp1
        refine ⟨.list (List.replicate 5 TT2), .list (List.replicate 5 TT2), .lst (SqL.of (S7 _ _ h1')) dp1, .lst (SqL.of upd_same) dp2, shaped_tt, shaped_tt, _, rfl, ?_⟩
        rw [SeqAt.eqv_refl _ (SeqAt.canLay_of_shaped shaped_tt)]
        refine iteT ⟨rfl, _, rfl, ?_⟩
        rw [decide_eq_true rfl]
        refine iteT ⟨rfl, _, rfl, ?_⟩
        rw [decide_eq_true rfl]
        refine iteT ⟨_, rfl, .inl ⟨_, rfl, (by decide), _, rfl, ?_⟩⟩
        have w0 : wB "" = true := by decide +kernel
        rw [w0]
        refine iteT ⟨_, rfl, .inl ⟨_, rfl, (by decide), _, rfl, ?_⟩⟩
        have s0 : sgB "" = false := by decide +kernel
        rw [s0]
        exact hQ _
end
end Mk

set_option Elab.async false
set_option linter.all false
set_option maxRecDepth 100000
set_option maxHeartbeats 4000000
namespace Mk
open PySem PySem.Spec PyProof.Rows L2

/-! ### what the top has written -/
structure Df (K : PySem.W.Frag) (x : Str) (st : Stmt) (f : Addr) : Prop where
  at_ : PySem.W.nsIn K mainGlobals x = some (some (.ref f))
  fn : ∃ fd, Fun K x x st f fd
theorem df_mk {K : PySem.W.Frag} {x : Str} {st : Stmt} {f : Addr} {oc kV doc pm cd ct : Value} {od an : Option Addr} {sl : Array (Option Value)} (a : PySem.W.nsIn K mainGlobals x = some (some (.ref f)))
    (l : K.lookup f = some ⟨oc, od, .func (PySem.W.fnOf x x (defArgs st) (defBody st) (defScope st) .none kV doc pm an cd ct), sl⟩) (c : PySem.W.codeIn K cd x = true) (k : PySem.W.keepIn K (.ref f) = true) : Df K x st f :=
  ⟨a, _, fun_mk (st := st) l c k⟩
theorem kit_no {K : PySem.W.Frag} {C : Addr} (h : PySem.W.mroIn K C (.type "str") = some false) : PySem.W.kitOne K (.ref C) (.type "str") = some false := by
  unfold PySem.W.kitOne
  rw [if_neg (by intro z; cases z)]
  show (if PySem.W.kitMeta "str" = true then PySem.W.mroIn K C (.type "str") else none) = _
  rw [if_pos (by decide +kernel)]
  exact h
theorem lg_of {mg : Str → Option Value} {h : Heap} (V : PySem.W.LooseAre [("LARGEST", PySem.W.WData.int LG)] mg h) : ∃ t, mg "LARGEST" = some (.int LG t) := by
  obtain ⟨v, e, r⟩ := V.val _ List.mem_cons_self
  cases r
  exact ⟨_, e⟩
theorem all_mk {l : PySem.W.OpenLaw} {w : World} {K : PySem.W.Frag} {h : Heap} {mg : Str → Option Value} {fa C fi pr g T : Addr} {f1 f2 f3 f4 f5 f6 f7 f8 f9 f10 f11 f12 f13 f14 f15 f16 f17 f18 f19 f20 f21 f22 f23 : Addr} (X : K.In h) (G : h.Ns mainGlobals mg) (V : PySem.W.LooseAre [("LARGEST", PySem.W.WData.int LG)] mg h) (hfa : mg "law" = some (.ref fa))
    (D1 : Df K "is_number" sIsNum f1)
    (D2 : Df K "is_number_within" sIsNumW f2)
    (D3 : Df K "check_number" sChkNum f3)
    (D4 : Df K "is_sign" sIsSign f4)
    (D5 : Df K "is_word" sIsWord f5)
    (D6 : Df K "check_signs" sChkSigns f6)
    (D7 : Df K "ordered" sOrdered f7)
    (D8 : Df K "_are_tables" sAreT f8)
    (D9 : Df K "_is_sign_table" sIsST f9)
    (D10 : Df K "_has_prices" sHasP f10)
    (D11 : Df K "ascending_dict" sAsc f11)
    (D12 : Df K "_pairs" sPairs f12)
    (D13 : Df K "_law_filled" sFilled f13)
    (D14 : Df K "_law_dip" sDip f14)
    (D15 : Df K "_law_choose" sChoose f15)
    (D16 : Df K "_law_shuffled" sShuf f16)
    (D17 : Df K "_law_word" sWord f17)
    (D18 : Df K "_law_value" sValue f18)
    (D19 : Df K "_law_is_word" sLIsWord f19)
    (D20 : Df K "_law_is_ahead" sAhead f20)
    (D21 : Df K "_law_values_right" sValR f21)
    (D22 : Df K "_law_order_right" sOrdR f22)
    (D23 : Df K "law" sLaw f23)
    (z_len : PySem.W.nsIn K mainGlobals "len" = some none)
    (z_int : PySem.W.nsIn K mainGlobals "int" = some none)
    (z_abs : PySem.W.nsIn K mainGlobals "abs" = some none)
    (z_max : PySem.W.nsIn K mainGlobals "max" = some none)
    (z_min : PySem.W.nsIn K mainGlobals "min" = some none)
    (z_range : PySem.W.nsIn K mainGlobals "range" = some none)
    (z_list : PySem.W.nsIn K mainGlobals "list" = some none)
    (z_isinstance : PySem.W.nsIn K mainGlobals "isinstance" = some none)
    (z_str : PySem.W.nsIn K mainGlobals "str" = some none)
    (z_tuple : PySem.W.nsIn K mainGlobals "tuple" = some none)
    (z_all : PySem.W.nsIn K mainGlobals "all" = some none)
    (z_sorted : PySem.W.nsIn K mainGlobals "sorted" = some none)
    (z_set : PySem.W.nsIn K mainGlobals "set" = some none)
    (z_bool : PySem.W.nsIn K mainGlobals "bool" = some none)
    (z_dict : PySem.W.nsIn K mainGlobals "dict" = some none)
    (z_repr : PySem.W.nsIn K mainGlobals "repr" = some none)
    {tS tW tP tM : Tok} (vS : PySem.W.nsIn K mainGlobals "SIGNS" = some (some (.str "abcde" tS))) (vW : PySem.W.nsIn K mainGlobals "MAX_WORD" = some (some (.int 1000 tW)))
    (vP : PySem.W.nsIn K mainGlobals "MAX_PRICE" = some (some (.int 9 tP))) (vM : PySem.W.nsIn K mainGlobals "MAX_SWAP_PRICE" = some (some (.int 18 tM)))
    (aC : PySem.W.nsIn K mainGlobals "Prices" = some (some (.ref C)))
    (pg : PySem.W.plainGet K C Str.empty = true) (hd : PySem.W.hasDictIn K C = true) (po : PySem.W.plainOver K C = true) (sa : PySem.W.findIn K (.ref C) "__setattr__" = some (some (.builtin "object.__setattr__"))) (mk : PySem.W.makesIn K C = true) (kc : PySem.W.keepIn K (.ref C) = true)
    (n1 : PySem.W.findIn K (.ref C) "_signs" = some none) (n2 : PySem.W.findIn K (.ref C) "_put" = some none) (n3 : PySem.W.findIn K (.ref C) "_out" = some none) (n4 : PySem.W.findIn K (.ref C) "_swap" = some none)
    {oi kVi doci pmi cdi cti : Value} {odi ani : Option Addr} {sli : Array (Option Value)}
    (ii : PySem.W.findIn K (.ref C) "__init__" = some (some (.ref fi))) (jf : PySem.W.isFn K (.ref fi) = true) (li : K.lookup fi = some ⟨oi, odi, .func (PySem.W.fnOf "__init__" "Prices.__init__" (defArgs sInit) (defBody sInit) (defScope sInit) .none kVi doci pmi ani cdi cti), sli⟩) (ci : PySem.W.codeIn K cdi "Prices.__init__" = true) (ki : PySem.W.keepIn K (.ref fi) = true)
    {rest : List Value} (r1 : PySem.W.readsIn K C (.type "type") = true) (r2 : PySem.W.specialIn K (.ref C) "__getattribute__" = some (some (.builtin "type.__getattribute__")))
    (m1 : PySem.W.findCls K (.ref C) (.type "type") "even" = some (.get (.builtin "classmethod.__get__") (.ref pr) .none (.ref C)))
    (m2 : PySem.W.recIn K pr "classmethod" = some (.ref g :: rest)) (m3 : PySem.W.fnIn K g = true)
    {oc kV doc pm cd ct : Value} {od an : Option Addr} {sl : Array (Option Value)}
    (l4 : K.lookup g = some ⟨oc, od, .func (PySem.W.fnOf "even" "Prices.even" (defArgs sEven) (defBody sEven) (defScope sEven) (.ref T) kV doc pm an cd ct), sl⟩) (c4 : PySem.W.codeIn K cd "Prices.even" = true) (k4 : PySem.W.keepIn K (.ref g) = true)
    {tc : Value} {td : Option Addr} {tt : Tok} {tn : Nat} {ts : Array (Option Value)} (lT : K.lookup T = some ⟨tc, td, .seq #[.int 1 tt] tn, ts⟩)
    (ha : PySem.W.findIn K (.ref C) "__class__" = some (some (.builtin "object.__class__")))
    (hn : PySem.W.specialIn K (.builtin "object.__class__") "__get__" = some (some (.builtin "getset_descriptor.__get__")))
    (ht : PySem.W.takesIn K (.builtin "object.__class__") = some true) (hm : PySem.W.mroIn K C (.type "object") = some true) (no : PySem.W.mroIn K C (.type "str") = some false) :
    ∃ fd : FuncData, (∀ (s : Shared) (v : Value), BindsTo s fd ⟨[v], []⟩ [("_law_script", v)]) ∧ ∀ base : Heap, K.In base → base.Ns mainGlobals mg → FnG l.prog w K mg base CX0 11 fa fd ["_law_script"] (spLaw K) := by
  have gm := fun {x : Str} {v : Value} (e : PySem.W.nsIn K mainGlobals x = some (some v)) => PySem.W.mg_of X G e
  have gz := fun {x : Str} (e : PySem.W.nsIn K mainGlobals x = some none) => PySem.W.mg_none_of X G e
  have B : Bn mg := ⟨gz z_len, gz z_int, gz z_abs, gz z_max, gz z_min, gz z_range, gz z_list⟩
  have W : Wn mg := ⟨gz z_isinstance, gz z_str, _, gm vS⟩
  have O : On mg := ⟨gz z_tuple, gz z_all, gz z_sorted, gz z_set⟩
  have N : Nn mg := ⟨gz z_bool, lg_of V⟩
  have M : Pn mg := ⟨gz z_dict, ⟨_, gm vP⟩, ⟨_, gm vM⟩⟩
  have L : Ln mg := ⟨_, gm vW⟩
  obtain ⟨d1, F1⟩ := D1.fn
  have b1 := F1.binds (ps := ["value"]) fun _ _ _ _ _ _ us hl => match us, hl with | [_], _ => rfl
  obtain ⟨d2, F2⟩ := D2.fn
  have b2 := F2.binds (ps := ["value", "least", "most"]) fun _ _ _ _ _ _ us hl => match us, hl with | [_, _, _], _ => rfl
  obtain ⟨d3, F3⟩ := D3.fn
  have b3 := F3.binds (ps := ["given", "least", "most"]) fun _ _ _ _ _ _ us hl => match us, hl with | [_, _, _], _ => rfl
  obtain ⟨d4, F4⟩ := D4.fn
  have b4 := F4.binds (ps := ["value"]) fun _ _ _ _ _ _ us hl => match us, hl with | [_], _ => rfl
  obtain ⟨d5, F5⟩ := D5.fn
  have b5 := F5.binds (ps := ["value"]) fun _ _ _ _ _ _ us hl => match us, hl with | [_], _ => rfl
  obtain ⟨d6, F6⟩ := D6.fn
  have b6 := F6.binds (ps := ["signs"]) fun _ _ _ _ _ _ us hl => match us, hl with | [_], _ => rfl
  obtain ⟨d7, F7⟩ := D7.fn
  have b7 := F7.binds (ps := ["words"]) fun _ _ _ _ _ _ us hl => match us, hl with | [_], _ => rfl
  obtain ⟨d8, F8⟩ := D8.fn
  have b8 := F8.binds (ps := ["put", "out", "swap"]) fun _ _ _ _ _ _ us hl => match us, hl with | [_, _, _], _ => rfl
  obtain ⟨d9, F9⟩ := D9.fn
  have b9 := F9.binds (ps := ["value"]) fun _ _ _ _ _ _ us hl => match us, hl with | [_], _ => rfl
  obtain ⟨d10, F10⟩ := D10.fn
  have b10 := F10.binds (ps := ["value", "most"]) fun _ _ _ _ _ _ us hl => match us, hl with | [_, _], _ => rfl
  obtain ⟨d11, F11⟩ := D11.fn
  have b11 := F11.binds (ps := ["table"]) fun _ _ _ _ _ _ us hl => match us, hl with | [_], _ => rfl
  obtain ⟨d12, F12⟩ := D12.fn
  have b12 := F12.binds (ps := ["signs"]) fun _ _ _ _ _ _ us hl => match us, hl with | [_], _ => rfl
  obtain ⟨d13, F13⟩ := D13.fn
  have b13 := F13.binds (ps := ["_law_script", "_law_at"]) fun _ _ _ _ _ _ us hl => match us, hl with | [_, _], _ => rfl
  obtain ⟨d14, F14⟩ := D14.fn
  have b14 := F14.binds (ps := ["_law_pot", "_law_total"]) fun _ _ _ _ _ _ us hl => match us, hl with | [_, _], _ => rfl
  obtain ⟨d15, F15⟩ := D15.fn
  have b15 := F15.binds (ps := ["_law_pot", "_law_items"]) fun _ _ _ _ _ _ us hl => match us, hl with | [_, _], _ => rfl
  obtain ⟨d16, F16⟩ := D16.fn
  have b16 := F16.binds (ps := ["_law_pot", "_law_items"]) fun _ _ _ _ _ _ us hl => match us, hl with | [_, _], _ => rfl
  obtain ⟨d17, F17⟩ := D17.fn
  have b17 := F17.binds (ps := ["_law_pot", "_law_most"]) fun _ _ _ _ _ _ us hl => match us, hl with | [_, _], _ => rfl
  obtain ⟨d18, F18⟩ := D18.fn
  have b18 := F18.binds (ps := ["_law_pot"]) fun _ _ _ _ _ _ us hl => match us, hl with | [_], _ => rfl
  obtain ⟨d19, F19⟩ := D19.fn
  have b19 := F19.binds (ps := ["_law_value_here"]) fun _ _ _ _ _ _ us hl => match us, hl with | [_], _ => rfl
  obtain ⟨d20, F20⟩ := D20.fn
  have b20 := F20.binds (ps := ["_law_one", "_law_other"]) fun _ _ _ _ _ _ us hl => match us, hl with | [_, _], _ => rfl
  obtain ⟨d21, F21⟩ := D21.fn
  have b21 := F21.binds (ps := ["_law_pot"]) fun _ _ _ _ _ _ us hl => match us, hl with | [_], _ => rfl
  obtain ⟨d22, F22⟩ := D22.fn
  have b22 := F22.binds (ps := ["_law_pot"]) fun _ _ _ _ _ _ us hl => match us, hl with | [_], _ => rfl
  obtain ⟨d23, F23⟩ := D23.fn
  have cl : Cls K C := ⟨pg, hd, po, sa⟩
  have Tc : Pc K C := ⟨cl, n1, n2, n3, n4⟩
  have Fi := fun_mk (st := sInit) li ci ki
  have Fe : FunD K "even" "Prices.even" (defArgs sEven) (defBody sEven) (defScope sEven) [.int 1] [] g _ := ⟨⟨oc, od, .ref T, kV, doc, pm, an, cd, ct, sl, rfl, l4, c4, .inr ⟨List.cons_ne_nil _ _, T, _, [.int 1 tt], tn, rfl, lT, rfl, .cons ⟨_, rfl⟩ .nil⟩, .inl rfl⟩, k4⟩
  obtain ⟨ds, vd, bE⟩ := Fe.binds1 (ps := ["cls", "signs", "price"]) 2 0 (List.cons_ne_nil _ _) rfl fun _ _ _ _ _ _ _ us its hu hi => match us, its, hu, hi with | [_, _], [_], _, _ => ⟨_, rfl, rfl⟩
  have Mc : L2.Mk K C fi := ⟨mk, ii, jf, kc⟩
  have e23 : f23 = fa := by
    have e := hfa.symm.trans (gm D23.at_)
    cases e
    rfl
  subst e23
  have F23' := F23
  obtain ⟨oc', od', kV', doc', pm', an', cdv', ct', osl', rfl, lk', hcd'⟩ := F23'.ex
  refine ⟨PySem.W.fnOf "law" "law" (defArgs sLaw) (defBody sLaw) (defScope sLaw) .none kV' doc' pm' an' cdv' ct', fun s v => .of_eq rfl, fun base _ _ => ?_⟩
  have C1 : Cd l.prog w K mg base 1 "is_number" ["value"] spIsNum := ⟨_, _, ok_isNum F1 B W N, gm D1.at_, F1.kp, b1⟩
  have C2 : Cd l.prog w K mg base 2 "is_number_within" ["value", "least", "most"] spIsNumW := ⟨_, _, ok_isNumW F2 C1, gm D2.at_, F2.kp, b2⟩
  have C3 : Cd l.prog w K mg base 3 "check_number" ["given", "least", "most"] spChkNum := ⟨_, _, ok_chkNum F3 C2, gm D3.at_, F3.kp, b3⟩
  have C4 : Cd l.prog w K mg base 1 "is_sign" ["value"] (spJudge sgB K) := ⟨_, _, ok_isSign F4 B W, gm D4.at_, F4.kp, b4⟩
  have C5 : Cd l.prog w K mg base 1 "is_word" ["value"] (spJudge wB K) := ⟨_, _, ok_isWord F5 W, gm D5.at_, F5.kp, b5⟩
  have C6 : Cd l.prog w K mg base 2 "check_signs" ["signs"] spChkSigns := ⟨_, _, ok_chkSigns F6 B W O C4, gm D6.at_, F6.kp, b6⟩
  have C7 : Cd l.prog w K mg base 2 "ordered" ["words"] (spOrdered K) := ⟨_, _, ok_ordered F7 B W O C5, gm D7.at_, F7.kp, b7⟩
  have C10 : Cd l.prog w K mg base 3 "_has_prices" ["value", "most"] spHasP := ⟨_, _, ok_hasP F10 W O M C2, gm D10.at_, F10.kp, b10⟩
  have C9 : Cd l.prog w K mg base 4 "_is_sign_table" ["value"] spIsST := ⟨_, _, ok_isST F9 O M C10 C4, gm D9.at_, F9.kp, b9⟩
  have C8 : Cd l.prog w K mg base 5 "_are_tables" ["put", "out", "swap"] spAreT1 := ⟨_, _, ok_areT F8 O M C9 C10, gm D8.at_, F8.kp, b8⟩
  have C11 : Cd l.prog w K mg base 1 "ascending_dict" ["table"] spAsc := ⟨_, _, ok_asc F11 O, gm D11.at_, F11.kp, b11⟩
  have C12 : Cd l.prog w K mg base 1 "_pairs" ["signs"] spPairs1 := ⟨_, _, ok_pairs F12, gm D12.at_, F12.kp, b12⟩
  have Gi : FnOk l.prog w K mg base CX0 6 fi _ ["self", "put", "out", "swap"] (spInit1 C) := ok_init Fi Tc O C8 C11
  have Ge : FnOk l.prog w K mg base CX0 8 g _ ["cls", "signs", "price"] (spEven1 C) := ok_even Fe Mc Fi Gi M C6 C3 C12
  have Er : FnR l.prog w K mg base CX0 8 g (fun vs H Q E => spEven1 C (vs ++ [.int 1]) H Q E) := Ge.raw bE vd
  have C13 : Cd l.prog w K mg base 1 "_law_filled" ["_law_script", "_law_at"] (spFilled K) := ⟨_, _, ok_filled F13 B, gm D13.at_, F13.kp, b13⟩
  have C14 : Cd l.prog w K mg base 1 "_law_dip" ["_law_pot", "_law_total"] spDip := ⟨_, _, ok_dip F14 B, gm D14.at_, F14.kp, b14⟩
  have C15 : Cd l.prog w K mg base 2 "_law_choose" ["_law_pot", "_law_items"] spChoose := ⟨_, _, ok_choose F15 B C14, gm D15.at_, F15.kp, b15⟩
  have C16 : Cd l.prog w K mg base 2 "_law_shuffled" ["_law_pot", "_law_items"] spShuf := ⟨_, _, ok_shuf F16 B C14, gm D16.at_, F16.kp, b16⟩
  have C17 : Cd l.prog w K mg base 3 "_law_word" ["_law_pot", "_law_most"] spWord := ⟨_, _, ok_word F17 B C14 C15, gm D17.at_, F17.kp, b17⟩
  have C18 : Cd l.prog w K mg base 9 "_law_value" ["_law_pot"] (spValue C) := ⟨_, _, ok_value F18 B C14 C15 C17 (gm aC) ⟨r1, r2⟩ ⟨m1, ⟨_, m2⟩, m3⟩ Er, gm D18.at_, F18.kp, b18⟩
  have C19 : Cd l.prog w K mg base 1 "_law_is_word" ["_law_value_here"] (spJudge wB K) := ⟨_, _, ok_lIsWord F19 W, gm D19.at_, F19.kp, b19⟩
  have C20 : Cd l.prog w K mg base 1 "_law_is_ahead" ["_law_one", "_law_other"] spAhead := ⟨_, _, ok_ahead F20 B, gm D20.at_, F20.kp, b20⟩
  have G21 : FnG l.prog w K mg base CX0 10 f21 d21 ["_law_pot"] spValR := ok_valR F21 B (gz z_repr) ⟨cl, ha, hn, ht, hm, kit_no no⟩ C18 C19 C4 C5
  have C22 : Cd l.prog w K mg base 4 "_law_order_right" ["_law_pot"] spOrdR := ⟨_, _, ok_ordR F22 B W O C14 C15 C17 C16 C7 C20, gm D22.at_, F22.kp, b22⟩
  exact ok_law F23 B W L C13 G21 (gm D21.at_) F21.kp b21 C22 C7 C4 C5
theorem walk {l : PySem.W.OpenLaw} {q p : Program} {loose : List Str} {YP : World → Heap → Prop} {d : DefRec} {K : Params → PySem.W.Frag} (hn : l.most = some 63) (hdf : d.params.defaults = [])
    (hY : ∀ (w : World) (h : Heap), YP w h → (K w.params).In h)
    (F : ∀ (w : World) (mg : Str → Option Value) (fa : Addr) (h : Heap), (K w.params).In h → h.Ns mainGlobals mg → PySem.W.XL p [("LARGEST", PySem.W.WData.int LG)] mg h → mg d.name = some (.ref fa) →
      ∃ fd : FuncData, (∀ (s : Shared) (u : Value), BindsTo s fd ⟨[u], []⟩ [("_law_script", u)]) ∧ ∀ base : Heap, (K w.params).In base → base.Ns mainGlobals mg → FnG l.prog w (K w.params) mg base CX0 11 fa fd ["_law_script"] (spLaw (K w.params))) :
    PySem.W.WalkO q loose (PySem.W.XL p [("LARGEST", PySem.W.WData.int LG)]) YP l.row.toRowW d [] (fun f vs => PySem.call f vs) :=
  walk_ofG (n := 63) (k := 11) (x := "_law_script") (sp := fun w => spLaw (K w.params)) hn (by decide) hdf ⟨rfl, by decide, by decide⟩ hY F (fun _ _ a ns hl _ hS => ⟨a, ns, rfl, hS, hl, fun _ => rfl⟩)
end Mk

open PySem PySem.W PyProof.Rows in
set_option maxRecDepth 100000 in
set_option maxHeartbeats 0 in
theorem PySem.Challenge.cw_mendnumber_k00_words_judged_and_ordered_holds : PySem.Challenge.rw_mendnumber_k00_words_judged_and_ordered.Holds := by
  w_on; o_law; k_head; (case hw => w_witness2)
  k_fill
  refine Mk.walk (l := PySem.Challenge.rw_mendnumber_k00_words_judged_and_ordered) rfl rfl (fun w h Y => PySem.W.kIn_of Y) ?F
  case F =>
    intro w mg fa h KX G XP hmg
    refine' Mk.all_mk KX G XP.2 hmg (Mk.df_mk ?a1 ?l1 ?c1 ?k1) (Mk.df_mk ?a2 ?l2 ?c2 ?k2) (Mk.df_mk ?a3 ?l3 ?c3 ?k3) (Mk.df_mk ?a4 ?l4 ?c4 ?k4) (Mk.df_mk ?a5 ?l5 ?c5 ?k5) (Mk.df_mk ?a6 ?l6 ?c6 ?k6) (Mk.df_mk ?a7 ?l7 ?c7 ?k7) (Mk.df_mk ?a8 ?l8 ?c8 ?k8) (Mk.df_mk ?a9 ?l9 ?c9 ?k9) (Mk.df_mk ?a10 ?l10 ?c10 ?k10) (Mk.df_mk ?a11 ?l11 ?c11 ?k11) (Mk.df_mk ?a12 ?l12 ?c12 ?k12) (Mk.df_mk ?a13 ?l13 ?c13 ?k13) (Mk.df_mk ?a14 ?l14 ?c14 ?k14) (Mk.df_mk ?a15 ?l15 ?c15 ?k15) (Mk.df_mk ?a16 ?l16 ?c16 ?k16) (Mk.df_mk ?a17 ?l17 ?c17 ?k17) (Mk.df_mk ?a18 ?l18 ?c18 ?k18) (Mk.df_mk ?a19 ?l19 ?c19 ?k19) (Mk.df_mk ?a20 ?l20 ?c20 ?k20) (Mk.df_mk ?a21 ?l21 ?c21 ?k21) (Mk.df_mk ?a22 ?l22 ?c22 ?k22) (Mk.df_mk ?a23 ?l23 ?c23 ?k23) ?y_z_len ?y_z_int ?y_z_abs ?y_z_max ?y_z_min ?y_z_range ?y_z_list ?y_z_isinstance ?y_z_str ?y_z_tuple ?y_z_all ?y_z_sorted ?y_z_set ?y_z_bool ?y_z_dict ?y_z_repr ?y_vS ?y_vW ?y_vP ?y_vM ?y_aC ?y_pg ?y_hd ?y_po ?y_sa ?y_mk ?y_kc ?y_n1 ?y_n2 ?y_n3 ?y_n4 ?y_ii ?y_jf ?y_li ?y_ci ?y_ki ?y_r1 ?y_r2 ?y_m1 ?y_m2 ?y_m3 ?y_l4 ?y_c4 ?y_k4 ?y_lT ?y_ha ?y_hn ?y_ht ?y_hm ?y_no
    (case a1 => k_is)
    (case l1 => k_is)
    (case c1 => k_is)
    (case k1 => k_is)
    (case a2 => k_is)
    (case l2 => k_is)
    (case c2 => k_is)
    (case k2 => k_is)
    (case a3 => k_is)
    (case l3 => k_is)
    (case c3 => k_is)
    (case k3 => k_is)
    (case a4 => k_is)
    (case l4 => k_is)
    (case c4 => k_is)
    (case k4 => k_is)
    (case a5 => k_is)
    (case l5 => k_is)
    (case c5 => k_is)
    (case k5 => k_is)
    (case a6 => k_is)
    (case l6 => k_is)
    (case c6 => k_is)
    (case k6 => k_is)
    (case a7 => k_is)
    (case l7 => k_is)
    (case c7 => k_is)
    (case k7 => k_is)
    (case a8 => k_is)
    (case l8 => k_is)
    (case c8 => k_is)
    (case k8 => k_is)
    (case a9 => k_is)
    (case l9 => k_is)
    (case c9 => k_is)
    (case k9 => k_is)
    (case a10 => k_is)
    (case l10 => k_is)
    (case c10 => k_is)
    (case k10 => k_is)
    (case a11 => k_is)
    (case l11 => k_is)
    (case c11 => k_is)
    (case k11 => k_is)
    (case a12 => k_is)
    (case l12 => k_is)
    (case c12 => k_is)
    (case k12 => k_is)
    (case a13 => k_is)
    (case l13 => k_is)
    (case c13 => k_is)
    (case k13 => k_is)
    (case a14 => k_is)
    (case l14 => k_is)
    (case c14 => k_is)
    (case k14 => k_is)
    (case a15 => k_is)
    (case l15 => k_is)
    (case c15 => k_is)
    (case k15 => k_is)
    (case a16 => k_is)
    (case l16 => k_is)
    (case c16 => k_is)
    (case k16 => k_is)
    (case a17 => k_is)
    (case l17 => k_is)
    (case c17 => k_is)
    (case k17 => k_is)
    (case a18 => k_is)
    (case l18 => k_is)
    (case c18 => k_is)
    (case k18 => k_is)
    (case a19 => k_is)
    (case l19 => k_is)
    (case c19 => k_is)
    (case k19 => k_is)
    (case a20 => k_is)
    (case l20 => k_is)
    (case c20 => k_is)
    (case k20 => k_is)
    (case a21 => k_is)
    (case l21 => k_is)
    (case c21 => k_is)
    (case k21 => k_is)
    (case a22 => k_is)
    (case l22 => k_is)
    (case c22 => k_is)
    (case k22 => k_is)
    (case a23 => k_is)
    (case l23 => k_is)
    (case c23 => k_is)
    (case k23 => k_is)
    (case y_z_len => k_is)
    (case y_z_int => k_is)
    (case y_z_abs => k_is)
    (case y_z_max => k_is)
    (case y_z_min => k_is)
    (case y_z_range => k_is)
    (case y_z_list => k_is)
    (case y_z_isinstance => k_is)
    (case y_z_str => k_is)
    (case y_z_tuple => k_is)
    (case y_z_all => k_is)
    (case y_z_sorted => k_is)
    (case y_z_set => k_is)
    (case y_z_bool => k_is)
    (case y_z_dict => k_is)
    (case y_z_repr => k_is)
    (case y_vS => k_is)
    (case y_vW => k_is)
    (case y_vP => k_is)
    (case y_vM => k_is)
    (case y_aC => k_is)
    (case y_pg => k_is)
    (case y_hd => k_is)
    (case y_po => k_is)
    (case y_sa => k_is)
    (case y_mk => k_is)
    (case y_kc => k_is)
    (case y_n1 => k_is)
    (case y_n2 => k_is)
    (case y_n3 => k_is)
    (case y_n4 => k_is)
    (case y_ii => k_is)
    (case y_jf => k_is)
    (case y_li => k_is)
    (case y_ci => k_is)
    (case y_ki => k_is)
    (case y_r1 => k_is)
    (case y_r2 => k_is)
    (case y_m1 => k_is)
    (case y_m2 => k_is)
    (case y_m3 => k_is)
    (case y_l4 => k_is)
    (case y_c4 => k_is)
    (case y_k4 => k_is)
    (case y_lT => k_is)
    (case y_ha => k_is)
    (case y_hn => k_is)
    (case y_ht => k_is)
    (case y_hm => k_is)
    (case y_no => k_is)
