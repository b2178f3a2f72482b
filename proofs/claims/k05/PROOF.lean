import PyProof.Rows.All
import Wide.All
import OpenK.AllK
import Wide.FinOn
import PyProof.EqAt
import PyProof.EqKinds
import PyProof.TupleCall
import HandS.ForMost
import HandS.Exc
import HandS.TryOnly
import HandS.ExcOwn
import HandS.WordsExc
import HandS.Wide
import HandS.Flow
import HandS.IsInst
import HandS.Strs
import HandS.Zip
import HandS.TupAny
import HandS.Defaults
import HandS.MakeKw
import HandS.MakeKwOnly
import HandS.ExcInit
import PySem.Challenge.RW_lastshown_k05_whole_book_histories
import KE.DataEq
import HandS.SetKeys
import HandS.SetFor
import HandS.SetBool
import HandS.TryMany
import HandS.Walk
import HandS.Star
import HandS.Base
import HandS.Call
import HandS.ExcField
import HandS.ExcIs
import HandS.TupMul
set_option Elab.async false
set_option linter.all false
set_option maxRecDepth 100000
set_option maxHeartbeats 4000000
namespace Sh
open PySem L2
def top (i : Nat) : Stmt := PySem.Challenge.pw_lastshown_k05_whole_book_histories.main.body.getD i (.Pass ⟨0, 0, 0, 0⟩)
/-! ### powers of any base -/
def CPowW (i j : Int) : Prop := 0 ≤ j ∧ j ≤ 1000 ∧ i.natAbs < 2 ^ 1000
theorem bits_le (i : Int) (n : Nat) (h : i.natAbs < 2 ^ n) : Builtin.Int.intBits i ≤ n + 1 := by
  unfold Builtin.Int.intBits
  split
  · omega
  · have : i.natAbs.log2 < n ∨ n = 0 := by
      rcases Nat.eq_zero_or_pos n with h0 | h0
      · exact .inr h0
      · exact .inl (PySem.Flt.log2_lt_of h0 h)
    rcases this with q | q
    · omega
    · subst q
      have : i.natAbs = 0 := by omega
      rw [this]
      decide
theorem op_powW {X : Cx} : OpR X (binaryOp .Pow) (rI CPowW fun i j => .int (i ^ j.toNat)) := opI fun i j _ _ _ _ _ hc q => by
  have h := bits_le i 1000 hc.2.2
  have h0 : 0 ≤ j := hc.1
  have h1 : j ≤ 1000 := hc.2.1
  refine PyProof.Rows.pow_int hc.1 ?_ q
  have z : (Builtin.Int.intBits i : Int) * j ≤ 1001 * 1000 := Int.mul_le_mul (by omega) h1 h0 (by decide)
  exact Int.le_trans z (by decide)
/-! ### the jar -/
def JarAt (H : Hp) (j : Addr) (n : Nat) : Prop := ∃ a b c : Int, H j = some (.lst [.int a, .int b, .int c]) ∧ 0 ≤ a ∧ 0 ≤ b ∧ b < 2 ^ 200 ∧ 0 ≤ c ∧ c ≤ n
/-- all that was tracked, but what stands at j, is as it was -/
def Kp (j : Addr) (H H' : Hp) : Prop := ∀ b o, b ≠ j → H b = some o → H' b = some o
def spDraw : Sp := fun vs H Q _ => ∃ (j : Addr) (m : Int) (n : Nat), vs = [.ref j, .int m] ∧ JarAt H j n ∧ 0 < m ∧ m < 2 ^ 200 ∧ n ≤ 2 ^ 100 ∧ ∀ (r : Int) (H' : Hp), 0 ≤ r → r < m → JarAt H' j (n + 1) → Kp j H H' → Q (.int r) H'
def spJar (K : PySem.W.Frag) : Sp := fun vs H Q _ => ∃ (a : Addr) (ns : List Int) (k : Int), vs = [.ref a, .int k] ∧ SqL K H a (ns.map V.int) ∧ 0 ≤ k ∧ k < 1000 ∧ ∀ (j : Addr) (H' : Hp), JarAt H' j 0 → H j = none → Same H H' → Q (.ref j) H'
theorem stir_lt (x : Int) {c : Int} (hc : 0 ≤ c) (hn : c ≤ 2 ^ 101) : (x % ((10 : Int) ^ (Int.toNat 42) + 63) + 32452867 * (c + 1)).natAbs < 2 ^ 1000 := by
  have e : (10 : Int) ^ (Int.toNat 42) + 63 = 1000000000000000000000000000000000000000063 := by decide
  rw [e]
  have h1 := Int.emod_nonneg x (b := 1000000000000000000000000000000000000000063) (by decide)
  have h2 := Int.emod_lt_of_pos x (b := 1000000000000000000000000000000000000000063) (by decide)
  exact Nat.lt_of_lt_of_le (show _ < 2 ^ 200 by omega) (by decide)
structure TxtB (mg : Str → Option Value) : Prop where
  b_int : mg "int" = none
  b_len : mg "len" = none
  b_abs : mg "abs" = none
  b_max : mg "max" = none
  b_range : mg "range" = none
  b_tuple : mg "tuple" = none
  b_str : mg "str" = none
  b_isinstance : mg "isinstance" = none
  b_all : mg "all" = none
  b_zip : mg "zip" = none
section
variable {P : Program} {w : World} {K : PySem.W.Frag} {mg : Str → Option Value} {base : Heap}
abbrev s_draw : Stmt := top 16
theorem sc_draw : FnScope ["jar", "many", "found", "stirred"] ["jar", "many"] (defScope s_draw) := ⟨rfl, rfl, rfl, by decide +kernel, rfl, by decide +kernel, by decide +kernel⟩
theorem ok_draw {f : Addr} {fd : FuncData} (F : Fun K "_law_draw" "_law_draw" s_draw f fd) (T : TxtB mg) : FnOk P w K mg base CX0 1 f fd ["jar", "many"] spDraw := by
  refine F.ok sc_draw (fun vs H Q E h => ?_) (fun cdv A outer s H vs Q E hr h => ?_)
  · obtain ⟨j, m, n, rfl, _⟩ := h
    rfl
  · obtain ⟨j, m, n, rfl, ⟨a, b, c, hj, ha, hb, hb2, hc, hcn⟩, hm, hm2, hn, k⟩ := h
    refine ⟨_, (pss_cons (ps_if (pt_cmpR op_gt (pe_ix ix_list (pv 0) pe_int (fun _ _ => rfl)) pe_int (nomark _)) (pss_cons (ps_set (i := 2) sc_draw.nd rfl (Or.inl rfl) (pe_op op_mod (pe_callTy call_int1 (by rfl) T.b_int (by decide +kernel) (pa_cons (pe_ix ix_list (pv 0) pe_int (fun _ _ => rfl)) pa_nil)) (pv 1)))
  (pss_cons (ps_asg (pe_op op_fdivW (pe_ix ix_list (pv 0) pe_int (fun _ _ => rfl)) (pv 1)) (pg_sub (pv 0) pe_int set_list))
  (pss_one (ps_ret (pv 2))))) pss_nil)
  (pss_cons (ps_asg (pe_op op_add (pe_ix ix_list (pv 0) pe_int (fun _ _ => rfl)) pe_int) (pg_sub (pv 0) pe_int set_list))
  (pss_cons (ps_set (i := 3) sc_draw.nd rfl (Or.inl rfl) (pe_op op_mod (pe_callTy call_int1 (by rfl) T.b_int (by decide +kernel) (pa_cons (pe_op op_add (pe_op op_powW (pe_op op_add (pe_ix ix_list (pv 0) pe_int (fun _ _ => rfl)) (pe_op op_mul pe_int (pe_ix ix_list (pv 0) pe_int (fun _ _ => rfl)))) pe_int) (pe_op op_mul pe_int (pe_ix ix_list (pv 0) pe_int (fun _ _ => rfl)))) pa_nil)) (pe_op op_add (pe_op op_powW pe_int pe_int) pe_int)))
  (pss_cons (ps_set (i := 3) sc_draw.nd rfl (Or.inl rfl) (pe_op op_mod (pe_callTy call_int1 (by rfl) T.b_int (by decide +kernel) (pa_cons (pe_op op_powW (pe_op op_add (pv 3) (pe_op op_mul pe_int (pe_ix ix_list (pv 0) pe_int (fun _ _ => rfl)))) pe_int) pa_nil)) (pe_op op_add (pe_op op_powW pe_int pe_int) pe_int)))
  (pss_one (ps_ret (pe_op op_mod (pe_callTy call_int1 (by rfl) T.b_int (by decide +kernel) (pa_cons (pe_op op_fdivW (pv 3) (pe_op op_powW pe_int pe_int)) pa_nil)) (pv 1)))))))), ?_⟩
    refine ⟨_, rfl, j, _, 0, _, rfl, rfl, SqL.of hj, rfl, ?_⟩
    refine ⟨_, _, rfl, rfl, _, rfl, ?_⟩
    refine ite2 (fun h0 => ?_) (fun h0 => ?_)
    · refine ⟨_, rfl, j, _, 0, _, rfl, rfl, SqL.of hj, rfl, ?_⟩
      refine .inl ⟨_, rfl, ?_⟩
      refine ⟨_, rfl, _, _, rfl, rfl, hm, ?_⟩
      refine ⟨_, rfl, j, _, 0, _, rfl, rfl, SqL.of hj, rfl, ?_⟩
      refine ⟨_, rfl, _, _, rfl, rfl, wide_div hm (b := 200) (by omega) (by decide) (by decide), ?_⟩
      refine ⟨_, rfl, j, _, 0, 0, rfl, rfl, hj, rfl, ?_⟩
      refine ⟨_, rfl, ?_⟩
      refine k _ _ (Int.emod_nonneg _ (by omega)) (Int.emod_lt_of_pos _ hm) ⟨_, _, _, upd_same, Int.ediv_nonneg ha (by omega), hb, hb2, hc, by omega⟩ fun b' o hb' e => by rw [upd_ne hb']; exact e
    · refine ⟨_, rfl, j, _, 2, _, rfl, rfl, SqL.of hj, rfl, ?_⟩
      refine ⟨_, _, rfl, rfl, ?_⟩
      refine ⟨_, rfl, j, _, 2, 2, rfl, rfl, hj, rfl, ?_⟩
      have hj1 : upd H j (.lst [.int a, .int b, .int (c + 1)]) j = some (.lst [.int a, .int b, .int (c + 1)]) := upd_same
      refine ⟨_, rfl, j, _, 1, _, rfl, rfl, SqL.of hj1, rfl, ?_⟩
      refine ⟨_, rfl, j, _, 2, _, rfl, rfl, SqL.of hj1, rfl, ?_⟩
      refine ⟨_, _, rfl, rfl, .inl ⟨by decide, by decide⟩, ?_⟩
      refine ⟨_, _, rfl, rfl, ?_⟩
      refine ⟨_, _, rfl, rfl, ⟨by decide, by decide, ?_⟩, ?_⟩
      · show (b + 15485867 * (c + 1)).natAbs < 2 ^ 1000
        exact Nat.lt_of_lt_of_le (show (b + 15485867 * (c + 1)).natAbs < 2 ^ 201 by omega) (by decide)
      refine ⟨_, rfl, j, _, 2, _, rfl, rfl, SqL.of hj1, rfl, ?_⟩
      refine ⟨_, _, rfl, rfl, .inl ⟨by decide, by decide⟩, ?_⟩
      refine ⟨_, _, rfl, rfl, ?_⟩
      refine .inl ⟨_, rfl, ?_⟩
      refine ⟨_, _, rfl, rfl, ⟨by decide, by decide, by decide⟩, ?_⟩
      refine ⟨_, _, rfl, rfl, ?_⟩
      refine ⟨_, _, rfl, rfl, (by show (0 : Int) < _; decide), ?_⟩
      refine ⟨_, rfl, ?_⟩
      refine ⟨_, rfl, j, _, 2, _, rfl, rfl, SqL.of hj1, rfl, ?_⟩
      refine ⟨_, _, rfl, rfl, .inl ⟨by decide, by decide⟩, ?_⟩
      refine ⟨_, _, rfl, rfl, ?_⟩
      refine ⟨_, _, rfl, rfl, ⟨by decide, by decide, ?_⟩, ?_⟩
      · exact stir_lt _ hc (by omega)
      refine .inl ⟨_, rfl, ?_⟩
      refine ⟨_, _, rfl, rfl, ⟨by decide, by decide, by decide⟩, ?_⟩
      refine ⟨_, _, rfl, rfl, ?_⟩
      refine ⟨_, _, rfl, rfl, (by show (0 : Int) < _; decide), ?_⟩
      refine ⟨_, rfl, ?_⟩
      refine ⟨_, _, rfl, rfl, ⟨by decide, by decide, by decide⟩, ?_⟩
      refine ⟨_, _, rfl, rfl, wide_div (b := 200) (by decide) (by decide) (by decide) (by decide), ?_⟩
      refine .inl ⟨_, rfl, ?_⟩
      refine ⟨_, rfl, ?_⟩
      refine ⟨_, _, rfl, rfl, hm, ?_⟩
      exact k _ _ (Int.emod_nonneg _ (by omega)) (Int.emod_lt_of_pos _ hm) ⟨_, _, _, hj1, ha, hb, hb2, by omega, by omega⟩ fun b' o hb' e => by rw [upd_ne hb']; exact e

/-- one way on behind a conditional expression -/
theorem tIf_via {t : TT} {ta tb : TE} {σ : L2.St} {H : Hp} {Q : VK} (R : V → Hp → Prop) (h : (∀ v H', R v H' → Q v H') → tIf t ta tb σ H Q) (k : ∀ v H', R v H' → Q v H') : tIf t ta tb σ H Q := h k
abbrev s_jar : Stmt := top 15
theorem sc_jar : FnScope ["script", "k", "cell"] ["script", "k"] (defScope s_jar) := ⟨rfl, rfl, rfl, by decide +kernel, rfl, by decide +kernel, by decide +kernel⟩
theorem ok_jar {f : Addr} {fd : FuncData} (F : Fun K "_law_jar" "_law_jar" s_jar f fd) (T : TxtB mg) : FnOk P w K mg base CX0 1 f fd ["script", "k"] (spJar K) := by
  refine F.ok sc_jar (fun vs H Q E h => ?_) (fun cdv A outer s H vs Q E hr h => ?_)
  · obtain ⟨j, m, n, rfl, _⟩ := h
    rfl
  · obtain ⟨a, ns, k, rfl, hS, hk, hk2, q⟩ := h
    refine ⟨_, (pss_cons (ps_set (i := 2) sc_jar.nd rfl (Or.inl rfl) (pe_ifExp (pt_cmpR op_lt (pv 1) (pe_callB call_len_seq (by rfl) T.b_len (by decide +kernel) (pa_cons (pv 0) pa_nil)) (nomark _)) (pe_callB call_abs (by rfl) T.b_abs (by decide +kernel) (pa_cons (pe_callTy call_int1 (by rfl) T.b_int (by decide +kernel) (pa_cons (pe_ix ix_list (pv 0) (pv 1) (fun _ _ => rfl)) pa_nil)) pa_nil)) pe_int))
  (pss_one (ps_ret (pe_lst (pa_cons (pe_callB (call_max2 rfl) (by rfl) T.b_max (by decide +kernel) (pa_cons pe_int (pa_cons (pe_op op_sub (pv 2) (pe_op op_powW pe_int pe_int)) pa_nil))) (pa_cons (pe_op op_add (pe_op op_mod (pe_callTy call_int1 (by rfl) T.b_int (by decide +kernel) (pa_cons (pv 2) pa_nil)) (pe_op op_add (pe_op op_powW pe_int pe_int) pe_int)) (pe_op op_mul pe_int (pv 1))) (pa_cons pe_int pa_nil))))))), ?_⟩
    refine tIf_via (fun v H' => ∃ c : Int, v = .int c ∧ H' = H) (fun key => ?_) ?_
    · refine ⟨_, rfl, _, rfl, a, _, rfl, .inl hS, _, _, rfl, rfl, _, rfl, ?_⟩
      refine ite2 (fun h1 => ?_) (fun h1 => ?_)
      · have h2 : k.toNat < ns.length := by
          have z := of_decide_eq_true h1
          rw [List.length_map] at z
          omega
        refine ⟨_, rfl, _, rfl, a, _, k, .int ns[k.toNat], rfl, rfl, hS, at_of (j := k.toNat) (by omega) (by rw [List.getElem?_map, List.getElem?_eq_getElem h2]; rfl), ?_⟩
        refine .inl ⟨_, rfl, _, rfl, ?_⟩
        exact key _ _ ⟨_, rfl, rfl⟩
      · exact key _ _ ⟨0, rfl, rfl⟩
    · rintro v H' ⟨c, rfl, rfl⟩
      refine ⟨_, rfl, ?_⟩
      refine ⟨_, _, rfl, rfl, ⟨by decide, by decide, by decide⟩, ?_⟩
      refine ⟨_, _, rfl, rfl, ?_⟩
      refine ⟨_, _, rfl, ?_⟩
      refine ⟨_, rfl, ?_⟩
      refine .inl ⟨_, rfl, ?_⟩
      refine ⟨_, _, rfl, rfl, ⟨by decide, by decide, by decide⟩, ?_⟩
      refine ⟨_, _, rfl, rfl, ?_⟩
      refine ⟨_, _, rfl, rfl, (by show (0 : Int) < _; decide), ?_⟩
      refine ⟨_, rfl, ?_⟩
      refine ⟨_, _, rfl, rfl, .inl ⟨by decide, by decide⟩, ?_⟩
      refine ⟨_, _, rfl, rfl, ?_⟩
      refine ⟨by show 3 ≤ sizeLine; decide, fun p hp => ?_⟩
      have e : (10 : Int) ^ (Int.toNat 36) + 67 = 1000000000000000000000000000000000067 := by decide
      have h1 := Int.emod_nonneg c (b := (10 : Int) ^ (Int.toNat 36) + 67) (by decide)
      have h2 := Int.emod_lt_of_pos c (b := (10 : Int) ^ (Int.toNat 36) + 67) (by decide)
      refine q p _ ⟨_, _, _, upd_same, ?_, ?_, ?_, by decide, by decide⟩ hp fun b o e => ?_
      · split <;> omega
      · omega
      · omega
      · rw [upd_ne (ne_of_none e hp)]
        exact e
end
end Sh

namespace Sh
open PySem L2
/-! ### what stays -/
/-- all but lists stays -/
def KT (H H' : Hp) : Prop := ∀ b o, (∀ xs, o ≠ HO.lst xs) → H b = some o → H' b = some o
theorem KT.refl (H : Hp) : KT H H := fun _ _ _ h => h
theorem KT.trans {H H1 H2 : Hp} (a : KT H H1) (b : KT H1 H2) : KT H H2 := fun c o z h => b c o z (a c o z h)
theorem _root_.L2.Same.kt {H H' : Hp} (s : Same H H') : KT H H' := fun b o _ h => s b o h
theorem Kp.kt {j : Addr} {H H' : Hp} {xs : List V} (hj : H j = some (.lst xs)) (k : Kp j H H') : KT H H' := fun b o z h => by
  refine k b o (fun e => ?_) h
  subst e
  rw [hj] at h
  exact z xs (Option.some.inj h).symm
theorem JarAt.kt {j : Addr} {H H' : Hp} {n : Nat} (J : JarAt H j n) (k : Kp j H H') : KT H H' := by
  obtain ⟨a, b, c, hj, _⟩ := J
  exact k.kt hj
theorem Kp.refl (j : Addr) (H : Hp) : Kp j H H := fun _ _ _ h => h
theorem Kp.trans {j : Addr} {H H1 H2 : Hp} (a : Kp j H H1) (b : Kp j H1 H2) : Kp j H H2 := fun c o z h => b c o z (a c o z h)
theorem _root_.L2.Same.kp {H H' : Hp} (j : Addr) (s : Same H H') : Kp j H H' := fun b o _ h => s b o h
theorem kp_fresh {j D : Addr} {H H2 H4 : Hp} {o : HO} (a : Kp j H H2) (hD : H2 D = none) (b : Kp j H H4) : Kp j H (upd H4 D o) := fun c u hc e => by
  rw [upd_ne (ne_of_none (a c u hc e) hD)]
  exact b c u hc e
theorem same_new {H : Hp} {p : Addr} {o : HO} (hp : H p = none) : Same H (upd H p o) := fun b u e => by
  rw [upd_ne (ne_of_none e hp)]
  exact e
theorem kt_lst {H : Hp} {p : Addr} {xs : List V} {o : HO} (hp : H p = some (.lst xs)) : KT H (upd H p o) := fun b u z e => by
  have hb : b ≠ p := fun q => by
    rw [q, hp] at e
    exact z xs (Option.some.inj e).symm
  rw [upd_ne hb]
  exact e
theorem KT.rd {H H' : Hp} (k : KT H H') {a : Addr} {xs : List V} (h : Rd H a (.tup xs)) : Rd H' a (.tup xs) := by
  rcases h with h | ⟨o, h⟩
  · exact .inl (k _ _ (fun _ z => by cases z) h)
  · exact .inr ⟨o, k _ _ (fun _ z => by cases z) h⟩
theorem KT.sqT {K : PySem.W.Frag} {H H' : Hp} (k : KT H H') {a : Addr} {xs : List V} (h : SqT K H a xs) : SqT K H' a xs := by
  rcases h with h | h
  · exact .inl (k.rd h)
  · exact .inr h
theorem JarAt.keep {H H' : Hp} {j : Addr} {n : Nat} (J : JarAt H j n) (h : ∀ o, H j = some o → H' j = some o) : JarAt H' j n := by
  obtain ⟨a, b, c, hj, q⟩ := J
  exact ⟨a, b, c, h _ hj, q⟩
theorem JarAt.same {H H' : Hp} {j : Addr} {n : Nat} (J : JarAt H j n) (h : Same H H') : JarAt H' j n := J.keep (h j)
theorem JarAt.mono {H : Hp} {j : Addr} {n m : Nat} (J : JarAt H j n) (h : n ≤ m) : JarAt H j m := by
  obtain ⟨a, b, c, hj, q1, q2, q3, q4, q5⟩ := J
  exact ⟨a, b, c, hj, q1, q2, q3, q4, by omega⟩
theorem JarAt.ne {H : Hp} {j p : Addr} {n : Nat} (J : JarAt H j n) (h : H p = none) : p ≠ j := by
  obtain ⟨a, b, c, hj, _⟩ := J
  exact (ne_of_none hj h).symm
theorem JarAt.neT {H : Hp} {j p : Addr} {n : Nat} {o : HO} (J : JarAt H j n) (h : H p = some o) (z : ∀ xs, o ≠ .lst xs) : p ≠ j := by
  obtain ⟨a, b, c, hj, _⟩ := J
  exact ne_of h hj (z _)
/-! ### rules -/
def acts : List Str := ["take", "least", "last", "show", "ask"]
def doors : List Str := ["put", "look", "alter", "back", "pay", "again"]
def IsRule (r : List Str) : Prop := r.length ≤ 6 ∧ ∀ x ∈ r, x ∈ acts
/-- a tuple of texts -/
def RuleAt (K : PySem.W.Frag) (H : Hp) (v : V) (r : List Str) : Prop := ∃ a, v = .ref a ∧ SqT K H a (r.map V.str)
def SixAt (K : PySem.W.Frag) (H : Hp) (v : V) (rs : List (List Str)) : Prop := ∃ a vs, v = .ref a ∧ SqT K H a vs ∧ Paired (RuleAt K H) vs rs
theorem KT.rule {K : PySem.W.Frag} {H H' : Hp} (k : KT H H') {v : V} {r : List Str} (h : RuleAt K H v r) : RuleAt K H' v r := by
  obtain ⟨a, e, h⟩ := h
  exact ⟨a, e, k.sqT h⟩
theorem pair_map {α β : Type} {F G : α → β → Prop} (h : ∀ a b, F a b → G a b) : ∀ {l1 : List α} {l2 : List β}, Paired F l1 l2 → Paired G l1 l2
  | _, _, .nil => .nil
  | _, _, .cons a b => .cons (h _ _ a) (pair_map h b)
theorem KT.rules {K : PySem.W.Frag} {H H' : Hp} (k : KT H H') {vs : List V} {rs : List (List Str)} (h : Paired (RuleAt K H) vs rs) : Paired (RuleAt K H') vs rs := pair_map (fun _ _ q => k.rule q) h
theorem KT.six {K : PySem.W.Frag} {H H' : Hp} (k : KT H H') {v : V} {rs : List (List Str)} (h : SixAt K H v rs) : SixAt K H' v rs := by
  obtain ⟨a, vs, e, h, q⟩ := h
  exact ⟨a, vs, e, k.sqT h, k.rules q⟩
theorem pair_get {α β : Type} {F : α → β → Prop} : ∀ {l1 : List α} {l2 : List β} {i : Nat} {y : β}, Paired F l1 l2 → l2[i]? = some y → ∃ x, l1[i]? = some x ∧ F x y
  | _, _, i, y, .nil, h => by simp at h
  | x :: _, _, 0, y, .cons a b, h => by
    have e := Option.some.inj h
    subst e
    exact ⟨x, rfl, a⟩
  | _ :: l1, _ :: l2, i + 1, y, .cons a b, h => pair_get (l1 := l1) (l2 := l2) (i := i) (y := y) b h
theorem pair_get1 {α β : Type} {F : α → β → Prop} : ∀ {l1 : List α} {l2 : List β} {i : Nat} {x : α}, Paired F l1 l2 → l1[i]? = some x → ∃ y, l2[i]? = some y ∧ F x y
  | _, _, i, y, .nil, h => by simp at h
  | _, y :: _, 0, _, .cons a b, h => by
    have e := Option.some.inj h
    subst e
    exact ⟨y, rfl, a⟩
  | _ :: l1, _ :: l2, i + 1, x, .cons a b, h => pair_get1 (l1 := l1) (l2 := l2) (i := i) (x := x) b h
theorem pair_snoc {α β : Type} {F : α → β → Prop} {x : α} {y : β} (f : F x y) : ∀ {l1 : List α} {l2 : List β}, Paired F l1 l2 → Paired F (l1 ++ [x]) (l2 ++ [y])
  | _, _, .nil => .cons f .nil
  | _, _, .cons a b => .cons a (pair_snoc f b)
/-! ### as data -/
def dRule (r : List Str) : PyData := .tuple (r.map PyData.str)
def dSix (rs : List (List Str)) : PyData := .tuple (rs.map dRule)
theorem dp_strs {K : PySem.W.Frag} {H : Hp} : ∀ r : List Str, DpAll K H (r.map V.str) (r.map PyData.str)
  | [] => .nil
  | x :: r => .cons (.str x) (dp_strs r)
theorem RuleAt.dp {K : PySem.W.Frag} {H : Hp} {v : V} {r : List Str} (h : RuleAt K H v r) : Dp K H v (dRule r) := by
  obtain ⟨a, rfl, h⟩ := h
  exact .tup h (dp_strs r)
theorem dp_rules {K : PySem.W.Frag} {H : Hp} : ∀ {vs : List V} {rs : List (List Str)}, Paired (RuleAt K H) vs rs → DpAll K H vs (rs.map dRule)
  | _, _, .nil => .nil
  | _, _, .cons a b => .cons a.dp (dp_rules b)
theorem SixAt.dp {K : PySem.W.Frag} {H : Hp} {v : V} {rs : List (List Str)} (h : SixAt K H v rs) : Dp K H v (dSix rs) := by
  obtain ⟨a, vs, rfl, h, q⟩ := h
  exact .tup h (dp_rules q)
def spRule : Sp := fun vs H Q _ => ∃ (j : Addr) (m : Int) (n : Nat), vs = [.ref j, .int m] ∧ JarAt H j n ∧ 0 ≤ m ∧ m ≤ 6 ∧ n ≤ 2 ^ 90 ∧
  ∀ (a : Addr) (r : List Str) (H' : Hp), H' a = some (.tup (r.map V.str)) → (r.length : Int) ≤ m → (∀ x ∈ r, x ∈ acts) → JarAt H' j (n + 10) → Kp j H H' → Q (.ref a) H'
def spSix (K : PySem.W.Frag) : Sp := fun vs H Q _ => ∃ (j : Addr) (n : Nat), vs = [.ref j] ∧ JarAt H j n ∧ n ≤ 2 ^ 80 ∧
  ∀ (a : Addr) (rs : List (List Str)) (H' : Hp), SixAt K H' (.ref a) rs → rs.length = 6 → (∀ r ∈ rs, IsRule r) → JarAt H' j (n + 100) → Kp j H H' → Q (.ref a) H'
section
variable {P : Program} {w : World} {K : PySem.W.Frag} {mg : Str → Option Value} {base : Heap}
abbrev s_rule : Stmt := top 17
theorem sc_rule : FnScope ["jar", "most", "actions", "k"] ["jar", "most"] (defScope s_rule) := ⟨rfl, rfl, rfl, by decide +kernel, rfl, by decide +kernel, by decide +kernel⟩
theorem ok_rule {f fD : Addr} {fd fdD : FuncData} (F : Fun K "_law_rule" "_law_rule" s_rule f fd) (T : TxtB mg) (gD : mg "_law_draw" = some (.ref fD)) (FD : Fun K "_law_draw" "_law_draw" s_draw fD fdD) (bD : Binds K fdD ["jar", "many"] []) : FnOk P w K mg base CX0 2 f fd ["jar", "most"] spRule := by
  have GD : FnOk P w K mg base CX0 1 fD fdD ["jar", "many"] spDraw := ok_draw FD T
  refine F.ok sc_rule (fun vs H Q E h => ?_) (fun cdv A outer s H vs Q E hr h => ?_)
  · obtain ⟨j, m, n, rfl, _⟩ := h
    rfl
  · obtain ⟨j, m, n, rfl, J, hm, hm2, hn, q⟩ := h
    refine ⟨_, (pss_cons (ps_set (i := 2) sc_rule.nd rfl (Or.inr rfl) (pe_lst (pa_cons pe_str (pa_cons pe_str (pa_cons pe_str (pa_cons pe_str (pa_cons pe_str pa_nil)))))))
  (pss_one (ps_ret (pe_callTy call_tuple_of (by rfl) T.b_tuple (by decide +kernel) (pa_cons (pe_lc (own := [("k", 3)]) (g := (gName 3)) (by rfl) sc_rule.nd (pi_range1 (by rfl) T.b_range (pa_cons (pe_call GD hr (by rfl) gD FD.kp bD .nil pass0 (pa_cons (pv 0) (pa_cons (pe_op op_add (pv 1) pe_int) pa_nil))) pa_nil)) (blkOk_by (own := [("k", 3)]) (N := ["jar", "most", "actions", "k"]) (sc := defScope s_rule) (by decide +kernel)) (fun _ _ _ _ _ => (pg_name (i := 3) sc_rule.nd rfl (Or.inl rfl))) (fun _ _ _ _ _ => pts_nil) (fun _ _ _ _ _ => (pe_ix (r := rIxL K) ix_list (pv 2) (pe_call GD hr (by rfl) gD FD.kp bD .nil pass0 (pa_cons (pv 0) (pa_cons pe_int pa_nil))) (fun _ _ => rfl)))) pa_nil))))), ?_⟩
    refine ⟨by show 5 ≤ sizeLine; decide, fun la hla => ?_⟩
    have J1 : JarAt (upd H la (.lst [.str "take", .str "least", .str "last", .str "show", .str "ask"])) j n := J.same (same_new hla)
    have hla1 : upd H la (.lst [.str "take", .str "least", .str "last", .str "show", .str "ask"]) la = some (.lst (acts.map V.str)) := upd_same
    have k1 : Same H (upd H la (.lst [.str "take", .str "least", .str "last", .str "show", .str "ask"])) := same_new hla
    have nlj : la ≠ j := J.ne hla
    refine ⟨_, rfl, _, rfl, _, _, rfl, rfl, ?_⟩
    refine ⟨j, m + 1, n, rfl, J1, by omega, by omega, by omega, fun r H2 hr0 hr1 J2 k2 => ?_⟩
    refine ⟨r, rfl, by omega, by omega, fun D hD => ?_⟩
    have njD : D ≠ j := J2.ne hD
    have nlD : la ≠ D := ne_of_none (k2 _ _ nlj hla1) hD
    refine lc_range (lo := 0) (n := r.toNat) (fun i H' => ∃ r : List Str, H' D = some (.lst (r.map V.str)) ∧ r.length = i ∧ (∀ x ∈ r, x ∈ acts) ∧ JarAt H' j (n + 1 + i) ∧ H' la = some (.lst (acts.map V.str)) ∧ Kp j H H') ?_ ?_ ?_
    · refine ⟨[], upd_same, rfl, (by intro x hx; cases hx), J2.same (same_new hD), same_new hD _ _ (k2 _ _ nlj hla1), ((k1.kp j).trans k2).trans ((same_new hD).kp j)⟩
    · rintro i H3 hi ⟨r', hD3, hl3, ha3, J3, hla3, k3⟩
      refine ⟨rfl, ?_⟩
      refine ⟨_, rfl, _, rfl, ?_⟩
      refine ⟨j, 5, n + 1 + i, rfl, J3, by decide, by decide, by omega, fun z H4 hz0 hz1 J4 k4 => ?_⟩
      obtain ⟨x, hx, hxa⟩ : ∃ x, acts[z.toNat]? = some x ∧ x ∈ acts := by
        have h5 : z.toNat < acts.length := by show z.toNat < 5; omega
        exact ⟨acts[z.toNat], List.getElem?_eq_getElem h5, List.getElem_mem h5⟩
      refine ⟨la, _, z, .str x, rfl, rfl, SqL.of (k4 _ _ nlj hla3), at_of (j := z.toNat) (by omega) (by rw [List.getElem?_map, hx]; rfl), ?_⟩
      refine ⟨_, k4 _ _ njD hD3, by rw [List.length_map, hl3]; exact small1000 (by omega), r' ++ [x], ?_, ?_, ?_, ?_, ?_, ?_⟩
      · rw [upd_same, List.map_append]
        rfl
      · rw [List.length_append, hl3]
        rfl
      · intro y hy
        rcases List.mem_append.mp hy with hy | hy
        · exact ha3 y hy
        · rw [List.mem_singleton.mp hy]
          exact hxa
      · have e : n + 1 + (i + 1) = n + 1 + i + 1 := by omega
        rw [e]
        exact J4.keep fun o e => by rw [upd_ne njD.symm]; exact e
      · rw [upd_ne nlD]
        exact k4 _ _ nlj hla3
      · exact kp_fresh (fun b o hb e => k2 b o hb (k1 b o e)) hD (k3.trans k4)
    · rintro H3 ⟨r', hD3, hl3, ha3, J3, hla3, k3⟩
      refine ⟨D, _, rfl, .inl ⟨SqL.of hD3, fun l hl => ?_⟩⟩
      refine q l r' _ upd_same (by omega) ha3 ?_ ?_
      · exact (J3.same (same_new hl)).mono (by omega)
      · exact k3.trans ((same_new hl).kp j)
/-! ### one way on behind an if -/
theorem tIfS_via {c : TT} {t u : TS} {D : Ends} {σ : L2.St} {H : Hp} (R : L2.St → Hp → Prop) (h : (∀ σ' H', R σ' H' → D.nx σ' H') → tIfS c t u D σ H) (k : ∀ σ' H', R σ' H' → D.nx σ' H') : tIfS c t u D σ H := h k
/-! ### == of data without dicts -/
section
variable {X : Cx}
def rEqP (K : PySem.W.Frag) : R2 := fun x y H Q => ∃ d e, Dp K H x d ∧ Dp K H y e ∧ d.plain = true ∧ e.plain = true ∧ d.depth ≤ 64 ∧ Q (.bl (PyData.eqv d e)) H
def rNeP (K : PySem.W.Frag) : R2 := fun x y H Q => ∃ d e, Dp K H x d ∧ Dp K H y e ∧ d.plain = true ∧ e.plain = true ∧ d.depth ≤ 64 ∧ Q (.bl (!PyData.eqv d e)) H
theorem op_eqP (hu : X.A.units + 64 < cLine) : OpR X (compareOp .Eq) (rEqP X.K) := by
  intro pins s σ H x y v u Q I rx ry h
  obtain ⟨d, e, hd, he, sd, se, dd, q⟩ := h
  obtain ⟨as, r1⟩ := Dp.reads I d x v hd rx
  obtain ⟨bs, r2⟩ := Dp.reads I e y u he ry
  exact SeqAt.eq_plain r1 r2 sd se (by omega) ⟨.bl _, H, I, rfl, q⟩
theorem op_neP (hu : X.A.units + 64 < cLine) : OpR X (compareOp .NotEq) (rNeP X.K) := by
  intro pins s σ H x y v u Q I rx ry h
  obtain ⟨d, e, hd, he, sd, se, dd, q⟩ := h
  obtain ⟨as, r1⟩ := Dp.reads I d x v hd rx
  obtain ⟨bs, r2⟩ := Dp.reads I e y u he ry
  exact SeqAt.ne_plain r1 r2 sd se (by omega) ⟨.bl _, H, I, rfl, q⟩
end
theorem plain_strs : ∀ r : List Str, PyData.plainAll (r.map PyData.str) = true
  | [] => rfl
  | x :: r => plain_strs r
theorem plain_rule (r : List Str) : (dRule r).plain = true := plain_strs r
theorem plain_rules : ∀ rs : List (List Str), PyData.plainAll (rs.map dRule) = true
  | [] => rfl
  | r :: rs => by
    show (PyData.plain (dRule r) && PyData.plainAll (rs.map dRule)) = true
    rw [plain_rule, plain_rules rs]
    rfl
theorem plain_six (rs : List (List Str)) : (dSix rs).plain = true := plain_rules rs
theorem depth_strs : ∀ r : List Str, PyData.depthAll (r.map PyData.str) = 0
  | [] => rfl
  | x :: r => by
    show max (PyData.depth (.str x)) (PyData.depthAll (r.map PyData.str)) = 0
    rw [depth_strs r]
    rfl
theorem depth_rule (r : List Str) : (dRule r).depth = 1 := by
  show PyData.depthAll (r.map PyData.str) + 1 = 1
  rw [depth_strs]
theorem depth_rules : ∀ rs : List (List Str), PyData.depthAll (rs.map dRule) ≤ 1
  | [] => Nat.zero_le _
  | r :: rs => by
    show max (PyData.depth (dRule r)) (PyData.depthAll (rs.map dRule)) ≤ 1
    have := depth_rules rs
    rw [depth_rule]
    omega
theorem depth_six (rs : List (List Str)) : (dSix rs).depth ≤ 2 := Nat.succ_le_succ (depth_rules rs)
theorem eqv_strs : ∀ r r' : List Str, PyData.eqvAll (r.map PyData.str) (r'.map PyData.str) = decide (r = r')
  | [], [] => rfl
  | [], _ :: _ => rfl
  | _ :: _, [] => rfl
  | x :: r, y :: r' => by
    show (PyData.eqv (.str x) (.str y) && PyData.eqvAll (r.map PyData.str) (r'.map PyData.str)) = _
    rw [eqv_strs r r']
    have e : PyData.eqv (.str x) (.str y) = (x == y) := by simp only [PyData.eqv]
    rw [e]
    by_cases h : x = y
    · subst h
      simp
    · simp [h]
theorem eqv_rule (r r' : List Str) : PyData.eqv (dRule r) (dRule r') = decide (r = r') := by
  have e : PyData.eqv (dRule r) (dRule r') = PyData.eqvAll (r.map PyData.str) (r'.map PyData.str) := by simp only [dRule, PyData.eqv]
  rw [e, eqv_strs]
theorem eqv_rules : ∀ r r' : List (List Str), PyData.eqvAll (r.map dRule) (r'.map dRule) = decide (r = r')
  | [], [] => rfl
  | [], _ :: _ => rfl
  | _ :: _, [] => rfl
  | x :: r, y :: r' => by
    show (PyData.eqv (dRule x) (dRule y) && PyData.eqvAll (r.map dRule) (r'.map dRule)) = _
    rw [eqv_rules r r', eqv_rule]
    by_cases h : x = y
    · subst h
      simp
    · simp [h]
theorem eqv_six (r r' : List (List Str)) : PyData.eqv (dSix r) (dSix r') = decide (r = r') := by
  have e : PyData.eqv (dSix r) (dSix r') = PyData.eqvAll (r.map dRule) (r'.map dRule) := by simp only [dSix, PyData.eqv]
  rw [e, eqv_rules]
abbrev s_six : Stmt := top 18
theorem sc_six : FnScope ["jar", "found", "k", "some"] ["jar"] (defScope s_six) := ⟨rfl, rfl, rfl, by decide +kernel, rfl, by decide +kernel, by decide +kernel⟩
structure SixSt (K : PySem.W.Frag) (H0 H : Hp) (j fo : Addr) (n : Nat) (rs : List (List Str)) : Prop where
  lst : ∃ vs, H fo = some (.lst vs) ∧ Paired (RuleAt K H) vs rs
  jar : JarAt H j n
  kp : Kp j H0 H
theorem ok_six {f fD fR : Addr} {fd fdD fdR : FuncData} (F : Fun K "_law_six" "_law_six" s_six f fd) (T : TxtB mg) (gD : mg "_law_draw" = some (.ref fD)) (FD : Fun K "_law_draw" "_law_draw" s_draw fD fdD) (bD : Binds K fdD ["jar", "many"] [])
    (gR : mg "_law_rule" = some (.ref fR)) (FR : Fun K "_law_rule" "_law_rule" s_rule fR fdR) (bR : Binds K fdR ["jar", "most"] []) : FnOk P w K mg base CX0 3 f fd ["jar"] (spSix K) := by
  have GD : FnOk P w K mg base CX0 1 fD fdD ["jar", "many"] spDraw := ok_draw FD T
  have GR : FnOk P w K mg base CX0 2 fR fdR ["jar", "most"] spRule := ok_rule FR T gD FD bD
  refine F.ok sc_six (fun vs H Q E h => ?_) (fun cdv A outer s H vs Q E hr h => ?_)
  · obtain ⟨j, n, rfl, _⟩ := h
    rfl
  · obtain ⟨j, n, rfl, J, hn, q⟩ := h
    have hr1 : Room 1 _ := hr.mono (by decide)
    refine ⟨_, (pss_cons (ps_set (i := 1) sc_six.nd rfl (Or.inl rfl) (pe_lst pa_nil))
  (pss_cons (ps_for PassesOwn.never rfl (pi_range1 (by rfl) T.b_range (pa_cons pe_int pa_nil)) (pg_name (i := 2) sc_six.nd rfl (Or.inl rfl)) (pss_cons (ps_set (i := 3) sc_six.nd rfl (Or.inl rfl) (pe_call GR hr (by rfl) gR FR.kp bR .nil pass0 (pa_cons (pv 0) (pa_cons (pe_ix ix_list (pe_lst (pa_cons pe_int (pa_cons pe_int (pa_cons pe_int (pa_cons pe_int pa_nil))))) (pe_call GD hr1 (by rfl) gD FD.kp bD .nil pass0 (pa_cons (pv 0) (pa_cons pe_int pa_nil))) (fun _ _ => rfl)) pa_nil))))
  (pss_cons (ps_if (PW.pt (pw_and (pt_cmpR (op_neP hr.units) (pv 1) (pe_lst pa_nil) (nomark _)) (pw_and1 (pt_cmpR op_eq (pe_call GD hr1 (by rfl) gD FD.kp bD .nil pass0 (pa_cons (pv 0) (pa_cons pe_int pa_nil))) pe_int (nomark _))))) (pss_one (ps_set (i := 3) sc_six.nd rfl (Or.inl rfl) (pe_ix ix_list (pv 1) (pe_call GD hr1 (by rfl) gD FD.kp bD .nil pass0 (pa_cons (pv 0) (pa_cons (pe_callB call_len_seq (by rfl) T.b_len (by decide +kernel) (pa_cons (pv 1) pa_nil)) pa_nil))) (fun _ _ => rfl)))) pss_nil)
  (pss_one (ps_expr (pe_bm PySem.F.plainAttrs_list PySem.F.slot_list_append PySem.F.type_list_append mt_append (pv 1) (pa_cons (pv 3) pa_nil)))))))
  (pss_one (ps_ret (pe_callTy call_tuple_of (by rfl) T.b_tuple (by decide +kernel) (pa_cons (pv 1) pa_nil)))))), ?_⟩
    refine ⟨Nat.zero_le _, fun fo hfo => ?_⟩
    have nfj : fo ≠ j := J.ne hfo
    refine ⟨6, rfl, by decide, by decide, for_range (lo := 0) (n := 6) (fun i σ H' => ∃ v2 v3 rs, σ = [some (.ref j), some (.ref fo), v2, v3] ∧ SixSt K H H' j fo (n + 13 * i) rs ∧ rs.length = i ∧ ∀ r ∈ rs, IsRule r) ?_ ?_ ?_⟩
    · exact ⟨none, none, [], rfl, ⟨⟨[], upd_same, .nil⟩, J.same (same_new hfo), (same_new hfo).kp j⟩, rfl, fun r hr => by cases hr⟩
    · rintro i σ H1 hi ⟨v2, v3, rs, rfl, S1, hl, hrs⟩
      have hi6 : i < 6 := hi
      obtain ⟨⟨vs, hfo1, pr⟩, J1, k1⟩ := S1
      refine ⟨_, rfl, ?_⟩
      refine ⟨by show 4 ≤ sizeLine; decide, fun l4 h4 => ?_⟩
      refine ⟨_, rfl, ?_⟩
      refine ⟨j, 4, n + 13 * i, rfl, J1.same (same_new h4), by decide, by decide, by omega, fun z H2 hz0 hz1 J2 k2 => ?_⟩
      have k2' : Kp j H1 H2 := ((same_new h4).kp j).trans k2
      obtain ⟨m, hm, hm0, hm6⟩ : ∃ m : Int, ([1, 2, 3, 6] : List Int)[z.toNat]? = some m ∧ 0 ≤ m ∧ m ≤ 6 := by
        have : z.toNat = 0 ∨ z.toNat = 1 ∨ z.toNat = 2 ∨ z.toNat = 3 := by omega
        rcases this with e | e | e | e <;> rw [e]
        · exact ⟨1, rfl, by decide, by decide⟩
        · exact ⟨2, rfl, by decide, by decide⟩
        · exact ⟨3, rfl, by decide, by decide⟩
        · exact ⟨6, rfl, by decide, by decide⟩
      refine ⟨l4, ([1, 2, 3, 6] : List Int).map V.int, z, .int m, rfl, rfl, SqL.of (k2 _ _ (J1.ne h4) upd_same), at_of (j := z.toNat) (by omega) (by rw [List.getElem?_map, hm]; rfl), ?_⟩
      refine ⟨j, m, n + 13 * i + 1, rfl, J2, hm0, hm6, by omega, fun a r H3 ha hra hrx J3 k3 => ?_⟩
      have k3' : Kp j H1 H3 := k2'.trans k3
      have hfo3 : H3 fo = some (.lst vs) := k3' _ _ nfj hfo1
      have pr3 : Paired (RuleAt K H3) vs rs := (J1.kt k3').rules pr
      dsimp only [gName, tSeq]
      refine tIfS_via (fun σ' H' => ∃ v r, σ' = [some (.ref j), some (.ref fo), some (.int (0 + i)), some v] ∧ RuleAt K H' v r ∧ IsRule r ∧ SixSt K H H' j fo (n + 13 * (i + 1)) rs ∧ H' fo = some (.lst vs)) (fun key => ?_) ?_
      · have pl : PyData.plain (.list (rs.map dRule)) = true := plain_rules rs
        have dl : PyData.depth (.list (rs.map dRule)) ≤ 64 := by
          have := depth_rules rs
          show PyData.depthAll (rs.map dRule) + 1 ≤ 64
          omega
        refine ⟨_, rfl, Nat.zero_le _, fun l0 hl0 => ?_⟩
        have nl : fo ≠ l0 := ne_of_none hfo3 hl0
        have k4 : Kp j H1 (upd H3 l0 (.lst [])) := k3'.trans ((same_new hl0).kp j)
        have J4 := J3.same (same_new (o := .lst []) hl0)
        have pr4 : Paired (RuleAt K (upd H3 l0 (.lst []))) vs rs := (same_new hl0).kt.rules pr3
        have hfo4 : upd H3 l0 (.lst []) fo = some (.lst vs) := by rw [upd_ne nl]; exact hfo3
        refine ⟨.list (rs.map dRule), .list [], .lst (SqL.of hfo4) (dp_rules pr4), .lst (SqL.of upd_same) .nil, pl, rfl, dl, ?_⟩
        refine ⟨_, rfl, ?_⟩
        have stop : ∀ H', Kp j H1 H' → JarAt H' j (n + 13 * (i + 1)) → H' fo = some (.lst vs) → RuleAt K H' (.ref a) r → _ := fun H' kk jj hh aa => key _ H' ⟨.ref a, r, rfl, aa, ⟨by omega, hrx⟩, ⟨⟨vs, hh, (J1.kt kk).rules pr⟩, jj, k1.trans kk⟩, hh⟩
        have ha3 : RuleAt K H3 (.ref a) r := ⟨a, rfl, SqT.of ha⟩
        refine ite2 (fun hc => ?_) (fun hc => ?_)
        · have hne : 0 < vs.length := by
            rw [pr.length]
            cases rs with
            | nil => exact absurd hc (by decide)
            | cons _ _ => exact Nat.succ_pos _
          refine ⟨_, rfl, j, 4, n + 13 * i + 1 + 10, rfl, J4, by decide, by decide, by omega, fun z2 H5 hz20 hz21 J5 k5 => ?_⟩
          have kk5 := k4.trans k5
          refine ⟨rfl, _, rfl, ?_⟩
          refine ite2 (fun hd => ?_) (fun hd => ?_)
          · have hfo5 := k5 _ _ nfj hfo4
            refine ⟨_, rfl, ?_⟩
            refine ⟨_, rfl, _, rfl, fo, _, rfl, .inl (SqL.of hfo5), ?_⟩
            have hl6 : vs.length < 7 := by rw [pr.length]; omega
            refine ⟨j, _, n + 13 * i + 1 + 10 + 1, rfl, J5, by omega, Int.lt_trans (Int.ofNat_lt.mpr hl6) (by decide), by omega, fun z3 H6 hz30 hz31 J6 k6 => ?_⟩
            have kk6 := kk5.trans k6
            obtain ⟨v, hv⟩ : ∃ v, vs[z3.toNat]? = some v := ⟨_, List.getElem?_eq_getElem (show z3.toNat < vs.length by omega)⟩
            have pr6 : Paired (RuleAt K H6) vs rs := (J1.kt kk6).rules pr
            obtain ⟨r6, hr6, hv6⟩ := pair_get1 pr6 hv
            have hfo6 := k6 _ _ nfj hfo5
            refine ⟨fo, _, z3, v, rfl, rfl, SqL.of hfo6, at_of (j := z3.toNat) (by omega) hv, ?_⟩
            exact key _ H6 ⟨v, r6, rfl, hv6, hrs _ (List.mem_of_getElem? hr6), ⟨⟨vs, hfo6, pr6⟩, J6.mono (by omega), k1.trans kk6⟩, hfo6⟩
          · exact stop H5 kk5 (J5.mono (by omega)) (k5 _ _ nfj hfo4) ((J4.kt k5).rule ((same_new hl0).kt.rule ha3))
        · exact stop _ k4 (J4.mono (by omega)) hfo4 ((same_new hl0).kt.rule ha3)
      · rintro σ' H4 ⟨v, r4, rfl, hv, hr4, S4, hfo4⟩
        obtain ⟨⟨vs4, e4, pr4⟩, J4, k4⟩ := S4
        have e5 : vs4 = vs := HO.lst.inj (Option.some.inj (e4.symm.trans hfo4))
        subst e5
        refine ⟨_, rfl, .inl ⟨rfl, _, SqL.of hfo4⟩, _, rfl, fo, _, v, rfl, rfl, hfo4, small1000 (by rw [pr4.length]; omega), ?_⟩
        refine ⟨_, _, rs ++ [r4], rfl, ⟨⟨vs4 ++ [v], upd_same, pair_snoc ((kt_lst hfo4).rule hv) ((kt_lst hfo4).rules pr4)⟩, ?_, kp_fresh (Kp.refl j H) hfo k4⟩, by rw [List.length_append, hl]; rfl, ?_⟩
        · exact J4.keep fun o e => by rw [upd_ne nfj.symm]; exact e
        · intro x hx
          rcases List.mem_append.mp hx with hx | hx
          · exact hrs x hx
          · rw [List.mem_singleton.mp hx]
            exact hr4
    · rintro σ H1 ⟨v2, v3, rs, rfl, S1, hl, hrs⟩
      obtain ⟨⟨vs, hfo1, pr⟩, J1, k1⟩ := S1
      refine ⟨_, rfl, fo, _, rfl, .inl ⟨SqL.of hfo1, fun l hl1 => ?_⟩⟩
      refine q l rs _ ⟨l, vs, rfl, SqT.of upd_same, (same_new hl1).kt.rules pr⟩ hl hrs ((J1.same (same_new hl1)).mono (by omega)) (k1.trans ((same_new hl1).kp j))
end
end Sh

namespace Sh
open PySem L2
/-! ### what the text's constants are -/
structure TxtK (K : PySem.W.Frag) (mg : Str → Option Value) (aA aD : Addr) : Prop where
  g_ACTIONS : mg "ACTIONS" = some (.ref aA)
  g_DOORS : mg "DOORS" = some (.ref aD)
  g_MOST : ∃ t, mg "MOST_ACTIONS" = some (.int 6 t)
  kA : ∃ (o : Obj) (its : Array Value) (n : Nat), K.lookup aA = some o ∧ o.cls = .type "tuple" ∧ o.dict = none ∧ o.data = .seq its n ∧ its.size ≤ sizeLine ∧ Vals (acts.map V.str) its.toList
  kD : ∃ (o : Obj) (its : Array Value) (n : Nat), K.lookup aD = some o ∧ o.cls = .type "tuple" ∧ o.dict = none ∧ o.data = .seq its n ∧ its.size ≤ sizeLine ∧ Vals (doors.map V.str) its.toList
section
variable {P : Program} {w : World} {K : PySem.W.Frag} {mg : Str → Option Value} {base : Heap} {aA aD : Addr}
theorem TxtK.sA (T : TxtK K mg aA aD) (H : Hp) : SqT K H aA (acts.map V.str) := by
  obtain ⟨o, its, n, h1, h2, h3, h4, h5, h6⟩ := T.kA
  exact .inr ⟨o, its, n, h1, h2, h4, h5, h6⟩
theorem TxtK.sD (T : TxtK K mg aA aD) (H : Hp) : SqT K H aD (doors.map V.str) := by
  obtain ⟨o, its, n, h1, h2, h3, h4, h5, h6⟩ := T.kD
  exact .inr ⟨o, its, n, h1, h2, h4, h5, h6⟩
theorem TxtK.tD (T : TxtK K mg aA aD) (H : Hp) : tyV K "tuple" (.ref aD) H := by
  obtain ⟨o, its, n, h1, h2, h3, _⟩ := T.kD
  exact .inr (.inl ⟨rfl, o, h1, h2, h3⟩)
theorem inV_strs (z : Str) : ∀ l : List Str, inV (.str z) (l.map V.str) = decide (z ∈ l)
  | [] => rfl
  | x :: l => by
    show (eqV (.str x) (.str z) || inV (.str z) (l.map V.str)) = _
    rw [inV_strs z l]
    show ((x == z) || decide (z ∈ l)) = _
    by_cases h : x = z
    · subst h
      simp
    · have h' : ¬ z = x := fun q => h q.symm
      simp [h, h']
theorem flat_strs : ∀ l : List Str, (l.map V.str).all flatV = true
  | [] => rfl
  | x :: l => flat_strs l
/-- a value by whether it is a text among l -/
inductive Among (K : PySem.W.Frag) (H : Hp) (l : List Str) : V → Bool → Prop
  | str (z : Str) : Among K H l (.str z) (decide (z ∈ l))
  | other {v : V} {t : Value} (ty : TyX K H v t) (no : PySem.W.kitOne K t (.type "str") = some false) : Among K H l v false
theorem Among.kt {H H' : Hp} {l : List Str} {v : V} {b : Bool} (h : Among K H l v b) (k : ∀ t, TyX K H v t → TyX K H' v t) : Among K H' l v b := by
  cases h with
  | str z => exact .str z
  | other ty no => exact .other (k _ ty) no
def spAmong (K : PySem.W.Frag) (l : List Str) : Sp := fun vs H Q _ => ∃ v b, vs = [v] ∧ Among K H l v b ∧ Q (.bl b) H
abbrev s_isact : Stmt := top 9
abbrev s_isrule : Stmt := top 10
abbrev s_isdoor : Stmt := top 11
theorem sc_isact : FnScope ["value"] ["value"] (defScope s_isact) := ⟨rfl, rfl, rfl, by decide +kernel, rfl, by decide +kernel, by decide +kernel⟩
theorem ok_isact {f : Addr} {fd : FuncData} (F : Fun K "is_action" "is_action" s_isact f fd) (B : TxtB mg) (T : TxtK K mg aA aD) : FnOk P w K mg base CX0 1 f fd ["value"] (spAmong K acts) := by
  refine F.ok sc_isact (fun vs H Q E h => ?_) (fun cdv A outer s H vs Q E hr h => ?_)
  · obtain ⟨v, b, rfl, _⟩ := h
    rfl
  · obtain ⟨v, b, rfl, hv, q⟩ := h
    refine ⟨_, (pss_one (ps_ret (pe_and (pe_callB call_isi (by rfl) B.b_isinstance (by decide +kernel) (pa_cons (pv 0) (pa_cons (pe_bltn (v := .ty "str") (by rfl) B.b_str (by decide +kernel) rfl) pa_nil))) (pe_one (pe_cmpR op_in_seq (pv 0) (pe_glob (v := .ref aA) (by rfl) T.g_ACTIONS rfl) (by rfl)))))), ?_⟩
    refine ⟨_, rfl, ?_⟩
    cases hv with
    | str z =>
      refine ⟨_, _, _, _, true, rfl, .ty "str", .base (.str z), kit_ty (by decide +kernel), ?_⟩
      refine ⟨_, rfl, ?_⟩
      refine ⟨_, rfl, aA, _, rfl, .inr (T.sA _), rfl, flat_strs acts, ?_⟩
      show Q (.bl (inV (.str z) (acts.map V.str))) H
      rw [inV_strs]
      exact q
    | other ty no =>
      refine ⟨_, _, _, _, false, rfl, .ty "str", ty, no, ?_⟩
      exact ⟨_, rfl, q⟩
theorem sc_isdoor : FnScope ["value"] ["value"] (defScope s_isdoor) := ⟨rfl, rfl, rfl, by decide +kernel, rfl, by decide +kernel, by decide +kernel⟩
theorem ok_isdoor {f : Addr} {fd : FuncData} (F : Fun K "is_door" "is_door" s_isdoor f fd) (B : TxtB mg) (T : TxtK K mg aA aD) : FnOk P w K mg base CX0 1 f fd ["value"] (spAmong K doors) := by
  refine F.ok sc_isdoor (fun vs H Q E h => ?_) (fun cdv A outer s H vs Q E hr h => ?_)
  · obtain ⟨v, b, rfl, _⟩ := h
    rfl
  · obtain ⟨v, b, rfl, hv, q⟩ := h
    refine ⟨_, (pss_one (ps_ret (pe_and (pe_callB call_isi (by rfl) B.b_isinstance (by decide +kernel) (pa_cons (pv 0) (pa_cons (pe_bltn (v := .ty "str") (by rfl) B.b_str (by decide +kernel) rfl) pa_nil))) (pe_one (pe_cmpR op_in_seq (pv 0) (pe_glob (v := .ref aD) (by rfl) T.g_DOORS rfl) (by rfl)))))), ?_⟩
    refine ⟨_, rfl, ?_⟩
    cases hv with
    | str z =>
      refine ⟨_, _, _, _, true, rfl, .ty "str", .base (.str z), kit_ty (by decide +kernel), ?_⟩
      refine ⟨_, rfl, ?_⟩
      refine ⟨_, rfl, aD, _, rfl, .inr (T.sD _), rfl, flat_strs doors, ?_⟩
      show Q (.bl (inV (.str z) (doors.map V.str))) H
      rw [inV_strs]
      exact q
    | other ty no =>
      refine ⟨_, _, _, _, false, rfl, .ty "str", ty, no, ?_⟩
      exact ⟨_, rfl, q⟩
/-! ### rules by is_rule -/
/-- a value by whether it is a rule -/
inductive RuleCl (K : PySem.W.Frag) (H : Hp) : V → Bool → Prop
  | tup {a : Addr} {xs : List V} {bs : List Bool} (h : SqT K H a xs) (ty : TyX K H (.ref a) (.type "tuple")) (p : xs.length ≤ 6 → Paired (Among K H acts) xs bs) : RuleCl K H (.ref a) (decide (xs.length ≤ 6) && bs.all id)
  | other {v : V} {t : Value} (ty : TyX K H v t) (no : PySem.W.kitOne K t (.type "tuple") = some false) : RuleCl K H v false
def spIsRule (K : PySem.W.Frag) : Sp := fun vs H Q _ => ∃ v b, vs = [v] ∧ RuleCl K H v b ∧ ∀ H', Same H H' → Q (.bl b) H'
theorem _root_.L2.Same.tyX {H H' : Hp} (s : Same H H') {v : V} {t : Value} (h : TyX K H v t) : TyX K H' v t := by
  cases h with
  | base b =>
    cases b with
    | non => exact .base .non
    | bl x => exact .base (.bl x)
    | int x => exact .base (.int x)
    | str x => exact .base (.str x)
    | flt x => exact .base (.flt x)
    | lst e => exact .base (.lst (s _ _ e))
    | frz e => exact .base (.frz (s _ _ e))
    | tup e => exact .base (.tup (s _ _ e))
    | dK e => exact .base (.dK (s _ _ e))
    | dT e => exact .base (.dT (s _ _ e))
    | ins e a b c d f => exact .base (.ins (s _ _ e) a b c d f)
  | byt b => exact .byt b
  | set e => exact .set (s _ _ e)
  | kList e c => exact .kList e c
  | kTuple e c => exact .kTuple e c
  | kDict e c => exact .kDict e c
  | fTuple e => exact .fTuple (s _ _ e)
  | fDict e => exact .fDict (s _ _ e)
theorem sqT_same {H H' : Hp} (s : Same H H') {a : Addr} {xs : List V} (h : SqT K H a xs) : SqT K H' a xs := s.kt.sqT h
theorem among_same {H H' : Hp} (s : Same H H') {l : List Str} {v : V} {b : Bool} (h : Among K H l v b) : Among K H' l v b := h.kt fun _ q => s.tyX q
theorem sc_isrule : FnScope ["value", "part"] ["value"] (defScope s_isrule) := ⟨rfl, rfl, rfl, by decide +kernel, rfl, by decide +kernel, by decide +kernel⟩
theorem ok_isrule {f fA : Addr} {fd fdA : FuncData} (F : Fun K "is_rule" "is_rule" s_isrule f fd) (B : TxtB mg) (T : TxtK K mg aA aD) (gA : mg "is_action" = some (.ref fA)) (FA : Fun K "is_action" "is_action" s_isact fA fdA) (bA : Binds K fdA ["value"] []) :
    FnOk P w K mg base CX0 2 f fd ["value"] (spIsRule K) := by
  have GA : FnOk P w K mg base CX0 1 fA fdA ["value"] (spAmong K acts) := ok_isact FA B T
  refine F.ok sc_isrule (fun vs H Q E h => ?_) (fun cdv A outer s H vs Q E hr h => ?_)
  · obtain ⟨v, b, rfl, _⟩ := h
    rfl
  · obtain ⟨v, b, rfl, hv, q⟩ := h
    obtain ⟨t6, g6⟩ := T.g_MOST
    refine ⟨_, (pss_one (ps_ret (pe_and (pe_callB call_isi (by rfl) B.b_isinstance (by decide +kernel) (pa_cons (pv 0) (pa_cons (pe_bltn (v := .ty "tuple") (by rfl) B.b_tuple (by decide +kernel) rfl) pa_nil))) (pe_and (pe_cmpR op_le (pe_callB call_len_seq (by rfl) B.b_len (by decide +kernel) (pa_cons (pv 0) pa_nil)) (pe_glob (v := .int 6) (by rfl) g6 ⟨_, rfl⟩) (nomark _)) (pe_one (pe_callB (cr_all rfl) (by rfl) B.b_all (by decide +kernel) (pa_cons (pe_lc (own := [("part", 1)]) (g := (gName 1)) (by rfl) sc_isrule.nd (pi_tup (pv 0)) (blkOk_by (own := [("part", 1)]) (N := ["value", "part"]) (sc := defScope s_isrule) (by decide +kernel)) (fun _ _ _ _ _ => (pg_name (i := 1) sc_isrule.nd rfl (Or.inl rfl))) (fun _ _ _ _ _ => pts_nil) (fun _ _ _ _ _ => (pe_call GA hr (by rfl) gA FA.kp bA .nil pass0 (pa_cons (pv 1) pa_nil)))) pa_nil))))))), ?_⟩
    refine ⟨_, rfl, ?_⟩
    cases hv with
    | other ty no =>
      refine ⟨_, _, _, _, false, rfl, .ty "tuple", ty, no, ?_⟩
      exact ⟨_, rfl, q _ (Same.refl _)⟩
    | @tup a xs bs h ty p =>
      refine ⟨_, _, _, _, true, rfl, .ty "tuple", ty, kit_ty (by decide +kernel), ?_⟩
      refine ⟨_, rfl, ?_⟩
      refine ⟨_, rfl, a, _, rfl, .inr h, _, _, rfl, rfl, ?_⟩
      refine ⟨_, rfl, ?_⟩
      refine ite2 (fun hc => ?_) (fun hc => ?_)
      · have hc' : xs.length ≤ 6 := Int.ofNat_le.mp (of_decide_eq_true hc)
        have pp := p hc'
        refine ⟨_, rfl, a, rfl, ⟨_, h⟩, fun D hD => ?_⟩
        refine lc_tup (K := K) (a := a) (xs := xs) (fun i H' => H' D = some (.lst ((bs.take i).map V.bl)) ∧ Same H H') ?_ ?_ ?_ ?_
        · exact ⟨upd_same, same_new hD⟩
        · intro i H' _ ⟨_, s'⟩
          exact sqT_same s' h
        · rintro i x H' hx ⟨hD', s'⟩
          obtain ⟨b, hb, hxb⟩ := pair_get1 pp hx
          refine ⟨rfl, ?_⟩
          refine ⟨_, rfl, x, b, rfl, among_same s' hxb, ?_⟩
          refine ⟨_, hD', ?_, ?_, ?_⟩
          · rw [List.length_map, List.length_take]
            exact small1000 (by have := (List.getElem?_eq_some_iff.mp hx).1; omega)
          · rw [upd_same, List.take_add_one, hb]
            simp
          · exact fun c o e => by rw [upd_ne (ne_of_none e hD)]; exact s' _ _ e
        · rintro H' ⟨hD', s'⟩
          refine ⟨D, bs, rfl, SqL.of ?_, ?_⟩
          · rw [hD', pp.length, List.take_length]
          · have e : (decide (xs.length ≤ 6) && bs.all id) = bs.all id := by
              rw [decide_eq_true hc']
              rfl
            rw [← e]
            exact q _ s'
      · have hc' : ¬ xs.length ≤ 6 := fun z => hc (decide_eq_true (Int.ofNat_le.mpr z))
        have e : (decide (xs.length ≤ 6) && bs.all id) = false := by
          rw [decide_eq_false hc']
          rfl
        have q' := q _ (Same.refl _)
        rw [e] at q'
        exact q'
end
end Sh

namespace Sh
open PySem L2
section
variable {P : Program} {w : World} {K : PySem.W.Frag} {mg : Str → Option Value} {base : Heap} {aA aD : Addr}
/-! ### the error classes with one field -/
structure ErrTxt (K : PySem.W.Frag) (mg : Str → Option Value) (x f : Str) (C fI : Addr) : Prop where
  oex : OexC K C
  no : PySem.W.findIn K (.ref C) f = some none
  iC : PySem.W.findIn K (.ref C) "__init__" = some (some (.ref fI))
  tI : PySem.W.typeIn K (.ref fI) = some (.type "function")
  g : mg x = some (.ref C)
def spErr (C : Addr) (f : Str) : Sp := fun vs H Q _ => ∃ (a : Addr) (v : V), vs = [.ref a, v] ∧ H a = some (exo a C none) ∧ ∀ d, H d = none → d ≠ a → Q .non (upd (upd H d (exd d [(f, v)])) a (exo a C (some d)))
theorem err_made {C : Addr} {f : Str} {v : V} {H : Hp} {Q : XK} (k : ∀ d H', H' d = some (.xd [(f, v)]) → Same H H' → H d = none → Q (.ref C) (some d) H') :
    ([v] : List V).length ≤ 1000 ∧ ∀ a, H a = none → spErr C f (.ref a :: ([v] ++ [])) (upd H a (exo a C none))
      (fun v H2 => v = .non ∧ ∃ (d : Addr) (fs : List (Str × V)), H2 a = some (exo a C (some d)) ∧ H2 d = some (exd d fs) ∧ H d = none ∧ Q (.ref C) (some d) (upd (del H2 a) d (.xd fs))) (fun _ _ _ => False) := by
  refine ⟨by show 1 ≤ 1000; decide, fun a ha => ⟨a, v, rfl, upd_same, fun d hd nd => ⟨rfl, d, [(f, v)], upd_same, ?_, ?_, ?_⟩⟩⟩
  · rw [upd_ne nd, upd_same]
  · rw [upd_ne nd] at hd
    exact hd
  · rw [upd_ne nd] at hd
    refine k d _ upd_same (fun b o e => ?_) hd
    have hb : b ≠ d := ne_of_none e hd
    have hba : b ≠ a := ne_of_none e ha
    rw [upd_ne hb, del_ne hba, upd_ne hba, upd_ne hb, upd_ne hba]
    exact e
abbrev s_eRule : Stmt := inClass (top 3) 0
abbrev s_eDoor : Stmt := inClass (top 4) 0
theorem sc_eRule : FnScope ["self", "door"] ["self", "door"] (defScope s_eRule) := ⟨rfl, rfl, rfl, by decide +kernel, rfl, by decide +kernel, by decide +kernel⟩
theorem ok_eRule {f C : Addr} {fd : FuncData} (F : Fun K "__init__" "NoRule.__init__" s_eRule f fd) (T : ErrTxt K mg "NoRule" "door" C f) : FnOk P w K mg base CX0 1 f fd ["self", "door"] (spErr C "door") := by
  refine F.ok sc_eRule (fun vs H Q E h => ?_) (fun cdv A outer s H vs Q E hr h => ?_)
  · obtain ⟨a, v, rfl, _⟩ := h
    rfl
  · obtain ⟨a, v, rfl, ha, k⟩ := h
    refine ⟨_, pss_one (ps_ost (pv 0) (pv 1) rfl), ?_⟩
    refine ⟨_, rfl, _, rfl, a, C, rfl, T.oex, T.no, .inl ⟨ha, fun d hd nd => ?_⟩⟩
    exact k d hd nd
theorem sc_eDoor : FnScope ["self", "door"] ["self", "door"] (defScope s_eDoor) := ⟨rfl, rfl, rfl, by decide +kernel, rfl, by decide +kernel, by decide +kernel⟩
theorem ok_eDoor {f C : Addr} {fd : FuncData} (F : Fun K "__init__" "NoDoor.__init__" s_eDoor f fd) (T : ErrTxt K mg "NoDoor" "door" C f) : FnOk P w K mg base CX0 1 f fd ["self", "door"] (spErr C "door") := by
  refine F.ok sc_eDoor (fun vs H Q E h => ?_) (fun cdv A outer s H vs Q E hr h => ?_)
  · obtain ⟨a, v, rfl, _⟩ := h
    rfl
  · obtain ⟨a, v, rfl, ha, k⟩ := h
    refine ⟨_, pss_one (ps_ost (pv 0) (pv 1) rfl), ?_⟩
    refine ⟨_, rfl, _, rfl, a, C, rfl, T.oex, T.no, .inl ⟨ha, fun d hd nd => ?_⟩⟩
    exact k d hd nd
/-! ### Book -/
theorem ruleCl_same {H H' : Hp} (s : Same H H') {v : V} {b : Bool} (h : RuleCl K H v b) : RuleCl K H' v b := by
  cases h with
  | tup h ty p => exact .tup (sqT_same s h) (s.tyX ty) fun z => pair_map (fun _ _ q => among_same s q) (p z)
  | other ty no => exact .other (s.tyX ty) no
def bf (l : Addr) : List (Str × V) := [("_rules", .ref l)]
def spBInit (K : PySem.W.Frag) (C CR : Addr) : Sp := fun vs H Q E => ∃ (x dx : Addr) (ws : List V) (bs : List Bool), vs = .ref x :: ws ∧ ws.length = 6 ∧ H x = some (.ins C dx []) ∧ Paired (RuleCl K H) ws bs ∧
  ((∀ b ∈ bs, b = true) → ∀ H' l, H' x = some (.ins C dx (bf l)) → H' l = some (.tup ws) → H l = none → (∀ b o, H b = some o → b ≠ x → H' b = some o) → Q .non H') ∧
  (∀ i, bs[i]? = some false → (∀ j, j < i → bs[j]? = some true) → ∀ d H', H' d = some (.xd [("door", .str (doors.getD i ""))]) → Same H H' → H d = none → E (.ref CR) (some d) H')
structure TxtBook (K : PySem.W.Frag) (mg : Str → Option Value) (C : Addr) : Prop where
  cl : Cls K C
  nR : NoAttr K C "_rules"
  g : mg "Book" = some (.ref C)
abbrev s_init : Stmt := inClass (top 13) 0
theorem sc_init : FnScope ["self", "put", "look", "alter", "back", "pay", "again", "rules", "door", "rule"] ["self", "put", "look", "alter", "back", "pay", "again"] (defScope s_init) := ⟨rfl, rfl, rfl, by decide +kernel, rfl, by decide +kernel, by decide +kernel⟩
theorem ok_init {f fS fA C CR fE : Addr} {dvs : List V} {fd fdS fdA fdE : FuncData} (F : FunD K "__init__" "Book.__init__" (defArgs s_init) (defBody s_init) (defScope s_init) dvs [] f fd) (B : TxtB mg) (T : TxtK K mg aA aD) (TB : TxtBook K mg C)
    (gA : mg "is_action" = some (.ref fA)) (FA : Fun K "is_action" "is_action" s_isact fA fdA) (bA : Binds K fdA ["value"] [])
    (gS : mg "is_rule" = some (.ref fS)) (FS : Fun K "is_rule" "is_rule" s_isrule fS fdS) (bS : Binds K fdS ["value"] [])
    (TE : ErrTxt K mg "NoRule" "door" CR fE) (FE : Fun K "__init__" "NoRule.__init__" s_eRule fE fdE) (bE : Binds K fdE ["self", "door"] []) :
    FnOk P w K mg base (L2.CX P w) 4 f fd ["self", "put", "look", "alter", "back", "pay", "again"] (spBInit K C CR) := by
  have GS : FnOk P w K mg base CX0 2 fS fdS ["value"] (spIsRule K) := ok_isrule FS B T gA FA bA
  have GE : FnOk P w K mg base CX0 1 fE fdE ["self", "door"] (spErr CR "door") := ok_eRule FE TE
  refine F.ok sc_init (fun vs H Q E h => ?_) (fun cdv A outer s H vs Q E hr h => ?_)
  · obtain ⟨x, dx, ws, bs, rfl, h6, _⟩ := h
    show ws.length + 1 = 7
    rw [h6]
  · obtain ⟨x, dx, ws, bs, rfl, h6, hx, pr, kq, ke⟩ := h
    match ws, h6 with
    | [w0, w1, w2, w3, w4, w5], _ => ?_
    have hr1 : Room 2 _ := hr.mono (by decide)
    refine ⟨_, (pss_cons (ps_set (i := 7) sc_init.nd rfl (Or.inl rfl) (pe_tup (pa_cons (pv 1) (pa_cons (pv 2) (pa_cons (pv 3) (pa_cons (pv 4) (pa_cons (pv 5) (pa_cons (pv 6) pa_nil))))))))
  (pss_cons (ps_for (passes_of rfl) rfl (RZ.pi_zipA (by rfl) B.b_zip (pa_cons (pe_glob (v := .ref aD) (by rfl) T.g_DOORS rfl) (pa_cons (pv 7) pa_nil))) (pg_tup (by rfl) (pgs_cons (pg_name (i := 8) sc_init.nd rfl (Or.inl rfl)) (pgs_cons (pg_name (i := 9) sc_init.nd rfl (Or.inl rfl)) pgs_nil))) (pss_one (ps_if (pt_not (pt_val (pe_call GS hr1 (by rfl) gS FS.kp bS .nil pass0 (pa_cons (pv 9) pa_nil)))) (pss_one (ps_raise rfl (takes_of rfl rfl rfl rfl) (pmk_oex TE.oex TE.iC TE.tI GE hr1 bE .nil pass0 (by rfl) TE.g (by exact (pa_cons (pv 8) pa_nil))))) pss_nil)))
  (pss_one (ps_fld (pv 0) (pv 7) rfl)))), ?_⟩
    refine ⟨_, rfl, _, rfl, _, rfl, _, rfl, _, rfl, _, rfl, ?_⟩
    refine ⟨by show 6 ≤ sizeLine; decide, fun l hl => ?_⟩
    have s1 : Same H (upd H l (.tup [w0, w1, w2, w3, w4, w5])) := same_new hl
    have nxl : x ≠ l := ne_of_none hx hl
    refine ⟨_, rfl, aD, l, doors.map V.str, [w0, w1, w2, w3, w4, w5], rfl, .inr ⟨T.sD _, SqT.of upd_same, ?_⟩⟩
    refine RZ.for_zipT (K := K) (a := aD) (b := l) (xs := doors.map V.str) (ys := [w0, w1, w2, w3, w4, w5]) rfl (fun i σ H' => ∃ v8 v9, σ = [some (.ref x), some w0, some w1, some w2, some w3, some w4, some w5, some (.ref l), v8, v9] ∧ Same (upd H l (.tup [w0, w1, w2, w3, w4, w5])) H' ∧ ∀ j, j < i → bs[j]? = some true) ?_ ?_ ?_ ?_
    · exact ⟨none, none, rfl, Same.refl _, fun j hj => absurd hj (Nat.not_lt_zero _)⟩
    · rintro i σ H' ⟨_, _, _, s2, _⟩
      exact ⟨T.sD _, SqT.of (s2 _ _ upd_same)⟩
    · rintro i u y tu σ H' hu hy ⟨v8, v9, rfl, s2, hb⟩ hT
      refine ⟨tu, [u, y], rfl, SqT.of upd_same, rfl, u, _, rfl, y, _, rfl, rfl, ?_⟩
      have s3 : Same H (upd H' tu (.tup [u, y])) := (s1.trans s2).trans (same_new hT)
      obtain ⟨b, hbi, hcl⟩ := pair_get1 pr hy
      refine ⟨_, rfl, y, b, rfl, ruleCl_same s3 hcl, fun H4 s4 => ⟨_, rfl, ?_⟩⟩
      cases b with
      | true =>
        refine ⟨_, _, rfl, s2.trans ((same_new hT).trans s4), fun j hj => ?_⟩
        by_cases e : j < i
        · exact hb j e
        · have e' : j = i := by omega
          rw [e']
          exact hbi
      | false =>
        have hi6 : i < doors.length := by
          have := (List.getElem?_eq_some_iff.mp hu).1
          rw [List.length_map] at this
          exact this
        have eu : u = .str (doors.getD i "") := by
          rw [List.getElem?_map] at hu
          rw [List.getD_eq_getElem?_getD]
          cases e : doors[i]? with
          | none =>
            rw [e] at hu
            cases hu
          | some z =>
            rw [e] at hu
            exact (Option.some.inj hu).symm
        subst eu
        refine ⟨_, rfl, err_made fun d H5 hd s5 hn => ?_⟩
        exact ke i hbi hb d H5 hd ((s3.trans s4).trans s5) ((s3.trans s4).free hn)
    · rintro σ H' ⟨v8, v9, rfl, s2, hb⟩
      have s3 := s1.trans s2
      refine ⟨_, rfl, _, rfl, x, C, dx, [], rfl, s3 _ _ hx, TB.cl, TB.nR, (by show 0 < 1000; decide), ?_⟩
      have hbl : bs.length = 6 := pr.length.symm
      refine kq (fun b hm => ?_) _ l upd_same ?_ hl fun b o e hb => ?_
      · obtain ⟨i, hi, e⟩ := List.getElem_of_mem hm
        have := hb i (by show i < 6; omega)
        rw [List.getElem?_eq_getElem hi] at this
        rw [← e]
        exact Option.some.inj this
      · rw [upd_ne nxl.symm]
        exact s2 _ _ upd_same
      · rw [upd_ne hb]
        exact s3 _ _ e
end
end Sh

namespace Sh
open PySem L2
/-! ### keywords of methods -/
def tMethN (C : Addr) (m : Str) (n : Nat) (sp : Sp) (gV : List V → List V → List V) (E : XK) (ta : TE) (tk : TA) : TE := fun σ H Q => ta σ H fun x H1 => ∃ a dx fs, x = .ref a ∧ H1 a = some (.ins C dx fs) ∧ fs.lookup m = none ∧
  tk σ H1 fun zs H2 => zs.length = n ∧ sp (gV [x] zs) H2 Q E
section
variable {X : Cx} {CX : CXT} {k : Nat} {f C : Addr} {fd : FuncData} {ps ks : List Str} {sp : Sp} {E : XK} {m : Str} {apos pos : Pos} {o : Expr} {kws : List Keyword} {ta : TE} {tk : TA} {g : List Value → List Value → List Value} {gV : List V → List V → List V}
/-- o.m(k = v, ..) -/
theorem pe_methK0 {pl : Sem Bool} (he : PE X o ta) (c : Cls X.K C) (hm : Meth X.K C m f) (F : FnOk X.prog X.w X.K X.mg X.base CX k f fd ps sp) (hr : Room k X.A) (hb : KBn X.K fd ps 1 ks g gV) (hx : Passes CX X E) (hkw : PK X kws tk)
    (hall : (backToKw pos (keywordEach kws X.env)).all (·.1.isSome) = true := by rfl) (hks : (backToKw pos (keywordEach kws X.env)).filterMap (·.1) = ks := by rfl)
    (hpl : ((backTo pos (starEach [] X.env)).any (·.1) || (backToKw pos (keywordEach kws X.env)).any (·.1.isNone)) = false := by rfl)
    (ht : eval (.Call (.Attribute o m apos) [] kws pos) X.env = (do
      let ov ← eval o X.env
      standAt apos.atName
      let (f, first) ← holding [ov] (getMethod ov m pl)
      callWith pos f first (backTo pos (starEach [] X.env)) (backToKw pos (keywordEach kws X.env))) := by rfl) :
    PE X (.Call (.Attribute o m apos) [] kws pos) (tMethN C m ks.length sp gV E ta tk) := by
  refine ⟨fun pins s σ H Q I h => ?_⟩
  refine PySem.W.methodCall_KW (pl := pl) (thn (he.run pins s σ H _ I h) fun u s1 ⟨x, H1, I1, rx, a, dx, fs, ex, ea, l, q⟩ => ?_) ht
  subst ex
  obtain rfl : u = Value.ref a := rx
  refine getmeth_ok I1 ea c hm l ?_
  refine PySem.W.callWith_KW0 (h₀ := X.base) (first := [.ref a]) I.ok.mod.kin hm.kp hall ?_ hpl
  refine thn (hkw.run pos pins s1 σ H1 _ I1 q) fun ws s2 ⟨zs, H2, I2, rz, l2, q2⟩ => ⟨I2.kIn, ?_⟩
  rw [hks]
  exact run_fnN (us := [.ref a]) (vs := [.ref a]) F hr hb hx I2 (.cons rfl .nil) rz rfl l2 q2
end
/-- the items at these places -/
def pick {α : Type} (ix : List Nat) (l : List α) : List α := ix.filterMap fun i => l[i]?
theorem pick_vals {xs : List V} {us : List Value} (r : Vals xs us) : ∀ ix : List Nat, Vals (pick ix xs) (pick ix us)
  | [] => .nil
  | i :: ix => by
    have h := pick_vals r ix
    show Vals (List.filterMap (fun i => xs[i]?) (i :: ix)) (List.filterMap (fun i => us[i]?) (i :: ix))
    cases e : xs[i]? with
    | none =>
      rw [List.filterMap_cons_none e, List.filterMap_cons_none (r.none_of e)]
      exact h
    | some x =>
      obtain ⟨u, eu, ru⟩ := r.get e
      rw [List.filterMap_cons_some e, List.filterMap_cons_some eu]
      exact .cons ru h
section
variable {K : PySem.W.Frag}
/-- a def without defaults, called with keywords -/
theorem kbn_of {x qual : Str} {st : Stmt} {f : Addr} {fd : FuncData} {ps ks : List Str} (F : Fun K x qual st f fd) (n : Nat) (ix : List Nat)
    (h : ∀ (kV doc pm : Value) (an : Option Addr) (cdv ct : Value) (us ws : List Value), us.length = n → ws.length = ks.length → bindArgs (PySem.W.fnOf x qual (defArgs st) (defBody st) (defScope st) .none kV doc pm an cdv ct) ⟨us, ks.zip ws⟩ = pure (ps.zip (pick ix (us ++ ws)))) :
    KBn K fd ps n ks (fun us ws => pick ix (us ++ ws)) (fun us ws => pick ix (us ++ ws)) := by
  obtain ⟨oc, od, kV, doc, pm, an, cdv, ct, osl, rfl, lk, hcd⟩ := F.ex
  exact ⟨fun s us ws _ h1 h2 => .of_eq (h kV doc pm an cdv ct us ws h1 h2), fun r1 r2 => pick_vals (r1.append r2) ix⟩
end
section
variable {P : Program} {w : World} {K : PySem.W.Frag} {mg : Str → Option Value} {base : Heap} {aA aD : Addr}
def BookAt (K : PySem.W.Frag) (C : Addr) (H : Hp) (p : Addr) (rs : List (List Str)) : Prop := ∃ dx l, H p = some (.ins C dx (bf l)) ∧ SixAt K H (.ref l) rs ∧ rs.length = 6
theorem KT.book {H H' : Hp} (k : KT H H') {C p : Addr} {rs : List (List Str)} (h : BookAt K C H p rs) : BookAt K C H' p rs := by
  obtain ⟨dx, l, hp, h6, e⟩ := h
  exact ⟨dx, l, k _ _ (fun _ z => by cases z) hp, k.six h6, e⟩
def spBRule (K : PySem.W.Frag) (C CD : Addr) : Sp := fun vs H Q E => ∃ (p : Addr) (v : V) (b : Bool) (rs : List (List Str)), vs = [.ref p, v] ∧ BookAt K C H p rs ∧ Among K H doors v b ∧
  (∀ (i : Nat) (z : Str) (u : V) (r : List Str), v = .str z → doors[i]? = some z → rs[i]? = some r → RuleAt K H u r → Q u H) ∧
  (b = false → ∀ d H', H' d = some (.xd [("door", v)]) → Same H H' → H d = none → E (.ref CD) (some d) H')
def spBRules (K : PySem.W.Frag) (C : Addr) : Sp := fun vs H Q _ => ∃ (p : Addr) (rs : List (List Str)), vs = [.ref p] ∧ BookAt K C H p rs ∧ ∀ v, SixAt K H v rs → Q v H
abbrev s_brule : Stmt := inClass (top 13) 2
abbrev s_brules : Stmt := inClass (top 13) 3
theorem sc_brules : FnScope ["self"] ["self"] (defScope s_brules) := ⟨rfl, rfl, rfl, by decide +kernel, rfl, by decide +kernel, by decide +kernel⟩
theorem ok_brules {f C : Addr} {fd : FuncData} (F : Fun K "rules" "Book.rules" s_brules f fd) (TB : TxtBook K mg C) : FnOk P w K mg base CX0 1 f fd ["self"] (spBRules K C) := by
  refine F.ok sc_brules (fun vs H Q E h => ?_) (fun cdv A outer s H vs Q E hr h => ?_)
  · obtain ⟨p, rs, rfl, _⟩ := h
    rfl
  · obtain ⟨p, rs, rfl, ⟨dx, l, hp, h6, e⟩, q⟩ := h
    refine ⟨_, (pss_one (ps_ret (pe_fld (pv 0) rfl))), ?_⟩
    exact ⟨_, rfl, p, C, dx, _, .ref l, rfl, hp, TB.cl, TB.nR, rfl, q _ h6⟩
theorem doors_nd {i j : Nat} {z : Str} (a : doors[i]? = some z) (b : doors[j]? = some z) : i = j := nd_ix (by decide +kernel : doors.Nodup) a b
theorem sc_brule : FnScope ["self", "door"] ["self", "door"] (defScope s_brule) := ⟨rfl, rfl, rfl, by decide +kernel, rfl, by decide +kernel, by decide +kernel⟩
theorem ok_brule {f C CD fE fS : Addr} {fd fdE fdS : FuncData} (F : Fun K "rule" "Book.rule" s_brule f fd) (B : TxtB mg) (T : TxtK K mg aA aD) (TB : TxtBook K mg C) (gS : mg "is_door" = some (.ref fS)) (FS : Fun K "is_door" "is_door" s_isdoor fS fdS) (bS : Binds K fdS ["value"] [])
    (TE : ErrTxt K mg "NoDoor" "door" CD fE) (FE : Fun K "__init__" "NoDoor.__init__" s_eDoor fE fdE) (bE : Binds K fdE ["self", "door"] []) : FnOk P w K mg base (L2.CX P w) 3 f fd ["self", "door"] (spBRule K C CD) := by
  have GS : FnOk P w K mg base CX0 1 fS fdS ["value"] (spAmong K doors) := ok_isdoor FS B T
  have GE : FnOk P w K mg base CX0 1 fE fdE ["self", "door"] (spErr CD "door") := ok_eDoor FE TE
  refine F.okX sc_brule (fun vs H Q E h => ?_) (fun cdv A outer s H vs Q E hr h => ?_)
  · obtain ⟨p, v, b, rs, rfl, _⟩ := h
    rfl
  · obtain ⟨p, v, b, rs, rfl, ⟨dx, l, hp, ⟨l', ws, el, hl, pr⟩, e6⟩, hv, q, ke⟩ := h
    have el' : l = l' := V.ref.inj el
    subst el'
    have hr1 : Room 1 _ := hr.mono (by decide)
    refine ⟨_, (pss_cons (ps_if (pt_not (pt_val (pe_call GS hr1 (by rfl) gS FS.kp bS .nil pass0 (pa_cons (pv 1) pa_nil)))) (pss_one (ps_raise rfl (takes_of rfl rfl rfl rfl) (pmk_oex TE.oex TE.iC TE.tI GE hr bE .nil pass0 (by rfl) TE.g (by exact (pa_cons (pv 1) pa_nil))))) pss_nil)
  (pss_one (ps_ret (pe_ix ix_tup (pe_fld (pv 0) rfl) (pe_bm PySem.F.plainAttrs_tuple PySem.F.slot_tuple_index PySem.F.type_tuple_index mt_tup_index (pe_glob (v := .ref aD) (by rfl) T.g_DOORS rfl) (pa_cons (pv 1) pa_nil)) (fun _ _ => rfl))))), ?_⟩
    refine ⟨_, rfl, v, b, rfl, hv, ⟨_, rfl, ?_⟩⟩
    cases hv with
    | other ty no => exact ⟨_, rfl, err_made fun d H5 hd s5 hn => ke rfl d H5 hd s5 hn⟩
    | str z =>
      by_cases hz : z ∈ doors
      · rw [decide_eq_true hz]
        obtain ⟨i, hi, ez⟩ := List.getElem_of_mem hz
        have hi' : doors[i]? = some z := by rw [List.getElem?_eq_getElem hi, ez]
        have hi6 : i < rs.length := by
          have : i < 6 := hi
          omega
        obtain ⟨u, hu, ru⟩ := pair_get pr (List.getElem?_eq_getElem hi6)
        refine ⟨_, rfl, p, C, dx, _, .ref l, rfl, hp, TB.cl, TB.nR, rfl, ?_⟩
        refine ⟨T.tD H, _, rfl, aD, doors, z, i, rfl, rfl, T.sD _, hi', fun m hm hm2 => ?_, ?_⟩
        · have := doors_nd hi' hm2
          omega
        · refine ⟨l, ws, (i : Int), u, rfl, rfl, hl, at_of rfl hu, ?_⟩
          exact q i z u _ rfl hi' (List.getElem?_eq_getElem hi6) ru
      · rw [decide_eq_false hz]
        exact ⟨_, rfl, err_made fun d H5 hd s5 hn => ke (decide_eq_false hz) d H5 hd s5 hn⟩
end
end Sh

namespace Sh
open PySem L2
section
variable {P : Program} {w : World} {K : PySem.W.Frag} {mg : Str → Option Value} {base : Heap} {aA aD : Addr}
theorem sqT_tyX {H : Hp} {a : Addr} {xs : List V} (h : SqT K H a xs) : TyX K H (.ref a) (.type "tuple") := by
  rcases h with (h | ⟨o, h⟩) | ⟨o, its, n, h1, h2, _⟩
  · exact .base (.tup h)
  · exact .fTuple h
  · exact .kTuple h1 h2
theorem RuleAt.tyX {H : Hp} {v : V} {r : List Str} (h : RuleAt K H v r) : TyX K H v (.type "tuple") := by
  obtain ⟨a, rfl, h⟩ := h
  exact sqT_tyX h
theorem SixAt.tyX {H : Hp} {v : V} {r : List (List Str)} (h : SixAt K H v r) : TyX K H v (.type "tuple") := by
  obtain ⟨a, vs, rfl, h, _⟩ := h
  exact sqT_tyX h
theorem among_strs {H : Hp} (l : List Str) : ∀ r : List Str, Paired (Among K H l) (r.map V.str) (r.map fun z => decide (z ∈ l))
  | [] => .nil
  | x :: r => .cons (.str x) (among_strs l r)
theorem ruleCl_of {H : Hp} {v : V} {r : List Str} (h : RuleAt K H v r) (hr : IsRule r) : RuleCl K H v true := by
  obtain ⟨a, rfl, h⟩ := h
  have e : (decide ((r.map V.str).length ≤ 6) && (r.map fun z => decide (z ∈ acts)).all id) = true := by
    rw [List.length_map, decide_eq_true hr.1, Bool.true_and, List.all_eq_true]
    intro b hb
    obtain ⟨z, hz, rfl⟩ := List.mem_map.mp hb
    exact decide_eq_true (hr.2 z hz)
  rw [← e]
  exact .tup h (sqT_tyX h) fun _ => among_strs acts r
theorem ruleCls_of {H : Hp} : ∀ {ws : List V} {rs : List (List Str)}, Paired (RuleAt K H) ws rs → (∀ r ∈ rs, IsRule r) → Paired (RuleCl K H) ws (rs.map fun _ => true)
  | _, _, .nil, _ => .nil
  | _, _, .cons a b, h => .cons (ruleCl_of a (h _ (List.mem_cons_self ..))) (ruleCls_of b fun r hr => h r (List.mem_cons_of_mem _ hr))
/-- a new book -/
theorem book_new {C CR x dx : Addr} {H : Hp} {ws : List V} {rs : List (List Str)} {Q : VK} {E : XK} (hx : H x = none) (hdx : H dx = none) (pr : Paired (RuleAt K H) ws rs) (hr : ∀ r ∈ rs, IsRule r) (h6 : rs.length = 6)
    (k : ∀ H', BookAt K C H' x rs → Same H H' → Q .non H') : spBInit K C CR (.ref x :: ws) (upd (upd H dx (.own x)) x (.ins C dx [])) Q E := by
  have s1 : Same H (upd (upd H dx (.own x)) x (.ins C dx [])) := fun b o e => by
    rw [upd_ne (ne_of_none e hx), upd_ne (ne_of_none e hdx)]
    exact e
  refine ⟨x, dx, ws, rs.map fun _ => true, rfl, by rw [pr.length, h6], upd_same, pair_map (fun _ _ q => ruleCl_same s1 q) (ruleCls_of pr hr), fun _ H' l h1 h2 h3 h4 => ?_, fun i hi => ?_⟩
  · have s2 : Same H H' := fun b o e => h4 b o (s1 b o e) (ne_of_none e hx)
    exact k H' ⟨dx, l, h1, ⟨l, ws, rfl, SqT.of h2, s2.kt.rules pr⟩, h6⟩ s2
  · rw [List.getElem?_map] at hi
    cases e : rs[i]? with
    | none =>
      rw [e] at hi
      cases hi
    | some r =>
      rw [e] at hi
      cases hi
theorem same_kp {j : Addr} {H H1 H2 : Hp} (s : Same H H1) (hj : H j = none) (k : Kp j H1 H2) : Same H H2 := fun b o e => k b o (ne_of_none e hj) (s b o e)
theorem same_upd {j : Addr} {H H1 : Hp} {o : HO} (s : Same H H1) (hj : H j = none) : Same H (upd H1 j o) := fun b u e => by
  rw [upd_ne (ne_of_none e hj)]
  exact s b u e
theorem six_six {H : Hp} {v : V} {rs : List (List Str)} (h : SixAt K H v rs) (h6 : rs.length = 6) : ∃ a u0 u1 u2 u3 u4 u5 r0 r1 r2 r3 r4 r5, v = .ref a ∧ rs = [r0, r1, r2, r3, r4, r5] ∧ SqT K H a [u0, u1, u2, u3, u4, u5] ∧
    Paired (RuleAt K H) [u0, u1, u2, u3, u4, u5] [r0, r1, r2, r3, r4, r5] := by
  obtain ⟨a, vs, rfl, hs, pr⟩ := h
  have hv := pr.length
  match rs, vs, h6, hv with
  | [r0, r1, r2, r3, r4, r5], [u0, u1, u2, u3, u4, u5], _, _ => exact ⟨a, u0, u1, u2, u3, u4, u5, r0, r1, r2, r3, r4, r5, rfl, rfl, hs, pr⟩
theorem nil_new {H : Hp} {e : Addr} : RuleAt K (upd H e (.tup [])) (.ref e) [] := ⟨e, rfl, SqT.of upd_same⟩
/-- how Book is made -/
structure MkB (P : Program) (w : World) (K : PySem.W.Frag) (mg : Str → Option Value) (base : Heap) (C CR fI : Addr) (fd : FuncData) (d0 d1 d2 d3 d4 d5 : V) : Prop where
  mkb : Mk K C fI
  ok : FnOk P w K mg base (L2.CX P w) 4 fI fd ["self", "put", "look", "alter", "back", "pay", "again"] (spBInit K C CR)
  dv : ∀ H, Paired (RuleAt K H) [d0, d1, d2, d3, d4, d5] [[], [], [], [], [], []]
theorem isRule_nil : IsRule [] := ⟨Nat.zero_le _, fun x hx => by cases hx⟩
abbrev pI : List Str := ["self", "put", "look", "alter", "back", "pay", "again"]
theorem rng_le (c n : Nat) (hc : 1 ≤ c) : 0 ≤ (if (if (n : Int) < (c : Int) then (n : Int) else c) > 1 then (if (n : Int) < (c : Int) then (n : Int) else c) else 1) ∧ (if (if (n : Int) < (c : Int) then (n : Int) else c) > 1 then (if (n : Int) < (c : Int) then (n : Int) else c) else 1) ≤ (c : Int) := by
  split <;> split <;> omega
def spLaw (K : PySem.W.Frag) : Sp := fun vs H Q _ => ∃ (a : Addr) (ns : List Int), vs = [.ref a] ∧ SqL K H a (ns.map V.int) ∧ ns.length ≤ 63 ∧ ∀ H', Q (.bl true) H'
section
variable {f : Addr} {fd : FuncData} {d0 d1 d2 d3 d4 d5 : V}
theorem empty_at {K : PySem.W.Frag} {H : Hp} {e : Addr} {o : Option Addr} {n : Nat} {sl : Array (Option Value)} (l : K.lookup e = some ⟨.type "tuple", o, .seq #[] n, sl⟩) : RuleAt K H (.ref e) [] := ⟨e, rfl, .inr ⟨_, _, _, l, rfl, rfl, Nat.zero_le _, .nil⟩⟩
theorem init_b6 (F : FunD K "__init__" "Book.__init__" (defArgs s_init) (defBody s_init) (defScope s_init) [d0, d1, d2, d3, d4, d5] [] f fd) : ∃ ds, Vals [] ds ∧ Binds K fd pI ds :=
  F.binds1 7 6 (fun z => by cases z) rfl fun _ _ _ _ _ _ _ us its h1 h2 => match us, its, h1, h2 with | [_, _, _, _, _, _, _], [_, _, _, _, _, _], _, _ => ⟨_, rfl, rfl⟩
end
end
end Sh

/-! sets of texts: set(t), {e for ..}, len of these -/
namespace Sh
open PySem PySem.Spec PyProof.Rows L2
/-! ### each once -/
def hasK {α : Type} [DecidableEq α] (k : α) (l : List α) : Bool := l.any fun j => decide (j = k)
theorem hasK_iff {α : Type} [DecidableEq α] {k : α} {l : List α} : hasK k l = true ↔ k ∈ l := by
  unfold hasK
  rw [List.any_eq_true]
  constructor
  · rintro ⟨j, hj, e⟩
    rw [← of_decide_eq_true e]
    exact hj
  · intro h
    exact ⟨k, h, decide_eq_true rfl⟩
theorem hasK_not {α : Type} [DecidableEq α] {k : α} {l : List α} : hasK k l = false ↔ ¬ k ∈ l := by
  rw [← hasK_iff]
  cases hasK k l <;> simp
def once {α : Type} [DecidableEq α] (l : List α) : List α := l.foldl (fun acc k => if hasK k acc = true then acc else acc ++ [k]) []
theorem once_snoc {α : Type} [DecidableEq α] (l : List α) (k : α) : once (l ++ [k]) = if hasK k (once l) = true then once l else once l ++ [k] := by
  unfold once
  rw [List.foldl_append]
  rfl
theorem rev_ind {α : Type} {C : List α → Prop} (h0 : C []) (h1 : ∀ l x, C l → C (l ++ [x])) (l : List α) : C l := by
  suffices h : ∀ r : List α, C r.reverse by
    have := h l.reverse
    rwa [List.reverse_reverse] at this
  intro r
  induction r with
  | nil => exact h0
  | cons x r ih =>
    rw [List.reverse_cons]
    exact h1 _ _ ih
theorem mem_once {α : Type} [DecidableEq α] (k : α) (l : List α) : k ∈ once l ↔ k ∈ l := by
  induction l using rev_ind with
  | h0 => simp [once]
  | h1 l x ih =>
    rw [once_snoc]
    by_cases h : hasK x (once l) = true
    · rw [if_pos h, ih, List.mem_append, List.mem_singleton]
      constructor
      · exact .inl
      · rintro (q | q)
        · exact q
        · subst q
          exact ih.mp (hasK_iff.mp h)
    · rw [if_neg h, List.mem_append, List.mem_append, ih]
theorem has_once {α : Type} [DecidableEq α] (k : α) (l : List α) : hasK k (once l) = hasK k l := by
  cases h : hasK k l with
  | true => exact hasK_iff.mpr ((mem_once k l).mpr (hasK_iff.mp h))
  | false => exact hasK_not.mpr fun z => hasK_not.mp h ((mem_once k l).mp z)
theorem once_len {α : Type} [DecidableEq α] (l : List α) : (once l).length ≤ l.length := by
  induction l using rev_ind with
  | h0 => simp [once]
  | h1 l x ih =>
    rw [once_snoc, List.length_append, List.length_singleton]
    split
    · omega
    · rw [List.length_append, List.length_singleton]
      omega
theorem nd_snoc {α : Type} {l : List α} {x : α} : (l ++ [x]).Nodup ↔ l.Nodup ∧ ¬ x ∈ l := by
  rw [List.nodup_append]
  constructor
  · rintro ⟨a, b, c⟩
    exact ⟨a, fun h => c x h x (List.mem_singleton.mpr rfl) rfl⟩
  · rintro ⟨a, b⟩
    refine ⟨a, List.nodup_cons.mpr ⟨by simp, List.nodup_nil⟩, fun y hy z hz e => ?_⟩
    rw [List.mem_singleton.mp hz] at e
    subst e
    exact b hy
theorem once_nd {α : Type} [DecidableEq α] (l : List α) : (once l).length = l.length ↔ l.Nodup := by
  induction l using rev_ind with
  | h0 => simp [once]
  | h1 l x ih =>
    have hle := once_len l
    rw [once_snoc, nd_snoc, List.length_append, List.length_singleton]
    by_cases h : hasK x (once l) = true
    · rw [if_pos h]
      rw [has_once] at h
      constructor
      · intro q
        omega
      · intro q
        exact absurd (hasK_iff.mp h) q.2
    · rw [if_neg h, List.length_append, List.length_singleton]
      rw [has_once] at h
      constructor
      · intro q
        exact ⟨ih.mp (by omega), fun z => h (hasK_iff.mpr z)⟩
      · intro q
        have := ih.mpr q.1
        omega
/-! ### set(t), t a tuple of keys -/
theorem nat_no {a b : Nat} (z : a = b) (h : a < b ∨ b < a) : False := by omega
/-- an empty set as it is made -/
def setNew (w : World) : Obj := { cls := .type "set", dict := none, data := .set #[] 0 (.fresh 0 0 (!w.params.followText "set-order")) }
theorem setNew_of {P : Program} {w : World} {h : Heap} {a : Addr} (e : h.get? a = some (setNew w)) : h.SetOf (mixKind P w) a (fun _ => false) 0 :=
  ⟨_, #[], 0, _, e, ⟨rfl, rfl, rfl⟩, rfl, (fun z hz => by simp at hz), (fun k => by simp), (by decide), (by rfl), rfl⟩
section
variable {P : Program} {w : World} {A : Around} {E : Value → Shared → Prop} {s : Shared}
theorem loop_keys {I : Addr} {fp wr : List Addr} {G : Array GenState → Array GenState → Prop} {n : Nat} {Pv : Nat → Value → Prop} {St : Nat → Shared → Prop} {R : Result → Shared → Prop} (W : WalksS P w A.in1 I fp wr G n Pv St) (S : Addr)
    (out : S ∉ fp) (ks : List Key) (hn : n = ks.length) (few : ks.length + 1 < scanBound) (kv : ∀ i v, Pv i v → ∃ k, ks[i]? = some k ∧ (mixKind P w).is k v = true ∧ v.scannable = true)
    (fin : ∀ s', Moved (S :: wr) G s s' → s'.heap.SetOf (mixKind P w) S (fun k => hasK k ks) (once ks).length → R (.ok (.ret .none)) s') : ∀ (left i : Nat) (s1 : Shared), n - i = left → i ≤ n → St i s1 → Moved (S :: wr) G s s1 →
      s1.heap.SetOf (mixKind P w) S (fun k => hasK k (ks.take i)) (once (ks.take i)).length → codeAny (model P w) A (.builtin "set.update.loop" ⟨[.ref S, .ref I], []⟩) R s1 := by
  have far : S ∉ wr := fun z => out (W.sub _ z)
  have more : ∀ b ∈ wr, b ∈ S :: wr := fun b hb => List.mem_cons_of_mem _ hb
  have stays : ∀ {h h' : Heap} {T : Key → Bool} {c : Nat}, h.SetOf (mixKind P w) S T c → (∀ o, h.get? S = some o → h'.get? S = some o) → h'.SetOf (mixKind P w) S T c := fun z k => setOf_at z k
  intro left
  induction left with
  | zero =>
    intro i s1 e hi st mv so
    have ei : i = n := by omega
    refine codeAny_builtin PyProof.Rows.F.entry_set_update_loop ?_
    rw [Around.under_plainId PyProof.Rows.F.plain_set_update_loop _, show ks.take i = ks from List.take_of_length_le (by omega)] at *
    refine wpAny_bind (W.done s1 _ _ (ei ▸ st) fun s2 m2 => ?_)
    exact wpAny_pure (fin s2 (Moved.trans W.gtrans mv (m2.mono more)) (stays so fun o q => m2.heap S o far q))
  | succ left ih =>
    intro i s1 e hi st mv so
    have lt : i < n := by omega
    refine codeAny_builtin PyProof.Rows.F.entry_set_update_loop ?_
    rw [Around.under_plainId PyProof.Rows.F.plain_set_update_loop _]
    refine wpAny_bind (W.item i s1 _ _ lt st fun v s2 pv st2 m2 => ?_)
    obtain ⟨k, hk, is, sc⟩ := kv i v pv
    have so2 := stays so fun o q => m2.heap S o far q
    show wpAny _ _ (holding [v] (setAdd S v) >>= _) _ _ _
    refine wpAny_bind (wpAny_holding ?_)
    unfold setAdd
    refine wpAny_holding (wpAny_bind ((mixKind P w).pyHash (k := k) is ?_))
    have room : (once (ks.take i)).length + 1 < scanBound := by
      have h1 := once_len (ks.take i)
      rw [List.length_take] at h1
      omega
    refine wpAny_setAddHashed_of (knd := mixKind P w) (s := { s2 with toks := s2.toks + 1 }) is sc so2 room fun h3 but so3 => ?_
    have tk : ks.take (i + 1) = ks.take i ++ [k] := by rw [List.take_add_one, hk]; rfl
    have so4 : h3.SetOf (mixKind P w) S (fun j => hasK j (ks.take (i + 1))) (once (ks.take (i + 1))).length := by
      have e1 : (fun j => hasK j (ks.take i) || decide (j = k)) = fun j => hasK j (ks.take (i + 1)) := funext fun j => by
        rw [tk]
        unfold hasK
        rw [List.any_append, List.any_cons, List.any_nil, Bool.or_false, show decide (k = j) = decide (j = k) from decide_eq_decide.mpr eq_comm]
      have e2 : (if hasK k (ks.take i) = true then (once (ks.take i)).length else (once (ks.take i)).length + 1) = (once (ks.take (i + 1))).length := by
        rw [tk, once_snoc, has_once]
        cases h1 : hasK k (ks.take i) with
        | true => rw [if_pos rfl, if_pos rfl]
        | false => rw [if_neg Bool.false_ne_true, if_neg Bool.false_ne_true, List.length_append]; rfl
      rw [e1, e2] at so3
      exact so3
    refine wpAny_pure ⟨plainId_quiet PyProof.Rows.F.plain_set_update_loop _, ih (i + 1) _ (by omega) lt (W.frame _ s2 _ _ st2 (Nat.le_succ _) fun b hb o q => ?_) ?_ so4⟩
    · exact (but.2 b fun z => out (z ▸ hb)).trans q
    · refine Moved.trans W.gtrans mv ((m2.mono more).then_heap (Nat.le_succ _) fun b o hb q => ?_)
      exact (but.2 b fun z => hb (z ▸ List.mem_cons_self)).trans q
set_option maxHeartbeats 4000000 in
theorem set_of_tuple {l : Addr} {items : Array Value} (ks : List Key) {Q : Value → Shared → Prop} (hh : A.handled = none) (hl : s.heap.IsTuple l items) (sz : items.size = ks.length) (few : ks.length + 1 < scanBound)
    (kv : ∀ (i : Nat) (v : Value), items[i]? = some v → ∃ k, ks[i]? = some k ∧ (mixKind P w).is k v = true ∧ v.scannable = true)
    (h : ∀ (h' : Heap) (tk : Nat), h'.SetOf (mixKind P w) s.heap.objs.size (fun k => hasK k ks) (once ks).length → (∀ b o, s.heap.get? b = some o → h'.get? b = some o) → Q (.ref s.heap.objs.size) { s with heap := h', toks := tk }) :
    wpAny (model P w) A (call (.type "set") [.ref l]) Q E s := by
  have ⟨c, tl, m1⟩ := PySem.F.called_set.mro
  have m2 := PySem.F.called_set.made
  have m3 := PySem.F.called_set.sub
  have m4 := PySem.F.called_set.notType
  have m5 := PySem.F.called_set.canCreate
  have m6 := PySem.F.typeCall_set_1 (.ref l)
  refine wpAny_call (codeAny_of_tree (show wpAny _ _ (callAny (.type "set") _) _ _ _ from wpAny_pure ⟨Code.quiet_builtin _ (by decide +kernel), codeAny_builtin PySem.F.entry_type_call ?_⟩))
  rw [Around.under_plain (weight_type_call_type "set" [.ref l] []) rfl]
  repeat (any_goals (first | assumption | wp_step))
  refine codeAny_mono (code_set_led1 (.ref l) (E := E) (Q₁ := fun u s1 => u = .ref s.heap.objs.size ∧ s1 = { s with heap := s.heap.push (setNew w) }) ⟨rfl, rfl⟩) fun r s1 hr => ?_
  match r, hr with
  | .error e, hr => exact hr
  | .ok (.ret u), hr =>
    obtain ⟨rfl, rfl⟩ := hr
    have e0 : (s.heap.push (setNew w)).get? s.heap.objs.size = some (setNew w) := Heap.get?_push_size _ rfl
    have ty : Shared.TypeIs { s with heap := s.heap.push (setNew w) } (.ref s.heap.objs.size) "set" := ⟨_, e0, rfl⟩
    have i1 := PySem.F.called_set.init.lookup
    have i2 := PySem.F.called_set.init.bind (.ref s.heap.objs.size)
    repeat (any_goals (first | assumption | wp_step))
    refine codeAny_mono (codeAny_call_builtin (R := wants (fun u s2 => u = .none ∧ ∃ h' tk, s2 = { s with heap := h', toks := tk } ∧ h'.SetOf (mixKind P w) s.heap.objs.size (fun k => hasK k ks) (once ks).length ∧ (∀ b o, s.heap.get? b = some o → h'.get? b = some o)) E)
      PySem.F.called_set.init.plain PySem.F.entry_set_init (check_set_init_1 ty ?_)) fun r2 s2 hr2 => ?_
    · obtain ⟨⟨oc, od, _, os⟩, ho, rfl, nl, rfl⟩ := hl
      have ho1 := Heap.get?_push_of_some (setNew w) ho
      have t1 := PySem.F.sub_tuple_set
      have t2 := PySem.F.sub_tuple_frozenset
      have t3 : (Value.type "tuple" == Value.type "dict") = false := by decide
      have tl1 : (s.heap.push (setNew w)).IsTuple l items := ⟨_, ho1, rfl, nl, rfl⟩
      have lt := Heap.lt_size ho
      have z1 : (s.heap.push (setNew w)).objs.size = s.heap.objs.size + 1 := Heap.size_push _ _
      unfold Builtin.«set.__init__» noKeywords Builtin.Frozenset.updateFrom
      generalize hP : pyIter = PI
      wp_walk
      subst hP
      refine wpAny_pyIter_tuple tl1 (wpAny_bind (wpAny_runValue ?_))
      have hd : A.in1.in1.in1.handled = none := by simp [hh]
      have n1 : l ≠ (s.heap.push (setNew w)).objs.size := fun z => nat_no z (.inl (by rw [z1]; exact Nat.lt_succ_of_lt lt))
      have n2 : s.heap.objs.size ∉ [(s.heap.push (setNew w)).objs.size, l] := by
        intro z
        rcases List.mem_cons.mp z with z | z
        · exact nat_no z (.inl (by rw [z1]; exact Nat.lt_succ_self _))
        · exact nat_no (List.mem_singleton.mp z) (.inr lt)
      refine loop_keys ((Walks.tuple hd _ l n1 items).toS) s.heap.objs.size n2 ks sz few kv (fun s3 m so => ?_) items.size 0 _ (by omega) (Nat.zero_le _) ⟨⟨_, Heap.get?_push_size _ rfl, rfl, rfl⟩, tl1.push _⟩ ⟨fun _ _ _ e => e, rfl, rfl, rfl, Nat.le_refl _⟩ ?_
      · obtain ⟨h3, g3, d3, k3, o3⟩ := s3
        obtain rfl : g3 = s.gens := m.gens
        obtain rfl : d3 = s.drawn := m.drawn
        obtain rfl : o3 = s.os := m.os
        refine wpAny_pure (wpAny_pure ⟨rfl, h3, k3, rfl, so, fun b o e => ?_⟩)
        have lb := Heap.lt_size e
        refine m.heap b o (fun z => ?_) (Heap.get?_push_of_some _ (Heap.get?_push_of_some _ e))
        rcases List.mem_cons.mp z with z | z
        · exact nat_no z (.inl lb)
        · rcases List.mem_cons.mp z with z | z
          · exact nat_no z (.inl (by rw [z1]; exact Nat.lt_succ_of_lt lb))
          · cases z
      · exact setNew_of (Heap.get?_push_of_some _ e0)
    · match r2, hr2 with
      | .error e, hr2 => exact hr2
      | .ok (.ret u2), hr2 =>
        obtain ⟨rfl, h', tk, rfl, so, kp⟩ := hr2
        repeat (any_goals (first | assumption | wp_step))
        exact h _ _ so kp
      | .ok .next, hr2 => exact hr2.elim
      | .ok .brk, hr2 => exact hr2.elim
      | .ok .cont, hr2 => exact hr2.elim
  | .ok .next, hr => exact hr.elim
  | .ok .brk, hr => exact hr.elim
  | .ok .cont, hr => exact hr.elim
end
end Sh

/-! further rules: len(set(t)), C(*xs), zips of tuples walked by a comprehension, calls in a try, several clauses with names -/
namespace Sh
open PySem PySem.Spec PyProof.Rows L2
section
variable {X : Cx}
/-- len(set(a)), a a tuple of texts -/
def tLenSetT (K : PySem.W.Frag) (ta : TE) : TE := fun σ H Q => ta σ H fun x H1 => ∃ (l : Addr) (xs : List Str), x = .ref l ∧ SqT K H1 l (xs.map V.str) ∧ xs.length ≤ 1000 ∧ Q (.int ((once (xs.map (Sum.inr : Str → Key))).length : Nat)) H1
theorem pe_lenSetT {a : Expr} {ta : TE} {p p2 q pos : Pos} (hc : X.calm = true) (g1 : Gl X "len") (m1 : X.mg "len" = none) (g2 : Gl X "set") (m2 : X.mg "set" = none) (ha : PE X a ta)
    (na : starEach [a] X.env = (false, eval a X.env) :: starEach [] X.env := by rfl) : PE X (.Call (.Name "len" p) [.Call (.Name "set" p2) [a] [] q] [] pos) (tLenSetT X.K ta) := by
  refine ⟨fun pins s σ H Q I h => Call_ (ld_blt I g1 m1 boot_len (callWith_builtin1 (args_cons ?_ rfl) rfl rfl))⟩
  refine Call_ (ld_blt I g2 m2 boot_set (callWith_type1 (args_cons (thn (ha.run pins s σ H _ I h) fun v s1 ⟨x, H1, I1, r1, q1⟩ => args_nil ?_) na) na rfl))
  obtain ⟨l, xs, rfl, hq, few, q1⟩ := q1
  cases r1
  obtain ⟨its, r, pl, hz⟩ := I1.tuple hq
  have len : its.length = xs.length := by rw [← r.length, List.length_map]
  refine set_of_tuple (xs.map Sum.inr) (I1.ok.hd hc) pl (by rw [List.size_toArray, List.length_map, len]) (by rw [List.length_map]; unfold scanBound; omega) (fun i v e => ?_) fun h' tk so k => args_nil ?_
  · have e' : its[i]? = some v := by simpa using e
    have lt : i < xs.length := by rw [← len]; exact (List.getElem?_eq_some_iff.mp e').1
    obtain ⟨u, hu, t, ht⟩ := r.get (i := i) (x := .str xs[i]) (by rw [List.getElem?_map, List.getElem?_eq_getElem lt]; rfl)
    rw [e'] at hu
    cases hu
    refine ⟨.inr xs[i], by rw [List.getElem?_map, List.getElem?_eq_getElem lt]; rfl, ?_, ?_⟩
    · rw [ht]
      exact keyIs_str xs[i] t
    · rw [ht]
      rfl
  · obtain ⟨o, es, ep, t, ho, hex, hd, _, _, _, hf, hn⟩ := so
    have I2 : Inv X pins σ H1 { s1 with heap := h', toks := tk } := I1.kept fun b o e => k b o e
    have le := once_len (xs.map (Sum.inr : Str → Key))
    rw [List.length_map] at le
    exact call_len_set ho hex hd hf (by rw [hn]; omega) ⟨.int _, H1, I2.tok _, ⟨_, by rw [hn]⟩, q1⟩
theorem nd_map {α β : Type} {f : α → β} (inj : ∀ a b, f a = f b → a = b) : ∀ {l : List α}, (l.map f).Nodup ↔ l.Nodup
  | [] => by simp
  | x :: l => by
    rw [List.map_cons, List.nodup_cons, List.nodup_cons, nd_map inj]
    constructor
    · rintro ⟨a, b⟩
      exact ⟨fun w => a (List.mem_map.mpr ⟨x, w, rfl⟩), b⟩
    · rintro ⟨a, b⟩
      refine ⟨fun w => ?_, b⟩
      obtain ⟨y, hy, e⟩ := List.mem_map.mp w
      exact a (inj _ _ e ▸ hy)
theorem once_texts {xs : List Str} : (once (xs.map (Sum.inr : Str → Key))).length = xs.length ↔ xs.Nodup := by
  have h := once_nd (xs.map (Sum.inr : Str → Key))
  rw [List.length_map] at h
  rw [h]
  exact nd_map fun _ _ e => by cases e; rfl
/-! ### zip of two tuples in a comprehension -/
theorem walk_zipT {K : PySem.W.Frag} {a b : Addr} {xs ys : List V} (e : xs.length = ys.length) : Walk (RZ.ItzT K a b) xs.length (fun H => SqT K H a xs ∧ SqT K H b ys) (YPair (fun i => xs[i]?) (fun i => ys[i]?)) :=
  ⟨fun i H lt q => ⟨xs, ys, xs[i], ys[i]'(e ▸ lt), q.1, q.2, List.getElem?_eq_getElem lt, List.getElem?_eq_getElem (e ▸ lt)⟩, fun H q => ⟨xs, ys, q.1, q.2, .inl (Nat.le_refl _)⟩,
    fun i H x H' lt q y => by
      obtain ⟨T, u, v, h1, h2, h3, h4, h5⟩ := y
      exact ⟨T, u, v, h1, h2, h3, h4 _ q.1, h5 _ q.2⟩⟩
/-! ### C(*xs) -/
variable {CX : CXT} {k n : Nat} {f C : Addr} {fd : FuncData} {ps ks : List Str} {sp : Sp} {dvs : List V} {ds : List Value} {E : XK} {x m : Str} {p pos apos sp_ : Pos} {e o : Expr} {es : List Expr} {kws : List Keyword} {te ta : TE} {t tk : TA}
  {g : List Value → List Value → List Value} {gV : List V → List V → List V}
theorem pe_makeS (M : Mk X.K C f) (F : FnOk X.prog X.w X.K X.mg X.base CX k f fd ps sp) (hr : Room (k + 1) X.A) (hg : Gl X x) (hm : X.mg x = some (.ref C)) (hb : Binds X.K fd ps ds) (hd : Vals dvs ds) (hx : Passes CX X E) (he : PE X e te)
    (hdb : (x == ("__debug__" : Str)) = false := by decide) (st : starEach [.Starred e sp_] X.env = [(true, eval e X.env)] := by rfl) :
    PE X (.Call (.Name x p) [.Starred e sp_] [] pos) (fun σ H Q => te σ H fun y H1 => ∃ a xs, y = V.ref a ∧ (SqT X.K H1 a xs ∨ SqL X.K H1 a xs) ∧ ∀ z dz, H1 z = none → H1 dz = none → dz ≠ z →
      sp (.ref z :: (xs ++ dvs)) (upd (upd H1 dz (.own z)) z (.ins C dz [])) (fun v H2 => v = .non ∧ Q (.ref z) H2) E) := by
  refine ⟨fun pins s σ H Q I h => wpAny_Call_Name_kw (ld_glob I hg hm ?_ hdb)⟩
  refine PySem.W.callWith_S (h₀ := X.base) I.ok.mod.kin M.kp (thn (he.run pins s σ H _ I h) fun v s1 ⟨y, H1, I1, ry, a, xs, ey, hxs, q⟩ => ?_) st
  subst ey
  cases ry
  exact StX.star_any I1 hxs fun us s2 I2 rv => ⟨I2.kIn, run_make M F hr hb hd hx I2 rv q⟩
/-! ### within a try: what is raised is wished for at the slots -/
def tMethT (C : Addr) (m : Str) (sp : Sp) (E : L2.St → XK) (ta : TE) (t : TA) : TE := fun σ H Q => ta σ H fun x H1 => ∃ a dx fs, x = .ref a ∧ H1 a = some (.ins C dx fs) ∧ fs.lookup m = none ∧ t σ H1 fun vs H2 => sp (x :: vs) H2 Q (E σ)
theorem pe_methT {E : L2.St → XK} {pl : Sem Bool} (he : PE X o ta) (c : Cls X.K C) (hm : Meth X.K C m f) (F : FnOk X.prog X.w X.K X.mg X.base CX k f fd ps sp) (hr : Room k X.A) (hb : Binds X.K fd ps []) (hx : ∀ σ, PassesAt CX X σ (E σ)) (ha : PA X (e :: es) t)
    (hst : starEach (e :: es) X.env = (false, eval e X.env) :: starEach es X.env := by rfl) (hpl : (backTo pos (starEach es X.env)).any (·.1) = false := by rfl)
    (ht : eval (.Call (.Attribute o m apos) (e :: es) [] pos) X.env = (do
      let ov ← eval o X.env
      standAt apos.atName
      let (f, first) ← holding [ov] (getMethod ov m pl)
      callWith pos f first (backTo pos (starEach (e :: es) X.env)) (backToKw pos (keywordEach [] X.env))) := by rfl) :
    PE X (.Call (.Attribute o m apos) (e :: es) [] pos) (tMethT C m sp E ta t) := by
  refine ⟨fun pins s σ H Q I h => PySem.W.methodCall_KW (pl := pl) (thn (he.run pins s σ H _ I h) fun u s1 ⟨x, H1, I1, rx, a, dx, fs, ex, ea, l, q⟩ => ?_) ht⟩
  subst ex
  cases rx
  refine getmeth_ok I1 ea c hm l (PySem.W.callWith_K (first := [.ref a]) (h₀ := X.base) I.ok.mod.kin hm.kp (thn (ha.run pos pins s1 σ H1 _ I1 q) fun us s2 ⟨vs, H2, I2, r, q2⟩ => ⟨I2.kIn, ?_⟩) hst hpl)
  exact run_fnS (us := .ref a :: us) (vs := .ref a :: vs) F hr hb (hx σ) I2 (.cons rfl r) q2
/-- all by position, told as a call with no keywords -/
theorem kbn_pos {K : PySem.W.Frag} (hb : Binds K fd ps ds) (hd : Vals dvs ds) (hn : n + ds.length = ps.length) : KBn K fd ps n [] (fun us _ => us ++ ds) (fun vs _ => vs ++ dvs) :=
  ⟨fun s us ws k h1 _ => hb s us k (by rw [List.length_append, h1, hn]), fun r1 _ => r1.append hd⟩
theorem run_makeT {pins : List (Addr × Obj)} {σ : L2.St} {H : Hp} {s : Shared} {Q : VK} {us ws : List Value} {vs zs : List V} (M : Mk X.K C f) (F : FnOk X.prog X.w X.K X.mg X.base CX k f fd ps sp) (hr : Room (k + 1) X.A) (hb : KBn X.K fd ps (n + 1) ks g gV)
    (hx : PassesAt CX X σ E) (I : Inv X pins σ H s) (r : Vals vs us) (rz : Vals zs ws) (l1 : vs.length = n) (l2 : zs.length = ks.length)
    (h : ∀ y dy, H y = none → H dy = none → dy ≠ y → sp (gV (.ref y :: vs) zs) (upd (upd H dy (.own y)) y (.ins C dy [])) (fun v H2 => v = .non ∧ Q (.ref y) H2) E) :
    wpAny (model X.prog X.w) X.A (call (.ref C) us (ks.zip ws)) (EP X pins σ Q) X.xe s := by
  have free : ∀ i, s.heap.objs.size ≤ i → H i = none := fun i hi => I.hok.fresh hi
  have hq := h (s.heap.objs.size + 1) s.heap.objs.size (free _ (Nat.le_succ _)) (free _ (Nat.le_refl _)) (Nat.ne_of_lt (Nat.lt_succ_self _))
  have I2 := Inv.made (C := C) I
  have q1 : Vals (V.ref (s.heap.objs.size + 1) :: vs) (Value.ref (s.heap.objs.size + 1) :: us) := .cons rfl r
  have bt := hb.to _ (Value.ref (s.heap.objs.size + 1) :: us) ws I2.kIn (q1.length.symm.trans (congrArg Nat.succ l1)) (rz.length.symm.trans l2)
  have run := F.run _ X.stack _ _ ⟨Value.ref (s.heap.objs.size + 1) :: us, ks.zip ws⟩ (g (Value.ref (s.heap.objs.size + 1) :: us) ws) _ _ E (hr.make C us (ks.zip ws)) (I2.env0.make C us (ks.zip ws)) bt (hb.rel q1 rz) hq
  refine wpAny_call (make_map (f := f) I.kIn M.makes M.init (beq_iff_eq.mp M.fn) (codeAny_mono run fun res s' hq' => ?_))
  match res, hq' with
  | .error er, hq' => exact hx pins _ _ er s' I2 hq'
  | .ok (.ret u), hq' =>
    obtain ⟨v, H', I3, rv, ev, q3⟩ := I2.after hq'
    subst ev
    exact ⟨rv, ⟨V.ref (s.heap.objs.size + 1), H', I3, rfl, q3⟩⟩
  | .ok .next, hq' => exact False.elim hq'
  | .ok .brk, hq' => exact False.elim hq'
  | .ok .cont, hq' => exact False.elim hq'
def tMakeT (C : Addr) (n m : Nat) (sp : Sp) (gV : List V → List V → List V) (E : L2.St → XK) (t tk : TA) : TE := fun σ H Q => t σ H fun vs H1 => tk σ H1 fun zs H2 => vs.length = n ∧ zs.length = m ∧
  ∀ y dy, H2 y = none → H2 dy = none → dy ≠ y → sp (gV (.ref y :: vs) zs) (upd (upd H2 dy (.own y)) y (.ins C dy [])) (fun v H3 => v = .non ∧ Q (.ref y) H3) (E σ)
theorem pe_makeT {E : L2.St → XK} (M : Mk X.K C f) (F : FnOk X.prog X.w X.K X.mg X.base CX k f fd ps sp) (hr : Room (k + 1) X.A) (hg : Gl X x) (hm : X.mg x = some (.ref C)) (hb : KBn X.K fd ps (n + 1) [] g gV) (hx : ∀ σ, PassesAt CX X σ (E σ)) (ha : PA X (e :: es) t)
    (hdb : (x == ("__debug__" : Str)) = false := by decide) (he : starEach (e :: es) X.env = (false, eval e X.env) :: starEach es X.env := by rfl) (hpl : (backTo pos (starEach es X.env)).any (·.1) = false := by rfl) :
    PE X (.Call (.Name x p) (e :: es) [] pos) (tMakeT C n 0 sp gV E t tNil) := by
  refine ⟨fun pins s σ H Q I h => wpAny_Call_Name_kw (ld_glob I hg hm (PySem.W.callWith_K (h₀ := X.base) I.ok.mod.kin M.kp (thn (ha.run pos pins s σ H _ I h) fun us s1 ⟨vs, H1, I1, r, l1, l2, q⟩ => ⟨I1.kIn, ?_⟩) he hpl) hdb)⟩
  exact run_makeT (ws := []) (zs := []) M F hr hb (hx σ) I1 r .nil l1 rfl q
theorem pe_makeTK {E : L2.St → XK} (M : Mk X.K C f) (F : FnOk X.prog X.w X.K X.mg X.base CX k f fd ps sp) (hr : Room (k + 1) X.A) (hg : Gl X x) (hm : X.mg x = some (.ref C)) (hb : KBn X.K fd ps 1 ks g gV) (hx : ∀ σ, PassesAt CX X σ (E σ)) (hkw : PK X kws tk)
    (hall : (backToKw pos (keywordEach kws X.env)).all (·.1.isSome) = true := by rfl) (hks : (backToKw pos (keywordEach kws X.env)).filterMap (·.1) = ks := by rfl) (hdb : (x == ("__debug__" : Str)) = false := by decide)
    (hpl : ((backTo pos (starEach [] X.env)).any (·.1) || (backToKw pos (keywordEach kws X.env)).any (·.1.isNone)) = false := by rfl) :
    PE X (.Call (.Name x p) [] kws pos) (tMakeT C 0 ks.length sp gV E tNil tk) := by
  refine ⟨fun pins s σ H Q I h => wpAny_Call_Name_kw (ld_glob I hg hm (PySem.W.callWith_KW0 (h₀ := X.base) I.ok.mod.kin M.kp hall ?_ hpl) hdb)⟩
  refine thn (hkw.run pos pins s σ H _ I h) fun ws s2 ⟨zs, H2, I2, rz, l1, l2, q2⟩ => ⟨I2.kIn, ?_⟩
  rw [hks]
  exact run_makeT (us := []) (vs := []) M F hr hb (hx σ) I2 .nil rz rfl l2 q2
end
end Sh

/-! try with several clauses, each with a name -/
namespace Sh
open PySem PySem.Spec PyProof.Rows L2
/-- behind a clause's suite its name, in slot i, is gone -/
def Ends.less (D : Ends) (i : Nat) : Ends := { nx := fun σ H => D.nx (σ.set i none) H, rt := D.rt, bk := fun σ H => D.bk (σ.set i none) H, ct := fun σ H => D.ct (σ.set i none) H }
abbrev Suite := Addr → Value → Option Addr → TS
/-- what the clauses, all with the name in slot i, wish of an exception -/
def wAll (K : PySem.W.Frag) (i : Nat) (W0 : WX) (D : Ends) : List (Value × Suite) → WX
  | [] => W0
  | p :: r => fun cls d σ H => ∃ b, PySem.W.exmOne K cls p.1 = some b ∧ (b = true → ∀ a, H a = none → p.2 a cls d (Ends.less D i) (σ.set i (some (.ref a))) H) ∧ (b = false → wAll K i W0 D r cls d σ H)
inductive Clauses (X : Cx) (n : Str) : List ExceptHandler → List (Value × Suite) → Prop
  | nil : Clauses X n [] []
  | cons {x : Str} {c : Value} {ts : Suite} {b0 : Stmt} {bs : List Stmt} {p1 p2 : Pos} {hs : List ExceptHandler} {l : List (Value × Suite)} (nm : Names X x c)
      (su : ∀ (a : Addr) (oe : Obj) (cls : Value) (d : Option Addr) (pn : List (Addr × Obj)), Zc cls d oe → (∃ vs, oe.data = .fields vs) → PSs (X.suite a ((a, oe) :: pn)) (b0 :: bs) (ts a cls d)) (r : Clauses X n hs l) :
      Clauses X n (.ExceptHandler (some (.Name x p1)) (some n) (b0 :: bs) p2 :: hs) ((c, ts) :: l)
section
variable {X : Cx} {n : Str} {i : Nat} {body : List Stmt} {h0 : ExceptHandler} {hs : List ExceptHandler} {l : List (Value × Suite)} {pos : Pos} {tb : WX → TS} {W0 : WX}
theorem ps_try_all (e1 : X.stack = X.env :: X.outer) (e2 : X.env.frame = some X.env.locals) (nd : X.N.Nodup) (hi : X.N[i]? = some n) (hl : X.env.kindOf n = some .local) (tk : Takes X W0)
    (hb : ∀ (W : WX) (pn : List (Addr × Obj)) (xe : Value → Shared → Prop), Takes (X.tr pn xe) W → PassesOwn (model X.prog X.w) X.A X.env xe → PSs (X.tr pn xe) body (tb W)) (cl : Clauses X n (h0 :: hs) l) :
    PS X (.Try body (h0 :: hs) [] [] pos) (fun D σ H => tb (wAll X.K i W0 D l) D σ H) := by
  refine ⟨fun pins s σ H D I h => ?_⟩
  have ok := I.ok
  have fr : X.A.frames = some (X.env :: X.outer) := ok.frames.trans (congrArg some e1)
  let xe : Value → Shared → Prop := fun e t1 => wpAny (model X.prog X.w) X.A (noteFrame e X.env) (fun _ t2 => wpAny (model X.prog X.w) X.A (setFlight e none) (fun _ t3 => wpAny (model X.prog X.w) X.A (handleBy e X.env (h0 :: hs)) (SP X pins D) X.xe t3) X.xe t2) X.xe t1
  have catch_ : Takes (X.tr (X.pn ++ pins) xe) (wAll X.K i W0 D l) := by
    rintro u s' ⟨a, B, sI, pins', σ', H', cls, d, rfl, J', nb, up, sky, na, os, ag, w⟩
    have J : Inv X pins σ' H' sI := J'.ofTry ok
    rw [show (X.tr (X.pn ++ pins) xe).stack = X.env :: X.outer from e1] at sky
    show wpAny _ _ (noteFrame (.ref a) X.env) _ _ _
    refine Sky.land Zc.steady fr e2 sky fun h3 fl up3 => ?_
    have J3 : Inv X pins σ' H' { s' with heap := h3 } := J.landed nb fl.1 (up.trans up3) os ag
    obtain ⟨oe, vs, he, hz, hd⟩ := fl.there
    have off : a ∉ frs (X.env :: X.outer) := fun hm => by
      obtain ⟨_, o', e', no⟩ := fl.2.2.1.mem hm
      rw [he] at e'
      cases e'
      exact no _ hd
    have nL : a ≠ X.env.locals := fun z => off (List.mem_filterMap.mpr ⟨X.env, List.mem_cons_self, by rw [e2, z]⟩)
    have nF : a ∉ X.fs := fun hm => by
      obtain ⟨e, m, q⟩ := List.mem_filterMap.mp hm
      exact off (List.mem_filterMap.mpr ⟨e, List.mem_cons_of_mem _ m, q⟩)
    have S3 := J3.suite he hd na nL nF
    suffices go : ∀ {hs' : List ExceptHandler} {l' : List (Value × Suite)}, Clauses X n hs' l' → wAll X.K i W0 D l' cls d σ' H' → wpAny (model X.prog X.w) X.A (handleBy (.ref a) X.env hs') (SP X pins D) X.xe { s' with heap := h3 } from go cl w
    intro hs' l' c
    induction c with
    | nil =>
      intro w
      refine wpAny_handleBy_nil ?_
      obtain ⟨_, _, _, o2, v2, T, oT, ts, g1, g2, g3, g4, g5⟩ := id fl
      have fin : wpAny (model X.prog X.w) X.A (setFlight (.ref a) X.env.frame) (fun _ t => wpAny (model X.prog X.w) X.A (throw (.ref a) : Sem Flow) (SP X pins D) X.xe t) X.xe { s' with heap := h3 } := by
        rw [e2]
        refine HandSPX.setFlight_upZ fl fun h4 held up4 => wpAny_throw (tk _ _ ⟨a, B, sI, pins, σ', H', cls, d, rfl, J, nb, (up.trans up3).trans up4, .inr (.inr ?_), na, os, ag, w⟩)
        rw [e1]
        exact held
      unfold PySem.passOn
      refine wpAny_bind (wpAny_field g1 g3 g4 ?_)
      rw [if_neg (by simp)]
      first
        | exact wpAny_bind (wpAny_pure (wpAny_bind fin))
        | exact wpAny_bind fin
    | @cons x c ts b0 bs p1 p2 hs2 l2 nm su r ih =>
      rintro ⟨b, eb, yes, no⟩
      refine wpAny_handleBy_cons (codeAny_handlers_test ?_) (by intro q; cases q)
      have isA := PySem.W.exm_one (M := model X.prog X.w) J3.kIn (show PySem.W.Looks (model X.prog X.w) h3 (typeOf (.ref a)) cls from fun A Q E s k q => wpAny_typeOf_ref (k _ _ he) (by rw [hz.1]; exact q)) eb
      have named : ∀ {Q E : Value → Shared → Prop}, Q c { s' with heap := h3 } → wpAny (model X.prog X.w) (X.A.mark (some (.ref a))) (eval (.Name x p1) X.env) Q E { s' with heap := h3 } := fun q => by
        obtain ⟨hg, hdb, m | ⟨m, v, z⟩⟩ := nm
        · exact ld_glob (X := X.suite a ((a, oe) :: (X.pn ++ pins))) S3 hg m q hdb
        · exact ld_blt (X := X.suite a ((a, oe) :: (X.pn ++ pins))) S3 hg m v q z hdb
      refine named (isA.here ?_)
      cases b with
      | false => exact ih (no rfl)
      | true =>
        refine codeAny_handlers_suite_as (HandSPX.lands_againZ fl fun h4 fl4 up4 => ?_)
        have J4 : Inv X pins σ' H' { s' with heap := h4 } := J.landed nb fl4.1 ((up.trans up3).trans up4) os ag
        obtain ⟨oe4, vs4, he4, hz4, hd4⟩ := fl4.there
        refine store_ok (X := X.suite a ((a, oe4) :: (X.pn ++ pins))) (v := .ref a) (J4.suite he4 hd4 na nL nF) nd hi (.inl hl) rfl (fun s5 S5 => ?_) (.inr hl)
        refine wpAny_mono ((su a oe4 cls d (X.pn ++ pins) hz4 ⟨_, hd4⟩).run [] s5 _ H' _ S5 (yes rfl a na)) (fun f s6 sp => ?_) (fun _ _ z => z.elim)
        have gone : ∀ {σ6 : L2.St} {H6 : Hp} {Q : Shared → Prop}, Inv (X.suite a ((a, oe4) :: (X.pn ++ pins))) [] σ6 H6 s6 → (∀ s7, Inv X pins (σ6.set i none) H6 s7 → Q s7) →
            wpAny (model X.prog X.w) X.A (do bindName X.env n .none; unbindBehindTheSuite X.env n p2) (fun _ s7 => Q s7) X.xe s6 := fun S6 q => gone_ok (S6.unsuite ok) nd hi hl q
        match f, sp with
        | .next, ⟨_, _, S6, q⟩ => exact gone S6 fun s7 J7 => ⟨_, _, J7, q⟩
        | .brk, ⟨_, _, S6, q⟩ => exact gone S6 fun s7 J7 => ⟨_, _, J7, q⟩
        | .cont, ⟨_, _, S6, q⟩ => exact gone S6 fun s7 J7 => ⟨_, _, J7, q⟩
        | .ret u, ⟨v6, _, _, S6, r6, q⟩ => exact gone S6 fun s7 J7 => ⟨_, _, _, J7, r6, q⟩
  refine wpAny_Try_except (wpAny_mono ((hb _ _ xe catch_ PassesOwn.looking).run [] s σ H D (I.toTry _) h) (fun f s1 sp => ?_) (fun e s1 he => he))
  match f, sp with
  | .next, ⟨_, _, J, q⟩ => exact wpAny_execs_nil ⟨_, _, J.ofTry ok, q⟩
  | .brk, ⟨_, _, J, q⟩ => exact ⟨_, _, J.ofTry ok, q⟩
  | .cont, ⟨_, _, J, q⟩ => exact ⟨_, _, J.ofTry ok, q⟩
  | .ret u, ⟨_, _, _, J, r, q⟩ => exact ⟨_, _, _, J.ofTry ok, r, q⟩
end
end Sh

namespace Sh
open PySem L2
section
variable {P : Program} {w : World} {K : PySem.W.Frag} {mg : Str → Option Value} {base : Heap} {aA aD : Addr}
/-! ### what is a rule, told back -/
theorem among_true {H : Hp} {l : List Str} : ∀ {xs : List V} {bs : List Bool}, Paired (Among K H l) xs bs → bs.all id = true → ∃ zs : List Str, xs = zs.map V.str ∧ ∀ z ∈ zs, z ∈ l
  | _, _, .nil, _ => ⟨[], rfl, fun z hz => by cases hz⟩
  | _, b :: bs, .cons a r, h => by
    rw [List.all_cons, Bool.and_eq_true] at h
    obtain ⟨zs, e, q⟩ := among_true r h.2
    have h1 : b = true := h.1
    cases a with
    | other ty no => cases h1
    | str z =>
      refine ⟨z :: zs, by rw [e]; rfl, fun y hy => ?_⟩
      rcases List.mem_cons.mp hy with hy | hy
      · rw [hy]
        exact of_decide_eq_true h1
      · exact q y hy
theorem ruleCl_true {H : Hp} {v : V} (h : RuleCl K H v true) : ∃ r, RuleAt K H v r ∧ IsRule r := by
  suffices z : ∀ b, RuleCl K H v b → b = true → ∃ r, RuleAt K H v r ∧ IsRule r from z true h rfl
  intro b h e
  cases h with
  | other ty no => cases e
  | @tup a xs bs h ty p =>
    rw [Bool.and_eq_true] at e
    have e1 := of_decide_eq_true e.1
    obtain ⟨zs, ez, q⟩ := among_true (p e1) e.2
    subst ez
    rw [List.length_map] at e1
    exact ⟨zs, ⟨a, rfl, h⟩, e1, q⟩
/-! ### with_rule -/
def spWith (K : PySem.W.Frag) (C CD CR : Addr) : Sp := fun vs H Q E => ∃ (p : Addr) (v u : V) (b c : Bool) (r : List Str) (rs : List (List Str)), vs = [.ref p, v, u] ∧ BookAt K C H p rs ∧ (∀ r ∈ rs, IsRule r) ∧ Among K H doors v b ∧ RuleCl K H u c ∧ (c = true → RuleAt K H u r ∧ IsRule r) ∧
  (b = false → ∀ d H', H' d = some (.xd [("door", v)]) → Same H H' → H d = none → E (.ref CD) (some d) H') ∧
  (∀ (i : Nat) (z : Str), v = .str z → doors[i]? = some z → c = false → ∀ d H', H' d = some (.xd [("door", .str z)]) → Same H H' → H d = none → E (.ref CR) (some d) H') ∧
  (∀ (i : Nat) (z : Str), v = .str z → doors[i]? = some z → c = true → ∀ x H', BookAt K C H' x (rs.set i r) → Same H H' → Q (.ref x) H')
theorem paired_set {α β : Type} {F : α → β → Prop} {x : α} {y : β} (f : F x y) : ∀ {l1 : List α} {l2 : List β} (i : Nat), Paired F l1 l2 → Paired F (l1.set i x) (l2.set i y)
  | _, _, _, .nil => .nil
  | _, _, 0, .cons a b => .cons f b
  | _, _, i + 1, .cons a b => .cons a (paired_set f i b)
theorem take_set {α : Type} {l : List α} {i k : Nat} {u y : α} (hy : l[k]? = some y) : (l.set i u).take (k + 1) = (l.set i u).take k ++ [if k = i then u else y] := by
  have lt := (List.getElem?_eq_some_iff.mp hy).1
  rw [List.take_add_one]
  congr 1
  rw [List.getElem?_set]
  by_cases h : k = i
  · subst h
    simp [lt]
  · have h' : ¬ i = k := fun q => h q.symm
    rw [if_neg h', if_neg h, hy]
    rfl
abbrev s_with : Stmt := inClass (top 13) 4
theorem sc_with : FnScope ["self", "door", "rule", "rules", "name", "old"] ["self", "door", "rule"] (defScope s_with) := ⟨rfl, rfl, rfl, by decide +kernel, rfl, by decide +kernel, by decide +kernel⟩
theorem ok_with {f C CD CR fE fS fI : Addr} {fd fdE fdS fdI : FuncData} (F : Fun K "with_rule" "Book.with_rule" s_with f fd) (B : TxtB mg) (T : TxtK K mg aA aD) (TB : TxtBook K mg C)
    (gS : mg "is_door" = some (.ref fS)) (FS : Fun K "is_door" "is_door" s_isdoor fS fdS) (bS : Binds K fdS ["value"] [])
    (TE : ErrTxt K mg "NoDoor" "door" CD fE) (FE : Fun K "__init__" "NoDoor.__init__" s_eDoor fE fdE) (bE : Binds K fdE ["self", "door"] [])
    (MK : Mk K C fI) (GI : FnOk P w K mg base (L2.CX P w) 4 fI fdI pI (spBInit K C CR)) (b6 : Binds K fdI pI []) : FnOk P w K mg base (L2.CX P w) 6 f fd ["self", "door", "rule"] (spWith K C CD CR) := by
  have GS : FnOk P w K mg base CX0 1 fS fdS ["value"] (spAmong K doors) := ok_isdoor FS B T
  have GE : FnOk P w K mg base CX0 1 fE fdE ["self", "door"] (spErr CD "door") := ok_eDoor FE TE
  refine F.okX sc_with (fun vs H Q E h => ?_) (fun cdv A outer s H vs Q E hr h => ?_)
  · obtain ⟨p, v, u, b, c, r, rs, rfl, _⟩ := h
    rfl
  · obtain ⟨p, v, u, b, c, r, rs, rfl, hb, hrs, hv, hu, hur, eD, eR, q⟩ := h
    have r1 : Room 1 _ := hr.mono (by decide)
    have r2 : Room 2 _ := hr.mono (by decide)
    refine ⟨_, (pss_cons (ps_if (pt_not (pt_val (pe_call GS r1 (by rfl) gS FS.kp bS .nil pass0 (pa_cons (pv 1) pa_nil)))) (pss_one (ps_raise rfl (takes_of rfl rfl rfl rfl) (pmk_oex TE.oex TE.iC TE.tI GE r2 bE .nil pass0 (by rfl) TE.g (by exact (pa_cons (pv 1) pa_nil))))) pss_nil)
  (pss_cons (ps_setLc (i := 3) (own := [("name", 4), ("old", 5)]) (g := (gTup K 2 (gCons (gName 4) (gCons (gName 5) gNil)))) (by rfl) sc_with.nd rfl rfl (sw_true rfl rfl rfl (by decide +kernel)) (RZ.pi_zipA (by rfl) B.b_zip (pa_cons (pe_glob (v := .ref aD) (by rfl) T.g_DOORS rfl) (pa_cons (pe_fld (pv 0) rfl) pa_nil))) (blkOk_by (own := [("name", 4), ("old", 5)]) (N := ["self", "door", "rule", "rules", "name", "old"]) (sc := defScope s_with) (by decide +kernel)) (fun _ _ _ _ _ => (pg_tup (by rfl) (pgs_cons (pg_name (i := 4) sc_with.nd rfl (Or.inl rfl)) (pgs_cons (pg_name (i := 5) sc_with.nd rfl (Or.inl rfl)) pgs_nil)))) (fun _ _ _ _ _ => pts_nil) (fun _ _ _ _ _ => (pe_ifExp (pt_cmpR op_eq (pv 4) (pv 1) (nomark _)) (pv 2) (pv 5))))
  (pss_one (ps_ret (pe_makeS MK GI hr (by rfl) TB.g b6 .nil (passes_call (takes_of rfl rfl rfl rfl) fun _ _ _ _ h => h) (pv 3)))))), ?_⟩
    obtain ⟨dx, l, hp, ⟨l', ws, el, hl, pr⟩, e6⟩ := id hb
    cases el
    refine ⟨_, rfl, v, b, rfl, hv, ⟨_, rfl, ?_⟩⟩
    cases hv with
    | other ty no => exact ⟨_, rfl, err_made fun d H5 hd s5 hn => eD rfl d H5 hd s5 hn⟩
    | str z =>
      by_cases hz : z ∈ doors
      · rw [decide_eq_true hz]
        obtain ⟨i, hi, ez⟩ := List.getElem_of_mem hz
        have hi' : doors[i]? = some z := by rw [List.getElem?_eq_getElem hi, ez]
        have hw6 : ws.length = 6 := pr.length.trans e6
        refine ⟨_, rfl, p, C, dx, _, .ref l, rfl, hp, TB.cl, TB.nR, rfl, aD, l, _, ws, rfl, .inr ⟨T.sD _, hl, fun D hD => ?_⟩⟩
        refine lc_it (walk_zipT (K := K) (a := aD) (b := l) (xs := doors.map V.str) (ys := ws) (by rw [hw6]; rfl)) (fun k H' => H' D = some (.lst ((ws.set i u).take k)) ∧ Same H H') ?_ ?_ ?_ ?_
        · exact ⟨upd_same, same_new hD⟩
        · rintro k H' _ ⟨_, s'⟩
          exact ⟨T.sD _, s'.kt.sqT hl⟩
        · rintro k x H1 H2 hk ⟨h1, s1⟩ ⟨tu, n1, o1, rfl, ht, rfl, hn1, ho1⟩
          have nDt : D ≠ tu := ne_of_none h1 ht
          obtain ⟨dk, hdk, rfl⟩ : ∃ dk, doors[k]? = some dk ∧ n1 = V.str dk := by
            have hn1' : (doors.map V.str)[k]? = some n1 := hn1
            rw [List.getElem?_map] at hn1'
            cases e : doors[k]? with
            | none =>
              rw [e] at hn1'
              cases hn1'
            | some y =>
              rw [e] at hn1'
              exact ⟨y, rfl, (Option.some.inj hn1').symm⟩
          have ho1' : ws[k]? = some o1 := ho1
          have s2 : Same H (upd H1 tu (.tup [.str dk, o1])) := s1.trans (same_new ht)
          refine ⟨tu, _, rfl, SqT.of upd_same, rfl, .str dk, _, rfl, o1, _, rfl, rfl, rfl, ?_⟩
          have more : ∀ y : V, y = (if k = i then u else o1) → ∃ acc, upd H1 tu (.tup [.str dk, o1]) D = some (.lst acc) ∧ acc.length < sizeLine ∧ upd (upd H1 tu (.tup [.str dk, o1])) D (.lst (acc ++ [y])) D = some (.lst ((ws.set i u).take (k + 1))) ∧ Same H (upd (upd H1 tu (.tup [.str dk, o1])) D (.lst (acc ++ [y]))) := fun y ey => by
            refine ⟨_, by rw [upd_ne nDt]; exact h1, ?_, ?_, same_upd s2 hD⟩
            · rw [List.length_take, List.length_set, hw6]
              exact small1000 (by omega)
            · rw [upd_same, take_set ho1', ey]
          refine ⟨_, rfl, _, rfl, rfl, _, rfl, ?_⟩
          by_cases hki : k = i
          · subst hki
            have ed : dk = z := Option.some.inj (hdk.symm.trans hi')
            subst ed
            rw [decide_eq_true rfl]
            exact ⟨_, rfl, more u (by rw [if_pos rfl])⟩
          · have nd : ¬ V.str dk = V.str z := fun e => hki (doors_nd hdk (by rw [V.str.inj e]; exact hi'))
            rw [decide_eq_false nd]
            exact ⟨_, rfl, more o1 (by rw [if_neg hki])⟩
        · rintro H1 ⟨h1, s1⟩
          have full : (ws.set i u).take (doors.map V.str).length = ws.set i u := List.take_of_length_le (by rw [List.length_set, hw6]; exact Nat.le_refl 6)
          rw [full] at h1
          refine ⟨_, rfl, D, _, rfl, .inr (SqL.of h1), fun x dx hx hdx ne => ?_⟩
          have s2 : Same H (upd (upd H1 dx (.own x)) x (.ins C dx [])) := fun y o e => by
            rw [upd_ne (ne_of_none (s1 y o e) hx), upd_ne (ne_of_none (s1 y o e) hdx)]
            exact s1 y o e
          have hi6 : i < rs.length := by
            have : i < 6 := hi
            omega
          refine ⟨x, dx, ws.set i u, (rs.map fun _ => true).set i c, by rw [List.append_nil], by rw [List.length_set, hw6], upd_same, paired_set (ruleCl_same s2 hu) i (pair_map (fun _ _ q => ruleCl_same s2 q) (ruleCls_of pr hrs)), fun all H' l2 h3 h4 h5 h6 => ⟨rfl, ?_⟩, fun k hk _ d H' hd s3 hn => ?_⟩
          · have hc : c = true := all c (List.mem_of_getElem? (i := i) (by rw [List.getElem?_set_self (by rw [List.length_map]; exact hi6)]))
            subst hc
            obtain ⟨hr1, hr2⟩ := hur rfl
            have s4 : Same H H' := fun y o e => h6 y o (s2 y o e) (ne_of_none (s1 y o e) hx)
            exact q i z rfl hi' rfl x H' ⟨dx, l2, h3, ⟨l2, _, rfl, SqT.of h4, paired_set (s4.kt.rule hr1) i (s4.kt.rules pr)⟩, by rw [List.length_set, e6]⟩ s4
          · by_cases hki : k = i
            · subst hki
              rw [List.getElem?_set_self (by rw [List.length_map]; exact hi6)] at hk
              have ed : doors.getD k "" = z := by rw [List.getD_eq_getElem?_getD, hi']; rfl
              rw [ed] at hd
              exact eR k z rfl hi' (Option.some.inj hk) d H' hd (s2.trans s3) (s2.free hn)
            · rw [List.getElem?_set_ne (fun e => hki e.symm), List.getElem?_map] at hk
              cases e : rs[k]? with
              | none =>
                rw [e] at hk
                cases hk
              | some r =>
                rw [e] at hk
                cases hk
      · rw [decide_eq_false hz]
        exact ⟨_, rfl, err_made fun d H5 hd s5 hn => eD (decide_eq_false hz) d H5 hd s5 hn⟩
end
end Sh

namespace Sh
open PySem L2
section
variable {P : Program} {w : World} {K : PySem.W.Frag} {mg : Str → Option Value} {base : Heap} {aA aD : Addr}
/-! ### distinct doors -/
inductive DoorsCl (K : PySem.W.Frag) (H : Hp) : V → Bool → Prop
  | tup {a : Addr} {xs : List V} {bs : List Bool} (h : SqT K H a xs) (few : xs.length ≤ 1000) (p : Paired (Among K H doors) xs bs) : DoorsCl K H (.ref a) (bs.all id && decide xs.Nodup)
  | other {v : V} {t : Value} (ty : TyX K H v t) (no : PySem.W.kitOne K t (.type "tuple") = some false) : DoorsCl K H v false
def spDist (K : PySem.W.Frag) : Sp := fun vs H Q _ => ∃ v b, vs = [v] ∧ DoorsCl K H v b ∧ ∀ H', Same H H' → Q (.bl b) H'
abbrev s_dist : Stmt := top 12
theorem sc_dist : FnScope ["value", "part"] ["value"] (defScope s_dist) := ⟨rfl, rfl, rfl, by decide +kernel, rfl, by decide +kernel, by decide +kernel⟩
theorem ok_dist {f fA : Addr} {fd fdA : FuncData} (F : Fun K "are_distinct_doors" "are_distinct_doors" s_dist f fd) (B : TxtB mg) (bset : mg "set" = none) (T : TxtK K mg aA aD) (gA : mg "is_door" = some (.ref fA)) (FA : Fun K "is_door" "is_door" s_isdoor fA fdA) (bA : Binds K fdA ["value"] []) :
    FnOk P w K mg base CX0 2 f fd ["value"] (spDist K) := by
  have GA : FnOk P w K mg base CX0 1 fA fdA ["value"] (spAmong K doors) := ok_isdoor FA B T
  refine F.ok sc_dist (fun vs H Q E h => ?_) (fun cdv A outer s H vs Q E hr h => ?_)
  · obtain ⟨v, b, rfl, _⟩ := h
    rfl
  · obtain ⟨v, b, rfl, hv, q⟩ := h
    refine ⟨_, (pss_cons (ps_if (PW.pt (pw_or (pt_not (pt_val (pe_callB call_isi (by rfl) B.b_isinstance (by decide +kernel) (pa_cons (pv 0) (pa_cons (pe_bltn (v := .ty "tuple") (by rfl) B.b_tuple (by decide +kernel) rfl) pa_nil))))) (pw_or1 (pt_not (pt_val (pe_callB (cr_all rfl) (by rfl) B.b_all (by decide +kernel) (pa_cons (pe_lc (own := [("part", 1)]) (g := (gName 1)) (by rfl) sc_dist.nd (pi_tup (pv 0)) (blkOk_by (own := [("part", 1)]) (N := ["value", "part"]) (sc := defScope s_dist) (by decide +kernel)) (fun _ _ _ _ _ => (pg_name (i := 1) sc_dist.nd rfl (Or.inl rfl))) (fun _ _ _ _ _ => pts_nil) (fun _ _ _ _ _ => (pe_call GA hr (by rfl) gA FA.kp bA .nil pass0 (pa_cons (pv 1) pa_nil)))) pa_nil))))))) (pss_one (ps_ret pe_bl)) pss_nil)
  (pss_one (ps_ret (pe_cmpR op_eq (pe_lenSetT rfl (by rfl) B.b_len (by rfl) bset (pv 0)) (pe_callB call_len_seq (by rfl) B.b_len (by decide +kernel) (pa_cons (pv 0) pa_nil)) (nomark _))))), ?_⟩
    refine ⟨_, rfl, ?_⟩
    cases hv with
    | other ty no =>
      refine ⟨_, _, _, _, false, rfl, .ty "tuple", ty, no, ?_⟩
      exact ⟨_, rfl, q _ (Same.refl _)⟩
    | @tup a xs bs h few p =>
      refine ⟨_, _, _, _, true, rfl, .ty "tuple", sqT_tyX h, kit_ty (by decide +kernel), ?_⟩
      refine ⟨_, rfl, ?_⟩
      refine ⟨_, rfl, a, rfl, ⟨_, h⟩, fun D hD => ?_⟩
      refine lc_tup (K := K) (a := a) (xs := xs) (fun i H' => H' D = some (.lst ((bs.take i).map V.bl)) ∧ Same H H') ?_ ?_ ?_ ?_
      · exact ⟨upd_same, same_new hD⟩
      · intro i H' _ ⟨_, s'⟩
        exact sqT_same s' h
      · rintro i x H' hx ⟨hD', s'⟩
        obtain ⟨b, hb, hxb⟩ := pair_get1 p hx
        refine ⟨rfl, ?_⟩
        refine ⟨_, rfl, x, b, rfl, among_same s' hxb, ?_⟩
        refine ⟨_, hD', ?_, ?_, ?_⟩
        · rw [List.length_map, List.length_take]
          exact small1000 (by have := (List.getElem?_eq_some_iff.mp hx).1; omega)
        · rw [upd_same, List.take_add_one, hb]
          simp
        · exact same_upd s' hD
      · rintro H' ⟨hD', s'⟩
        refine ⟨D, bs, rfl, SqL.of (by rw [hD', p.length, List.take_length]), _, rfl, ?_⟩
        cases hb : bs.all id with
        | false =>
          have q' := q _ s'
          rw [hb] at q'
          exact q'
        | true =>
          obtain ⟨zs, ez, hz⟩ := among_true p hb
          subst ez
          have q' := q _ s'
          rw [hb, Bool.true_and] at q'
          refine ⟨_, rfl, a, zs, rfl, sqT_same s' h, by rw [List.length_map] at few; exact few, ?_⟩
          refine ⟨_, rfl, a, _, rfl, .inr (sqT_same s' h), rfl, ?_⟩
          have e : decide (V.int ((once (zs.map (Sum.inr : Str → Key))).length : Nat) = V.int ((zs.map V.str).length : Nat)) = decide (zs.map V.str).Nodup := by
            have h1 : (zs.map V.str).Nodup ↔ zs.Nodup := nd_map fun _ _ e => V.str.inj e
            rw [decide_eq_decide, h1, ← once_texts, List.length_map]
            constructor
            · intro z
              have := V.int.inj z
              omega
            · intro z
              rw [z]
          show Q (.bl (decide (V.int ((once (zs.map (Sum.inr : Str → Key))).length : Nat) = V.int ((zs.map V.str).length : Nat)))) H'
          rw [e]
          exact q'
/-! ### asking -/
structure OwnTxt (K : PySem.W.Frag) (mg : Str → Option Value) (x : Str) (C : Addr) : Prop where
  xP : PySem.W.excIn K C [.type "ValueError", .type "Exception", .type "BaseException", .type "object"] "ValueError.__new__" = true
  g : mg x = some (.ref C)
  k : PySem.W.keepIn K (.ref C) = true
  b : PySem.W.subIn K (.ref C) (.type "BaseException") = some true
  t : PySem.W.typeIn K (.ref C) = some (.type "type")
def asked (zs : List Str) (d : Str) (r : List Str) : List Str := if d ∈ zs then r ++ [("ask" : Str)] else r
def askedAll (zs : List Str) (rs : List (List Str)) : List (List Str) := List.zipWith (asked zs) doors rs
def spAsk (K : PySem.W.Frag) (C CN CR : Addr) : Sp := fun vs H Q E => ∃ (p : Addr) (v : V) (b : Bool) (zs : List Str) (rs : List (List Str)), vs = [.ref p, v] ∧ BookAt K C H p rs ∧ (∀ r ∈ rs, IsRule r) ∧ DoorsCl K H v b ∧
  (b = true → ∃ a : Addr, v = .ref a ∧ SqT K H a (zs.map V.str) ∧ ∀ z ∈ zs, z ∈ doors) ∧
  (b = false → ∀ H', Same H H' → E (.ref CN) none H') ∧
  (b = true → (∀ (i : Nat) (z : Str) (r : List Str), doors[i]? = some z → rs[i]? = some r → z ∈ zs → r.length = 6 → (∀ (j : Nat) (y : Str) (t : List Str), j < i → doors[j]? = some y → rs[j]? = some t → y ∈ zs → t.length < 6) →
      ∀ d H', H' d = some (.xd [("door", .str z)]) → Same H H' → H d = none → E (.ref CR) (some d) H') ∧
    ((∀ (i : Nat) (z : Str) (r : List Str), doors[i]? = some z → rs[i]? = some r → z ∈ zs → r.length < 6) → ∀ x H', BookAt K C H' x (askedAll zs rs) → Same H H' → Q (.ref x) H'))
theorem ruleCl_acts {H : Hp} {v : V} {r : List Str} (h : RuleAt K H v r) (ha : ∀ x ∈ r, x ∈ acts) : RuleCl K H v (decide (r.length ≤ 6)) := by
  obtain ⟨a, rfl, h⟩ := h
  have e : (decide ((r.map V.str).length ≤ 6) && (r.map fun z => decide (z ∈ acts)).all id) = decide (r.length ≤ 6) := by
    have all : (r.map fun z => decide (z ∈ acts)).all id = true := by
      rw [List.all_eq_true]
      intro b hb
      obtain ⟨z, hz, rfl⟩ := List.mem_map.mp hb
      exact decide_eq_true (ha z hz)
    rw [all, Bool.and_true, List.length_map]
  rw [← e]
  exact .tup h (sqT_tyX h) fun _ => among_strs acts r
theorem ruleCls_acts {H : Hp} : ∀ {ws : List V} {rs : List (List Str)}, Paired (RuleAt K H) ws rs → (∀ r ∈ rs, ∀ x ∈ r, x ∈ acts) → Paired (RuleCl K H) ws (rs.map fun r => decide (r.length ≤ 6))
  | _, _, .nil, _ => .nil
  | _, _, .cons a b, h => .cons (ruleCl_acts a (h _ (List.mem_cons_self ..))) (ruleCls_acts b fun r hr => h r (List.mem_cons_of_mem _ hr))
/-- Book of six tuples of actions, some of them perhaps too long -/
theorem book_gen {C CR x dx : Addr} {H : Hp} {ws : List V} {rs : List (List Str)} {R : VK} {E : XK} (hx : H x = none) (hdx : H dx = none) (pr : Paired (RuleAt K H) ws rs) (ha : ∀ r ∈ rs, ∀ x ∈ r, x ∈ acts) (h6 : rs.length = 6)
    (good : (∀ r ∈ rs, r.length ≤ 6) → ∀ H', BookAt K C H' x rs → Same H H' → R .non H')
    (bad : ∀ (i : Nat) (r : List Str), rs[i]? = some r → 6 < r.length → (∀ (j : Nat) (t : List Str), j < i → rs[j]? = some t → t.length ≤ 6) → ∀ d H', H' d = some (.xd [("door", .str (doors.getD i ""))]) → Same H H' → H d = none → E (.ref CR) (some d) H') :
    spBInit K C CR (.ref x :: ws) (upd (upd H dx (.own x)) x (.ins C dx [])) R E := by
  have s1 : Same H (upd (upd H dx (.own x)) x (.ins C dx [])) := fun b o e => by
    rw [upd_ne (ne_of_none e hx), upd_ne (ne_of_none e hdx)]
    exact e
  refine ⟨x, dx, ws, rs.map fun r => decide (r.length ≤ 6), rfl, by rw [pr.length, h6], upd_same, pair_map (fun _ _ q => ruleCl_same s1 q) (ruleCls_acts pr ha), fun all H' l h1 h2 h3 h4 => ?_, fun i hi hj d H' hd s2 hn => ?_⟩
  · have s2 : Same H H' := fun b o e => h4 b o (s1 b o e) (ne_of_none e hx)
    exact good (fun r hr => of_decide_eq_true (all _ (List.mem_map.mpr ⟨r, hr, rfl⟩))) H' ⟨dx, l, h1, ⟨l, ws, rfl, SqT.of h2, s2.kt.rules pr⟩, h6⟩ s2
  · rw [List.getElem?_map] at hi
    cases e : rs[i]? with
    | none =>
      rw [e] at hi
      cases hi
    | some r =>
      rw [e] at hi
      have hr := of_decide_eq_false (Option.some.inj hi)
      refine bad i r e (by omega) (fun j t lt et => ?_) d H' hd (s1.trans s2) (s1.free hn)
      have := hj j lt
      rw [List.getElem?_map, et] at this
      exact of_decide_eq_true (Option.some.inj this)
theorem asked_at {zs : List Str} {rs : List (List Str)} {i : Nat} {z : Str} {r : List Str} (hz : doors[i]? = some z) (hr : rs[i]? = some r) : (askedAll zs rs)[i]? = some (asked zs z r) := by
  unfold askedAll
  rw [List.getElem?_zipWith, hz, hr]
theorem asked_len {zs : List Str} {rs : List (List Str)} (h6 : rs.length = 6) : (askedAll zs rs).length = 6 := by
  unfold askedAll
  rw [List.length_zipWith, h6]
  rfl
abbrev s_ask : Stmt := inClass (top 13) 5
theorem sc_ask : FnScope ["self", "doors", "rules", "door", "rule"] ["self", "doors"] (defScope s_ask) := ⟨rfl, rfl, rfl, by decide +kernel, rfl, by decide +kernel, by decide +kernel⟩
theorem ok_ask {f C CN CR fS fI : Addr} {fd fdS fdI : FuncData} (F : Fun K "asking" "Book.asking" s_ask f fd) (B : TxtB mg) (T : TxtK K mg aA aD) (TB : TxtBook K mg C) (O : OwnTxt K mg "NoDoors" CN)
    (gS : mg "are_distinct_doors" = some (.ref fS)) (kS : PySem.W.keepIn K (.ref fS) = true) (bS : Binds K fdS ["value"] []) (GS : FnOk P w K mg base CX0 2 fS fdS ["value"] (spDist K))
    (MK : Mk K C fI) (GI : FnOk P w K mg base (L2.CX P w) 4 fI fdI pI (spBInit K C CR)) (b6 : Binds K fdI pI []) : FnOk P w K mg base (L2.CX P w) 6 f fd ["self", "doors"] (spAsk K C CN CR) := by
  refine F.okX sc_ask (fun vs H Q E h => ?_) (fun cdv A outer s H vs Q E hr h => ?_)
  · obtain ⟨p, v, b, zs, rs, rfl, _⟩ := h
    rfl
  · obtain ⟨p, v, b, zs, rs, rfl, hb, hrs, hv, hvz, eN, q⟩ := h
    have r2 : Room 2 _ := hr.mono (by decide)
    refine ⟨_, (pss_cons (ps_if (pt_not (pt_val (pe_call GS r2 (by rfl) gS kS bS .nil pass0 (pa_cons (pv 1) pa_nil)))) (pss_one (ps_raise rfl (takes_of rfl rfl rfl rfl) (pmk_own PySem.F.excBase_ValueError O.xP O.g O.k (raises_own O.b O.t) rfl))) pss_nil)
  (pss_cons (ps_setLc (i := 2) (own := [("door", 3), ("rule", 4)]) (g := (gTup K 2 (gCons (gName 3) (gCons (gName 4) gNil)))) (by rfl) sc_ask.nd rfl rfl (sw_true rfl rfl rfl (by decide +kernel)) (RZ.pi_zipA (by rfl) B.b_zip (pa_cons (pe_glob (v := .ref aD) (by rfl) T.g_DOORS rfl) (pa_cons (pe_fld (pv 0) rfl) pa_nil))) (blkOk_by (own := [("door", 3), ("rule", 4)]) (N := ["self", "doors", "rules", "door", "rule"]) (sc := defScope s_ask) (by decide +kernel)) (fun _ _ _ _ _ => (pg_tup (by rfl) (pgs_cons (pg_name (i := 3) sc_ask.nd rfl (Or.inl rfl)) (pgs_cons (pg_name (i := 4) sc_ask.nd rfl (Or.inl rfl)) pgs_nil)))) (fun _ _ _ _ _ => pts_nil) (fun _ _ _ _ _ => (pe_ifExp (pt_cmpR (r := rIn K false) op_in_seq (pv 3) (pv 1) (by rfl)) (pe_op (r := rCatA K) op_catA (pv 4) (pe_tup (pa_cons pe_str pa_nil))) (pv 4))))
  (pss_one (ps_ret (pe_makeS MK GI hr (by rfl) TB.g b6 .nil (passes_call (takes_of rfl rfl rfl rfl) fun _ _ _ _ h => h) (pv 2)))))), ?_⟩
    obtain ⟨dx, l, hp, ⟨l', ws, el, hl, pr⟩, e6⟩ := id hb
    cases el
    refine ⟨_, rfl, v, b, rfl, hv, fun H0 s0 => ⟨_, rfl, ?_⟩⟩
    cases b with
    | false => exact eN rfl H0 s0
    | true =>
      obtain ⟨a, ev, hz, hsub⟩ := hvz rfl
      subst ev
      obtain ⟨qfull, qgood⟩ := q rfl
      have hw6 : ws.length = 6 := pr.length.trans e6
      refine ⟨_, rfl, p, C, dx, _, .ref l, rfl, s0 _ _ hp, TB.cl, TB.nR, rfl, aD, l, _, ws, rfl, .inr ⟨T.sD _, sqT_same s0 hl, fun D hD => ?_⟩⟩
      refine lc_it (walk_zipT (K := K) (a := aD) (b := l) (xs := doors.map V.str) (ys := ws) (by rw [hw6]; rfl)) (fun k H' => ∃ us, H' D = some (.lst us) ∧ Paired (RuleAt K H') us ((askedAll zs rs).take k) ∧ Same H0 H') ?_ ?_ ?_ ?_
      · exact ⟨[], upd_same, .nil, same_new hD⟩
      · rintro k H' _ ⟨_, _, _, s'⟩
        exact ⟨T.sD _, sqT_same (s0.trans s') hl⟩
      · rintro k x H1 H2 hk ⟨us, h1, p1, s1⟩ ⟨tu, n1, o1, rfl, ht, rfl, hn1, ho1⟩
        have nDt : D ≠ tu := ne_of_none h1 ht
        obtain ⟨dk, hdk, rfl⟩ : ∃ dk, doors[k]? = some dk ∧ n1 = V.str dk := by
          have hn1' : (doors.map V.str)[k]? = some n1 := hn1
          rw [List.getElem?_map] at hn1'
          cases e : doors[k]? with
          | none =>
            rw [e] at hn1'
            cases hn1'
          | some y =>
            rw [e] at hn1'
            exact ⟨y, rfl, (Option.some.inj hn1').symm⟩
        have ho1' : ws[k]? = some o1 := ho1
        obtain ⟨r1, hr1, ro1⟩ := pair_get1 pr ho1'
        have tk : (askedAll zs rs).take (k + 1) = (askedAll zs rs).take k ++ [asked zs dk r1] := by
          rw [List.take_add_one, asked_at hdk hr1]
          rfl
        have s2 : Same H0 (upd H1 tu (.tup [.str dk, o1])) := s1.trans (same_new ht)
        have ulen : us.length < sizeLine := by
          rw [p1.length, List.length_take, asked_len e6]
          exact small1000 (by omega)
        refine ⟨tu, _, rfl, SqT.of upd_same, rfl, .str dk, _, rfl, o1, _, rfl, rfl, rfl, ?_⟩
        have more : ∀ (y : V) (H3 : Hp), Same (upd H1 tu (.tup [.str dk, o1])) H3 → RuleAt K H3 y (asked zs dk r1) → ∃ acc, H3 D = some (.lst acc) ∧ acc.length < sizeLine ∧ ∃ us, upd H3 D (.lst (acc ++ [y])) D = some (.lst us) ∧
            Paired (RuleAt K (upd H3 D (.lst (acc ++ [y])))) us ((askedAll zs rs).take (k + 1)) ∧ Same H0 (upd H3 D (.lst (acc ++ [y]))) := fun y H3 s3 ry => by
          have h3 : H3 D = some (.lst us) := s3 _ _ (by rw [upd_ne nDt]; exact h1)
          refine ⟨us, h3, ulen, _, upd_same, ?_, same_upd (s2.trans s3) hD⟩
          rw [tk]
          exact (kt_lst h3).rules (pair_snoc ry (((same_new ht).trans s3).kt.rules p1))
        refine ⟨_, rfl, _, rfl, a, zs.map V.str, rfl, .inr (sqT_same (s0.trans s2) hz), rfl, flat_strs zs, ?_⟩
        have e1 : inV (.str dk) (zs.map V.str) = decide (dk ∈ zs) := inV_strs dk zs
        show ∃ c, V.bl (inV (.str dk) (zs.map V.str)) = V.bl c ∧ _
        rw [e1]
        refine ⟨_, rfl, ?_⟩
        by_cases hm : dk ∈ zs
        · rw [decide_eq_true hm]
          obtain ⟨ao, rfl, so⟩ := ro1
          refine ⟨_, rfl, by show 1 ≤ sizeLine; decide, fun tt htt => ?_⟩
          have s3 := same_new (o := .tup [V.str "ask"]) htt
          have len1 : r1.length ≤ 6 := (hrs r1 (List.mem_of_getElem? hr1)).1
          refine ⟨ao, tt, r1.map V.str, [V.str "ask"], rfl, rfl, sqT_same ((s0.trans s2).trans s3) so, SqT.of upd_same, ?_, fun e => ?_, (fun _ e => by cases e), fun _ _ pn hpn => ?_⟩
          · rw [List.length_map]
            exact Nat.le_of_lt (small1000 (show r1.length + 1 ≤ 1000 by omega))
          · have er : r1 = [] := by
              cases r1 with
              | nil => rfl
              | cons _ _ => cases e
            refine more _ _ s3 ⟨tt, rfl, SqT.of ?_⟩
            rw [upd_same, er]
            unfold asked
            rw [if_pos hm]
            rfl
          · refine more _ _ (s3.trans (same_new hpn)) ⟨pn, rfl, SqT.of ?_⟩
            rw [upd_same]
            unfold asked
            rw [if_pos hm, List.map_append]
            rfl
        · rw [decide_eq_false hm]
          refine ⟨_, rfl, more _ _ (Same.refl _) ?_⟩
          unfold asked
          rw [if_neg hm]
          exact (s0.trans s2).kt.rule ro1
      · rintro H1 ⟨us, h1, p1, s1⟩
        have full : (askedAll zs rs).take (doors.map V.str).length = askedAll zs rs := List.take_of_length_le (by rw [asked_len e6]; exact Nat.le_refl 6)
        rw [full] at p1
        have s2 := s0.trans s1
        refine ⟨_, rfl, D, us, rfl, .inr (SqL.of h1), fun x dx hx hdx ne => ?_⟩
        rw [List.append_nil]
        have at_ : ∀ {i : Nat} {t : List Str}, (askedAll zs rs)[i]? = some t → ∃ z r, doors[i]? = some z ∧ rs[i]? = some r ∧ t = asked zs z r := fun {i t} e => by
          have lt : i < 6 := by
            have := (List.getElem?_eq_some_iff.mp e).1
            rw [asked_len e6] at this
            exact this
          have h1 : doors[i]? = some (doors[i]'lt) := List.getElem?_eq_getElem lt
          have h2 : rs[i]? = some (rs[i]'(by omega)) := List.getElem?_eq_getElem (by omega)
          refine ⟨_, _, h1, h2, ?_⟩
          rw [asked_at h1 h2] at e
          exact (Option.some.inj e).symm
        refine book_gen hx hdx p1 (fun r hr y hy => ?_) (asked_len e6) (fun all H' hbk s3 => ⟨rfl, ?_⟩) (fun i t et lt before d H' hd s3 hn => ?_)
        · obtain ⟨i, hi, e⟩ := List.getElem_of_mem hr
          obtain ⟨z, r0, hz0, hr0, er⟩ := at_ (i := i) (t := r) (by rw [List.getElem?_eq_getElem hi, e])
          have h0 := (hrs r0 (List.mem_of_getElem? hr0)).2
          rw [er] at hy
          unfold asked at hy
          split at hy
          · rcases List.mem_append.mp hy with hy | hy
            · exact h0 y hy
            · rw [List.mem_singleton.mp hy]
              decide
          · exact h0 y hy
        · refine qgood (fun i z r hz0 hr0 hm => ?_) x H' hbk (s2.trans s3)
          have := all _ (List.mem_of_getElem? (asked_at (zs := zs) hz0 hr0))
          unfold asked at this
          rw [if_pos hm, List.length_append, List.length_singleton] at this
          omega
        · obtain ⟨z, r, hz0, hr0, er⟩ := at_ et
          have l6 := (hrs r (List.mem_of_getElem? hr0)).1
          rw [er] at lt
          unfold asked at lt
          by_cases hm : z ∈ zs
          · rw [if_pos hm, List.length_append, List.length_singleton] at lt
            have ed : doors.getD i "" = z := by rw [List.getD_eq_getElem?_getD, hz0]; rfl
            rw [ed] at hd
            refine qfull i z r hz0 hr0 hm (by omega) (fun j y t lj hy ht hmj => ?_) d H' hd (s2.trans s3) (s2.free hn)
            have := before j _ lj (asked_at (zs := zs) hy ht)
            unfold asked at this
            rw [if_pos hmj, List.length_append, List.length_singleton] at this
            omega
          · rw [if_neg hm] at lt
            omega
end
end Sh

namespace Sh
open PySem L2
section
variable {P : Program} {w : World} {K : PySem.W.Frag} {mg : Str → Option Value} {base : Heap} {aA aD : Addr}
/-! ### == of books -/
structure InsTxt (K : PySem.W.Frag) (C : Addr) : Prop where
  ha : PySem.W.findIn K (.ref C) "__class__" = some (some (.builtin "object.__class__"))
  hn : PySem.W.specialIn K (.builtin "object.__class__") "__get__" = some (some (.builtin "getset_descriptor.__get__"))
  ht : PySem.W.takesIn K (.builtin "object.__class__") = some true
  hm : PySem.W.mroIn K C (.type "object") = some true
  self : PySem.W.kitOne K (.ref C) (.ref C) = some true
def spEqB (K : PySem.W.Frag) (C : Addr) : Sp := fun vs H Q _ => ∃ (a b : Addr) (r1 r2 : List (List Str)), vs = [.ref a, .ref b] ∧ BookAt K C H a r1 ∧ BookAt K C H b r2 ∧ Q (.bl (decide (r1 = r2))) H
abbrev s_eq : Stmt := inClass (top 13) 1
theorem sc_eq : FnScope ["self", "other"] ["self", "other"] (defScope s_eq) := ⟨rfl, rfl, rfl, by decide +kernel, rfl, by decide +kernel, by decide +kernel⟩
theorem ok_eq {f C : Addr} {fd : FuncData} (F : Fun K "__eq__" "Book.__eq__" s_eq f fd) (B : TxtB mg) (TB : TxtBook K mg C) (TI : InsTxt K C) : FnOk P w K mg base CX0 1 f fd ["self", "other"] (spEqB K C) := by
  refine F.ok sc_eq (fun vs H Q E h => ?_) (fun cdv A outer s H vs Q E hr h => ?_)
  · obtain ⟨a, b, r1, r2, rfl, _⟩ := h
    rfl
  · obtain ⟨a, b, r1, r2, rfl, ⟨dx, l, ha, h6a, _⟩, ⟨dy, m, hb, h6b, _⟩, q⟩ := h
    refine ⟨_, (pss_one (ps_ret (pe_and (pe_callB call_isi (by rfl) B.b_isinstance (by decide +kernel) (pa_cons (pv 1) (pa_cons (pe_glob (v := .ref C) (by rfl) TB.g rfl) pa_nil))) (pe_one (pe_cmpR (op_eqP hr.units) (pe_fld (pv 0) rfl) (pe_fld (pv 1) rfl) (nomark _)))))), ?_⟩
    refine ⟨_, rfl, _, _, _, _, true, rfl, .own C, .base (.ins hb TB.cl TI.ha TI.hn TI.ht TI.hm), TI.self, ?_⟩
    refine ⟨_, rfl, ?_⟩
    refine ⟨_, rfl, a, C, dx, _, .ref l, rfl, ha, TB.cl, TB.nR, rfl, _, rfl, b, C, dy, _, .ref m, rfl, hb, TB.cl, TB.nR, rfl, ?_⟩
    refine ⟨dSix r1, dSix r2, h6a.dp, h6b.dp, plain_six r1, plain_six r2, Nat.le_trans (depth_six r1) (by decide), ?_⟩
    rw [eqv_six]
    exact q
def rEqB (K : PySem.W.Frag) (C : Addr) : R2 := fun x y H Q => ∃ (a b : Addr) (r1 r2 : List (List Str)), x = .ref a ∧ y = .ref b ∧ BookAt K C H a r1 ∧ BookAt K C H b r2 ∧ Q (.bl (decide (r1 = r2))) H
theorem op_eqB {X : Cx} {CX : CXT} {n : Nat} {C f : Addr} {fd : FuncData} {ps : List Str} {E : XK} (hr : Room n X.A) (F : FnOk X.prog X.w X.K X.mg X.base CX n f fd ps (spEqB X.K C))
    (hs : PySem.W.findIn X.K (.ref C) "__eq__" = some (some (.ref f))) (hf : PySem.W.isFn X.K (.ref f) = true) (hb : Binds X.K fd ps []) (hx : Passes CX X E) : OpR X (compareOp .Eq) (rEqB X.K C) := by
  rintro pins s σ H x y v u Q I rx ry ⟨a, b, r1, r2, rfl, rfl, b1, b2, q⟩
  cases rx
  cases ry
  obtain ⟨_, _, ha, _⟩ := id b1
  obtain ⟨_, _, hb', _⟩ := id b2
  obtain ⟨_, J, _⟩ := ins_get I.hok ha
  obtain ⟨_, J', _⟩ := ins_get I.hok hb'
  obtain ⟨_, J, _⟩ := J.look
  obtain ⟨_, J', _⟩ := J'.look
  obtain ⟨m, hF⟩ := I.fr
  refine PySem.W.cmp_K (op := .Eq) (tb := .ref C) hr.units0 hF I.ok.mod.kin J J'.type (by simp [PySem.W.notFirst]) hs hf ?_
  refine wpAny_mono (run_fn (us := [.ref a, .ref b]) (vs := [.ref a, .ref b]) (Q := fun v H' => v = .bl (decide (r1 = r2)) ∧ H' = H) F hr hb .nil hx I (.cons rfl (.cons rfl .nil)) ⟨a, b, r1, r2, rfl, b1, b2, rfl, rfl⟩) (fun z s' hz => ?_) fun _ _ e => e
  obtain ⟨v, H', I', rv, rfl, rfl⟩ := hz
  cases rv
  exact ⟨.bl (decide (r1 = r2)), _, I', rfl, q⟩
/-! ### what comes of a deed, in plain words -/
inductive Out where
  | made (rs : List (List Str))
  | err (n z : Str)
def setAt (rs : List (List Str)) (z : Str) (r : List Str) : List (List Str) := List.zipWith (fun d o => if d = z then r else o) doors rs
def outWith (rs : List (List Str)) (z : Str) (r : List Str) : Out := if z ∈ doors then (if 6 < r.length then .err "NoRule" z else .made (setAt rs z r)) else .err "NoDoor" z
def fullOf (zs : List Str) (p : Str × List Str) : Option Str := if p.1 ∈ zs ∧ p.2.length = 6 then some p.1 else none
def fulls (rs : List (List Str)) (zs : List Str) : List Str := (doors.zip rs).filterMap (fullOf zs)
def outAsk (rs : List (List Str)) (zs : List Str) : Out := match fulls rs zs with
  | [] => .made (askedAll zs rs)
  | z :: _ => .err "NoRule" z
theorem set_at {rs : List (List Str)} {i : Nat} {z : Str} {r : List Str} (h6 : rs.length = 6) (hz : doors[i]? = some z) : rs.set i r = setAt rs z r := by
  refine List.ext_getElem? fun k => ?_
  unfold setAt
  rw [List.getElem?_zipWith]
  by_cases hk : k < 6
  · have h1 : doors[k]? = some (doors[k]'hk) := List.getElem?_eq_getElem hk
    have h2 : rs[k]? = some (rs[k]'(by omega)) := List.getElem?_eq_getElem (by omega)
    rw [h1, h2, List.getElem?_set]
    by_cases e : i = k
    · subst e
      have : doors[i]'hk = z := Option.some.inj (h1.symm.trans hz)
      rw [if_pos rfl, if_pos (by omega)]
      simp [this]
    · have : ¬ doors[k]'hk = z := fun q => e (doors_nd hz (by rw [h1, q]))
      rw [if_neg e, h2]
      simp [this]
  · rw [List.getElem?_eq_none (by rw [List.length_set]; omega), List.getElem?_eq_none (show doors.length ≤ k by show 6 ≤ k; omega)]
theorem first_of {α β : Type} {f : α → Option β} {z : β} {r : List β} : ∀ {l : List α}, l.filterMap f = z :: r → ∃ (i : Nat) (x : α), l[i]? = some x ∧ f x = some z ∧ ∀ (j : Nat) (y : α), j < i → l[j]? = some y → f y = none
  | [], h => by cases h
  | x :: l, h => by
    cases e : f x with
    | some y =>
      rw [List.filterMap_cons_some e] at h
      cases h
      exact ⟨0, x, rfl, e, fun j y lt => absurd lt (Nat.not_lt_zero _)⟩
    | none =>
      rw [List.filterMap_cons_none e] at h
      obtain ⟨i, x', h1, h2, h3⟩ := first_of h
      refine ⟨i + 1, x', h1, h2, fun j y lt hy => ?_⟩
      cases j with
      | zero =>
        cases hy
        exact e
      | succ j => exact h3 j y (Nat.lt_of_succ_lt_succ lt) hy
theorem none_of {α β : Type} {f : α → Option β} : ∀ {l : List α}, l.filterMap f = [] → ∀ x ∈ l, f x = none
  | [], _, x, hx => by cases hx
  | y :: l, h, x, hx => by
    cases e : f y with
    | some z =>
      rw [List.filterMap_cons_some e] at h
      cases h
    | none =>
      rw [List.filterMap_cons_none e] at h
      rcases List.mem_cons.mp hx with rfl | hx
      · exact e
      · exact none_of h x hx
theorem zip_at {rs : List (List Str)} {i : Nat} {z : Str} {r : List Str} : (doors.zip rs)[i]? = some (z, r) ↔ doors[i]? = some z ∧ rs[i]? = some r := by
  rw [List.getElem?_zip_eq_some]
/-- a pair (told, found) -/
def OutAt (K : PySem.W.Frag) (C : Addr) (H : Hp) (t : Addr) : Out → Prop
  | .made rs => ∃ x f, H t = some (.tup [.ref x, .ref f]) ∧ BookAt K C H x rs ∧ SqT K H f []
  | .err n z => ∃ f, H t = some (.tup [.non, .ref f]) ∧ SqT K H f [.str n, .str z]
def spCome (K : PySem.W.Frag) (C : Addr) : Sp := fun vs H Q _ => ∃ (p : Addr) (v u : V) (deed : Int) (rs : List (List Str)), vs = [.ref p, .int deed, v, u] ∧ BookAt K C H p rs ∧ (∀ r ∈ rs, IsRule r) ∧
  ((deed = 0 ∧ ∃ z r, v = .str z ∧ RuleAt K H u r ∧ (∀ x ∈ r, x ∈ acts) ∧ ∀ t H', OutAt K C H' t (outWith rs z r) → Same H H' → Q (.ref t) H') ∨
    (deed ≠ 0 ∧ ∃ (a : Addr) (zs : List Str), v = .ref a ∧ SqT K H a (zs.map V.str) ∧ zs.length ≤ 1000 ∧ (∀ z ∈ zs, z ∈ doors) ∧ zs.Nodup ∧ ∀ t H', OutAt K C H' t (outAsk rs zs) → Same H H' → Q (.ref t) H'))
structure ExTxt (K : PySem.W.Frag) (CD CR : Addr) : Prop where
  dd : PySem.W.exmOne K (.ref CD) (.ref CD) = some true
  rd : PySem.W.exmOne K (.ref CR) (.ref CD) = some false
  rr : PySem.W.exmOne K (.ref CR) (.ref CR) = some true
  xd : XfC K CD
  xr : XfC K CR
end
end Sh

namespace Sh
open PySem L2
section
variable {P : Program} {w : World} {K : PySem.W.Frag} {mg : Str → Option Value} {base : Heap} {aA aD : Addr}
abbrev s_come : Stmt := top 19
abbrev nCome : List Str := ["work", "deed", "thing", "fresh", "told", "found", "e"]
theorem sc_come : FnScope nCome ["work", "deed", "thing", "fresh"] (defScope s_come) := ⟨rfl, rfl, rfl, by decide +kernel, rfl, by decide +kernel, by decide +kernel⟩
def tbCome (K : PySem.W.Frag) (C CD CR CN : Addr) : WX → TS := fun W => tIfS (tTest (tOp rEq (tVar 1) (tC (.int 0)))) (tAsg (tMethT C "with_rule" (spWith K C CD CR) (WE W) (tVar 0) (tCons (tVar 2) (tCons (tVar 3) tNil))) (gName 4))
  (tAsg (tMethT C "asking" (spAsk K C CN CR) (WE W) (tVar 0) (tCons (tVar 2) tNil)) (gName 4))
def suCome (n : Str) (C : Addr) : Suite := fun a cls d => tAsg (tTup (tCons (tC (.str n)) (tCons (tXf a cls d C "door" (tVar 6)) tNil))) (gName 5)
theorem ok_come {f C CD CR CN fW fA fED fER : Addr} {fd fdW fdA : FuncData} (F : Fun K "_law_come" "_law_come" s_come f fd) (TB : TxtBook K mg C)
    (GW : FnOk P w K mg base (L2.CX P w) 6 fW fdW ["self", "door", "rule"] (spWith K C CD CR)) (mW : Meth K C "with_rule" fW) (bW : Binds K fdW ["self", "door", "rule"] [])
    (GA : FnOk P w K mg base (L2.CX P w) 6 fA fdA ["self", "doors"] (spAsk K C CN CR)) (mA : Meth K C "asking" fA) (bA : Binds K fdA ["self", "doors"] [])
    (TD : ErrTxt K mg "NoDoor" "door" CD fED) (TR : ErrTxt K mg "NoRule" "door" CR fER) (X : ExTxt K CD CR) : FnOk P w K mg base CX0 7 f fd ["work", "deed", "thing", "fresh"] (spCome K C) := by
  refine F.ok sc_come (fun vs H Q E h => ?_) (fun cdv A outer s H vs Q E hr h => ?_)
  · obtain ⟨p, v, u, d, rs, rfl, _⟩ := h
    rfl
  · obtain ⟨p, v, u, deed, rs, rfl, hb, hrs, q⟩ := h
    refine ⟨_, (pss_cons (ps_asg (pe_tup (pa_cons pe_non (pa_cons (pe_tup pa_nil) pa_nil))) (pg_tup (by rfl) (pgs_cons (pg_name (i := 4) sc_come.nd rfl (Or.inl rfl)) (pgs_cons (pg_name (i := 5) sc_come.nd rfl (Or.inl rfl)) pgs_nil))))
  (pss_cons (ps_try_all (i := 6) (tb := tbCome K C CD CR CN) (W0 := fun _ _ _ _ => False) (l := [(.ref CD, suCome "NoDoor" CD), (.ref CR, suCome "NoRule" CR)]) rfl rfl sc_come.nd rfl rfl takes0
      (fun W pn xe tk _ => pss_one (ps_if (pt_cmpR op_eq (pv 1) pe_int (nomark _)) (pss_one (ps_set (i := 4) sc_come.nd rfl (Or.inl rfl) (by exact (pe_methT (pv 0) TB.cl mW GW hr bW (fun σ => passAt tk σ) (by exact (pa_cons (pv 2) (pa_cons (pv 3) pa_nil)))))))
        (pss_one (ps_set (i := 4) sc_come.nd rfl (Or.inl rfl) (by exact (pe_methT (pv 0) TB.cl mA GA hr bA (fun σ => passAt tk σ) (by exact (pa_cons (pv 2) pa_nil))))))))
      (.cons ⟨rfl, by decide, .inl TD.g⟩ (fun a oe cls d pn hz hf => pss_one (ps_set (i := 5) sc_come.nd rfl (Or.inl rfl) (by exact (pe_tup (pa_cons pe_str (pa_cons (pe_xf X.xd TD.no hz hf (pv 6)) pa_nil))))))
        (.cons ⟨rfl, by decide, .inl TR.g⟩ (fun a oe cls d pn hz hf => pss_one (ps_set (i := 5) sc_come.nd rfl (Or.inl rfl) (by exact (pe_tup (pa_cons pe_str (pa_cons (pe_xf X.xr TR.no hz hf (pv 6)) pa_nil)))))) .nil)))
  (pss_one (ps_ret (pe_tup (pa_cons (pv 4) (pa_cons (pv 5) pa_nil))))))), ?_⟩
    refine ⟨Nat.zero_le _, fun f0 hf0 => ?_⟩
    refine ⟨by show 2 ≤ sizeLine; decide, fun t0 ht0 => ?_⟩
    have s0 := (same_new (o := .tup []) hf0).trans (same_new (o := .tup [.non, .ref f0]) ht0)
    have ef0 : upd (upd H f0 (.tup [])) t0 (.tup [.non, .ref f0]) f0 = some (.tup []) := same_new ht0 _ _ upd_same
    refine ⟨t0, _, rfl, SqT.of upd_same, rfl, ?_⟩
    refine ⟨_, _, rfl, _, _, rfl, rfl, ?_⟩
    dsimp only [tSeq]
    have hb0 := s0.kt.book hb
    obtain ⟨dx, l, hp, _, e6⟩ := id hb0
    refine ⟨_, rfl, rfl, _, rfl, ?_⟩
    refine ite2 (fun hd => ?_) (fun hd => ?_)
    · have d0 : deed = 0 := V.int.inj (of_decide_eq_true hd)
      rcases q with ⟨_, z, r, rfl, hu, hact, q⟩ | ⟨n0, _⟩
      · refine ⟨_, rfl, p, dx, _, rfl, hp, rfl, _, rfl, _, rfl, p, .str z, u, _, _, r, rs, rfl, hb0, hrs, .str z, ruleCl_acts (s0.kt.rule hu) hact, fun e => ⟨s0.kt.rule hu, of_decide_eq_true e, hact⟩, fun en d H' hx s1 hn => ?_, fun i z' ez hz en d H' hx s1 hn => ?_, fun i z' ez hz ir x H' hbk s1 => ?_⟩
        · refine ⟨true, X.dd, fun _ a ha => ?_, fun e => by cases e⟩
          refine ⟨_, rfl, rfl, rfl, d, _, .str z, rfl, hx, rfl, by show 2 ≤ sizeLine; decide, fun g hg => ?_⟩
          refine ⟨_, rfl, _, rfl, by show 2 ≤ sizeLine; decide, fun t ht => ?_⟩
          refine q t _ ?_ (((s0.trans s1).trans (same_new hg)).trans (same_new ht))
          unfold outWith
          rw [if_neg (of_decide_eq_false en)]
          exact ⟨g, upd_same, SqT.of (same_new ht _ _ upd_same)⟩
        · cases ez
          refine ⟨false, X.rd, (fun e => by cases e), fun _ => ⟨true, X.rr, fun _ a ha => ?_, fun e => by cases e⟩⟩
          refine ⟨_, rfl, rfl, rfl, d, _, .str z, rfl, hx, rfl, by show 2 ≤ sizeLine; decide, fun g hg => ?_⟩
          refine ⟨_, rfl, _, rfl, by show 2 ≤ sizeLine; decide, fun t ht => ?_⟩
          refine q t _ ?_ (((s0.trans s1).trans (same_new hg)).trans (same_new ht))
          have := of_decide_eq_false en
          unfold outWith
          rw [if_pos (List.mem_of_getElem? hz), if_pos (by omega)]
          exact ⟨g, upd_same, SqT.of (same_new ht _ _ upd_same)⟩
        · cases ez
          refine ⟨_, rfl, _, rfl, by show 2 ≤ sizeLine; decide, fun t ht => ?_⟩
          refine q t _ ?_ ((s0.trans s1).trans (same_new ht))
          have := of_decide_eq_true ir
          unfold outWith
          rw [if_pos (List.mem_of_getElem? hz), if_neg (by omega), ← set_at e6 hz]
          exact ⟨x, f0, upd_same, (same_new ht).kt.book hbk, SqT.of (same_new ht _ _ (s1 _ _ ef0))⟩
      · exact absurd d0 n0
    · have d0 : deed ≠ 0 := fun e => hd (by rw [e]; exact decide_eq_true rfl)
      rcases q with ⟨e0, _⟩ | ⟨_, a, zs, rfl, hz, few, hsub, nd, q⟩
      · exact absurd e0 d0
      · have hz0 := sqT_same s0 hz
        have cl : DoorsCl K (upd (upd H f0 (.tup [])) t0 (.tup [.non, .ref f0])) (.ref a) _ := .tup hz0 (by rw [List.length_map]; exact few) (among_strs doors zs)
        have ct : ((zs.map fun z => decide (z ∈ doors)).all id && decide (zs.map V.str).Nodup) = true := by
          rw [Bool.and_eq_true, List.all_eq_true]
          refine ⟨fun b hb => ?_, decide_eq_true ((nd_map fun _ _ e => V.str.inj e).mpr nd)⟩
          obtain ⟨z, hz, rfl⟩ := List.mem_map.mp hb
          exact decide_eq_true (hsub z hz)
        rw [ct] at cl
        refine ⟨_, rfl, p, dx, _, rfl, hp, rfl, _, rfl, p, .ref a, true, zs, rs, rfl, hb0, hrs, cl, fun _ => ⟨a, rfl, hz0, hsub⟩, (fun e => by cases e), fun _ => ?_⟩
        refine ⟨fun i z r hdz hrz hm len before d H' hx s1 hn => ?_, fun all x H' hbk s1 => ?_⟩
        · refine ⟨false, X.rd, (fun e => by cases e), fun _ => ⟨true, X.rr, fun _ a ha => ?_, fun e => by cases e⟩⟩
          refine ⟨_, rfl, rfl, rfl, d, _, .str z, rfl, hx, rfl, by show 2 ≤ sizeLine; decide, fun g hg => ?_⟩
          refine ⟨_, rfl, _, rfl, by show 2 ≤ sizeLine; decide, fun t ht => ?_⟩
          refine q t _ ?_ (((s0.trans s1).trans (same_new hg)).trans (same_new ht))
          have eo : outAsk rs zs = .err "NoRule" z := by
            unfold outAsk
            cases ef : fulls rs zs with
            | nil =>
              have := none_of ef (z, r) (List.mem_of_getElem? (zip_at.mpr ⟨hdz, hrz⟩))
              unfold fullOf at this
              rw [if_pos ⟨hm, len⟩] at this
              cases this
            | cons z' rest =>
              obtain ⟨j, ⟨y, t'⟩, h1, h2, h3⟩ := first_of ef
              obtain ⟨hy, ht'⟩ := zip_at.mp h1
              unfold fullOf at h2
              split at h2
              · rename_i c
                have ey := Option.some.inj h2
                have ij : i = j := by
                  rcases Nat.lt_trichotomy i j with lt | e | lt
                  · have := h3 i (z, r) lt (zip_at.mpr ⟨hdz, hrz⟩)
                    unfold fullOf at this
                    rw [if_pos ⟨hm, len⟩] at this
                    cases this
                  · exact e
                  · have := before j y t' lt hy ht' c.1
                    have c2 := c.2
                    dsimp only at c2
                    omega
                subst ij
                have : y = z := Option.some.inj (hy.symm.trans hdz)
                rw [← ey]
                show Out.err "NoRule" y = _
                rw [this]
              · cases h2
          rw [eo]
          exact ⟨g, upd_same, SqT.of (same_new ht _ _ upd_same)⟩
        · refine ⟨_, rfl, _, rfl, by show 2 ≤ sizeLine; decide, fun t ht => ?_⟩
          refine q t _ ?_ ((s0.trans s1).trans (same_new ht))
          have eo : outAsk rs zs = .made (askedAll zs rs) := by
            unfold outAsk
            cases ef : fulls rs zs with
            | nil => rfl
            | cons z' rest =>
              obtain ⟨j, ⟨y, t'⟩, h1, h2, h3⟩ := first_of ef
              obtain ⟨hy, ht'⟩ := zip_at.mp h1
              unfold fullOf at h2
              split at h2
              · rename_i c
                have := all j y t' hy ht' c.1
                have c2 := c.2
                dsimp only at c2
                omega
              · cases h2
          rw [eo]
          exact ⟨x, f0, upd_same, (same_new ht).kt.book hbk, SqT.of (same_new ht _ _ (s1 _ _ ef0))⟩
end
end Sh

namespace Sh
open PySem L2
section
variable {P : Program} {w : World} {K : PySem.W.Frag} {mg : Str → Option Value} {base : Heap} {aA aD : Addr}
theorem sqL_same {H H' : Hp} (s : Same H H') {a : Addr} {xs : List V} (h : SqL K H a xs) : SqL K H' a xs := by
  rcases h with (h | ⟨o, h⟩) | h
  · exact .inl (.inl (s _ _ h))
  · exact .inl (.inr ⟨o, s _ _ h⟩)
  · exact .inr h
/-- what len tells of a list or tuple -/
abbrev rLenS (K : PySem.W.Frag) : List V → Hp → VK → Prop := fun xs H Q => ∃ p ys, xs = [.ref p] ∧ (SqL K H p ys ∨ SqT K H p ys) ∧ Q (.int ys.length) H
/-- a pair (due, error) -/
def DueAt (K : PySem.W.Frag) (H : Hp) (t : Addr) : Out → Prop
  | .made rs => ∃ x f, H t = some (.tup [x, .ref f]) ∧ SixAt K H x rs ∧ SqT K H f []
  | .err n z => ∃ f, H t = some (.tup [.non, .ref f]) ∧ SqT K H f [.str n, .str z]
def spDue (K : PySem.W.Frag) : Sp := fun vs H Q _ => ∃ (nl : Addr) (s v u : V) (deed : Int) (rs : List (List Str)), vs = [.ref nl, s, .int deed, v, u] ∧ SqL K H nl (doors.map V.str) ∧ SixAt K H s rs ∧ rs.length = 6 ∧ (∀ r ∈ rs, IsRule r) ∧
  ((deed = 0 ∧ ∃ z r, v = .str z ∧ RuleAt K H u r ∧ r.length ≤ 1000 ∧ ∀ t H', DueAt K H' t (outWith rs z r) → Same H H' → Q (.ref t) H') ∨
    (deed ≠ 0 ∧ ∃ (a : Addr) (zs : List Str), v = .ref a ∧ SqT K H a (zs.map V.str) ∧ ∀ t H', DueAt K H' t (outAsk rs zs) → Same H H' → Q (.ref t) H'))
theorem setAt_get {rs : List (List Str)} {z : Str} {r : List Str} {i : Nat} {d : Str} {o : List Str} (hd : doors[i]? = some d) (ho : rs[i]? = some o) : (setAt rs z r)[i]? = some (if d = z then r else o) := by
  unfold setAt
  rw [List.getElem?_zipWith, hd, ho]
theorem setAt_len {rs : List (List Str)} {z : Str} {r : List Str} (h6 : rs.length = 6) : (setAt rs z r).length = 6 := by
  unfold setAt
  rw [List.length_zipWith, h6]
  rfl
/-- a new tuple of six -/
theorem six_made {H0 H1 : Hp} {D l : Addr} {us : List V} {rs : List (List Str)} (s : Same H0 H1) (h : H1 D = some (.lst us)) (p : Paired (RuleAt K H1) us rs) (hl : H1 l = none) : SixAt K (upd H1 l (.tup us)) (.ref l) rs ∧ Same H0 (upd H1 l (.tup us)) :=
  ⟨⟨l, us, rfl, SqT.of upd_same, (same_new hl).kt.rules p⟩, s.trans (same_new hl)⟩
abbrev s_due : Stmt := top 20
abbrev nDue : List Str := ["names", "six", "deed", "thing", "fresh", "k", "full"]
theorem sc_due : FnScope nDue ["names", "six", "deed", "thing", "fresh"] (defScope s_due) := ⟨rfl, rfl, rfl, by decide +kernel, rfl, by decide +kernel, by decide +kernel⟩
theorem fulls_step {rs : List (List Str)} {zs : List Str} {i : Nat} {d : Str} {o : List Str} (hd : doors[i]? = some d) (ho : rs[i]? = some o) : ((doors.zip rs).take (i + 1)).filterMap (fullOf zs) = ((doors.zip rs).take i).filterMap (fullOf zs) ++ (if d ∈ zs ∧ o.length = 6 then [d] else []) := by
  rw [List.take_add_one, zip_at.mpr ⟨hd, ho⟩, List.filterMap_append]
  congr 1
  show List.filterMap (fullOf zs) [(d, o)] = _
  by_cases c : d ∈ zs ∧ o.length = 6
  · rw [if_pos c, List.filterMap_cons_some (b := d) (by unfold fullOf; exact if_pos c)]
    rfl
  · rw [if_neg c, List.filterMap_cons_none (by unfold fullOf; exact if_neg c)]
    rfl
theorem ok_due {f : Addr} {fd : FuncData} (F : Fun K "_law_due" "_law_due" s_due f fd) (T : TxtB mg) : FnOk P w K mg base CX0 1 f fd ["names", "six", "deed", "thing", "fresh"] (spDue K) := by
  refine F.ok sc_due (fun vs H Q E h => ?_) (fun cdv A outer s H vs Q E hr h => ?_)
  · obtain ⟨nl, s, v, u, d, rs, rfl, _⟩ := h
    rfl
  · obtain ⟨nl, sx, v, u, deed, rs, rfl, hn, h6, e6, hrs, q⟩ := h
    refine ⟨_, (pss_cons (ps_if (PW.pt (pw_and (pt_cmpR op_eq (pv 2) pe_int (nomark _)) (pw_and1 (pt_cmpR op_notIn_seq (pv 3) (pv 0) (by rfl))))) (pss_one (ps_ret (pe_tup (pa_cons pe_non (pa_cons (pe_tup (pa_cons pe_str (pa_cons (pv 3) pa_nil))) pa_nil))))) pss_nil)
  (pss_cons (ps_if (PW.pt (pw_and (pt_cmpR op_eq (pv 2) pe_int (nomark _)) (pw_and1 (pt_cmpR op_gt (pe_callB call_len_seq (by rfl) T.b_len (by decide +kernel) (pa_cons (pv 4) pa_nil)) pe_int (nomark _))))) (pss_one (ps_ret (pe_tup (pa_cons pe_non (pa_cons (pe_tup (pa_cons pe_str (pa_cons (pv 3) pa_nil))) pa_nil))))) pss_nil)
  (pss_cons (ps_if (pt_cmpR op_eq (pv 2) pe_int (nomark _)) (pss_one (ps_ret (pe_tup (pa_cons (pe_callTy call_tuple_of (by rfl) T.b_tuple (by decide +kernel) (pa_cons (pe_lc (own := [("k", 5)]) (g := (gName 5)) (by rfl) sc_due.nd (pi_range1 (by rfl) T.b_range (pa_cons pe_int pa_nil)) (blkOk_by (own := [("k", 5)]) (N := nDue) (sc := defScope s_due) (by decide +kernel)) (fun _ _ _ _ _ => (pg_name (i := 5) sc_due.nd rfl (Or.inl rfl))) (fun _ _ _ _ _ => pts_nil) (fun _ _ _ _ _ => (pe_ifExp (pt_cmpR op_eq (pe_ix (r := rIxL K) ix_list (pv 0) (pv 5) (fun _ _ => rfl)) (pv 3) (nomark _)) (pv 4) (pe_ix (r := rIxT K) ix_tup (pv 1) (pv 5) (fun _ _ => rfl))))) pa_nil)) (pa_cons (pe_tup pa_nil) pa_nil))))) pss_nil)
  (pss_cons (ps_setLc (i := 6) (own := [("k", 5)]) (g := (gName 5)) (by rfl) sc_due.nd rfl rfl (sw_true rfl rfl rfl (by decide +kernel)) (pi_range1 (by rfl) T.b_range (pa_cons pe_int pa_nil)) (blkOk_by (own := [("k", 5)]) (N := nDue) (sc := defScope s_due) (by decide +kernel)) (fun _ _ _ _ _ => (pg_name (i := 5) sc_due.nd rfl (Or.inl rfl))) (fun _ _ _ _ _ => (pts_one (PW.pt (pw_and (pt_cmpR (r := rIn K false) op_in_seq (pe_ix (r := rIxL K) ix_list (pv 0) (pv 5) (fun _ _ => rfl)) (pv 3) (by rfl)) (pw_and1 (pt_cmpR op_eq (pe_callB (id := "len") (r := rLenS K) call_len_seq (by rfl) T.b_len (by decide +kernel) (pa_cons (pe_ix (r := rIxT K) ix_tup (pv 1) (pv 5) (fun _ _ => rfl)) pa_nil)) pe_int (nomark _))))))) (fun _ _ _ _ _ => (pe_ix (r := rIxL K) ix_list (pv 0) (pv 5) (fun _ _ => rfl))))
  (pss_cons (ps_if (pt_cmpR (op_neP hr.units) (pv 6) (pe_lst pa_nil) (nomark _)) (pss_one (ps_ret (pe_tup (pa_cons pe_non (pa_cons (pe_tup (pa_cons pe_str (pa_cons (pe_ix ix_list (pv 6) pe_int (fun _ _ => rfl)) pa_nil))) pa_nil))))) pss_nil)
  (pss_one (ps_ret (pe_tup (pa_cons (pe_callTy call_tuple_of (by rfl) T.b_tuple (by decide +kernel) (pa_cons (pe_lc (own := [("k", 5)]) (g := (gName 5)) (by rfl) sc_due.nd (pi_range1 (by rfl) T.b_range (pa_cons pe_int pa_nil)) (blkOk_by (own := [("k", 5)]) (N := nDue) (sc := defScope s_due) (by decide +kernel)) (fun _ _ _ _ _ => (pg_name (i := 5) sc_due.nd rfl (Or.inl rfl))) (fun _ _ _ _ _ => pts_nil) (fun _ _ _ _ _ => (pe_ifExp (pt_cmpR (r := rIn K false) op_in_seq (pe_ix (r := rIxL K) ix_list (pv 0) (pv 5) (fun _ _ => rfl)) (pv 3) (by rfl)) (pe_op (r := rCatA K) op_catA (pe_ix (r := rIxT K) ix_tup (pv 1) (pv 5) (fun _ _ => rfl)) (pe_tup (pa_cons pe_str pa_nil))) (pe_ix (r := rIxT K) ix_tup (pv 1) (pv 5) (fun _ _ => rfl))))) pa_nil)) (pa_cons (pe_tup pa_nil) pa_nil)))))))))), ?_⟩
    obtain ⟨sa, ws, rfl, hs, pr⟩ := id h6
    have hw6 : ws.length = 6 := pr.length.trans e6
    have at_ : ∀ {k : Nat}, k < 6 → ∃ d o u, doors[k]? = some d ∧ rs[k]? = some o ∧ ws[k]? = some u ∧ RuleAt K H u o := fun {k} hk => by
      have h1 : doors[k]? = some (doors[k]'hk) := List.getElem?_eq_getElem hk
      have h2 : rs[k]? = some (rs[k]'(by omega)) := List.getElem?_eq_getElem (by omega)
      obtain ⟨u, hu, ru⟩ := pair_get pr h2
      exact ⟨_, _, u, h1, h2, hu, ru⟩
    have door_at : ∀ {k : Nat} {d : Str}, doors[k]? = some d → atI (doors.map V.str) (0 + (k : Int)) = some (.str d) := fun {k d} hd => at_of (j := k) (by omega) (by rw [List.getElem?_map, hd]; rfl)
    -- deed == 0 and ..
    rcases q with ⟨d0, z, r, rfl, hu, hr6, q⟩ | ⟨d0, a, zs, rfl, hz, q⟩
    · subst d0
      obtain ⟨ua, rfl, hus⟩ := id hu
      refine ⟨_, rfl, rfl, _, rfl, ?_⟩
      refine ite2 (fun _ => ?_) (fun c => absurd rfl c)
      refine ⟨_, rfl, _, rfl, nl, _, rfl, .inl hn, rfl, flat_strs doors, ?_⟩
      have e1 : inV (.str z) (doors.map V.str) = decide (z ∈ doors) := inV_strs z doors
      show ∃ c, V.bl (!(inV (.str z) (doors.map V.str))) = V.bl c ∧ _
      rw [e1]
      refine ⟨_, rfl, ?_⟩
      refine ite2 (fun c => ?_) (fun c => ?_)
      · have hz : z ∉ doors := by
          rw [Bool.not_eq_true', decide_eq_false_iff_not] at c
          exact c
        refine ⟨_, rfl, by show 2 ≤ sizeLine; decide, fun g hg => ?_⟩
        refine ⟨by show 2 ≤ sizeLine; decide, fun t ht => ?_⟩
        refine q t _ ?_ ((same_new hg).trans (same_new ht))
        unfold outWith
        rw [if_neg hz]
        exact ⟨g, upd_same, SqT.of (same_new ht _ _ upd_same)⟩
      have hz : z ∈ doors := by
        rw [Bool.not_eq_true', decide_eq_false_iff_not, Classical.not_not] at c
        exact c
      refine ⟨_, rfl, rfl, _, rfl, ?_⟩
      refine ite2 (fun _ => ?_) (fun c => absurd rfl c)
      refine ⟨_, rfl, ua, _, rfl, .inr hus, _, _, rfl, rfl, _, rfl, ?_⟩
      rw [List.length_map]
      refine ite2 (fun c => ?_) (fun c => ?_)
      · have h6r : 6 < r.length := Int.ofNat_lt.mp (of_decide_eq_true c)
        refine ⟨_, rfl, by show 2 ≤ sizeLine; decide, fun g hg => ?_⟩
        refine ⟨by show 2 ≤ sizeLine; decide, fun t ht => ?_⟩
        refine q t _ ?_ ((same_new hg).trans (same_new ht))
        unfold outWith
        rw [if_pos hz, if_pos h6r]
        exact ⟨g, upd_same, SqT.of (same_new ht _ _ upd_same)⟩
      have h6r : ¬ 6 < r.length := fun e => c (decide_eq_true (Int.ofNat_lt.mpr e))
      refine ⟨_, rfl, rfl, _, rfl, ?_⟩
      refine ite2 (fun _ => ?_) (fun c => absurd rfl c)
      refine ⟨6, rfl, by decide, by decide, fun D hD => ?_⟩
      refine lc_range (lo := 0) (n := 6) (fun i H' => ∃ us, H' D = some (.lst us) ∧ Paired (RuleAt K H') us ((setAt rs z r).take i) ∧ Same H H') ?_ ?_ ?_
      · exact ⟨[], upd_same, .nil, same_new hD⟩
      · rintro i H1 hi ⟨us, h1, p1, s1⟩
        obtain ⟨d, o, uu, hd, ho, hu1, ru⟩ := at_ (k := i) hi
        have ulen : us.length < sizeLine := by
          rw [p1.length, List.length_take, setAt_len e6]
          exact small1000 (by omega)
        have more : ∀ (y : V), RuleAt K H1 y (if d = z then r else o) → ∃ acc, H1 D = some (.lst acc) ∧ acc.length < sizeLine ∧ ∃ us, upd H1 D (.lst (acc ++ [y])) D = some (.lst us) ∧ Paired (RuleAt K (upd H1 D (.lst (acc ++ [y])))) us ((setAt rs z r).take (i + 1)) ∧ Same H (upd H1 D (.lst (acc ++ [y]))) := fun y ry => by
          refine ⟨us, h1, ulen, _, upd_same, ?_, same_upd s1 hD⟩
          rw [List.take_add_one, setAt_get hd ho]
          exact (kt_lst h1).rules (pair_snoc ry p1)
        refine ⟨rfl, ?_⟩
        refine ⟨_, rfl, _, rfl, nl, _, _, _, rfl, rfl, sqL_same s1 hn, door_at hd, ?_⟩
        refine ⟨_, rfl, rfl, _, rfl, ?_⟩
        refine ite2 (fun e => ?_) (fun e => ?_)
        · have e' : d = z := V.str.inj (of_decide_eq_true e)
          refine ⟨_, rfl, more _ ?_⟩
          rw [if_pos e']
          exact s1.kt.rule hu
        · have e' : ¬ d = z := fun q => e (decide_eq_true (by rw [q]))
          refine ⟨_, rfl, _, rfl, sa, _, _, uu, rfl, rfl, sqT_same s1 hs, at_of (j := i) (by omega) hu1, more _ ?_⟩
          rw [if_neg e']
          exact s1.kt.rule ru
      · rintro H1 ⟨us, h1, p1, s1⟩
        have full : (setAt rs z r).take 6 = setAt rs z r := List.take_of_length_le (by rw [setAt_len e6]; exact Nat.le_refl 6)
        rw [full] at p1
        refine ⟨D, us, rfl, .inl ⟨SqL.of h1, fun l hl => ?_⟩⟩
        obtain ⟨m1, s2⟩ := six_made s1 h1 p1 hl
        refine ⟨Nat.zero_le _, fun g hg => ?_⟩
        refine ⟨by show 2 ≤ sizeLine; decide, fun t ht => ?_⟩
        refine q t _ ?_ ((s2.trans (same_new hg)).trans (same_new ht))
        unfold outWith
        rw [if_pos hz, if_neg h6r]
        exact ⟨_, g, upd_same, ((same_new hg).trans (same_new ht)).kt.six m1, SqT.of (same_new ht _ _ upd_same)⟩
    · have no : ¬ decide (V.int deed = V.int 0) = true := fun e => d0 (V.int.inj (of_decide_eq_true e))
      refine ⟨_, rfl, rfl, _, rfl, ?_⟩
      refine ite2 (fun c => absurd c no) (fun _ => ?_)
      refine ⟨_, rfl, rfl, _, rfl, ?_⟩
      refine ite2 (fun c => absurd c no) (fun _ => ?_)
      refine ⟨_, rfl, rfl, _, rfl, ?_⟩
      refine ite2 (fun c => absurd c no) (fun _ => ?_)
      -- full
      refine ⟨6, rfl, by decide, by decide, fun D hD => ?_⟩
      refine lc_range (lo := 0) (n := 6) (fun i H' => H' D = some (.lst ((((doors.zip rs).take i).filterMap (fullOf zs)).map V.str)) ∧ Same H H') ?_ ?_ ?_
      · exact ⟨upd_same, same_new hD⟩
      · rintro i H1 hi ⟨h1, s1⟩
        obtain ⟨d, o, uu, hd, ho, hu1, ru⟩ := at_ (k := i) hi
        refine ⟨rfl, ?_⟩
        refine ⟨_, rfl, _, rfl, nl, _, _, _, rfl, rfl, sqL_same s1 hn, door_at hd, ?_⟩
        refine ⟨_, rfl, a, zs.map V.str, rfl, .inr (sqT_same s1 hz), rfl, flat_strs zs, ?_⟩
        have e1 : inV (.str d) (zs.map V.str) = decide (d ∈ zs) := inV_strs d zs
        show ∃ c, V.bl (inV (.str d) (zs.map V.str)) = V.bl c ∧ _
        rw [e1]
        refine ⟨_, rfl, ?_⟩
        have skip : ¬ (d ∈ zs ∧ o.length = 6) → H1 D = some (.lst ((((doors.zip rs).take (i + 1)).filterMap (fullOf zs)).map V.str)) ∧ Same H H1 := fun no => by
          rw [fulls_step hd ho, if_neg no, List.append_nil]
          exact ⟨h1, s1⟩
        refine ite2 (fun c => ?_) (fun c => ?_)
        · have hm := of_decide_eq_true c
          obtain ⟨ao, rfl, so⟩ := id ru
          refine ⟨_, rfl, _, rfl, sa, _, _, _, rfl, rfl, sqT_same s1 hs, at_of (j := i) (by omega) hu1, ao, _, rfl, .inr (sqT_same s1 so), ?_⟩
          refine ⟨rfl, _, rfl, ?_⟩
          rw [List.length_map]
          refine ite2 (fun e => ?_) (fun e => ?_)
          · have ol : o.length = 6 := Int.ofNat.inj (V.int.inj (of_decide_eq_true e))
            refine ⟨_, rfl, _, rfl, nl, _, _, _, rfl, rfl, sqL_same s1 hn, door_at hd, ?_⟩
            refine ⟨_, h1, ?_, ?_, same_upd s1 hD⟩
            · rw [List.length_map]
              refine small1000 (Nat.le_trans (Nat.le_trans (List.length_filterMap_le _ _) (List.length_take_le _ _)) (by omega))
            · rw [fulls_step hd ho, if_pos ⟨hm, ol⟩, List.map_append]
              exact upd_same
          · exact skip fun q => e (decide_eq_true (by rw [q.2]; rfl))
        · exact skip fun q => c (decide_eq_true q.1)
      · rintro H1 ⟨h1, s1⟩
        have full : (doors.zip rs).take 6 = doors.zip rs := List.take_of_length_le (by rw [List.length_zip]; exact Nat.min_le_left _ _)
        rw [full] at h1
        have h1 : H1 D = some (.lst ((fulls rs zs).map V.str)) := h1
        dsimp only [gName, tSeq]
        refine ⟨_, rfl, Nat.zero_le _, fun l0 hl0 => ?_⟩
        have s2 := s1.trans (same_new (o := .lst []) hl0)
        have h2 := same_new (o := .lst []) hl0 _ _ h1
        have pl : PyData.plain (.list ((fulls rs zs).map PyData.str)) = true := plain_strs _
        have dl : PyData.depth (.list ((fulls rs zs).map PyData.str)) ≤ 64 := by
          show PyData.depthAll ((fulls rs zs).map PyData.str) + 1 ≤ 64
          rw [depth_strs]
          decide
        refine ⟨.list ((fulls rs zs).map PyData.str), .list [], .lst (SqL.of h2) (dp_strs _), .lst (SqL.of upd_same) .nil, pl, rfl, dl, ?_⟩
        have ev : PyData.eqv (.list ((fulls rs zs).map PyData.str)) (.list []) = decide (fulls rs zs = []) := by
          have e : PyData.eqv (.list ((fulls rs zs).map PyData.str)) (.list []) = PyData.eqvAll ((fulls rs zs).map PyData.str) (([] : List Str).map PyData.str) := by simp only [PyData.eqv, List.map_nil]
          rw [e, eqv_strs]
        rw [ev]
        refine ⟨_, rfl, ?_⟩
        refine ite2 (fun c => ?_) (fun c => ?_)
        · cases ef : fulls rs zs with
          | nil =>
            rw [ef] at c
            cases c
          | cons z rest =>
            rw [ef] at h2
            refine ⟨_, rfl, D, _, 0, .str z, rfl, rfl, SqL.of h2, at_of (j := 0) rfl rfl, ?_⟩
            refine ⟨by show 2 ≤ sizeLine; decide, fun g hg => ?_⟩
            refine ⟨by show 2 ≤ sizeLine; decide, fun t ht => ?_⟩
            refine q t _ ?_ ((s2.trans (same_new hg)).trans (same_new ht))
            unfold outAsk
            rw [ef]
            exact ⟨g, upd_same, SqT.of (same_new ht _ _ upd_same)⟩
        · have ef : fulls rs zs = [] := by
            rw [Bool.not_eq_true, Bool.not_eq_false'] at c
            exact of_decide_eq_true c
          refine ⟨6, rfl, by decide, by decide, fun D2 hD2 => ?_⟩
          refine lc_range (lo := 0) (n := 6) (fun i H' => ∃ us, H' D2 = some (.lst us) ∧ Paired (RuleAt K H') us ((askedAll zs rs).take i) ∧ Same H H') ?_ ?_ ?_
          · exact ⟨[], upd_same, .nil, s2.trans (same_new hD2)⟩
          · rintro i H3 hi ⟨us, h3, p3, s3⟩
            obtain ⟨d, o, uu, hd, ho, hu1, ru⟩ := at_ (k := i) hi
            have ulen : us.length < sizeLine := by
              rw [p3.length, List.length_take, asked_len e6]
              exact small1000 (by omega)
            have more : ∀ (y : V) (H4 : Hp), Same H3 H4 → RuleAt K H4 y (asked zs d o) → ∃ acc, H4 D2 = some (.lst acc) ∧ acc.length < sizeLine ∧ ∃ us, upd H4 D2 (.lst (acc ++ [y])) D2 = some (.lst us) ∧ Paired (RuleAt K (upd H4 D2 (.lst (acc ++ [y])))) us ((askedAll zs rs).take (i + 1)) ∧ Same H (upd H4 D2 (.lst (acc ++ [y]))) := fun y H4 s4 ry => by
              refine ⟨us, s4 _ _ h3, ulen, _, upd_same, ?_, same_upd (s3.trans s4) (s2.free hD2)⟩
              rw [List.take_add_one, asked_at hd ho]
              exact (kt_lst (s4 _ _ h3)).rules (pair_snoc ry (s4.kt.rules p3))
            refine ⟨rfl, ?_⟩
            refine ⟨_, rfl, _, rfl, nl, _, _, _, rfl, rfl, sqL_same s3 hn, door_at hd, ?_⟩
            refine ⟨_, rfl, a, zs.map V.str, rfl, .inr (sqT_same s3 hz), rfl, flat_strs zs, ?_⟩
            have e1 : inV (.str d) (zs.map V.str) = decide (d ∈ zs) := inV_strs d zs
            show ∃ c, V.bl (inV (.str d) (zs.map V.str)) = V.bl c ∧ _
            rw [e1]
            refine ⟨_, rfl, ?_⟩
            refine ite2 (fun e => ?_) (fun e => ?_)
            · have hm := of_decide_eq_true e
              obtain ⟨ao, rfl, so⟩ := id ru
              refine ⟨_, rfl, _, rfl, sa, _, _, _, rfl, rfl, sqT_same s3 hs, at_of (j := i) (by omega) hu1, ?_⟩
              refine ⟨by show 1 ≤ sizeLine; decide, fun tt htt => ?_⟩
              have s4 := same_new (o := .tup [V.str "ask"]) htt
              have len1 : o.length ≤ 6 := (hrs o (List.mem_of_getElem? ho)).1
              refine ⟨ao, tt, o.map V.str, [V.str "ask"], rfl, rfl, sqT_same (s3.trans s4) so, SqT.of upd_same, ?_, fun e => ?_, (fun _ e => by cases e), fun _ _ pn hpn => ?_⟩
              · rw [List.length_map]
                exact Nat.le_of_lt (small1000 (show o.length + 1 ≤ 1000 by omega))
              · have er : o = [] := by
                  cases o with
                  | nil => rfl
                  | cons _ _ => cases e
                refine more _ _ s4 ⟨tt, rfl, SqT.of ?_⟩
                rw [upd_same, er]
                unfold asked
                rw [if_pos hm]
                rfl
              · refine more _ _ (s4.trans (same_new hpn)) ⟨pn, rfl, SqT.of ?_⟩
                rw [upd_same]
                unfold asked
                rw [if_pos hm, List.map_append]
                rfl
            · have hm : ¬ d ∈ zs := fun q => e (decide_eq_true q)
              refine ⟨_, rfl, _, rfl, sa, _, _, uu, rfl, rfl, sqT_same s3 hs, at_of (j := i) (by omega) hu1, more _ _ (Same.refl _) ?_⟩
              unfold asked
              rw [if_neg hm]
              exact s3.kt.rule ru
          · rintro H3 ⟨us, h3, p3, s3⟩
            have full : (askedAll zs rs).take 6 = askedAll zs rs := List.take_of_length_le (by rw [asked_len e6]; exact Nat.le_refl 6)
            rw [full] at p3
            refine ⟨D2, us, rfl, .inl ⟨SqL.of h3, fun l hl => ?_⟩⟩
            obtain ⟨m1, s4⟩ := six_made s3 h3 p3 hl
            refine ⟨Nat.zero_le _, fun g hg => ?_⟩
            refine ⟨by show 2 ≤ sizeLine; decide, fun t ht => ?_⟩
            refine q t _ ?_ ((s4.trans (same_new hg)).trans (same_new ht))
            unfold outAsk
            rw [ef]
            exact ⟨_, g, upd_same, ((same_new hg).trans (same_new ht)).kt.six m1, SqT.of (same_new ht _ _ upd_same)⟩
end
end Sh

namespace Sh
open PySem L2
section
variable {P : Program} {w : World} {K : PySem.W.Frag} {mg : Str → Option Value} {base : Heap} {aA aD : Addr}
/-- a pair (book, rules) -/
def PairOk (K : PySem.W.Frag) (C : Addr) (H : Hp) (x : V) : Prop := ∃ t p v rs, x = .ref t ∧ H t = some (.tup [.ref p, v]) ∧ BookAt K C H p rs ∧ SixAt K H v rs ∧ ∀ r ∈ rs, IsRule r
theorem PairOk.kt {C : Addr} {H H' : Hp} {x : V} (k : KT H H') (h : PairOk K C H x) : PairOk K C H' x := by
  obtain ⟨t, p, v, rs, e, ht, hb, h6, hr⟩ := h
  exact ⟨t, p, v, rs, e, k _ _ (fun _ z => by cases z) ht, k.book hb, k.six h6, hr⟩
def spDone (K : PySem.W.Frag) (C : Addr) : Sp := fun vs H Q _ => ∃ (j nl hl : Addr) (n : Nat) (xs : List V), vs = [.ref j, .ref nl, .ref hl] ∧ JarAt H j n ∧ n ≤ 2 ^ 70 ∧ H nl = some (.lst (doors.map V.str)) ∧ H hl = some (.lst xs) ∧ xs ≠ [] ∧ xs.length ≤ 500 ∧ (∀ x ∈ xs, PairOk K C H x) ∧ nl ≠ j ∧ hl ≠ j ∧ nl ≠ hl ∧
  ∀ (H' : Hp) (ys : List V), H' hl = some (.lst ys) → ys ≠ [] → ys.length ≤ xs.length + 1 → (∀ y ∈ ys, PairOk K C H' y) → H' nl = some (.lst (doors.map V.str)) → (∀ b o, b ≠ j → b ≠ hl → H b = some o → H' b = some o) → Q (.bl true) H'
abbrev s_done : Stmt := top 21
abbrev nDone : List Str := ["jar", "names", "held", "work", "six", "deed", "fresh", "thing", "start", "many", "k", "told", "found", "due", "error"]
theorem sc_done : FnScope nDone ["jar", "names", "held"] (defScope s_done) := ⟨rfl, rfl, rfl, by decide +kernel, rfl, by decide +kernel, by decide +kernel⟩
theorem door_nth (z : Int) (h0 : 0 ≤ z) (h6 : z < 6) : ∃ d, doors[z.toNat]? = some d ∧ d ∈ doors ∧ atI (doors.map V.str) z = some (.str d) := by
  have h5 : z.toNat < doors.length := by show z.toNat < 6; omega
  refine ⟨doors[z.toNat], List.getElem?_eq_getElem h5, List.getElem_mem h5, at_of (j := z.toNat) (by omega) ?_⟩
  rw [List.getElem?_map, List.getElem?_eq_getElem h5]
  rfl
/-- the doors from a place on, in a ring -/
def ring (start : Nat) (k : Nat) : Str := doors.getD ((start + k) % 6) ""
theorem ring_mem (s k : Nat) : ring s k ∈ doors := by
  unfold ring
  rw [List.getD_eq_getElem?_getD, List.getElem?_eq_getElem (show (s + k) % 6 < doors.length from Nat.mod_lt _ (by decide))]
  exact List.getElem_mem _
theorem ring_inj {s i j : Nat} (hi : i < 6) (hj : j < 6) (e : ring s i = ring s j) : i = j := by
  unfold ring at e
  have h1 : (s + i) % 6 < doors.length := Nat.mod_lt _ (by decide)
  have h2 : (s + j) % 6 < doors.length := Nat.mod_lt _ (by decide)
  rw [List.getD_eq_getElem?_getD, List.getD_eq_getElem?_getD, List.getElem?_eq_getElem h1, List.getElem?_eq_getElem h2] at e
  have := doors_nd (List.getElem?_eq_getElem h1) ((List.getElem?_eq_getElem h2).trans (by rw [show doors[(s + j) % 6] = doors[(s + i) % 6] from e.symm]))
  omega
theorem ring_nd (s : Nat) {n : Nat} (hn : n ≤ 6) : ((List.range n).map (ring s)).Nodup := by
  refine List.pairwise_iff_getElem.mpr fun i j hi hj hij h => ?_
  rw [List.length_map, List.length_range] at hi hj
  rw [List.getElem_map, List.getElem_map, List.getElem_range, List.getElem_range] at h
  have := ring_inj (by omega) (by omega) h
  omega
theorem setAt_rule {rs : List (List Str)} {z : Str} {r : List Str} (h6 : rs.length = 6) (h : ∀ x ∈ rs, IsRule x) (hr : IsRule r) : ∀ x ∈ setAt rs z r, IsRule x := fun x hx => by
  obtain ⟨i, hi, e⟩ := List.getElem_of_mem hx
  rw [setAt_len h6] at hi
  have h1 : doors[i]? = some (doors[i]'hi) := List.getElem?_eq_getElem hi
  have h2 : rs[i]? = some (rs[i]'(by omega)) := List.getElem?_eq_getElem (by omega)
  have := setAt_get (z := z) (r := r) h1 h2
  rw [List.getElem?_eq_getElem (by rw [setAt_len h6]; exact hi), e] at this
  rw [Option.some.inj this]
  split
  · exact hr
  · exact h _ (List.getElem_mem _)
theorem asked_rule {rs : List (List Str)} {zs : List Str} (h6 : rs.length = 6) (h : ∀ x ∈ rs, IsRule x) (ef : fulls rs zs = []) : ∀ x ∈ askedAll zs rs, IsRule x := fun x hx => by
  obtain ⟨i, hi, e⟩ := List.getElem_of_mem hx
  rw [asked_len h6] at hi
  have h1 : doors[i]? = some (doors[i]'hi) := List.getElem?_eq_getElem hi
  have h2 : rs[i]? = some (rs[i]'(by omega)) := List.getElem?_eq_getElem (by omega)
  have := asked_at (zs := zs) h1 h2
  rw [List.getElem?_eq_getElem (by rw [asked_len h6]; exact hi), e] at this
  rw [Option.some.inj this]
  have hr := h _ (List.getElem_mem (l := rs) (by omega : i < rs.length))
  unfold asked
  split
  · rename_i hm
    have no := none_of ef _ (List.mem_of_getElem? (zip_at.mpr ⟨h1, h2⟩))
    have nl : ¬ (rs[i]'(by omega)).length = 6 := fun q => by
      unfold fullOf at no
      rw [if_pos ⟨hm, q⟩] at no
      cases no
    refine ⟨?_, fun y hy => ?_⟩
    · rw [List.length_append, List.length_singleton]
      have := hr.1
      omega
    · rcases List.mem_append.mp hy with hy | hy
      · exact hr.2 y hy
      · rw [List.mem_singleton.mp hy]
        decide
  · exact hr
/-- what is due, and what it is made of -/
def Deed (K : PySem.W.Frag) (H : Hp) (rs : List (List Str)) (deed : Int) (th fv : V) (o : Out) : Prop := ∃ r, RuleAt K H fv r ∧ r.length ≤ 20 ∧ (∀ x ∈ r, x ∈ acts) ∧
  ((deed = 0 ∧ ∃ z, th = .str z ∧ o = outWith rs z r) ∨ (deed ≠ 0 ∧ ∃ (a : Addr) (zs : List Str), th = .ref a ∧ SqT K H a (zs.map V.str) ∧ zs.length ≤ 6 ∧ (∀ z ∈ zs, z ∈ doors) ∧ zs.Nodup ∧ o = outAsk rs zs))
theorem Deed.kt {H H' : Hp} {rs : List (List Str)} {deed : Int} {th fv : V} {o : Out} (h : Deed K H rs deed th fv o) (k : KT H H') : Deed K H' rs deed th fv o := by
  obtain ⟨r, h1, h2, h3, h4⟩ := h
  refine ⟨r, k.rule h1, h2, h3, ?_⟩
  rcases h4 with h4 | ⟨d, a, zs, e, hz, q⟩
  · exact .inl h4
  · exact .inr ⟨d, a, zs, e, k.sqT hz, q⟩
theorem Deed.rule {H : Hp} {rs : List (List Str)} {deed : Int} {th fv : V} {o : Out} (h : Deed K H rs deed th fv o) (h6 : rs.length = 6) (hr : ∀ x ∈ rs, IsRule x) {rs' : List (List Str)} (e : o = .made rs') : rs'.length = 6 ∧ ∀ x ∈ rs', IsRule x := by
  obtain ⟨r, h1, h2, h3, ⟨d, z, _, eo⟩ | ⟨d, a, zs, _, hz, _, _, _, eo⟩⟩ := h
  · rw [e] at eo
    unfold outWith at eo
    split at eo
    · split at eo
      · cases eo
      · cases eo
        exact ⟨setAt_len h6, setAt_rule h6 hr ⟨by omega, h3⟩⟩
    · cases eo
  · rw [e] at eo
    unfold outAsk at eo
    split at eo
    · rename_i ef
      cases eo
      exact ⟨asked_len h6, asked_rule h6 hr ef⟩
    · cases eo
theorem Deed.come {C : Addr} {H : Hp} {rs : List (List Str)} {deed : Int} {th fv : V} {o : Out} {R : Addr → Hp → Prop} (h : Deed K H rs deed th fv o) (q : ∀ t H', OutAt K C H' t o → Same H H' → R t H') :
    (deed = 0 ∧ ∃ z r, th = .str z ∧ RuleAt K H fv r ∧ (∀ x ∈ r, x ∈ acts) ∧ ∀ t H', OutAt K C H' t (outWith rs z r) → Same H H' → R t H') ∨
    (deed ≠ 0 ∧ ∃ (a : Addr) (zs : List Str), th = .ref a ∧ SqT K H a (zs.map V.str) ∧ zs.length ≤ 1000 ∧ (∀ z ∈ zs, z ∈ doors) ∧ zs.Nodup ∧ ∀ t H', OutAt K C H' t (outAsk rs zs) → Same H H' → R t H') := by
  obtain ⟨r, h1, h2, h3, ⟨d, z, rfl, rfl⟩ | ⟨d, a, zs, rfl, hz, hl, hd, nd, rfl⟩⟩ := h
  · exact .inl ⟨d, z, r, rfl, h1, h3, q⟩
  · exact .inr ⟨d, a, zs, rfl, hz, by omega, hd, nd, q⟩
theorem Deed.due {H : Hp} {rs : List (List Str)} {deed : Int} {th fv : V} {o : Out} {R : Addr → Hp → Prop} (h : Deed K H rs deed th fv o) (q : ∀ t H', DueAt K H' t o → Same H H' → R t H') :
    (deed = 0 ∧ ∃ z r, th = .str z ∧ RuleAt K H fv r ∧ r.length ≤ 1000 ∧ ∀ t H', DueAt K H' t (outWith rs z r) → Same H H' → R t H') ∨
    (deed ≠ 0 ∧ ∃ (a : Addr) (zs : List Str), th = .ref a ∧ SqT K H a (zs.map V.str) ∧ ∀ t H', DueAt K H' t (outAsk rs zs) → Same H H' → R t H') := by
  obtain ⟨r, h1, h2, h3, ⟨d, z, rfl, rfl⟩ | ⟨d, a, zs, rfl, hz, hl, hd, nd, rfl⟩⟩ := h
  · exact .inl ⟨d, z, r, rfl, h1, by omega, q⟩
  · exact .inr ⟨d, a, zs, rfl, hz, q⟩
theorem door_len : ∀ d ∈ doors, d.length ≤ 10 := by decide +kernel
theorem ok_done {f C fD fR fC fU fB : Addr} {fd fdD fdR fdC fdU fdB : FuncData} (F : Fun K "_law_done" "_law_done" s_done f fd) (T : TxtB mg) (TB : TxtBook K mg C)
    (gD : mg "_law_draw" = some (.ref fD)) (kD : PySem.W.keepIn K (.ref fD) = true) (bD : Binds K fdD ["jar", "many"] []) (GD : FnOk P w K mg base CX0 1 fD fdD ["jar", "many"] spDraw)
    (gR : mg "_law_rule" = some (.ref fR)) (kR : PySem.W.keepIn K (.ref fR) = true) (bR : Binds K fdR ["jar", "most"] []) (GR : FnOk P w K mg base CX0 2 fR fdR ["jar", "most"] spRule)
    (gC : mg "_law_come" = some (.ref fC)) (kC : PySem.W.keepIn K (.ref fC) = true) (bC : Binds K fdC ["work", "deed", "thing", "fresh"] []) (GC : FnOk P w K mg base CX0 7 fC fdC ["work", "deed", "thing", "fresh"] (spCome K C))
    (gU : mg "_law_due" = some (.ref fU)) (kU : PySem.W.keepIn K (.ref fU) = true) (bU : Binds K fdU ["names", "six", "deed", "thing", "fresh"] []) (GU : FnOk P w K mg base CX0 1 fU fdU ["names", "six", "deed", "thing", "fresh"] (spDue K))
    (mB : Meth K C "rules" fB) (bB : Binds K fdB ["self"] []) (GB : FnOk P w K mg base CX0 1 fB fdB ["self"] (spBRules K C)) : FnOk P w K mg base CX0 8 f fd ["jar", "names", "held"] (spDone K C) := by
  refine F.ok sc_done (fun vs H Q E h => ?_) (fun cdv A outer s H vs Q E hr h => ?_)
  · obtain ⟨j, nl, hl, n, xs, rfl, _⟩ := h
    rfl
  · obtain ⟨j, nl, hl, n, xs, rfl, J, hn, hnl, hhl, xne, xlen, xall, nlj, hlj, nlhl, q⟩ := h
    have r1 : Room 1 _ := hr.mono (by decide)
    have r2 : Room 2 _ := hr.mono (by decide)
    have r7 : Room 7 _ := hr.mono (by decide)
    refine ⟨_, (pss_cons (ps_asg (pe_ix ix_list (pv 2) (pe_call GD r1 (by rfl) gD kD bD .nil pass0 (pa_cons (pv 0) (pa_cons (pe_callB call_len_seq (by rfl) T.b_len (by decide +kernel) (pa_cons (pv 2) pa_nil)) pa_nil))) (fun _ _ => rfl)) (pg_tup (by rfl) (pgs_cons (pg_name (i := 3) sc_done.nd rfl (Or.inl rfl)) (pgs_cons (pg_name (i := 4) sc_done.nd rfl (Or.inl rfl)) pgs_nil))))
  (pss_cons (ps_set (i := 5) sc_done.nd rfl (Or.inl rfl) (pe_call GD r1 (by rfl) gD kD bD .nil pass0 (pa_cons (pv 0) (pa_cons pe_int pa_nil))))
  (pss_cons (ps_par (i := 6) (j := 7) (by rfl) sc_done.nd rfl rfl (by decide) rfl rfl (pa_cons (pe_call GR r2 (by rfl) gR kR bR .nil pass0 (pa_cons (pv 0) (pa_cons pe_int pa_nil))) (pa_cons (pe_ix ix_list (pv 1) (pe_call GD r1 (by rfl) gD kD bD .nil pass0 (pa_cons (pv 0) (pa_cons pe_int pa_nil))) (fun _ _ => rfl)) pa_nil)) (by rfl))
  (pss_cons (ps_if (pt_cmpR op_eq (pe_call GD r1 (by rfl) gD kD bD .nil pass0 (pa_cons (pv 0) (pa_cons pe_int pa_nil))) pe_int (nomark _)) (pss_one (ps_set (i := 6) sc_done.nd rfl (Or.inl rfl) (pe_op op_catA (pv 6) (pe_op op_repT (pe_tup (pa_cons pe_str pa_nil)) pe_int)))) pss_nil)
  (pss_cons (ps_if (pt_cmpR op_eq (pe_call GD r1 (by rfl) gD kD bD .nil pass0 (pa_cons (pv 0) (pa_cons pe_int pa_nil))) pe_int (nomark _)) (pss_one (ps_set (i := 7) sc_done.nd rfl (Or.inl rfl) (pe_op op_add_str pe_str (pv 7)))) pss_nil)
  (pss_cons (ps_if (pt_cmpR op_eq (pv 5) pe_int (nomark _)) (pss_cons (ps_asg (pe_tup (pa_cons (pe_call GD r1 (by rfl) gD kD bD .nil pass0 (pa_cons (pv 0) (pa_cons pe_int pa_nil))) (pa_cons (pe_call GD r1 (by rfl) gD kD bD .nil pass0 (pa_cons (pv 0) (pa_cons pe_int pa_nil))) pa_nil))) (pg_tup (by rfl) (pgs_cons (pg_name (i := 8) sc_done.nd rfl (Or.inr rfl)) (pgs_cons (pg_name (i := 9) sc_done.nd rfl (Or.inl rfl)) pgs_nil))))
  (pss_one (ps_set (i := 7) sc_done.nd rfl (Or.inl rfl) (pe_callTy call_tuple_of (by rfl) T.b_tuple (by decide +kernel) (pa_cons (pe_lc (own := [("k", 10)]) (g := (gName 10)) (by rfl) sc_done.nd (pi_range1 (by rfl) T.b_range (pa_cons (pv 9) pa_nil)) (blkOk_by (own := [("k", 10)]) (N := nDone) (sc := defScope s_done) (by decide +kernel)) (fun _ _ _ _ _ => (pg_name (i := 10) sc_done.nd rfl (Or.inl rfl))) (fun _ _ _ _ _ => pts_nil) (fun _ _ _ _ _ => (pe_ix (r := rIxL K) ix_list (pv 1) (pe_op op_mod (pe_op op_add (pv 8) (pv 10)) pe_int) (fun _ _ => rfl)))) pa_nil))))) pss_nil)
  (pss_cons (ps_asg (pe_call GC r7 (by rfl) gC kC bC .nil pass0 (pa_cons (pv 3) (pa_cons (pv 5) (pa_cons (pv 7) (pa_cons (pv 6) pa_nil))))) (pg_tup (by rfl) (pgs_cons (pg_name (i := 11) sc_done.nd rfl (Or.inl rfl)) (pgs_cons (pg_name (i := 12) sc_done.nd rfl (Or.inl rfl)) pgs_nil))))
  (pss_cons (ps_asg (pe_call GU r1 (by rfl) gU kU bU .nil pass0 (pa_cons (pv 1) (pa_cons (pv 4) (pa_cons (pv 5) (pa_cons (pv 7) (pa_cons (pv 6) pa_nil)))))) (pg_tup (by rfl) (pgs_cons (pg_name (i := 13) sc_done.nd rfl (Or.inl rfl)) (pgs_cons (pg_name (i := 14) sc_done.nd rfl (Or.inl rfl)) pgs_nil))))
  (pss_cons (ps_if (pt_cmpR op_isN (pv 13) pe_non (nomark _)) (pss_one (ps_ret (pe_and (pe_cmpR op_isN (pv 11) pe_non (nomark _)) (pe_one (pe_cmpR (op_eqP hr.units) (pv 12) (pv 14) (nomark _)))))) pss_nil)
  (pss_cons (ps_if (PW.pt (pw_or (pt_cmpR op_isN (pv 11) pe_non (nomark _)) (pw_or1 (pt_cmpR (op_neP hr.units) (pe_meth0 (pv 11) TB.cl mB GB r1 bB .nil pass0) (pv 13) (nomark _))))) (pss_one (ps_ret pe_bl)) pss_nil)
  (pss_cons (ps_expr (pe_bm PySem.F.plainAttrs_list PySem.F.slot_list_append PySem.F.type_list_append mt_append (pv 2) (pa_cons (pe_tup (pa_cons (pv 11) (pa_cons (pv 13) pa_nil))) pa_nil)))
  (pss_one (ps_ret pe_bl))))))))))))), ?_⟩
    -- work, six
    refine ⟨_, rfl, _, rfl, _, rfl, hl, _, rfl, .inl (SqL.of hhl), ?_⟩
    have x0 : 0 < xs.length := List.length_pos_iff.mpr xne
    refine ⟨j, _, n, rfl, J, by omega, Int.lt_trans (Int.ofNat_lt.mpr (show xs.length < 501 by omega)) (by decide), Nat.le_trans hn (by decide), fun z1 H1 hz0 hz1 J1 k1 => ?_⟩
    obtain ⟨x, hx⟩ : ∃ x, xs[z1.toNat]? = some x := ⟨_, List.getElem?_eq_getElem (show z1.toNat < xs.length by omega)⟩
    obtain ⟨t0, p, sx, rs, rfl, ht0, hb0, h60, hrs⟩ := xall x (List.mem_of_getElem? hx)
    refine ⟨hl, xs, z1, _, rfl, rfl, SqL.of (k1 _ _ hlj hhl), at_of (j := z1.toNat) (by omega) hx, ?_⟩
    have K1 := J.kt k1
    refine ⟨t0, _, rfl, SqT.of (K1 _ _ (fun _ z => by cases z) ht0), rfl, _, _, rfl, _, _, rfl, rfl, ?_⟩
    -- deed
    refine ⟨_, rfl, j, 2, n + 1, rfl, J1, by decide, by decide, Nat.le_trans (Nat.succ_le_succ hn) (by decide), fun deed H2 hd0 hd1 J2 k2 => ?_⟩
    have k12 := k1.trans k2
    -- fresh, thing
    refine ⟨_, rfl, j, 6, n + 1 + 1, rfl, J2, by decide, by decide, Nat.le_trans (Nat.succ_le_succ (Nat.succ_le_succ hn)) (by decide), fun fa fr H3 hfa hfr hact J3 k3 => ?_⟩
    have k13 := k12.trans k3
    refine ⟨_, rfl, _, rfl, j, 6, n + 1 + 1 + 10, rfl, J3, by decide, by decide, by omega, fun z2 H4 hz20 hz21 J4 k4 => ?_⟩
    have k14 := k13.trans k4
    obtain ⟨d, hd, hdm, hda⟩ := door_nth z2 hz20 hz21
    refine ⟨nl, _, z2, .str d, rfl, rfl, SqL.of (k14 _ _ nlj hnl), hda, ?_⟩
    refine ⟨_, _, rfl, ?_⟩
    dsimp only [gName, tSeq]
    have rf4 : RuleAt K H4 (.ref fa) fr := (J3.kt k4).rule ⟨fa, rfl, SqT.of hfa⟩
    have fr6 : fr.length ≤ 6 := by omega
    refine tIfS_via (fun σ' H' => ∃ fv r, σ' = [some (.ref j), some (.ref nl), some (.ref hl), some (.ref p), some sx, some (.int deed), some fv, some (.str d), none, none, none, none, none, none, none] ∧ RuleAt K H' fv r ∧ r.length ≤ 20 ∧ (∀ x ∈ r, x ∈ acts) ∧ JarAt H' j (n + 14) ∧ Kp j H H') (fun key => ?_) ?_
    · refine ⟨_, rfl, j, 6, _, rfl, J4, by decide, by decide, by omega, fun z5 H5 hz50 hz51 J5 k5 => ?_⟩
      have k15 := k14.trans k5
      have rf5 := (J4.kt k5).rule rf4
      refine ⟨rfl, _, rfl, ?_⟩
      refine ite2 (fun _ => ?_) (fun _ => ?_)
      · obtain ⟨f1, ef1, hf1⟩ := rf5
        cases ef1
        refine ⟨_, rfl, by show 1 ≤ sizeLine; decide, fun s1 hs1 => ?_⟩
        refine ⟨s1, 7, _, rfl, rfl, SqT.of upd_same, (by intro e; cases e), by decide, by decide, by decide, fun s2 hs2 => ?_⟩
        have sm := (same_new (o := .tup [.str "show"]) hs1).trans (same_new (o := .tup (List.replicate (Int.toNat 7) [V.str "show"]).flatten) hs2)
        have all_show : ∀ x ∈ List.replicate 7 ("show" : Str), x ∈ acts := fun x hx => by
          rw [(List.mem_replicate.mp hx).2]
          decide
        refine ⟨fa, s2, _, _, rfl, rfl, sqT_same sm hf1, SqT.of upd_same, ?_, fun e => ?_, (fun _ e => by cases e), fun _ _ pn hpn => ?_⟩
        · rw [List.length_map]
          exact Nat.le_of_lt (small1000 (show fr.length + 7 ≤ 1000 by omega))
        · exact key _ _ ⟨_, List.replicate 7 ("show" : Str), rfl, ⟨s2, rfl, SqT.of upd_same⟩, by decide, all_show, (J5.same sm).mono (by omega), k15.trans (sm.kp j)⟩
        · refine key _ _ ⟨_, fr ++ List.replicate 7 ("show" : Str), rfl, ⟨pn, rfl, SqT.of ?_⟩, ?_, ?_, ((J5.same sm).same (same_new hpn)).mono (by omega), (k15.trans (sm.kp j)).trans ((same_new hpn).kp j)⟩
          · rw [upd_same, List.map_append]
            rfl
          · rw [List.length_append, List.length_replicate]
            omega
          · intro x hx
            rcases List.mem_append.mp hx with hx | hx
            · exact hact x hx
            · exact all_show x hx
      · exact key _ _ ⟨_, fr, rfl, rf5, by omega, hact, J5.mono (by omega), k15⟩
    rintro σ5 H5 ⟨fv, r, rfl, rf5, hr20, hract, J5, k15⟩
    dsimp only [tSeq]
    refine tIfS_via (fun σ' H' => ∃ z, σ' = [some (.ref j), some (.ref nl), some (.ref hl), some (.ref p), some sx, some (.int deed), some fv, some (.str z), none, none, none, none, none, none, none] ∧ RuleAt K H' fv r ∧ JarAt H' j (n + 15) ∧ Kp j H H') (fun key => ?_) ?_
    · refine ⟨_, rfl, j, 6, _, rfl, J5, by decide, by decide, by omega, fun z6 H6 hz60 hz61 J6 k6 => ?_⟩
      have k16 := k15.trans k6
      have rf6 := (J5.kt k6).rule rf5
      refine ⟨rfl, _, rfl, ?_⟩
      refine ite2 (fun _ => ?_) (fun _ => ?_)
      · refine ⟨_, rfl, _, d, rfl, rfl, ?_, ?_⟩
        · have := door_len d hdm
          exact Nat.le_of_lt (small1000 (show Str.length "s" + d.length ≤ 1000 by have e : Str.length "s" = 1 := rfl; omega))
        · exact key _ _ ⟨_, rfl, rf6, J6, k16⟩
      · exact key _ _ ⟨_, rfl, rf6, J6, k16⟩
    rintro σ6 H6 ⟨z, rfl, rf6, J6, k16⟩
    dsimp only [tSeq]
    refine tIfS_via (fun σ' H' => ∃ th v8 v9 v10 o, σ' = [some (.ref j), some (.ref nl), some (.ref hl), some (.ref p), some sx, some (.int deed), some fv, some th, v8, v9, v10, none, none, none, none] ∧ Deed K H' rs deed th fv o ∧ Kp j H H') (fun key => ?_) ?_
    · refine ⟨_, rfl, rfl, _, rfl, ?_⟩
      refine ite2 (fun c => ?_) (fun c => ?_)
      · have d1 : deed = 1 := V.int.inj (of_decide_eq_true c)
        refine ⟨_, rfl, j, 6, _, rfl, J6, by decide, by decide, by omega, fun st H7 hst0 hst1 J7 k7 => ?_⟩
        refine ⟨_, rfl, j, 7, _, rfl, J7, by decide, by decide, by omega, fun mn H8 hmn0 hmn1 J8 k8 => ?_⟩
        have k18 := (k16.trans k7).trans k8
        refine ⟨by show 2 ≤ sizeLine; decide, fun t ht => ?_⟩
        refine ⟨t, _, rfl, SqT.of upd_same, rfl, _, _, rfl, _, _, rfl, rfl, ?_⟩
        have k19 := k18.trans ((same_new (o := .tup [.int st, .int mn]) ht).kp j)
        have J9 := J8.same (same_new (o := .tup [.int st, .int mn]) ht)
        have rf9 := (same_new (o := .tup [.int st, .int mn]) ht).kt.rule ((J7.kt k8).rule ((J6.kt k7).rule rf6))
        generalize upd H8 t (.tup [.int st, .int mn]) = H9 at k19 J9 rf9
        refine ⟨_, rfl, mn, rfl, by omega, by omega, fun D hD => ?_⟩
        refine lc_range (lo := 0) (n := mn.toNat) (fun i H' => H' D = some (.lst (((List.range i).map (ring st.toNat)).map V.str)) ∧ Same H9 H') ?_ ?_ ?_
        · exact ⟨upd_same, same_new hD⟩
        · rintro i H10 hi ⟨h1, s1⟩
          refine ⟨rfl, ?_⟩
          refine ⟨_, rfl, _, rfl, _, rfl, _, _, rfl, rfl, _, _, rfl, rfl, (by show (0 : Int) < 6; decide), nl, _, _, .str (ring st.toNat i), rfl, rfl, SqL.of (s1 _ _ (k19 _ _ nlj hnl)), ?_, ?_⟩
          · refine at_of (j := (st.toNat + i) % 6) (by omega) ?_
            rw [List.getElem?_map, List.getElem?_eq_getElem (show (st.toNat + i) % 6 < doors.length from Nat.mod_lt _ (by decide))]
            unfold ring
            rw [List.getD_eq_getElem?_getD, List.getElem?_eq_getElem (show (st.toNat + i) % 6 < doors.length from Nat.mod_lt _ (by decide))]
            rfl
          · refine ⟨_, h1, ?_, ?_, same_upd s1 hD⟩
            · rw [List.length_map, List.length_map, List.length_range]
              exact small1000 (by omega)
            · rw [List.range_succ, List.map_append, List.map_append]
              exact upd_same
        · rintro H10 ⟨h1, s1⟩
          refine ⟨D, _, rfl, .inl ⟨SqL.of h1, fun l hl' => ?_⟩⟩
          have s2 := s1.trans (same_new (o := .tup (((List.range mn.toNat).map (ring st.toNat)).map V.str)) hl')
          refine key _ _ ⟨_, _, _, _, _, rfl, ⟨r, s2.kt.rule rf9, hr20, hract, .inr ⟨by omega, l, _, rfl, SqT.of upd_same, ?_, ?_, ring_nd _ (by omega), rfl⟩⟩, k19.trans (s2.kp j)⟩
          · rw [List.length_map, List.length_range]
            omega
          · intro y hy
            obtain ⟨i, _, rfl⟩ := List.mem_map.mp hy
            exact ring_mem _ _
      · have d0 : deed = 0 := by
          have : ¬ deed = 1 := fun e => c (by rw [e]; exact decide_eq_true rfl)
          omega
        exact key _ _ ⟨_, _, _, _, _, rfl, ⟨r, rf6, hr20, hract, .inl ⟨d0, z, rfl, rfl⟩⟩, k16⟩
    rintro σ7 H7 ⟨th, v8, v9, v10, o, rfl, D7, k17⟩
    dsimp only [tSeq]
    have K7 : KT H H7 := J.kt k17
    have e6 : rs.length = 6 := by
      obtain ⟨_, _, _, _, e6⟩ := hb0
      exact e6
    refine ⟨_, rfl, _, rfl, _, rfl, _, rfl, p, th, fv, deed, rs, rfl, K7.book hb0, hrs, ?_⟩
    refine D7.come fun t H8 ho s8 => ?_
    have K8 := K7.trans s8.kt
    have k18 := k17.trans (s8.kp j)
    have hn8 := k18 _ _ nlj hnl
    have hh8 := k18 _ _ hlj hhl
    have D8 := D7.kt s8.kt
    cases o with
    | made rs' =>
      obtain ⟨h6', hr'⟩ := D7.rule e6 hrs rfl
      obtain ⟨x, f0, ht, hbx, hf0⟩ := ho
      refine ⟨t, _, rfl, SqT.of ht, rfl, _, _, rfl, _, _, rfl, rfl, ?_⟩
      refine ⟨_, rfl, _, rfl, _, rfl, _, rfl, _, rfl, nl, sx, th, fv, deed, rs, rfl, SqL.of hn8, K8.six h60, e6, hrs, ?_⟩
      refine D8.due fun t2 H9 ho2 s9 => ?_
      obtain ⟨x2, f2, ht2, hx2, hf2⟩ := ho2
      obtain ⟨xa, xv, rfl, hxa, hxp⟩ := id hx2
      refine ⟨t2, _, rfl, SqT.of ht2, rfl, _, _, rfl, _, _, rfl, rfl, ?_⟩
      have hbx9 := s9.kt.book hbx
      obtain ⟨dx, l, hpx, hl6, el6⟩ := id hbx9
      refine ⟨_, rfl, rfl, _, rfl, ?_⟩
      refine ite2 (fun c => absurd (of_decide_eq_true c) (fun e => by cases e)) (fun _ => ?_)
      refine ⟨_, rfl, rfl, _, rfl, ?_⟩
      refine ite2 (fun c => absurd (of_decide_eq_true c) (fun e => by cases e)) (fun _ => ?_)
      refine ⟨_, rfl, x, dx, _, rfl, hpx, rfl, x, rs', rfl, hbx9, fun v hv => ?_⟩
      refine ⟨_, rfl, dSix rs', dSix rs', hv.dp, hx2.dp, plain_six _, plain_six _, Nat.le_trans (depth_six _) (by decide), ?_⟩
      rw [eqv_six]
      refine ⟨_, rfl, ?_⟩
      refine ite2 (fun c => ?_) (fun _ => ?_)
      · rw [decide_eq_true rfl] at c
        cases c
      have hh9 := s9 _ _ hh8
      refine ⟨_, rfl, .inl ⟨rfl, _, SqL.of hh9⟩, ?_⟩
      refine ⟨_, rfl, _, rfl, by show 2 ≤ sizeLine; decide, fun tp htp => ?_⟩
      have s10 := same_new (o := .tup [.ref x, .ref xa]) htp
      have hh10 := s10 _ _ hh9
      refine ⟨hl, _, .ref tp, rfl, rfl, hh10, small1000 (by omega), ?_⟩
      have kk := kt_lst (o := .lst (xs ++ [.ref tp])) hh10
      refine q _ _ upd_same (by simp) (by rw [List.length_append]; exact Nat.le_refl _) ?_ ?_ ?_
      · intro y hy
        rcases List.mem_append.mp hy with hy | hy
        · exact (xall y hy).kt (((K8.trans s9.kt).trans s10.kt).trans kk)
        · rw [List.mem_singleton.mp hy]
          exact PairOk.kt kk ⟨tp, x, .ref xa, rs', rfl, upd_same, s10.kt.book hbx9, s10.kt.six hx2, hr'⟩
      · rw [upd_ne nlhl]
        exact s10 _ _ (s9 _ _ hn8)
      · intro b o' hb1 hb2 e
        rw [upd_ne hb2]
        exact s10 _ _ (s9 _ _ (k18 _ _ hb1 e))
    | err nm z' =>
      obtain ⟨f0, ht, hf0⟩ := ho
      refine ⟨t, _, rfl, SqT.of ht, rfl, _, _, rfl, _, _, rfl, rfl, ?_⟩
      refine ⟨_, rfl, _, rfl, _, rfl, _, rfl, _, rfl, nl, sx, th, fv, deed, rs, rfl, SqL.of hn8, K8.six h60, e6, hrs, ?_⟩
      refine D8.due fun t2 H9 ho2 s9 => ?_
      obtain ⟨f2, ht2, hf2⟩ := ho2
      refine ⟨t2, _, rfl, SqT.of ht2, rfl, _, _, rfl, _, _, rfl, rfl, ?_⟩
      refine ⟨_, rfl, rfl, _, rfl, ?_⟩
      refine ite2 (fun _ => ?_) (fun c => absurd rfl c)
      refine ⟨_, rfl, rfl, _, rfl, ?_⟩
      refine ite2 (fun _ => ?_) (fun c => absurd rfl c)
      have ra : RuleAt K H9 (.ref f0) [nm, z'] := ⟨f0, rfl, sqT_same s9 hf0⟩
      have rb : RuleAt K H9 (.ref f2) [nm, z'] := ⟨f2, rfl, hf2⟩
      refine ⟨_, rfl, _, rfl, dRule [nm, z'], dRule [nm, z'], ra.dp, rb.dp, plain_rule _, plain_rule _, by rw [depth_rule]; decide, ?_⟩
      rw [eqv_rule, decide_eq_true rfl]
      refine q _ xs (s9 _ _ hh8) xne (by omega) (fun y hy => (xall y hy).kt (K8.trans s9.kt)) (s9 _ _ hn8) fun b o' hb1 _ e => s9 _ _ (k18 _ _ hb1 e)
end
end Sh

namespace Sh
open PySem L2
section
variable {P : Program} {w : World} {K : PySem.W.Frag} {mg : Str → Option Value} {base : Heap} {aA aD : Addr}
structure LawSt (K : PySem.W.Frag) (C : Addr) (H0 H : Hp) (nl hl : Addr) (n : Nat) : Prop where
  s : Same H0 H
  nm : H nl = some (.lst (doors.map V.str))
  l : ∃ xs, H hl = some (.lst xs) ∧ xs ≠ [] ∧ xs.length ≤ n ∧ ∀ x ∈ xs, PairOk K C H x
theorem LawSt.same {C nl hl : Addr} {H0 H H' : Hp} {n : Nat} (S : LawSt K C H0 H nl hl n) (s : Same H H') : LawSt K C H0 H' nl hl n := by
  obtain ⟨xs, h1, h2, h3, h4⟩ := S.l
  exact ⟨S.s.trans s, s _ _ S.nm, xs, s _ _ h1, h2, h3, fun x hx => (h4 x hx).kt s.kt⟩
abbrev s_law : Stmt := top 22
abbrev nLaw : List Str := ["script", "names", "six", "held", "k", "work", "due", "told", "name", "one", "two"]
theorem sc_law : FnScope nLaw ["script"] (defScope s_law) := ⟨rfl, rfl, rfl, by decide +kernel, rfl, by decide +kernel, by decide +kernel⟩
theorem ok_law {f C CR CD fJ fS fI fN fB fR fE : Addr} {fd fdJ fdS fdI fdN fdB fdR fdE : FuncData} {d0 d1 d2 d3 d4 d5 : V} (F : Fun K "law" "law" s_law f fd) (T : TxtB mg) (bmin : mg "min" = none) (blist : mg "list" = none) (TB : TxtBook K mg C)
    (gJ : mg "_law_jar" = some (.ref fJ)) (kJ : PySem.W.keepIn K (.ref fJ) = true) (bJ : Binds K fdJ ["script", "k"] []) (GJ : FnOk P w K mg base CX0 1 fJ fdJ ["script", "k"] (spJar K))
    (gS : mg "_law_six" = some (.ref fS)) (kS : PySem.W.keepIn K (.ref fS) = true) (bS : Binds K fdS ["jar"] []) (GS : FnOk P w K mg base CX0 3 fS fdS ["jar"] (spSix K))
    (M : MkB P w K mg base C CR fI fdI d0 d1 d2 d3 d4 d5) (b6 : Binds K fdI pI [])
    (gN : mg "_law_done" = some (.ref fN)) (kN : PySem.W.keepIn K (.ref fN) = true) (bN : Binds K fdN ["jar", "names", "held"] []) (GN : FnOk P w K mg base CX0 8 fN fdN ["jar", "names", "held"] (spDone K C))
    (mB : Meth K C "rules" fB) (bB : Binds K fdB ["self"] []) (GB : FnOk P w K mg base CX0 1 fB fdB ["self"] (spBRules K C))
    (mR : Meth K C "rule" fR) (bR : Binds K fdR ["self", "door"] []) (GR : FnOk P w K mg base (L2.CX P w) 3 fR fdR ["self", "door"] (spBRule K C CD))
    (GE : FnOk P w K mg base CX0 1 fE fdE ["self", "other"] (spEqB K C)) (hs : PySem.W.findIn K (.ref C) "__eq__" = some (some (.ref fE))) (hf : PySem.W.isFn K (.ref fE) = true) (bE : Binds K fdE ["self", "other"] []) :
    FnOk P w K mg base CX0 9 f fd ["script"] (spLaw K) := by
  refine F.ok sc_law (fun vs H Q E h => ?_) (fun cdv A outer s H vs Q E hr h => ?_)
  · obtain ⟨a, ns, rfl, _⟩ := h
    rfl
  · obtain ⟨a, ns, rfl, hS, hlen, q⟩ := h
    have r1 : Room 1 _ := hr.mono (by decide)
    have r3 : Room 3 _ := hr.mono (by decide)
    have r5 : Room 5 _ := hr.mono (by decide)
    refine ⟨_, (pss_cons (ps_set (i := 1) sc_law.nd rfl (Or.inl rfl) (pe_lst (pa_cons pe_str (pa_cons pe_str (pa_cons pe_str (pa_cons pe_str (pa_cons pe_str (pa_cons pe_str pa_nil))))))))
  (pss_cons (ps_set (i := 2) sc_law.nd rfl (Or.inl rfl) (pe_call GS r3 (by rfl) gS kS bS .nil pass0 (pa_cons (pe_call GJ r1 (by rfl) gJ kJ bJ .nil pass0 (pa_cons (pv 0) (pa_cons pe_int pa_nil))) pa_nil)))
  (pss_cons (ps_set (i := 3) sc_law.nd rfl (Or.inl rfl) (pe_lst (pa_cons (pe_tup (pa_cons (pe_make M.mkb M.ok r5 (by rfl) TB.g b6 .nil passL (pa_cons (pe_ix ix_tup (pv 2) pe_int (fun _ _ => rfl)) (pa_cons (pe_ix ix_tup (pv 2) pe_int (fun _ _ => rfl)) (pa_cons (pe_ix ix_tup (pv 2) pe_int (fun _ _ => rfl)) (pa_cons (pe_ix ix_tup (pv 2) pe_int (fun _ _ => rfl)) (pa_cons (pe_ix ix_tup (pv 2) pe_int (fun _ _ => rfl)) (pa_cons (pe_ix ix_tup (pv 2) pe_int (fun _ _ => rfl)) pa_nil))))))) (pa_cons (pv 2) pa_nil))) pa_nil)))
  (pss_cons (ps_for PassesOwn.never rfl (pi_range1 (by rfl) T.b_range (pa_cons (pe_callB (call_max2 rfl) (by rfl) T.b_max (by decide +kernel) (pa_cons pe_int (pa_cons (pe_callB (call_min2 rfl) (by rfl) bmin (by decide +kernel) (pa_cons pe_int (pa_cons (pe_callB call_len_seq (by rfl) T.b_len (by decide +kernel) (pa_cons (pv 0) pa_nil)) pa_nil))) pa_nil))) pa_nil)) (pg_name (i := 4) sc_law.nd rfl (Or.inl rfl)) (pss_one (ps_if (pt_not (pt_val (pe_call GN hr (by rfl) gN kN bN .nil pass0 (pa_cons (pe_call GJ r1 (by rfl) gJ kJ bJ .nil pass0 (pa_cons (pv 0) (pa_cons (pv 4) pa_nil))) (pa_cons (pv 1) (pa_cons (pv 3) pa_nil)))))) (pss_one (ps_ret pe_bl)) pss_nil)))
  (pss_cons (ps_for PassesOwn.never rfl (pi_list (pv 3)) (pg_tup (by rfl) (pgs_cons (pg_name (i := 5) sc_law.nd rfl (Or.inr rfl)) (pgs_cons (pg_name (i := 6) sc_law.nd rfl (Or.inl rfl)) pgs_nil))) (pss_cons (ps_setLc (i := 7) (own := [("name", 8)]) (g := (gName 8)) (by rfl) sc_law.nd rfl rfl (sw_true rfl rfl rfl (by decide +kernel)) (pi_list (pv 1)) (blkOk_by (own := [("name", 8)]) (N := nLaw) (sc := defScope s_law) (by decide +kernel)) (fun _ _ _ _ _ => (pg_name (i := 8) sc_law.nd rfl (Or.inl rfl))) (fun _ _ _ _ _ => pts_nil) (fun _ _ _ _ _ => (pe_meth (pv 5) TB.cl mR GR r3 bR .nil passL (pa_cons (pv 8) pa_nil))))
  (pss_one (ps_if (PW.pt (pw_or (pt_cmpR (op_neP hr.units) (pe_meth0 (pv 5) TB.cl mB GB r1 bB .nil pass0) (pv 6) (nomark _)) (pw_or1 (pt_cmpR (op_neP hr.units) (pv 7) (pe_callTy call_list_of (by rfl) blist (by decide +kernel) (pa_cons (pv 6) pa_nil)) (nomark _))))) (pss_one (ps_ret pe_bl)) pss_nil))))
  (pss_cons (ps_for PassesOwn.never rfl (pi_range1 (by rfl) T.b_range (pa_cons (pe_callB call_len_seq (by rfl) T.b_len (by decide +kernel) (pa_cons (pv 3) pa_nil)) pa_nil)) (pg_name (i := 4) sc_law.nd rfl (Or.inl rfl)) (pss_cons (ps_par (i := 9) (j := 10) (by rfl) sc_law.nd rfl rfl (by decide) rfl rfl (pa_cons (pe_ix ix_list (pv 3) (pv 4) (fun _ _ => rfl)) (pa_cons (pe_ix ix_list (pv 3) (pe_op op_sub (pe_op op_sub (pe_callB call_len_seq (by rfl) T.b_len (by decide +kernel) (pa_cons (pv 3) pa_nil)) pe_int) (pv 4)) (fun _ _ => rfl)) pa_nil)) (by rfl))
  (pss_one (ps_if (pt_cmpR op_ne (pe_cmpR (op_eqB r1 GE hs hf bE pass0) (pe_ix ix_tup (pv 9) pe_int (fun _ _ => rfl)) (pe_ix ix_tup (pv 10) pe_int (fun _ _ => rfl)) (nomark _)) (pe_cmpR (op_eqP hr.units) (pe_ix ix_tup (pv 9) pe_int (fun _ _ => rfl)) (pe_ix ix_tup (pv 10) pe_int (fun _ _ => rfl)) (nomark _)) (nomark _)) (pss_one (ps_ret pe_bl)) pss_nil))))
  (pss_one (ps_ret pe_bl)))))))), ?_⟩
    refine ⟨by show 6 ≤ sizeLine; decide, fun nl hnl => ?_⟩
    have s1 := same_new (o := .lst (doors.map V.str)) hnl
    have nl1 : upd H nl (.lst (doors.map V.str)) nl = some (.lst (doors.map V.str)) := upd_same
    have hS1 := s1.seq hS
    refine ⟨_, rfl, a, ns, 0, rfl, hS1, by decide, by decide, fun j H2 J2 nj s2 => ?_⟩
    refine ⟨j, 0, rfl, J2, by decide, fun sa rs H3 h6 e6 hrs J3 k3 => ?_⟩
    have s3 : Same H H3 := same_kp (s1.trans s2) (s1.free nj) k3
    have nl3 : H3 nl = some (.lst (doors.map V.str)) := k3 _ _ (ne_of_none nl1 nj) (s2 _ _ nl1)
    obtain ⟨sa', u0, u1, u2, u3, u4, u5, r0, r1', r2, r3', r4, r5', es, rfl, hs6, pr⟩ := six_six h6 e6
    cases es
    refine ⟨_, rfl, sa, _, _, _, rfl, rfl, hs6, rfl, ?_⟩
    refine ⟨_, rfl, sa, _, _, _, rfl, rfl, hs6, rfl, ?_⟩
    refine ⟨_, rfl, sa, _, _, _, rfl, rfl, hs6, rfl, ?_⟩
    refine ⟨_, rfl, sa, _, _, _, rfl, rfl, hs6, rfl, ?_⟩
    refine ⟨_, rfl, sa, _, _, _, rfl, rfl, hs6, rfl, ?_⟩
    refine ⟨_, rfl, sa, _, _, _, rfl, rfl, hs6, rfl, ?_⟩
    intro x1 dx1 hx1 hdx1 ne1
    refine book_new (ws := [u0, u1, u2, u3, u4, u5]) hx1 hdx1 pr hrs rfl fun H4 hb4 s4 => ⟨rfl, ?_⟩
    refine ⟨_, rfl, by show 2 ≤ sizeLine; decide, fun t1 ht1 => ?_⟩
    refine ⟨by show 1 ≤ sizeLine; decide, fun hl hhl => ?_⟩
    have s5 := s4.trans (same_new (o := .tup [.ref x1, .ref sa]) ht1)
    have nlhl : nl ≠ hl := ne_of_none (s5 _ _ nl3) hhl
    have hl0 : H hl = none := (s3.trans s5).free hhl
    have S6 : LawSt K C H (upd (upd H4 t1 (.tup [.ref x1, .ref sa])) hl (.lst [.ref t1])) nl hl 1 :=
      ⟨(s3.trans s5).trans (same_new hhl), same_new hhl _ _ (s5 _ _ nl3), [.ref t1], upd_same, (by intro e; cases e), Nat.le_refl _, fun x hx => by
        rw [List.mem_singleton.mp hx]
        exact PairOk.kt (same_new hhl).kt ⟨t1, x1, .ref sa, _, rfl, upd_same, (same_new ht1).kt.book hb4, s5.kt.six h6, hrs⟩⟩
    generalize upd (upd H4 t1 (.tup [.ref x1, .ref sa])) hl (.lst [.ref t1]) = H6 at S6
    refine ⟨_, rfl, a, _, rfl, .inl (S6.s.seq hS), _, _, rfl, _, _, rfl, ?_⟩
    have hN := rng_le 60 (ns.map V.int).length (by decide)
    refine ⟨_, rfl, by omega, by omega, for_range (lo := 0) (n := _) (fun i σ H' => ∃ v4 v5 v6 v7 v8 v9 v10, σ = [some (.ref a), some (.ref nl), some (.ref sa), some (.ref hl), v4, v5, v6, v7, v8, v9, v10] ∧ LawSt K C H H' nl hl (i + 1)) ?_ ?_ ?_⟩
    · exact ⟨_, _, _, _, _, _, _, rfl, S6⟩
    · rintro i σ H7 hi ⟨v4, v5, v6, v7, v8, v9, v10, rfl, S7⟩
      have hi60 : i < 60 := by omega
      refine ⟨_, rfl, _, rfl, a, ns, _, rfl, S7.s.seq hS, by omega, by omega, fun j7 H8 J8 nj8 s8 => ?_⟩
      have S8 := S7.same s8
      obtain ⟨xs, hxs, xne, xlen, xall⟩ := S8.l
      have hlj : hl ≠ j7 := by
        obtain ⟨_, h1, _⟩ := S7.l
        exact ne_of_none h1 nj8
      refine ⟨_, rfl, _, rfl, j7, nl, hl, 0, xs, rfl, J8, by decide, S8.nm, hxs, xne, by omega, xall, ne_of_none S7.nm nj8, hlj, nlhl, fun H9 ys hy yne ylen yall nm9 k9 => ?_⟩
      refine ⟨_, rfl, ?_⟩
      have nj0 : H j7 = none := S7.s.free nj8
      exact ⟨_, _, _, _, _, _, _, rfl, ⟨fun b o e => k9 b o (ne_of_none e nj0) (ne_of_none e hl0) (s8 _ _ (S7.s _ _ e)), nm9, ys, hy, yne, by omega, yall⟩⟩
    rintro σ H7 ⟨v4, v5, v6, v7, v8, v9, v10, rfl, S7⟩
    obtain ⟨xs, hxs, xne, xlen, xall⟩ := S7.l
    refine ⟨_, rfl, hl, rfl, ⟨_, SqL.of hxs⟩, for_list (K := K) (a := hl) (xs := xs) (fun m σ H' => ∃ v4 v5 v6 v7 v8 v9 v10, σ = [some (.ref a), some (.ref nl), some (.ref sa), some (.ref hl), v4, v5, v6, v7, v8, v9, v10] ∧ Same H7 H') ?_ ?_ ?_ ?_⟩
    · exact ⟨_, _, _, _, _, _, _, rfl, Same.refl _⟩
    · rintro m σ H' _ ⟨_, _, _, _, _, _, _, _, s'⟩
      exact SqL.of (s' _ _ hxs)
    · rintro m x σ H8 hx ⟨v4, v5, v6, v7, v8, v9, v10, rfl, s8⟩
      obtain ⟨t, p, v, rs, rfl, ht, hb, h6, hrs⟩ := (xall x (List.mem_of_getElem? hx)).kt s8.kt
      refine ⟨t, _, rfl, SqT.of ht, rfl, .ref p, _, rfl, v, _, rfl, rfl, ?_⟩
      have nm8 := s8 _ _ S7.nm
      obtain ⟨dx, l, hp, hl6, e6⟩ := id hb
      refine ⟨_, rfl, nl, rfl, ⟨_, SqL.of nm8⟩, fun D hD => ?_⟩
      refine lc_list (K := K) (a := nl) (xs := doors.map V.str) (fun i H' => ∃ us, H' D = some (.lst us) ∧ Paired (RuleAt K H') us (rs.take i) ∧ Same H8 H') ?_ ?_ ?_ ?_
      · exact ⟨[], upd_same, .nil, same_new hD⟩
      · rintro i H' _ ⟨_, _, _, s'⟩
        exact SqL.of (s' _ _ nm8)
      · rintro i y H9 hy ⟨us, h9, p9, s9⟩
        obtain ⟨z, hz, rfl⟩ : ∃ z, doors[i]? = some z ∧ y = V.str z := by
          rw [List.getElem?_map] at hy
          cases e : doors[i]? with
          | none =>
            rw [e] at hy
            cases hy
          | some z =>
            rw [e] at hy
            exact ⟨z, rfl, (Option.some.inj hy).symm⟩
        have hi6 : i < 6 := (List.getElem?_eq_some_iff.mp hz).1
        obtain ⟨r, hr6⟩ : ∃ r, rs[i]? = some r := ⟨_, List.getElem?_eq_getElem (show i < rs.length by omega)⟩
        refine ⟨rfl, ?_⟩
        have hb9 := s9.kt.book hb
        refine ⟨_, rfl, p, dx, _, rfl, s9 _ _ hp, rfl, _, rfl, p, .str z, _, rs, rfl, hb9, .str z, fun i' z' u r' ez hz' hr' ru => ?_, fun e => ?_⟩
        · cases ez
          have := doors_nd hz' hz
          subst this
          rw [hr6] at hr'
          cases hr'
          refine ⟨us, h9, ?_, us ++ [u], upd_same, ?_, same_upd s9 hD⟩
          · rw [p9.length, List.length_take]
            exact small1000 (by omega)
          · rw [List.take_add_one, hr6]
            exact (kt_lst h9).rules (pair_snoc ru p9)
        · rw [decide_eq_true (List.mem_of_getElem? hz)] at e
          cases e
      · rintro H9 ⟨us, h9, p9, s9⟩
        have full : rs.take (doors.map V.str).length = rs := List.take_of_length_le (by rw [e6]; exact Nat.le_refl 6)
        rw [full] at p9
        have hb9 := s9.kt.book hb
        have h69 := s9.kt.six h6
        obtain ⟨va, vs6, rfl, hva, pva⟩ := id h69
        refine ⟨_, rfl, p, dx, _, rfl, s9 _ _ hp, rfl, p, rs, rfl, hb9, fun v2 h62 => ?_⟩
        refine ⟨_, rfl, dSix rs, dSix rs, h62.dp, h69.dp, plain_six rs, plain_six rs, Nat.le_trans (depth_six rs) (by decide), ?_⟩
        rw [eqv_six, decide_eq_true rfl]
        refine ⟨_, rfl, ?_⟩
        refine ite2 (fun c => by cases c) (fun _ => ?_)
        refine ⟨_, rfl, _, rfl, va, vs6, rfl, .inr hva, fun l2 hl2 => ?_⟩
        have s10 := same_new (o := .lst vs6) hl2
        have pl : PyData.plain (.list (rs.map dRule)) = true := plain_rules rs
        have dl : PyData.depth (.list (rs.map dRule)) ≤ 64 := by
          have := depth_rules rs
          show PyData.depthAll (rs.map dRule) + 1 ≤ 64
          omega
        refine ⟨.list (rs.map dRule), .list (rs.map dRule), .lst (SqL.of (s10 _ _ h9)) (dp_rules (s10.kt.rules p9)), .lst (SqL.of upd_same) (dp_rules (s10.kt.rules pva)), pl, pl, dl, ?_⟩
        have ev : PyData.eqv (.list (rs.map dRule)) (.list (rs.map dRule)) = true := by
          have e : PyData.eqv (.list (rs.map dRule)) (.list (rs.map dRule)) = PyData.eqvAll (rs.map dRule) (rs.map dRule) := by simp only [PyData.eqv]
          rw [e, eqv_rules]
          exact decide_eq_true rfl
        rw [ev]
        refine ⟨_, rfl, ?_⟩
        refine ite2 (fun c => by cases c) (fun _ => ?_)
        exact ⟨_, _, _, _, _, _, _, rfl, (s8.trans s9).trans s10⟩
    · rintro σ H8 ⟨v4, v5, v6, v7, v8, v9, v10, rfl, s8⟩
      have hxs8 := s8 _ _ hxs
      refine ⟨_, rfl, hl, _, rfl, .inl (SqL.of hxs8), ?_⟩
      refine ⟨_, rfl, by omega, Int.lt_trans (Int.ofNat_lt.mpr (show xs.length < 1001 by omega)) (by decide), for_range (lo := 0) (n := _) (fun i σ H' => ∃ v4 v5 v6 v7 v8 v9 v10, σ = [some (.ref a), some (.ref nl), some (.ref sa), some (.ref hl), v4, v5, v6, v7, v8, v9, v10] ∧ Same H8 H') ?_ ?_ ?_⟩
      · exact ⟨_, _, _, _, _, _, _, rfl, Same.refl _⟩
      · rintro i σ H9 hi ⟨v4, v5, v6, v7, v8, v9, v10, rfl, s9⟩
        have hix : i < xs.length := by omega
        have hxs9 := s9 _ _ hxs8
        have K9 : KT H7 H9 := s8.kt.trans s9.kt
        obtain ⟨t1, p1, w1, rs1, e1, ht1, hb1, h61, hr1⟩ := (xall _ (List.getElem_mem hix)).kt K9
        have hjx : xs.length - 1 - i < xs.length := by omega
        obtain ⟨t2, p2, w2, rs2, e2, ht2, hb2, h62, hr2⟩ := (xall _ (List.getElem_mem hjx)).kt K9
        refine ⟨_, rfl, _, rfl, hl, _, _, _, rfl, rfl, SqL.of hxs9, at_of (j := i) (by omega) (List.getElem?_eq_getElem hix), ?_⟩
        refine ⟨_, rfl, _, rfl, hl, _, rfl, .inl (SqL.of hxs9), ?_⟩
        refine ⟨_, _, rfl, rfl, _, rfl, _, _, rfl, rfl, hl, _, _, _, rfl, rfl, SqL.of hxs9, at_of (j := xs.length - 1 - i) (by omega) (List.getElem?_eq_getElem hjx), ?_⟩
        refine ⟨_, _, rfl, ?_⟩
        rw [e1, e2]
        refine ⟨_, rfl, t1, _, 0, _, rfl, rfl, SqT.of ht1, rfl, ?_⟩
        refine ⟨_, rfl, t2, _, 0, _, rfl, rfl, SqT.of ht2, rfl, ?_⟩
        refine ⟨p1, p2, rs1, rs2, rfl, rfl, hb1, hb2, ?_⟩
        refine ⟨_, rfl, t1, _, 1, _, rfl, rfl, SqT.of ht1, rfl, ?_⟩
        refine ⟨_, rfl, t2, _, 1, _, rfl, rfl, SqT.of ht2, rfl, ?_⟩
        refine ⟨dSix rs1, dSix rs2, h61.dp, h62.dp, plain_six _, plain_six _, Nat.le_trans (depth_six _) (by decide), ?_⟩
        rw [eqv_six]
        refine ⟨rfl, _, rfl, ?_⟩
        rw [decide_eq_true rfl]
        refine ite2 (fun c => by cases c) (fun _ => ?_)
        exact ⟨_, _, _, _, _, _, _, rfl, s9⟩
      · rintro σ H9 _
        exact q _
end
end Sh

namespace Sh
open PySem L2
theorem kit_self {K : PySem.W.Frag} {C : Addr} : PySem.W.kitOne K (.ref C) (.ref C) = some true := by
  have e : ((Value.ref C) == (Value.ref C)) = true := by first | exact beq_self_eq_true _ | simp | rfl
  show (if ((Value.ref C) == (Value.ref C)) = true then some true else PySem.W.kitCls K (.ref C) (.ref C)) = some true
  rw [if_pos e]
theorem all_mk {l : PySem.W.OpenLaw} {w : World} {K : PySem.W.Frag} {h : Heap} {mg : Str → Option Value} {fa A_ACTIONS A_DOORS C_NoRule f_eNoRule N_NoRule C_NoDoor f_eNoDoor N_NoDoor C_Book T_d A_d0 A_d1 A_d2 A_d3 A_d4 A_d5 f_init f_brule f_brules f_bwith f_bask C_NoDoors f_beq f_is_action f_is_rule f_is_door f_are_distinct_doors f__law_jar f__law_draw f__law_rule f__law_six f__law_come f__law_due f__law_done f_law : Addr} (X : K.In h) (G : h.Ns mainGlobals mg) (hfa : mg "law" = some (.ref fa))
    {its_ACTIONS : Array Value} {n_ACTIONS : Nat} {sl_ACTIONS : Array (Option Value)}
    {its_DOORS : Array Value} {n_DOORS : Nat} {sl_DOORS : Array (Option Value)}
    {t_MOST_ACTIONS : Tok}
    {nm_NoRule q_NoRule : Str} {bs_NoRule bm_NoRule : List Value} {sn_NoRule : List Str} {sub_NoRule : List Value} {ab_NoRule : Bool} {col_NoRule : Option Bool} {dd_NoRule : Option Addr} {m0_NoRule m1_NoRule m2_NoRule m3_NoRule m5_NoRule : Option Value}
    {od_eNoRule an_eNoRule : Option Addr} {sl_eNoRule : Array (Option Value)} {oc_eNoRule kV_eNoRule dc_eNoRule pm_eNoRule cd_eNoRule ct_eNoRule : Value}
    {nm_NoDoor q_NoDoor : Str} {bs_NoDoor bm_NoDoor : List Value} {sn_NoDoor : List Str} {sub_NoDoor : List Value} {ab_NoDoor : Bool} {col_NoDoor : Option Bool} {dd_NoDoor : Option Addr} {m0_NoDoor m1_NoDoor m2_NoDoor m3_NoDoor m5_NoDoor : Option Value}
    {od_eNoDoor an_eNoDoor : Option Addr} {sl_eNoDoor : Array (Option Value)} {oc_eNoDoor kV_eNoDoor dc_eNoDoor pm_eNoDoor cd_eNoDoor ct_eNoDoor : Value}
    {oT : Option Addr} {nT : Nat} {slT : Array (Option Value)} {cT : Value}
    {od_init an_init : Option Addr} {sl_init : Array (Option Value)} {oc_init kV_init dc_init pm_init cd_init ct_init : Value}
    {o_d0 : Option Addr} {n_d0 : Nat} {sl_d0 : Array (Option Value)}
    {o_d1 : Option Addr} {n_d1 : Nat} {sl_d1 : Array (Option Value)}
    {o_d2 : Option Addr} {n_d2 : Nat} {sl_d2 : Array (Option Value)}
    {o_d3 : Option Addr} {n_d3 : Nat} {sl_d3 : Array (Option Value)}
    {o_d4 : Option Addr} {n_d4 : Nat} {sl_d4 : Array (Option Value)}
    {o_d5 : Option Addr} {n_d5 : Nat} {sl_d5 : Array (Option Value)}
    {od_brule an_brule : Option Addr} {sl_brule : Array (Option Value)} {oc_brule kV_brule dc_brule pm_brule cd_brule ct_brule : Value}
    {od_brules an_brules : Option Addr} {sl_brules : Array (Option Value)} {oc_brules kV_brules dc_brules pm_brules cd_brules ct_brules : Value}
    {od_bwith an_bwith : Option Addr} {sl_bwith : Array (Option Value)} {oc_bwith kV_bwith dc_bwith pm_bwith cd_bwith ct_bwith : Value}
    {od_bask an_bask : Option Addr} {sl_bask : Array (Option Value)} {oc_bask kV_bask dc_bask pm_bask cd_bask ct_bask : Value}
    {od_beq an_beq : Option Addr} {sl_beq : Array (Option Value)} {oc_beq kV_beq dc_beq pm_beq cd_beq ct_beq : Value}
    {od_is_action an_is_action : Option Addr} {sl_is_action : Array (Option Value)} {oc_is_action kV_is_action dc_is_action pm_is_action cd_is_action ct_is_action : Value}
    {od_is_rule an_is_rule : Option Addr} {sl_is_rule : Array (Option Value)} {oc_is_rule kV_is_rule dc_is_rule pm_is_rule cd_is_rule ct_is_rule : Value}
    {od_is_door an_is_door : Option Addr} {sl_is_door : Array (Option Value)} {oc_is_door kV_is_door dc_is_door pm_is_door cd_is_door ct_is_door : Value}
    {od_are_distinct_doors an_are_distinct_doors : Option Addr} {sl_are_distinct_doors : Array (Option Value)} {oc_are_distinct_doors kV_are_distinct_doors dc_are_distinct_doors pm_are_distinct_doors cd_are_distinct_doors ct_are_distinct_doors : Value}
    {od__law_jar an__law_jar : Option Addr} {sl__law_jar : Array (Option Value)} {oc__law_jar kV__law_jar dc__law_jar pm__law_jar cd__law_jar ct__law_jar : Value}
    {od__law_draw an__law_draw : Option Addr} {sl__law_draw : Array (Option Value)} {oc__law_draw kV__law_draw dc__law_draw pm__law_draw cd__law_draw ct__law_draw : Value}
    {od__law_rule an__law_rule : Option Addr} {sl__law_rule : Array (Option Value)} {oc__law_rule kV__law_rule dc__law_rule pm__law_rule cd__law_rule ct__law_rule : Value}
    {od__law_six an__law_six : Option Addr} {sl__law_six : Array (Option Value)} {oc__law_six kV__law_six dc__law_six pm__law_six cd__law_six ct__law_six : Value}
    {od__law_come an__law_come : Option Addr} {sl__law_come : Array (Option Value)} {oc__law_come kV__law_come dc__law_come pm__law_come cd__law_come ct__law_come : Value}
    {od__law_due an__law_due : Option Addr} {sl__law_due : Array (Option Value)} {oc__law_due kV__law_due dc__law_due pm__law_due cd__law_due ct__law_due : Value}
    {od__law_done an__law_done : Option Addr} {sl__law_done : Array (Option Value)} {oc__law_done kV__law_done dc__law_done pm__law_done cd__law_done ct__law_done : Value}
    {od_law an_law : Option Addr} {sl_law : Array (Option Value)} {oc_law kV_law dc_law pm_law cd_law ct_law : Value}
    (z_int : PySem.W.nsIn K mainGlobals "int" = some none)
    (z_len : PySem.W.nsIn K mainGlobals "len" = some none)
    (z_abs : PySem.W.nsIn K mainGlobals "abs" = some none)
    (z_max : PySem.W.nsIn K mainGlobals "max" = some none)
    (z_range : PySem.W.nsIn K mainGlobals "range" = some none)
    (z_tuple : PySem.W.nsIn K mainGlobals "tuple" = some none)
    (z_str : PySem.W.nsIn K mainGlobals "str" = some none)
    (z_isinstance : PySem.W.nsIn K mainGlobals "isinstance" = some none)
    (z_all : PySem.W.nsIn K mainGlobals "all" = some none)
    (z_zip : PySem.W.nsIn K mainGlobals "zip" = some none)
    (z_min : PySem.W.nsIn K mainGlobals "min" = some none)
    (z_list : PySem.W.nsIn K mainGlobals "list" = some none)
    (z_set : PySem.W.nsIn K mainGlobals "set" = some none)
    (a_ACTIONS : PySem.W.nsIn K mainGlobals "ACTIONS" = some (some (.ref A_ACTIONS)))
    (l_ACTIONS : K.lookup A_ACTIONS = some ⟨.type "tuple", none, .seq its_ACTIONS n_ACTIONS, sl_ACTIONS⟩)
    (z_ACTIONS : its_ACTIONS.size ≤ sizeLine)
    (v_ACTIONS : Vals (Sh.acts.map V.str) its_ACTIONS.toList)
    (a_DOORS : PySem.W.nsIn K mainGlobals "DOORS" = some (some (.ref A_DOORS)))
    (l_DOORS : K.lookup A_DOORS = some ⟨.type "tuple", none, .seq its_DOORS n_DOORS, sl_DOORS⟩)
    (z_DOORS : its_DOORS.size ≤ sizeLine)
    (v_DOORS : Vals (Sh.doors.map V.str) its_DOORS.toList)
    (a_MOST_ACTIONS : PySem.W.nsIn K mainGlobals "MOST_ACTIONS" = some (some (.int 6 t_MOST_ACTIONS)))
    (a_NoRule : PySem.W.nsIn K mainGlobals "NoRule" = some (some (.ref C_NoRule)))
    (x_NoRule : K.lookup C_NoRule = some (PySem.excClassObj nm_NoRule q_NoRule C_NoRule N_NoRule bs_NoRule bm_NoRule true sn_NoRule sub_NoRule ab_NoRule col_NoRule dd_NoRule m0_NoRule m1_NoRule m2_NoRule m3_NoRule m5_NoRule "ValueError.__new__"))
    (r_NoRule : PySem.HandSPX.refsVE bm_NoRule = true)
    (sa_NoRule : PySem.W.findIn K (.ref C_NoRule) "__setattr__" = some (some (.builtin "object.__setattr__")))
    (no_NoRule : PySem.W.findIn K (.ref C_NoRule) "door" = some none)
    (a_eNoRule : PySem.W.findIn K (.ref C_NoRule) "__init__" = some (some (.ref f_eNoRule)))
    (t_eNoRule : PySem.W.typeIn K (.ref f_eNoRule) = some (.type "function"))
    (l_eNoRule : K.lookup f_eNoRule = some ⟨oc_eNoRule, od_eNoRule, .func (PySem.W.fnOf "__init__" "NoRule.__init__" (defArgs Sh.s_eRule) (defBody Sh.s_eRule) (defScope Sh.s_eRule) .none kV_eNoRule dc_eNoRule pm_eNoRule an_eNoRule cd_eNoRule ct_eNoRule), sl_eNoRule⟩)
    (c_eNoRule : PySem.W.codeIn K cd_eNoRule "NoRule.__init__" = true)
    (k_eNoRule : PySem.W.keepIn K (.ref f_eNoRule) = true)
    (kc_NoRule : PySem.W.keepIn K (.ref C_NoRule) = true)
    (ec_NoRule : PySem.W.subIn K (.ref C_NoRule) (.type "BaseException") = some true)
    (tc_NoRule : PySem.W.typeIn K (.ref C_NoRule) = some (.type "type"))
    (a_NoDoor : PySem.W.nsIn K mainGlobals "NoDoor" = some (some (.ref C_NoDoor)))
    (x_NoDoor : K.lookup C_NoDoor = some (PySem.excClassObj nm_NoDoor q_NoDoor C_NoDoor N_NoDoor bs_NoDoor bm_NoDoor true sn_NoDoor sub_NoDoor ab_NoDoor col_NoDoor dd_NoDoor m0_NoDoor m1_NoDoor m2_NoDoor m3_NoDoor m5_NoDoor "ValueError.__new__"))
    (r_NoDoor : PySem.HandSPX.refsVE bm_NoDoor = true)
    (sa_NoDoor : PySem.W.findIn K (.ref C_NoDoor) "__setattr__" = some (some (.builtin "object.__setattr__")))
    (no_NoDoor : PySem.W.findIn K (.ref C_NoDoor) "door" = some none)
    (a_eNoDoor : PySem.W.findIn K (.ref C_NoDoor) "__init__" = some (some (.ref f_eNoDoor)))
    (t_eNoDoor : PySem.W.typeIn K (.ref f_eNoDoor) = some (.type "function"))
    (l_eNoDoor : K.lookup f_eNoDoor = some ⟨oc_eNoDoor, od_eNoDoor, .func (PySem.W.fnOf "__init__" "NoDoor.__init__" (defArgs Sh.s_eDoor) (defBody Sh.s_eDoor) (defScope Sh.s_eDoor) .none kV_eNoDoor dc_eNoDoor pm_eNoDoor an_eNoDoor cd_eNoDoor ct_eNoDoor), sl_eNoDoor⟩)
    (c_eNoDoor : PySem.W.codeIn K cd_eNoDoor "NoDoor.__init__" = true)
    (k_eNoDoor : PySem.W.keepIn K (.ref f_eNoDoor) = true)
    (kc_NoDoor : PySem.W.keepIn K (.ref C_NoDoor) = true)
    (ec_NoDoor : PySem.W.subIn K (.ref C_NoDoor) (.type "BaseException") = some true)
    (tc_NoDoor : PySem.W.typeIn K (.ref C_NoDoor) = some (.type "type"))
    (a_Book : PySem.W.nsIn K mainGlobals "Book" = some (some (.ref C_Book)))
    (pg_Book : PySem.W.plainGet K C_Book Str.empty = true)
    (hd_Book : PySem.W.hasDictIn K C_Book = true)
    (po_Book : PySem.W.plainOver K C_Book = true)
    (sa_Book : PySem.W.findIn K (.ref C_Book) "__setattr__" = some (some (.builtin "object.__setattr__")))
    (mk_Book : PySem.W.makesIn K C_Book = true)
    (kc_Book : PySem.W.keepIn K (.ref C_Book) = true)
    (n_Book__rules : PySem.W.findIn K (.ref C_Book) "_rules" = some none)
    (a_init : PySem.W.findIn K (.ref C_Book) "__init__" = some (some (.ref f_init)))
    (i_init : PySem.W.isFn K (.ref f_init) = true)
    (l_init : K.lookup f_init = some ⟨oc_init, od_init, .func (PySem.W.fnOf "__init__" "Book.__init__" (defArgs Sh.s_init) (defBody Sh.s_init) (defScope Sh.s_init) (.ref T_d) kV_init dc_init pm_init an_init cd_init ct_init), sl_init⟩)
    (c_init : PySem.W.codeIn K cd_init "Book.__init__" = true)
    (k_init : PySem.W.keepIn K (.ref f_init) = true)
    (l_d : K.lookup T_d = some ⟨cT, oT, .seq #[.ref A_d0, .ref A_d1, .ref A_d2, .ref A_d3, .ref A_d4, .ref A_d5] nT, slT⟩)
    (l_d0 : K.lookup A_d0 = some ⟨.type "tuple", o_d0, .seq #[] n_d0, sl_d0⟩)
    (l_d1 : K.lookup A_d1 = some ⟨.type "tuple", o_d1, .seq #[] n_d1, sl_d1⟩)
    (l_d2 : K.lookup A_d2 = some ⟨.type "tuple", o_d2, .seq #[] n_d2, sl_d2⟩)
    (l_d3 : K.lookup A_d3 = some ⟨.type "tuple", o_d3, .seq #[] n_d3, sl_d3⟩)
    (l_d4 : K.lookup A_d4 = some ⟨.type "tuple", o_d4, .seq #[] n_d4, sl_d4⟩)
    (l_d5 : K.lookup A_d5 = some ⟨.type "tuple", o_d5, .seq #[] n_d5, sl_d5⟩)
    (a_brule : PySem.W.findIn K (.ref C_Book) "rule" = some (some (.ref f_brule)))
    (i_brule : PySem.W.isFn K (.ref f_brule) = true)
    (l_brule : K.lookup f_brule = some ⟨oc_brule, od_brule, .func (PySem.W.fnOf "rule" "Book.rule" (defArgs Sh.s_brule) (defBody Sh.s_brule) (defScope Sh.s_brule) .none kV_brule dc_brule pm_brule an_brule cd_brule ct_brule), sl_brule⟩)
    (c_brule : PySem.W.codeIn K cd_brule "Book.rule" = true)
    (k_brule : PySem.W.keepIn K (.ref f_brule) = true)
    (a_brules : PySem.W.findIn K (.ref C_Book) "rules" = some (some (.ref f_brules)))
    (i_brules : PySem.W.isFn K (.ref f_brules) = true)
    (l_brules : K.lookup f_brules = some ⟨oc_brules, od_brules, .func (PySem.W.fnOf "rules" "Book.rules" (defArgs Sh.s_brules) (defBody Sh.s_brules) (defScope Sh.s_brules) .none kV_brules dc_brules pm_brules an_brules cd_brules ct_brules), sl_brules⟩)
    (c_brules : PySem.W.codeIn K cd_brules "Book.rules" = true)
    (k_brules : PySem.W.keepIn K (.ref f_brules) = true)
    (a_bwith : PySem.W.findIn K (.ref C_Book) "with_rule" = some (some (.ref f_bwith)))
    (i_bwith : PySem.W.isFn K (.ref f_bwith) = true)
    (l_bwith : K.lookup f_bwith = some ⟨oc_bwith, od_bwith, .func (PySem.W.fnOf "with_rule" "Book.with_rule" (defArgs Sh.s_with) (defBody Sh.s_with) (defScope Sh.s_with) .none kV_bwith dc_bwith pm_bwith an_bwith cd_bwith ct_bwith), sl_bwith⟩)
    (c_bwith : PySem.W.codeIn K cd_bwith "Book.with_rule" = true)
    (k_bwith : PySem.W.keepIn K (.ref f_bwith) = true)
    (a_bask : PySem.W.findIn K (.ref C_Book) "asking" = some (some (.ref f_bask)))
    (i_bask : PySem.W.isFn K (.ref f_bask) = true)
    (l_bask : K.lookup f_bask = some ⟨oc_bask, od_bask, .func (PySem.W.fnOf "asking" "Book.asking" (defArgs Sh.s_ask) (defBody Sh.s_ask) (defScope Sh.s_ask) .none kV_bask dc_bask pm_bask an_bask cd_bask ct_bask), sl_bask⟩)
    (c_bask : PySem.W.codeIn K cd_bask "Book.asking" = true)
    (k_bask : PySem.W.keepIn K (.ref f_bask) = true)
    (a_NoDoors : PySem.W.nsIn K mainGlobals "NoDoors" = some (some (.ref C_NoDoors)))
    (xP_NoDoors : PySem.W.excIn K C_NoDoors [.type "ValueError", .type "Exception", .type "BaseException", .type "object"] "ValueError.__new__" = true)
    (kc_NoDoors : PySem.W.keepIn K (.ref C_NoDoors) = true)
    (ec_NoDoors : PySem.W.subIn K (.ref C_NoDoors) (.type "BaseException") = some true)
    (tc_NoDoors : PySem.W.typeIn K (.ref C_NoDoors) = some (.type "type"))
    (a_beq : PySem.W.findIn K (.ref C_Book) "__eq__" = some (some (.ref f_beq)))
    (i_beq : PySem.W.isFn K (.ref f_beq) = true)
    (l_beq : K.lookup f_beq = some ⟨oc_beq, od_beq, .func (PySem.W.fnOf "__eq__" "Book.__eq__" (defArgs Sh.s_eq) (defBody Sh.s_eq) (defScope Sh.s_eq) .none kV_beq dc_beq pm_beq an_beq cd_beq ct_beq), sl_beq⟩)
    (c_beq : PySem.W.codeIn K cd_beq "Book.__eq__" = true)
    (k_beq : PySem.W.keepIn K (.ref f_beq) = true)
    (ha_Book : PySem.W.findIn K (.ref C_Book) "__class__" = some (some (.builtin "object.__class__")))
    (hn_Book : PySem.W.specialIn K (.builtin "object.__class__") "__get__" = some (some (.builtin "getset_descriptor.__get__")))
    (ht_Book : PySem.W.takesIn K (.builtin "object.__class__") = some true)
    (hm_Book : PySem.W.mroIn K C_Book (.type "object") = some true)
    (hdx_NoDoor : PySem.W.hasDictIn K C_NoDoor = true)
    (ga_NoDoor : PySem.W.findIn K (.ref C_NoDoor) "__getattribute__" = some (some (.builtin "BaseException.__getattribute__")))
    (gg_NoDoor : PySem.W.findIn K (.ref C_NoDoor) "__getattr__" = some none)
    (hdx_NoRule : PySem.W.hasDictIn K C_NoRule = true)
    (ga_NoRule : PySem.W.findIn K (.ref C_NoRule) "__getattribute__" = some (some (.builtin "BaseException.__getattribute__")))
    (gg_NoRule : PySem.W.findIn K (.ref C_NoRule) "__getattr__" = some none)
    (s_dd : PySem.W.subIn K (.ref C_NoDoor) (.ref C_NoDoor) = some true)
    (s_rd : PySem.W.subIn K (.ref C_NoRule) (.ref C_NoDoor) = some false)
    (s_rr : PySem.W.subIn K (.ref C_NoRule) (.ref C_NoRule) = some true)
    (a_is_action : PySem.W.nsIn K mainGlobals "is_action" = some (some (.ref f_is_action)))
    (l_is_action : K.lookup f_is_action = some ⟨oc_is_action, od_is_action, .func (PySem.W.fnOf "is_action" "is_action" (defArgs Sh.s_isact) (defBody Sh.s_isact) (defScope Sh.s_isact) .none kV_is_action dc_is_action pm_is_action an_is_action cd_is_action ct_is_action), sl_is_action⟩)
    (c_is_action : PySem.W.codeIn K cd_is_action "is_action" = true)
    (k_is_action : PySem.W.keepIn K (.ref f_is_action) = true)
    (a_is_rule : PySem.W.nsIn K mainGlobals "is_rule" = some (some (.ref f_is_rule)))
    (l_is_rule : K.lookup f_is_rule = some ⟨oc_is_rule, od_is_rule, .func (PySem.W.fnOf "is_rule" "is_rule" (defArgs Sh.s_isrule) (defBody Sh.s_isrule) (defScope Sh.s_isrule) .none kV_is_rule dc_is_rule pm_is_rule an_is_rule cd_is_rule ct_is_rule), sl_is_rule⟩)
    (c_is_rule : PySem.W.codeIn K cd_is_rule "is_rule" = true)
    (k_is_rule : PySem.W.keepIn K (.ref f_is_rule) = true)
    (a_is_door : PySem.W.nsIn K mainGlobals "is_door" = some (some (.ref f_is_door)))
    (l_is_door : K.lookup f_is_door = some ⟨oc_is_door, od_is_door, .func (PySem.W.fnOf "is_door" "is_door" (defArgs Sh.s_isdoor) (defBody Sh.s_isdoor) (defScope Sh.s_isdoor) .none kV_is_door dc_is_door pm_is_door an_is_door cd_is_door ct_is_door), sl_is_door⟩)
    (c_is_door : PySem.W.codeIn K cd_is_door "is_door" = true)
    (k_is_door : PySem.W.keepIn K (.ref f_is_door) = true)
    (a_are_distinct_doors : PySem.W.nsIn K mainGlobals "are_distinct_doors" = some (some (.ref f_are_distinct_doors)))
    (l_are_distinct_doors : K.lookup f_are_distinct_doors = some ⟨oc_are_distinct_doors, od_are_distinct_doors, .func (PySem.W.fnOf "are_distinct_doors" "are_distinct_doors" (defArgs Sh.s_dist) (defBody Sh.s_dist) (defScope Sh.s_dist) .none kV_are_distinct_doors dc_are_distinct_doors pm_are_distinct_doors an_are_distinct_doors cd_are_distinct_doors ct_are_distinct_doors), sl_are_distinct_doors⟩)
    (c_are_distinct_doors : PySem.W.codeIn K cd_are_distinct_doors "are_distinct_doors" = true)
    (k_are_distinct_doors : PySem.W.keepIn K (.ref f_are_distinct_doors) = true)
    (a__law_jar : PySem.W.nsIn K mainGlobals "_law_jar" = some (some (.ref f__law_jar)))
    (l__law_jar : K.lookup f__law_jar = some ⟨oc__law_jar, od__law_jar, .func (PySem.W.fnOf "_law_jar" "_law_jar" (defArgs Sh.s_jar) (defBody Sh.s_jar) (defScope Sh.s_jar) .none kV__law_jar dc__law_jar pm__law_jar an__law_jar cd__law_jar ct__law_jar), sl__law_jar⟩)
    (c__law_jar : PySem.W.codeIn K cd__law_jar "_law_jar" = true)
    (k__law_jar : PySem.W.keepIn K (.ref f__law_jar) = true)
    (a__law_draw : PySem.W.nsIn K mainGlobals "_law_draw" = some (some (.ref f__law_draw)))
    (l__law_draw : K.lookup f__law_draw = some ⟨oc__law_draw, od__law_draw, .func (PySem.W.fnOf "_law_draw" "_law_draw" (defArgs Sh.s_draw) (defBody Sh.s_draw) (defScope Sh.s_draw) .none kV__law_draw dc__law_draw pm__law_draw an__law_draw cd__law_draw ct__law_draw), sl__law_draw⟩)
    (c__law_draw : PySem.W.codeIn K cd__law_draw "_law_draw" = true)
    (k__law_draw : PySem.W.keepIn K (.ref f__law_draw) = true)
    (a__law_rule : PySem.W.nsIn K mainGlobals "_law_rule" = some (some (.ref f__law_rule)))
    (l__law_rule : K.lookup f__law_rule = some ⟨oc__law_rule, od__law_rule, .func (PySem.W.fnOf "_law_rule" "_law_rule" (defArgs Sh.s_rule) (defBody Sh.s_rule) (defScope Sh.s_rule) .none kV__law_rule dc__law_rule pm__law_rule an__law_rule cd__law_rule ct__law_rule), sl__law_rule⟩)
    (c__law_rule : PySem.W.codeIn K cd__law_rule "_law_rule" = true)
    (k__law_rule : PySem.W.keepIn K (.ref f__law_rule) = true)
    (a__law_six : PySem.W.nsIn K mainGlobals "_law_six" = some (some (.ref f__law_six)))
    (l__law_six : K.lookup f__law_six = some ⟨oc__law_six, od__law_six, .func (PySem.W.fnOf "_law_six" "_law_six" (defArgs Sh.s_six) (defBody Sh.s_six) (defScope Sh.s_six) .none kV__law_six dc__law_six pm__law_six an__law_six cd__law_six ct__law_six), sl__law_six⟩)
    (c__law_six : PySem.W.codeIn K cd__law_six "_law_six" = true)
    (k__law_six : PySem.W.keepIn K (.ref f__law_six) = true)
    (a__law_come : PySem.W.nsIn K mainGlobals "_law_come" = some (some (.ref f__law_come)))
    (l__law_come : K.lookup f__law_come = some ⟨oc__law_come, od__law_come, .func (PySem.W.fnOf "_law_come" "_law_come" (defArgs Sh.s_come) (defBody Sh.s_come) (defScope Sh.s_come) .none kV__law_come dc__law_come pm__law_come an__law_come cd__law_come ct__law_come), sl__law_come⟩)
    (c__law_come : PySem.W.codeIn K cd__law_come "_law_come" = true)
    (k__law_come : PySem.W.keepIn K (.ref f__law_come) = true)
    (a__law_due : PySem.W.nsIn K mainGlobals "_law_due" = some (some (.ref f__law_due)))
    (l__law_due : K.lookup f__law_due = some ⟨oc__law_due, od__law_due, .func (PySem.W.fnOf "_law_due" "_law_due" (defArgs Sh.s_due) (defBody Sh.s_due) (defScope Sh.s_due) .none kV__law_due dc__law_due pm__law_due an__law_due cd__law_due ct__law_due), sl__law_due⟩)
    (c__law_due : PySem.W.codeIn K cd__law_due "_law_due" = true)
    (k__law_due : PySem.W.keepIn K (.ref f__law_due) = true)
    (a__law_done : PySem.W.nsIn K mainGlobals "_law_done" = some (some (.ref f__law_done)))
    (l__law_done : K.lookup f__law_done = some ⟨oc__law_done, od__law_done, .func (PySem.W.fnOf "_law_done" "_law_done" (defArgs Sh.s_done) (defBody Sh.s_done) (defScope Sh.s_done) .none kV__law_done dc__law_done pm__law_done an__law_done cd__law_done ct__law_done), sl__law_done⟩)
    (c__law_done : PySem.W.codeIn K cd__law_done "_law_done" = true)
    (k__law_done : PySem.W.keepIn K (.ref f__law_done) = true)
    (a_law : PySem.W.nsIn K mainGlobals "law" = some (some (.ref f_law)))
    (l_law : K.lookup f_law = some ⟨oc_law, od_law, .func (PySem.W.fnOf "law" "law" (defArgs Sh.s_law) (defBody Sh.s_law) (defScope Sh.s_law) .none kV_law dc_law pm_law an_law cd_law ct_law), sl_law⟩)
    (c_law : PySem.W.codeIn K cd_law "law" = true)
    (k_law : PySem.W.keepIn K (.ref f_law) = true) :
    ∃ fd : FuncData, (∀ (s : Shared) (v : Value), BindsTo s fd ⟨[v], []⟩ [("script", v)]) ∧ ∀ base : Heap, K.In base → base.Ns mainGlobals mg → FnOk l.prog w K mg base CX0 9 fa fd ["script"] (spLaw K) := by
  have e := hfa.symm.trans (PySem.W.mg_of X G a_law)
  cases e
  have B : TxtB mg := ⟨PySem.W.mg_none_of X G z_int, PySem.W.mg_none_of X G z_len, PySem.W.mg_none_of X G z_abs, PySem.W.mg_none_of X G z_max, PySem.W.mg_none_of X G z_range, PySem.W.mg_none_of X G z_tuple, PySem.W.mg_none_of X G z_str, PySem.W.mg_none_of X G z_isinstance, PySem.W.mg_none_of X G z_all, PySem.W.mg_none_of X G z_zip⟩
  have TK : TxtK K mg A_ACTIONS A_DOORS := ⟨PySem.W.mg_of X G a_ACTIONS, PySem.W.mg_of X G a_DOORS, ⟨_, PySem.W.mg_of X G a_MOST_ACTIONS⟩, ⟨_, _, _, l_ACTIONS, rfl, rfl, rfl, z_ACTIONS, v_ACTIONS⟩, ⟨_, _, _, l_DOORS, rfl, rfl, rfl, z_DOORS, v_DOORS⟩⟩
  have TE1 : ErrTxt K mg "NoRule" "door" C_NoRule f_eNoRule := ⟨⟨⟨_, _, _, _, _, _, _, _, _, _, _, _, _, _, _, x_NoRule, r_NoRule⟩, sa_NoRule, ec_NoRule, tc_NoRule, kc_NoRule⟩, no_NoRule, a_eNoRule, t_eNoRule, PySem.W.mg_of X G a_NoRule⟩
  have TE2 : ErrTxt K mg "NoDoor" "door" C_NoDoor f_eNoDoor := ⟨⟨⟨_, _, _, _, _, _, _, _, _, _, _, _, _, _, _, x_NoDoor, r_NoDoor⟩, sa_NoDoor, ec_NoDoor, tc_NoDoor, kc_NoDoor⟩, no_NoDoor, a_eNoDoor, t_eNoDoor, PySem.W.mg_of X G a_NoDoor⟩
  have TB : TxtBook K mg C_Book := ⟨⟨pg_Book, hd_Book, po_Book, sa_Book⟩, n_Book__rules, PySem.W.mg_of X G a_Book⟩
  have FE1 := fun_mk (st := s_eRule) l_eNoRule c_eNoRule k_eNoRule
  have FE2 := fun_mk (st := s_eDoor) l_eNoDoor c_eNoDoor k_eNoDoor
  have FI : FunD K "__init__" "Book.__init__" (defArgs s_init) (defBody s_init) (defScope s_init) [.ref A_d0, .ref A_d1, .ref A_d2, .ref A_d3, .ref A_d4, .ref A_d5] [] f_init _ := ⟨⟨_, _, _, _, _, _, _, _, _, _, rfl, l_init, c_init, .inr ⟨(fun z => by cases z), _, _, [.ref A_d0, .ref A_d1, .ref A_d2, .ref A_d3, .ref A_d4, .ref A_d5], _, rfl, l_d, rfl, (.cons rfl (.cons rfl (.cons rfl (.cons rfl (.cons rfl (.cons rfl .nil))))))⟩, .inl rfl⟩, k_init⟩
  have F_brule := fun_mk (st := s_brule) l_brule c_brule k_brule
  have F_brules := fun_mk (st := s_brules) l_brules c_brules k_brules
  have F_bwith := fun_mk (st := s_with) l_bwith c_bwith k_bwith
  have F_bask := fun_mk (st := s_ask) l_bask c_bask k_bask
  have F_beq := fun_mk (st := s_eq) l_beq c_beq k_beq
  have F_is_action := fun_mk (st := s_isact) l_is_action c_is_action k_is_action
  have F_is_rule := fun_mk (st := s_isrule) l_is_rule c_is_rule k_is_rule
  have F_is_door := fun_mk (st := s_isdoor) l_is_door c_is_door k_is_door
  have F_are_distinct_doors := fun_mk (st := s_dist) l_are_distinct_doors c_are_distinct_doors k_are_distinct_doors
  have F__law_jar := fun_mk (st := s_jar) l__law_jar c__law_jar k__law_jar
  have F__law_draw := fun_mk (st := s_draw) l__law_draw c__law_draw k__law_draw
  have F__law_rule := fun_mk (st := s_rule) l__law_rule c__law_rule k__law_rule
  have F__law_six := fun_mk (st := s_six) l__law_six c__law_six k__law_six
  have F__law_come := fun_mk (st := s_come) l__law_come c__law_come k__law_come
  have F__law_due := fun_mk (st := s_due) l__law_due c__law_due k__law_due
  have F__law_done := fun_mk (st := s_done) l__law_done c__law_done k__law_done
  have F_law := fun_mk (st := s_law) l_law c_law k_law
  have bE1 := FE1.binds (ps := ["self", "door"]) fun _ _ _ _ _ _ us hl => match us, hl with | [_, _], _ => rfl
  have bE2 := FE2.binds (ps := ["self", "door"]) fun _ _ _ _ _ _ us hl => match us, hl with | [_, _], _ => rfl
  have bR := F_brule.binds (ps := ["self", "door"]) fun _ _ _ _ _ _ us hl => match us, hl with | [_, _], _ => rfl
  have bRs := F_brules.binds (ps := ["self"]) fun _ _ _ _ _ _ us hl => match us, hl with | [_], _ => rfl
  have bAct := F_is_action.binds (ps := ["value"]) fun _ _ _ _ _ _ us hl => match us, hl with | [_], _ => rfl
  have bRule := F_is_rule.binds (ps := ["value"]) fun _ _ _ _ _ _ us hl => match us, hl with | [_], _ => rfl
  have bDoor := F_is_door.binds (ps := ["value"]) fun _ _ _ _ _ _ us hl => match us, hl with | [_], _ => rfl
  have bWith := F_bwith.binds (ps := ["self", "door", "rule"]) fun _ _ _ _ _ _ us hl => match us, hl with | [_, _, _], _ => rfl
  have bAsk := F_bask.binds (ps := ["self", "doors"]) fun _ _ _ _ _ _ us hl => match us, hl with | [_, _], _ => rfl
  have bDist := F_are_distinct_doors.binds (ps := ["value"]) fun _ _ _ _ _ _ us hl => match us, hl with | [_], _ => rfl
  have bEq := F_beq.binds (ps := ["self", "other"]) fun _ _ _ _ _ _ us hl => match us, hl with | [_, _], _ => rfl
  have bJ := F__law_jar.binds (ps := ["script", "k"]) fun _ _ _ _ _ _ us hl => match us, hl with | [_, _], _ => rfl
  have bD := F__law_draw.binds (ps := ["jar", "many"]) fun _ _ _ _ _ _ us hl => match us, hl with | [_, _], _ => rfl
  have bRu := F__law_rule.binds (ps := ["jar", "most"]) fun _ _ _ _ _ _ us hl => match us, hl with | [_, _], _ => rfl
  have bS := F__law_six.binds (ps := ["jar"]) fun _ _ _ _ _ _ us hl => match us, hl with | [_], _ => rfl
  have bC := F__law_come.binds (ps := ["work", "deed", "thing", "fresh"]) fun _ _ _ _ _ _ us hl => match us, hl with | [_, _, _, _], _ => rfl
  have bU := F__law_due.binds (ps := ["names", "six", "deed", "thing", "fresh"]) fun _ _ _ _ _ _ us hl => match us, hl with | [_, _, _, _, _], _ => rfl
  have bN := F__law_done.binds (ps := ["jar", "names", "held"]) fun _ _ _ _ _ _ us hl => match us, hl with | [_, _, _], _ => rfl
  obtain ⟨ds6, v6, b6⟩ := init_b6 FI
  cases v6
  refine ⟨PySem.W.fnOf "law" "law" (defArgs s_law) (defBody s_law) (defScope s_law) .none kV_law dc_law pm_law an_law cd_law ct_law, fun s v => .of_eq rfl, fun base _ _ => ?_⟩
  have GI := ok_init (P := l.prog) (w := w) (base := base) FI B TK TB (PySem.W.mg_of X G a_is_action) F_is_action bAct (PySem.W.mg_of X G a_is_rule) F_is_rule bRule TE1 FE1 bE1
  have GR := ok_brule (P := l.prog) (w := w) (base := base) F_brule B TK TB (PySem.W.mg_of X G a_is_door) F_is_door bDoor TE2 FE2 bE2
  have GRs := ok_brules (P := l.prog) (w := w) (base := base) F_brules TB
  have MK : Mk K C_Book f_init := ⟨mk_Book, a_init, i_init, kc_Book⟩
  have M : MkB l.prog w K mg base C_Book C_NoRule f_init _ (.ref A_d0) (.ref A_d1) (.ref A_d2) (.ref A_d3) (.ref A_d4) (.ref A_d5) := ⟨MK, GI, fun H => .cons (empty_at l_d0) (.cons (empty_at l_d1) (.cons (empty_at l_d2) (.cons (empty_at l_d3) (.cons (empty_at l_d4) (.cons (empty_at l_d5) .nil)))))⟩
  have mR : Meth K C_Book "rule" f_brule := ⟨a_brule, i_brule, k_brule⟩
  have mRs : Meth K C_Book "rules" f_brules := ⟨a_brules, i_brules, k_brules⟩
  have GW := ok_with (P := l.prog) (w := w) (base := base) F_bwith B TK TB (PySem.W.mg_of X G a_is_door) F_is_door bDoor TE2 FE2 bE2 MK GI b6
  have mW : Meth K C_Book "with_rule" f_bwith := ⟨a_bwith, i_bwith, k_bwith⟩
  have ON : OwnTxt K mg "NoDoors" C_NoDoors := ⟨xP_NoDoors, PySem.W.mg_of X G a_NoDoors, kc_NoDoors, ec_NoDoors, tc_NoDoors⟩
  have GDi := ok_dist (P := l.prog) (w := w) (base := base) F_are_distinct_doors B (PySem.W.mg_none_of X G z_set) TK (PySem.W.mg_of X G a_is_door) F_is_door bDoor
  have GA := ok_ask (P := l.prog) (w := w) (base := base) F_bask B TK TB ON (PySem.W.mg_of X G a_are_distinct_doors) k_are_distinct_doors bDist GDi MK GI b6
  have mA : Meth K C_Book "asking" f_bask := ⟨a_bask, i_bask, k_bask⟩
  have TI : InsTxt K C_Book := ⟨ha_Book, hn_Book, ht_Book, hm_Book, kit_self⟩
  have GE := ok_eq (P := l.prog) (w := w) (base := base) F_beq B TB TI
  have XT : ExTxt K C_NoDoor C_NoRule := ⟨PySem.W.exm_ref ec_NoDoor hdx_NoDoor tc_NoDoor s_dd, PySem.W.exm_ref ec_NoDoor hdx_NoDoor tc_NoDoor s_rd, PySem.W.exm_ref ec_NoRule hdx_NoRule tc_NoRule s_rr, ⟨ga_NoDoor, gg_NoDoor, ec_NoDoor, hdx_NoDoor⟩, ⟨ga_NoRule, gg_NoRule, ec_NoRule, hdx_NoRule⟩⟩
  have GJ := ok_jar (P := l.prog) (w := w) (base := base) F__law_jar B
  have GD := ok_draw (P := l.prog) (w := w) (base := base) (K := K) F__law_draw B
  have GRu := ok_rule (P := l.prog) (w := w) (base := base) (K := K) F__law_rule B (PySem.W.mg_of X G a__law_draw) F__law_draw bD
  have GS := ok_six (P := l.prog) (w := w) (base := base) F__law_six B (PySem.W.mg_of X G a__law_draw) F__law_draw bD (PySem.W.mg_of X G a__law_rule) F__law_rule bRu
  have GC := ok_come (P := l.prog) (w := w) (base := base) F__law_come TB GW mW bWith GA mA bAsk TE2 TE1 XT
  have GU := ok_due (P := l.prog) (w := w) (base := base) F__law_due B
  have GN := ok_done (P := l.prog) (w := w) (base := base) F__law_done B TB (PySem.W.mg_of X G a__law_draw) k__law_draw bD GD (PySem.W.mg_of X G a__law_rule) k__law_rule bRu GRu (PySem.W.mg_of X G a__law_come) k__law_come bC GC (PySem.W.mg_of X G a__law_due) k__law_due bU GU mRs bRs GRs
  exact ok_law (C := C_Book) (CR := C_NoRule) F_law B (PySem.W.mg_none_of X G z_min) (PySem.W.mg_none_of X G z_list) TB (PySem.W.mg_of X G a__law_jar) k__law_jar bJ GJ (PySem.W.mg_of X G a__law_six) k__law_six bS GS M b6 (PySem.W.mg_of X G a__law_done) k__law_done bN GN mRs bRs GRs mR bR GR GE a_beq i_beq bEq

theorem walk {l : PySem.W.OpenLaw} {q : Program} {loose : List Str} {XP : (Str → Option Value) → Heap → Prop} {YP : World → Heap → Prop} {d : DefRec} {K : Params → PySem.W.Frag} (hn : l.most = some 63) (hdf : d.params.defaults = [])
    (hY : ∀ (w : World) (h : Heap), YP w h → (K w.params).In h)
    (F : ∀ (w : World) (mg : Str → Option Value) (fa : Addr) (h : Heap), (K w.params).In h → h.Ns mainGlobals mg → mg d.name = some (.ref fa) →
      ∃ fd : FuncData, (∀ (s : Shared) (u : Value), BindsTo s fd ⟨[u], []⟩ [("script", u)]) ∧ ∀ base : Heap, (K w.params).In base → base.Ns mainGlobals mg → FnOk l.prog w (K w.params) mg base CX0 9 fa fd ["script"] (spLaw (K w.params))) :
    PySem.W.WalkO q loose XP YP l.row.toRowW d [] (fun f vs => PySem.call f vs) :=
  L2.walk_of (n := 63) (k := 9) (x := "script") (CX := fun _ => CX0) (sp := fun w => spLaw (K w.params)) hn (by decide) hdf ⟨rfl, by decide, by decide⟩ hY F (fun _ _ a ns hl _ hS => ⟨a, ns, rfl, hS, hl, fun _ => rfl⟩) fun _ _ _ _ _ z => z
end Sh

open PySem PySem.W PyProof.Rows
set_option maxRecDepth 100000 in
set_option maxHeartbeats 0 in
theorem PySem.Challenge.cw_lastshown_k05_whole_book_histories_holds : PySem.Challenge.rw_lastshown_k05_whole_book_histories.Holds := by
  w_on; o_law; k_head; (case hw => w_witness2)
  k_fill
  refine Sh.walk (l := PySem.Challenge.rw_lastshown_k05_whole_book_histories) rfl rfl (fun w h Y => PySem.W.kIn_of Y) ?F
  case F =>
    intro w mg fa h KX G hmg
    refine' Sh.all_mk KX G hmg ?z_int ?z_len ?z_abs ?z_max ?z_range ?z_tuple ?z_str ?z_isinstance ?z_all ?z_zip ?z_min ?z_list ?z_set ?a_ACTIONS ?l_ACTIONS ?z_ACTIONS ?v_ACTIONS ?a_DOORS ?l_DOORS ?z_DOORS ?v_DOORS ?a_MOST_ACTIONS ?a_NoRule ?x_NoRule ?r_NoRule ?sa_NoRule ?no_NoRule ?a_eNoRule ?t_eNoRule ?l_eNoRule ?c_eNoRule ?k_eNoRule ?kc_NoRule ?ec_NoRule ?tc_NoRule ?a_NoDoor ?x_NoDoor ?r_NoDoor ?sa_NoDoor ?no_NoDoor ?a_eNoDoor ?t_eNoDoor ?l_eNoDoor ?c_eNoDoor ?k_eNoDoor ?kc_NoDoor ?ec_NoDoor ?tc_NoDoor ?a_Book ?pg_Book ?hd_Book ?po_Book ?sa_Book ?mk_Book ?kc_Book ?n_Book__rules ?a_init ?i_init ?l_init ?c_init ?k_init ?l_d ?l_d0 ?l_d1 ?l_d2 ?l_d3 ?l_d4 ?l_d5 ?a_brule ?i_brule ?l_brule ?c_brule ?k_brule ?a_brules ?i_brules ?l_brules ?c_brules ?k_brules ?a_bwith ?i_bwith ?l_bwith ?c_bwith ?k_bwith ?a_bask ?i_bask ?l_bask ?c_bask ?k_bask ?a_NoDoors ?xP_NoDoors ?kc_NoDoors ?ec_NoDoors ?tc_NoDoors ?a_beq ?i_beq ?l_beq ?c_beq ?k_beq ?ha_Book ?hn_Book ?ht_Book ?hm_Book ?hdx_NoDoor ?ga_NoDoor ?gg_NoDoor ?hdx_NoRule ?ga_NoRule ?gg_NoRule ?s_dd ?s_rd ?s_rr ?a_is_action ?l_is_action ?c_is_action ?k_is_action ?a_is_rule ?l_is_rule ?c_is_rule ?k_is_rule ?a_is_door ?l_is_door ?c_is_door ?k_is_door ?a_are_distinct_doors ?l_are_distinct_doors ?c_are_distinct_doors ?k_are_distinct_doors ?a__law_jar ?l__law_jar ?c__law_jar ?k__law_jar ?a__law_draw ?l__law_draw ?c__law_draw ?k__law_draw ?a__law_rule ?l__law_rule ?c__law_rule ?k__law_rule ?a__law_six ?l__law_six ?c__law_six ?k__law_six ?a__law_come ?l__law_come ?c__law_come ?k__law_come ?a__law_due ?l__law_due ?c__law_due ?k__law_due ?a__law_done ?l__law_done ?c__law_done ?k__law_done ?a_law ?l_law ?c_law ?k_law
    (case z_int => k_is)
    (case z_len => k_is)
    (case z_abs => k_is)
    (case z_max => k_is)
    (case z_range => k_is)
    (case z_tuple => k_is)
    (case z_str => k_is)
    (case z_isinstance => k_is)
    (case z_all => k_is)
    (case z_zip => k_is)
    (case z_min => k_is)
    (case z_list => k_is)
    (case z_set => k_is)
    (case a_ACTIONS => k_is)
    (case l_ACTIONS => k_is)
    (case z_ACTIONS => decide +kernel)
    (case v_ACTIONS => exact (.cons ⟨_, rfl⟩ (.cons ⟨_, rfl⟩ (.cons ⟨_, rfl⟩ (.cons ⟨_, rfl⟩ (.cons ⟨_, rfl⟩ .nil))))))
    (case a_DOORS => k_is)
    (case l_DOORS => k_is)
    (case z_DOORS => decide +kernel)
    (case v_DOORS => exact (.cons ⟨_, rfl⟩ (.cons ⟨_, rfl⟩ (.cons ⟨_, rfl⟩ (.cons ⟨_, rfl⟩ (.cons ⟨_, rfl⟩ (.cons ⟨_, rfl⟩ .nil)))))))
    (case a_MOST_ACTIONS => k_is)
    (case a_NoRule => k_is)
    (case x_NoRule => k_is)
    (case r_NoRule => first | rfl | decide +kernel)
    (case sa_NoRule => k_is)
    (case no_NoRule => k_is)
    (case a_eNoRule => k_is)
    (case t_eNoRule => k_is)
    (case l_eNoRule => k_is)
    (case c_eNoRule => k_is)
    (case k_eNoRule => k_is)
    (case kc_NoRule => k_is)
    (case ec_NoRule => k_is)
    (case tc_NoRule => k_is)
    (case a_NoDoor => k_is)
    (case x_NoDoor => k_is)
    (case r_NoDoor => first | rfl | decide +kernel)
    (case sa_NoDoor => k_is)
    (case no_NoDoor => k_is)
    (case a_eNoDoor => k_is)
    (case t_eNoDoor => k_is)
    (case l_eNoDoor => k_is)
    (case c_eNoDoor => k_is)
    (case k_eNoDoor => k_is)
    (case kc_NoDoor => k_is)
    (case ec_NoDoor => k_is)
    (case tc_NoDoor => k_is)
    (case a_Book => k_is)
    (case pg_Book => k_is)
    (case hd_Book => k_is)
    (case po_Book => k_is)
    (case sa_Book => k_is)
    (case mk_Book => k_is)
    (case kc_Book => k_is)
    (case n_Book__rules => k_is)
    (case a_init => k_is)
    (case i_init => k_is)
    (case l_init => k_is)
    (case c_init => k_is)
    (case k_init => k_is)
    (case l_d => k_is)
    (case l_d0 => k_is)
    (case l_d1 => k_is)
    (case l_d2 => k_is)
    (case l_d3 => k_is)
    (case l_d4 => k_is)
    (case l_d5 => k_is)
    (case a_brule => k_is)
    (case i_brule => k_is)
    (case l_brule => k_is)
    (case c_brule => k_is)
    (case k_brule => k_is)
    (case a_brules => k_is)
    (case i_brules => k_is)
    (case l_brules => k_is)
    (case c_brules => k_is)
    (case k_brules => k_is)
    (case a_bwith => k_is)
    (case i_bwith => k_is)
    (case l_bwith => k_is)
    (case c_bwith => k_is)
    (case k_bwith => k_is)
    (case a_bask => k_is)
    (case i_bask => k_is)
    (case l_bask => k_is)
    (case c_bask => k_is)
    (case k_bask => k_is)
    (case a_NoDoors => k_is)
    (case xP_NoDoors => k_exc)
    (case kc_NoDoors => k_is)
    (case ec_NoDoors => k_is)
    (case tc_NoDoors => k_is)
    (case a_beq => k_is)
    (case i_beq => k_is)
    (case l_beq => k_is)
    (case c_beq => k_is)
    (case k_beq => k_is)
    (case ha_Book => k_is)
    (case hn_Book => k_is)
    (case ht_Book => k_is)
    (case hm_Book => k_is)
    (case hdx_NoDoor => k_is)
    (case ga_NoDoor => k_is)
    (case gg_NoDoor => k_is)
    (case hdx_NoRule => k_is)
    (case ga_NoRule => k_is)
    (case gg_NoRule => k_is)
    (case s_dd => k_is)
    (case s_rd => k_is)
    (case s_rr => k_is)
    (case a_is_action => k_is)
    (case l_is_action => k_is)
    (case c_is_action => k_is)
    (case k_is_action => k_is)
    (case a_is_rule => k_is)
    (case l_is_rule => k_is)
    (case c_is_rule => k_is)
    (case k_is_rule => k_is)
    (case a_is_door => k_is)
    (case l_is_door => k_is)
    (case c_is_door => k_is)
    (case k_is_door => k_is)
    (case a_are_distinct_doors => k_is)
    (case l_are_distinct_doors => k_is)
    (case c_are_distinct_doors => k_is)
    (case k_are_distinct_doors => k_is)
    (case a__law_jar => k_is)
    (case l__law_jar => k_is)
    (case c__law_jar => k_is)
    (case k__law_jar => k_is)
    (case a__law_draw => k_is)
    (case l__law_draw => k_is)
    (case c__law_draw => k_is)
    (case k__law_draw => k_is)
    (case a__law_rule => k_is)
    (case l__law_rule => k_is)
    (case c__law_rule => k_is)
    (case k__law_rule => k_is)
    (case a__law_six => k_is)
    (case l__law_six => k_is)
    (case c__law_six => k_is)
    (case k__law_six => k_is)
    (case a__law_come => k_is)
    (case l__law_come => k_is)
    (case c__law_come => k_is)
    (case k__law_come => k_is)
    (case a__law_due => k_is)
    (case l__law_due => k_is)
    (case c__law_due => k_is)
    (case k__law_due => k_is)
    (case a__law_done => k_is)
    (case l__law_done => k_is)
    (case c__law_done => k_is)
    (case k__law_done => k_is)
    (case a_law => k_is)
    (case l_law => k_is)
    (case c_law => k_is)
    (case k_law => k_is)

