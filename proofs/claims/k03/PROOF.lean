import PyProof.Rows.All
import Wide.All
import OpenK.AllK
import Wide.FinOn
import PyProof.EqAt
import PyProof.EqKinds
import PyProof.TupleCall
import HandS.ForMost
import HandS.Exc
import HandS.TryOnly
import HandS.ExcOwn
import HandS.WordsExc
import HandS.Wide
import HandS.Flow
import HandS.IsInst
import HandS.Strs
import HandS.Zip
import HandS.TupAny
import HandS.Defaults
import HandS.MakeKw
import HandS.MakeKwOnly
import HandS.ExcInit
import PySem.Challenge.RW_lastshown_k03_rules_exchanged_and_asks
import KE.DataEq
import HandS.SetKeys
import HandS.SetFor
import HandS.SetBool
import HandS.TryMany
import HandS.Walk
import HandS.Star
import HandS.Base
import HandS.Call
import PyProof.NeKinds
import PyProof.IsiHeapPairs
import PyProof.FactsAll.dict_1
import PyProof.FactsAll.dict_2
import HandS.DictComp
import HandS.Dict
import HandS.TupMul
import KE.KIsAll
import KE.KTryMore
import KE.KExcIs
import HandS.ExcIs
import HandS.ExcField
import HandS.More
import HandS.Style
set_option Elab.async false
set_option linter.all false
set_option maxRecDepth 100000
set_option maxHeartbeats 4000000
namespace Sh
open PySem L2
def top (i : Nat) : Stmt := PySem.Challenge.pw_lastshown_k03_rules_exchanged_and_asks.main.body.getD i (.Pass ⟨0, 0, 0, 0⟩)
/-! ### powers of any base -/
def CPowW (i j : Int) : Prop := 0 ≤ j ∧ j ≤ 1000 ∧ i.natAbs < 2 ^ 1000
theorem bits_le (i : Int) (n : Nat) (h : i.natAbs < 2 ^ n) : Builtin.Int.intBits i ≤ n + 1 := by
  unfold Builtin.Int.intBits
  split
  · omega
  · have : i.natAbs.log2 < n ∨ n = 0 := by
      rcases Nat.eq_zero_or_pos n with h0 | h0
      · exact .inr h0
      · exact .inl (PySem.Flt.log2_lt_of h0 h)
    rcases this with q | q
    · omega
    · subst q
      have : i.natAbs = 0 := by omega
      rw [this]
      decide
theorem op_powW {X : Cx} : OpR X (binaryOp .Pow) (rI CPowW fun i j => .int (i ^ j.toNat)) := opI fun i j _ _ _ _ _ hc q => by
  have h := bits_le i 1000 hc.2.2
  have h0 : 0 ≤ j := hc.1
  have h1 : j ≤ 1000 := hc.2.1
  refine PyProof.Rows.pow_int hc.1 ?_ q
  have z : (Builtin.Int.intBits i : Int) * j ≤ 1001 * 1000 := Int.mul_le_mul (by omega) h1 h0 (by decide)
  exact Int.le_trans z (by decide)
/-! ### the jar -/
def JarAt (H : Hp) (j : Addr) (n : Nat) : Prop := ∃ a b c : Int, H j = some (.lst [.int a, .int b, .int c]) ∧ 0 ≤ a ∧ 0 ≤ b ∧ b < 2 ^ 200 ∧ 0 ≤ c ∧ c ≤ n
/-- all that was tracked, but what stands at j, is as it was -/
def Kp (j : Addr) (H H' : Hp) : Prop := ∀ b o, b ≠ j → H b = some o → H' b = some o
def spDraw : Sp := fun vs H Q _ => ∃ (j : Addr) (m : Int) (n : Nat), vs = [.ref j, .int m] ∧ JarAt H j n ∧ 0 < m ∧ m < 2 ^ 200 ∧ n ≤ 2 ^ 100 ∧ ∀ (r : Int) (H' : Hp), 0 ≤ r → r < m → JarAt H' j (n + 1) → Kp j H H' → Q (.int r) H'
def spJar (K : PySem.W.Frag) : Sp := fun vs H Q _ => ∃ (a : Addr) (ns : List Int) (k : Int), vs = [.ref a, .int k] ∧ SqL K H a (ns.map V.int) ∧ 0 ≤ k ∧ k < 1000 ∧ ∀ (j : Addr) (H' : Hp), JarAt H' j 0 → H j = none → Same H H' → Q (.ref j) H'
theorem stir_lt (x : Int) {c : Int} (hc : 0 ≤ c) (hn : c ≤ 2 ^ 101) : (x % ((10 : Int) ^ (Int.toNat 42) + 63) + 32452867 * (c + 1)).natAbs < 2 ^ 1000 := by
  have e : (10 : Int) ^ (Int.toNat 42) + 63 = 1000000000000000000000000000000000000000063 := by decide
  rw [e]
  have h1 := Int.emod_nonneg x (b := 1000000000000000000000000000000000000000063) (by decide)
  have h2 := Int.emod_lt_of_pos x (b := 1000000000000000000000000000000000000000063) (by decide)
  exact Nat.lt_of_lt_of_le (show _ < 2 ^ 200 by omega) (by decide)
structure TxtB (mg : Str → Option Value) : Prop where
  b_int : mg "int" = none
  b_len : mg "len" = none
  b_abs : mg "abs" = none
  b_max : mg "max" = none
  b_range : mg "range" = none
  b_tuple : mg "tuple" = none
  b_str : mg "str" = none
  b_isinstance : mg "isinstance" = none
  b_all : mg "all" = none
  b_zip : mg "zip" = none
section
variable {P : Program} {w : World} {K : PySem.W.Frag} {mg : Str → Option Value} {base : Heap}
abbrev s_draw : Stmt := top 16
theorem sc_draw : FnScope ["jar", "many", "found", "stirred"] ["jar", "many"] (defScope s_draw) := ⟨rfl, rfl, rfl, by decide +kernel, rfl, by decide +kernel, by decide +kernel⟩
theorem ok_draw {f : Addr} {fd : FuncData} (F : Fun K "_law_draw" "_law_draw" s_draw f fd) (T : TxtB mg) : FnOk P w K mg base CX0 1 f fd ["jar", "many"] spDraw := by
  refine F.ok sc_draw (fun vs H Q E h => ?_) (fun cdv A outer s H vs Q E hr h => ?_)
  · obtain ⟨j, m, n, rfl, _⟩ := h
    rfl
  · obtain ⟨j, m, n, rfl, ⟨a, b, c, hj, ha, hb, hb2, hc, hcn⟩, hm, hm2, hn, k⟩ := h
    refine ⟨_, (pss_cons (ps_if (pt_cmpR op_gt (pe_ix ix_list (pv 0) pe_int (fun _ _ => rfl)) pe_int (nomark _)) (pss_cons (ps_set (i := 2) sc_draw.nd rfl (Or.inl rfl) (pe_op op_mod (pe_callTy call_int1 (by rfl) T.b_int (by decide +kernel) (pa_cons (pe_ix ix_list (pv 0) pe_int (fun _ _ => rfl)) pa_nil)) (pv 1)))
  (pss_cons (ps_asg (pe_op op_fdivW (pe_ix ix_list (pv 0) pe_int (fun _ _ => rfl)) (pv 1)) (pg_sub (pv 0) pe_int set_list))
  (pss_one (ps_ret (pv 2))))) pss_nil)
  (pss_cons (ps_asg (pe_op op_add (pe_ix ix_list (pv 0) pe_int (fun _ _ => rfl)) pe_int) (pg_sub (pv 0) pe_int set_list))
  (pss_cons (ps_set (i := 3) sc_draw.nd rfl (Or.inl rfl) (pe_op op_mod (pe_callTy call_int1 (by rfl) T.b_int (by decide +kernel) (pa_cons (pe_op op_add (pe_op op_powW (pe_op op_add (pe_ix ix_list (pv 0) pe_int (fun _ _ => rfl)) (pe_op op_mul pe_int (pe_ix ix_list (pv 0) pe_int (fun _ _ => rfl)))) pe_int) (pe_op op_mul pe_int (pe_ix ix_list (pv 0) pe_int (fun _ _ => rfl)))) pa_nil)) (pe_op op_add (pe_op op_powW pe_int pe_int) pe_int)))
  (pss_cons (ps_set (i := 3) sc_draw.nd rfl (Or.inl rfl) (pe_op op_mod (pe_callTy call_int1 (by rfl) T.b_int (by decide +kernel) (pa_cons (pe_op op_powW (pe_op op_add (pv 3) (pe_op op_mul pe_int (pe_ix ix_list (pv 0) pe_int (fun _ _ => rfl)))) pe_int) pa_nil)) (pe_op op_add (pe_op op_powW pe_int pe_int) pe_int)))
  (pss_one (ps_ret (pe_op op_mod (pe_callTy call_int1 (by rfl) T.b_int (by decide +kernel) (pa_cons (pe_op op_fdivW (pv 3) (pe_op op_powW pe_int pe_int)) pa_nil)) (pv 1)))))))), ?_⟩
    refine ⟨_, rfl, j, _, 0, _, rfl, rfl, SqL.of hj, rfl, ?_⟩
    refine ⟨_, _, rfl, rfl, _, rfl, ?_⟩
    refine ite2 (fun h0 => ?_) (fun h0 => ?_)
    · refine ⟨_, rfl, j, _, 0, _, rfl, rfl, SqL.of hj, rfl, ?_⟩
      refine .inl ⟨_, rfl, ?_⟩
      refine ⟨_, rfl, _, _, rfl, rfl, hm, ?_⟩
      refine ⟨_, rfl, j, _, 0, _, rfl, rfl, SqL.of hj, rfl, ?_⟩
      refine ⟨_, rfl, _, _, rfl, rfl, wide_div hm (b := 200) (by omega) (by decide) (by decide), ?_⟩
      refine ⟨_, rfl, j, _, 0, 0, rfl, rfl, hj, rfl, ?_⟩
      refine ⟨_, rfl, ?_⟩
      refine k _ _ (Int.emod_nonneg _ (by omega)) (Int.emod_lt_of_pos _ hm) ⟨_, _, _, upd_same, Int.ediv_nonneg ha (by omega), hb, hb2, hc, by omega⟩ fun b' o hb' e => by rw [upd_ne hb']; exact e
    · refine ⟨_, rfl, j, _, 2, _, rfl, rfl, SqL.of hj, rfl, ?_⟩
      refine ⟨_, _, rfl, rfl, ?_⟩
      refine ⟨_, rfl, j, _, 2, 2, rfl, rfl, hj, rfl, ?_⟩
      have hj1 : upd H j (.lst [.int a, .int b, .int (c + 1)]) j = some (.lst [.int a, .int b, .int (c + 1)]) := upd_same
      refine ⟨_, rfl, j, _, 1, _, rfl, rfl, SqL.of hj1, rfl, ?_⟩
      refine ⟨_, rfl, j, _, 2, _, rfl, rfl, SqL.of hj1, rfl, ?_⟩
      refine ⟨_, _, rfl, rfl, .inl ⟨by decide, by decide⟩, ?_⟩
      refine ⟨_, _, rfl, rfl, ?_⟩
      refine ⟨_, _, rfl, rfl, ⟨by decide, by decide, ?_⟩, ?_⟩
      · show (b + 15485867 * (c + 1)).natAbs < 2 ^ 1000
        exact Nat.lt_of_lt_of_le (show (b + 15485867 * (c + 1)).natAbs < 2 ^ 201 by omega) (by decide)
      refine ⟨_, rfl, j, _, 2, _, rfl, rfl, SqL.of hj1, rfl, ?_⟩
      refine ⟨_, _, rfl, rfl, .inl ⟨by decide, by decide⟩, ?_⟩
      refine ⟨_, _, rfl, rfl, ?_⟩
      refine .inl ⟨_, rfl, ?_⟩
      refine ⟨_, _, rfl, rfl, ⟨by decide, by decide, by decide⟩, ?_⟩
      refine ⟨_, _, rfl, rfl, ?_⟩
      refine ⟨_, _, rfl, rfl, (by show (0 : Int) < _; decide), ?_⟩
      refine ⟨_, rfl, ?_⟩
      refine ⟨_, rfl, j, _, 2, _, rfl, rfl, SqL.of hj1, rfl, ?_⟩
      refine ⟨_, _, rfl, rfl, .inl ⟨by decide, by decide⟩, ?_⟩
      refine ⟨_, _, rfl, rfl, ?_⟩
      refine ⟨_, _, rfl, rfl, ⟨by decide, by decide, ?_⟩, ?_⟩
      · exact stir_lt _ hc (by omega)
      refine .inl ⟨_, rfl, ?_⟩
      refine ⟨_, _, rfl, rfl, ⟨by decide, by decide, by decide⟩, ?_⟩
      refine ⟨_, _, rfl, rfl, ?_⟩
      refine ⟨_, _, rfl, rfl, (by show (0 : Int) < _; decide), ?_⟩
      refine ⟨_, rfl, ?_⟩
      refine ⟨_, _, rfl, rfl, ⟨by decide, by decide, by decide⟩, ?_⟩
      refine ⟨_, _, rfl, rfl, wide_div (b := 200) (by decide) (by decide) (by decide) (by decide), ?_⟩
      refine .inl ⟨_, rfl, ?_⟩
      refine ⟨_, rfl, ?_⟩
      refine ⟨_, _, rfl, rfl, hm, ?_⟩
      exact k _ _ (Int.emod_nonneg _ (by omega)) (Int.emod_lt_of_pos _ hm) ⟨_, _, _, hj1, ha, hb, hb2, by omega, by omega⟩ fun b' o hb' e => by rw [upd_ne hb']; exact e

/-- one way on behind a conditional expression -/
theorem tIf_via {t : TT} {ta tb : TE} {σ : L2.St} {H : Hp} {Q : VK} (R : V → Hp → Prop) (h : (∀ v H', R v H' → Q v H') → tIf t ta tb σ H Q) (k : ∀ v H', R v H' → Q v H') : tIf t ta tb σ H Q := h k
abbrev s_jar : Stmt := top 15
theorem sc_jar : FnScope ["script", "k", "cell"] ["script", "k"] (defScope s_jar) := ⟨rfl, rfl, rfl, by decide +kernel, rfl, by decide +kernel, by decide +kernel⟩
theorem ok_jar {f : Addr} {fd : FuncData} (F : Fun K "_law_jar" "_law_jar" s_jar f fd) (T : TxtB mg) : FnOk P w K mg base CX0 1 f fd ["script", "k"] (spJar K) := by
  refine F.ok sc_jar (fun vs H Q E h => ?_) (fun cdv A outer s H vs Q E hr h => ?_)
  · obtain ⟨j, m, n, rfl, _⟩ := h
    rfl
  · obtain ⟨a, ns, k, rfl, hS, hk, hk2, q⟩ := h
    refine ⟨_, (pss_cons (ps_set (i := 2) sc_jar.nd rfl (Or.inl rfl) (pe_ifExp (pt_cmpR op_lt (pv 1) (pe_callB call_len_seq (by rfl) T.b_len (by decide +kernel) (pa_cons (pv 0) pa_nil)) (nomark _)) (pe_callB call_abs (by rfl) T.b_abs (by decide +kernel) (pa_cons (pe_callTy call_int1 (by rfl) T.b_int (by decide +kernel) (pa_cons (pe_ix ix_list (pv 0) (pv 1) (fun _ _ => rfl)) pa_nil)) pa_nil)) pe_int))
  (pss_one (ps_ret (pe_lst (pa_cons (pe_callB (call_max2 rfl) (by rfl) T.b_max (by decide +kernel) (pa_cons pe_int (pa_cons (pe_op op_sub (pv 2) (pe_op op_powW pe_int pe_int)) pa_nil))) (pa_cons (pe_op op_add (pe_op op_mod (pe_callTy call_int1 (by rfl) T.b_int (by decide +kernel) (pa_cons (pv 2) pa_nil)) (pe_op op_add (pe_op op_powW pe_int pe_int) pe_int)) (pe_op op_mul pe_int (pv 1))) (pa_cons pe_int pa_nil))))))), ?_⟩
    refine tIf_via (fun v H' => ∃ c : Int, v = .int c ∧ H' = H) (fun key => ?_) ?_
    · refine ⟨_, rfl, _, rfl, a, _, rfl, .inl hS, _, _, rfl, rfl, _, rfl, ?_⟩
      refine ite2 (fun h1 => ?_) (fun h1 => ?_)
      · have h2 : k.toNat < ns.length := by
          have z := of_decide_eq_true h1
          rw [List.length_map] at z
          omega
        refine ⟨_, rfl, _, rfl, a, _, k, .int ns[k.toNat], rfl, rfl, hS, at_of (j := k.toNat) (by omega) (by rw [List.getElem?_map, List.getElem?_eq_getElem h2]; rfl), ?_⟩
        refine .inl ⟨_, rfl, _, rfl, ?_⟩
        exact key _ _ ⟨_, rfl, rfl⟩
      · exact key _ _ ⟨0, rfl, rfl⟩
    · rintro v H' ⟨c, rfl, rfl⟩
      refine ⟨_, rfl, ?_⟩
      refine ⟨_, _, rfl, rfl, ⟨by decide, by decide, by decide⟩, ?_⟩
      refine ⟨_, _, rfl, rfl, ?_⟩
      refine ⟨_, _, rfl, ?_⟩
      refine ⟨_, rfl, ?_⟩
      refine .inl ⟨_, rfl, ?_⟩
      refine ⟨_, _, rfl, rfl, ⟨by decide, by decide, by decide⟩, ?_⟩
      refine ⟨_, _, rfl, rfl, ?_⟩
      refine ⟨_, _, rfl, rfl, (by show (0 : Int) < _; decide), ?_⟩
      refine ⟨_, rfl, ?_⟩
      refine ⟨_, _, rfl, rfl, .inl ⟨by decide, by decide⟩, ?_⟩
      refine ⟨_, _, rfl, rfl, ?_⟩
      refine ⟨by show 3 ≤ sizeLine; decide, fun p hp => ?_⟩
      have e : (10 : Int) ^ (Int.toNat 36) + 67 = 1000000000000000000000000000000000067 := by decide
      have h1 := Int.emod_nonneg c (b := (10 : Int) ^ (Int.toNat 36) + 67) (by decide)
      have h2 := Int.emod_lt_of_pos c (b := (10 : Int) ^ (Int.toNat 36) + 67) (by decide)
      refine q p _ ⟨_, _, _, upd_same, ?_, ?_, ?_, by decide, by decide⟩ hp fun b o e => ?_
      · split <;> omega
      · omega
      · omega
      · rw [upd_ne (ne_of_none e hp)]
        exact e
end
end Sh

namespace Sh
open PySem L2
/-! ### what stays -/
/-- all but lists stays -/
def KT (H H' : Hp) : Prop := ∀ b o, (∀ xs, o ≠ HO.lst xs) → H b = some o → H' b = some o
theorem KT.refl (H : Hp) : KT H H := fun _ _ _ h => h
theorem KT.trans {H H1 H2 : Hp} (a : KT H H1) (b : KT H1 H2) : KT H H2 := fun c o z h => b c o z (a c o z h)
theorem _root_.L2.Same.kt {H H' : Hp} (s : Same H H') : KT H H' := fun b o _ h => s b o h
theorem Kp.kt {j : Addr} {H H' : Hp} {xs : List V} (hj : H j = some (.lst xs)) (k : Kp j H H') : KT H H' := fun b o z h => by
  refine k b o (fun e => ?_) h
  subst e
  rw [hj] at h
  exact z xs (Option.some.inj h).symm
theorem JarAt.kt {j : Addr} {H H' : Hp} {n : Nat} (J : JarAt H j n) (k : Kp j H H') : KT H H' := by
  obtain ⟨a, b, c, hj, _⟩ := J
  exact k.kt hj
theorem Kp.refl (j : Addr) (H : Hp) : Kp j H H := fun _ _ _ h => h
theorem Kp.trans {j : Addr} {H H1 H2 : Hp} (a : Kp j H H1) (b : Kp j H1 H2) : Kp j H H2 := fun c o z h => b c o z (a c o z h)
theorem _root_.L2.Same.kp {H H' : Hp} (j : Addr) (s : Same H H') : Kp j H H' := fun b o _ h => s b o h
theorem kp_fresh {j D : Addr} {H H2 H4 : Hp} {o : HO} (a : Kp j H H2) (hD : H2 D = none) (b : Kp j H H4) : Kp j H (upd H4 D o) := fun c u hc e => by
  rw [upd_ne (ne_of_none (a c u hc e) hD)]
  exact b c u hc e
theorem same_new {H : Hp} {p : Addr} {o : HO} (hp : H p = none) : Same H (upd H p o) := fun b u e => by
  rw [upd_ne (ne_of_none e hp)]
  exact e
theorem kt_lst {H : Hp} {p : Addr} {xs : List V} {o : HO} (hp : H p = some (.lst xs)) : KT H (upd H p o) := fun b u z e => by
  have hb : b ≠ p := fun q => by
    rw [q, hp] at e
    exact z xs (Option.some.inj e).symm
  rw [upd_ne hb]
  exact e
theorem KT.rd {H H' : Hp} (k : KT H H') {a : Addr} {xs : List V} (h : Rd H a (.tup xs)) : Rd H' a (.tup xs) := by
  rcases h with h | ⟨o, h⟩
  · exact .inl (k _ _ (fun _ z => by cases z) h)
  · exact .inr ⟨o, k _ _ (fun _ z => by cases z) h⟩
theorem KT.sqT {K : PySem.W.Frag} {H H' : Hp} (k : KT H H') {a : Addr} {xs : List V} (h : SqT K H a xs) : SqT K H' a xs := by
  rcases h with h | h
  · exact .inl (k.rd h)
  · exact .inr h
theorem JarAt.keep {H H' : Hp} {j : Addr} {n : Nat} (J : JarAt H j n) (h : ∀ o, H j = some o → H' j = some o) : JarAt H' j n := by
  obtain ⟨a, b, c, hj, q⟩ := J
  exact ⟨a, b, c, h _ hj, q⟩
theorem JarAt.same {H H' : Hp} {j : Addr} {n : Nat} (J : JarAt H j n) (h : Same H H') : JarAt H' j n := J.keep (h j)
theorem JarAt.mono {H : Hp} {j : Addr} {n m : Nat} (J : JarAt H j n) (h : n ≤ m) : JarAt H j m := by
  obtain ⟨a, b, c, hj, q1, q2, q3, q4, q5⟩ := J
  exact ⟨a, b, c, hj, q1, q2, q3, q4, by omega⟩
theorem JarAt.ne {H : Hp} {j p : Addr} {n : Nat} (J : JarAt H j n) (h : H p = none) : p ≠ j := by
  obtain ⟨a, b, c, hj, _⟩ := J
  exact (ne_of_none hj h).symm
theorem JarAt.neT {H : Hp} {j p : Addr} {n : Nat} {o : HO} (J : JarAt H j n) (h : H p = some o) (z : ∀ xs, o ≠ .lst xs) : p ≠ j := by
  obtain ⟨a, b, c, hj, _⟩ := J
  exact ne_of h hj (z _)
/-! ### rules -/
def acts : List Str := ["take", "least", "last", "show", "ask"]
def doors : List Str := ["put", "look", "alter", "back", "pay", "again"]
def IsRule (r : List Str) : Prop := r.length ≤ 6 ∧ ∀ x ∈ r, x ∈ acts
/-- a tuple of texts -/
def RuleAt (K : PySem.W.Frag) (H : Hp) (v : V) (r : List Str) : Prop := ∃ a, v = .ref a ∧ SqT K H a (r.map V.str)
def SixAt (K : PySem.W.Frag) (H : Hp) (v : V) (rs : List (List Str)) : Prop := ∃ a vs, v = .ref a ∧ SqT K H a vs ∧ Paired (RuleAt K H) vs rs
theorem KT.rule {K : PySem.W.Frag} {H H' : Hp} (k : KT H H') {v : V} {r : List Str} (h : RuleAt K H v r) : RuleAt K H' v r := by
  obtain ⟨a, e, h⟩ := h
  exact ⟨a, e, k.sqT h⟩
theorem pair_map {α β : Type} {F G : α → β → Prop} (h : ∀ a b, F a b → G a b) : ∀ {l1 : List α} {l2 : List β}, Paired F l1 l2 → Paired G l1 l2
  | _, _, .nil => .nil
  | _, _, .cons a b => .cons (h _ _ a) (pair_map h b)
theorem KT.rules {K : PySem.W.Frag} {H H' : Hp} (k : KT H H') {vs : List V} {rs : List (List Str)} (h : Paired (RuleAt K H) vs rs) : Paired (RuleAt K H') vs rs := pair_map (fun _ _ q => k.rule q) h
theorem KT.six {K : PySem.W.Frag} {H H' : Hp} (k : KT H H') {v : V} {rs : List (List Str)} (h : SixAt K H v rs) : SixAt K H' v rs := by
  obtain ⟨a, vs, e, h, q⟩ := h
  exact ⟨a, vs, e, k.sqT h, k.rules q⟩
theorem pair_get {α β : Type} {F : α → β → Prop} : ∀ {l1 : List α} {l2 : List β} {i : Nat} {y : β}, Paired F l1 l2 → l2[i]? = some y → ∃ x, l1[i]? = some x ∧ F x y
  | _, _, i, y, .nil, h => by simp at h
  | x :: _, _, 0, y, .cons a b, h => by
    have e := Option.some.inj h
    subst e
    exact ⟨x, rfl, a⟩
  | _ :: l1, _ :: l2, i + 1, y, .cons a b, h => pair_get (l1 := l1) (l2 := l2) (i := i) (y := y) b h
theorem pair_get1 {α β : Type} {F : α → β → Prop} : ∀ {l1 : List α} {l2 : List β} {i : Nat} {x : α}, Paired F l1 l2 → l1[i]? = some x → ∃ y, l2[i]? = some y ∧ F x y
  | _, _, i, y, .nil, h => by simp at h
  | _, y :: _, 0, _, .cons a b, h => by
    have e := Option.some.inj h
    subst e
    exact ⟨y, rfl, a⟩
  | _ :: l1, _ :: l2, i + 1, x, .cons a b, h => pair_get1 (l1 := l1) (l2 := l2) (i := i) (x := x) b h
theorem pair_snoc {α β : Type} {F : α → β → Prop} {x : α} {y : β} (f : F x y) : ∀ {l1 : List α} {l2 : List β}, Paired F l1 l2 → Paired F (l1 ++ [x]) (l2 ++ [y])
  | _, _, .nil => .cons f .nil
  | _, _, .cons a b => .cons a (pair_snoc f b)
/-! ### as data -/
def dRule (r : List Str) : PyData := .tuple (r.map PyData.str)
def dSix (rs : List (List Str)) : PyData := .tuple (rs.map dRule)
theorem dp_strs {K : PySem.W.Frag} {H : Hp} : ∀ r : List Str, DpAll K H (r.map V.str) (r.map PyData.str)
  | [] => .nil
  | x :: r => .cons (.str x) (dp_strs r)
theorem RuleAt.dp {K : PySem.W.Frag} {H : Hp} {v : V} {r : List Str} (h : RuleAt K H v r) : Dp K H v (dRule r) := by
  obtain ⟨a, rfl, h⟩ := h
  exact .tup h (dp_strs r)
theorem dp_rules {K : PySem.W.Frag} {H : Hp} : ∀ {vs : List V} {rs : List (List Str)}, Paired (RuleAt K H) vs rs → DpAll K H vs (rs.map dRule)
  | _, _, .nil => .nil
  | _, _, .cons a b => .cons a.dp (dp_rules b)
theorem SixAt.dp {K : PySem.W.Frag} {H : Hp} {v : V} {rs : List (List Str)} (h : SixAt K H v rs) : Dp K H v (dSix rs) := by
  obtain ⟨a, vs, rfl, h, q⟩ := h
  exact .tup h (dp_rules q)
def spRule : Sp := fun vs H Q _ => ∃ (j : Addr) (m : Int) (n : Nat), vs = [.ref j, .int m] ∧ JarAt H j n ∧ 0 ≤ m ∧ m ≤ 6 ∧ n ≤ 2 ^ 90 ∧
  ∀ (a : Addr) (r : List Str) (H' : Hp), H' a = some (.tup (r.map V.str)) → (r.length : Int) ≤ m → (∀ x ∈ r, x ∈ acts) → JarAt H' j (n + 10) → Kp j H H' → Q (.ref a) H'
def spSix (K : PySem.W.Frag) : Sp := fun vs H Q _ => ∃ (j : Addr) (n : Nat), vs = [.ref j] ∧ JarAt H j n ∧ n ≤ 2 ^ 80 ∧
  ∀ (a : Addr) (rs : List (List Str)) (H' : Hp), SixAt K H' (.ref a) rs → rs.length = 6 → (∀ r ∈ rs, IsRule r) → JarAt H' j (n + 100) → Kp j H H' → Q (.ref a) H'
section
variable {P : Program} {w : World} {K : PySem.W.Frag} {mg : Str → Option Value} {base : Heap}
abbrev s_rule : Stmt := top 17
theorem sc_rule : FnScope ["jar", "most", "actions", "k"] ["jar", "most"] (defScope s_rule) := ⟨rfl, rfl, rfl, by decide +kernel, rfl, by decide +kernel, by decide +kernel⟩
theorem ok_rule {f fD : Addr} {fd fdD : FuncData} (F : Fun K "_law_rule" "_law_rule" s_rule f fd) (T : TxtB mg) (gD : mg "_law_draw" = some (.ref fD)) (FD : Fun K "_law_draw" "_law_draw" s_draw fD fdD) (bD : Binds K fdD ["jar", "many"] []) : FnOk P w K mg base CX0 2 f fd ["jar", "most"] spRule := by
  have GD : FnOk P w K mg base CX0 1 fD fdD ["jar", "many"] spDraw := ok_draw FD T
  refine F.ok sc_rule (fun vs H Q E h => ?_) (fun cdv A outer s H vs Q E hr h => ?_)
  · obtain ⟨j, m, n, rfl, _⟩ := h
    rfl
  · obtain ⟨j, m, n, rfl, J, hm, hm2, hn, q⟩ := h
    refine ⟨_, (pss_cons (ps_set (i := 2) sc_rule.nd rfl (Or.inr rfl) (pe_lst (pa_cons pe_str (pa_cons pe_str (pa_cons pe_str (pa_cons pe_str (pa_cons pe_str pa_nil)))))))
  (pss_one (ps_ret (pe_callTy call_tuple_of (by rfl) T.b_tuple (by decide +kernel) (pa_cons (pe_lc (own := [("k", 3)]) (g := (gName 3)) (by rfl) sc_rule.nd (pi_range1 (by rfl) T.b_range (pa_cons (pe_call GD hr (by rfl) gD FD.kp bD .nil pass0 (pa_cons (pv 0) (pa_cons (pe_op op_add (pv 1) pe_int) pa_nil))) pa_nil)) (blkOk_by (own := [("k", 3)]) (N := ["jar", "most", "actions", "k"]) (sc := defScope s_rule) (by decide +kernel)) (fun _ _ _ _ _ => (pg_name (i := 3) sc_rule.nd rfl (Or.inl rfl))) (fun _ _ _ _ _ => pts_nil) (fun _ _ _ _ _ => (pe_ix (r := rIxL K) ix_list (pv 2) (pe_call GD hr (by rfl) gD FD.kp bD .nil pass0 (pa_cons (pv 0) (pa_cons pe_int pa_nil))) (fun _ _ => rfl)))) pa_nil))))), ?_⟩
    refine ⟨by show 5 ≤ sizeLine; decide, fun la hla => ?_⟩
    have J1 : JarAt (upd H la (.lst [.str "take", .str "least", .str "last", .str "show", .str "ask"])) j n := J.same (same_new hla)
    have hla1 : upd H la (.lst [.str "take", .str "least", .str "last", .str "show", .str "ask"]) la = some (.lst (acts.map V.str)) := upd_same
    have k1 : Same H (upd H la (.lst [.str "take", .str "least", .str "last", .str "show", .str "ask"])) := same_new hla
    have nlj : la ≠ j := J.ne hla
    refine ⟨_, rfl, _, rfl, _, _, rfl, rfl, ?_⟩
    refine ⟨j, m + 1, n, rfl, J1, by omega, by omega, by omega, fun r H2 hr0 hr1 J2 k2 => ?_⟩
    refine ⟨r, rfl, by omega, by omega, fun D hD => ?_⟩
    have njD : D ≠ j := J2.ne hD
    have nlD : la ≠ D := ne_of_none (k2 _ _ nlj hla1) hD
    refine lc_range (lo := 0) (n := r.toNat) (fun i H' => ∃ r : List Str, H' D = some (.lst (r.map V.str)) ∧ r.length = i ∧ (∀ x ∈ r, x ∈ acts) ∧ JarAt H' j (n + 1 + i) ∧ H' la = some (.lst (acts.map V.str)) ∧ Kp j H H') ?_ ?_ ?_
    · refine ⟨[], upd_same, rfl, (by intro x hx; cases hx), J2.same (same_new hD), same_new hD _ _ (k2 _ _ nlj hla1), ((k1.kp j).trans k2).trans ((same_new hD).kp j)⟩
    · rintro i H3 hi ⟨r', hD3, hl3, ha3, J3, hla3, k3⟩
      refine ⟨rfl, ?_⟩
      refine ⟨_, rfl, _, rfl, ?_⟩
      refine ⟨j, 5, n + 1 + i, rfl, J3, by decide, by decide, by omega, fun z H4 hz0 hz1 J4 k4 => ?_⟩
      obtain ⟨x, hx, hxa⟩ : ∃ x, acts[z.toNat]? = some x ∧ x ∈ acts := by
        have h5 : z.toNat < acts.length := by show z.toNat < 5; omega
        exact ⟨acts[z.toNat], List.getElem?_eq_getElem h5, List.getElem_mem h5⟩
      refine ⟨la, _, z, .str x, rfl, rfl, SqL.of (k4 _ _ nlj hla3), at_of (j := z.toNat) (by omega) (by rw [List.getElem?_map, hx]; rfl), ?_⟩
      refine ⟨_, k4 _ _ njD hD3, by rw [List.length_map, hl3]; exact small1000 (by omega), r' ++ [x], ?_, ?_, ?_, ?_, ?_, ?_⟩
      · rw [upd_same, List.map_append]
        rfl
      · rw [List.length_append, hl3]
        rfl
      · intro y hy
        rcases List.mem_append.mp hy with hy | hy
        · exact ha3 y hy
        · rw [List.mem_singleton.mp hy]
          exact hxa
      · have e : n + 1 + (i + 1) = n + 1 + i + 1 := by omega
        rw [e]
        exact J4.keep fun o e => by rw [upd_ne njD.symm]; exact e
      · rw [upd_ne nlD]
        exact k4 _ _ nlj hla3
      · exact kp_fresh (fun b o hb e => k2 b o hb (k1 b o e)) hD (k3.trans k4)
    · rintro H3 ⟨r', hD3, hl3, ha3, J3, hla3, k3⟩
      refine ⟨D, _, rfl, .inl ⟨SqL.of hD3, fun l hl => ?_⟩⟩
      refine q l r' _ upd_same (by omega) ha3 ?_ ?_
      · exact (J3.same (same_new hl)).mono (by omega)
      · exact k3.trans ((same_new hl).kp j)
/-! ### one way on behind an if -/
theorem tIfS_via {c : TT} {t u : TS} {D : Ends} {σ : L2.St} {H : Hp} (R : L2.St → Hp → Prop) (h : (∀ σ' H', R σ' H' → D.nx σ' H') → tIfS c t u D σ H) (k : ∀ σ' H', R σ' H' → D.nx σ' H') : tIfS c t u D σ H := h k
/-! ### == of data without dicts -/
section
variable {X : Cx}
def rEqP (K : PySem.W.Frag) : R2 := fun x y H Q => ∃ d e, Dp K H x d ∧ Dp K H y e ∧ d.plain = true ∧ e.plain = true ∧ d.depth ≤ 64 ∧ Q (.bl (PyData.eqv d e)) H
def rNeP (K : PySem.W.Frag) : R2 := fun x y H Q => ∃ d e, Dp K H x d ∧ Dp K H y e ∧ d.plain = true ∧ e.plain = true ∧ d.depth ≤ 64 ∧ Q (.bl (!PyData.eqv d e)) H
theorem op_eqP (hu : X.A.units + 64 < cLine) : OpR X (compareOp .Eq) (rEqP X.K) := by
  intro pins s σ H x y v u Q I rx ry h
  obtain ⟨d, e, hd, he, sd, se, dd, q⟩ := h
  obtain ⟨as, r1⟩ := Dp.reads I d x v hd rx
  obtain ⟨bs, r2⟩ := Dp.reads I e y u he ry
  exact SeqAt.eq_plain r1 r2 sd se (by omega) ⟨.bl _, H, I, rfl, q⟩
theorem op_neP (hu : X.A.units + 64 < cLine) : OpR X (compareOp .NotEq) (rNeP X.K) := by
  intro pins s σ H x y v u Q I rx ry h
  obtain ⟨d, e, hd, he, sd, se, dd, q⟩ := h
  obtain ⟨as, r1⟩ := Dp.reads I d x v hd rx
  obtain ⟨bs, r2⟩ := Dp.reads I e y u he ry
  exact SeqAt.ne_plain r1 r2 sd se (by omega) ⟨.bl _, H, I, rfl, q⟩
end
theorem plain_strs : ∀ r : List Str, PyData.plainAll (r.map PyData.str) = true
  | [] => rfl
  | x :: r => plain_strs r
theorem plain_rule (r : List Str) : (dRule r).plain = true := plain_strs r
theorem plain_rules : ∀ rs : List (List Str), PyData.plainAll (rs.map dRule) = true
  | [] => rfl
  | r :: rs => by
    show (PyData.plain (dRule r) && PyData.plainAll (rs.map dRule)) = true
    rw [plain_rule, plain_rules rs]
    rfl
theorem plain_six (rs : List (List Str)) : (dSix rs).plain = true := plain_rules rs
theorem depth_strs : ∀ r : List Str, PyData.depthAll (r.map PyData.str) = 0
  | [] => rfl
  | x :: r => by
    show max (PyData.depth (.str x)) (PyData.depthAll (r.map PyData.str)) = 0
    rw [depth_strs r]
    rfl
theorem depth_rule (r : List Str) : (dRule r).depth = 1 := by
  show PyData.depthAll (r.map PyData.str) + 1 = 1
  rw [depth_strs]
theorem depth_rules : ∀ rs : List (List Str), PyData.depthAll (rs.map dRule) ≤ 1
  | [] => Nat.zero_le _
  | r :: rs => by
    show max (PyData.depth (dRule r)) (PyData.depthAll (rs.map dRule)) ≤ 1
    have := depth_rules rs
    rw [depth_rule]
    omega
theorem depth_six (rs : List (List Str)) : (dSix rs).depth ≤ 2 := Nat.succ_le_succ (depth_rules rs)
theorem eqv_strs : ∀ r r' : List Str, PyData.eqvAll (r.map PyData.str) (r'.map PyData.str) = decide (r = r')
  | [], [] => rfl
  | [], _ :: _ => rfl
  | _ :: _, [] => rfl
  | x :: r, y :: r' => by
    show (PyData.eqv (.str x) (.str y) && PyData.eqvAll (r.map PyData.str) (r'.map PyData.str)) = _
    rw [eqv_strs r r']
    have e : PyData.eqv (.str x) (.str y) = (x == y) := by simp only [PyData.eqv]
    rw [e]
    by_cases h : x = y
    · subst h
      simp
    · simp [h]
theorem eqv_rule (r r' : List Str) : PyData.eqv (dRule r) (dRule r') = decide (r = r') := by
  have e : PyData.eqv (dRule r) (dRule r') = PyData.eqvAll (r.map PyData.str) (r'.map PyData.str) := by simp only [dRule, PyData.eqv]
  rw [e, eqv_strs]
theorem eqv_rules : ∀ r r' : List (List Str), PyData.eqvAll (r.map dRule) (r'.map dRule) = decide (r = r')
  | [], [] => rfl
  | [], _ :: _ => rfl
  | _ :: _, [] => rfl
  | x :: r, y :: r' => by
    show (PyData.eqv (dRule x) (dRule y) && PyData.eqvAll (r.map dRule) (r'.map dRule)) = _
    rw [eqv_rules r r', eqv_rule]
    by_cases h : x = y
    · subst h
      simp
    · simp [h]
theorem eqv_six (r r' : List (List Str)) : PyData.eqv (dSix r) (dSix r') = decide (r = r') := by
  have e : PyData.eqv (dSix r) (dSix r') = PyData.eqvAll (r.map dRule) (r'.map dRule) := by simp only [dSix, PyData.eqv]
  rw [e, eqv_rules]
abbrev s_six : Stmt := top 18
theorem sc_six : FnScope ["jar", "found", "k", "some"] ["jar"] (defScope s_six) := ⟨rfl, rfl, rfl, by decide +kernel, rfl, by decide +kernel, by decide +kernel⟩
structure SixSt (K : PySem.W.Frag) (H0 H : Hp) (j fo : Addr) (n : Nat) (rs : List (List Str)) : Prop where
  lst : ∃ vs, H fo = some (.lst vs) ∧ Paired (RuleAt K H) vs rs
  jar : JarAt H j n
  kp : Kp j H0 H
theorem ok_six {f fD fR : Addr} {fd fdD fdR : FuncData} (F : Fun K "_law_six" "_law_six" s_six f fd) (T : TxtB mg) (gD : mg "_law_draw" = some (.ref fD)) (FD : Fun K "_law_draw" "_law_draw" s_draw fD fdD) (bD : Binds K fdD ["jar", "many"] [])
    (gR : mg "_law_rule" = some (.ref fR)) (FR : Fun K "_law_rule" "_law_rule" s_rule fR fdR) (bR : Binds K fdR ["jar", "most"] []) : FnOk P w K mg base CX0 3 f fd ["jar"] (spSix K) := by
  have GD : FnOk P w K mg base CX0 1 fD fdD ["jar", "many"] spDraw := ok_draw FD T
  have GR : FnOk P w K mg base CX0 2 fR fdR ["jar", "most"] spRule := ok_rule FR T gD FD bD
  refine F.ok sc_six (fun vs H Q E h => ?_) (fun cdv A outer s H vs Q E hr h => ?_)
  · obtain ⟨j, n, rfl, _⟩ := h
    rfl
  · obtain ⟨j, n, rfl, J, hn, q⟩ := h
    have hr1 : Room 1 _ := hr.mono (by decide)
    refine ⟨_, (pss_cons (ps_set (i := 1) sc_six.nd rfl (Or.inl rfl) (pe_lst pa_nil))
  (pss_cons (ps_for PassesOwn.never rfl (pi_range1 (by rfl) T.b_range (pa_cons pe_int pa_nil)) (pg_name (i := 2) sc_six.nd rfl (Or.inl rfl)) (pss_cons (ps_set (i := 3) sc_six.nd rfl (Or.inl rfl) (pe_call GR hr (by rfl) gR FR.kp bR .nil pass0 (pa_cons (pv 0) (pa_cons (pe_ix ix_list (pe_lst (pa_cons pe_int (pa_cons pe_int (pa_cons pe_int (pa_cons pe_int pa_nil))))) (pe_call GD hr1 (by rfl) gD FD.kp bD .nil pass0 (pa_cons (pv 0) (pa_cons pe_int pa_nil))) (fun _ _ => rfl)) pa_nil))))
  (pss_cons (ps_if (PW.pt (pw_and (pt_cmpR (op_neP hr.units) (pv 1) (pe_lst pa_nil) (nomark _)) (pw_and1 (pt_cmpR op_eq (pe_call GD hr1 (by rfl) gD FD.kp bD .nil pass0 (pa_cons (pv 0) (pa_cons pe_int pa_nil))) pe_int (nomark _))))) (pss_one (ps_set (i := 3) sc_six.nd rfl (Or.inl rfl) (pe_ix ix_list (pv 1) (pe_call GD hr1 (by rfl) gD FD.kp bD .nil pass0 (pa_cons (pv 0) (pa_cons (pe_callB call_len_seq (by rfl) T.b_len (by decide +kernel) (pa_cons (pv 1) pa_nil)) pa_nil))) (fun _ _ => rfl)))) pss_nil)
  (pss_one (ps_expr (pe_bm PySem.F.plainAttrs_list PySem.F.slot_list_append PySem.F.type_list_append mt_append (pv 1) (pa_cons (pv 3) pa_nil)))))))
  (pss_one (ps_ret (pe_callTy call_tuple_of (by rfl) T.b_tuple (by decide +kernel) (pa_cons (pv 1) pa_nil)))))), ?_⟩
    refine ⟨Nat.zero_le _, fun fo hfo => ?_⟩
    have nfj : fo ≠ j := J.ne hfo
    refine ⟨6, rfl, by decide, by decide, for_range (lo := 0) (n := 6) (fun i σ H' => ∃ v2 v3 rs, σ = [some (.ref j), some (.ref fo), v2, v3] ∧ SixSt K H H' j fo (n + 13 * i) rs ∧ rs.length = i ∧ ∀ r ∈ rs, IsRule r) ?_ ?_ ?_⟩
    · exact ⟨none, none, [], rfl, ⟨⟨[], upd_same, .nil⟩, J.same (same_new hfo), (same_new hfo).kp j⟩, rfl, fun r hr => by cases hr⟩
    · rintro i σ H1 hi ⟨v2, v3, rs, rfl, S1, hl, hrs⟩
      have hi6 : i < 6 := hi
      obtain ⟨⟨vs, hfo1, pr⟩, J1, k1⟩ := S1
      refine ⟨_, rfl, ?_⟩
      refine ⟨by show 4 ≤ sizeLine; decide, fun l4 h4 => ?_⟩
      refine ⟨_, rfl, ?_⟩
      refine ⟨j, 4, n + 13 * i, rfl, J1.same (same_new h4), by decide, by decide, by omega, fun z H2 hz0 hz1 J2 k2 => ?_⟩
      have k2' : Kp j H1 H2 := ((same_new h4).kp j).trans k2
      obtain ⟨m, hm, hm0, hm6⟩ : ∃ m : Int, ([1, 2, 3, 6] : List Int)[z.toNat]? = some m ∧ 0 ≤ m ∧ m ≤ 6 := by
        have : z.toNat = 0 ∨ z.toNat = 1 ∨ z.toNat = 2 ∨ z.toNat = 3 := by omega
        rcases this with e | e | e | e <;> rw [e]
        · exact ⟨1, rfl, by decide, by decide⟩
        · exact ⟨2, rfl, by decide, by decide⟩
        · exact ⟨3, rfl, by decide, by decide⟩
        · exact ⟨6, rfl, by decide, by decide⟩
      refine ⟨l4, ([1, 2, 3, 6] : List Int).map V.int, z, .int m, rfl, rfl, SqL.of (k2 _ _ (J1.ne h4) upd_same), at_of (j := z.toNat) (by omega) (by rw [List.getElem?_map, hm]; rfl), ?_⟩
      refine ⟨j, m, n + 13 * i + 1, rfl, J2, hm0, hm6, by omega, fun a r H3 ha hra hrx J3 k3 => ?_⟩
      have k3' : Kp j H1 H3 := k2'.trans k3
      have hfo3 : H3 fo = some (.lst vs) := k3' _ _ nfj hfo1
      have pr3 : Paired (RuleAt K H3) vs rs := (J1.kt k3').rules pr
      dsimp only [gName, tSeq]
      refine tIfS_via (fun σ' H' => ∃ v r, σ' = [some (.ref j), some (.ref fo), some (.int (0 + i)), some v] ∧ RuleAt K H' v r ∧ IsRule r ∧ SixSt K H H' j fo (n + 13 * (i + 1)) rs ∧ H' fo = some (.lst vs)) (fun key => ?_) ?_
      · have pl : PyData.plain (.list (rs.map dRule)) = true := plain_rules rs
        have dl : PyData.depth (.list (rs.map dRule)) ≤ 64 := by
          have := depth_rules rs
          show PyData.depthAll (rs.map dRule) + 1 ≤ 64
          omega
        refine ⟨_, rfl, Nat.zero_le _, fun l0 hl0 => ?_⟩
        have nl : fo ≠ l0 := ne_of_none hfo3 hl0
        have k4 : Kp j H1 (upd H3 l0 (.lst [])) := k3'.trans ((same_new hl0).kp j)
        have J4 := J3.same (same_new (o := .lst []) hl0)
        have pr4 : Paired (RuleAt K (upd H3 l0 (.lst []))) vs rs := (same_new hl0).kt.rules pr3
        have hfo4 : upd H3 l0 (.lst []) fo = some (.lst vs) := by rw [upd_ne nl]; exact hfo3
        refine ⟨.list (rs.map dRule), .list [], .lst (SqL.of hfo4) (dp_rules pr4), .lst (SqL.of upd_same) .nil, pl, rfl, dl, ?_⟩
        refine ⟨_, rfl, ?_⟩
        have stop : ∀ H', Kp j H1 H' → JarAt H' j (n + 13 * (i + 1)) → H' fo = some (.lst vs) → RuleAt K H' (.ref a) r → _ := fun H' kk jj hh aa => key _ H' ⟨.ref a, r, rfl, aa, ⟨by omega, hrx⟩, ⟨⟨vs, hh, (J1.kt kk).rules pr⟩, jj, k1.trans kk⟩, hh⟩
        have ha3 : RuleAt K H3 (.ref a) r := ⟨a, rfl, SqT.of ha⟩
        refine ite2 (fun hc => ?_) (fun hc => ?_)
        · have hne : 0 < vs.length := by
            rw [pr.length]
            cases rs with
            | nil => exact absurd hc (by decide)
            | cons _ _ => exact Nat.succ_pos _
          refine ⟨_, rfl, j, 4, n + 13 * i + 1 + 10, rfl, J4, by decide, by decide, by omega, fun z2 H5 hz20 hz21 J5 k5 => ?_⟩
          have kk5 := k4.trans k5
          refine ⟨rfl, _, rfl, ?_⟩
          refine ite2 (fun hd => ?_) (fun hd => ?_)
          · have hfo5 := k5 _ _ nfj hfo4
            refine ⟨_, rfl, ?_⟩
            refine ⟨_, rfl, _, rfl, fo, _, rfl, .inl (SqL.of hfo5), ?_⟩
            have hl6 : vs.length < 7 := by rw [pr.length]; omega
            refine ⟨j, _, n + 13 * i + 1 + 10 + 1, rfl, J5, by omega, Int.lt_trans (Int.ofNat_lt.mpr hl6) (by decide), by omega, fun z3 H6 hz30 hz31 J6 k6 => ?_⟩
            have kk6 := kk5.trans k6
            obtain ⟨v, hv⟩ : ∃ v, vs[z3.toNat]? = some v := ⟨_, List.getElem?_eq_getElem (show z3.toNat < vs.length by omega)⟩
            have pr6 : Paired (RuleAt K H6) vs rs := (J1.kt kk6).rules pr
            obtain ⟨r6, hr6, hv6⟩ := pair_get1 pr6 hv
            have hfo6 := k6 _ _ nfj hfo5
            refine ⟨fo, _, z3, v, rfl, rfl, SqL.of hfo6, at_of (j := z3.toNat) (by omega) hv, ?_⟩
            exact key _ H6 ⟨v, r6, rfl, hv6, hrs _ (List.mem_of_getElem? hr6), ⟨⟨vs, hfo6, pr6⟩, J6.mono (by omega), k1.trans kk6⟩, hfo6⟩
          · exact stop H5 kk5 (J5.mono (by omega)) (k5 _ _ nfj hfo4) ((J4.kt k5).rule ((same_new hl0).kt.rule ha3))
        · exact stop _ k4 (J4.mono (by omega)) hfo4 ((same_new hl0).kt.rule ha3)
      · rintro σ' H4 ⟨v, r4, rfl, hv, hr4, S4, hfo4⟩
        obtain ⟨⟨vs4, e4, pr4⟩, J4, k4⟩ := S4
        have e5 : vs4 = vs := HO.lst.inj (Option.some.inj (e4.symm.trans hfo4))
        subst e5
        refine ⟨_, rfl, .inl ⟨rfl, _, SqL.of hfo4⟩, _, rfl, fo, _, v, rfl, rfl, hfo4, small1000 (by rw [pr4.length]; omega), ?_⟩
        refine ⟨_, _, rs ++ [r4], rfl, ⟨⟨vs4 ++ [v], upd_same, pair_snoc ((kt_lst hfo4).rule hv) ((kt_lst hfo4).rules pr4)⟩, ?_, kp_fresh (Kp.refl j H) hfo k4⟩, by rw [List.length_append, hl]; rfl, ?_⟩
        · exact J4.keep fun o e => by rw [upd_ne nfj.symm]; exact e
        · intro x hx
          rcases List.mem_append.mp hx with hx | hx
          · exact hrs x hx
          · rw [List.mem_singleton.mp hx]
            exact hr4
    · rintro σ H1 ⟨v2, v3, rs, rfl, S1, hl, hrs⟩
      obtain ⟨⟨vs, hfo1, pr⟩, J1, k1⟩ := S1
      refine ⟨_, rfl, fo, _, rfl, .inl ⟨SqL.of hfo1, fun l hl1 => ?_⟩⟩
      refine q l rs _ ⟨l, vs, rfl, SqT.of upd_same, (same_new hl1).kt.rules pr⟩ hl hrs ((J1.same (same_new hl1)).mono (by omega)) (k1.trans ((same_new hl1).kp j))
end
end Sh

namespace Sh
open PySem L2
/-! ### what the text's constants are -/
structure TxtK (K : PySem.W.Frag) (mg : Str → Option Value) (aA aD : Addr) : Prop where
  g_ACTIONS : mg "ACTIONS" = some (.ref aA)
  g_DOORS : mg "DOORS" = some (.ref aD)
  g_MOST : ∃ t, mg "MOST_ACTIONS" = some (.int 6 t)
  kA : ∃ (o : Obj) (its : Array Value) (n : Nat), K.lookup aA = some o ∧ o.cls = .type "tuple" ∧ o.dict = none ∧ o.data = .seq its n ∧ its.size ≤ sizeLine ∧ Vals (acts.map V.str) its.toList
  kD : ∃ (o : Obj) (its : Array Value) (n : Nat), K.lookup aD = some o ∧ o.cls = .type "tuple" ∧ o.dict = none ∧ o.data = .seq its n ∧ its.size ≤ sizeLine ∧ Vals (doors.map V.str) its.toList
section
variable {P : Program} {w : World} {K : PySem.W.Frag} {mg : Str → Option Value} {base : Heap} {aA aD : Addr}
theorem TxtK.sA (T : TxtK K mg aA aD) (H : Hp) : SqT K H aA (acts.map V.str) := by
  obtain ⟨o, its, n, h1, h2, h3, h4, h5, h6⟩ := T.kA
  exact .inr ⟨o, its, n, h1, h2, h4, h5, h6⟩
theorem TxtK.sD (T : TxtK K mg aA aD) (H : Hp) : SqT K H aD (doors.map V.str) := by
  obtain ⟨o, its, n, h1, h2, h3, h4, h5, h6⟩ := T.kD
  exact .inr ⟨o, its, n, h1, h2, h4, h5, h6⟩
theorem TxtK.tD (T : TxtK K mg aA aD) (H : Hp) : tyV K "tuple" (.ref aD) H := by
  obtain ⟨o, its, n, h1, h2, h3, _⟩ := T.kD
  exact .inr (.inl ⟨rfl, o, h1, h2, h3⟩)
theorem inV_strs (z : Str) : ∀ l : List Str, inV (.str z) (l.map V.str) = decide (z ∈ l)
  | [] => rfl
  | x :: l => by
    show (eqV (.str x) (.str z) || inV (.str z) (l.map V.str)) = _
    rw [inV_strs z l]
    show ((x == z) || decide (z ∈ l)) = _
    by_cases h : x = z
    · subst h
      simp
    · have h' : ¬ z = x := fun q => h q.symm
      simp [h, h']
theorem flat_strs : ∀ l : List Str, (l.map V.str).all flatV = true
  | [] => rfl
  | x :: l => flat_strs l
/-- a value by whether it is a text among l -/
inductive Among (K : PySem.W.Frag) (H : Hp) (l : List Str) : V → Bool → Prop
  | str (z : Str) : Among K H l (.str z) (decide (z ∈ l))
  | other {v : V} {t : Value} (ty : TyX K H v t) (no : PySem.W.kitOne K t (.type "str") = some false) : Among K H l v false
theorem Among.kt {H H' : Hp} {l : List Str} {v : V} {b : Bool} (h : Among K H l v b) (k : ∀ t, TyX K H v t → TyX K H' v t) : Among K H' l v b := by
  cases h with
  | str z => exact .str z
  | other ty no => exact .other (k _ ty) no
def spAmong (K : PySem.W.Frag) (l : List Str) : Sp := fun vs H Q _ => ∃ v b, vs = [v] ∧ Among K H l v b ∧ Q (.bl b) H
abbrev s_isact : Stmt := top 9
abbrev s_isrule : Stmt := top 10
abbrev s_isdoor : Stmt := top 11
theorem sc_isact : FnScope ["value"] ["value"] (defScope s_isact) := ⟨rfl, rfl, rfl, by decide +kernel, rfl, by decide +kernel, by decide +kernel⟩
theorem ok_isact {f : Addr} {fd : FuncData} (F : Fun K "is_action" "is_action" s_isact f fd) (B : TxtB mg) (T : TxtK K mg aA aD) : FnOk P w K mg base CX0 1 f fd ["value"] (spAmong K acts) := by
  refine F.ok sc_isact (fun vs H Q E h => ?_) (fun cdv A outer s H vs Q E hr h => ?_)
  · obtain ⟨v, b, rfl, _⟩ := h
    rfl
  · obtain ⟨v, b, rfl, hv, q⟩ := h
    refine ⟨_, (pss_one (ps_ret (pe_and (pe_callB call_isi (by rfl) B.b_isinstance (by decide +kernel) (pa_cons (pv 0) (pa_cons (pe_bltn (v := .ty "str") (by rfl) B.b_str (by decide +kernel) rfl) pa_nil))) (pe_one (pe_cmpR op_in_seq (pv 0) (pe_glob (v := .ref aA) (by rfl) T.g_ACTIONS rfl) (by rfl)))))), ?_⟩
    refine ⟨_, rfl, ?_⟩
    cases hv with
    | str z =>
      refine ⟨_, _, _, _, true, rfl, .ty "str", .base (.str z), kit_ty (by decide +kernel), ?_⟩
      refine ⟨_, rfl, ?_⟩
      refine ⟨_, rfl, aA, _, rfl, .inr (T.sA _), rfl, flat_strs acts, ?_⟩
      show Q (.bl (inV (.str z) (acts.map V.str))) H
      rw [inV_strs]
      exact q
    | other ty no =>
      refine ⟨_, _, _, _, false, rfl, .ty "str", ty, no, ?_⟩
      exact ⟨_, rfl, q⟩
theorem sc_isdoor : FnScope ["value"] ["value"] (defScope s_isdoor) := ⟨rfl, rfl, rfl, by decide +kernel, rfl, by decide +kernel, by decide +kernel⟩
theorem ok_isdoor {f : Addr} {fd : FuncData} (F : Fun K "is_door" "is_door" s_isdoor f fd) (B : TxtB mg) (T : TxtK K mg aA aD) : FnOk P w K mg base CX0 1 f fd ["value"] (spAmong K doors) := by
  refine F.ok sc_isdoor (fun vs H Q E h => ?_) (fun cdv A outer s H vs Q E hr h => ?_)
  · obtain ⟨v, b, rfl, _⟩ := h
    rfl
  · obtain ⟨v, b, rfl, hv, q⟩ := h
    refine ⟨_, (pss_one (ps_ret (pe_and (pe_callB call_isi (by rfl) B.b_isinstance (by decide +kernel) (pa_cons (pv 0) (pa_cons (pe_bltn (v := .ty "str") (by rfl) B.b_str (by decide +kernel) rfl) pa_nil))) (pe_one (pe_cmpR op_in_seq (pv 0) (pe_glob (v := .ref aD) (by rfl) T.g_DOORS rfl) (by rfl)))))), ?_⟩
    refine ⟨_, rfl, ?_⟩
    cases hv with
    | str z =>
      refine ⟨_, _, _, _, true, rfl, .ty "str", .base (.str z), kit_ty (by decide +kernel), ?_⟩
      refine ⟨_, rfl, ?_⟩
      refine ⟨_, rfl, aD, _, rfl, .inr (T.sD _), rfl, flat_strs doors, ?_⟩
      show Q (.bl (inV (.str z) (doors.map V.str))) H
      rw [inV_strs]
      exact q
    | other ty no =>
      refine ⟨_, _, _, _, false, rfl, .ty "str", ty, no, ?_⟩
      exact ⟨_, rfl, q⟩
/-! ### rules by is_rule -/
/-- a value by whether it is a rule -/
inductive RuleCl (K : PySem.W.Frag) (H : Hp) : V → Bool → Prop
  | tup {a : Addr} {xs : List V} {bs : List Bool} (h : SqT K H a xs) (ty : TyX K H (.ref a) (.type "tuple")) (p : xs.length ≤ 6 → Paired (Among K H acts) xs bs) : RuleCl K H (.ref a) (decide (xs.length ≤ 6) && bs.all id)
  | other {v : V} {t : Value} (ty : TyX K H v t) (no : PySem.W.kitOne K t (.type "tuple") = some false) : RuleCl K H v false
def spIsRule (K : PySem.W.Frag) : Sp := fun vs H Q _ => ∃ v b, vs = [v] ∧ RuleCl K H v b ∧ ∀ H', Same H H' → Q (.bl b) H'
theorem _root_.L2.Same.tyX {H H' : Hp} (s : Same H H') {v : V} {t : Value} (h : TyX K H v t) : TyX K H' v t := by
  cases h with
  | base b =>
    cases b with
    | non => exact .base .non
    | bl x => exact .base (.bl x)
    | int x => exact .base (.int x)
    | str x => exact .base (.str x)
    | flt x => exact .base (.flt x)
    | lst e => exact .base (.lst (s _ _ e))
    | frz e => exact .base (.frz (s _ _ e))
    | tup e => exact .base (.tup (s _ _ e))
    | dK e => exact .base (.dK (s _ _ e))
    | dT e => exact .base (.dT (s _ _ e))
    | ins e a b c d f => exact .base (.ins (s _ _ e) a b c d f)
  | byt b => exact .byt b
  | set e => exact .set (s _ _ e)
  | kList e c => exact .kList e c
  | kTuple e c => exact .kTuple e c
  | kDict e c => exact .kDict e c
  | fTuple e => exact .fTuple (s _ _ e)
  | fDict e => exact .fDict (s _ _ e)
theorem sqT_same {H H' : Hp} (s : Same H H') {a : Addr} {xs : List V} (h : SqT K H a xs) : SqT K H' a xs := s.kt.sqT h
theorem among_same {H H' : Hp} (s : Same H H') {l : List Str} {v : V} {b : Bool} (h : Among K H l v b) : Among K H' l v b := h.kt fun _ q => s.tyX q
theorem sc_isrule : FnScope ["value", "part"] ["value"] (defScope s_isrule) := ⟨rfl, rfl, rfl, by decide +kernel, rfl, by decide +kernel, by decide +kernel⟩
theorem ok_isrule {f fA : Addr} {fd fdA : FuncData} (F : Fun K "is_rule" "is_rule" s_isrule f fd) (B : TxtB mg) (T : TxtK K mg aA aD) (gA : mg "is_action" = some (.ref fA)) (FA : Fun K "is_action" "is_action" s_isact fA fdA) (bA : Binds K fdA ["value"] []) :
    FnOk P w K mg base CX0 2 f fd ["value"] (spIsRule K) := by
  have GA : FnOk P w K mg base CX0 1 fA fdA ["value"] (spAmong K acts) := ok_isact FA B T
  refine F.ok sc_isrule (fun vs H Q E h => ?_) (fun cdv A outer s H vs Q E hr h => ?_)
  · obtain ⟨v, b, rfl, _⟩ := h
    rfl
  · obtain ⟨v, b, rfl, hv, q⟩ := h
    obtain ⟨t6, g6⟩ := T.g_MOST
    refine ⟨_, (pss_one (ps_ret (pe_and (pe_callB call_isi (by rfl) B.b_isinstance (by decide +kernel) (pa_cons (pv 0) (pa_cons (pe_bltn (v := .ty "tuple") (by rfl) B.b_tuple (by decide +kernel) rfl) pa_nil))) (pe_and (pe_cmpR op_le (pe_callB call_len_seq (by rfl) B.b_len (by decide +kernel) (pa_cons (pv 0) pa_nil)) (pe_glob (v := .int 6) (by rfl) g6 ⟨_, rfl⟩) (nomark _)) (pe_one (pe_callB (cr_all rfl) (by rfl) B.b_all (by decide +kernel) (pa_cons (pe_lc (own := [("part", 1)]) (g := (gName 1)) (by rfl) sc_isrule.nd (pi_tup (pv 0)) (blkOk_by (own := [("part", 1)]) (N := ["value", "part"]) (sc := defScope s_isrule) (by decide +kernel)) (fun _ _ _ _ _ => (pg_name (i := 1) sc_isrule.nd rfl (Or.inl rfl))) (fun _ _ _ _ _ => pts_nil) (fun _ _ _ _ _ => (pe_call GA hr (by rfl) gA FA.kp bA .nil pass0 (pa_cons (pv 1) pa_nil)))) pa_nil))))))), ?_⟩
    refine ⟨_, rfl, ?_⟩
    cases hv with
    | other ty no =>
      refine ⟨_, _, _, _, false, rfl, .ty "tuple", ty, no, ?_⟩
      exact ⟨_, rfl, q _ (Same.refl _)⟩
    | @tup a xs bs h ty p =>
      refine ⟨_, _, _, _, true, rfl, .ty "tuple", ty, kit_ty (by decide +kernel), ?_⟩
      refine ⟨_, rfl, ?_⟩
      refine ⟨_, rfl, a, _, rfl, .inr h, _, _, rfl, rfl, ?_⟩
      refine ⟨_, rfl, ?_⟩
      refine ite2 (fun hc => ?_) (fun hc => ?_)
      · have hc' : xs.length ≤ 6 := Int.ofNat_le.mp (of_decide_eq_true hc)
        have pp := p hc'
        refine ⟨_, rfl, a, rfl, ⟨_, h⟩, fun D hD => ?_⟩
        refine lc_tup (K := K) (a := a) (xs := xs) (fun i H' => H' D = some (.lst ((bs.take i).map V.bl)) ∧ Same H H') ?_ ?_ ?_ ?_
        · exact ⟨upd_same, same_new hD⟩
        · intro i H' _ ⟨_, s'⟩
          exact sqT_same s' h
        · rintro i x H' hx ⟨hD', s'⟩
          obtain ⟨b, hb, hxb⟩ := pair_get1 pp hx
          refine ⟨rfl, ?_⟩
          refine ⟨_, rfl, x, b, rfl, among_same s' hxb, ?_⟩
          refine ⟨_, hD', ?_, ?_, ?_⟩
          · rw [List.length_map, List.length_take]
            exact small1000 (by have := (List.getElem?_eq_some_iff.mp hx).1; omega)
          · rw [upd_same, List.take_add_one, hb]
            simp
          · exact fun c o e => by rw [upd_ne (ne_of_none e hD)]; exact s' _ _ e
        · rintro H' ⟨hD', s'⟩
          refine ⟨D, bs, rfl, SqL.of ?_, ?_⟩
          · rw [hD', pp.length, List.take_length]
          · have e : (decide (xs.length ≤ 6) && bs.all id) = bs.all id := by
              rw [decide_eq_true hc']
              rfl
            rw [← e]
            exact q _ s'
      · have hc' : ¬ xs.length ≤ 6 := fun z => hc (decide_eq_true (Int.ofNat_le.mpr z))
        have e : (decide (xs.length ≤ 6) && bs.all id) = false := by
          rw [decide_eq_false hc']
          rfl
        have q' := q _ (Same.refl _)
        rw [e] at q'
        exact q'
end
end Sh

namespace Sh
open PySem L2
section
variable {P : Program} {w : World} {K : PySem.W.Frag} {mg : Str → Option Value} {base : Heap} {aA aD : Addr}
/-! ### the error classes with one field -/
structure ErrTxt (K : PySem.W.Frag) (mg : Str → Option Value) (x f : Str) (C fI : Addr) : Prop where
  oex : OexC K C
  no : PySem.W.findIn K (.ref C) f = some none
  iC : PySem.W.findIn K (.ref C) "__init__" = some (some (.ref fI))
  tI : PySem.W.typeIn K (.ref fI) = some (.type "function")
  g : mg x = some (.ref C)
def spErr (C : Addr) (f : Str) : Sp := fun vs H Q _ => ∃ (a : Addr) (v : V), vs = [.ref a, v] ∧ H a = some (exo a C none) ∧ ∀ d, H d = none → d ≠ a → Q .non (upd (upd H d (exd d [(f, v)])) a (exo a C (some d)))
theorem err_made {C : Addr} {f : Str} {v : V} {H : Hp} {Q : XK} (k : ∀ d H', H' d = some (.xd [(f, v)]) → Same H H' → H d = none → Q (.ref C) (some d) H') :
    ([v] : List V).length ≤ 1000 ∧ ∀ a, H a = none → spErr C f (.ref a :: ([v] ++ [])) (upd H a (exo a C none))
      (fun v H2 => v = .non ∧ ∃ (d : Addr) (fs : List (Str × V)), H2 a = some (exo a C (some d)) ∧ H2 d = some (exd d fs) ∧ H d = none ∧ Q (.ref C) (some d) (upd (del H2 a) d (.xd fs))) (fun _ _ _ => False) := by
  refine ⟨by show 1 ≤ 1000; decide, fun a ha => ⟨a, v, rfl, upd_same, fun d hd nd => ⟨rfl, d, [(f, v)], upd_same, ?_, ?_, ?_⟩⟩⟩
  · rw [upd_ne nd, upd_same]
  · rw [upd_ne nd] at hd
    exact hd
  · rw [upd_ne nd] at hd
    refine k d _ upd_same (fun b o e => ?_) hd
    have hb : b ≠ d := ne_of_none e hd
    have hba : b ≠ a := ne_of_none e ha
    rw [upd_ne hb, del_ne hba, upd_ne hba, upd_ne hb, upd_ne hba]
    exact e
abbrev s_eRule : Stmt := inClass (top 3) 0
abbrev s_eDoor : Stmt := inClass (top 4) 0
theorem sc_eRule : FnScope ["self", "door"] ["self", "door"] (defScope s_eRule) := ⟨rfl, rfl, rfl, by decide +kernel, rfl, by decide +kernel, by decide +kernel⟩
theorem ok_eRule {f C : Addr} {fd : FuncData} (F : Fun K "__init__" "NoRule.__init__" s_eRule f fd) (T : ErrTxt K mg "NoRule" "door" C f) : FnOk P w K mg base CX0 1 f fd ["self", "door"] (spErr C "door") := by
  refine F.ok sc_eRule (fun vs H Q E h => ?_) (fun cdv A outer s H vs Q E hr h => ?_)
  · obtain ⟨a, v, rfl, _⟩ := h
    rfl
  · obtain ⟨a, v, rfl, ha, k⟩ := h
    refine ⟨_, pss_one (ps_ost (pv 0) (pv 1) rfl), ?_⟩
    refine ⟨_, rfl, _, rfl, a, C, rfl, T.oex, T.no, .inl ⟨ha, fun d hd nd => ?_⟩⟩
    exact k d hd nd
theorem sc_eDoor : FnScope ["self", "door"] ["self", "door"] (defScope s_eDoor) := ⟨rfl, rfl, rfl, by decide +kernel, rfl, by decide +kernel, by decide +kernel⟩
theorem ok_eDoor {f C : Addr} {fd : FuncData} (F : Fun K "__init__" "NoDoor.__init__" s_eDoor f fd) (T : ErrTxt K mg "NoDoor" "door" C f) : FnOk P w K mg base CX0 1 f fd ["self", "door"] (spErr C "door") := by
  refine F.ok sc_eDoor (fun vs H Q E h => ?_) (fun cdv A outer s H vs Q E hr h => ?_)
  · obtain ⟨a, v, rfl, _⟩ := h
    rfl
  · obtain ⟨a, v, rfl, ha, k⟩ := h
    refine ⟨_, pss_one (ps_ost (pv 0) (pv 1) rfl), ?_⟩
    refine ⟨_, rfl, _, rfl, a, C, rfl, T.oex, T.no, .inl ⟨ha, fun d hd nd => ?_⟩⟩
    exact k d hd nd
/-! ### Book -/
theorem ruleCl_same {H H' : Hp} (s : Same H H') {v : V} {b : Bool} (h : RuleCl K H v b) : RuleCl K H' v b := by
  cases h with
  | tup h ty p => exact .tup (sqT_same s h) (s.tyX ty) fun z => pair_map (fun _ _ q => among_same s q) (p z)
  | other ty no => exact .other (s.tyX ty) no
def bf (l : Addr) : List (Str × V) := [("_rules", .ref l)]
def spBInit (K : PySem.W.Frag) (C CR : Addr) : Sp := fun vs H Q E => ∃ (x dx : Addr) (ws : List V) (bs : List Bool), vs = .ref x :: ws ∧ ws.length = 6 ∧ H x = some (.ins C dx []) ∧ Paired (RuleCl K H) ws bs ∧
  ((∀ b ∈ bs, b = true) → ∀ H' l, H' x = some (.ins C dx (bf l)) → H' l = some (.tup ws) → H l = none → (∀ b o, H b = some o → b ≠ x → H' b = some o) → Q .non H') ∧
  (∀ i, bs[i]? = some false → (∀ j, j < i → bs[j]? = some true) → ∀ d H', H' d = some (.xd [("door", .str (doors.getD i ""))]) → Same H H' → H d = none → E (.ref CR) (some d) H')
structure TxtBook (K : PySem.W.Frag) (mg : Str → Option Value) (C : Addr) : Prop where
  cl : Cls K C
  nR : NoAttr K C "_rules"
  g : mg "Book" = some (.ref C)
abbrev s_init : Stmt := inClass (top 13) 0
theorem sc_init : FnScope ["self", "put", "look", "alter", "back", "pay", "again", "rules", "door", "rule"] ["self", "put", "look", "alter", "back", "pay", "again"] (defScope s_init) := ⟨rfl, rfl, rfl, by decide +kernel, rfl, by decide +kernel, by decide +kernel⟩
theorem ok_init {f fS fA C CR fE : Addr} {dvs : List V} {fd fdS fdA fdE : FuncData} (F : FunD K "__init__" "Book.__init__" (defArgs s_init) (defBody s_init) (defScope s_init) dvs [] f fd) (B : TxtB mg) (T : TxtK K mg aA aD) (TB : TxtBook K mg C)
    (gA : mg "is_action" = some (.ref fA)) (FA : Fun K "is_action" "is_action" s_isact fA fdA) (bA : Binds K fdA ["value"] [])
    (gS : mg "is_rule" = some (.ref fS)) (FS : Fun K "is_rule" "is_rule" s_isrule fS fdS) (bS : Binds K fdS ["value"] [])
    (TE : ErrTxt K mg "NoRule" "door" CR fE) (FE : Fun K "__init__" "NoRule.__init__" s_eRule fE fdE) (bE : Binds K fdE ["self", "door"] []) :
    FnOk P w K mg base (L2.CX P w) 4 f fd ["self", "put", "look", "alter", "back", "pay", "again"] (spBInit K C CR) := by
  have GS : FnOk P w K mg base CX0 2 fS fdS ["value"] (spIsRule K) := ok_isrule FS B T gA FA bA
  have GE : FnOk P w K mg base CX0 1 fE fdE ["self", "door"] (spErr CR "door") := ok_eRule FE TE
  refine F.ok sc_init (fun vs H Q E h => ?_) (fun cdv A outer s H vs Q E hr h => ?_)
  · obtain ⟨x, dx, ws, bs, rfl, h6, _⟩ := h
    show ws.length + 1 = 7
    rw [h6]
  · obtain ⟨x, dx, ws, bs, rfl, h6, hx, pr, kq, ke⟩ := h
    match ws, h6 with
    | [w0, w1, w2, w3, w4, w5], _ => ?_
    have hr1 : Room 2 _ := hr.mono (by decide)
    refine ⟨_, (pss_cons (ps_set (i := 7) sc_init.nd rfl (Or.inl rfl) (pe_tup (pa_cons (pv 1) (pa_cons (pv 2) (pa_cons (pv 3) (pa_cons (pv 4) (pa_cons (pv 5) (pa_cons (pv 6) pa_nil))))))))
  (pss_cons (ps_for (passes_of rfl) rfl (RZ.pi_zipA (by rfl) B.b_zip (pa_cons (pe_glob (v := .ref aD) (by rfl) T.g_DOORS rfl) (pa_cons (pv 7) pa_nil))) (pg_tup (by rfl) (pgs_cons (pg_name (i := 8) sc_init.nd rfl (Or.inl rfl)) (pgs_cons (pg_name (i := 9) sc_init.nd rfl (Or.inl rfl)) pgs_nil))) (pss_one (ps_if (pt_not (pt_val (pe_call GS hr1 (by rfl) gS FS.kp bS .nil pass0 (pa_cons (pv 9) pa_nil)))) (pss_one (ps_raise rfl (takes_of rfl rfl rfl rfl) (pmk_oex TE.oex TE.iC TE.tI GE hr1 bE .nil pass0 (by rfl) TE.g (by exact (pa_cons (pv 8) pa_nil))))) pss_nil)))
  (pss_one (ps_fld (pv 0) (pv 7) rfl)))), ?_⟩
    refine ⟨_, rfl, _, rfl, _, rfl, _, rfl, _, rfl, _, rfl, ?_⟩
    refine ⟨by show 6 ≤ sizeLine; decide, fun l hl => ?_⟩
    have s1 : Same H (upd H l (.tup [w0, w1, w2, w3, w4, w5])) := same_new hl
    have nxl : x ≠ l := ne_of_none hx hl
    refine ⟨_, rfl, aD, l, doors.map V.str, [w0, w1, w2, w3, w4, w5], rfl, .inr ⟨T.sD _, SqT.of upd_same, ?_⟩⟩
    refine RZ.for_zipT (K := K) (a := aD) (b := l) (xs := doors.map V.str) (ys := [w0, w1, w2, w3, w4, w5]) rfl (fun i σ H' => ∃ v8 v9, σ = [some (.ref x), some w0, some w1, some w2, some w3, some w4, some w5, some (.ref l), v8, v9] ∧ Same (upd H l (.tup [w0, w1, w2, w3, w4, w5])) H' ∧ ∀ j, j < i → bs[j]? = some true) ?_ ?_ ?_ ?_
    · exact ⟨none, none, rfl, Same.refl _, fun j hj => absurd hj (Nat.not_lt_zero _)⟩
    · rintro i σ H' ⟨_, _, _, s2, _⟩
      exact ⟨T.sD _, SqT.of (s2 _ _ upd_same)⟩
    · rintro i u y tu σ H' hu hy ⟨v8, v9, rfl, s2, hb⟩ hT
      refine ⟨tu, [u, y], rfl, SqT.of upd_same, rfl, u, _, rfl, y, _, rfl, rfl, ?_⟩
      have s3 : Same H (upd H' tu (.tup [u, y])) := (s1.trans s2).trans (same_new hT)
      obtain ⟨b, hbi, hcl⟩ := pair_get1 pr hy
      refine ⟨_, rfl, y, b, rfl, ruleCl_same s3 hcl, fun H4 s4 => ⟨_, rfl, ?_⟩⟩
      cases b with
      | true =>
        refine ⟨_, _, rfl, s2.trans ((same_new hT).trans s4), fun j hj => ?_⟩
        by_cases e : j < i
        · exact hb j e
        · have e' : j = i := by omega
          rw [e']
          exact hbi
      | false =>
        have hi6 : i < doors.length := by
          have := (List.getElem?_eq_some_iff.mp hu).1
          rw [List.length_map] at this
          exact this
        have eu : u = .str (doors.getD i "") := by
          rw [List.getElem?_map] at hu
          rw [List.getD_eq_getElem?_getD]
          cases e : doors[i]? with
          | none =>
            rw [e] at hu
            cases hu
          | some z =>
            rw [e] at hu
            exact (Option.some.inj hu).symm
        subst eu
        refine ⟨_, rfl, err_made fun d H5 hd s5 hn => ?_⟩
        exact ke i hbi hb d H5 hd ((s3.trans s4).trans s5) ((s3.trans s4).free hn)
    · rintro σ H' ⟨v8, v9, rfl, s2, hb⟩
      have s3 := s1.trans s2
      refine ⟨_, rfl, _, rfl, x, C, dx, [], rfl, s3 _ _ hx, TB.cl, TB.nR, (by show 0 < 1000; decide), ?_⟩
      have hbl : bs.length = 6 := pr.length.symm
      refine kq (fun b hm => ?_) _ l upd_same ?_ hl fun b o e hb => ?_
      · obtain ⟨i, hi, e⟩ := List.getElem_of_mem hm
        have := hb i (by show i < 6; omega)
        rw [List.getElem?_eq_getElem hi] at this
        rw [← e]
        exact Option.some.inj this
      · rw [upd_ne nxl.symm]
        exact s2 _ _ upd_same
      · rw [upd_ne hb]
        exact s3 _ _ e
end
end Sh

namespace Sh
open PySem L2
/-! ### keywords of methods -/
def tMethN (C : Addr) (m : Str) (n : Nat) (sp : Sp) (gV : List V → List V → List V) (E : XK) (ta : TE) (tk : TA) : TE := fun σ H Q => ta σ H fun x H1 => ∃ a dx fs, x = .ref a ∧ H1 a = some (.ins C dx fs) ∧ fs.lookup m = none ∧
  tk σ H1 fun zs H2 => zs.length = n ∧ sp (gV [x] zs) H2 Q E
section
variable {X : Cx} {CX : CXT} {k : Nat} {f C : Addr} {fd : FuncData} {ps ks : List Str} {sp : Sp} {E : XK} {m : Str} {apos pos : Pos} {o : Expr} {kws : List Keyword} {ta : TE} {tk : TA} {g : List Value → List Value → List Value} {gV : List V → List V → List V}
/-- o.m(k = v, ..) -/
theorem pe_methK0 {pl : Sem Bool} (he : PE X o ta) (c : Cls X.K C) (hm : Meth X.K C m f) (F : FnOk X.prog X.w X.K X.mg X.base CX k f fd ps sp) (hr : Room k X.A) (hb : KBn X.K fd ps 1 ks g gV) (hx : Passes CX X E) (hkw : PK X kws tk)
    (hall : (backToKw pos (keywordEach kws X.env)).all (·.1.isSome) = true := by rfl) (hks : (backToKw pos (keywordEach kws X.env)).filterMap (·.1) = ks := by rfl)
    (hpl : ((backTo pos (starEach [] X.env)).any (·.1) || (backToKw pos (keywordEach kws X.env)).any (·.1.isNone)) = false := by rfl)
    (ht : eval (.Call (.Attribute o m apos) [] kws pos) X.env = (do
      let ov ← eval o X.env
      standAt apos.atName
      let (f, first) ← holding [ov] (getMethod ov m pl)
      callWith pos f first (backTo pos (starEach [] X.env)) (backToKw pos (keywordEach kws X.env))) := by rfl) :
    PE X (.Call (.Attribute o m apos) [] kws pos) (tMethN C m ks.length sp gV E ta tk) := by
  refine ⟨fun pins s σ H Q I h => ?_⟩
  refine PySem.W.methodCall_KW (pl := pl) (thn (he.run pins s σ H _ I h) fun u s1 ⟨x, H1, I1, rx, a, dx, fs, ex, ea, l, q⟩ => ?_) ht
  subst ex
  obtain rfl : u = Value.ref a := rx
  refine getmeth_ok I1 ea c hm l ?_
  refine PySem.W.callWith_KW0 (h₀ := X.base) (first := [.ref a]) I.ok.mod.kin hm.kp hall ?_ hpl
  refine thn (hkw.run pos pins s1 σ H1 _ I1 q) fun ws s2 ⟨zs, H2, I2, rz, l2, q2⟩ => ⟨I2.kIn, ?_⟩
  rw [hks]
  exact run_fnN (us := [.ref a]) (vs := [.ref a]) F hr hb hx I2 (.cons rfl .nil) rz rfl l2 q2
end
/-- the items at these places -/
def pick {α : Type} (ix : List Nat) (l : List α) : List α := ix.filterMap fun i => l[i]?
theorem pick_vals {xs : List V} {us : List Value} (r : Vals xs us) : ∀ ix : List Nat, Vals (pick ix xs) (pick ix us)
  | [] => .nil
  | i :: ix => by
    have h := pick_vals r ix
    show Vals (List.filterMap (fun i => xs[i]?) (i :: ix)) (List.filterMap (fun i => us[i]?) (i :: ix))
    cases e : xs[i]? with
    | none =>
      rw [List.filterMap_cons_none e, List.filterMap_cons_none (r.none_of e)]
      exact h
    | some x =>
      obtain ⟨u, eu, ru⟩ := r.get e
      rw [List.filterMap_cons_some e, List.filterMap_cons_some eu]
      exact .cons ru h
section
variable {K : PySem.W.Frag}
/-- a def without defaults, called with keywords -/
theorem kbn_of {x qual : Str} {st : Stmt} {f : Addr} {fd : FuncData} {ps ks : List Str} (F : Fun K x qual st f fd) (n : Nat) (ix : List Nat)
    (h : ∀ (kV doc pm : Value) (an : Option Addr) (cdv ct : Value) (us ws : List Value), us.length = n → ws.length = ks.length → bindArgs (PySem.W.fnOf x qual (defArgs st) (defBody st) (defScope st) .none kV doc pm an cdv ct) ⟨us, ks.zip ws⟩ = pure (ps.zip (pick ix (us ++ ws)))) :
    KBn K fd ps n ks (fun us ws => pick ix (us ++ ws)) (fun us ws => pick ix (us ++ ws)) := by
  obtain ⟨oc, od, kV, doc, pm, an, cdv, ct, osl, rfl, lk, hcd⟩ := F.ex
  exact ⟨fun s us ws _ h1 h2 => .of_eq (h kV doc pm an cdv ct us ws h1 h2), fun r1 r2 => pick_vals (r1.append r2) ix⟩
end
section
variable {P : Program} {w : World} {K : PySem.W.Frag} {mg : Str → Option Value} {base : Heap} {aA aD : Addr}
def BookAt (K : PySem.W.Frag) (C : Addr) (H : Hp) (p : Addr) (rs : List (List Str)) : Prop := ∃ dx l, H p = some (.ins C dx (bf l)) ∧ SixAt K H (.ref l) rs ∧ rs.length = 6
theorem KT.book {H H' : Hp} (k : KT H H') {C p : Addr} {rs : List (List Str)} (h : BookAt K C H p rs) : BookAt K C H' p rs := by
  obtain ⟨dx, l, hp, h6, e⟩ := h
  exact ⟨dx, l, k _ _ (fun _ z => by cases z) hp, k.six h6, e⟩
def spBRule (K : PySem.W.Frag) (C CD : Addr) : Sp := fun vs H Q E => ∃ (p : Addr) (v : V) (b : Bool) (rs : List (List Str)), vs = [.ref p, v] ∧ BookAt K C H p rs ∧ Among K H doors v b ∧
  (∀ (i : Nat) (z : Str) (u : V) (r : List Str), v = .str z → doors[i]? = some z → rs[i]? = some r → RuleAt K H u r → Q u H) ∧
  (b = false → ∀ d H', H' d = some (.xd [("door", v)]) → Same H H' → H d = none → E (.ref CD) (some d) H')
def spBRules (K : PySem.W.Frag) (C : Addr) : Sp := fun vs H Q _ => ∃ (p : Addr) (rs : List (List Str)), vs = [.ref p] ∧ BookAt K C H p rs ∧ ∀ v, SixAt K H v rs → Q v H
abbrev s_brule : Stmt := inClass (top 13) 2
abbrev s_brules : Stmt := inClass (top 13) 3
theorem sc_brules : FnScope ["self"] ["self"] (defScope s_brules) := ⟨rfl, rfl, rfl, by decide +kernel, rfl, by decide +kernel, by decide +kernel⟩
theorem ok_brules {f C : Addr} {fd : FuncData} (F : Fun K "rules" "Book.rules" s_brules f fd) (TB : TxtBook K mg C) : FnOk P w K mg base CX0 1 f fd ["self"] (spBRules K C) := by
  refine F.ok sc_brules (fun vs H Q E h => ?_) (fun cdv A outer s H vs Q E hr h => ?_)
  · obtain ⟨p, rs, rfl, _⟩ := h
    rfl
  · obtain ⟨p, rs, rfl, ⟨dx, l, hp, h6, e⟩, q⟩ := h
    refine ⟨_, (pss_one (ps_ret (pe_fld (pv 0) rfl))), ?_⟩
    exact ⟨_, rfl, p, C, dx, _, .ref l, rfl, hp, TB.cl, TB.nR, rfl, q _ h6⟩
theorem doors_nd {i j : Nat} {z : Str} (a : doors[i]? = some z) (b : doors[j]? = some z) : i = j := nd_ix (by decide +kernel : doors.Nodup) a b
theorem sc_brule : FnScope ["self", "door"] ["self", "door"] (defScope s_brule) := ⟨rfl, rfl, rfl, by decide +kernel, rfl, by decide +kernel, by decide +kernel⟩
theorem ok_brule {f C CD fE fS : Addr} {fd fdE fdS : FuncData} (F : Fun K "rule" "Book.rule" s_brule f fd) (B : TxtB mg) (T : TxtK K mg aA aD) (TB : TxtBook K mg C) (gS : mg "is_door" = some (.ref fS)) (FS : Fun K "is_door" "is_door" s_isdoor fS fdS) (bS : Binds K fdS ["value"] [])
    (TE : ErrTxt K mg "NoDoor" "door" CD fE) (FE : Fun K "__init__" "NoDoor.__init__" s_eDoor fE fdE) (bE : Binds K fdE ["self", "door"] []) : FnOk P w K mg base (L2.CX P w) 3 f fd ["self", "door"] (spBRule K C CD) := by
  have GS : FnOk P w K mg base CX0 1 fS fdS ["value"] (spAmong K doors) := ok_isdoor FS B T
  have GE : FnOk P w K mg base CX0 1 fE fdE ["self", "door"] (spErr CD "door") := ok_eDoor FE TE
  refine F.okX sc_brule (fun vs H Q E h => ?_) (fun cdv A outer s H vs Q E hr h => ?_)
  · obtain ⟨p, v, b, rs, rfl, _⟩ := h
    rfl
  · obtain ⟨p, v, b, rs, rfl, ⟨dx, l, hp, ⟨l', ws, el, hl, pr⟩, e6⟩, hv, q, ke⟩ := h
    have el' : l = l' := V.ref.inj el
    subst el'
    have hr1 : Room 1 _ := hr.mono (by decide)
    refine ⟨_, (pss_cons (ps_if (pt_not (pt_val (pe_call GS hr1 (by rfl) gS FS.kp bS .nil pass0 (pa_cons (pv 1) pa_nil)))) (pss_one (ps_raise rfl (takes_of rfl rfl rfl rfl) (pmk_oex TE.oex TE.iC TE.tI GE hr bE .nil pass0 (by rfl) TE.g (by exact (pa_cons (pv 1) pa_nil))))) pss_nil)
  (pss_one (ps_ret (pe_ix ix_tup (pe_fld (pv 0) rfl) (pe_bm PySem.F.plainAttrs_tuple PySem.F.slot_tuple_index PySem.F.type_tuple_index mt_tup_index (pe_glob (v := .ref aD) (by rfl) T.g_DOORS rfl) (pa_cons (pv 1) pa_nil)) (fun _ _ => rfl))))), ?_⟩
    refine ⟨_, rfl, v, b, rfl, hv, ⟨_, rfl, ?_⟩⟩
    cases hv with
    | other ty no => exact ⟨_, rfl, err_made fun d H5 hd s5 hn => ke rfl d H5 hd s5 hn⟩
    | str z =>
      by_cases hz : z ∈ doors
      · rw [decide_eq_true hz]
        obtain ⟨i, hi, ez⟩ := List.getElem_of_mem hz
        have hi' : doors[i]? = some z := by rw [List.getElem?_eq_getElem hi, ez]
        have hi6 : i < rs.length := by
          have : i < 6 := hi
          omega
        obtain ⟨u, hu, ru⟩ := pair_get pr (List.getElem?_eq_getElem hi6)
        refine ⟨_, rfl, p, C, dx, _, .ref l, rfl, hp, TB.cl, TB.nR, rfl, ?_⟩
        refine ⟨T.tD H, _, rfl, aD, doors, z, i, rfl, rfl, T.sD _, hi', fun m hm hm2 => ?_, ?_⟩
        · have := doors_nd hi' hm2
          omega
        · refine ⟨l, ws, (i : Int), u, rfl, rfl, hl, at_of rfl hu, ?_⟩
          exact q i z u _ rfl hi' (List.getElem?_eq_getElem hi6) ru
      · rw [decide_eq_false hz]
        exact ⟨_, rfl, err_made fun d H5 hd s5 hn => ke (decide_eq_false hz) d H5 hd s5 hn⟩
end
end Sh

namespace Sh
open PySem L2
section
variable {P : Program} {w : World} {K : PySem.W.Frag} {mg : Str → Option Value} {base : Heap} {aA aD : Addr}
theorem sqT_tyX {H : Hp} {a : Addr} {xs : List V} (h : SqT K H a xs) : TyX K H (.ref a) (.type "tuple") := by
  rcases h with (h | ⟨o, h⟩) | ⟨o, its, n, h1, h2, _⟩
  · exact .base (.tup h)
  · exact .fTuple h
  · exact .kTuple h1 h2
theorem RuleAt.tyX {H : Hp} {v : V} {r : List Str} (h : RuleAt K H v r) : TyX K H v (.type "tuple") := by
  obtain ⟨a, rfl, h⟩ := h
  exact sqT_tyX h
theorem SixAt.tyX {H : Hp} {v : V} {r : List (List Str)} (h : SixAt K H v r) : TyX K H v (.type "tuple") := by
  obtain ⟨a, vs, rfl, h, _⟩ := h
  exact sqT_tyX h
theorem among_strs {H : Hp} (l : List Str) : ∀ r : List Str, Paired (Among K H l) (r.map V.str) (r.map fun z => decide (z ∈ l))
  | [] => .nil
  | x :: r => .cons (.str x) (among_strs l r)
theorem ruleCl_of {H : Hp} {v : V} {r : List Str} (h : RuleAt K H v r) (hr : IsRule r) : RuleCl K H v true := by
  obtain ⟨a, rfl, h⟩ := h
  have e : (decide ((r.map V.str).length ≤ 6) && (r.map fun z => decide (z ∈ acts)).all id) = true := by
    rw [List.length_map, decide_eq_true hr.1, Bool.true_and, List.all_eq_true]
    intro b hb
    obtain ⟨z, hz, rfl⟩ := List.mem_map.mp hb
    exact decide_eq_true (hr.2 z hz)
  rw [← e]
  exact .tup h (sqT_tyX h) fun _ => among_strs acts r
theorem ruleCls_of {H : Hp} : ∀ {ws : List V} {rs : List (List Str)}, Paired (RuleAt K H) ws rs → (∀ r ∈ rs, IsRule r) → Paired (RuleCl K H) ws (rs.map fun _ => true)
  | _, _, .nil, _ => .nil
  | _, _, .cons a b, h => .cons (ruleCl_of a (h _ (List.mem_cons_self ..))) (ruleCls_of b fun r hr => h r (List.mem_cons_of_mem _ hr))
/-- a new book -/
theorem book_new {C CR x dx : Addr} {H : Hp} {ws : List V} {rs : List (List Str)} {Q : VK} {E : XK} (hx : H x = none) (hdx : H dx = none) (pr : Paired (RuleAt K H) ws rs) (hr : ∀ r ∈ rs, IsRule r) (h6 : rs.length = 6)
    (k : ∀ H', BookAt K C H' x rs → Same H H' → Q .non H') : spBInit K C CR (.ref x :: ws) (upd (upd H dx (.own x)) x (.ins C dx [])) Q E := by
  have s1 : Same H (upd (upd H dx (.own x)) x (.ins C dx [])) := fun b o e => by
    rw [upd_ne (ne_of_none e hx), upd_ne (ne_of_none e hdx)]
    exact e
  refine ⟨x, dx, ws, rs.map fun _ => true, rfl, by rw [pr.length, h6], upd_same, pair_map (fun _ _ q => ruleCl_same s1 q) (ruleCls_of pr hr), fun _ H' l h1 h2 h3 h4 => ?_, fun i hi => ?_⟩
  · have s2 : Same H H' := fun b o e => h4 b o (s1 b o e) (ne_of_none e hx)
    exact k H' ⟨dx, l, h1, ⟨l, ws, rfl, SqT.of h2, s2.kt.rules pr⟩, h6⟩ s2
  · rw [List.getElem?_map] at hi
    cases e : rs[i]? with
    | none =>
      rw [e] at hi
      cases hi
    | some r =>
      rw [e] at hi
      cases hi
theorem same_kp {j : Addr} {H H1 H2 : Hp} (s : Same H H1) (hj : H j = none) (k : Kp j H1 H2) : Same H H2 := fun b o e => k b o (ne_of_none e hj) (s b o e)
theorem same_upd {j : Addr} {H H1 : Hp} {o : HO} (s : Same H H1) (hj : H j = none) : Same H (upd H1 j o) := fun b u e => by
  rw [upd_ne (ne_of_none e hj)]
  exact s b u e
theorem six_six {H : Hp} {v : V} {rs : List (List Str)} (h : SixAt K H v rs) (h6 : rs.length = 6) : ∃ a u0 u1 u2 u3 u4 u5 r0 r1 r2 r3 r4 r5, v = .ref a ∧ rs = [r0, r1, r2, r3, r4, r5] ∧ SqT K H a [u0, u1, u2, u3, u4, u5] ∧
    Paired (RuleAt K H) [u0, u1, u2, u3, u4, u5] [r0, r1, r2, r3, r4, r5] := by
  obtain ⟨a, vs, rfl, hs, pr⟩ := h
  have hv := pr.length
  match rs, vs, h6, hv with
  | [r0, r1, r2, r3, r4, r5], [u0, u1, u2, u3, u4, u5], _, _ => exact ⟨a, u0, u1, u2, u3, u4, u5, r0, r1, r2, r3, r4, r5, rfl, rfl, hs, pr⟩
theorem nil_new {H : Hp} {e : Addr} : RuleAt K (upd H e (.tup [])) (.ref e) [] := ⟨e, rfl, SqT.of upd_same⟩
/-- how Book is made -/
structure MkB (P : Program) (w : World) (K : PySem.W.Frag) (mg : Str → Option Value) (base : Heap) (C CR fI : Addr) (fd : FuncData) (d0 d1 d2 d3 d4 d5 : V) : Prop where
  mkb : Mk K C fI
  ok : FnOk P w K mg base (L2.CX P w) 4 fI fd ["self", "put", "look", "alter", "back", "pay", "again"] (spBInit K C CR)
  dv : ∀ H, Paired (RuleAt K H) [d0, d1, d2, d3, d4, d5] [[], [], [], [], [], []]
theorem isRule_nil : IsRule [] := ⟨Nat.zero_le _, fun x hx => by cases hx⟩
abbrev pI : List Str := ["self", "put", "look", "alter", "back", "pay", "again"]
theorem rng_le (c n : Nat) (hc : 1 ≤ c) : 0 ≤ (if (if (n : Int) < (c : Int) then (n : Int) else c) > 1 then (if (n : Int) < (c : Int) then (n : Int) else c) else 1) ∧ (if (if (n : Int) < (c : Int) then (n : Int) else c) > 1 then (if (n : Int) < (c : Int) then (n : Int) else c) else 1) ≤ (c : Int) := by
  split <;> split <;> omega
def spLaw (K : PySem.W.Frag) : Sp := fun vs H Q _ => ∃ (a : Addr) (ns : List Int), vs = [.ref a] ∧ SqL K H a (ns.map V.int) ∧ ns.length ≤ 63 ∧ ∀ H', Q (.bl true) H'
section
variable {f : Addr} {fd : FuncData} {d0 d1 d2 d3 d4 d5 : V}
theorem empty_at {K : PySem.W.Frag} {H : Hp} {e : Addr} {o : Option Addr} {n : Nat} {sl : Array (Option Value)} (l : K.lookup e = some ⟨.type "tuple", o, .seq #[] n, sl⟩) : RuleAt K H (.ref e) [] := ⟨e, rfl, .inr ⟨_, _, _, l, rfl, rfl, Nat.zero_le _, .nil⟩⟩
theorem init_b6 (F : FunD K "__init__" "Book.__init__" (defArgs s_init) (defBody s_init) (defScope s_init) [d0, d1, d2, d3, d4, d5] [] f fd) : ∃ ds, Vals [] ds ∧ Binds K fd pI ds :=
  F.binds1 7 6 (fun z => by cases z) rfl fun _ _ _ _ _ _ _ us its h1 h2 => match us, its, h1, h2 with | [_, _, _, _, _, _, _], [_, _, _, _, _, _], _, _ => ⟨_, rfl, rfl⟩
end
end
end Sh

/-! sets of texts: set(t), {e for ..}, len of these -/
namespace Sh
open PySem PySem.Spec PyProof.Rows L2
/-! ### each once -/
def hasK {α : Type} [DecidableEq α] (k : α) (l : List α) : Bool := l.any fun j => decide (j = k)
theorem hasK_iff {α : Type} [DecidableEq α] {k : α} {l : List α} : hasK k l = true ↔ k ∈ l := by
  unfold hasK
  rw [List.any_eq_true]
  constructor
  · rintro ⟨j, hj, e⟩
    rw [← of_decide_eq_true e]
    exact hj
  · intro h
    exact ⟨k, h, decide_eq_true rfl⟩
theorem hasK_not {α : Type} [DecidableEq α] {k : α} {l : List α} : hasK k l = false ↔ ¬ k ∈ l := by
  rw [← hasK_iff]
  cases hasK k l <;> simp
def once {α : Type} [DecidableEq α] (l : List α) : List α := l.foldl (fun acc k => if hasK k acc = true then acc else acc ++ [k]) []
theorem once_snoc {α : Type} [DecidableEq α] (l : List α) (k : α) : once (l ++ [k]) = if hasK k (once l) = true then once l else once l ++ [k] := by
  unfold once
  rw [List.foldl_append]
  rfl
theorem rev_ind {α : Type} {C : List α → Prop} (h0 : C []) (h1 : ∀ l x, C l → C (l ++ [x])) (l : List α) : C l := by
  suffices h : ∀ r : List α, C r.reverse by
    have := h l.reverse
    rwa [List.reverse_reverse] at this
  intro r
  induction r with
  | nil => exact h0
  | cons x r ih =>
    rw [List.reverse_cons]
    exact h1 _ _ ih
theorem mem_once {α : Type} [DecidableEq α] (k : α) (l : List α) : k ∈ once l ↔ k ∈ l := by
  induction l using rev_ind with
  | h0 => simp [once]
  | h1 l x ih =>
    rw [once_snoc]
    by_cases h : hasK x (once l) = true
    · rw [if_pos h, ih, List.mem_append, List.mem_singleton]
      constructor
      · exact .inl
      · rintro (q | q)
        · exact q
        · subst q
          exact ih.mp (hasK_iff.mp h)
    · rw [if_neg h, List.mem_append, List.mem_append, ih]
theorem has_once {α : Type} [DecidableEq α] (k : α) (l : List α) : hasK k (once l) = hasK k l := by
  cases h : hasK k l with
  | true => exact hasK_iff.mpr ((mem_once k l).mpr (hasK_iff.mp h))
  | false => exact hasK_not.mpr fun z => hasK_not.mp h ((mem_once k l).mp z)
theorem once_len {α : Type} [DecidableEq α] (l : List α) : (once l).length ≤ l.length := by
  induction l using rev_ind with
  | h0 => simp [once]
  | h1 l x ih =>
    rw [once_snoc, List.length_append, List.length_singleton]
    split
    · omega
    · rw [List.length_append, List.length_singleton]
      omega
theorem nd_snoc {α : Type} {l : List α} {x : α} : (l ++ [x]).Nodup ↔ l.Nodup ∧ ¬ x ∈ l := by
  rw [List.nodup_append]
  constructor
  · rintro ⟨a, b, c⟩
    exact ⟨a, fun h => c x h x (List.mem_singleton.mpr rfl) rfl⟩
  · rintro ⟨a, b⟩
    refine ⟨a, List.nodup_cons.mpr ⟨by simp, List.nodup_nil⟩, fun y hy z hz e => ?_⟩
    rw [List.mem_singleton.mp hz] at e
    subst e
    exact b hy
theorem once_nd {α : Type} [DecidableEq α] (l : List α) : (once l).length = l.length ↔ l.Nodup := by
  induction l using rev_ind with
  | h0 => simp [once]
  | h1 l x ih =>
    have hle := once_len l
    rw [once_snoc, nd_snoc, List.length_append, List.length_singleton]
    by_cases h : hasK x (once l) = true
    · rw [if_pos h]
      rw [has_once] at h
      constructor
      · intro q
        omega
      · intro q
        exact absurd (hasK_iff.mp h) q.2
    · rw [if_neg h, List.length_append, List.length_singleton]
      rw [has_once] at h
      constructor
      · intro q
        exact ⟨ih.mp (by omega), fun z => h (hasK_iff.mpr z)⟩
      · intro q
        have := ih.mpr q.1
        omega
/-! ### set(t), t a tuple of keys -/
theorem nat_no {a b : Nat} (z : a = b) (h : a < b ∨ b < a) : False := by omega
/-- an empty set as it is made -/
def setNew (w : World) : Obj := { cls := .type "set", dict := none, data := .set #[] 0 (.fresh 0 0 (!w.params.followText "set-order")) }
theorem setNew_of {P : Program} {w : World} {h : Heap} {a : Addr} (e : h.get? a = some (setNew w)) : h.SetOf (mixKind P w) a (fun _ => false) 0 :=
  ⟨_, #[], 0, _, e, ⟨rfl, rfl, rfl⟩, rfl, (fun z hz => by simp at hz), (fun k => by simp), (by decide), (by rfl), rfl⟩
section
variable {P : Program} {w : World} {A : Around} {E : Value → Shared → Prop} {s : Shared}
theorem loop_keys {I : Addr} {fp wr : List Addr} {G : Array GenState → Array GenState → Prop} {n : Nat} {Pv : Nat → Value → Prop} {St : Nat → Shared → Prop} {R : Result → Shared → Prop} (W : WalksS P w A.in1 I fp wr G n Pv St) (S : Addr)
    (out : S ∉ fp) (ks : List Key) (hn : n = ks.length) (few : ks.length + 1 < scanBound) (kv : ∀ i v, Pv i v → ∃ k, ks[i]? = some k ∧ (mixKind P w).is k v = true ∧ v.scannable = true)
    (fin : ∀ s', Moved (S :: wr) G s s' → s'.heap.SetOf (mixKind P w) S (fun k => hasK k ks) (once ks).length → R (.ok (.ret .none)) s') : ∀ (left i : Nat) (s1 : Shared), n - i = left → i ≤ n → St i s1 → Moved (S :: wr) G s s1 →
      s1.heap.SetOf (mixKind P w) S (fun k => hasK k (ks.take i)) (once (ks.take i)).length → codeAny (model P w) A (.builtin "set.update.loop" ⟨[.ref S, .ref I], []⟩) R s1 := by
  have far : S ∉ wr := fun z => out (W.sub _ z)
  have more : ∀ b ∈ wr, b ∈ S :: wr := fun b hb => List.mem_cons_of_mem _ hb
  have stays : ∀ {h h' : Heap} {T : Key → Bool} {c : Nat}, h.SetOf (mixKind P w) S T c → (∀ o, h.get? S = some o → h'.get? S = some o) → h'.SetOf (mixKind P w) S T c := fun z k => setOf_at z k
  intro left
  induction left with
  | zero =>
    intro i s1 e hi st mv so
    have ei : i = n := by omega
    refine codeAny_builtin PyProof.Rows.F.entry_set_update_loop ?_
    rw [Around.under_plainId PyProof.Rows.F.plain_set_update_loop _, show ks.take i = ks from List.take_of_length_le (by omega)] at *
    refine wpAny_bind (W.done s1 _ _ (ei ▸ st) fun s2 m2 => ?_)
    exact wpAny_pure (fin s2 (Moved.trans W.gtrans mv (m2.mono more)) (stays so fun o q => m2.heap S o far q))
  | succ left ih =>
    intro i s1 e hi st mv so
    have lt : i < n := by omega
    refine codeAny_builtin PyProof.Rows.F.entry_set_update_loop ?_
    rw [Around.under_plainId PyProof.Rows.F.plain_set_update_loop _]
    refine wpAny_bind (W.item i s1 _ _ lt st fun v s2 pv st2 m2 => ?_)
    obtain ⟨k, hk, is, sc⟩ := kv i v pv
    have so2 := stays so fun o q => m2.heap S o far q
    show wpAny _ _ (holding [v] (setAdd S v) >>= _) _ _ _
    refine wpAny_bind (wpAny_holding ?_)
    unfold setAdd
    refine wpAny_holding (wpAny_bind ((mixKind P w).pyHash (k := k) is ?_))
    have room : (once (ks.take i)).length + 1 < scanBound := by
      have h1 := once_len (ks.take i)
      rw [List.length_take] at h1
      omega
    refine wpAny_setAddHashed_of (knd := mixKind P w) (s := { s2 with toks := s2.toks + 1 }) is sc so2 room fun h3 but so3 => ?_
    have tk : ks.take (i + 1) = ks.take i ++ [k] := by rw [List.take_add_one, hk]; rfl
    have so4 : h3.SetOf (mixKind P w) S (fun j => hasK j (ks.take (i + 1))) (once (ks.take (i + 1))).length := by
      have e1 : (fun j => hasK j (ks.take i) || decide (j = k)) = fun j => hasK j (ks.take (i + 1)) := funext fun j => by
        rw [tk]
        unfold hasK
        rw [List.any_append, List.any_cons, List.any_nil, Bool.or_false, show decide (k = j) = decide (j = k) from decide_eq_decide.mpr eq_comm]
      have e2 : (if hasK k (ks.take i) = true then (once (ks.take i)).length else (once (ks.take i)).length + 1) = (once (ks.take (i + 1))).length := by
        rw [tk, once_snoc, has_once]
        cases h1 : hasK k (ks.take i) with
        | true => rw [if_pos rfl, if_pos rfl]
        | false => rw [if_neg Bool.false_ne_true, if_neg Bool.false_ne_true, List.length_append]; rfl
      rw [e1, e2] at so3
      exact so3
    refine wpAny_pure ⟨plainId_quiet PyProof.Rows.F.plain_set_update_loop _, ih (i + 1) _ (by omega) lt (W.frame _ s2 _ _ st2 (Nat.le_succ _) fun b hb o q => ?_) ?_ so4⟩
    · exact (but.2 b fun z => out (z ▸ hb)).trans q
    · refine Moved.trans W.gtrans mv ((m2.mono more).then_heap (Nat.le_succ _) fun b o hb q => ?_)
      exact (but.2 b fun z => hb (z ▸ List.mem_cons_self)).trans q
set_option maxHeartbeats 4000000 in
theorem set_of_tuple {l : Addr} {items : Array Value} (ks : List Key) {Q : Value → Shared → Prop} (hh : A.handled = none) (hl : s.heap.IsTuple l items) (sz : items.size = ks.length) (few : ks.length + 1 < scanBound)
    (kv : ∀ (i : Nat) (v : Value), items[i]? = some v → ∃ k, ks[i]? = some k ∧ (mixKind P w).is k v = true ∧ v.scannable = true)
    (h : ∀ (h' : Heap) (tk : Nat), h'.SetOf (mixKind P w) s.heap.objs.size (fun k => hasK k ks) (once ks).length → (∀ b o, s.heap.get? b = some o → h'.get? b = some o) → Q (.ref s.heap.objs.size) { s with heap := h', toks := tk }) :
    wpAny (model P w) A (call (.type "set") [.ref l]) Q E s := by
  have ⟨c, tl, m1⟩ := PySem.F.called_set.mro
  have m2 := PySem.F.called_set.made
  have m3 := PySem.F.called_set.sub
  have m4 := PySem.F.called_set.notType
  have m5 := PySem.F.called_set.canCreate
  have m6 := PySem.F.typeCall_set_1 (.ref l)
  refine wpAny_call (codeAny_of_tree (show wpAny _ _ (callAny (.type "set") _) _ _ _ from wpAny_pure ⟨Code.quiet_builtin _ (by decide +kernel), codeAny_builtin PySem.F.entry_type_call ?_⟩))
  rw [Around.under_plain (weight_type_call_type "set" [.ref l] []) rfl]
  repeat (any_goals (first | assumption | wp_step))
  refine codeAny_mono (code_set_led1 (.ref l) (E := E) (Q₁ := fun u s1 => u = .ref s.heap.objs.size ∧ s1 = { s with heap := s.heap.push (setNew w) }) ⟨rfl, rfl⟩) fun r s1 hr => ?_
  match r, hr with
  | .error e, hr => exact hr
  | .ok (.ret u), hr =>
    obtain ⟨rfl, rfl⟩ := hr
    have e0 : (s.heap.push (setNew w)).get? s.heap.objs.size = some (setNew w) := Heap.get?_push_size _ rfl
    have ty : Shared.TypeIs { s with heap := s.heap.push (setNew w) } (.ref s.heap.objs.size) "set" := ⟨_, e0, rfl⟩
    have i1 := PySem.F.called_set.init.lookup
    have i2 := PySem.F.called_set.init.bind (.ref s.heap.objs.size)
    repeat (any_goals (first | assumption | wp_step))
    refine codeAny_mono (codeAny_call_builtin (R := wants (fun u s2 => u = .none ∧ ∃ h' tk, s2 = { s with heap := h', toks := tk } ∧ h'.SetOf (mixKind P w) s.heap.objs.size (fun k => hasK k ks) (once ks).length ∧ (∀ b o, s.heap.get? b = some o → h'.get? b = some o)) E)
      PySem.F.called_set.init.plain PySem.F.entry_set_init (check_set_init_1 ty ?_)) fun r2 s2 hr2 => ?_
    · obtain ⟨⟨oc, od, _, os⟩, ho, rfl, nl, rfl⟩ := hl
      have ho1 := Heap.get?_push_of_some (setNew w) ho
      have t1 := PySem.F.sub_tuple_set
      have t2 := PySem.F.sub_tuple_frozenset
      have t3 : (Value.type "tuple" == Value.type "dict") = false := by decide
      have tl1 : (s.heap.push (setNew w)).IsTuple l items := ⟨_, ho1, rfl, nl, rfl⟩
      have lt := Heap.lt_size ho
      have z1 : (s.heap.push (setNew w)).objs.size = s.heap.objs.size + 1 := Heap.size_push _ _
      unfold Builtin.«set.__init__» noKeywords Builtin.Frozenset.updateFrom
      generalize hP : pyIter = PI
      wp_walk
      subst hP
      refine wpAny_pyIter_tuple tl1 (wpAny_bind (wpAny_runValue ?_))
      have hd : A.in1.in1.in1.handled = none := by simp [hh]
      have n1 : l ≠ (s.heap.push (setNew w)).objs.size := fun z => nat_no z (.inl (by rw [z1]; exact Nat.lt_succ_of_lt lt))
      have n2 : s.heap.objs.size ∉ [(s.heap.push (setNew w)).objs.size, l] := by
        intro z
        rcases List.mem_cons.mp z with z | z
        · exact nat_no z (.inl (by rw [z1]; exact Nat.lt_succ_self _))
        · exact nat_no (List.mem_singleton.mp z) (.inr lt)
      refine loop_keys ((Walks.tuple hd _ l n1 items).toS) s.heap.objs.size n2 ks sz few kv (fun s3 m so => ?_) items.size 0 _ (by omega) (Nat.zero_le _) ⟨⟨_, Heap.get?_push_size _ rfl, rfl, rfl⟩, tl1.push _⟩ ⟨fun _ _ _ e => e, rfl, rfl, rfl, Nat.le_refl _⟩ ?_
      · obtain ⟨h3, g3, d3, k3, o3⟩ := s3
        obtain rfl : g3 = s.gens := m.gens
        obtain rfl : d3 = s.drawn := m.drawn
        obtain rfl : o3 = s.os := m.os
        refine wpAny_pure (wpAny_pure ⟨rfl, h3, k3, rfl, so, fun b o e => ?_⟩)
        have lb := Heap.lt_size e
        refine m.heap b o (fun z => ?_) (Heap.get?_push_of_some _ (Heap.get?_push_of_some _ e))
        rcases List.mem_cons.mp z with z | z
        · exact nat_no z (.inl lb)
        · rcases List.mem_cons.mp z with z | z
          · exact nat_no z (.inl (by rw [z1]; exact Nat.lt_succ_of_lt lb))
          · cases z
      · exact setNew_of (Heap.get?_push_of_some _ e0)
    · match r2, hr2 with
      | .error e, hr2 => exact hr2
      | .ok (.ret u2), hr2 =>
        obtain ⟨rfl, h', tk, rfl, so, kp⟩ := hr2
        repeat (any_goals (first | assumption | wp_step))
        exact h _ _ so kp
      | .ok .next, hr2 => exact hr2.elim
      | .ok .brk, hr2 => exact hr2.elim
      | .ok .cont, hr2 => exact hr2.elim
  | .ok .next, hr => exact hr.elim
  | .ok .brk, hr => exact hr.elim
  | .ok .cont, hr => exact hr.elim
end
end Sh

/-! further rules: len(set(t)), C(*xs), zips of tuples walked by a comprehension, calls in a try, several clauses with names -/
namespace Sh
open PySem PySem.Spec PyProof.Rows L2
section
variable {X : Cx}
/-- len(set(a)), a a tuple of texts -/
def tLenSetT (K : PySem.W.Frag) (ta : TE) : TE := fun σ H Q => ta σ H fun x H1 => ∃ (l : Addr) (xs : List Str), x = .ref l ∧ SqT K H1 l (xs.map V.str) ∧ xs.length ≤ 1000 ∧ Q (.int ((once (xs.map (Sum.inr : Str → Key))).length : Nat)) H1
theorem pe_lenSetT {a : Expr} {ta : TE} {p p2 q pos : Pos} (hc : X.calm = true) (g1 : Gl X "len") (m1 : X.mg "len" = none) (g2 : Gl X "set") (m2 : X.mg "set" = none) (ha : PE X a ta)
    (na : starEach [a] X.env = (false, eval a X.env) :: starEach [] X.env := by rfl) : PE X (.Call (.Name "len" p) [.Call (.Name "set" p2) [a] [] q] [] pos) (tLenSetT X.K ta) := by
  refine ⟨fun pins s σ H Q I h => Call_ (ld_blt I g1 m1 boot_len (callWith_builtin1 (args_cons ?_ rfl) rfl rfl))⟩
  refine Call_ (ld_blt I g2 m2 boot_set (callWith_type1 (args_cons (thn (ha.run pins s σ H _ I h) fun v s1 ⟨x, H1, I1, r1, q1⟩ => args_nil ?_) na) na rfl))
  obtain ⟨l, xs, rfl, hq, few, q1⟩ := q1
  cases r1
  obtain ⟨its, r, pl, hz⟩ := I1.tuple hq
  have len : its.length = xs.length := by rw [← r.length, List.length_map]
  refine set_of_tuple (xs.map Sum.inr) (I1.ok.hd hc) pl (by rw [List.size_toArray, List.length_map, len]) (by rw [List.length_map]; unfold scanBound; omega) (fun i v e => ?_) fun h' tk so k => args_nil ?_
  · have e' : its[i]? = some v := by simpa using e
    have lt : i < xs.length := by rw [← len]; exact (List.getElem?_eq_some_iff.mp e').1
    obtain ⟨u, hu, t, ht⟩ := r.get (i := i) (x := .str xs[i]) (by rw [List.getElem?_map, List.getElem?_eq_getElem lt]; rfl)
    rw [e'] at hu
    cases hu
    refine ⟨.inr xs[i], by rw [List.getElem?_map, List.getElem?_eq_getElem lt]; rfl, ?_, ?_⟩
    · rw [ht]
      exact keyIs_str xs[i] t
    · rw [ht]
      rfl
  · obtain ⟨o, es, ep, t, ho, hex, hd, _, _, _, hf, hn⟩ := so
    have I2 : Inv X pins σ H1 { s1 with heap := h', toks := tk } := I1.kept fun b o e => k b o e
    have le := once_len (xs.map (Sum.inr : Str → Key))
    rw [List.length_map] at le
    exact call_len_set ho hex hd hf (by rw [hn]; omega) ⟨.int _, H1, I2.tok _, ⟨_, by rw [hn]⟩, q1⟩
theorem nd_map {α β : Type} {f : α → β} (inj : ∀ a b, f a = f b → a = b) : ∀ {l : List α}, (l.map f).Nodup ↔ l.Nodup
  | [] => by simp
  | x :: l => by
    rw [List.map_cons, List.nodup_cons, List.nodup_cons, nd_map inj]
    constructor
    · rintro ⟨a, b⟩
      exact ⟨fun w => a (List.mem_map.mpr ⟨x, w, rfl⟩), b⟩
    · rintro ⟨a, b⟩
      refine ⟨fun w => ?_, b⟩
      obtain ⟨y, hy, e⟩ := List.mem_map.mp w
      exact a (inj _ _ e ▸ hy)
theorem once_texts {xs : List Str} : (once (xs.map (Sum.inr : Str → Key))).length = xs.length ↔ xs.Nodup := by
  have h := once_nd (xs.map (Sum.inr : Str → Key))
  rw [List.length_map] at h
  rw [h]
  exact nd_map fun _ _ e => by cases e; rfl
/-! ### zip of two tuples in a comprehension -/
theorem walk_zipT {K : PySem.W.Frag} {a b : Addr} {xs ys : List V} (e : xs.length = ys.length) : Walk (RZ.ItzT K a b) xs.length (fun H => SqT K H a xs ∧ SqT K H b ys) (YPair (fun i => xs[i]?) (fun i => ys[i]?)) :=
  ⟨fun i H lt q => ⟨xs, ys, xs[i], ys[i]'(e ▸ lt), q.1, q.2, List.getElem?_eq_getElem lt, List.getElem?_eq_getElem (e ▸ lt)⟩, fun H q => ⟨xs, ys, q.1, q.2, .inl (Nat.le_refl _)⟩,
    fun i H x H' lt q y => by
      obtain ⟨T, u, v, h1, h2, h3, h4, h5⟩ := y
      exact ⟨T, u, v, h1, h2, h3, h4 _ q.1, h5 _ q.2⟩⟩
/-! ### C(*xs) -/
variable {CX : CXT} {k n : Nat} {f C : Addr} {fd : FuncData} {ps ks : List Str} {sp : Sp} {dvs : List V} {ds : List Value} {E : XK} {x m : Str} {p pos apos sp_ : Pos} {e o : Expr} {es : List Expr} {kws : List Keyword} {te ta : TE} {t tk : TA}
  {g : List Value → List Value → List Value} {gV : List V → List V → List V}
theorem pe_makeS (M : Mk X.K C f) (F : FnOk X.prog X.w X.K X.mg X.base CX k f fd ps sp) (hr : Room (k + 1) X.A) (hg : Gl X x) (hm : X.mg x = some (.ref C)) (hb : Binds X.K fd ps ds) (hd : Vals dvs ds) (hx : Passes CX X E) (he : PE X e te)
    (hdb : (x == ("__debug__" : Str)) = false := by decide) (st : starEach [.Starred e sp_] X.env = [(true, eval e X.env)] := by rfl) :
    PE X (.Call (.Name x p) [.Starred e sp_] [] pos) (fun σ H Q => te σ H fun y H1 => ∃ a xs, y = V.ref a ∧ (SqT X.K H1 a xs ∨ SqL X.K H1 a xs) ∧ ∀ z dz, H1 z = none → H1 dz = none → dz ≠ z →
      sp (.ref z :: (xs ++ dvs)) (upd (upd H1 dz (.own z)) z (.ins C dz [])) (fun v H2 => v = .non ∧ Q (.ref z) H2) E) := by
  refine ⟨fun pins s σ H Q I h => wpAny_Call_Name_kw (ld_glob I hg hm ?_ hdb)⟩
  refine PySem.W.callWith_S (h₀ := X.base) I.ok.mod.kin M.kp (thn (he.run pins s σ H _ I h) fun v s1 ⟨y, H1, I1, ry, a, xs, ey, hxs, q⟩ => ?_) st
  subst ey
  cases ry
  exact StX.star_any I1 hxs fun us s2 I2 rv => ⟨I2.kIn, run_make M F hr hb hd hx I2 rv q⟩
/-! ### within a try: what is raised is wished for at the slots -/
def tMethT (C : Addr) (m : Str) (sp : Sp) (E : L2.St → XK) (ta : TE) (t : TA) : TE := fun σ H Q => ta σ H fun x H1 => ∃ a dx fs, x = .ref a ∧ H1 a = some (.ins C dx fs) ∧ fs.lookup m = none ∧ t σ H1 fun vs H2 => sp (x :: vs) H2 Q (E σ)
theorem pe_methT {E : L2.St → XK} {pl : Sem Bool} (he : PE X o ta) (c : Cls X.K C) (hm : Meth X.K C m f) (F : FnOk X.prog X.w X.K X.mg X.base CX k f fd ps sp) (hr : Room k X.A) (hb : Binds X.K fd ps []) (hx : ∀ σ, PassesAt CX X σ (E σ)) (ha : PA X (e :: es) t)
    (hst : starEach (e :: es) X.env = (false, eval e X.env) :: starEach es X.env := by rfl) (hpl : (backTo pos (starEach es X.env)).any (·.1) = false := by rfl)
    (ht : eval (.Call (.Attribute o m apos) (e :: es) [] pos) X.env = (do
      let ov ← eval o X.env
      standAt apos.atName
      let (f, first) ← holding [ov] (getMethod ov m pl)
      callWith pos f first (backTo pos (starEach (e :: es) X.env)) (backToKw pos (keywordEach [] X.env))) := by rfl) :
    PE X (.Call (.Attribute o m apos) (e :: es) [] pos) (tMethT C m sp E ta t) := by
  refine ⟨fun pins s σ H Q I h => PySem.W.methodCall_KW (pl := pl) (thn (he.run pins s σ H _ I h) fun u s1 ⟨x, H1, I1, rx, a, dx, fs, ex, ea, l, q⟩ => ?_) ht⟩
  subst ex
  cases rx
  refine getmeth_ok I1 ea c hm l (PySem.W.callWith_K (first := [.ref a]) (h₀ := X.base) I.ok.mod.kin hm.kp (thn (ha.run pos pins s1 σ H1 _ I1 q) fun us s2 ⟨vs, H2, I2, r, q2⟩ => ⟨I2.kIn, ?_⟩) hst hpl)
  exact run_fnS (us := .ref a :: us) (vs := .ref a :: vs) F hr hb (hx σ) I2 (.cons rfl r) q2
/-- all by position, told as a call with no keywords -/
theorem kbn_pos {K : PySem.W.Frag} (hb : Binds K fd ps ds) (hd : Vals dvs ds) (hn : n + ds.length = ps.length) : KBn K fd ps n [] (fun us _ => us ++ ds) (fun vs _ => vs ++ dvs) :=
  ⟨fun s us ws k h1 _ => hb s us k (by rw [List.length_append, h1, hn]), fun r1 _ => r1.append hd⟩
theorem run_makeT {pins : List (Addr × Obj)} {σ : L2.St} {H : Hp} {s : Shared} {Q : VK} {us ws : List Value} {vs zs : List V} (M : Mk X.K C f) (F : FnOk X.prog X.w X.K X.mg X.base CX k f fd ps sp) (hr : Room (k + 1) X.A) (hb : KBn X.K fd ps (n + 1) ks g gV)
    (hx : PassesAt CX X σ E) (I : Inv X pins σ H s) (r : Vals vs us) (rz : Vals zs ws) (l1 : vs.length = n) (l2 : zs.length = ks.length)
    (h : ∀ y dy, H y = none → H dy = none → dy ≠ y → sp (gV (.ref y :: vs) zs) (upd (upd H dy (.own y)) y (.ins C dy [])) (fun v H2 => v = .non ∧ Q (.ref y) H2) E) :
    wpAny (model X.prog X.w) X.A (call (.ref C) us (ks.zip ws)) (EP X pins σ Q) X.xe s := by
  have free : ∀ i, s.heap.objs.size ≤ i → H i = none := fun i hi => I.hok.fresh hi
  have hq := h (s.heap.objs.size + 1) s.heap.objs.size (free _ (Nat.le_succ _)) (free _ (Nat.le_refl _)) (Nat.ne_of_lt (Nat.lt_succ_self _))
  have I2 := Inv.made (C := C) I
  have q1 : Vals (V.ref (s.heap.objs.size + 1) :: vs) (Value.ref (s.heap.objs.size + 1) :: us) := .cons rfl r
  have bt := hb.to _ (Value.ref (s.heap.objs.size + 1) :: us) ws I2.kIn (q1.length.symm.trans (congrArg Nat.succ l1)) (rz.length.symm.trans l2)
  have run := F.run _ X.stack _ _ ⟨Value.ref (s.heap.objs.size + 1) :: us, ks.zip ws⟩ (g (Value.ref (s.heap.objs.size + 1) :: us) ws) _ _ E (hr.make C us (ks.zip ws)) (I2.env0.make C us (ks.zip ws)) bt (hb.rel q1 rz) hq
  refine wpAny_call (make_map (f := f) I.kIn M.makes M.init (beq_iff_eq.mp M.fn) (codeAny_mono run fun res s' hq' => ?_))
  match res, hq' with
  | .error er, hq' => exact hx pins _ _ er s' I2 hq'
  | .ok (.ret u), hq' =>
    obtain ⟨v, H', I3, rv, ev, q3⟩ := I2.after hq'
    subst ev
    exact ⟨rv, ⟨V.ref (s.heap.objs.size + 1), H', I3, rfl, q3⟩⟩
  | .ok .next, hq' => exact False.elim hq'
  | .ok .brk, hq' => exact False.elim hq'
  | .ok .cont, hq' => exact False.elim hq'
def tMakeT (C : Addr) (n m : Nat) (sp : Sp) (gV : List V → List V → List V) (E : L2.St → XK) (t tk : TA) : TE := fun σ H Q => t σ H fun vs H1 => tk σ H1 fun zs H2 => vs.length = n ∧ zs.length = m ∧
  ∀ y dy, H2 y = none → H2 dy = none → dy ≠ y → sp (gV (.ref y :: vs) zs) (upd (upd H2 dy (.own y)) y (.ins C dy [])) (fun v H3 => v = .non ∧ Q (.ref y) H3) (E σ)
theorem pe_makeT {E : L2.St → XK} (M : Mk X.K C f) (F : FnOk X.prog X.w X.K X.mg X.base CX k f fd ps sp) (hr : Room (k + 1) X.A) (hg : Gl X x) (hm : X.mg x = some (.ref C)) (hb : KBn X.K fd ps (n + 1) [] g gV) (hx : ∀ σ, PassesAt CX X σ (E σ)) (ha : PA X (e :: es) t)
    (hdb : (x == ("__debug__" : Str)) = false := by decide) (he : starEach (e :: es) X.env = (false, eval e X.env) :: starEach es X.env := by rfl) (hpl : (backTo pos (starEach es X.env)).any (·.1) = false := by rfl) :
    PE X (.Call (.Name x p) (e :: es) [] pos) (tMakeT C n 0 sp gV E t tNil) := by
  refine ⟨fun pins s σ H Q I h => wpAny_Call_Name_kw (ld_glob I hg hm (PySem.W.callWith_K (h₀ := X.base) I.ok.mod.kin M.kp (thn (ha.run pos pins s σ H _ I h) fun us s1 ⟨vs, H1, I1, r, l1, l2, q⟩ => ⟨I1.kIn, ?_⟩) he hpl) hdb)⟩
  exact run_makeT (ws := []) (zs := []) M F hr hb (hx σ) I1 r .nil l1 rfl q
theorem pe_makeTK {E : L2.St → XK} (M : Mk X.K C f) (F : FnOk X.prog X.w X.K X.mg X.base CX k f fd ps sp) (hr : Room (k + 1) X.A) (hg : Gl X x) (hm : X.mg x = some (.ref C)) (hb : KBn X.K fd ps 1 ks g gV) (hx : ∀ σ, PassesAt CX X σ (E σ)) (hkw : PK X kws tk)
    (hall : (backToKw pos (keywordEach kws X.env)).all (·.1.isSome) = true := by rfl) (hks : (backToKw pos (keywordEach kws X.env)).filterMap (·.1) = ks := by rfl) (hdb : (x == ("__debug__" : Str)) = false := by decide)
    (hpl : ((backTo pos (starEach [] X.env)).any (·.1) || (backToKw pos (keywordEach kws X.env)).any (·.1.isNone)) = false := by rfl) :
    PE X (.Call (.Name x p) [] kws pos) (tMakeT C 0 ks.length sp gV E tNil tk) := by
  refine ⟨fun pins s σ H Q I h => wpAny_Call_Name_kw (ld_glob I hg hm (PySem.W.callWith_KW0 (h₀ := X.base) I.ok.mod.kin M.kp hall ?_ hpl) hdb)⟩
  refine thn (hkw.run pos pins s σ H _ I h) fun ws s2 ⟨zs, H2, I2, rz, l1, l2, q2⟩ => ⟨I2.kIn, ?_⟩
  rw [hks]
  exact run_makeT (us := []) (vs := []) M F hr hb (hx σ) I2 .nil rz rfl l2 q2
end
end Sh

namespace Sh
open PySem L2
section
variable {P : Program} {w : World} {K : PySem.W.Frag} {mg : Str → Option Value} {base : Heap} {aA aD : Addr}
/-! ### what is a rule, told back -/
theorem among_true {H : Hp} {l : List Str} : ∀ {xs : List V} {bs : List Bool}, Paired (Among K H l) xs bs → bs.all id = true → ∃ zs : List Str, xs = zs.map V.str ∧ ∀ z ∈ zs, z ∈ l
  | _, _, .nil, _ => ⟨[], rfl, fun z hz => by cases hz⟩
  | _, b :: bs, .cons a r, h => by
    rw [List.all_cons, Bool.and_eq_true] at h
    obtain ⟨zs, e, q⟩ := among_true r h.2
    have h1 : b = true := h.1
    cases a with
    | other ty no => cases h1
    | str z =>
      refine ⟨z :: zs, by rw [e]; rfl, fun y hy => ?_⟩
      rcases List.mem_cons.mp hy with hy | hy
      · rw [hy]
        exact of_decide_eq_true h1
      · exact q y hy
theorem ruleCl_true {H : Hp} {v : V} (h : RuleCl K H v true) : ∃ r, RuleAt K H v r ∧ IsRule r := by
  suffices z : ∀ b, RuleCl K H v b → b = true → ∃ r, RuleAt K H v r ∧ IsRule r from z true h rfl
  intro b h e
  cases h with
  | other ty no => cases e
  | @tup a xs bs h ty p =>
    rw [Bool.and_eq_true] at e
    have e1 := of_decide_eq_true e.1
    obtain ⟨zs, ez, q⟩ := among_true (p e1) e.2
    subst ez
    rw [List.length_map] at e1
    exact ⟨zs, ⟨a, rfl, h⟩, e1, q⟩
/-! ### with_rule -/
def spWith (K : PySem.W.Frag) (C CD CR : Addr) : Sp := fun vs H Q E => ∃ (p : Addr) (v u : V) (b c : Bool) (r : List Str) (rs : List (List Str)), vs = [.ref p, v, u] ∧ BookAt K C H p rs ∧ (∀ r ∈ rs, IsRule r) ∧ Among K H doors v b ∧ RuleCl K H u c ∧ (c = true → RuleAt K H u r ∧ IsRule r) ∧
  (b = false → ∀ d H', H' d = some (.xd [("door", v)]) → Same H H' → H d = none → E (.ref CD) (some d) H') ∧
  (∀ (i : Nat) (z : Str), v = .str z → doors[i]? = some z → c = false → ∀ d H', H' d = some (.xd [("door", .str z)]) → Same H H' → H d = none → E (.ref CR) (some d) H') ∧
  (∀ (i : Nat) (z : Str), v = .str z → doors[i]? = some z → c = true → ∀ x H', BookAt K C H' x (rs.set i r) → Same H H' → Q (.ref x) H')
theorem paired_set {α β : Type} {F : α → β → Prop} {x : α} {y : β} (f : F x y) : ∀ {l1 : List α} {l2 : List β} (i : Nat), Paired F l1 l2 → Paired F (l1.set i x) (l2.set i y)
  | _, _, _, .nil => .nil
  | _, _, 0, .cons a b => .cons f b
  | _, _, i + 1, .cons a b => .cons a (paired_set f i b)
theorem take_set {α : Type} {l : List α} {i k : Nat} {u y : α} (hy : l[k]? = some y) : (l.set i u).take (k + 1) = (l.set i u).take k ++ [if k = i then u else y] := by
  have lt := (List.getElem?_eq_some_iff.mp hy).1
  rw [List.take_add_one]
  congr 1
  rw [List.getElem?_set]
  by_cases h : k = i
  · subst h
    simp [lt]
  · have h' : ¬ i = k := fun q => h q.symm
    rw [if_neg h', if_neg h, hy]
    rfl
abbrev s_with : Stmt := inClass (top 13) 4
theorem sc_with : FnScope ["self", "door", "rule", "rules", "name", "old"] ["self", "door", "rule"] (defScope s_with) := ⟨rfl, rfl, rfl, by decide +kernel, rfl, by decide +kernel, by decide +kernel⟩
theorem ok_with {f C CD CR fE fS fI : Addr} {fd fdE fdS fdI : FuncData} (F : Fun K "with_rule" "Book.with_rule" s_with f fd) (B : TxtB mg) (T : TxtK K mg aA aD) (TB : TxtBook K mg C)
    (gS : mg "is_door" = some (.ref fS)) (FS : Fun K "is_door" "is_door" s_isdoor fS fdS) (bS : Binds K fdS ["value"] [])
    (TE : ErrTxt K mg "NoDoor" "door" CD fE) (FE : Fun K "__init__" "NoDoor.__init__" s_eDoor fE fdE) (bE : Binds K fdE ["self", "door"] [])
    (MK : Mk K C fI) (GI : FnOk P w K mg base (L2.CX P w) 4 fI fdI pI (spBInit K C CR)) (b6 : Binds K fdI pI []) : FnOk P w K mg base (L2.CX P w) 6 f fd ["self", "door", "rule"] (spWith K C CD CR) := by
  have GS : FnOk P w K mg base CX0 1 fS fdS ["value"] (spAmong K doors) := ok_isdoor FS B T
  have GE : FnOk P w K mg base CX0 1 fE fdE ["self", "door"] (spErr CD "door") := ok_eDoor FE TE
  refine F.okX sc_with (fun vs H Q E h => ?_) (fun cdv A outer s H vs Q E hr h => ?_)
  · obtain ⟨p, v, u, b, c, r, rs, rfl, _⟩ := h
    rfl
  · obtain ⟨p, v, u, b, c, r, rs, rfl, hb, hrs, hv, hu, hur, eD, eR, q⟩ := h
    have r1 : Room 1 _ := hr.mono (by decide)
    have r2 : Room 2 _ := hr.mono (by decide)
    refine ⟨_, (pss_cons (ps_if (pt_not (pt_val (pe_call GS r1 (by rfl) gS FS.kp bS .nil pass0 (pa_cons (pv 1) pa_nil)))) (pss_one (ps_raise rfl (takes_of rfl rfl rfl rfl) (pmk_oex TE.oex TE.iC TE.tI GE r2 bE .nil pass0 (by rfl) TE.g (by exact (pa_cons (pv 1) pa_nil))))) pss_nil)
  (pss_cons (ps_setLc (i := 3) (own := [("name", 4), ("old", 5)]) (g := (gTup K 2 (gCons (gName 4) (gCons (gName 5) gNil)))) (by rfl) sc_with.nd rfl rfl (sw_true rfl rfl rfl (by decide +kernel)) (RZ.pi_zipA (by rfl) B.b_zip (pa_cons (pe_glob (v := .ref aD) (by rfl) T.g_DOORS rfl) (pa_cons (pe_fld (pv 0) rfl) pa_nil))) (blkOk_by (own := [("name", 4), ("old", 5)]) (N := ["self", "door", "rule", "rules", "name", "old"]) (sc := defScope s_with) (by decide +kernel)) (fun _ _ _ _ _ => (pg_tup (by rfl) (pgs_cons (pg_name (i := 4) sc_with.nd rfl (Or.inl rfl)) (pgs_cons (pg_name (i := 5) sc_with.nd rfl (Or.inl rfl)) pgs_nil)))) (fun _ _ _ _ _ => pts_nil) (fun _ _ _ _ _ => (pe_ifExp (pt_cmpR op_eq (pv 4) (pv 1) (nomark _)) (pv 2) (pv 5))))
  (pss_one (ps_ret (pe_makeS MK GI hr (by rfl) TB.g b6 .nil (passes_call (takes_of rfl rfl rfl rfl) fun _ _ _ _ h => h) (pv 3)))))), ?_⟩
    obtain ⟨dx, l, hp, ⟨l', ws, el, hl, pr⟩, e6⟩ := id hb
    cases el
    refine ⟨_, rfl, v, b, rfl, hv, ⟨_, rfl, ?_⟩⟩
    cases hv with
    | other ty no => exact ⟨_, rfl, err_made fun d H5 hd s5 hn => eD rfl d H5 hd s5 hn⟩
    | str z =>
      by_cases hz : z ∈ doors
      · rw [decide_eq_true hz]
        obtain ⟨i, hi, ez⟩ := List.getElem_of_mem hz
        have hi' : doors[i]? = some z := by rw [List.getElem?_eq_getElem hi, ez]
        have hw6 : ws.length = 6 := pr.length.trans e6
        refine ⟨_, rfl, p, C, dx, _, .ref l, rfl, hp, TB.cl, TB.nR, rfl, aD, l, _, ws, rfl, .inr ⟨T.sD _, hl, fun D hD => ?_⟩⟩
        refine lc_it (walk_zipT (K := K) (a := aD) (b := l) (xs := doors.map V.str) (ys := ws) (by rw [hw6]; rfl)) (fun k H' => H' D = some (.lst ((ws.set i u).take k)) ∧ Same H H') ?_ ?_ ?_ ?_
        · exact ⟨upd_same, same_new hD⟩
        · rintro k H' _ ⟨_, s'⟩
          exact ⟨T.sD _, s'.kt.sqT hl⟩
        · rintro k x H1 H2 hk ⟨h1, s1⟩ ⟨tu, n1, o1, rfl, ht, rfl, hn1, ho1⟩
          have nDt : D ≠ tu := ne_of_none h1 ht
          obtain ⟨dk, hdk, rfl⟩ : ∃ dk, doors[k]? = some dk ∧ n1 = V.str dk := by
            have hn1' : (doors.map V.str)[k]? = some n1 := hn1
            rw [List.getElem?_map] at hn1'
            cases e : doors[k]? with
            | none =>
              rw [e] at hn1'
              cases hn1'
            | some y =>
              rw [e] at hn1'
              exact ⟨y, rfl, (Option.some.inj hn1').symm⟩
          have ho1' : ws[k]? = some o1 := ho1
          have s2 : Same H (upd H1 tu (.tup [.str dk, o1])) := s1.trans (same_new ht)
          refine ⟨tu, _, rfl, SqT.of upd_same, rfl, .str dk, _, rfl, o1, _, rfl, rfl, rfl, ?_⟩
          have more : ∀ y : V, y = (if k = i then u else o1) → ∃ acc, upd H1 tu (.tup [.str dk, o1]) D = some (.lst acc) ∧ acc.length < sizeLine ∧ upd (upd H1 tu (.tup [.str dk, o1])) D (.lst (acc ++ [y])) D = some (.lst ((ws.set i u).take (k + 1))) ∧ Same H (upd (upd H1 tu (.tup [.str dk, o1])) D (.lst (acc ++ [y]))) := fun y ey => by
            refine ⟨_, by rw [upd_ne nDt]; exact h1, ?_, ?_, same_upd s2 hD⟩
            · rw [List.length_take, List.length_set, hw6]
              exact small1000 (by omega)
            · rw [upd_same, take_set ho1', ey]
          refine ⟨_, rfl, _, rfl, rfl, _, rfl, ?_⟩
          by_cases hki : k = i
          · subst hki
            have ed : dk = z := Option.some.inj (hdk.symm.trans hi')
            subst ed
            rw [decide_eq_true rfl]
            exact ⟨_, rfl, more u (by rw [if_pos rfl])⟩
          · have nd : ¬ V.str dk = V.str z := fun e => hki (doors_nd hdk (by rw [V.str.inj e]; exact hi'))
            rw [decide_eq_false nd]
            exact ⟨_, rfl, more o1 (by rw [if_neg hki])⟩
        · rintro H1 ⟨h1, s1⟩
          have full : (ws.set i u).take (doors.map V.str).length = ws.set i u := List.take_of_length_le (by rw [List.length_set, hw6]; exact Nat.le_refl 6)
          rw [full] at h1
          refine ⟨_, rfl, D, _, rfl, .inr (SqL.of h1), fun x dx hx hdx ne => ?_⟩
          have s2 : Same H (upd (upd H1 dx (.own x)) x (.ins C dx [])) := fun y o e => by
            rw [upd_ne (ne_of_none (s1 y o e) hx), upd_ne (ne_of_none (s1 y o e) hdx)]
            exact s1 y o e
          have hi6 : i < rs.length := by
            have : i < 6 := hi
            omega
          refine ⟨x, dx, ws.set i u, (rs.map fun _ => true).set i c, by rw [List.append_nil], by rw [List.length_set, hw6], upd_same, paired_set (ruleCl_same s2 hu) i (pair_map (fun _ _ q => ruleCl_same s2 q) (ruleCls_of pr hrs)), fun all H' l2 h3 h4 h5 h6 => ⟨rfl, ?_⟩, fun k hk _ d H' hd s3 hn => ?_⟩
          · have hc : c = true := all c (List.mem_of_getElem? (i := i) (by rw [List.getElem?_set_self (by rw [List.length_map]; exact hi6)]))
            subst hc
            obtain ⟨hr1, hr2⟩ := hur rfl
            have s4 : Same H H' := fun y o e => h6 y o (s2 y o e) (ne_of_none (s1 y o e) hx)
            exact q i z rfl hi' rfl x H' ⟨dx, l2, h3, ⟨l2, _, rfl, SqT.of h4, paired_set (s4.kt.rule hr1) i (s4.kt.rules pr)⟩, by rw [List.length_set, e6]⟩ s4
          · by_cases hki : k = i
            · subst hki
              rw [List.getElem?_set_self (by rw [List.length_map]; exact hi6)] at hk
              have ed : doors.getD k "" = z := by rw [List.getD_eq_getElem?_getD, hi']; rfl
              rw [ed] at hd
              exact eR k z rfl hi' (Option.some.inj hk) d H' hd (s2.trans s3) (s2.free hn)
            · rw [List.getElem?_set_ne (fun e => hki e.symm), List.getElem?_map] at hk
              cases e : rs[k]? with
              | none =>
                rw [e] at hk
                cases hk
              | some r =>
                rw [e] at hk
                cases hk
      · rw [decide_eq_false hz]
        exact ⟨_, rfl, err_made fun d H5 hd s5 hn => eD (decide_eq_false hz) d H5 hd s5 hn⟩
end
end Sh

namespace Sh
open PySem L2
section
variable {P : Program} {w : World} {K : PySem.W.Frag} {mg : Str → Option Value} {base : Heap} {aA aD : Addr}
/-! ### distinct doors -/
inductive DoorsCl (K : PySem.W.Frag) (H : Hp) : V → Bool → Prop
  | tup {a : Addr} {xs : List V} {bs : List Bool} (h : SqT K H a xs) (few : xs.length ≤ 1000) (p : Paired (Among K H doors) xs bs) : DoorsCl K H (.ref a) (bs.all id && decide xs.Nodup)
  | other {v : V} {t : Value} (ty : TyX K H v t) (no : PySem.W.kitOne K t (.type "tuple") = some false) : DoorsCl K H v false
def spDist (K : PySem.W.Frag) : Sp := fun vs H Q _ => ∃ v b, vs = [v] ∧ DoorsCl K H v b ∧ ∀ H', Same H H' → Q (.bl b) H'
abbrev s_dist : Stmt := top 12
theorem sc_dist : FnScope ["value", "part"] ["value"] (defScope s_dist) := ⟨rfl, rfl, rfl, by decide +kernel, rfl, by decide +kernel, by decide +kernel⟩
theorem ok_dist {f fA : Addr} {fd fdA : FuncData} (F : Fun K "are_distinct_doors" "are_distinct_doors" s_dist f fd) (B : TxtB mg) (bset : mg "set" = none) (T : TxtK K mg aA aD) (gA : mg "is_door" = some (.ref fA)) (FA : Fun K "is_door" "is_door" s_isdoor fA fdA) (bA : Binds K fdA ["value"] []) :
    FnOk P w K mg base CX0 2 f fd ["value"] (spDist K) := by
  have GA : FnOk P w K mg base CX0 1 fA fdA ["value"] (spAmong K doors) := ok_isdoor FA B T
  refine F.ok sc_dist (fun vs H Q E h => ?_) (fun cdv A outer s H vs Q E hr h => ?_)
  · obtain ⟨v, b, rfl, _⟩ := h
    rfl
  · obtain ⟨v, b, rfl, hv, q⟩ := h
    refine ⟨_, (pss_cons (ps_if (PW.pt (pw_or (pt_not (pt_val (pe_callB call_isi (by rfl) B.b_isinstance (by decide +kernel) (pa_cons (pv 0) (pa_cons (pe_bltn (v := .ty "tuple") (by rfl) B.b_tuple (by decide +kernel) rfl) pa_nil))))) (pw_or1 (pt_not (pt_val (pe_callB (cr_all rfl) (by rfl) B.b_all (by decide +kernel) (pa_cons (pe_lc (own := [("part", 1)]) (g := (gName 1)) (by rfl) sc_dist.nd (pi_tup (pv 0)) (blkOk_by (own := [("part", 1)]) (N := ["value", "part"]) (sc := defScope s_dist) (by decide +kernel)) (fun _ _ _ _ _ => (pg_name (i := 1) sc_dist.nd rfl (Or.inl rfl))) (fun _ _ _ _ _ => pts_nil) (fun _ _ _ _ _ => (pe_call GA hr (by rfl) gA FA.kp bA .nil pass0 (pa_cons (pv 1) pa_nil)))) pa_nil))))))) (pss_one (ps_ret pe_bl)) pss_nil)
  (pss_one (ps_ret (pe_cmpR op_eq (pe_lenSetT rfl (by rfl) B.b_len (by rfl) bset (pv 0)) (pe_callB call_len_seq (by rfl) B.b_len (by decide +kernel) (pa_cons (pv 0) pa_nil)) (nomark _))))), ?_⟩
    refine ⟨_, rfl, ?_⟩
    cases hv with
    | other ty no =>
      refine ⟨_, _, _, _, false, rfl, .ty "tuple", ty, no, ?_⟩
      exact ⟨_, rfl, q _ (Same.refl _)⟩
    | @tup a xs bs h few p =>
      refine ⟨_, _, _, _, true, rfl, .ty "tuple", sqT_tyX h, kit_ty (by decide +kernel), ?_⟩
      refine ⟨_, rfl, ?_⟩
      refine ⟨_, rfl, a, rfl, ⟨_, h⟩, fun D hD => ?_⟩
      refine lc_tup (K := K) (a := a) (xs := xs) (fun i H' => H' D = some (.lst ((bs.take i).map V.bl)) ∧ Same H H') ?_ ?_ ?_ ?_
      · exact ⟨upd_same, same_new hD⟩
      · intro i H' _ ⟨_, s'⟩
        exact sqT_same s' h
      · rintro i x H' hx ⟨hD', s'⟩
        obtain ⟨b, hb, hxb⟩ := pair_get1 p hx
        refine ⟨rfl, ?_⟩
        refine ⟨_, rfl, x, b, rfl, among_same s' hxb, ?_⟩
        refine ⟨_, hD', ?_, ?_, ?_⟩
        · rw [List.length_map, List.length_take]
          exact small1000 (by have := (List.getElem?_eq_some_iff.mp hx).1; omega)
        · rw [upd_same, List.take_add_one, hb]
          simp
        · exact same_upd s' hD
      · rintro H' ⟨hD', s'⟩
        refine ⟨D, bs, rfl, SqL.of (by rw [hD', p.length, List.take_length]), _, rfl, ?_⟩
        cases hb : bs.all id with
        | false =>
          have q' := q _ s'
          rw [hb] at q'
          exact q'
        | true =>
          obtain ⟨zs, ez, hz⟩ := among_true p hb
          subst ez
          have q' := q _ s'
          rw [hb, Bool.true_and] at q'
          refine ⟨_, rfl, a, zs, rfl, sqT_same s' h, by rw [List.length_map] at few; exact few, ?_⟩
          refine ⟨_, rfl, a, _, rfl, .inr (sqT_same s' h), rfl, ?_⟩
          have e : decide (V.int ((once (zs.map (Sum.inr : Str → Key))).length : Nat) = V.int ((zs.map V.str).length : Nat)) = decide (zs.map V.str).Nodup := by
            have h1 : (zs.map V.str).Nodup ↔ zs.Nodup := nd_map fun _ _ e => V.str.inj e
            rw [decide_eq_decide, h1, ← once_texts, List.length_map]
            constructor
            · intro z
              have := V.int.inj z
              omega
            · intro z
              rw [z]
          show Q (.bl (decide (V.int ((once (zs.map (Sum.inr : Str → Key))).length : Nat) = V.int ((zs.map V.str).length : Nat)))) H'
          rw [e]
          exact q'
/-! ### asking -/
structure OwnTxt (K : PySem.W.Frag) (mg : Str → Option Value) (x : Str) (C : Addr) : Prop where
  xP : PySem.W.excIn K C [.type "ValueError", .type "Exception", .type "BaseException", .type "object"] "ValueError.__new__" = true
  g : mg x = some (.ref C)
  k : PySem.W.keepIn K (.ref C) = true
  b : PySem.W.subIn K (.ref C) (.type "BaseException") = some true
  t : PySem.W.typeIn K (.ref C) = some (.type "type")
def asked (zs : List Str) (d : Str) (r : List Str) : List Str := if d ∈ zs then r ++ [("ask" : Str)] else r
def askedAll (zs : List Str) (rs : List (List Str)) : List (List Str) := List.zipWith (asked zs) doors rs
def spAsk (K : PySem.W.Frag) (C CN CR : Addr) : Sp := fun vs H Q E => ∃ (p : Addr) (v : V) (b : Bool) (zs : List Str) (rs : List (List Str)), vs = [.ref p, v] ∧ BookAt K C H p rs ∧ (∀ r ∈ rs, IsRule r) ∧ DoorsCl K H v b ∧
  (b = true → ∃ a : Addr, v = .ref a ∧ SqT K H a (zs.map V.str) ∧ ∀ z ∈ zs, z ∈ doors) ∧
  (b = false → ∀ H', Same H H' → E (.ref CN) none H') ∧
  (b = true → (∀ (i : Nat) (z : Str) (r : List Str), doors[i]? = some z → rs[i]? = some r → z ∈ zs → r.length = 6 → (∀ (j : Nat) (y : Str) (t : List Str), j < i → doors[j]? = some y → rs[j]? = some t → y ∈ zs → t.length < 6) →
      ∀ d H', H' d = some (.xd [("door", .str z)]) → Same H H' → H d = none → E (.ref CR) (some d) H') ∧
    ((∀ (i : Nat) (z : Str) (r : List Str), doors[i]? = some z → rs[i]? = some r → z ∈ zs → r.length < 6) → ∀ x H', BookAt K C H' x (askedAll zs rs) → Same H H' → Q (.ref x) H'))
theorem ruleCl_acts {H : Hp} {v : V} {r : List Str} (h : RuleAt K H v r) (ha : ∀ x ∈ r, x ∈ acts) : RuleCl K H v (decide (r.length ≤ 6)) := by
  obtain ⟨a, rfl, h⟩ := h
  have e : (decide ((r.map V.str).length ≤ 6) && (r.map fun z => decide (z ∈ acts)).all id) = decide (r.length ≤ 6) := by
    have all : (r.map fun z => decide (z ∈ acts)).all id = true := by
      rw [List.all_eq_true]
      intro b hb
      obtain ⟨z, hz, rfl⟩ := List.mem_map.mp hb
      exact decide_eq_true (ha z hz)
    rw [all, Bool.and_true, List.length_map]
  rw [← e]
  exact .tup h (sqT_tyX h) fun _ => among_strs acts r
theorem ruleCls_acts {H : Hp} : ∀ {ws : List V} {rs : List (List Str)}, Paired (RuleAt K H) ws rs → (∀ r ∈ rs, ∀ x ∈ r, x ∈ acts) → Paired (RuleCl K H) ws (rs.map fun r => decide (r.length ≤ 6))
  | _, _, .nil, _ => .nil
  | _, _, .cons a b, h => .cons (ruleCl_acts a (h _ (List.mem_cons_self ..))) (ruleCls_acts b fun r hr => h r (List.mem_cons_of_mem _ hr))
/-- Book of six tuples of actions, some of them perhaps too long -/
theorem book_gen {C CR x dx : Addr} {H : Hp} {ws : List V} {rs : List (List Str)} {R : VK} {E : XK} (hx : H x = none) (hdx : H dx = none) (pr : Paired (RuleAt K H) ws rs) (ha : ∀ r ∈ rs, ∀ x ∈ r, x ∈ acts) (h6 : rs.length = 6)
    (good : (∀ r ∈ rs, r.length ≤ 6) → ∀ H', BookAt K C H' x rs → Same H H' → R .non H')
    (bad : ∀ (i : Nat) (r : List Str), rs[i]? = some r → 6 < r.length → (∀ (j : Nat) (t : List Str), j < i → rs[j]? = some t → t.length ≤ 6) → ∀ d H', H' d = some (.xd [("door", .str (doors.getD i ""))]) → Same H H' → H d = none → E (.ref CR) (some d) H') :
    spBInit K C CR (.ref x :: ws) (upd (upd H dx (.own x)) x (.ins C dx [])) R E := by
  have s1 : Same H (upd (upd H dx (.own x)) x (.ins C dx [])) := fun b o e => by
    rw [upd_ne (ne_of_none e hx), upd_ne (ne_of_none e hdx)]
    exact e
  refine ⟨x, dx, ws, rs.map fun r => decide (r.length ≤ 6), rfl, by rw [pr.length, h6], upd_same, pair_map (fun _ _ q => ruleCl_same s1 q) (ruleCls_acts pr ha), fun all H' l h1 h2 h3 h4 => ?_, fun i hi hj d H' hd s2 hn => ?_⟩
  · have s2 : Same H H' := fun b o e => h4 b o (s1 b o e) (ne_of_none e hx)
    exact good (fun r hr => of_decide_eq_true (all _ (List.mem_map.mpr ⟨r, hr, rfl⟩))) H' ⟨dx, l, h1, ⟨l, ws, rfl, SqT.of h2, s2.kt.rules pr⟩, h6⟩ s2
  · rw [List.getElem?_map] at hi
    cases e : rs[i]? with
    | none =>
      rw [e] at hi
      cases hi
    | some r =>
      rw [e] at hi
      have hr := of_decide_eq_false (Option.some.inj hi)
      refine bad i r e (by omega) (fun j t lt et => ?_) d H' hd (s1.trans s2) (s1.free hn)
      have := hj j lt
      rw [List.getElem?_map, et] at this
      exact of_decide_eq_true (Option.some.inj this)
theorem asked_at {zs : List Str} {rs : List (List Str)} {i : Nat} {z : Str} {r : List Str} (hz : doors[i]? = some z) (hr : rs[i]? = some r) : (askedAll zs rs)[i]? = some (asked zs z r) := by
  unfold askedAll
  rw [List.getElem?_zipWith, hz, hr]
theorem asked_len {zs : List Str} {rs : List (List Str)} (h6 : rs.length = 6) : (askedAll zs rs).length = 6 := by
  unfold askedAll
  rw [List.length_zipWith, h6]
  rfl
abbrev s_ask : Stmt := inClass (top 13) 5
theorem sc_ask : FnScope ["self", "doors", "rules", "door", "rule"] ["self", "doors"] (defScope s_ask) := ⟨rfl, rfl, rfl, by decide +kernel, rfl, by decide +kernel, by decide +kernel⟩
theorem ok_ask {f C CN CR fS fI : Addr} {fd fdS fdI : FuncData} (F : Fun K "asking" "Book.asking" s_ask f fd) (B : TxtB mg) (T : TxtK K mg aA aD) (TB : TxtBook K mg C) (O : OwnTxt K mg "NoDoors" CN)
    (gS : mg "are_distinct_doors" = some (.ref fS)) (kS : PySem.W.keepIn K (.ref fS) = true) (bS : Binds K fdS ["value"] []) (GS : FnOk P w K mg base CX0 2 fS fdS ["value"] (spDist K))
    (MK : Mk K C fI) (GI : FnOk P w K mg base (L2.CX P w) 4 fI fdI pI (spBInit K C CR)) (b6 : Binds K fdI pI []) : FnOk P w K mg base (L2.CX P w) 6 f fd ["self", "doors"] (spAsk K C CN CR) := by
  refine F.okX sc_ask (fun vs H Q E h => ?_) (fun cdv A outer s H vs Q E hr h => ?_)
  · obtain ⟨p, v, b, zs, rs, rfl, _⟩ := h
    rfl
  · obtain ⟨p, v, b, zs, rs, rfl, hb, hrs, hv, hvz, eN, q⟩ := h
    have r2 : Room 2 _ := hr.mono (by decide)
    refine ⟨_, (pss_cons (ps_if (pt_not (pt_val (pe_call GS r2 (by rfl) gS kS bS .nil pass0 (pa_cons (pv 1) pa_nil)))) (pss_one (ps_raise rfl (takes_of rfl rfl rfl rfl) (pmk_own PySem.F.excBase_ValueError O.xP O.g O.k (raises_own O.b O.t) rfl))) pss_nil)
  (pss_cons (ps_setLc (i := 2) (own := [("door", 3), ("rule", 4)]) (g := (gTup K 2 (gCons (gName 3) (gCons (gName 4) gNil)))) (by rfl) sc_ask.nd rfl rfl (sw_true rfl rfl rfl (by decide +kernel)) (RZ.pi_zipA (by rfl) B.b_zip (pa_cons (pe_glob (v := .ref aD) (by rfl) T.g_DOORS rfl) (pa_cons (pe_fld (pv 0) rfl) pa_nil))) (blkOk_by (own := [("door", 3), ("rule", 4)]) (N := ["self", "doors", "rules", "door", "rule"]) (sc := defScope s_ask) (by decide +kernel)) (fun _ _ _ _ _ => (pg_tup (by rfl) (pgs_cons (pg_name (i := 3) sc_ask.nd rfl (Or.inl rfl)) (pgs_cons (pg_name (i := 4) sc_ask.nd rfl (Or.inl rfl)) pgs_nil)))) (fun _ _ _ _ _ => pts_nil) (fun _ _ _ _ _ => (pe_ifExp (pt_cmpR (r := rIn K false) op_in_seq (pv 3) (pv 1) (by rfl)) (pe_op (r := rCatA K) op_catA (pv 4) (pe_tup (pa_cons pe_str pa_nil))) (pv 4))))
  (pss_one (ps_ret (pe_makeS MK GI hr (by rfl) TB.g b6 .nil (passes_call (takes_of rfl rfl rfl rfl) fun _ _ _ _ h => h) (pv 2)))))), ?_⟩
    obtain ⟨dx, l, hp, ⟨l', ws, el, hl, pr⟩, e6⟩ := id hb
    cases el
    refine ⟨_, rfl, v, b, rfl, hv, fun H0 s0 => ⟨_, rfl, ?_⟩⟩
    cases b with
    | false => exact eN rfl H0 s0
    | true =>
      obtain ⟨a, ev, hz, hsub⟩ := hvz rfl
      subst ev
      obtain ⟨qfull, qgood⟩ := q rfl
      have hw6 : ws.length = 6 := pr.length.trans e6
      refine ⟨_, rfl, p, C, dx, _, .ref l, rfl, s0 _ _ hp, TB.cl, TB.nR, rfl, aD, l, _, ws, rfl, .inr ⟨T.sD _, sqT_same s0 hl, fun D hD => ?_⟩⟩
      refine lc_it (walk_zipT (K := K) (a := aD) (b := l) (xs := doors.map V.str) (ys := ws) (by rw [hw6]; rfl)) (fun k H' => ∃ us, H' D = some (.lst us) ∧ Paired (RuleAt K H') us ((askedAll zs rs).take k) ∧ Same H0 H') ?_ ?_ ?_ ?_
      · exact ⟨[], upd_same, .nil, same_new hD⟩
      · rintro k H' _ ⟨_, _, _, s'⟩
        exact ⟨T.sD _, sqT_same (s0.trans s') hl⟩
      · rintro k x H1 H2 hk ⟨us, h1, p1, s1⟩ ⟨tu, n1, o1, rfl, ht, rfl, hn1, ho1⟩
        have nDt : D ≠ tu := ne_of_none h1 ht
        obtain ⟨dk, hdk, rfl⟩ : ∃ dk, doors[k]? = some dk ∧ n1 = V.str dk := by
          have hn1' : (doors.map V.str)[k]? = some n1 := hn1
          rw [List.getElem?_map] at hn1'
          cases e : doors[k]? with
          | none =>
            rw [e] at hn1'
            cases hn1'
          | some y =>
            rw [e] at hn1'
            exact ⟨y, rfl, (Option.some.inj hn1').symm⟩
        have ho1' : ws[k]? = some o1 := ho1
        obtain ⟨r1, hr1, ro1⟩ := pair_get1 pr ho1'
        have tk : (askedAll zs rs).take (k + 1) = (askedAll zs rs).take k ++ [asked zs dk r1] := by
          rw [List.take_add_one, asked_at hdk hr1]
          rfl
        have s2 : Same H0 (upd H1 tu (.tup [.str dk, o1])) := s1.trans (same_new ht)
        have ulen : us.length < sizeLine := by
          rw [p1.length, List.length_take, asked_len e6]
          exact small1000 (by omega)
        refine ⟨tu, _, rfl, SqT.of upd_same, rfl, .str dk, _, rfl, o1, _, rfl, rfl, rfl, ?_⟩
        have more : ∀ (y : V) (H3 : Hp), Same (upd H1 tu (.tup [.str dk, o1])) H3 → RuleAt K H3 y (asked zs dk r1) → ∃ acc, H3 D = some (.lst acc) ∧ acc.length < sizeLine ∧ ∃ us, upd H3 D (.lst (acc ++ [y])) D = some (.lst us) ∧
            Paired (RuleAt K (upd H3 D (.lst (acc ++ [y])))) us ((askedAll zs rs).take (k + 1)) ∧ Same H0 (upd H3 D (.lst (acc ++ [y]))) := fun y H3 s3 ry => by
          have h3 : H3 D = some (.lst us) := s3 _ _ (by rw [upd_ne nDt]; exact h1)
          refine ⟨us, h3, ulen, _, upd_same, ?_, same_upd (s2.trans s3) hD⟩
          rw [tk]
          exact (kt_lst h3).rules (pair_snoc ry (((same_new ht).trans s3).kt.rules p1))
        refine ⟨_, rfl, _, rfl, a, zs.map V.str, rfl, .inr (sqT_same (s0.trans s2) hz), rfl, flat_strs zs, ?_⟩
        have e1 : inV (.str dk) (zs.map V.str) = decide (dk ∈ zs) := inV_strs dk zs
        show ∃ c, V.bl (inV (.str dk) (zs.map V.str)) = V.bl c ∧ _
        rw [e1]
        refine ⟨_, rfl, ?_⟩
        by_cases hm : dk ∈ zs
        · rw [decide_eq_true hm]
          obtain ⟨ao, rfl, so⟩ := ro1
          refine ⟨_, rfl, by show 1 ≤ sizeLine; decide, fun tt htt => ?_⟩
          have s3 := same_new (o := .tup [V.str "ask"]) htt
          have len1 : r1.length ≤ 6 := (hrs r1 (List.mem_of_getElem? hr1)).1
          refine ⟨ao, tt, r1.map V.str, [V.str "ask"], rfl, rfl, sqT_same ((s0.trans s2).trans s3) so, SqT.of upd_same, ?_, fun e => ?_, (fun _ e => by cases e), fun _ _ pn hpn => ?_⟩
          · rw [List.length_map]
            exact Nat.le_of_lt (small1000 (show r1.length + 1 ≤ 1000 by omega))
          · have er : r1 = [] := by
              cases r1 with
              | nil => rfl
              | cons _ _ => cases e
            refine more _ _ s3 ⟨tt, rfl, SqT.of ?_⟩
            rw [upd_same, er]
            unfold asked
            rw [if_pos hm]
            rfl
          · refine more _ _ (s3.trans (same_new hpn)) ⟨pn, rfl, SqT.of ?_⟩
            rw [upd_same]
            unfold asked
            rw [if_pos hm, List.map_append]
            rfl
        · rw [decide_eq_false hm]
          refine ⟨_, rfl, more _ _ (Same.refl _) ?_⟩
          unfold asked
          rw [if_neg hm]
          exact (s0.trans s2).kt.rule ro1
      · rintro H1 ⟨us, h1, p1, s1⟩
        have full : (askedAll zs rs).take (doors.map V.str).length = askedAll zs rs := List.take_of_length_le (by rw [asked_len e6]; exact Nat.le_refl 6)
        rw [full] at p1
        have s2 := s0.trans s1
        refine ⟨_, rfl, D, us, rfl, .inr (SqL.of h1), fun x dx hx hdx ne => ?_⟩
        rw [List.append_nil]
        have at_ : ∀ {i : Nat} {t : List Str}, (askedAll zs rs)[i]? = some t → ∃ z r, doors[i]? = some z ∧ rs[i]? = some r ∧ t = asked zs z r := fun {i t} e => by
          have lt : i < 6 := by
            have := (List.getElem?_eq_some_iff.mp e).1
            rw [asked_len e6] at this
            exact this
          have h1 : doors[i]? = some (doors[i]'lt) := List.getElem?_eq_getElem lt
          have h2 : rs[i]? = some (rs[i]'(by omega)) := List.getElem?_eq_getElem (by omega)
          refine ⟨_, _, h1, h2, ?_⟩
          rw [asked_at h1 h2] at e
          exact (Option.some.inj e).symm
        refine book_gen hx hdx p1 (fun r hr y hy => ?_) (asked_len e6) (fun all H' hbk s3 => ⟨rfl, ?_⟩) (fun i t et lt before d H' hd s3 hn => ?_)
        · obtain ⟨i, hi, e⟩ := List.getElem_of_mem hr
          obtain ⟨z, r0, hz0, hr0, er⟩ := at_ (i := i) (t := r) (by rw [List.getElem?_eq_getElem hi, e])
          have h0 := (hrs r0 (List.mem_of_getElem? hr0)).2
          rw [er] at hy
          unfold asked at hy
          split at hy
          · rcases List.mem_append.mp hy with hy | hy
            · exact h0 y hy
            · rw [List.mem_singleton.mp hy]
              decide
          · exact h0 y hy
        · refine qgood (fun i z r hz0 hr0 hm => ?_) x H' hbk (s2.trans s3)
          have := all _ (List.mem_of_getElem? (asked_at (zs := zs) hz0 hr0))
          unfold asked at this
          rw [if_pos hm, List.length_append, List.length_singleton] at this
          omega
        · obtain ⟨z, r, hz0, hr0, er⟩ := at_ et
          have l6 := (hrs r (List.mem_of_getElem? hr0)).1
          rw [er] at lt
          unfold asked at lt
          by_cases hm : z ∈ zs
          · rw [if_pos hm, List.length_append, List.length_singleton] at lt
            have ed : doors.getD i "" = z := by rw [List.getD_eq_getElem?_getD, hz0]; rfl
            rw [ed] at hd
            refine qfull i z r hz0 hr0 hm (by omega) (fun j y t lj hy ht hmj => ?_) d H' hd (s2.trans s3) (s2.free hn)
            have := before j _ lj (asked_at (zs := zs) hy ht)
            unfold asked at this
            rw [if_pos hmj, List.length_append, List.length_singleton] at this
            omega
          · rw [if_neg hm] at lt
            omega
end
end Sh

/-! try with several clauses, each with a name -/
namespace Sh
open PySem PySem.Spec PyProof.Rows L2
/-- behind a clause's suite its name, in slot i, is gone -/
def Ends.less (D : Ends) (i : Nat) : Ends := { nx := fun σ H => D.nx (σ.set i none) H, rt := D.rt, bk := fun σ H => D.bk (σ.set i none) H, ct := fun σ H => D.ct (σ.set i none) H }
abbrev Suite := Addr → Value → Option Addr → TS
/-- what the clauses, all with the name in slot i, wish of an exception -/
def wAll (K : PySem.W.Frag) (i : Nat) (W0 : WX) (D : Ends) : List (Value × Suite) → WX
  | [] => W0
  | p :: r => fun cls d σ H => ∃ b, PySem.W.exmOne K cls p.1 = some b ∧ (b = true → ∀ a, H a = none → p.2 a cls d (Ends.less D i) (σ.set i (some (.ref a))) H) ∧ (b = false → wAll K i W0 D r cls d σ H)
inductive Clauses (X : Cx) (n : Str) : List ExceptHandler → List (Value × Suite) → Prop
  | nil : Clauses X n [] []
  | cons {x : Str} {c : Value} {ts : Suite} {b0 : Stmt} {bs : List Stmt} {p1 p2 : Pos} {hs : List ExceptHandler} {l : List (Value × Suite)} (nm : Names X x c)
      (su : ∀ (a : Addr) (oe : Obj) (cls : Value) (d : Option Addr) (pn : List (Addr × Obj)), Zc cls d oe → (∃ vs, oe.data = .fields vs) → PSs (X.suite a ((a, oe) :: pn)) (b0 :: bs) (ts a cls d)) (r : Clauses X n hs l) :
      Clauses X n (.ExceptHandler (some (.Name x p1)) (some n) (b0 :: bs) p2 :: hs) ((c, ts) :: l)
section
variable {X : Cx} {n : Str} {i : Nat} {body : List Stmt} {h0 : ExceptHandler} {hs : List ExceptHandler} {l : List (Value × Suite)} {pos : Pos} {tb : WX → TS} {W0 : WX}
theorem ps_try_all (e1 : X.stack = X.env :: X.outer) (e2 : X.env.frame = some X.env.locals) (nd : X.N.Nodup) (hi : X.N[i]? = some n) (hl : X.env.kindOf n = some .local) (tk : Takes X W0)
    (hb : ∀ (W : WX) (pn : List (Addr × Obj)) (xe : Value → Shared → Prop), Takes (X.tr pn xe) W → PassesOwn (model X.prog X.w) X.A X.env xe → PSs (X.tr pn xe) body (tb W)) (cl : Clauses X n (h0 :: hs) l) :
    PS X (.Try body (h0 :: hs) [] [] pos) (fun D σ H => tb (wAll X.K i W0 D l) D σ H) := by
  refine ⟨fun pins s σ H D I h => ?_⟩
  have ok := I.ok
  have fr : X.A.frames = some (X.env :: X.outer) := ok.frames.trans (congrArg some e1)
  let xe : Value → Shared → Prop := fun e t1 => wpAny (model X.prog X.w) X.A (noteFrame e X.env) (fun _ t2 => wpAny (model X.prog X.w) X.A (setFlight e none) (fun _ t3 => wpAny (model X.prog X.w) X.A (handleBy e X.env (h0 :: hs)) (SP X pins D) X.xe t3) X.xe t2) X.xe t1
  have catch_ : Takes (X.tr (X.pn ++ pins) xe) (wAll X.K i W0 D l) := by
    rintro u s' ⟨a, B, sI, pins', σ', H', cls, d, rfl, J', nb, up, sky, na, os, ag, w⟩
    have J : Inv X pins σ' H' sI := J'.ofTry ok
    rw [show (X.tr (X.pn ++ pins) xe).stack = X.env :: X.outer from e1] at sky
    show wpAny _ _ (noteFrame (.ref a) X.env) _ _ _
    refine Sky.land Zc.steady fr e2 sky fun h3 fl up3 => ?_
    have J3 : Inv X pins σ' H' { s' with heap := h3 } := J.landed nb fl.1 (up.trans up3) os ag
    obtain ⟨oe, vs, he, hz, hd⟩ := fl.there
    have off : a ∉ frs (X.env :: X.outer) := fun hm => by
      obtain ⟨_, o', e', no⟩ := fl.2.2.1.mem hm
      rw [he] at e'
      cases e'
      exact no _ hd
    have nL : a ≠ X.env.locals := fun z => off (List.mem_filterMap.mpr ⟨X.env, List.mem_cons_self, by rw [e2, z]⟩)
    have nF : a ∉ X.fs := fun hm => by
      obtain ⟨e, m, q⟩ := List.mem_filterMap.mp hm
      exact off (List.mem_filterMap.mpr ⟨e, List.mem_cons_of_mem _ m, q⟩)
    have S3 := J3.suite he hd na nL nF
    suffices go : ∀ {hs' : List ExceptHandler} {l' : List (Value × Suite)}, Clauses X n hs' l' → wAll X.K i W0 D l' cls d σ' H' → wpAny (model X.prog X.w) X.A (handleBy (.ref a) X.env hs') (SP X pins D) X.xe { s' with heap := h3 } from go cl w
    intro hs' l' c
    induction c with
    | nil =>
      intro w
      refine wpAny_handleBy_nil ?_
      obtain ⟨_, _, _, o2, v2, T, oT, ts, g1, g2, g3, g4, g5⟩ := id fl
      have fin : wpAny (model X.prog X.w) X.A (setFlight (.ref a) X.env.frame) (fun _ t => wpAny (model X.prog X.w) X.A (throw (.ref a) : Sem Flow) (SP X pins D) X.xe t) X.xe { s' with heap := h3 } := by
        rw [e2]
        refine HandSPX.setFlight_upZ fl fun h4 held up4 => wpAny_throw (tk _ _ ⟨a, B, sI, pins, σ', H', cls, d, rfl, J, nb, (up.trans up3).trans up4, .inr (.inr ?_), na, os, ag, w⟩)
        rw [e1]
        exact held
      unfold PySem.passOn
      refine wpAny_bind (wpAny_field g1 g3 g4 ?_)
      rw [if_neg (by simp)]
      first
        | exact wpAny_bind (wpAny_pure (wpAny_bind fin))
        | exact wpAny_bind fin
    | @cons x c ts b0 bs p1 p2 hs2 l2 nm su r ih =>
      rintro ⟨b, eb, yes, no⟩
      refine wpAny_handleBy_cons (codeAny_handlers_test ?_) (by intro q; cases q)
      have isA := PySem.W.exm_one (M := model X.prog X.w) J3.kIn (show PySem.W.Looks (model X.prog X.w) h3 (typeOf (.ref a)) cls from fun A Q E s k q => wpAny_typeOf_ref (k _ _ he) (by rw [hz.1]; exact q)) eb
      have named : ∀ {Q E : Value → Shared → Prop}, Q c { s' with heap := h3 } → wpAny (model X.prog X.w) (X.A.mark (some (.ref a))) (eval (.Name x p1) X.env) Q E { s' with heap := h3 } := fun q => by
        obtain ⟨hg, hdb, m | ⟨m, v, z⟩⟩ := nm
        · exact ld_glob (X := X.suite a ((a, oe) :: (X.pn ++ pins))) S3 hg m q hdb
        · exact ld_blt (X := X.suite a ((a, oe) :: (X.pn ++ pins))) S3 hg m v q z hdb
      refine named (isA.here ?_)
      cases b with
      | false => exact ih (no rfl)
      | true =>
        refine codeAny_handlers_suite_as (HandSPX.lands_againZ fl fun h4 fl4 up4 => ?_)
        have J4 : Inv X pins σ' H' { s' with heap := h4 } := J.landed nb fl4.1 ((up.trans up3).trans up4) os ag
        obtain ⟨oe4, vs4, he4, hz4, hd4⟩ := fl4.there
        refine store_ok (X := X.suite a ((a, oe4) :: (X.pn ++ pins))) (v := .ref a) (J4.suite he4 hd4 na nL nF) nd hi (.inl hl) rfl (fun s5 S5 => ?_) (.inr hl)
        refine wpAny_mono ((su a oe4 cls d (X.pn ++ pins) hz4 ⟨_, hd4⟩).run [] s5 _ H' _ S5 (yes rfl a na)) (fun f s6 sp => ?_) (fun _ _ z => z.elim)
        have gone : ∀ {σ6 : L2.St} {H6 : Hp} {Q : Shared → Prop}, Inv (X.suite a ((a, oe4) :: (X.pn ++ pins))) [] σ6 H6 s6 → (∀ s7, Inv X pins (σ6.set i none) H6 s7 → Q s7) →
            wpAny (model X.prog X.w) X.A (do bindName X.env n .none; unbindBehindTheSuite X.env n p2) (fun _ s7 => Q s7) X.xe s6 := fun S6 q => gone_ok (S6.unsuite ok) nd hi hl q
        match f, sp with
        | .next, ⟨_, _, S6, q⟩ => exact gone S6 fun s7 J7 => ⟨_, _, J7, q⟩
        | .brk, ⟨_, _, S6, q⟩ => exact gone S6 fun s7 J7 => ⟨_, _, J7, q⟩
        | .cont, ⟨_, _, S6, q⟩ => exact gone S6 fun s7 J7 => ⟨_, _, J7, q⟩
        | .ret u, ⟨v6, _, _, S6, r6, q⟩ => exact gone S6 fun s7 J7 => ⟨_, _, _, J7, r6, q⟩
  refine wpAny_Try_except (wpAny_mono ((hb _ _ xe catch_ PassesOwn.looking).run [] s σ H D (I.toTry _) h) (fun f s1 sp => ?_) (fun e s1 he => he))
  match f, sp with
  | .next, ⟨_, _, J, q⟩ => exact wpAny_execs_nil ⟨_, _, J.ofTry ok, q⟩
  | .brk, ⟨_, _, J, q⟩ => exact ⟨_, _, J.ofTry ok, q⟩
  | .cont, ⟨_, _, J, q⟩ => exact ⟨_, _, J.ofTry ok, q⟩
  | .ret u, ⟨_, _, _, J, r, q⟩ => exact ⟨_, _, _, J.ofTry ok, r, q⟩
end
end Sh

/-! == and != of a dict with a text or a tuple -/
namespace PySem.SeqAt
open AutoSeq1 (wpAny_loadPart')
open MeetsSeq MeetsSeq2 MeetsSeq3 SeqRoads2
theorem dict_eq_declines_str (l : Addr) (es : Array DictEntry) (n : Nat) (dd : Option Addr) (sl : Array (Option Value)) (b : Str) (u : Tok) :
    Meets (Builtin.«dict.__eq__» ⟨[.ref l, .str b u], []⟩) (fun _ R s => s.heap.get? l = some { cls := .type "dict", dict := dd, data := .dict es n, slots := sl } ∧ R (.ok (.ret .notImplemented)) s) :=
  .of_wp fun prog w A R s h => by obtain ⟨hp, g, d, tk, os⟩ := s; obtain ⟨hl, h⟩ := h; have f1 := F.sub_str_dict; wp_walk using wpAny_loadPart' hl, wpAny_load hl; exact ⟨_, rfl, h⟩
theorem str_eq_declines_dict (b : Str) (u : Tok) (l : Addr) (es : Array DictEntry) (n : Nat) (dd : Option Addr) (sl : Array (Option Value)) :
    Meets (Builtin.«str.__eq__» ⟨[.str b u, .ref l], []⟩) (fun _ R s => s.heap.get? l = some { cls := .type "dict", dict := dd, data := .dict es n, slots := sl } ∧ R (.ok (.ret .notImplemented)) s) :=
  .of_wp fun prog w A R s h => by obtain ⟨hp, g, d, tk, os⟩ := s; obtain ⟨hl, h⟩ := h; wp_walk using wpAny_loadPart' hl, wpAny_load hl; exact ⟨_, rfl, h⟩
theorem dict_ne_declines_tuple (l b : Addr) (es : Array DictEntry) (items2 : Array Value) (n n2 : Nat) (dd dd2 : Option Addr) (sl sl2 : Array (Option Value)) :
    Meets (Builtin.«dict.__ne__» ⟨[.ref l, .ref b], []⟩) (fun _ R s => s.heap.get? l = some { cls := .type "dict", dict := dd, data := .dict es n, slots := sl } ∧
      s.heap.get? b = some { cls := .type "tuple", dict := dd2, data := .seq items2 n2, slots := sl2 } ∧ R (.ok (.ret .notImplemented)) s) :=
  .of_wp fun prog w A R s h => by obtain ⟨hp, g, d, tk, os⟩ := s; obtain ⟨hl, hb, h⟩ := h; have f1 := F.sub_tuple_dict; wp_walk using wpAny_loadPart' hl, wpAny_loadPart' hb, wpAny_load hl, wpAny_load hb; exact ⟨_, rfl, h⟩
theorem tuple_ne_declines_dict (b l : Addr) (items2 : Array Value) (es : Array DictEntry) (n2 n : Nat) (dd2 dd : Option Addr) (sl2 sl : Array (Option Value)) :
    Meets (Builtin.«tuple.__ne__» ⟨[.ref b, .ref l], []⟩) (fun _ R s => s.heap.get? b = some { cls := .type "tuple", dict := dd2, data := .seq items2 n2, slots := sl2 } ∧
      s.heap.get? l = some { cls := .type "dict", dict := dd, data := .dict es n, slots := sl } ∧ R (.ok (.ret .notImplemented)) s) :=
  .of_wp fun prog w A R s h => by obtain ⟨hp, g, d, tk, os⟩ := s; obtain ⟨hb, hl, h⟩ := h; have f1 := F.sub_dict_tuple; wp_walk using wpAny_loadPart' hl, wpAny_loadPart' hb, wpAny_load hl, wpAny_load hb; exact ⟨_, rfl, h⟩
section
variable {A : Around} {s : Shared}
theorem RcAt.dict_str {l : Addr} {o : Obj} {es : Array DictEntry} {n : Nat} (b : Str) (u : Tok) (ho : s.heap.get? l = some o) (hc : o.cls = .type "dict") (hd : o.data = .dict es n) (hu : A.units < cLine) : RcAt A s (.ref l) (.str b u) false := fun prog w E Q h => by
  obtain ⟨cls, dd, data, sl⟩ := o
  simp only at hc hd
  subst hc hd
  exact rc_eq_decline_or (k := false) ⟨_, ho, rfl⟩ (typeIs_str s b u) (by decide) F.sub_str_dict F.slot_dict_eq F.slot_str_eq_refl
    (fun _ hq => call_meets F.slot_dict_eq ⟨_, ho, rfl⟩ F.entry_dict_eq (F.args_dict_eq_2 _ _) (dict_eq_declines_str l es n dd sl b u) ⟨ho, hq⟩)
    (fun _ hq => call_meets F.slot_str_eq_refl (typeIs_str s b u) F.entry_str_eq (F.args_str_eq_2 _ _) (str_eq_declines_dict b u l es n dd sl) ⟨ho, hq⟩)
    (fun _ hq => wpAny_of_eq (rfl : isSame (.ref l) (.str b u) = pure false) hq) (.inr hu) h
theorem EqAt.dict_str {l : Addr} {o : Obj} {es : Array DictEntry} {n : Nat} (b : Str) (u : Tok) (ho : s.heap.get? l = some o) (hc : o.cls = .type "dict") (hd : o.data = .dict es n) (hu : A.units < cLine) : EqAt A s (.ref l) (.str b u) false := fun prog w E Q h => by
  unfold eqBool
  refine wpAny_holding ?_
  refine wpAny_ite_split (fun hab => absurd (eq_of_beq hab) nofun) (fun _ => ?_)
  exact wpAny_bind (RcAt.dict_str b u ho hc hd hu prog w E _ (wpAny_truthy_bool h))
theorem RcNeAt.dict_tuple {l b : Addr} {o : Obj} {es : Array DictEntry} {n : Nat} {items2 : Array Value} (ho : s.heap.get? l = some o) (hc : o.cls = .type "dict") (hd : o.data = .dict es n) (hb : s.heap.IsTuple b items2) (hu : A.units < cLine) : RcNeAt A s (.ref l) (.ref b) true := fun prog w E Q h => by
  obtain ⟨cls, dd, data, sl⟩ := o
  obtain ⟨⟨cls2, dd2, data2, sl2⟩, ho2, hc2, n2, hd2⟩ := id hb
  simp only at hc hd hc2 hd2
  subst hc hd hc2 hd2
  have hne : l ≠ b := fun e => by
    subst e
    rw [ho] at ho2
    exact absurd (congrArg Obj.cls (Option.some.inj ho2)) (by simp)
  exact (rc_ne_decline_or (k := false) ⟨_, ho, rfl⟩ ⟨_, ho2, rfl⟩ (by decide) F.sub_tuple_dict F.slot_dict_ne F.slot_tuple_ne_refl
    (fun _ hq => call_meets F.slot_dict_ne ⟨_, ho, rfl⟩ F.entry_dict_ne (F.args_dict_ne_2 _ _) (dict_ne_declines_tuple l b es items2 n n2 dd dd2 sl sl2) ⟨ho, ho2, hq⟩)
    (fun _ hq => call_meets F.slot_tuple_ne_refl ⟨_, ho2, rfl⟩ F.entry_tuple_ne (F.args_tuple_ne_2 _ _) (tuple_ne_declines_dict b l items2 es n2 n dd2 dd sl2 sl) ⟨ho2, ho, hq⟩)
    (fun _ hq => wpAny_isSame_ref_other hne ho ho2 (by simp) hq) (.inr hu) h)
end
end PySem.SeqAt

namespace Sh
open PySem L2
/-! ### values of a few kinds -/
/-- None, a truth, an integer, a text, a list of texts, or an empty dict -/
inductive Sn (K : PySem.W.Frag) (H : Hp) : V → Prop
  | non : Sn K H .non
  | bl (b : Bool) : Sn K H (.bl b)
  | int (i : Int) : Sn K H (.int i)
  | str (z : Str) : Sn K H (.str z)
  | lst {a : Addr} {r : List Str} (h : H a = some (.lst (r.map V.str))) : Sn K H (.ref a)
  | dct {a : Addr} (h : H a = some (.dK [])) : Sn K H (.ref a)
/-- one of these, or a tuple of texts -/
def Sm (K : PySem.W.Frag) (H : Hp) (v : V) : Prop := Sn K H v ∨ ∃ r, RuleAt K H v r
section
variable {K : PySem.W.Frag} {H H' : Hp}
theorem lst_jar {j a : Addr} {n : Nat} {r : List Str} (J : JarAt H j n) (h : H a = some (.lst (r.map V.str))) : a ≠ j := fun e => by
  obtain ⟨x, y, z, hj, _⟩ := J
  subst e
  rw [hj] at h
  have e := HO.lst.inj (Option.some.inj h)
  cases r with
  | nil => cases e
  | cons t r => cases e
theorem Sn.same (s : Same H H') {v : V} (h : Sn K H v) : Sn K H' v := by
  cases h with
  | non => exact .non
  | bl b => exact .bl b
  | int i => exact .int i
  | str z => exact .str z
  | lst h => exact .lst (s _ _ h)
  | dct h => exact .dct (s _ _ h)
theorem Sn.kp {j : Addr} {n : Nat} (J : JarAt H j n) (k : Kp j H H') {v : V} (h : Sn K H v) : Sn K H' v := by
  cases h with
  | non => exact .non
  | bl b => exact .bl b
  | int i => exact .int i
  | str z => exact .str z
  | lst h => exact .lst (k _ _ (lst_jar J h) h)
  | dct h => exact .dct ((J.kt k) _ _ (fun _ z => by cases z) h)
theorem Sn.upd {a : Addr} {xs ys : List V} (ha : H a = some (.lst xs)) (hn : ∀ r : List Str, xs ≠ r.map V.str) {v : V} (h : Sn K H v) : Sn K (upd H a (.lst ys)) v := by
  have kt := kt_lst (o := .lst ys) ha
  cases h with
  | non => exact .non
  | bl b => exact .bl b
  | int i => exact .int i
  | str z => exact .str z
  | lst h => exact .lst (by rw [upd_ne (fun e => by subst e; rw [ha] at h; exact hn _ (HO.lst.inj (Option.some.inj h)))]; exact h)
  | dct h => exact .dct (kt _ _ (fun _ z => by cases z) h)
theorem Sm.same (s : Same H H') {v : V} (h : Sm K H v) : Sm K H' v := h.elim (fun h => .inl (h.same s)) fun ⟨r, h⟩ => .inr ⟨r, s.kt.rule h⟩
theorem Sm.kp {j : Addr} {n : Nat} (J : JarAt H j n) (k : Kp j H H') {v : V} (h : Sm K H v) : Sm K H' v := h.elim (fun h => .inl (h.kp J k)) fun ⟨r, h⟩ => .inr ⟨r, (J.kt k).rule h⟩
theorem Sm.upd {a : Addr} {xs ys : List V} (ha : H a = some (.lst xs)) (hn : ∀ r : List Str, xs ≠ r.map V.str) {v : V} (h : Sm K H v) : Sm K (upd H a (.lst ys)) v := h.elim (fun h => .inl (h.upd ha hn)) fun ⟨r, h⟩ => .inr ⟨r, (kt_lst ha).rule h⟩
theorem Sn.ty {v : V} (h : Sn K H v) : ∃ t, TyX K H v t ∧ PySem.W.kitOne K t (.type "tuple") = some false ∧ ((∀ z, v ≠ .str z) → PySem.W.kitOne K t (.type "str") = some false) := by
  cases h with
  | non => exact ⟨_, .base .non, kit_ty (by decide +kernel), fun _ => kit_ty (by decide +kernel)⟩
  | bl b => exact ⟨_, .base (.bl b), kit_ty (by decide +kernel), fun _ => kit_ty (by decide +kernel)⟩
  | int i => exact ⟨_, .base (.int i), kit_ty (by decide +kernel), fun _ => kit_ty (by decide +kernel)⟩
  | str z => exact ⟨_, .base (.str z), kit_ty (by decide +kernel), fun h => absurd rfl (h z)⟩
  | lst h => exact ⟨_, .base (.lst h), kit_ty (by decide +kernel), fun _ => kit_ty (by decide +kernel)⟩
  | dct h => exact ⟨_, .base (.dK h), kit_ty (by decide +kernel), fun _ => kit_ty (by decide +kernel)⟩
/-- which truth a value has among some texts -/
theorem Sm.among {v : V} (l : List Str) (h : Sm K H v) : ∃ b, Among K H l v b ∧ (∀ z, v = .str z → b = decide (z ∈ l)) ∧ ((∀ z, v ≠ .str z) → b = false) := by
  rcases h with h | ⟨r, a, rfl, h⟩
  · obtain ⟨t, ty, _, no⟩ := h.ty
    by_cases hs : ∃ z, v = .str z
    · obtain ⟨z, rfl⟩ := hs
      exact ⟨_, .str z, (fun z' e => by cases e; rfl), fun h => absurd rfl (h z)⟩
    · have hs' : ∀ z, v ≠ .str z := fun z e => hs ⟨z, e⟩
      exact ⟨false, .other ty (no hs'), (fun z e => absurd e (hs' z)), fun _ => rfl⟩
  · exact ⟨false, .other (sqT_tyX h) (kit_ty (by decide +kernel)), (fun z e => by cases e), fun _ => rfl⟩
theorem amongs_of (l : List Str) : ∀ {zs : List V}, (∀ z ∈ zs, Sm K H z) → ∃ bs, Paired (Among K H l) zs bs ∧ ((∃ z ∈ zs, ∀ t, z = .str t → t ∉ l) → bs.all id = false)
  | [], _ => ⟨[], .nil, fun ⟨_, h, _⟩ => by cases h⟩
  | z :: zs, h => by
    obtain ⟨bs, p, hb⟩ := amongs_of l (fun y hy => h y (List.mem_cons_of_mem _ hy))
    obtain ⟨b, a, e1, e2⟩ := (h z (List.mem_cons_self ..)).among l
    refine ⟨b :: bs, .cons a p, fun ⟨y, hy, no⟩ => ?_⟩
    rw [List.all_cons]
    rcases List.mem_cons.mp hy with rfl | hy
    · have eb : b = false := by
        cases y with
        | str t =>
          rw [e1 t rfl]
          exact decide_eq_false (no t rfl)
        | _ => exact e2 (fun _ e => by cases e)
      rw [eb]
      rfl
    · rw [hb ⟨y, hy, no⟩, Bool.and_false]
/-- as data, or an empty dict -/
theorem Sn.data {v : V} (h : Sn K H v) : (∃ d, Dp K H v d ∧ d.plain = true ∧ d.depth ≤ 1 ∧ ∀ r, PyData.eqv d (dRule r) = false) ∨ ∃ a, v = .ref a ∧ H a = some (.dK []) := by
  cases h with
  | non => exact .inl ⟨_, .non, rfl, Nat.zero_le _, fun r => by simp only [dRule, PyData.eqv]⟩
  | bl b => exact .inl ⟨_, .bl b, rfl, Nat.zero_le _, fun r => by simp only [dRule, PyData.eqv]⟩
  | int i => exact .inl ⟨_, .int i, rfl, Nat.zero_le _, fun r => by simp only [dRule, PyData.eqv]⟩
  | str z => exact .inl ⟨_, .str z, rfl, Nat.zero_le _, fun r => by simp only [dRule, PyData.eqv]⟩
  | @lst a r h =>
    refine .inl ⟨.list (r.map PyData.str), .lst (SqL.of h) (dp_strs r), plain_strs r, ?_, fun r => by simp only [dRule, PyData.eqv]⟩
    show PyData.depthAll (r.map PyData.str) + 1 ≤ 1
    rw [depth_strs]
    exact Nat.le_refl _
  | dct h => exact .inr ⟨_, rfl, h⟩
theorem Sm.data {v : V} (h : Sm K H v) : (∃ d, Dp K H v d ∧ d.plain = true ∧ d.depth ≤ 1) ∨ ∃ a, v = .ref a ∧ H a = some (.dK []) := by
  rcases h with h | ⟨r, h⟩
  · rcases h.data with ⟨d, h1, h2, h3, _⟩ | h
    · exact .inl ⟨d, h1, h2, h3⟩
    · exact .inr h
  · exact .inl ⟨_, h.dp, plain_rule _, by rw [depth_rule]; exact Nat.le_refl _⟩
/-- what is no rule, and unlike the rule r -/
inductive Bad (K : PySem.W.Frag) (H : Hp) (r : List Str) : V → Prop
  | sn {v : V} (h : Sn K H v) : Bad K H r v
  | long {v : V} {r' : List Str} (h : RuleAt K H v r') (l : 6 < r'.length) (ne : r' ≠ r) : Bad K H r v
  | mix {a : Addr} {zs : List V} (h : SqT K H a zs) (l : zs.length ≠ r.length) (s : ∀ z ∈ zs, Sm K H z) (no : ∃ z ∈ zs, ∀ t, z = .str t → t ∉ acts) : Bad K H r (.ref a)
theorem Bad.same (s : Same H H') {r : List Str} {v : V} (h : Bad K H r v) : Bad K H' r v := by
  cases h with
  | sn h => exact .sn (h.same s)
  | long h l ne => exact .long (s.kt.rule h) l ne
  | mix h l m no => exact .mix (s.kt.sqT h) l (fun z hz => (m z hz).same s) no
theorem Bad.kp {j : Addr} {n : Nat} (J : JarAt H j n) (k : Kp j H H') {r : List Str} {v : V} (h : Bad K H r v) : Bad K H' r v := by
  cases h with
  | sn h => exact .sn (h.kp J k)
  | long h l ne => exact .long ((J.kt k).rule h) l ne
  | mix h l m no => exact .mix ((J.kt k).sqT h) l (fun z hz => (m z hz).kp J k) no
theorem Bad.upd {a : Addr} {xs ys : List V} (ha : H a = some (.lst xs)) (hn : ∀ r : List Str, xs ≠ r.map V.str) {r : List Str} {v : V} (h : Bad K H r v) : Bad K (upd H a (.lst ys)) r v := by
  cases h with
  | sn h => exact .sn (h.upd ha hn)
  | long h l ne => exact .long ((kt_lst ha).rule h) l ne
  | mix h l m no => exact .mix ((kt_lst ha).sqT h) l (fun z hz => (m z hz).upd ha hn) no
theorem Bad.cl {r : List Str} {v : V} (h : Bad K H r v) : RuleCl K H v false := by
  cases h with
  | sn h =>
    obtain ⟨t, ty, no, _⟩ := h.ty
    exact .other ty no
  | @long _ r' h l ne =>
    obtain ⟨a, rfl, h⟩ := h
    have e : (decide ((r'.map V.str).length ≤ 6) && ([] : List Bool).all id) = false := by
      rw [List.length_map, decide_eq_false (by omega)]
      rfl
    rw [← e]
    exact .tup h (sqT_tyX h) fun q => by
      rw [List.length_map] at q
      omega
  | @mix a zs h l s no =>
    obtain ⟨bs, p, hb⟩ := amongs_of acts s
    have e : (decide (zs.length ≤ 6) && bs.all id) = false := by rw [hb no, Bool.and_false]
    rw [← e]
    exact .tup h (sqT_tyX h) fun _ => p
def rNeR (K : PySem.W.Frag) : R2 := fun x y H Q => ∃ r, RuleAt K H y r ∧ ((∃ r', RuleAt K H x r' ∧ Q (.bl (!decide (r' = r))) H) ∨ (Bad K H r x ∧ Q (.bl true) H))
open PySem.SeqAt in
theorem op_neR {X : Cx} (hu : X.A.units + 64 < cLine) : OpR X (compareOp .NotEq) (rNeR X.K) := by
  intro pins s σ H x y v u Q I rx ry h
  obtain ⟨r, hy, ⟨r', hx, q⟩ | ⟨hb, q⟩⟩ := h
  · refine op_neP hu pins s σ H x y v u Q I rx ry ⟨_, _, hx.dp, hy.dp, plain_rule _, plain_rule _, by rw [depth_rule]; decide, ?_⟩
    rw [eqv_rule]
    exact q
  · have plain : ∀ d, Dp X.K H x d → d.plain = true → d.depth ≤ 1 → PyData.eqv d (dRule r) = false → _ := fun d h1 h2 h3 h4 =>
      op_neP hu pins s σ H x y v u Q I rx ry ⟨d, _, h1, hy.dp, h2, plain_rule _, by omega, by rw [h4]; exact q⟩
    obtain ⟨b, rfl, hb'⟩ := id hy
    cases ry
    obtain ⟨ity, ry', ty, _⟩ := I.tuple hb'
    have dict : ∀ a, H a = some (.dK []) → ∃ (o : Obj) (es : Array DictEntry) (n : Nat), s.heap.get? a = some o ∧ o.cls = .type "dict" ∧ o.data = .dict es n := fun a ha => by
      obtain ⟨_, _, vs, _, o, es, n, e1, e2, e3, _⟩ := (show ObjOk X.prog X.w H s.heap a (.dK []) from I.hok a _ ha)
      exact ⟨o, es, n, e1, e2.1, e3⟩
    cases hb with
    | sn h =>
      rcases h.data with ⟨d, h1, h2, h3, h4⟩ | ⟨a, rfl, ha⟩
      · exact plain d h1 h2 h3 (h4 r)
      · cases rx
        obtain ⟨o, es, n, e1, e2, e3⟩ := dict a ha
        exact RcNeAt.dict_tuple e1 e2 e3 ty (by omega) X.prog X.w _ _ (fin_bl I q rfl)
    | @long _ r' h l ne =>
      refine plain _ h.dp (plain_rule _) (by rw [depth_rule]; exact Nat.le_refl _) ?_
      rw [eqv_rule]
      exact decide_eq_false ne
    | @mix a zs h l m no =>
      cases rx
      obtain ⟨itx, rx', tx, _⟩ := I.tuple h
      have hl : itx.toArray.size ≠ ity.toArray.size := by
        rw [List.size_toArray, List.size_toArray, ← rx'.length, ← ry'.length, List.length_map]
        exact l
      have he : ∀ k (h1 : k < itx.toArray.size) (h2 : k < ity.toArray.size), ∃ e, EqAt X.A.in1 s itx.toArray[k] ity.toArray[k] e := fun k h1 h2 => by
        have k1 : k < zs.length := by
          rw [rx'.length]
          simpa using h1
        have k2 : k < r.length := by
          have e := ry'.length
          rw [List.length_map] at e
          rw [e]
          simpa using h2
        obtain ⟨u, eu, ru⟩ := rx'.get (List.getElem?_eq_getElem k1)
        obtain ⟨v, ev, rv⟩ := ry'.get (show (r.map V.str)[k]? = some (.str r[k]) from by rw [List.getElem?_map, List.getElem?_eq_getElem k2]; rfl)
        obtain ⟨t, rfl⟩ := (show ∃ t, v = Value.str r[k] t from rv)
        have e1 : itx.toArray[k] = u := by
          have := List.getElem?_eq_some_iff.mp eu
          obtain ⟨_, e⟩ := this
          simpa using e
        have e2 : ity.toArray[k] = .str r[k] t := by
          have := List.getElem?_eq_some_iff.mp ev
          obtain ⟨_, e⟩ := this
          simpa using e
        rw [e1, e2]
        have hu1 : X.A.in1.units + 1 < cLine := by
          show X.A.units + 1 + 1 < cLine
          omega
        rcases (m zs[k] (List.getElem_mem k1)).data with ⟨d, g1, g2, g3⟩ | ⟨a', ea, ha⟩
        · obtain ⟨as, rd⟩ := Dp.reads I d _ _ g1 ru
          have hm : min d.depth (PyData.depth (.str r[k])) ≤ 1 := Nat.le_trans (Nat.min_le_left _ _) g3
          have hm2 : X.A.in1.units + min d.depth (PyData.depth (.str r[k])) < cLine := by omega
          exact ⟨_, eqAt_plain d (.str r[k]) X.A.in1 s u _ _ _ rd (Reads.str r[k] t) g2 rfl hm2⟩
        · rw [ea] at ru
          cases ru
          obtain ⟨o, es, n, o1, o2, o3⟩ := dict a' ha
          exact ⟨false, EqAt.dict_str r[k] t o1 o2 o3 (by omega)⟩
      refine RcNeAt.tuples (e := fun k => if h1 : k < itx.toArray.size then if h2 : k < ity.toArray.size then (he k h1 h2).choose else true else true) tx ty (by omega) (fun k h1 h2 => ?_) X.prog X.w _ _ ?_
      · rw [dif_pos h1, dif_pos h2]
        exact (he k h1 h2).choose_spec
      · refine fin_bl I q ?_
        rw [show (itx.toArray.size == ity.toArray.size) = false from by simpa using hl, Bool.and_false]
        rfl
end
end Sh

namespace Sh
open PySem L2
section
variable {P : Program} {w : World} {K : PySem.W.Frag} {mg : Str → Option Value} {base : Heap} {aA aD : Addr}
/-! ### parts and sums of tuples -/
theorem cut_lo {xs : List V} {k : Nat} (h : k ≤ xs.length) : cutV xs none (some (k : Int)) = xs.take k := by
  unfold cutV
  rw [HT.sIx_none, HT.sIx_nat, Nat.min_eq_left h, List.drop_zero, Nat.sub_zero]
theorem cut_hi {xs : List V} {k : Nat} (h : k ≤ xs.length) : cutV xs (some (k : Int)) none = xs.drop k := by
  unfold cutV
  rw [HT.sIx_none, HT.sIx_nat, Nat.min_eq_left h, List.take_of_length_le (by rw [List.length_drop]; exact Nat.le_refl _)]
theorem cut_full {xs : List V} {lo hi : Option Int} (h : HT.sIx xs.length 0 lo = 0 ∧ HT.sIx xs.length xs.length hi = xs.length) : cutV xs lo hi = xs := by
  unfold cutV
  rw [h.1, h.2, List.drop_zero, Nat.sub_zero, List.take_length]
theorem slA_of {K : PySem.W.Frag} {H : Hp} {a : Addr} {xs : List V} {lo hi : Option Int} {Q : VK} (h : SqT K H a xs) (q : ∀ p H', SqT K H' p (cutV xs lo hi) → Same H H' → Q (.ref p) H') : rSlA K (.ref a) lo hi H Q :=
  ⟨a, xs, rfl, h, fun e => q a H (by rw [cut_full e]; exact h) (Same.refl _), fun _ p hp => q p _ (SqT.of upd_same) (same_new hp)⟩
theorem catA_of {K : PySem.W.Frag} {H : Hp} {a b : Addr} {xs ys : List V} {Q : VK} (ha : SqT K H a xs) (hb : SqT K H b ys) (hl : xs.length + ys.length ≤ 1000) (q : ∀ p H', SqT K H' p (xs ++ ys) → Same H H' → Q (.ref p) H') : rCatA K (.ref a) (.ref b) H Q :=
  ⟨a, b, xs, ys, rfl, rfl, ha, hb, Nat.le_of_lt (small1000 hl), fun e => q b H (by rw [e]; exact hb) (Same.refl _), fun _ e => q a H (by rw [e, List.append_nil]; exact ha) (Same.refl _), fun _ _ p hp => q p _ (SqT.of upd_same) (same_new hp)⟩
theorem JarAt.neT' {H H' : Hp} {j p : Addr} {n : Nat} {o : HO} (J : JarAt H j n) (s : Same H H') (h : H' p = some o) {H0 : Hp} (h0 : H0 p = none) (s0 : Same H H0 := by assumption) : p ≠ j := by
  obtain ⟨a, b, c, hj, _⟩ := J
  exact (ne_of_none (s0 _ _ hj) h0).symm
def spNoRule (K : PySem.W.Frag) : Sp := fun vs H Q _ => ∃ (j : Addr) (v : V) (n : Nat) (r : List Str), vs = [.ref j, v] ∧ JarAt H j n ∧ n ≤ 2 ^ 90 ∧ RuleAt K H v r ∧ IsRule r ∧
  ∀ (x : V) (H' : Hp), Bad K H' r x → JarAt H' j (n + 3) → Kp j H H' → Q x H'
abbrev s_norule : Stmt := top 19
theorem sc_norule : FnScope ["jar", "row", "spot", "odd", "some"] ["jar", "row"] (defScope s_norule) := ⟨rfl, rfl, rfl, by decide +kernel, rfl, by decide +kernel, by decide +kernel⟩
theorem ok_norule {f fD : Addr} {fd fdD : FuncData} (F : Fun K "_law_no_rule" "_law_no_rule" s_norule f fd) (T : TxtB mg) (blist : mg "list" = none) (gD : mg "_law_draw" = some (.ref fD)) (kD : PySem.W.keepIn K (.ref fD) = true) (bD : Binds K fdD ["jar", "many"] [])
    (GD : FnOk P w K mg base CX0 1 fD fdD ["jar", "many"] spDraw) : FnOk P w K mg base CX0 2 f fd ["jar", "row"] (spNoRule K) := by
  refine F.ok sc_norule (fun vs H Q E h => ?_) (fun cdv A outer s H vs Q E hr h => ?_)
  · obtain ⟨j, v, n, r, rfl, _⟩ := h
    rfl
  · obtain ⟨j, v, n, r, rfl, J, hn, hv, hir, q⟩ := h
    refine ⟨_, (pss_cons (ps_set (i := 2) sc_norule.nd rfl (Or.inl rfl) (pe_call GD hr (by rfl) gD kD bD .nil pass0 (pa_cons (pv 0) (pa_cons (pe_op op_add (pe_callB call_len_seq (by rfl) T.b_len (by decide +kernel) (pa_cons (pv 1) pa_nil)) pe_int) pa_nil))))
  (pss_cons (ps_set (i := 3) sc_norule.nd rfl (Or.inl rfl) (pe_ix ix_list (pe_lst (pa_cons pe_str (pa_cons pe_str (pa_cons pe_str (pa_cons pe_str (pa_cons pe_str (pa_cons pe_str (pa_cons pe_non (pa_cons pe_int (pa_cons pe_bl (pa_cons (pe_tup (pa_cons pe_str pa_nil)) (pa_cons (pe_lst (pa_cons pe_str pa_nil)) (pa_cons pe_dnewK pa_nil))))))))))))) (pe_call GD hr (by rfl) gD kD bD .nil pass0 (pa_cons (pv 0) (pa_cons pe_int pa_nil))) (fun _ _ => rfl)))
  (pss_cons (ps_set (i := 4) sc_norule.nd rfl (Or.inl rfl) (pe_lst (pa_cons pe_non (pa_cons pe_int (pa_cons pe_bl (pa_cons pe_str (pa_cons pe_str (pa_cons (pe_lst pa_nil) (pa_cons (pe_callTy call_list_of (by rfl) blist (by decide +kernel) (pa_cons (pv 1) pa_nil)) (pa_cons pe_dnewK (pa_cons (pe_op op_repT (pe_tup (pa_cons pe_str pa_nil)) pe_int) (pa_cons (pe_slice sl_tupA (pe_op op_catA (pv 1) (pe_op op_repT (pe_tup (pa_cons pe_str pa_nil)) pe_int)) po_none (po_some pe_int)) pa_nil))))))))))))
  (pss_one (ps_ret (pe_ix ix_list (pe_op op_cat (pv 4) (pe_op op_rep (pe_lst (pa_cons (pe_op op_catA (pe_op op_catA (pe_slice sl_tupA (pv 1) po_none (po_some (pv 2))) (pe_tup (pa_cons (pv 3) pa_nil))) (pe_slice sl_tupA (pv 1) (po_some (pv 2)) po_none)) pa_nil)) pe_int)) (pe_call GD hr (by rfl) gD kD bD .nil pass0 (pa_cons (pv 0) (pa_cons pe_int pa_nil))) (fun _ _ => rfl))))))), ?_⟩
    obtain ⟨va, rfl, hva⟩ := id hv
    refine ⟨_, rfl, _, rfl, va, _, rfl, .inr hva, _, _, rfl, rfl, ?_⟩
    have r6 : (r.map V.str).length ≤ 6 := by rw [List.length_map]; exact hir.1
    refine ⟨j, _, n, rfl, J, by omega, Int.lt_of_le_of_lt (show _ ≤ (7 : Int) by omega) (by decide), Nat.le_trans hn (by decide), fun spot H1 hs0 hs1 J1 k1 => ?_⟩
    have h1v : RuleAt K H1 (.ref va) r := (J.kt k1).rule hv
    -- odd
    refine ⟨by show 1 ≤ sizeLine; decide, fun t1 ht1 => ?_⟩
    refine ⟨by show 1 ≤ sizeLine; decide, fun l1 hl1 => ?_⟩
    intro d1 hd1
    refine ⟨by show 12 ≤ sizeLine; decide, fun lo hlo => ?_⟩
    have sA := same_new (o := .tup [.str "take"]) ht1
    have sB := sA.trans (same_new (o := .lst [.str "show"]) hl1)
    have sC := sB.trans (same_new (o := .dK []) hd1)
    have fD : upd (upd (upd (upd H1 t1 (.tup [.str "take"])) l1 (.lst [.str "show"])) d1 (.dK [])) lo (.lst [.str "Take", .str "take ", .str "", .str "tak", .str "put", .str "asks", .non, .int 0, .bl true, .ref t1, .ref l1, .ref d1]) lo = some (.lst [.str "Take", .str "take ", .str "", .str "tak", .str "put", .str "asks", .non, .int 0, .bl true, .ref t1, .ref l1, .ref d1]) := upd_same
    have sD := sC.trans (same_new (o := .lst [.str "Take", .str "take ", .str "", .str "tak", .str "put", .str "asks", .non, .int 0, .bl true, .ref t1, .ref l1, .ref d1]) hlo)
    have odd_ok : ∀ x ∈ ([.str "Take", .str "take ", .str "", .str "tak", .str "put", .str "asks", .non, .int 0, .bl true, .ref t1, .ref l1, .ref d1] : List V), Sm K (upd (upd (upd (upd H1 t1 (.tup [.str "take"])) l1 (.lst [.str "show"])) d1 (.dK [])) lo (.lst [.str "Take", .str "take ", .str "", .str "tak", .str "put", .str "asks", .non, .int 0, .bl true, .ref t1, .ref l1, .ref d1])) x ∧ ∀ t, x = .str t → t ∉ acts := by
      have g3 := same_new (o := .lst [.str "Take", .str "take ", .str "", .str "tak", .str "put", .str "asks", .non, .int 0, .bl true, .ref t1, .ref l1, .ref d1]) hlo
      have g2 := (same_new (o := .dK []) hd1).trans g3
      have g1 := (same_new (o := .lst [.str "show"]) hl1).trans g2
      intro x hx
      simp only [List.mem_cons, List.not_mem_nil, or_false] at hx
      rcases hx with rfl | rfl | rfl | rfl | rfl | rfl | rfl | rfl | rfl | rfl | rfl | rfl
      · exact ⟨.inl (.str _), fun t e => by cases e; decide⟩
      · exact ⟨.inl (.str _), fun t e => by cases e; decide⟩
      · exact ⟨.inl (.str _), fun t e => by cases e; decide⟩
      · exact ⟨.inl (.str _), fun t e => by cases e; decide⟩
      · exact ⟨.inl (.str _), fun t e => by cases e; decide⟩
      · exact ⟨.inl (.str _), fun t e => by cases e; decide⟩
      · exact ⟨.inl .non, fun t e => by cases e⟩
      · exact ⟨.inl (.int _), fun t e => by cases e⟩
      · exact ⟨.inl (.bl _), fun t e => by cases e⟩
      · exact ⟨.inr ⟨["take"], t1, rfl, SqT.of (g1 _ _ upd_same)⟩, fun t e => by cases e⟩
      · exact ⟨.inl (.lst (r := ["show"]) (g2 _ _ upd_same)), fun t e => by cases e⟩
      · exact ⟨.inl (.dct (g3 _ _ upd_same)), fun t e => by cases e⟩
    generalize upd (upd (upd (upd H1 t1 (.tup [.str "take"])) l1 (.lst [.str "show"])) d1 (.dK [])) lo (.lst [.str "Take", .str "take ", .str "", .str "tak", .str "put", .str "asks", .non, .int 0, .bl true, .ref t1, .ref l1, .ref d1]) = H2 at fD sD odd_ok
    have J2 := J1.same sD
    refine ⟨_, rfl, j, 12, n + 1, rfl, J2, by decide, by decide, Nat.le_trans (Nat.succ_le_succ hn) (by decide), fun z3 H3 hz0 hz1 J3 k3 => ?_⟩
    have nlo : lo ≠ j := J1.neT' sD fD hlo
    obtain ⟨odd, ho⟩ : ∃ odd, ([.str "Take", .str "take ", .str "", .str "tak", .str "put", .str "asks", .non, .int 0, .bl true, .ref t1, .ref l1, .ref d1] : List V)[z3.toNat]? = some odd := ⟨_, List.getElem?_eq_getElem (show z3.toNat < 12 by omega)⟩
    refine ⟨lo, _, z3, odd, rfl, rfl, SqL.of (k3 _ _ nlo fD), at_of (j := z3.toNat) (by omega) ho, ?_⟩
    obtain ⟨osm, ono⟩ := odd_ok odd (List.mem_of_getElem? ho)
    have osm3 := osm.kp J2 k3
    have k13 : Kp j H H3 := (k1.trans (sD.kp j)).trans k3
    have h3v : RuleAt K H3 (.ref va) r := (J.kt k13).rule hv
    obtain ⟨_, e3, h3a⟩ := id h3v
    cases e3
    -- some
    refine ⟨Nat.zero_le _, fun l2 hl2 => ?_⟩
    have s1 := same_new (o := .lst []) hl2
    refine ⟨_, rfl, va, _, rfl, .inr (sqT_same s1 h3a), fun l3 hl3 => ?_⟩
    have s2 := same_new (o := .lst (r.map V.str)) hl3
    intro d2 hd2
    have s3 := same_new (o := .dK []) hd2
    refine ⟨by show 1 ≤ sizeLine; decide, fun ts hts => ?_⟩
    have s4 := same_new (o := .tup [.str "show"]) hts
    refine ⟨ts, 7, _, rfl, rfl, SqT.of upd_same, (by intro e; cases e), by decide, by decide, by decide, fun t7 ht7 => ?_⟩
    have s5 := same_new (o := .tup (List.replicate (Int.toNat 7) [V.str "show"]).flatten) ht7
    refine ⟨_, rfl, by show 1 ≤ sizeLine; decide, fun ta hta => ?_⟩
    have s6 := same_new (o := .tup [.str "ask"]) hta
    refine ⟨ta, 7, _, rfl, rfl, SqT.of upd_same, (by intro e; cases e), by decide, by decide, by decide, fun ta7 hta7 => ?_⟩
    have s7 := same_new (o := .tup (List.replicate (Int.toNat 7) [V.str "ask"]).flatten) hta7
    have s37 := ((((((s1.trans s2).trans s3).trans s4).trans s5).trans s6).trans s7)
    refine catA_of (sqT_same s37 h3a) (SqT.of upd_same) ?_ fun c1 H4 hc1 s8 => ?_
    · show (r.map V.str).length + 7 ≤ 1000
      omega
    refine ⟨_, rfl, ?_⟩
    refine slA_of hc1 fun c2 H5 hc2 s9 => ?_
    refine ⟨by show 10 ≤ sizeLine; decide, fun ls hls => ?_⟩
    have s89 := s8.trans s9
    have hall : ∀ x ∈ ([.non, .int 0, .bl true, .str "take", .str "", .ref l2, .ref l3, .ref d2, .ref t7, .ref c2] : List V), Bad K H5 r x := by
      have g7 := s7.trans s89
      have g6 := s6.trans g7
      have g5 := s5.trans g6
      have g4 := s4.trans g5
      have g3 := s3.trans g4
      have g2 := s2.trans g3
      have take7 : cutV (r.map V.str ++ (List.replicate (Int.toNat 7) [V.str "ask"]).flatten) none (some 7) = ((r ++ List.replicate 7 ("ask" : Str)).take 7).map V.str := by
        rw [show (some (7 : Int)) = some ((7 : Nat) : Int) from rfl, cut_lo (by rw [List.length_append]; exact Nat.le_add_left 7 _), List.map_take, List.map_append]
        rfl
      have len7 : ((r ++ List.replicate 7 ("ask" : Str)).take 7).length = 7 := by
        rw [List.length_take, List.length_append, List.length_replicate]
        omega
      have nr : ∀ r' : List Str, r'.length = 7 → r' ≠ r := fun r' l e => by
        have := hir.1
        rw [e] at l
        omega
      intro x hx
      simp only [List.mem_cons, List.not_mem_nil, or_false] at hx
      rcases hx with rfl | rfl | rfl | rfl | rfl | rfl | rfl | rfl | rfl | rfl
      · exact .sn .non
      · exact .sn (.int _)
      · exact .sn (.bl _)
      · exact .sn (.str _)
      · exact .sn (.str _)
      · exact .sn (.lst (r := []) (g2 _ _ upd_same))
      · exact .sn (.lst (g3 _ _ upd_same))
      · exact .sn (.dct (g4 _ _ upd_same))
      · exact .long (r' := List.replicate 7 ("show" : Str)) ⟨t7, rfl, sqT_same g6 (SqT.of upd_same)⟩ (by decide) (nr _ rfl)
      · exact .long (r' := (r ++ List.replicate 7 ("ask" : Str)).take 7) ⟨c2, rfl, by rw [← take7]; exact hc2⟩ (by omega) (nr _ len7)
    have s10 := same_new (o := .lst [.non, .int 0, .bl true, .str "take", .str "", .ref l2, .ref l3, .ref d2, .ref t7, .ref c2]) hls
    have hall := fun x hx => (hall x hx).same s10
    have fS : upd H5 ls (.lst [.non, .int 0, .bl true, .str "take", .str "", .ref l2, .ref l3, .ref d2, .ref t7, .ref c2]) ls = some (.lst [.non, .int 0, .bl true, .str "take", .str "", .ref l2, .ref l3, .ref d2, .ref t7, .ref c2]) := upd_same
    have s3S := (s37.trans s89).trans s10
    generalize upd H5 ls (.lst [.non, .int 0, .bl true, .str "take", .str "", .ref l2, .ref l3, .ref d2, .ref t7, .ref c2]) = H6 at hall fS s3S
    -- (some + [..] * 10)[..]
    have hsp : spot.toNat ≤ (r.map V.str).length := by omega
    have esp : spot = ((spot.toNat : Nat) : Int) := by omega
    refine ⟨_, rfl, _, rfl, _, rfl, _, rfl, ?_⟩
    refine slA_of (sqT_same s3S h3a) fun p1 H7 hp1 s11 => ?_
    refine ⟨_, rfl, by show 1 ≤ sizeLine; decide, fun to hto => ?_⟩
    have s12 := same_new (o := .tup [odd]) hto
    refine catA_of (sqT_same s12 hp1) (SqT.of upd_same) ?_ fun p2 H8 hp2 s13 => ?_
    · have := cutV_length (r.map V.str) none (some spot)
      show _ + 1 ≤ 1000
      omega
    have s6_8 := (s11.trans s12).trans s13
    refine ⟨_, rfl, _, rfl, _, rfl, ?_⟩
    dsimp only [tNoPart]
    refine slA_of (sqT_same (s3S.trans s6_8) h3a) fun p3 H9 hp3 s14 => ?_
    refine catA_of (sqT_same s14 hp2) hp3 ?_ fun p4 H10 hp4 s15 => ?_
    · have e1 := cutV_length (r.map V.str) none (some spot)
      have e2 := cutV_length (r.map V.str) (some spot) none
      rw [List.length_append]
      show _ + 1 + _ ≤ 1000
      omega
    have sT := (s6_8.trans s14).trans s15
    have hmix : Bad K H10 r (.ref p4) := by
      have c1 : cutV (r.map V.str) none (some spot) = (r.map V.str).take spot.toNat := by
        rw [esp, cut_lo hsp, Int.toNat_natCast]
      have c2 : cutV (r.map V.str) (some spot) none = (r.map V.str).drop spot.toNat := by
        rw [esp, cut_hi hsp, Int.toNat_natCast]
      rw [c1, c2] at hp4
      refine .mix hp4 ?_ (fun z hz => ?_) ⟨odd, by simp, ono⟩
      · rw [List.length_append, List.length_append, List.length_take, List.length_drop, List.length_singleton, List.length_map]
        rw [List.length_map] at hsp
        omega
      · have sms : ∀ y ∈ r.map V.str, Sm K H10 y := fun y hy => by
          obtain ⟨t, _, rfl⟩ := List.mem_map.mp hy
          exact .inl (.str t)
        rcases List.mem_append.mp hz with hz | hz
        · rcases List.mem_append.mp hz with hz | hz
          · exact sms _ (List.mem_of_mem_take hz)
          · rw [List.mem_singleton.mp hz]
            exact (osm3.same s3S).same sT
        · exact sms _ (List.mem_of_mem_drop hz)
    refine ⟨by show 1 ≤ sizeLine; decide, fun lm hlm => ?_⟩
    have s16 := same_new (o := .lst [.ref p4]) hlm
    refine ⟨lm, 10, _, rfl, rfl, upd_same, by decide, by decide, by show 1 * 10 ≤ sizeLine; decide, fun lm10 hlm10 => ?_⟩
    have s17 := same_new (o := .lst (List.replicate (Int.toNat 10) [V.ref p4]).flatten) hlm10
    have sE := (sT.trans s16).trans s17
    refine ⟨ls, lm10, _, _, rfl, rfl, sE _ _ fS, upd_same, by show 20 ≤ sizeLine; decide, fun lf hlf => ?_⟩
    have s18 := same_new (o := .lst ([.non, .int 0, .bl true, .str "take", .str "", .ref l2, .ref l3, .ref d2, .ref t7, .ref c2] ++ (List.replicate (Int.toNat 10) [V.ref p4]).flatten)) hlf
    have s3F := (s3S.trans sE).trans s18
    have nlf : lf ≠ j := J3.ne ((s3S.trans sE).free hlf)
    have allF : ∀ x ∈ ([.non, .int 0, .bl true, .str "take", .str "", .ref l2, .ref l3, .ref d2, .ref t7, .ref c2] ++ (List.replicate (Int.toNat 10) [V.ref p4]).flatten : List V), Bad K _ r x := fun x hx => by
      rcases List.mem_append.mp hx with hx | hx
      · exact (hall x hx).same (sE.trans s18)
      · have e : x = .ref p4 := by
          have : x ∈ [V.ref p4, .ref p4, .ref p4, .ref p4, .ref p4, .ref p4, .ref p4, .ref p4, .ref p4, .ref p4] := hx
          simpa using this
        rw [e]
        exact hmix.same ((s16.trans s17).trans s18)
    have J4 := J3.same s3F
    refine ⟨_, rfl, j, 20, _, rfl, J4, by decide, by decide, by omega, fun z5 H11 hz50 hz51 J5 k5 => ?_⟩
    obtain ⟨x, hx⟩ : ∃ x, ([.non, .int 0, .bl true, .str "take", .str "", .ref l2, .ref l3, .ref d2, .ref t7, .ref c2] ++ (List.replicate (Int.toNat 10) [V.ref p4]).flatten : List V)[z5.toNat]? = some x := ⟨_, List.getElem?_eq_getElem (show z5.toNat < 20 by omega)⟩
    refine ⟨lf, _, z5, x, rfl, rfl, SqL.of (k5 _ _ nlf upd_same), at_of (j := z5.toNat) (by omega) hx, ?_⟩
    exact q x H11 ((allF x (List.mem_of_getElem? hx)).kp J4 k5) J5 ((k13.trans (s3F.kp j)).trans k5)
end
end Sh

/-! isinstance(e, c), e the caught error of an own class, with fields or without -/
namespace Sh
open PySem L2
theorem kitx_any {K : PySem.W.Frag} {x D : Addr} {ox : Obj} (C : ExcC K D) : PySem.W.KitX K (.ref x) (.ref D) (fun h => ∃ od, PySem.W.InstAt h x ox D od) where
  ty := fun _ _ _ ⟨_, I⟩ => I.type
  it := fun _ _ X0 _ => by
    obtain ⟨cd0, hcd0, _⟩ := PySem.W.any_some C.hd
    unfold PySem.W.clsIn at hcd0
    split at hcd0
    · rename_i e0
      exact fun A0 Q0 E0 s0 k0 q0 => by
        unfold isType loadHead
        exact wpAny_bind (wpAny_loadPart (k0 _ _ (X0 _ _ e0)) (wpAny_pure q0))
    · cases hcd0
  ne := (PySem.W.handS_kitx_exc (x := x) (ox := ox) C.hg C.hk C.hs C.hd C.ha C.hn C.ht C.hm).ne
  ca := fun X ⟨_, I⟩ k => PySem.W.kx_classE X I C.hg C.hk C.hs (PySem.W.findObj_dataE (by obtain ⟨cd, hc, _⟩ := PySem.W.any_some C.hd; rw [hc]; rfl) C.ha C.hn C.ht) C.hm k
/-- a caught error's own dict, as it is tracked -/
def DctAt (H : Hp) : Option Addr → Prop
  | none => True
  | some d => ∃ fs, H d = some (.xd fs)
def rIsX (K : PySem.W.Frag) (D a : Addr) (d : Option Addr) : List V → Hp → VK → Prop := fun xs H Q => ∃ (c : V) (cv : Value) (b : Bool), xs = [.ref a, c] ∧ (∀ u, RelV c u → u = cv) ∧ DctAt H d ∧ PySem.W.kitOne K (.ref D) cv = some b ∧ Q (.bl b) H
theorem call_isX {X : Cx} {a D : Addr} {d : Option Addr} {oe : Obj} {pn : List (Addr × Obj)} (C : ExcC X.K D) (hz : Zc (.ref D) d oe) (hf : ∃ vs, oe.data = .fields vs) : CallR (X.suite a ((a, oe) :: pn)) (.builtin "isinstance") (rIsX X.K D a d) := by
  intro pins s σ H xs us Q I r h
  obtain ⟨c, cv, b, rfl, hcv, hd, e, q⟩ := h
  obtain ⟨u, w, rfl, ru, rw'⟩ : ∃ u w, us = [u, w] ∧ RelV (.ref a) u ∧ RelV c w := by
    cases r with | cons h1 r => cases r with | cons h2 r => cases r; exact ⟨_, _, rfl, h1, h2⟩
  cases ru
  rw [hcv _ rw'] at *
  obtain ⟨ha, _⟩ := I.pin (a, oe) (List.mem_append_left _ List.mem_cons_self)
  obtain ⟨vs, hv⟩ := hf
  have J : ∃ od, PySem.W.InstAt s.heap a oe D od := by
    cases d with
    | none => exact ⟨none, ha, hz.1, by unfold PySem.W.notCls; rw [hv] <;> rfl, by rw [hz.2]; trivial⟩
    | some dd =>
      obtain ⟨fs, hx⟩ := hd
      obtain ⟨mA, hns, _⟩ := (show ObjOk X.prog X.w H s.heap dd (.xd fs) from I.hok dd _ hx)
      obtain ⟨od, ho, _⟩ := lookIn_ns hns
      exact ⟨some od, ha, hz.1, by unfold PySem.W.notCls; rw [hv] <;> rfl, by rw [hz.2]; exact ho⟩
  exact PySem.W.kia_one (kitx_any C) I.kIn J e (fun z => nomatch z) fun tk => ⟨.bl b, H, I.kept (t' := tk) fun _ _ z => z, rfl, q⟩
end Sh

namespace Sh
open PySem L2
section
variable {P : Program} {w : World} {K : PySem.W.Frag} {mg : Str → Option Value} {base : Heap} {aA aD : Addr}
/-! ### a value that is no door -/
def NoDr (K : PySem.W.Frag) (H : Hp) (v : V) : Prop := Sm K H v ∧ ∀ t, v = .str t → t ∉ doors
theorem NoDr.kp {j : Addr} {n : Nat} {H H' : Hp} (J : JarAt H j n) (k : Kp j H H') {v : V} (h : NoDr K H v) : NoDr K H' v := ⟨h.1.kp J k, h.2⟩
theorem NoDr.same {H H' : Hp} (s : Same H H') {v : V} (h : NoDr K H v) : NoDr K H' v := ⟨h.1.same s, h.2⟩
theorem NoDr.among {H : Hp} {v : V} (h : NoDr K H v) : Among K H doors v false := by
  obtain ⟨b, a, e1, e2⟩ := h.1.among doors
  have eb : b = false := by
    cases v with
    | str t =>
      rw [e1 t rfl]
      exact decide_eq_false (h.2 t rfl)
    | _ => exact e2 (fun _ e => by cases e)
  rw [eb] at a
  exact a
def spNoDoor (K : PySem.W.Frag) : Sp := fun vs H Q _ => ∃ (j : Addr) (n : Nat), vs = [.ref j] ∧ JarAt H j n ∧ n ≤ 2 ^ 90 ∧ ∀ (x : V) (H' : Hp), NoDr K H' x → JarAt H' j (n + 1) → Kp j H H' → Q x H'
abbrev s_nodoor : Stmt := top 20
theorem sc_nodoor : FnScope ["jar", "some"] ["jar"] (defScope s_nodoor) := ⟨rfl, rfl, rfl, by decide +kernel, rfl, by decide +kernel, by decide +kernel⟩
theorem ok_nodoor {f fD : Addr} {fd fdD : FuncData} (F : Fun K "_law_no_door" "_law_no_door" s_nodoor f fd) (T : TxtB mg) (gD : mg "_law_draw" = some (.ref fD)) (kD : PySem.W.keepIn K (.ref fD) = true) (bD : Binds K fdD ["jar", "many"] [])
    (GD : FnOk P w K mg base CX0 1 fD fdD ["jar", "many"] spDraw) : FnOk P w K mg base CX0 2 f fd ["jar"] (spNoDoor K) := by
  refine F.ok sc_nodoor (fun vs H Q E h => ?_) (fun cdv A outer s H vs Q E hr h => ?_)
  · obtain ⟨j, n, rfl, _⟩ := h
    rfl
  · obtain ⟨j, n, rfl, J, hn, q⟩ := h
    refine ⟨_, (pss_cons (ps_set (i := 1) sc_nodoor.nd rfl (Or.inl rfl) (pe_lst (pa_cons pe_str (pa_cons pe_str (pa_cons pe_str (pa_cons pe_str (pa_cons pe_str (pa_cons pe_str (pa_cons pe_str (pa_cons pe_non (pa_cons pe_int (pa_cons pe_int (pa_cons pe_bl (pa_cons (pe_tup (pa_cons pe_str pa_nil)) (pa_cons (pe_lst (pa_cons pe_str pa_nil)) (pa_cons pe_dnewK (pa_cons (pe_tup pa_nil) (pa_cons pe_str pa_nil))))))))))))))))))
  (pss_one (ps_ret (pe_ix ix_list (pv 1) (pe_call GD hr (by rfl) gD kD bD .nil pass0 (pa_cons (pv 0) (pa_cons pe_int pa_nil))) (fun _ _ => rfl))))), ?_⟩
    refine ⟨by show 1 ≤ sizeLine; decide, fun t1 ht1 => ?_⟩
    refine ⟨by show 1 ≤ sizeLine; decide, fun l1 hl1 => ?_⟩
    intro d1 hd1
    refine ⟨Nat.zero_le _, fun t0 ht0 => ?_⟩
    refine ⟨by show 16 ≤ sizeLine; decide, fun lo hlo => ?_⟩
    have sA := same_new (o := .tup [.str "put"]) ht1
    have sB := same_new (o := .lst [.str "look"]) hl1
    have sC := same_new (o := .dK []) hd1
    have sD := same_new (o := .tup []) ht0
    have sE := same_new (o := .lst [.str "", .str "Put", .str "put ", .str "take", .str "price", .str "agai", .str "looks", .non, .int 0, .int 1, .bl true, .ref t1, .ref l1, .ref d1, .ref t0, .str "pay\n"]) hlo
    have fD : upd (upd (upd (upd (upd H t1 (.tup [.str "put"])) l1 (.lst [.str "look"])) d1 (.dK [])) t0 (.tup [])) lo (.lst [.str "", .str "Put", .str "put ", .str "take", .str "price", .str "agai", .str "looks", .non, .int 0, .int 1, .bl true, .ref t1, .ref l1, .ref d1, .ref t0, .str "pay\n"]) lo = some (.lst [.str "", .str "Put", .str "put ", .str "take", .str "price", .str "agai", .str "looks", .non, .int 0, .int 1, .bl true, .ref t1, .ref l1, .ref d1, .ref t0, .str "pay\n"]) := upd_same
    have all : ∀ x ∈ ([.str "", .str "Put", .str "put ", .str "take", .str "price", .str "agai", .str "looks", .non, .int 0, .int 1, .bl true, .ref t1, .ref l1, .ref d1, .ref t0, .str "pay\n"] : List V), NoDr K (upd (upd (upd (upd (upd H t1 (.tup [.str "put"])) l1 (.lst [.str "look"])) d1 (.dK [])) t0 (.tup [])) lo (.lst [.str "", .str "Put", .str "put ", .str "take", .str "price", .str "agai", .str "looks", .non, .int 0, .int 1, .bl true, .ref t1, .ref l1, .ref d1, .ref t0, .str "pay\n"])) x := by
      have g1 := sE
      have g2 := sD.trans g1
      have g3 := sC.trans g2
      have g4 := sB.trans g3
      intro x hx
      simp only [List.mem_cons, List.not_mem_nil, or_false] at hx
      rcases hx with rfl | rfl | rfl | rfl | rfl | rfl | rfl | rfl | rfl | rfl | rfl | rfl | rfl | rfl | rfl | rfl
      · exact ⟨.inl (.str _), fun t e => by cases e; decide⟩
      · exact ⟨.inl (.str _), fun t e => by cases e; decide⟩
      · exact ⟨.inl (.str _), fun t e => by cases e; decide⟩
      · exact ⟨.inl (.str _), fun t e => by cases e; decide⟩
      · exact ⟨.inl (.str _), fun t e => by cases e; decide⟩
      · exact ⟨.inl (.str _), fun t e => by cases e; decide⟩
      · exact ⟨.inl (.str _), fun t e => by cases e; decide⟩
      · exact ⟨.inl .non, fun t e => by cases e⟩
      · exact ⟨.inl (.int _), fun t e => by cases e⟩
      · exact ⟨.inl (.int _), fun t e => by cases e⟩
      · exact ⟨.inl (.bl _), fun t e => by cases e⟩
      · exact ⟨.inr ⟨["put"], t1, rfl, SqT.of (g4 _ _ upd_same)⟩, fun t e => by cases e⟩
      · exact ⟨.inl (.lst (r := ["look"]) (g3 _ _ upd_same)), fun t e => by cases e⟩
      · exact ⟨.inl (.dct (g2 _ _ upd_same)), fun t e => by cases e⟩
      · exact ⟨.inr ⟨[], t0, rfl, SqT.of (g1 _ _ upd_same)⟩, fun t e => by cases e⟩
      · exact ⟨.inl (.str _), fun t e => by cases e; decide⟩
    have s := (((sA.trans sB).trans sC).trans sD).trans sE
    have s4 := ((sA.trans sB).trans sC).trans sD
    generalize upd (upd (upd (upd (upd H t1 (.tup [.str "put"])) l1 (.lst [.str "look"])) d1 (.dK [])) t0 (.tup [])) lo (.lst [.str "", .str "Put", .str "put ", .str "take", .str "price", .str "agai", .str "looks", .non, .int 0, .int 1, .bl true, .ref t1, .ref l1, .ref d1, .ref t0, .str "pay\n"]) = H1 at fD all s
    have J1 := J.same s
    have nlo : lo ≠ j := J.ne (s4.free hlo)
    refine ⟨_, rfl, _, rfl, j, 16, n, rfl, J1, by decide, by decide, Nat.le_trans hn (by decide), fun z H2 hz0 hz1 J2 k2 => ?_⟩
    obtain ⟨x, hx⟩ : ∃ x, ([.str "", .str "Put", .str "put ", .str "take", .str "price", .str "agai", .str "looks", .non, .int 0, .int 1, .bl true, .ref t1, .ref l1, .ref d1, .ref t0, .str "pay\n"] : List V)[z.toNat]? = some x := ⟨_, List.getElem?_eq_getElem (show z.toNat < 16 by omega)⟩
    refine ⟨lo, _, z, x, rfl, rfl, SqL.of (k2 _ _ nlo fD), at_of (j := z.toNat) (by omega) hx, ?_⟩
    exact q x H2 ((all x (List.mem_of_getElem? hx)).kp J1 k2) J2 ((s.kp j).trans k2)
/-! ### whether the very error came -/
def rEqS (K : PySem.W.Frag) : R2 := fun x y H Q => x = y ∧ Sm K H x ∧ Q (.bl true) H
theorem op_eqS {X : Cx} (hu : X.A.units + 64 < cLine) : OpR X (compareOp .Eq) (rEqS X.K) := by
  intro pins s σ H x y v u Q I rx ry h
  obtain ⟨rfl, hs, q⟩ := h
  rcases hs.data with ⟨d, h1, h2, h3⟩ | ⟨a, rfl, ha⟩
  · exact op_eqP hu pins s σ H x x v u Q I rx ry ⟨d, d, h1, h1, h2, h2, by omega, by rw [PySem.SeqAt.eqv_refl_plain _ h2]; exact q⟩
  · exact op_eq_dict (by omega) pins s σ H _ _ v u Q I rx ry ⟨a, a, [], rfl, rfl, ha, ha, List.nodup_nil, (fun p hp => by cases hp), q⟩
theorem Sm.isB {H : Hp} {v : V} (h : Sm K H v) : ∃ t b, TyX K H v t ∧ PySem.W.kitOne K t (.type "bool") = some b := by
  rcases h with h | ⟨r, a, rfl, h⟩
  · cases h with
    | non => exact ⟨_, false, .base .non, kit_ty (by decide +kernel)⟩
    | bl b => exact ⟨_, true, .base (.bl b), kit_ty (by decide +kernel)⟩
    | int i => exact ⟨_, false, .base (.int i), kit_ty (by decide +kernel)⟩
    | str z => exact ⟨_, false, .base (.str z), kit_ty (by decide +kernel)⟩
    | lst h => exact ⟨_, false, .base (.lst h), kit_ty (by decide +kernel)⟩
    | dct h => exact ⟨_, false, .base (.dK h), kit_ty (by decide +kernel)⟩
  · exact ⟨_, false, sqT_tyX h, kit_ty (by decide +kernel)⟩
def spIs (K : PySem.W.Frag) : Sp := fun vs H Q _ => ∃ (t : Addr) (nm : Str) (v : V), vs = [.ref t, .str nm, v] ∧ H t = some (.tup [.str nm, v, .bl true]) ∧ Sm K H v ∧ Q (.bl true) H
abbrev s_is : Stmt := top 23
theorem sc_is : FnScope ["found", "name", "thing"] ["found", "name", "thing"] (defScope s_is) := ⟨rfl, rfl, rfl, by decide +kernel, rfl, by decide +kernel, by decide +kernel⟩
theorem ok_is {f : Addr} {fd : FuncData} (F : Fun K "_law_is" "_law_is" s_is f fd) (T : TxtB mg) (bbool : mg "bool" = none) : FnOk P w K mg base CX0 1 f fd ["found", "name", "thing"] (spIs K) := by
  refine F.ok sc_is (fun vs H Q E h => ?_) (fun cdv A outer s H vs Q E hr h => ?_)
  · obtain ⟨t, nm, v, rfl, _⟩ := h
    rfl
  · obtain ⟨t, nm, v, rfl, ht, hv, q⟩ := h
    refine ⟨_, (pss_cons (ps_if (PW.pt (pw_or (pt_cmpR op_ne (pe_ix ix_tup (pv 0) pe_int (fun _ _ => rfl)) (pv 1) (nomark _)) (pw_or (pt_cmpR op_ne (pe_callB call_len_seq (by rfl) T.b_len (by decide +kernel) (pa_cons (pv 0) pa_nil)) pe_int (nomark _)) (pw_or (pt_not (pt_val (pe_ix ix_tup (pv 0) pe_int (fun _ _ => rfl)))) (pw_or1 (pt_cmpR op_ne (pe_callB call_isi (by rfl) T.b_isinstance (by decide +kernel) (pa_cons (pe_ix ix_tup (pv 0) pe_int (fun _ _ => rfl)) (pa_cons (pe_bltn (v := .ty "bool") (by rfl) bbool (by decide +kernel) rfl) pa_nil))) (pe_callB call_isi (by rfl) T.b_isinstance (by decide +kernel) (pa_cons (pv 2) (pa_cons (pe_bltn (v := .ty "bool") (by rfl) bbool (by decide +kernel) rfl) pa_nil))) (nomark _))))))) (pss_one (ps_ret pe_bl)) pss_nil)
  (pss_one (ps_ret (pe_cmpR (op_eqS hr.units) (pe_ix ix_tup (pv 0) pe_int (fun _ _ => rfl)) (pv 2) (nomark _))))), ?_⟩
    have hT : SqT K H t [.str nm, v, .bl true] := SqT.of ht
    obtain ⟨ty, b, hty, hb⟩ := hv.isB
    refine ⟨_, rfl, t, _, 0, _, rfl, rfl, hT, rfl, ?_⟩
    refine ⟨_, rfl, rfl, _, rfl, ?_⟩
    refine ite2 (fun c => by simp at c) (fun _ => ?_)
    refine ⟨_, rfl, t, _, rfl, .inr hT, rfl, _, rfl, ?_⟩
    refine ite2 (fun c => by simp at c) (fun _ => ?_)
    refine ⟨_, rfl, t, _, 2, _, rfl, rfl, hT, rfl, ?_⟩
    refine ⟨_, rfl, ?_⟩
    refine ite2 (fun c => by cases c) (fun _ => ?_)
    refine ⟨_, rfl, t, _, 1, v, rfl, rfl, hT, rfl, _, _, _, _, b, rfl, .ty "bool", hty, hb, ?_⟩
    refine ⟨_, rfl, _, _, _, _, b, rfl, .ty "bool", hty, hb, ?_⟩
    refine ⟨rfl, _, rfl, ?_⟩
    refine ite2 (fun c => by simp at c) (fun _ => ?_)
    exact ⟨_, rfl, t, _, 1, v, rfl, rfl, hT, rfl, _, rfl, rfl, hv, q⟩
end
end Sh

namespace Sh
open PySem L2
section
variable {P : Program} {w : World} {K : PySem.W.Frag} {mg : Str → Option Value} {base : Heap} {aA aD : Addr}
/-! ### distinct doors in any order -/
def spDoors (K : PySem.W.Frag) : Sp := fun vs H Q _ => ∃ (j nl : Addr) (n : Nat), vs = [.ref j, .ref nl] ∧ JarAt H j n ∧ n ≤ 2 ^ 90 ∧ H nl = some (.lst (doors.map V.str)) ∧
  ∀ (a : Addr) (zs : List Str) (H' : Hp), SqT K H' a (zs.map V.str) → zs.length ≤ 6 → (∀ z ∈ zs, z ∈ doors) → zs.Nodup → JarAt H' j (n + 7) → Kp j H H' → Q (.ref a) H'
abbrev s_doors : Stmt := top 25
theorem sc_doors : FnScope ["jar", "names", "left", "found", "turn"] ["jar", "names"] (defScope s_doors) := ⟨rfl, rfl, rfl, by decide +kernel, rfl, by decide +kernel, by decide +kernel⟩
structure DrSt (H0 H : Hp) (j le fo : Addr) (n : Nat) (ls zs : List Str) : Prop where
  l : H le = some (.lst (ls.map V.str))
  f : H fo = some (.lst (zs.map V.str))
  nd : (zs ++ ls).Nodup
  sub : ∀ z ∈ zs ++ ls, z ∈ doors
  jar : JarAt H j n
  kp : Kp j H0 H
theorem erase_perm {y : Str} : ∀ {l : List Str} {k : Nat}, l[k]? = some y → l.Perm (y :: l.eraseIdx k)
  | [], k, h => by simp at h
  | x :: l, 0, h => by
    cases h
    exact List.Perm.refl _
  | x :: l, k + 1, h => (List.Perm.cons x (erase_perm (l := l) (k := k) h)).trans (List.Perm.swap y x _)
theorem erase_map : ∀ (l : List Str) (k : Nat), (l.eraseIdx k).map V.str = (l.map V.str).eraseIdx k
  | [], _ => rfl
  | _ :: _, 0 => rfl
  | x :: l, k + 1 => congrArg (V.str x :: ·) (erase_map l k)
theorem ok_doors {f fD : Addr} {fd fdD : FuncData} (F : Fun K "_law_doors" "_law_doors" s_doors f fd) (T : TxtB mg) (blist : mg "list" = none) (gD : mg "_law_draw" = some (.ref fD)) (kD : PySem.W.keepIn K (.ref fD) = true) (bD : Binds K fdD ["jar", "many"] [])
    (GD : FnOk P w K mg base CX0 1 fD fdD ["jar", "many"] spDraw) : FnOk P w K mg base CX0 2 f fd ["jar", "names"] (spDoors K) := by
  refine F.ok sc_doors (fun vs H Q E h => ?_) (fun cdv A outer s H vs Q E hr h => ?_)
  · obtain ⟨j, nl, n, rfl, _⟩ := h
    rfl
  · obtain ⟨j, nl, n, rfl, J, hn, hnl, q⟩ := h
    refine ⟨_, (pss_cons (ps_par (i := 2) (j := 3) (by rfl) sc_doors.nd rfl rfl (by decide) rfl rfl (pa_cons (pe_callTy call_list_of (by rfl) blist (by decide +kernel) (pa_cons (pv 1) pa_nil)) (pa_cons (pe_lst pa_nil) pa_nil)) (by rfl))
  (pss_cons (ps_for PassesOwn.never rfl (pi_range1 (by rfl) T.b_range (pa_cons (pe_call GD hr (by rfl) gD kD bD .nil pass0 (pa_cons (pv 0) (pa_cons pe_int pa_nil))) pa_nil)) (pg_name (i := 4) sc_doors.nd rfl (Or.inl rfl)) (pss_one (ps_expr (pe_bm PySem.F.plainAttrs_list PySem.F.slot_list_append PySem.F.type_list_append mt_append (pv 3) (pa_cons (pe_bm PySem.F.plainAttrs_list PySem.F.slot_list_pop PySem.F.type_list_pop mt_popAt (pv 2) (pa_cons (pe_call GD hr (by rfl) gD kD bD .nil pass0 (pa_cons (pv 0) (pa_cons (pe_callB call_len_seq (by rfl) T.b_len (by decide +kernel) (pa_cons (pv 2) pa_nil)) pa_nil))) pa_nil)) pa_nil)))))
  (pss_one (ps_ret (pe_callTy call_tuple_of (by rfl) T.b_tuple (by decide +kernel) (pa_cons (pv 3) pa_nil)))))), ?_⟩
    refine ⟨_, rfl, nl, _, rfl, .inl (SqL.of hnl), fun le hle => ?_⟩
    have sA := same_new (o := .lst (doors.map V.str)) hle
    refine ⟨Nat.zero_le _, fun fo hfo => ?_⟩
    have sB := same_new (o := .lst []) hfo
    refine ⟨_, _, rfl, ?_⟩
    have lej : le ≠ j := J.ne hle
    have foj : fo ≠ j := (J.same sA).ne hfo
    have lefo : le ≠ fo := ne_of_none (o := .lst (doors.map V.str)) upd_same hfo
    have fo0 : H fo = none := sA.free hfo
    have S0 : DrSt H (upd (upd H le (.lst (doors.map V.str))) fo (.lst [])) j le fo n doors [] := ⟨sB _ _ upd_same, upd_same, by decide +kernel, fun z hz => hz, (J.same sA).same sB, (sA.trans sB).kp j⟩
    generalize upd (upd H le (.lst (doors.map V.str))) fo (.lst []) = H1 at S0
    refine ⟨_, rfl, j, 7, n, rfl, S0.jar, by decide, by decide, Nat.le_trans hn (by decide), fun tn H2 ht0 ht1 J2 k2 => ?_⟩
    have kpS : ∀ {H H' : Hp} {m : Nat} {ls zs : List Str} {J' : JarAt H' j (m + 1)} {H0 : Hp}, DrSt H0 H j le fo m ls zs → Kp j H H' → DrSt H0 H' j le fo (m + 1) ls zs := fun {_ _ _ _ _ J' _} S k => ⟨k _ _ lej S.l, k _ _ foj S.f, S.nd, S.sub, J', S.kp.trans k⟩
    refine ⟨tn, rfl, by omega, by omega, for_range (lo := 0) (n := tn.toNat) (fun i σ H' => ∃ v4 ls zs, σ = [some (.ref j), some (.ref nl), some (.ref le), some (.ref fo), v4] ∧ DrSt H H' j le fo (n + 1 + i) ls zs ∧ zs.length = i ∧ ls.length = 6 - i) ?_ ?_ ?_⟩
    · exact ⟨_, doors, [], rfl, kpS (J' := J2) S0 k2, rfl, rfl⟩
    · rintro i σ H3 hi ⟨v4, ls, zs, rfl, S, lz, ll⟩
      have ll0 : 0 < ls.length := by omega
      refine ⟨_, rfl, .inl ⟨rfl, _, SqL.of S.f⟩, ?_⟩
      refine ⟨_, rfl, .inl ⟨rfl, _, SqL.of S.l⟩, ?_⟩
      refine ⟨_, rfl, _, rfl, le, _, rfl, .inl (SqL.of S.l), ?_⟩
      rw [List.length_map]
      refine ⟨j, _, n + 1 + i, rfl, S.jar, by omega, Int.lt_trans (Int.ofNat_lt.mpr (show ls.length < 7 by omega)) (by decide), by omega, fun z H4 hz0 hz1 J4 k4 => ?_⟩
      have S4 := kpS (J' := J4) S k4
      obtain ⟨y, hy⟩ : ∃ y, ls[z.toNat]? = some y := ⟨_, List.getElem?_eq_getElem (show z.toNat < ls.length by omega)⟩
      refine ⟨le, _, z, z.toNat, .str y, rfl, rfl, S4.l, by omega, by omega, ?_, by rw [List.getElem?_map, hy]; rfl, ?_⟩
      · rw [List.length_map]
        exact (ixN_seq (n := ls.length) (i := z) (j := z.toNat) (by unfold ixN; rw [if_pos hz0, if_pos (show z < (ls.length : Int) by omega)])).1
      · have er : (ls.map V.str).eraseIdx z.toNat = (ls.eraseIdx z.toNat).map V.str := by
          exact (erase_map _ _).symm
        rw [er]
        refine ⟨fo, zs.map V.str, .str y, rfl, rfl, ?_, ?_, ?_⟩
        · rw [upd_ne lefo.symm]
          exact S4.f
        · rw [List.length_map]
          exact small1000 (by omega)
        · have ly : ls.length = (ls.eraseIdx z.toNat).length + 1 := by
            rw [List.length_eraseIdx, if_pos (show z.toNat < ls.length by omega)]
            omega
          have pm : ls.Perm (y :: ls.eraseIdx z.toNat) := by
            exact erase_perm hy
          have pm2 : (zs ++ [y] ++ ls.eraseIdx z.toNat).Perm (zs ++ ls) := by
            rw [List.append_assoc]
            exact List.Perm.append_left zs pm.symm
          have em : zs.map V.str ++ [.str y] = (zs ++ [y]).map V.str := by rw [List.map_append]; rfl
          rw [em]
          refine ⟨_, ls.eraseIdx z.toNat, zs ++ [y], rfl, ⟨?_, upd_same, pm2.nodup_iff.mpr S4.nd, fun x hx => S4.sub x (pm2.mem_iff.mp hx), ?_, ?_⟩, by rw [List.length_append, lz]; rfl, by omega⟩
          · rw [upd_ne lefo]
            exact upd_same
          · have e1 : n + 1 + (i + 1) = n + 1 + i + 1 := by omega
            rw [e1]
            exact S4.jar.keep fun o e => by rw [upd_ne foj.symm, upd_ne lej.symm]; exact e
          · exact kp_fresh (Kp.refl j H) fo0 (kp_fresh (Kp.refl j H) hle S4.kp)
    · rintro σ H3 ⟨v4, ls, zs, rfl, S, lz, ll⟩
      refine ⟨_, rfl, fo, _, rfl, .inl ⟨SqL.of S.f, fun l hl => ?_⟩⟩
      have sl := same_new (o := .tup (zs.map V.str)) hl
      exact q l zs _ (SqT.of upd_same) (by omega) (fun z hz => S.sub z (List.mem_append_left _ hz)) (List.nodup_append.mp S.nd).1 ((S.jar.same sl).mono (by omega)) (S.kp.trans (sl.kp j))
end
end Sh

namespace Sh
open PySem L2
section
variable {P : Program} {w : World} {K : PySem.W.Frag} {mg : Str → Option Value} {base : Heap} {aA aD : Addr}
/-! ### what is no tuple of distinct doors -/
inductive BadD (K : PySem.W.Frag) (H : Hp) : V → Prop
  | sn {v : V} (h : Sn K H v) : BadD K H v
  | dup {v : V} {r : List Str} (h : RuleAt K H v r) (l : r.length ≤ 1000) (nd : ¬ r.Nodup) : BadD K H v
  | mix {a : Addr} {zs : List V} (h : SqT K H a zs) (l : zs.length ≤ 1000) (s : ∀ z ∈ zs, Sm K H z) (no : ∃ z ∈ zs, ∀ t, z = .str t → t ∉ doors) : BadD K H (.ref a)
theorem BadD.same {H H' : Hp} (s : Same H H') {v : V} (h : BadD K H v) : BadD K H' v := by
  cases h with
  | sn h => exact .sn (h.same s)
  | dup h l nd => exact .dup (s.kt.rule h) l nd
  | mix h l m no => exact .mix (s.kt.sqT h) l (fun z hz => (m z hz).same s) no
theorem BadD.kp {j : Addr} {n : Nat} {H H' : Hp} (J : JarAt H j n) (k : Kp j H H') {v : V} (h : BadD K H v) : BadD K H' v := by
  cases h with
  | sn h => exact .sn (h.kp J k)
  | dup h l nd => exact .dup ((J.kt k).rule h) l nd
  | mix h l m no => exact .mix ((J.kt k).sqT h) l (fun z hz => (m z hz).kp J k) no
theorem BadD.cl {H : Hp} {v : V} (h : BadD K H v) : DoorsCl K H v false := by
  cases h with
  | sn h =>
    obtain ⟨t, ty, no, _⟩ := h.ty
    exact .other ty no
  | @dup _ r h l nd =>
    obtain ⟨a, rfl, h⟩ := h
    have nd' : ¬ (r.map V.str).Nodup := fun q => nd ((nd_map fun _ _ e => V.str.inj e).mp q)
    have e : ((r.map fun z => decide (z ∈ doors)).all id && decide (r.map V.str).Nodup) = false := by rw [decide_eq_false nd', Bool.and_false]
    rw [← e]
    exact .tup h (by rw [List.length_map]; exact l) (among_strs doors r)
  | @mix a zs h l s no =>
    obtain ⟨bs, p, hb⟩ := amongs_of doors s
    have e : (bs.all id && decide zs.Nodup) = false := by rw [hb no, Bool.false_and]
    rw [← e]
    exact .tup h l p
def spNoDoors (K : PySem.W.Frag) : Sp := fun vs H Q _ => ∃ (j : Addr) (v : V) (n : Nat) (r : List Str), vs = [.ref j, v] ∧ JarAt H j n ∧ n ≤ 2 ^ 80 ∧ RuleAt K H v r ∧ r.length ≤ 6 ∧
  ∀ (x : V) (H' : Hp), BadD K H' x → JarAt H' j (n + 3) → Kp j H H' → Q x H'
abbrev s_nodoors : Stmt := top 21
abbrev nND : List Str := ["jar", "some", "spot", "odd", "found"]
theorem sc_nodoors : FnScope nND ["jar", "some"] (defScope s_nodoors) := ⟨rfl, rfl, rfl, by decide +kernel, rfl, by decide +kernel, by decide +kernel⟩
theorem ok_nodoors {f fD fN : Addr} {fd fdD fdN : FuncData} (F : Fun K "_law_no_doors" "_law_no_doors" s_nodoors f fd) (T : TxtB mg) (blist : mg "list" = none) (gD : mg "_law_draw" = some (.ref fD)) (kD : PySem.W.keepIn K (.ref fD) = true) (bD : Binds K fdD ["jar", "many"] [])
    (GD : FnOk P w K mg base CX0 1 fD fdD ["jar", "many"] spDraw) (gN : mg "_law_no_door" = some (.ref fN)) (kN : PySem.W.keepIn K (.ref fN) = true) (bN : Binds K fdN ["jar"] []) (GN : FnOk P w K mg base CX0 2 fN fdN ["jar"] (spNoDoor K)) : FnOk P w K mg base CX0 3 f fd ["jar", "some"] (spNoDoors K) := by
  refine F.ok sc_nodoors (fun vs H Q E h => ?_) (fun cdv A outer s H vs Q E hr h => ?_)
  · obtain ⟨j, v, n, r, rfl, _⟩ := h
    rfl
  · obtain ⟨j, v, n, r, rfl, J, hn, hv, r6, q⟩ := h
    have r1 : Room 1 _ := hr.mono (by decide)
    refine ⟨_, (pss_cons (ps_set (i := 2) sc_nodoors.nd rfl (Or.inl rfl) (pe_call GD r1 (by rfl) gD kD bD .nil pass0 (pa_cons (pv 0) (pa_cons (pe_op op_add (pe_callB call_len_seq (by rfl) T.b_len (by decide +kernel) (pa_cons (pv 1) pa_nil)) pe_int) pa_nil))))
  (pss_cons (ps_set (i := 3) sc_nodoors.nd rfl (Or.inl rfl) (pe_call GN hr (by rfl) gN kN bN .nil pass0 (pa_cons (pv 0) pa_nil)))
  (pss_cons (ps_set (i := 4) sc_nodoors.nd rfl (Or.inl rfl) (pe_lst (pa_cons pe_non (pa_cons pe_int (pa_cons pe_str (pa_cons pe_str (pa_cons (pe_callTy call_list_of (by rfl) blist (by decide +kernel) (pa_cons (pv 1) pa_nil)) (pa_cons pe_dnewK (pa_cons pe_bl (pa_cons (pe_tup (pa_cons pe_str (pa_cons pe_str (pa_cons pe_str pa_nil)))) (pa_cons (pe_tup (pa_cons pe_str (pa_cons pe_str pa_nil))) pa_nil)))))))))))
  (pss_cons (ps_if (pt_cmpR (op_neP hr.units) (pv 1) (pe_tup pa_nil) (nomark _)) (pss_one (ps_set (i := 4) sc_nodoors.nd rfl (Or.inl rfl) (pe_op op_cat (pv 4) (pe_op op_rep (pe_lst (pa_cons (pe_op op_catA (pe_op op_catA (pe_slice sl_tupA (pv 1) po_none (po_some (pv 2))) (pe_slice sl_tupA (pv 1) po_none (po_some pe_int))) (pe_slice sl_tupA (pv 1) (po_some (pv 2)) po_none)) pa_nil)) pe_int)))) pss_nil)
  (pss_cons (ps_set (i := 4) sc_nodoors.nd rfl (Or.inl rfl) (pe_op op_cat (pv 4) (pe_op op_rep (pe_lst (pa_cons (pe_op op_catA (pe_op op_catA (pe_slice sl_tupA (pv 1) po_none (po_some (pv 2))) (pe_tup (pa_cons (pv 3) pa_nil))) (pe_slice sl_tupA (pv 1) (po_some (pv 2)) po_none)) pa_nil)) pe_int)))
  (pss_one (ps_ret (pe_ix ix_list (pv 4) (pe_call GD r1 (by rfl) gD kD bD .nil pass0 (pa_cons (pv 0) (pa_cons (pe_callB call_len_seq (by rfl) T.b_len (by decide +kernel) (pa_cons (pv 4) pa_nil)) pa_nil))) (fun _ _ => rfl))))))))), ?_⟩
    obtain ⟨va, rfl, hva⟩ := id hv
    refine ⟨_, rfl, _, rfl, va, _, rfl, .inr hva, _, _, rfl, rfl, ?_⟩
    have l6 : (r.map V.str).length ≤ 6 := by rw [List.length_map]; exact r6
    refine ⟨j, _, n, rfl, J, by omega, Int.lt_of_le_of_lt (show _ ≤ (7 : Int) by omega) (by decide), Nat.le_trans hn (by decide), fun spot H1 hs0 hs1 J1 k1 => ?_⟩
    refine ⟨_, rfl, j, n + 1, rfl, J1, by omega, fun odd H3 hodd J3 k3 => ?_⟩
    have k13 := k1.trans k3
    have h3v : RuleAt K H3 (.ref va) r := (J.kt k13).rule hv
    obtain ⟨_, e3, h3a⟩ := id h3v
    cases e3
    -- found
    refine ⟨_, rfl, va, _, rfl, .inr h3a, fun l3 hl3 => ?_⟩
    have s2 := same_new (o := .lst (r.map V.str)) hl3
    intro d2 hd2
    have s3 := same_new (o := .dK []) hd2
    refine ⟨by show 3 ≤ sizeLine; decide, fun t3 ht3 => ?_⟩
    have s4 := same_new (o := .tup [.str "put", .str "look", .str "put"]) ht3
    refine ⟨by show 2 ≤ sizeLine; decide, fun t2 ht2 => ?_⟩
    have s5 := same_new (o := .tup [.str "again", .str "again"]) ht2
    refine ⟨by show 9 ≤ sizeLine; decide, fun ls hls => ?_⟩
    have hall : ∀ x ∈ ([.non, .int 0, .str "put", .str "", .ref l3, .ref d2, .bl true, .ref t3, .ref t2] : List V), BadD K (upd (upd (upd (upd H3 l3 (.lst (r.map V.str))) d2 (.dK [])) t3 (.tup [.str "put", .str "look", .str "put"])) t2 (.tup [.str "again", .str "again"])) x := by
      intro x hx
      simp only [List.mem_cons, List.not_mem_nil, or_false] at hx
      rcases hx with rfl | rfl | rfl | rfl | rfl | rfl | rfl | rfl | rfl
      · exact .sn .non
      · exact .sn (.int _)
      · exact .sn (.str _)
      · exact .sn (.str _)
      · exact .sn (.lst (((s3.trans s4).trans s5) _ _ upd_same))
      · exact .sn (.dct ((s4.trans s5) _ _ upd_same))
      · exact .sn (.bl _)
      · exact .dup (r := ["put", "look", "put"]) ⟨t3, rfl, SqT.of (s5 _ _ upd_same)⟩ (by decide) (by decide +kernel)
      · exact .dup (r := ["again", "again"]) ⟨t2, rfl, SqT.of upd_same⟩ (by decide) (by decide +kernel)
    have s6 := same_new (o := .lst [.non, .int 0, .str "put", .str "", .ref l3, .ref d2, .bl true, .ref t3, .ref t2]) hls
    have hall := fun x hx => (hall x hx).same s6
    have fS : upd (upd (upd (upd (upd H3 l3 (.lst (r.map V.str))) d2 (.dK [])) t3 (.tup [.str "put", .str "look", .str "put"])) t2 (.tup [.str "again", .str "again"])) ls (.lst [.non, .int 0, .str "put", .str "", .ref l3, .ref d2, .bl true, .ref t3, .ref t2]) ls = some (.lst [.non, .int 0, .str "put", .str "", .ref l3, .ref d2, .bl true, .ref t3, .ref t2]) := upd_same
    have s36 := (((s2.trans s3).trans s4).trans s5).trans s6
    generalize upd (upd (upd (upd (upd H3 l3 (.lst (r.map V.str))) d2 (.dK [])) t3 (.tup [.str "put", .str "look", .str "put"])) t2 (.tup [.str "again", .str "again"])) ls (.lst [.non, .int 0, .str "put", .str "", .ref l3, .ref d2, .bl true, .ref t3, .ref t2]) = H6 at hall fS s36
    have hs1' : spot < ((r.map V.str).length : Int) + 1 := hs1
    have hsp : spot.toNat ≤ (r.map V.str).length := by omega
    have esp : spot = ((spot.toNat : Nat) : Int) := by omega
    have clo : cutV (r.map V.str) none (some spot) = (r.take spot.toNat).map V.str := by rw [esp, cut_lo hsp, Int.toNat_natCast, List.map_take]
    have chi : cutV (r.map V.str) (some spot) none = (r.drop spot.toNat).map V.str := by rw [esp, cut_hi hsp, Int.toNat_natCast, List.map_drop]
    have lt_ : (r.take spot.toNat).length ≤ 6 := Nat.le_trans (List.length_take_le _ _) (by rw [List.length_map] at l6; exact Nat.le_trans (by rw [List.length_map] at hsp; exact hsp) l6)
    have ld_ : (r.drop spot.toNat).length ≤ 6 := by
      rw [List.length_drop]
      omega
    dsimp only [gName, tSeq]
    refine tIfS_via (fun σ' H' => ∃ fa xs, σ' = [some (.ref j), some (.ref va), some (.int spot), some odd, some (.ref fa)] ∧ Same H3 H' ∧ H' fa = some (.lst xs) ∧ xs ≠ [] ∧ xs.length ≤ 20 ∧ ∀ x ∈ xs, BadD K H' x) (fun key => ?_) ?_
    · refine ⟨_, rfl, Nat.zero_le _, fun t0 ht0 => ?_⟩
      have s7 := same_new (o := .tup []) ht0
      have s37 := s36.trans s7
      refine ⟨dRule r, dRule [], (s37.kt.rule h3v).dp, RuleAt.dp ⟨t0, rfl, SqT.of upd_same⟩, plain_rule _, plain_rule _, by rw [depth_rule]; decide, ?_⟩
      rw [eqv_rule]
      refine ⟨_, rfl, ?_⟩
      refine ite2 (fun c => ?_) (fun c => ?_)
      · have rne : r ≠ [] := by
          rw [Bool.not_eq_true', decide_eq_false_iff_not] at c
          exact c
        refine ⟨_, rfl, _, rfl, _, rfl, _, rfl, ?_⟩
        refine slA_of (sqT_same s37 h3a) fun p1 H7 hp1 s8 => ?_
        refine ⟨_, rfl, ?_⟩
        refine ⟨_, rfl, ?_⟩
        refine slA_of (sqT_same (s37.trans s8) h3a) fun p2 H8 hp2 s9 => ?_
        have c1 : cutV (r.map V.str) none (some 1) = (r.take 1).map V.str := by
          have : 1 ≤ (r.map V.str).length := by
            rw [List.length_map]
            exact List.length_pos_iff.mpr rne
          rw [show (some (1 : Int)) = some ((1 : Nat) : Int) from rfl, cut_lo this, List.map_take]
        rw [clo] at hp1
        rw [c1] at hp2
        refine catA_of (sqT_same s9 hp1) hp2 ?_ fun p3 H9 hp3 s10 => ?_
        · rw [List.length_map, List.length_map]
          have := List.length_take_le 1 r
          omega
        rw [← List.map_append] at hp3
        refine ⟨_, rfl, _, rfl, _, rfl, ?_⟩
        dsimp only [tNoPart]
        have s710 := (s8.trans s9).trans s10
        refine slA_of (sqT_same (s37.trans s710) h3a) fun p4 H10 hp4 s11 => ?_
        rw [chi] at hp4
        refine catA_of (sqT_same s11 hp3) hp4 ?_ fun p5 H11 hp5 s12 => ?_
        · rw [List.length_map, List.length_map, List.length_append]
          have := List.length_take_le 1 r
          omega
        rw [← List.map_append] at hp5
        refine ⟨by show 1 ≤ sizeLine; decide, fun lm hlm => ?_⟩
        have s13 := same_new (o := .lst [.ref p5]) hlm
        refine ⟨lm, 4, _, rfl, rfl, upd_same, by decide, by decide, by show 1 * 4 ≤ sizeLine; decide, fun lm4 hlm4 => ?_⟩
        have s14 := same_new (o := .lst (List.replicate (Int.toNat 4) [V.ref p5]).flatten) hlm4
        have sT := (((s710.trans s11).trans s12).trans s13).trans s14
        have s7T := s7.trans sT
        refine ⟨ls, lm4, _, _, rfl, rfl, s7T _ _ fS, upd_same, by show 13 ≤ sizeLine; decide, fun lf hlf => ?_⟩
        have s15 := same_new (o := .lst ([.non, .int 0, .str "put", .str "", .ref l3, .ref d2, .bl true, .ref t3, .ref t2] ++ (List.replicate (Int.toNat 4) [V.ref p5]).flatten)) hlf
        refine key _ _ ⟨lf, _, rfl, (s36.trans s7T).trans s15, upd_same, (by intro e; cases e), by show 13 ≤ 20; decide, fun x hx => ?_⟩
        rcases List.mem_append.mp hx with hx | hx
        · exact (hall x hx).same (s7T.trans s15)
        · have e : x = .ref p5 := by
            have : x ∈ [V.ref p5, .ref p5, .ref p5, .ref p5] := hx
            simpa using this
          rw [e]
          refine .dup (r := r.take spot.toNat ++ r.take 1 ++ r.drop spot.toNat) ⟨p5, rfl, sqT_same ((s13.trans s14).trans s15) hp5⟩ ?_ ?_
          · rw [List.length_append, List.length_append]
            have := List.length_take_le 1 r
            omega
          · intro nd
            cases r with
            | nil => exact rne rfl
            | cons y r' =>
              have m1 : y ∈ (y :: r').take spot.toNat ++ (y :: r').drop spot.toNat := by rw [List.take_append_drop]; exact List.mem_cons_self ..
              rw [List.nodup_append, List.nodup_append] at nd
              obtain ⟨⟨_, _, n1⟩, _, n2⟩ := nd
              rcases List.mem_append.mp m1 with m | m
              · exact n1 y m y (by simp) rfl
              · exact n2 y (List.mem_append_right _ (by simp)) y m rfl
      · exact key _ _ ⟨ls, _, rfl, s37, s7 _ _ fS, (by intro e; cases e), by show 9 ≤ 20; decide, fun x hx => (hall x hx).same s7⟩
    rintro σ6 H7 ⟨fa, xs, rfl, s7, hfa, xne, xl, xall⟩
    dsimp only [tSeq]
    have hodd7 := hodd.same s7
    refine ⟨_, rfl, _, rfl, _, rfl, _, rfl, ?_⟩
    refine slA_of (sqT_same s7 h3a) fun p1 H8 hp1 s8 => ?_
    refine ⟨_, rfl, by show 1 ≤ sizeLine; decide, fun to hto => ?_⟩
    have s9 := same_new (o := .tup [odd]) hto
    refine catA_of (sqT_same s9 hp1) (SqT.of upd_same) ?_ fun p2 H9 hp2 s10 => ?_
    · rw [clo, List.length_map]
      show _ + 1 ≤ 1000
      omega
    refine ⟨_, rfl, _, rfl, _, rfl, ?_⟩
    dsimp only [tNoPart]
    have s8_10 := (s8.trans s9).trans s10
    refine slA_of (sqT_same (s7.trans s8_10) h3a) fun p3 H10 hp3 s11 => ?_
    refine catA_of (sqT_same s11 hp2) hp3 ?_ fun p4 H11 hp4 s12 => ?_
    · rw [clo, chi, List.length_append, List.length_map, List.length_map]
      show _ + 1 + _ ≤ 1000
      omega
    rw [clo, chi] at hp4
    have sT := (s8_10.trans s11).trans s12
    have hmix : BadD K H11 (.ref p4) := by
      refine .mix hp4 ?_ (fun z hz => ?_) ⟨odd, by simp, hodd.2⟩
      · rw [List.length_append, List.length_append, List.length_map, List.length_map, List.length_singleton]
        omega
      · rcases List.mem_append.mp hz with hz | hz
        · rcases List.mem_append.mp hz with hz | hz
          · obtain ⟨t, _, rfl⟩ := List.mem_map.mp hz
            exact .inl (.str t)
          · rw [List.mem_singleton.mp hz]
            exact (hodd7.same sT).1
        · obtain ⟨t, _, rfl⟩ := List.mem_map.mp hz
          exact .inl (.str t)
    refine ⟨by show 1 ≤ sizeLine; decide, fun lm hlm => ?_⟩
    have s13 := same_new (o := .lst [.ref p4]) hlm
    refine ⟨lm, 6, _, rfl, rfl, upd_same, by decide, by decide, by show 1 * 6 ≤ sizeLine; decide, fun lm6 hlm6 => ?_⟩
    have s14 := same_new (o := .lst (List.replicate (Int.toNat 6) [V.ref p4]).flatten) hlm6
    have sE := (sT.trans s13).trans s14
    refine ⟨fa, lm6, _, _, rfl, rfl, sE _ _ hfa, upd_same, Nat.le_of_lt (small1000 (show xs.length + 6 ≤ 1000 by omega)), fun lf hlf => ?_⟩
    have s15 := same_new (o := .lst (xs ++ (List.replicate (Int.toNat 6) [V.ref p4]).flatten)) hlf
    have s3F := (s7.trans sE).trans s15
    have nlf : lf ≠ j := J3.ne ((s7.trans sE).free hlf)
    have ll : (xs ++ (List.replicate (Int.toNat 6) [V.ref p4]).flatten).length = xs.length + 6 := by rw [List.length_append]; rfl
    have allF : ∀ x ∈ (xs ++ (List.replicate (Int.toNat 6) [V.ref p4]).flatten : List V), BadD K _ x := fun x hx => by
      rcases List.mem_append.mp hx with hx | hx
      · exact (xall x hx).same (sE.trans s15)
      · have e : x = .ref p4 := by
          have : x ∈ [V.ref p4, .ref p4, .ref p4, .ref p4, .ref p4, .ref p4] := hx
          simpa using this
        rw [e]
        exact hmix.same ((s13.trans s14).trans s15)
    have J4 := J3.same s3F
    refine ⟨_, rfl, _, rfl, _, rfl, lf, _, rfl, .inl (SqL.of upd_same), ?_⟩
    refine ⟨j, _, _, rfl, J4, by omega, Int.lt_of_le_of_lt (show _ ≤ (30 : Int) by omega) (by decide), by omega, fun z5 H12 hz50 hz51 J5 k5 => ?_⟩
    obtain ⟨x, hx⟩ : ∃ x, (xs ++ (List.replicate (Int.toNat 6) [V.ref p4]).flatten : List V)[z5.toNat]? = some x := ⟨_, List.getElem?_eq_getElem (show z5.toNat < _ by omega)⟩
    refine ⟨lf, _, z5, x, rfl, rfl, SqL.of (k5 _ _ nlf upd_same), at_of (j := z5.toNat) (by omega) hx, ?_⟩
    exact q x H12 ((allF x (List.mem_of_getElem? hx)).kp J4 k5) (J5.mono (by omega)) ((k13.trans (s3F.kp j)).trans k5)
end
end Sh

namespace Sh
open PySem L2
section
variable {P : Program} {w : World} {K : PySem.W.Frag} {mg : Str → Option Value} {base : Heap} {aA aD : Addr}
def fullOf (zs : List Str) (p : Str × List Str) : Option Str := if p.1 ∈ zs ∧ p.2.length = 6 then some p.1 else none
def fulls (rs : List (List Str)) (zs : List Str) : List Str := (doors.zip rs).filterMap (fullOf zs)
theorem first_of {α β : Type} {f : α → Option β} {z : β} {r : List β} : ∀ {l : List α}, l.filterMap f = z :: r → ∃ (i : Nat) (x : α), l[i]? = some x ∧ f x = some z ∧ ∀ (j : Nat) (y : α), j < i → l[j]? = some y → f y = none
  | [], h => by cases h
  | x :: l, h => by
    cases e : f x with
    | some y =>
      rw [List.filterMap_cons_some e] at h
      cases h
      exact ⟨0, x, rfl, e, fun j y lt => absurd lt (Nat.not_lt_zero _)⟩
    | none =>
      rw [List.filterMap_cons_none e] at h
      obtain ⟨i, x', h1, h2, h3⟩ := first_of h
      refine ⟨i + 1, x', h1, h2, fun j y lt hy => ?_⟩
      cases j with
      | zero =>
        cases hy
        exact e
      | succ j => exact h3 j y (Nat.lt_of_succ_lt_succ lt) hy
theorem none_of {α β : Type} {f : α → Option β} : ∀ {l : List α}, l.filterMap f = [] → ∀ x ∈ l, f x = none
  | [], _, x, hx => by cases hx
  | y :: l, h, x, hx => by
    cases e : f y with
    | some z =>
      rw [List.filterMap_cons_some e] at h
      cases h
    | none =>
      rw [List.filterMap_cons_none e] at h
      rcases List.mem_cons.mp hx with rfl | hx
      · exact e
      · exact none_of h x hx
theorem zip_at {rs : List (List Str)} {i : Nat} {z : Str} {r : List Str} : (doors.zip rs)[i]? = some (z, r) ↔ doors[i]? = some z ∧ rs[i]? = some r := by
  rw [List.getElem?_zip_eq_some]
/-! ### a method by keyword, within a try -/
def tMethNT (C : Addr) (m : Str) (n : Nat) (sp : Sp) (gV : List V → List V → List V) (E : L2.St → XK) (ta : TE) (tk : TA) : TE := fun σ H Q => ta σ H fun x H1 => ∃ a dx fs, x = .ref a ∧ H1 a = some (.ins C dx fs) ∧ fs.lookup m = none ∧
  tk σ H1 fun zs H2 => zs.length = n ∧ sp (gV [x] zs) H2 Q (E σ)
section
variable {X : Cx} {CX : CXT} {k : Nat} {f C : Addr} {fd : FuncData} {ps ks : List Str} {sp : Sp} {m : Str} {apos pos : Pos} {o : Expr} {kws : List Keyword} {ta : TE} {tk : TA} {g : List Value → List Value → List Value} {gV : List V → List V → List V}
theorem pe_methTK {E : L2.St → XK} {pl : Sem Bool} (he : PE X o ta) (c : Cls X.K C) (hm : Meth X.K C m f) (F : FnOk X.prog X.w X.K X.mg X.base CX k f fd ps sp) (hr : Room k X.A) (hb : KBn X.K fd ps 1 ks g gV) (hx : ∀ σ, PassesAt CX X σ (E σ)) (hkw : PK X kws tk)
    (hall : (backToKw pos (keywordEach kws X.env)).all (·.1.isSome) = true := by rfl) (hks : (backToKw pos (keywordEach kws X.env)).filterMap (·.1) = ks := by rfl)
    (hpl : ((backTo pos (starEach [] X.env)).any (·.1) || (backToKw pos (keywordEach kws X.env)).any (·.1.isNone)) = false := by rfl)
    (ht : eval (.Call (.Attribute o m apos) [] kws pos) X.env = (do
      let ov ← eval o X.env
      standAt apos.atName
      let (f, first) ← holding [ov] (getMethod ov m pl)
      callWith pos f first (backTo pos (starEach [] X.env)) (backToKw pos (keywordEach kws X.env))) := by rfl) :
    PE X (.Call (.Attribute o m apos) [] kws pos) (tMethNT C m ks.length sp gV E ta tk) := by
  refine ⟨fun pins s σ H Q I h => ?_⟩
  refine PySem.W.methodCall_KW (pl := pl) (thn (he.run pins s σ H _ I h) fun u s1 ⟨x, H1, I1, rx, a, dx, fs, ex, ea, l, q⟩ => ?_) ht
  subst ex
  obtain rfl : u = Value.ref a := rx
  refine getmeth_ok I1 ea c hm l ?_
  refine PySem.W.callWith_KW0 (h₀ := X.base) (first := [.ref a]) I.ok.mod.kin hm.kp hall ?_ hpl
  refine thn (hkw.run pos pins s1 σ H1 _ I1 q) fun ws s2 ⟨zs, H2, I2, rz, l2, q2⟩ => ⟨I2.kIn, ?_⟩
  rw [hks]
  have r0 : Vals [V.ref a] [Value.ref a] := .cons rfl .nil
  have run2 := F.run X.A X.stack s2 H2 ⟨[Value.ref a], ks.zip ws⟩ (g [Value.ref a] ws) (gV [V.ref a] zs) Q (E σ) hr I2.env0 (hb.to s2 [Value.ref a] ws I2.kIn rfl (rz.length.symm.trans l2)) (hb.rel r0 rz) q2
  refine wpAny_call (codeAny_mono run2 fun res s3 hq => ?_)
  match res, hq with
  | .error er, hq => exact hx σ pins H2 s2 er s3 I2 hq
  | .ok (.ret u), hq => exact I2.after hq
  | .ok .next, hq => exact False.elim hq
  | .ok .brk, hq => exact False.elim hq
  | .ok .cont, hq => exact False.elim hq
end
end
end Sh

namespace Sh
open PySem L2
section
variable {P : Program} {w : World} {K : PySem.W.Frag} {mg : Str → Option Value} {base : Heap} {aA aD : Addr}
/-! ### what comes of a deed -/
inductive Out where
  | made (rs : List (List Str))
  | err (nm : Str) (v : V)
  | none_
def OutAt (K : PySem.W.Frag) (H : Hp) (t : Addr) : Out → Prop
  | .made rs => ∃ v, H t = some (.tup [.str "made", v]) ∧ SixAt K H v rs
  | .err nm v => H t = some (.tup [.str nm, v, .bl true])
  | .none_ => H t = some (.tup [.str "NoDoors", .bl true])
def outAsk (rs : List (List Str)) (zs : List Str) : Out := match fulls rs zs with
  | [] => .made (askedAll zs rs)
  | z :: _ => .err "NoRule" (.str z)
inductive Due (K : PySem.W.Frag) (H : Hp) (rs : List (List Str)) : Str → V → V → Out → Prop
  | w1 {v u : V} {c : Bool} {r : List Str} (a : NoDr K H v) (h : RuleCl K H u c) (hc : c = true → RuleAt K H u r ∧ IsRule r) : Due K H rs "with" v u (.err "NoDoor" v)
  | w2 {i : Nat} {z : Str} {u : V} (hz : doors[i]? = some z) (h : RuleCl K H u false) : Due K H rs "with" (.str z) u (.err "NoRule" (.str z))
  | r1 {dd : Str} {v u : V} (hd : dd = "rule" ∨ dd = "by name") (a : NoDr K H v) : Due K H rs dd v u (.err "NoDoor" v)
  | r2 {dd : Str} {i : Nat} {z : Str} {r : List Str} {u : V} (hd : dd = "rule" ∨ dd = "by name") (hz : doors[i]? = some z) (hr : rs[i]? = some r) : Due K H rs dd (.str z) u (.made [r, [], [], [], [], []])
  | a1 {a : Addr} {zs : List Str} {u : V} (h : SqT K H a (zs.map V.str)) (l : zs.length ≤ 1000) (sub : ∀ z ∈ zs, z ∈ doors) (nd : zs.Nodup) : Due K H rs "ask" (.ref a) u (outAsk rs zs)
  | a2 {v u : V} (h : DoorsCl K H v false) : Due K H rs "ask" v u .none_
def spCome (K : PySem.W.Frag) (C : Addr) : Sp := fun vs H Q _ => ∃ (p : Addr) (dd : Str) (v u : V) (rs : List (List Str)) (o : Out), vs = [.ref p, .str dd, v, u] ∧ BookAt K C H p rs ∧ (∀ r ∈ rs, IsRule r) ∧ Due K H rs dd v u o ∧
  ∀ t H', OutAt K H' t o → Same H H' → Q (.ref t) H'
theorem doorsCl_same {H H' : Hp} (s : Same H H') {v : V} {b : Bool} (h : DoorsCl K H v b) : DoorsCl K H' v b := by
  cases h with
  | tup h few p => exact .tup (sqT_same s h) few (pair_map (fun _ _ q => among_same s q) p)
  | other ty no => exact .other (s.tyX ty) no
theorem Due.same {H H' : Hp} (s : Same H H') {rs : List (List Str)} {dd : Str} {v u : V} {o : Out} (h : Due K H rs dd v u o) : Due K H' rs dd v u o := by
  cases h with
  | w1 a h hc => exact .w1 (a.same s) (ruleCl_same s h) fun e => ⟨s.kt.rule (hc e).1, (hc e).2⟩
  | w2 hz h => exact .w2 hz (ruleCl_same s h)
  | r1 hd a => exact .r1 hd (a.same s)
  | r2 hd hz hr => exact .r2 hd hz hr
  | a1 h l sub nd => exact .a1 (sqT_same s h) l sub nd
  | a2 h => exact .a2 (doorsCl_same s h)
structure ErTxt (K : PySem.W.Frag) (mg : Str → Option Value) (CS CD CR CN : Addr) : Prop where
  gs : mg "ShownError" = some (.ref CS)
  gn : mg "NoDoors" = some (.ref CN)
  dd : PySem.W.exmOne K (.ref CD) (.ref CD) = some true
  rd : PySem.W.exmOne K (.ref CR) (.ref CD) = some false
  rr : PySem.W.exmOne K (.ref CR) (.ref CR) = some true
  nd : PySem.W.exmOne K (.ref CN) (.ref CD) = some false
  nr : PySem.W.exmOne K (.ref CN) (.ref CR) = some false
  nn : PySem.W.exmOne K (.ref CN) (.ref CN) = some true
  xd : XfC K CD
  xr : XfC K CR
  cd : ExcC K CD
  cr : ExcC K CR
  cn : ExcC K CN
  kd : PySem.W.kitOne K (.ref CD) (.ref CS) = some true
  kr : PySem.W.kitOne K (.ref CR) (.ref CS) = some true
  kn : PySem.W.kitOne K (.ref CN) (.ref CS) = some true
def tIsX (K : PySem.W.Frag) (i : Nat) (D a : Addr) (cls : Value) (d : Option Addr) (c : V) : TE := fun σ H Q => cls = .ref D ∧ tCB (rIsX K D a d) (tCons (tVar i) (tCons (tC c) tNil)) σ H Q
theorem pe_isx {X : Cx} {i : Nat} {a D : Addr} {cls : Value} {d : Option Addr} {oe : Obj} {pn : List (Addr × Obj)} {es : List Expr} {e : Expr} {x : Str} {p pos : Pos} {c : V} (C : ExcC X.K D) (hz : Zc cls d oe) (hf : ∃ vs, oe.data = .fields vs)
    (h : CallR (X.suite a ((a, oe) :: pn)) (.builtin "isinstance") (rIsX X.K D a d) → PE (X.suite a ((a, oe) :: pn)) (.Call (.Name x p) (e :: es) [] pos) (tCB (rIsX X.K D a d) (tCons (tVar i) (tCons (tC c) tNil)))) :
    PE (X.suite a ((a, oe) :: pn)) (.Call (.Name x p) (e :: es) [] pos) (tIsX X.K i D a cls d c) := by
  refine ⟨fun pins s σ H Q I q => ?_⟩
  obtain ⟨rfl, q⟩ := q
  exact (h (call_isX C hz hf)).run pins s σ H Q I q
abbrev s_come : Stmt := top 22
abbrev nCome : List Str := ["work", "deed", "thing", "fresh", "found", "told", "e"]
theorem sc_come : FnScope nCome ["work", "deed", "thing", "fresh"] (defScope s_come) := ⟨rfl, rfl, rfl, by decide +kernel, rfl, by decide +kernel, by decide +kernel⟩
def tbCome (K : PySem.W.Frag) (C CD CR CN : Addr) (ds : List V) : WX → TS := fun W =>
  tIfS (tTest (tOp rEq (tVar 1) (tC (.str "with")))) (tAsg (tMethT C "with_rule" (spWith K C CD CR) (WE W) (tVar 0) (tCons (tVar 2) (tCons (tVar 3) tNil))) (gName 5))
  (tIfS (tTest (tOp rEq (tVar 1) (tC (.str "rule")))) (tAsg (tMakeT C 1 0 (spBInit K C CR) (fun vs _ => vs ++ ds) (WE W) (tCons (tMethT C "rule" (spBRule K C CD) (WE W) (tVar 0) (tCons (tVar 2) tNil)) tNil) tNil) (gName 5))
  (tIfS (tTest (tOp rEq (tVar 1) (tC (.str "by name")))) (tAsg (tMakeT C 1 0 (spBInit K C CR) (fun vs _ => vs ++ ds) (WE W) (tCons (tMethNT C "rule" ["door"].length (spBRule K C CD) (fun us ws => pick [0, 1] (us ++ ws)) (WE W) (tVar 0) (tCons (tVar 2) tNil)) tNil) tNil) (gName 5))
  (tAsg (tMethT C "asking" (spAsk K C CN CR) (WE W) (tVar 0) (tCons (tVar 2) tNil)) (gName 5))))
def suX (K : PySem.W.Frag) (nm : Str) (C CS : Addr) : Suite := fun a cls d => tAsg (tTup (tCons (tC (.str nm)) (tCons (tXf a cls d C "door" (tVar 6)) (tCons (tIsX K 6 C a cls d (.ref CS)) tNil)))) (gName 4)
def suN (K : PySem.W.Frag) (C CS : Addr) : Suite := fun a cls d => tAsg (tTup (tCons (tC (.str "NoDoors")) (tCons (tIsX K 6 C a cls d (.ref CS)) tNil))) (gName 4)
theorem ok_come {f C CS CD CR CN fW fA fR fI fED fER fB : Addr} {fd fdW fdA fdR fdI fdB : FuncData} {d0 d1 d2 d3 d4 d5 : V} {ds1 : List Value} (F : Fun K "_law_come" "_law_come" s_come f fd) (B : TxtB mg) (TB : TxtBook K mg C)
    (GW : FnOk P w K mg base (L2.CX P w) 6 fW fdW ["self", "door", "rule"] (spWith K C CD CR)) (mW : Meth K C "with_rule" fW) (bW : Binds K fdW ["self", "door", "rule"] [])
    (GA : FnOk P w K mg base (L2.CX P w) 6 fA fdA ["self", "doors"] (spAsk K C CN CR)) (mA : Meth K C "asking" fA) (bA : Binds K fdA ["self", "doors"] [])
    (GR : FnOk P w K mg base (L2.CX P w) 3 fR fdR ["self", "door"] (spBRule K C CD)) (mR : Meth K C "rule" fR) (bR : Binds K fdR ["self", "door"] []) (kbR : KBn K fdR ["self", "door"] 1 ["door"] (fun us ws => pick [0, 1] (us ++ ws)) (fun us ws => pick [0, 1] (us ++ ws)))
    (M : MkB P w K mg base C CR fI fdI d0 d1 d2 d3 d4 d5) (v1 : Vals [d1, d2, d3, d4, d5] ds1) (b1 : Binds K fdI pI ds1)
    (mB : Meth K C "rules" fB) (bB : Binds K fdB ["self"] []) (GB : FnOk P w K mg base CX0 1 fB fdB ["self"] (spBRules K C))
    (TD : ErrTxt K mg "NoDoor" "door" CD fED) (TR : ErrTxt K mg "NoRule" "door" CR fER) (X : ErTxt K mg CS CD CR CN) : FnOk P w K mg base CX0 7 f fd ["work", "deed", "thing", "fresh"] (spCome K C) := by
  refine F.ok sc_come (fun vs H Q E h => ?_) (fun cdv A outer s H vs Q E hr h => ?_)
  · obtain ⟨p, dd, v, u, rs, o, rfl, _⟩ := h
    rfl
  · obtain ⟨p, dd, v, u, rs, o, rfl, hb, hrs, hdue, q⟩ := h
    have r1 : Room 1 _ := hr.mono (by decide)
    have r3 : Room 3 _ := hr.mono (by decide)
    have r5 : Room 5 _ := hr.mono (by decide)
    refine ⟨_, (pss_cons (ps_asg (pe_tup (pa_cons (pe_tup (pa_cons pe_str pa_nil)) (pa_cons pe_non pa_nil))) (pg_tup (by rfl) (pgs_cons (pg_name (i := 4) sc_come.nd rfl (Or.inl rfl)) (pgs_cons (pg_name (i := 5) sc_come.nd rfl (Or.inl rfl)) pgs_nil))))
  (pss_cons (ps_try_all (i := 6) (tb := tbCome K C CD CR CN [d1, d2, d3, d4, d5]) (W0 := fun _ _ _ _ => False) (l := [(.ref CD, suX K "NoDoor" CD CS), (.ref CR, suX K "NoRule" CR CS), (.ref CN, suN K CN CS)]) rfl rfl sc_come.nd rfl rfl takes0
      (fun W pn xe tk _ => pss_one (ps_if (pt_cmpR op_eq (pv 1) pe_str (nomark _)) (pss_one (ps_set (i := 5) sc_come.nd rfl (Or.inl rfl) (by exact (pe_methT (pv 0) TB.cl mW GW hr bW (fun σ => passAt tk σ) (by exact (pa_cons (pv 2) (pa_cons (pv 3) pa_nil)))))))
        (pss_one (ps_if (pt_cmpR op_eq (pv 1) pe_str (nomark _)) (pss_one (ps_set (i := 5) sc_come.nd rfl (Or.inl rfl) (by exact (pe_makeT M.mkb M.ok r5 (by rfl) TB.g (kbn_pos b1 v1 (by rw [← v1.length]; rfl)) (fun σ => passAt tk σ) (by exact (pa_cons (pe_methT (pv 0) TB.cl mR GR r3 bR (fun σ => passAt tk σ) (by exact (pa_cons (pv 2) pa_nil))) pa_nil))))))
        (pss_one (ps_if (pt_cmpR op_eq (pv 1) pe_str (nomark _)) (pss_one (ps_set (i := 5) sc_come.nd rfl (Or.inl rfl) (by exact (pe_makeT M.mkb M.ok r5 (by rfl) TB.g (kbn_pos b1 v1 (by rw [← v1.length]; rfl)) (fun σ => passAt tk σ) (by exact (pa_cons (pe_methTK (pv 0) TB.cl mR GR r3 kbR (fun σ => passAt tk σ) (by exact (pk_cons (pv 2) pk_nil))) pa_nil))))))
        (pss_one (ps_set (i := 5) sc_come.nd rfl (Or.inl rfl) (by exact (pe_methT (pv 0) TB.cl mA GA hr bA (fun σ => passAt tk σ) (by exact (pa_cons (pv 2) pa_nil))))))))))))
      (.cons ⟨rfl, by decide, .inl TD.g⟩ (fun a oe cls d pn hz hf => pss_one (ps_set (i := 4) sc_come.nd rfl (Or.inl rfl) (by exact (pe_tup (pa_cons pe_str (pa_cons (pe_xf X.xd TD.no hz hf (pv 6)) (pa_cons (pe_isx X.cd hz hf fun hc => pe_callB hc (by rfl) B.b_isinstance (by decide +kernel) (pa_cons (pv 6) (pa_cons (pe_glob (v := .ref CS) (by rfl) X.gs rfl) pa_nil))) pa_nil)))))))
        (.cons ⟨rfl, by decide, .inl TR.g⟩ (fun a oe cls d pn hz hf => pss_one (ps_set (i := 4) sc_come.nd rfl (Or.inl rfl) (by exact (pe_tup (pa_cons pe_str (pa_cons (pe_xf X.xr TR.no hz hf (pv 6)) (pa_cons (pe_isx X.cr hz hf fun hc => pe_callB hc (by rfl) B.b_isinstance (by decide +kernel) (pa_cons (pv 6) (pa_cons (pe_glob (v := .ref CS) (by rfl) X.gs rfl) pa_nil))) pa_nil)))))))
        (.cons ⟨rfl, by decide, .inl X.gn⟩ (fun a oe cls d pn hz hf => pss_one (ps_set (i := 4) sc_come.nd rfl (Or.inl rfl) (by exact (pe_tup (pa_cons pe_str (pa_cons (pe_isx X.cn hz hf fun hc => pe_callB hc (by rfl) B.b_isinstance (by decide +kernel) (pa_cons (pv 6) (pa_cons (pe_glob (v := .ref CS) (by rfl) X.gs rfl) pa_nil))) pa_nil)))))) .nil))))
  (pss_one (ps_ret (pe_ifExp (pt_cmpR op_notN (pv 5) pe_non (nomark _)) (pe_tup (pa_cons pe_str (pa_cons (pe_meth0 (pv 5) TB.cl mB GB r1 bB .nil pass0) pa_nil))) (pv 4)))))), ?_⟩
    refine ⟨by show 1 ≤ sizeLine; decide, fun f0 hf0 => ?_⟩
    refine ⟨by show 2 ≤ sizeLine; decide, fun t0 ht0 => ?_⟩
    have s0 := (same_new (o := .tup [.str "none"]) hf0).trans (same_new (o := .tup [.ref f0, .non]) ht0)
    refine ⟨t0, _, rfl, SqT.of upd_same, rfl, ?_⟩
    refine ⟨_, _, rfl, _, _, rfl, rfl, ?_⟩
    dsimp only [tSeq]
    have hb0 := s0.kt.book hb
    have hd0 := hdue.same s0
    generalize upd (upd H f0 (.tup [.str "none"])) t0 (.tup [.ref f0, .non]) = H0 at s0 hb0 hd0
    obtain ⟨dx, l, hp, _, e6⟩ := id hb0
    have made : ∀ (x : Addr) (v0 v1 v2 v3 v4 v6 : Option V) (rs' : List (List Str)) (H1 : Hp) (D : Ends), o = .made rs' → BookAt K C H1 x rs' → Same H0 H1 → (∀ t H', OutAt K H' t o → Same H H' → D.rt (.ref t) H') →
        tRet (tIf (tTest (tOp (fun x y H Q => y = V.non ∧ Q (.bl (!decide (x = .non))) H) (tVar 5) (tC .non))) (tTup (tCons (tC (.str "made")) (tCons (tMeth C "rules" (spBRules K C) [] E0 (tVar 5) tNil) tNil))) (tVar 4)) D [v0, v1, v2, v3, v4, some (.ref x), v6] H1 := fun x v0 v1 v2 v3 v4 v6 rs' H1 D eo hbk s1 qq => by
      obtain ⟨dx, l, hp, _, _⟩ := id hbk
      refine ⟨_, rfl, rfl, _, rfl, ?_⟩
      refine ite2 (fun _ => ?_) (fun c => absurd rfl c)
      refine ⟨_, rfl, x, dx, _, rfl, hp, rfl, x, rs', rfl, hbk, fun v hv => ?_⟩
      refine ⟨by show 2 ≤ sizeLine; decide, fun t ht => ?_⟩
      refine qq t _ ?_ ((s0.trans s1).trans (same_new ht))
      rw [eo]
      exact ⟨v, upd_same, (same_new ht).kt.six hv⟩
    have ne_ : ∀ {x y : Str}, x ≠ y → ¬ decide (V.str x = V.str y) = true := fun h e => h (V.str.inj (of_decide_eq_true e))
    have told : ∀ (g : Addr) (v0 v1 v2 v3 v6 : Option V) (H1 : Hp) (D : Ends), D.rt (.ref g) H1 →
        tRet (tIf (tTest (tOp (fun x y H Q => y = V.non ∧ Q (.bl (!decide (x = .non))) H) (tVar 5) (tC .non))) (tTup (tCons (tC (.str "made")) (tCons (tMeth C "rules" (spBRules K C) [] E0 (tVar 5) tNil) tNil))) (tVar 4)) D [v0, v1, v2, v3, some (.ref g), some .non, v6] H1 := fun g v0 v1 v2 v3 v6 H1 D qq => by
      refine ⟨_, rfl, rfl, _, rfl, ?_⟩
      refine ite2 (fun c => by cases c) (fun _ => ?_)
      exact ⟨_, rfl, qq⟩
    have noDoor : ∀ (v0 v1 v2 v3 : Option V) (x : V) (d : Addr) (H1 : Hp), o = .err "NoDoor" x → H1 d = some (.xd [("door", x)]) → Same H0 H1 →
        wAll K 6 (fun _ _ _ _ => False) { nx := tRet (tIf (tTest (tOp (fun x y H Q => y = V.non ∧ Q (.bl (!decide (x = .non))) H) (tVar 5) (tC .non))) (tTup (tCons (tC (.str "made")) (tCons (tMeth C "rules" (spBRules K C) [] E0 (tVar 5) tNil) tNil))) (tVar 4)) { nx := fun x H' => Q V.non H', rt := Q }, rt := Q } [(.ref CD, suX K "NoDoor" CD CS), (.ref CR, suX K "NoRule" CR CS), (.ref CN, suN K CN CS)] (.ref CD) (some d) [v0, v1, v2, v3, some (.ref f0), some .non, none] H1 := fun v0 v1 v2 v3 x d H1 eo hd s1 => by
      refine ⟨true, X.dd, fun _ e he => ?_, fun e => by cases e⟩
      refine ⟨_, rfl, rfl, rfl, d, _, x, rfl, hd, rfl, ?_⟩
      refine ⟨rfl, _, rfl, _, _, true, rfl, (fun u r => r), ⟨_, hd⟩, X.kd, ?_⟩
      refine ⟨by show 3 ≤ sizeLine; decide, fun g hg => ?_⟩
      refine told g _ _ _ _ _ _ _ (q g _ ?_ ((s0.trans s1).trans (same_new hg)))
      rw [eo]
      exact upd_same
    have noRule : ∀ (v0 v1 v2 v3 : Option V) (x : V) (d : Addr) (H1 : Hp), o = .err "NoRule" x → H1 d = some (.xd [("door", x)]) → Same H0 H1 →
        wAll K 6 (fun _ _ _ _ => False) { nx := tRet (tIf (tTest (tOp (fun x y H Q => y = V.non ∧ Q (.bl (!decide (x = .non))) H) (tVar 5) (tC .non))) (tTup (tCons (tC (.str "made")) (tCons (tMeth C "rules" (spBRules K C) [] E0 (tVar 5) tNil) tNil))) (tVar 4)) { nx := fun x H' => Q V.non H', rt := Q }, rt := Q } [(.ref CD, suX K "NoDoor" CD CS), (.ref CR, suX K "NoRule" CR CS), (.ref CN, suN K CN CS)] (.ref CR) (some d) [v0, v1, v2, v3, some (.ref f0), some .non, none] H1 := fun v0 v1 v2 v3 x d H1 eo hd s1 => by
      refine ⟨false, X.rd, (fun e => by cases e), fun _ => ⟨true, X.rr, fun _ e he => ?_, fun e => by cases e⟩⟩
      refine ⟨_, rfl, rfl, rfl, d, _, x, rfl, hd, rfl, ?_⟩
      refine ⟨rfl, _, rfl, _, _, true, rfl, (fun u r => r), ⟨_, hd⟩, X.kr, ?_⟩
      refine ⟨by show 3 ≤ sizeLine; decide, fun g hg => ?_⟩
      refine told g _ _ _ _ _ _ _ (q g _ ?_ ((s0.trans s1).trans (same_new hg)))
      rw [eo]
      exact upd_same
    cases hd0 with
    | @w1 _ _ c r a h hc =>
      refine ⟨_, rfl, rfl, _, rfl, ?_⟩
      refine ite2 (fun _ => ?_) (fun c => absurd (decide_eq_true rfl) c)
      refine ⟨_, rfl, p, dx, _, rfl, hp, rfl, _, rfl, _, rfl, p, v, u, false, c, r, rs, rfl, hb0, hrs, a.among, h, hc, fun en d H' hx s1 hn => ?_, fun i z' ez hz => ?_, fun i z' ez hz => ?_⟩
      · exact noDoor _ _ _ _ v d H' rfl hx s1
      · exact absurd (List.mem_of_getElem? hz) (a.2 z' ez)
      · exact absurd (List.mem_of_getElem? hz) (a.2 z' ez)
    | @w2 i z u' hz h =>
      refine ⟨_, rfl, rfl, _, rfl, ?_⟩
      refine ite2 (fun _ => ?_) (fun c => absurd (decide_eq_true rfl) c)
      refine ⟨_, rfl, p, dx, _, rfl, hp, rfl, _, rfl, _, rfl, p, .str z, u, _, false, [], rs, rfl, hb0, hrs, .str z, h, (fun e => by cases e), fun en => ?_, fun i' z' ez hz' _ d H' hx s1 hn => ?_, fun i z' ez hz e => by cases e⟩
      · rw [decide_eq_true (List.mem_of_getElem? hz)] at en
        cases en
      · cases ez
        exact noRule _ _ _ _ _ d H' rfl hx s1
    | @r1 _ _ _ hd a =>
      have n1 : dd ≠ "with" := by rcases hd with rfl | rfl <;> decide
      refine ⟨_, rfl, rfl, _, rfl, ?_⟩
      refine ite2 (fun c => absurd c (ne_ n1)) (fun _ => ?_)
      refine ⟨_, rfl, rfl, _, rfl, ?_⟩
      refine ite2 (fun _ => ?_) (fun c => ?_)
      · refine ⟨_, rfl, p, dx, _, rfl, hp, rfl, _, rfl, p, v, false, rs, rfl, hb0, a.among, fun i z' u' r ez hz => ?_, fun _ d H' hx s1 hn => ?_⟩
        · exact absurd (List.mem_of_getElem? hz) (a.2 z' ez)
        · exact noDoor _ _ _ _ v d H' rfl hx s1
      · have n2 : dd = "by name" := by
          rcases hd with rfl | rfl
          · exact absurd (decide_eq_true rfl) c
          · rfl
        subst n2
        refine ⟨_, rfl, rfl, _, rfl, ?_⟩
        refine ite2 (fun _ => ?_) (fun c => absurd (decide_eq_true rfl) c)
        refine ⟨_, rfl, p, dx, _, rfl, hp, rfl, _, rfl, rfl, p, v, false, rs, rfl, hb0, a.among, fun i z' u' r ez hz => ?_, fun _ d H' hx s1 hn => ?_⟩
        · exact absurd (List.mem_of_getElem? hz) (a.2 z' ez)
        · exact noDoor _ _ _ _ v d H' rfl hx s1
    | @r2 _ i z r _ hd hz hr' =>
      have n1 : dd ≠ "with" := by rcases hd with rfl | rfl <;> decide
      have am : Among K H0 doors (.str z) (decide (z ∈ doors)) := .str z
      have no : decide (z ∈ doors) = false → False := fun e => by
        rw [decide_eq_true (List.mem_of_getElem? hz)] at e
        cases e
      have rr := hrs r (List.mem_of_getElem? hr')
      have book : ∀ (y : V), RuleAt K H0 y r → ∀ (x dxx : Addr) {R : VK} {E' : XK}, H0 x = none → H0 dxx = none → (∀ H', BookAt K C H' x [r, [], [], [], [], []] → Same H0 H' → R .non H') →
          spBInit K C CR (.ref x :: [y, d1, d2, d3, d4, d5]) (upd (upd H0 dxx (.own x)) x (.ins C dxx [])) R E' := fun y hy x dxx R E' hx hdx k => by
        have pr : Paired (RuleAt K H0) [y, d1, d2, d3, d4, d5] [r, [], [], [], [], []] := by
          have dv := M.dv H0
          cases dv with | cons c0 e0 => exact .cons hy e0
        refine book_new hx hdx pr (fun t ht => ?_) rfl k
        simp only [List.mem_cons, List.not_mem_nil, or_false] at ht
        rcases ht with rfl | rfl | rfl | rfl | rfl | rfl <;> first | exact rr | exact isRule_nil
      refine ⟨_, rfl, rfl, _, rfl, ?_⟩
      refine ite2 (fun c => absurd c (ne_ n1)) (fun _ => ?_)
      refine ⟨_, rfl, rfl, _, rfl, ?_⟩
      refine ite2 (fun _ => ?_) (fun c => ?_)
      · refine ⟨_, rfl, p, dx, _, rfl, hp, rfl, _, rfl, p, .str z, _, rs, rfl, hb0, am, fun i' z' u' r' ez hz' hr2 ru => ?_, fun en => (no en).elim⟩
        cases ez
        have := doors_nd hz' hz
        subst this
        rw [hr'] at hr2
        cases hr2
        refine ⟨rfl, rfl, fun x dxx hx hdx ne => ?_⟩
        exact book u' ru x dxx hx hdx fun H' hbk s1 => ⟨rfl, made x _ _ _ _ _ _ _ H' _ rfl hbk s1 q⟩
      · have n2 : dd = "by name" := by
          rcases hd with rfl | rfl
          · exact absurd (decide_eq_true rfl) c
          · rfl
        subst n2
        refine ⟨_, rfl, rfl, _, rfl, ?_⟩
        refine ite2 (fun _ => ?_) (fun c => absurd (decide_eq_true rfl) c)
        refine ⟨_, rfl, p, dx, _, rfl, hp, rfl, _, rfl, rfl, p, .str z, _, rs, rfl, hb0, am, fun i' z' u' r' ez hz' hr2 ru => ?_, fun en => (no en).elim⟩
        cases ez
        have := doors_nd hz' hz
        subst this
        rw [hr'] at hr2
        cases hr2
        refine ⟨rfl, rfl, fun x dxx hx hdx ne => ?_⟩
        exact book u' ru x dxx hx hdx fun H' hbk s1 => ⟨rfl, made x _ _ _ _ _ _ _ H' _ rfl hbk s1 q⟩
    | @a1 a zs _ hz few hsub nd =>
      refine ⟨_, rfl, rfl, _, rfl, ?_⟩
      refine ite2 (fun c => absurd c (ne_ (by decide))) (fun _ => ?_)
      refine ⟨_, rfl, rfl, _, rfl, ?_⟩
      refine ite2 (fun c => absurd c (ne_ (by decide))) (fun _ => ?_)
      refine ⟨_, rfl, rfl, _, rfl, ?_⟩
      refine ite2 (fun c => absurd c (ne_ (by decide))) (fun _ => ?_)
      have cl : DoorsCl K H0 (.ref a) _ := .tup hz (by rw [List.length_map]; exact few) (among_strs doors zs)
      have ct : ((zs.map fun z => decide (z ∈ doors)).all id && decide (zs.map V.str).Nodup) = true := by
        rw [Bool.and_eq_true, List.all_eq_true]
        refine ⟨fun b hb => ?_, decide_eq_true ((nd_map fun _ _ e => V.str.inj e).mpr nd)⟩
        obtain ⟨z, hz, rfl⟩ := List.mem_map.mp hb
        exact decide_eq_true (hsub z hz)
      rw [ct] at cl
      refine ⟨_, rfl, p, dx, _, rfl, hp, rfl, _, rfl, p, .ref a, true, zs, rs, rfl, hb0, hrs, cl, fun _ => ⟨a, rfl, hz, hsub⟩, (fun e => by cases e), fun _ => ?_⟩
      refine ⟨fun i z r hdz hrz hm len before d H' hx s1 hn => ?_, fun all x H' hbk s1 => ?_⟩
      · refine noRule _ _ _ _ (.str z) d H' ?_ hx s1
        unfold outAsk
        cases ef : fulls rs zs with
        | nil =>
          have := none_of ef (z, r) (List.mem_of_getElem? (zip_at.mpr ⟨hdz, hrz⟩))
          unfold fullOf at this
          rw [if_pos ⟨hm, len⟩] at this
          cases this
        | cons z' rest =>
          obtain ⟨j, ⟨y, t'⟩, h1, h2, h3⟩ := first_of ef
          obtain ⟨hy, ht'⟩ := zip_at.mp h1
          unfold fullOf at h2
          split at h2
          · rename_i c
            have ey := Option.some.inj h2
            have ij : i = j := by
              rcases Nat.lt_trichotomy i j with lt | e | lt
              · have := h3 i (z, r) lt (zip_at.mpr ⟨hdz, hrz⟩)
                unfold fullOf at this
                rw [if_pos ⟨hm, len⟩] at this
                cases this
              · exact e
              · have := before j y t' lt hy ht' c.1
                have c2 := c.2
                dsimp only at c2
                omega
            subst ij
            have : y = z := Option.some.inj (hy.symm.trans hdz)
            rw [← ey]
            show Out.err "NoRule" (.str y) = _
            rw [this]
          · cases h2
      · refine made x _ _ _ _ _ _ (askedAll zs rs) H' _ ?_ hbk s1 q
        unfold outAsk
        cases ef : fulls rs zs with
        | nil => rfl
        | cons z' rest =>
          obtain ⟨j, ⟨y, t'⟩, h1, h2, h3⟩ := first_of ef
          obtain ⟨hy, ht'⟩ := zip_at.mp h1
          unfold fullOf at h2
          split at h2
          · rename_i c
            have := all j y t' hy ht' c.1
            have c2 := c.2
            dsimp only at c2
            omega
          · cases h2
    | @a2 _ _ h =>
      refine ⟨_, rfl, rfl, _, rfl, ?_⟩
      refine ite2 (fun c => absurd c (ne_ (by decide))) (fun _ => ?_)
      refine ⟨_, rfl, rfl, _, rfl, ?_⟩
      refine ite2 (fun c => absurd c (ne_ (by decide))) (fun _ => ?_)
      refine ⟨_, rfl, rfl, _, rfl, ?_⟩
      refine ite2 (fun c => absurd c (ne_ (by decide))) (fun _ => ?_)
      refine ⟨_, rfl, p, dx, _, rfl, hp, rfl, _, rfl, p, v, false, [], rs, rfl, hb0, hrs, h, (fun e => by cases e), fun _ H' s1 => ?_, fun e => by cases e⟩
      refine ⟨false, X.nd, (fun e => by cases e), fun _ => ⟨false, X.nr, (fun e => by cases e), fun _ => ⟨true, X.nn, fun _ e he => ?_, fun e => by cases e⟩⟩⟩
      refine ⟨rfl, _, rfl, _, _, true, rfl, (fun u r => r), True.intro, X.kn, ?_⟩
      refine ⟨by show 2 ≤ sizeLine; decide, fun g hg => ?_⟩
      refine told g _ _ _ _ _ _ _ (q g _ upd_same ((s0.trans s1).trans (same_new hg)))
end
end Sh

namespace Sh
open PySem L2
section
variable {P : Program} {w : World} {K : PySem.W.Frag} {mg : Str → Option Value} {base : Heap} {aA aD : Addr}
theorem sqL_same {H H' : Hp} (s : Same H H') {a : Addr} {xs : List V} (h : SqL K H a xs) : SqL K H' a xs := by
  rcases h with (h | ⟨o, h⟩) | h
  · exact .inl (.inl (s _ _ h))
  · exact .inl (.inr ⟨o, s _ _ h⟩)
  · exact .inr h
/-- what len tells of a list or tuple -/
abbrev rLenS (K : PySem.W.Frag) : List V → Hp → VK → Prop := fun xs H Q => ∃ p ys, xs = [.ref p] ∧ (SqL K H p ys ∨ SqT K H p ys) ∧ Q (.int ys.length) H
/-- a new tuple of six -/
theorem six_made {H0 H1 : Hp} {D l : Addr} {us : List V} {rs : List (List Str)} (s : Same H0 H1) (h : H1 D = some (.lst us)) (p : Paired (RuleAt K H1) us rs) (hl : H1 l = none) : SixAt K (upd H1 l (.tup us)) (.ref l) rs ∧ Same H0 (upd H1 l (.tup us)) :=
  ⟨⟨l, us, rfl, SqT.of upd_same, (same_new hl).kt.rules p⟩, s.trans (same_new hl)⟩
theorem fulls_step {rs : List (List Str)} {zs : List Str} {i : Nat} {d : Str} {o : List Str} (hd : doors[i]? = some d) (ho : rs[i]? = some o) : ((doors.zip rs).take (i + 1)).filterMap (fullOf zs) = ((doors.zip rs).take i).filterMap (fullOf zs) ++ (if d ∈ zs ∧ o.length = 6 then [d] else []) := by
  rw [List.take_add_one, zip_at.mpr ⟨hd, ho⟩, List.filterMap_append]
  congr 1
  show List.filterMap (fullOf zs) [(d, o)] = _
  by_cases c : d ∈ zs ∧ o.length = 6
  · rw [if_pos c, List.filterMap_cons_some (b := d) (by unfold fullOf; exact if_pos c)]
    rfl
  · rw [if_neg c, List.filterMap_cons_none (by unfold fullOf; exact if_neg c)]
    rfl

def spAsked (K : PySem.W.Frag) : Sp := fun vs H Q _ => ∃ (nl a : Addr) (s : V) (rs : List (List Str)) (zs : List Str), vs = [.ref nl, s, .ref a] ∧ SqL K H nl (doors.map V.str) ∧ SixAt K H s rs ∧ rs.length = 6 ∧ (∀ r ∈ rs, IsRule r) ∧ SqT K H a (zs.map V.str) ∧
  ∀ t H', OutAt K H' t (outAsk rs zs) → Same H H' → Q (.ref t) H'
abbrev s_asked : Stmt := top 24
abbrev nAsked : List Str := ["names", "six", "some", "full", "k"]
theorem sc_asked : FnScope nAsked ["names", "six", "some"] (defScope s_asked) := ⟨rfl, rfl, rfl, by decide +kernel, rfl, by decide +kernel, by decide +kernel⟩
theorem ok_asked {f : Addr} {fd : FuncData} (F : Fun K "_law_asked" "_law_asked" s_asked f fd) (T : TxtB mg) : FnOk P w K mg base CX0 1 f fd ["names", "six", "some"] (spAsked K) := by
  refine F.ok sc_asked (fun vs H Q E h => ?_) (fun cdv A outer s H vs Q E hr h => ?_)
  · obtain ⟨nl, a, sx, rs, zs, rfl, _⟩ := h
    rfl
  · obtain ⟨nl, a, sx, rs, zs, rfl, hn, h6, e6, hrs, hz, q⟩ := h
    refine ⟨_, (pss_cons (ps_setLc (i := 3) (own := [("k", 4)]) (g := (gName 4)) (by rfl) sc_asked.nd rfl rfl (sw_true rfl rfl rfl (by decide +kernel)) (pi_range1 (by rfl) T.b_range (pa_cons pe_int pa_nil)) (blkOk_by (own := [("k", 4)]) (N := nAsked) (sc := defScope s_asked) (by decide +kernel)) (fun _ _ _ _ _ => (pg_name (i := 4) sc_asked.nd rfl (Or.inl rfl))) (fun _ _ _ _ _ => (pts_one (PW.pt (pw_and (pt_cmpR (r := rIn K false) op_in_seq (pe_ix (r := rIxL K) ix_list (pv 0) (pv 4) (fun _ _ => rfl)) (pv 2) (by rfl)) (pw_and1 (pt_cmpR op_eq (pe_callB (id := "len") (r := rLenS K) call_len_seq (by rfl) T.b_len (by decide +kernel) (pa_cons (pe_ix (r := rIxT K) ix_tup (pv 1) (pv 4) (fun _ _ => rfl)) pa_nil)) pe_int (nomark _))))))) (fun _ _ _ _ _ => (pv 4)))
  (pss_cons (ps_if (pt_cmpR (op_neP hr.units) (pv 3) (pe_lst pa_nil) (nomark _)) (pss_one (ps_ret (pe_tup (pa_cons pe_str (pa_cons (pe_ix ix_list (pv 0) (pe_ix ix_list (pv 3) pe_int (fun _ _ => rfl)) (fun _ _ => rfl)) (pa_cons pe_bl pa_nil)))))) pss_nil)
  (pss_one (ps_ret (pe_tup (pa_cons pe_str (pa_cons (pe_callTy call_tuple_of (by rfl) T.b_tuple (by decide +kernel) (pa_cons (pe_lc (own := [("k", 4)]) (g := (gName 4)) (by rfl) sc_asked.nd (pi_range1 (by rfl) T.b_range (pa_cons pe_int pa_nil)) (blkOk_by (own := [("k", 4)]) (N := nAsked) (sc := defScope s_asked) (by decide +kernel)) (fun _ _ _ _ _ => (pg_name (i := 4) sc_asked.nd rfl (Or.inl rfl))) (fun _ _ _ _ _ => pts_nil) (fun _ _ _ _ _ => (pe_ifExp (pt_cmpR (r := rIn K false) op_in_seq (pe_ix (r := rIxL K) ix_list (pv 0) (pv 4) (fun _ _ => rfl)) (pv 2) (by rfl)) (pe_op (r := rCatA K) op_catA (pe_ix (r := rIxT K) ix_tup (pv 1) (pv 4) (fun _ _ => rfl)) (pe_tup (pa_cons pe_str pa_nil))) (pe_ix (r := rIxT K) ix_tup (pv 1) (pv 4) (fun _ _ => rfl))))) pa_nil)) pa_nil))))))), ?_⟩
    obtain ⟨sa, ws, rfl, hs, pr⟩ := id h6
    have hw6 : ws.length = 6 := pr.length.trans e6
    have at_ : ∀ {k : Nat}, k < 6 → ∃ d o u, doors[k]? = some d ∧ rs[k]? = some o ∧ ws[k]? = some u ∧ RuleAt K H u o := fun {k} hk => by
      have h1 : doors[k]? = some (doors[k]'hk) := List.getElem?_eq_getElem hk
      have h2 : rs[k]? = some (rs[k]'(by omega)) := List.getElem?_eq_getElem (by omega)
      obtain ⟨u, hu, ru⟩ := pair_get pr h2
      exact ⟨_, _, u, h1, h2, hu, ru⟩
    have door_at : ∀ {k : Nat} {d : Str}, doors[k]? = some d → atI (doors.map V.str) (0 + (k : Int)) = some (.str d) := fun {k d} hd => at_of (j := k) (by omega) (by rw [List.getElem?_map, hd]; rfl)
    refine ⟨6, rfl, by decide, by decide, fun D hD => ?_⟩
    refine lc_range (lo := 0) (n := 6) (fun i H' => ∃ ks : List Nat, H' D = some (.lst (ks.map fun k => .int (k : Nat))) ∧ ks.length ≤ i ∧ (∀ k ∈ ks, k < 6) ∧ ks.map (fun k => doors.getD k "") = ((doors.zip rs).take i).filterMap (fullOf zs) ∧ Same H H') ?_ ?_ ?_
    · exact ⟨[], upd_same, Nat.le_refl _, (fun k hk => by cases hk), rfl, same_new hD⟩
    · rintro i H1 hi ⟨ks, h1, lk, hk6, ek, s1⟩
      obtain ⟨d, o, uu, hd, ho, hu1, ru⟩ := at_ (k := i) hi
      refine ⟨rfl, ?_⟩
      refine ⟨_, rfl, _, rfl, nl, _, _, _, rfl, rfl, sqL_same s1 hn, door_at hd, ?_⟩
      refine ⟨_, rfl, a, zs.map V.str, rfl, .inr (sqT_same s1 hz), rfl, flat_strs zs, ?_⟩
      have e1 : inV (.str d) (zs.map V.str) = decide (d ∈ zs) := inV_strs d zs
      show ∃ c, V.bl (inV (.str d) (zs.map V.str)) = V.bl c ∧ _
      rw [e1]
      refine ⟨_, rfl, ?_⟩
      have skip : ¬ (d ∈ zs ∧ o.length = 6) → ∃ ks : List Nat, H1 D = some (.lst (ks.map fun k => .int (k : Nat))) ∧ ks.length ≤ i + 1 ∧ (∀ k ∈ ks, k < 6) ∧ ks.map (fun k => doors.getD k "") = ((doors.zip rs).take (i + 1)).filterMap (fullOf zs) ∧ Same H H1 := fun no => by
        rw [fulls_step hd ho, if_neg no, List.append_nil]
        exact ⟨ks, h1, by omega, hk6, ek, s1⟩
      refine ite2 (fun c => ?_) (fun c => ?_)
      · have hm := of_decide_eq_true c
        obtain ⟨ao, rfl, so⟩ := id ru
        refine ⟨_, rfl, _, rfl, sa, _, _, _, rfl, rfl, sqT_same s1 hs, at_of (j := i) (by omega) hu1, ao, _, rfl, .inr (sqT_same s1 so), ?_⟩
        refine ⟨rfl, _, rfl, ?_⟩
        rw [List.length_map]
        refine ite2 (fun e => ?_) (fun e => ?_)
        · have ol : o.length = 6 := Int.ofNat.inj (V.int.inj (of_decide_eq_true e))
          refine ⟨_, rfl, _, h1, ?_, ks ++ [i], ?_, by rw [List.length_append]; exact Nat.succ_le_succ lk, ?_, ?_, same_upd s1 hD⟩
          · rw [List.length_map]
            exact small1000 (by omega)
          · rw [List.map_append, upd_same, Int.zero_add]
            rfl
          · intro k hk
            rcases List.mem_append.mp hk with hk | hk
            · exact hk6 k hk
            · rw [List.mem_singleton.mp hk]
              exact hi
          · rw [fulls_step hd ho, if_pos ⟨hm, ol⟩, List.map_append, ek]
            congr 1
            show [doors.getD i ""] = [d]
            rw [List.getD_eq_getElem?_getD, hd]
            rfl
        · exact skip fun q => e (decide_eq_true (by rw [q.2]; rfl))
      · exact skip fun q => c (decide_eq_true q.1)
    · rintro H1 ⟨ks, h1, lk, hk6, ek, s1⟩
      have full : (doors.zip rs).take 6 = doors.zip rs := List.take_of_length_le (by rw [List.length_zip]; exact Nat.min_le_left _ _)
      rw [full] at ek
      have ek : ks.map (fun k => doors.getD k "") = fulls rs zs := ek
      dsimp only [gName, tSeq]
      refine ⟨_, rfl, Nat.zero_le _, fun l0 hl0 => ?_⟩
      have s2 := s1.trans (same_new (o := .lst []) hl0)
      have h2 := same_new (o := .lst []) hl0 _ _ h1
      have wd : ∀ {H' : Hp} (l : List Nat), DpAll K H' (l.map fun k => V.int (k : Nat)) (l.map fun k => PyData.int (k : Nat)) := fun l => by
        induction l with
        | nil => exact .nil
        | cons x l ih => exact .cons (.int _) ih
      have wp : PyData.plain (.list (ks.map fun k => PyData.int (k : Nat))) = true := by
        show PyData.plainAll (ks.map fun k => PyData.int (k : Nat)) = true
        generalize ks = l
        induction l with
        | nil => rfl
        | cons x l ih => exact ih
      have wdl : PyData.depth (.list (ks.map fun k => PyData.int (k : Nat))) ≤ 64 := by
        have : ∀ l : List Nat, PyData.depthAll (l.map fun k => PyData.int (k : Nat)) = 0 := fun l => by
          induction l with
          | nil => rfl
          | cons x l ih =>
            show max 0 (PyData.depthAll (l.map fun k => PyData.int (k : Nat))) = 0
            rw [ih]
            rfl
        show PyData.depthAll (ks.map fun k => PyData.int (k : Nat)) + 1 ≤ 64
        rw [this]
        decide
      have wev : PyData.eqv (.list (ks.map fun k => PyData.int (k : Nat))) (.list []) = decide (ks = []) := by
        cases ks with
        | nil => simp [PyData.eqv, PyData.eqvAll]
        | cons x l => simp [PyData.eqv, PyData.eqvAll]
      refine ⟨_, .list [], .lst (SqL.of h2) (wd ks), .lst (SqL.of upd_same) .nil, wp, rfl, wdl, ?_⟩
      rw [wev]
      refine ⟨_, rfl, ?_⟩
      refine ite2 (fun c => ?_) (fun c => ?_)
      · cases ks with
        | nil => cases c
        | cons k rest =>
          have hk : k < 6 := hk6 k (List.mem_cons_self ..)
          refine ⟨_, rfl, _, rfl, D, _, 0, .int (k : Nat), rfl, rfl, SqL.of h2, at_of (j := 0) rfl rfl, ?_⟩
          refine ⟨nl, _, _, .str (doors.getD k ""), rfl, rfl, sqL_same s2 hn, at_of (j := k) rfl ?_, ?_⟩
          · rw [List.getElem?_map, List.getD_eq_getElem?_getD, List.getElem?_eq_getElem (show k < doors.length from hk)]
            rfl
          refine ⟨by show 3 ≤ sizeLine; decide, fun t ht => ?_⟩
          refine q t _ ?_ (s2.trans (same_new ht))
          unfold outAsk
          rw [← ek]
          exact upd_same
      · have k0 : ks = [] := by
          rw [Bool.not_eq_true, Bool.not_eq_false'] at c
          exact of_decide_eq_true c
        have ef : fulls rs zs = [] := by rw [← ek, k0]; rfl
        refine ⟨6, rfl, by decide, by decide, fun D2 hD2 => ?_⟩
        refine lc_range (lo := 0) (n := 6) (fun i H' => ∃ us, H' D2 = some (.lst us) ∧ Paired (RuleAt K H') us ((askedAll zs rs).take i) ∧ Same H H') ?_ ?_ ?_
        · exact ⟨[], upd_same, .nil, s2.trans (same_new hD2)⟩
        · rintro i H3 hi ⟨us, h3, p3, s3⟩
          obtain ⟨d, o, uu, hd, ho, hu1, ru⟩ := at_ (k := i) hi
          have ulen : us.length < sizeLine := by
            rw [p3.length, List.length_take, asked_len e6]
            exact small1000 (by omega)
          have more : ∀ (y : V) (H4 : Hp), Same H3 H4 → RuleAt K H4 y (asked zs d o) → ∃ acc, H4 D2 = some (.lst acc) ∧ acc.length < sizeLine ∧ ∃ us, upd H4 D2 (.lst (acc ++ [y])) D2 = some (.lst us) ∧ Paired (RuleAt K (upd H4 D2 (.lst (acc ++ [y])))) us ((askedAll zs rs).take (i + 1)) ∧ Same H (upd H4 D2 (.lst (acc ++ [y]))) := fun y H4 s4 ry => by
            refine ⟨us, s4 _ _ h3, ulen, _, upd_same, ?_, same_upd (s3.trans s4) (s2.free hD2)⟩
            rw [List.take_add_one, asked_at hd ho]
            exact (kt_lst (s4 _ _ h3)).rules (pair_snoc ry (s4.kt.rules p3))
          refine ⟨rfl, ?_⟩
          refine ⟨_, rfl, _, rfl, nl, _, _, _, rfl, rfl, sqL_same s3 hn, door_at hd, ?_⟩
          refine ⟨_, rfl, a, zs.map V.str, rfl, .inr (sqT_same s3 hz), rfl, flat_strs zs, ?_⟩
          have e1 : inV (.str d) (zs.map V.str) = decide (d ∈ zs) := inV_strs d zs
          show ∃ c, V.bl (inV (.str d) (zs.map V.str)) = V.bl c ∧ _
          rw [e1]
          refine ⟨_, rfl, ?_⟩
          refine ite2 (fun e => ?_) (fun e => ?_)
          · have hm := of_decide_eq_true e
            obtain ⟨ao, rfl, so⟩ := id ru
            refine ⟨_, rfl, _, rfl, sa, _, _, _, rfl, rfl, sqT_same s3 hs, at_of (j := i) (by omega) hu1, ?_⟩
            refine ⟨by show 1 ≤ sizeLine; decide, fun tt htt => ?_⟩
            have s4 := same_new (o := .tup [V.str "ask"]) htt
            have len1 : o.length ≤ 6 := (hrs o (List.mem_of_getElem? ho)).1
            refine catA_of (sqT_same (s3.trans s4) so) (SqT.of upd_same) ?_ fun pn H5 hpn s5 => ?_
            · rw [List.length_map]
              show o.length + 1 ≤ 1000
              omega
            · refine more _ _ (s4.trans s5) ⟨pn, rfl, ?_⟩
              unfold asked
              rw [if_pos hm, List.map_append]
              exact hpn
          · have hm : ¬ d ∈ zs := fun q => e (decide_eq_true q)
            refine ⟨_, rfl, _, rfl, sa, _, _, uu, rfl, rfl, sqT_same s3 hs, at_of (j := i) (by omega) hu1, more _ _ (Same.refl _) ?_⟩
            unfold asked
            rw [if_neg hm]
            exact s3.kt.rule ru
        · rintro H3 ⟨us, h3, p3, s3⟩
          have full : (askedAll zs rs).take 6 = askedAll zs rs := List.take_of_length_le (by rw [asked_len e6]; exact Nat.le_refl 6)
          rw [full] at p3
          refine ⟨D2, us, rfl, .inl ⟨SqL.of h3, fun l hl => ?_⟩⟩
          obtain ⟨m1, s4⟩ := six_made s3 h3 p3 hl
          refine ⟨by show 2 ≤ sizeLine; decide, fun t ht => ?_⟩
          refine q t _ ?_ (s4.trans (same_new ht))
          unfold outAsk
          rw [ef]
          exact ⟨_, upd_same, (same_new ht).kt.six m1⟩
end
end Sh

namespace Sh
open PySem L2
section
variable {P : Program} {w : World} {K : PySem.W.Frag} {mg : Str → Option Value} {base : Heap} {aA aD : Addr}
theorem OutAt.same {H H' : Hp} (s : Same H H') {t : Addr} {o : Out} (h : OutAt K H t o) : OutAt K H' t o := by
  cases o with
  | made rs =>
    obtain ⟨v, ht, hv⟩ := h
    exact ⟨v, s _ _ ht, s.kt.six hv⟩
  | err nm v => exact s _ _ h
  | none_ => exact s _ _ h
def dMade (rs : List (List Str)) : PyData := .tuple [.str "made", dSix rs]
def dAsk (rs : List (List Str)) (zs : List Str) : PyData := match fulls rs zs with
  | [] => dMade (askedAll zs rs)
  | z :: _ => .tuple [.str "NoRule", .str z, .bool true]
theorem made_dp {H : Hp} {t : Addr} {rs : List (List Str)} (h : OutAt K H t (.made rs)) : Dp K H (.ref t) (dMade rs) := by
  obtain ⟨v, ht, hv⟩ := h
  exact .tup (SqT.of ht) (.cons (.str _) (.cons hv.dp .nil))
theorem made_plain (rs : List (List Str)) : (dMade rs).plain = true := by
  show (PyData.plain (.str "made") && (PyData.plain (dSix rs) && PyData.plainAll [])) = true
  rw [plain_six]
  rfl
theorem made_depth (rs : List (List Str)) : (dMade rs).depth ≤ 64 := by
  show max 0 (max (PyData.depth (dSix rs)) 0) + 1 ≤ 64
  have := depth_six rs
  omega
theorem ask_dp {H : Hp} {t : Addr} {rs : List (List Str)} {zs : List Str} (h : OutAt K H t (outAsk rs zs)) : Dp K H (.ref t) (dAsk rs zs) := by
  unfold outAsk at h
  unfold dAsk
  cases ef : fulls rs zs with
  | nil =>
    rw [ef] at h
    exact made_dp h
  | cons z l =>
    rw [ef] at h
    exact .tup (SqT.of h) (.cons (.str _) (.cons (.str _) (.cons (.bl _) .nil)))
theorem ask_plain (rs : List (List Str)) (zs : List Str) : (dAsk rs zs).plain = true := by
  unfold dAsk
  cases fulls rs zs with
  | nil => exact made_plain _
  | cons z l => rfl
theorem ask_depth (rs : List (List Str)) (zs : List Str) : (dAsk rs zs).depth ≤ 64 := by
  unfold dAsk
  cases fulls rs zs with
  | nil => exact made_depth _
  | cons z l => exact (by decide : 0 + 1 ≤ 64)
theorem refl_ {d : PyData} (h : d.plain = true) : PyData.eqv d d = true := PySem.SeqAt.eqv_refl_plain _ h
theorem asked_nil {rs : List (List Str)} (h6 : rs.length = 6) : askedAll [] rs = rs := by
  match rs, h6 with
  | [_, _, _, _, _, _], _ => rfl
theorem paired_mid {α β : Type} {F : α → β → Prop} {x : α} {y : β} (f : F x y) : ∀ {l1 : List α} {l2 : List β} (i : Nat), Paired F l1 l2 → i < l1.length → Paired F (l1.take i ++ [x] ++ l1.drop (i + 1)) (l2.set i y)
  | _, _, 0, .cons a b, _ => .cons f b
  | _, _, i + 1, .cons a b, h => .cons a (paired_mid f i b (Nat.lt_of_succ_lt_succ h))
theorem doors_nil {H : Hp} {e : Addr} (h : SqT K H e []) : DoorsCl K H (.ref e) true := by
  have q : DoorsCl K H (.ref e) (([] : List Bool).all id && decide ([] : List V).Nodup) := .tup h (Nat.zero_le _) .nil
  have e1 : (([] : List Bool).all id && decide ([] : List V).Nodup) = true := by rw [decide_eq_true List.nodup_nil]; rfl
  rw [e1] at q
  exact q
def spRight : Sp := fun vs H Q _ => ∃ (j : Addr) (n : Nat), vs = [.ref j] ∧ JarAt H j n ∧ n ≤ 2 ^ 70 ∧ ∀ H', JarAt H' j (n + 1000) → Kp j H H' → Q (.bl true) H'
abbrev s_right : Stmt := top 26
abbrev nRight : List Str := ["jar", "names", "six", "fresh", "work", "k", "told", "bad", "thing", "at", "deed", "some"]
theorem sc_right : FnScope nRight ["jar"] (defScope s_right) := ⟨rfl, rfl, rfl, by decide +kernel, rfl, by decide +kernel, by decide +kernel⟩
theorem ok_right {f C CS CD CR CN fD fS fRu fI fW fR fA fB fNo fNd fNs fC fIs fAs fDo : Addr} {fd fdD fdS fdRu fdI fdW fdR fdA fdB fdNo fdNd fdNs fdC fdIs fdAs fdDo : FuncData} {d0 d1 d2 d3 d4 d5 : V} (F : Fun K "_law_right" "_law_right" s_right f fd) (T : TxtB mg) (TB : TxtBook K mg C)
    (gD : mg "_law_draw" = some (.ref fD)) (kD : PySem.W.keepIn K (.ref fD) = true) (bD : Binds K fdD ["jar", "many"] []) (GD : FnOk P w K mg base CX0 1 fD fdD ["jar", "many"] spDraw)
    (gS : mg "_law_six" = some (.ref fS)) (kS : PySem.W.keepIn K (.ref fS) = true) (bS : Binds K fdS ["jar"] []) (GS : FnOk P w K mg base CX0 3 fS fdS ["jar"] (spSix K))
    (gRu : mg "_law_rule" = some (.ref fRu)) (kRu : PySem.W.keepIn K (.ref fRu) = true) (bRu : Binds K fdRu ["jar", "most"] []) (GRu : FnOk P w K mg base CX0 2 fRu fdRu ["jar", "most"] spRule)
    (M : MkB P w K mg base C CR fI fdI d0 d1 d2 d3 d4 d5) (b6 : Binds K fdI pI [])
    (GW : FnOk P w K mg base (L2.CX P w) 6 fW fdW ["self", "door", "rule"] (spWith K C CD CR)) (mW : Meth K C "with_rule" fW) (bW : Binds K fdW ["self", "door", "rule"] []) (kbW : KBn K fdW ["self", "door", "rule"] 1 ["rule", "door"] (fun us ws => pick [0, 2, 1] (us ++ ws)) (fun us ws => pick [0, 2, 1] (us ++ ws)))
    (GR : FnOk P w K mg base (L2.CX P w) 3 fR fdR ["self", "door"] (spBRule K C CD)) (mR : Meth K C "rule" fR) (bR : Binds K fdR ["self", "door"] [])
    (GA : FnOk P w K mg base (L2.CX P w) 6 fA fdA ["self", "doors"] (spAsk K C CN CR)) (mA : Meth K C "asking" fA) (kbA : KBn K fdA ["self", "doors"] 1 ["doors"] (fun us ws => pick [0, 1] (us ++ ws)) (fun us ws => pick [0, 1] (us ++ ws)))
    (mB : Meth K C "rules" fB) (bB : Binds K fdB ["self"] []) (GB : FnOk P w K mg base CX0 1 fB fdB ["self"] (spBRules K C))
    (gNo : mg "_law_no_rule" = some (.ref fNo)) (kNo : PySem.W.keepIn K (.ref fNo) = true) (bNo : Binds K fdNo ["jar", "row"] []) (GNo : FnOk P w K mg base CX0 2 fNo fdNo ["jar", "row"] (spNoRule K))
    (gNd : mg "_law_no_door" = some (.ref fNd)) (kNd : PySem.W.keepIn K (.ref fNd) = true) (bNd : Binds K fdNd ["jar"] []) (GNd : FnOk P w K mg base CX0 2 fNd fdNd ["jar"] (spNoDoor K))
    (gNs : mg "_law_no_doors" = some (.ref fNs)) (kNs : PySem.W.keepIn K (.ref fNs) = true) (bNs : Binds K fdNs ["jar", "some"] []) (GNs : FnOk P w K mg base CX0 3 fNs fdNs ["jar", "some"] (spNoDoors K))
    (gC : mg "_law_come" = some (.ref fC)) (kC : PySem.W.keepIn K (.ref fC) = true) (bC : Binds K fdC ["work", "deed", "thing", "fresh"] []) (GC : FnOk P w K mg base CX0 7 fC fdC ["work", "deed", "thing", "fresh"] (spCome K C))
    (gI : mg "_law_is" = some (.ref fIs)) (kI : PySem.W.keepIn K (.ref fIs) = true) (bI : Binds K fdIs ["found", "name", "thing"] []) (GI : FnOk P w K mg base CX0 1 fIs fdIs ["found", "name", "thing"] (spIs K))
    (gAs : mg "_law_asked" = some (.ref fAs)) (kAs : PySem.W.keepIn K (.ref fAs) = true) (bAs : Binds K fdAs ["names", "six", "some"] []) (GAs : FnOk P w K mg base CX0 1 fAs fdAs ["names", "six", "some"] (spAsked K))
    (gDo : mg "_law_doors" = some (.ref fDo)) (kDo : PySem.W.keepIn K (.ref fDo) = true) (bDo : Binds K fdDo ["jar", "names"] []) (GDo : FnOk P w K mg base CX0 2 fDo fdDo ["jar", "names"] (spDoors K)) :
    FnOk P w K mg base CX0 8 f fd ["jar"] spRight := by
  refine F.ok sc_right (fun vs H Q E h => ?_) (fun cdv A outer s H vs Q E hr h => ?_)
  · obtain ⟨j, n, rfl, _⟩ := h
    rfl
  · obtain ⟨j, n, rfl, J, hn, q⟩ := h
    have r1 : Room 1 _ := hr.mono (by decide)
    have r2 : Room 2 _ := hr.mono (by decide)
    have r3 : Room 3 _ := hr.mono (by decide)
    have r5 : Room 5 _ := hr.mono (by decide)
    have r6 : Room 6 _ := hr.mono (by decide)
    have r7 : Room 7 _ := hr.mono (by decide)
    refine ⟨_, (pss_cons (ps_set (i := 1) sc_right.nd rfl (Or.inl rfl) (pe_lst (pa_cons pe_str (pa_cons pe_str (pa_cons pe_str (pa_cons pe_str (pa_cons pe_str (pa_cons pe_str pa_nil))))))))
  (pss_cons (ps_par (i := 2) (j := 3) (by rfl) sc_right.nd rfl rfl (by decide) rfl rfl (pa_cons (pe_call GS r3 (by rfl) gS kS bS .nil pass0 (pa_cons (pv 0) pa_nil)) (pa_cons (pe_call GRu r2 (by rfl) gRu kRu bRu .nil pass0 (pa_cons (pv 0) (pa_cons pe_int pa_nil))) pa_nil)) (by rfl))
  (pss_cons (ps_set (i := 4) sc_right.nd rfl (Or.inl rfl) (pe_make M.mkb M.ok r5 (by rfl) TB.g b6 .nil passL (pa_cons (pe_ix ix_tup (pv 2) pe_int (fun _ _ => rfl)) (pa_cons (pe_ix ix_tup (pv 2) pe_int (fun _ _ => rfl)) (pa_cons (pe_ix ix_tup (pv 2) pe_int (fun _ _ => rfl)) (pa_cons (pe_ix ix_tup (pv 2) pe_int (fun _ _ => rfl)) (pa_cons (pe_ix ix_tup (pv 2) pe_int (fun _ _ => rfl)) (pa_cons (pe_ix ix_tup (pv 2) pe_int (fun _ _ => rfl)) pa_nil))))))))
  (pss_cons (ps_for PassesOwn.never rfl (pi_range1 (by rfl) T.b_range (pa_cons pe_int pa_nil)) (pg_name (i := 5) sc_right.nd rfl (Or.inl rfl)) (pss_cons (ps_set (i := 6) sc_right.nd rfl (Or.inl rfl) (pe_ifExp (pt_cmpR op_eq (pe_call GD r1 (by rfl) gD kD bD .nil pass0 (pa_cons (pv 0) (pa_cons pe_int pa_nil))) pe_int (nomark _)) (pe_meth (pv 4) TB.cl mW GW r6 bW .nil passL (pa_cons (pe_ix ix_list (pv 1) (pv 5) (fun _ _ => rfl)) (pa_cons (pv 3) pa_nil))) (pe_methK0 (pv 4) TB.cl mW GW r6 kbW passL (pk_cons (pv 3) (pk_cons (pe_ix ix_list (pv 1) (pv 5) (fun _ _ => rfl)) pk_nil)))))
  (pss_one (ps_if (PW.pt (pw_or (pt_cmpR (op_neP hr.units) (pe_meth0 (pv 6) TB.cl mB GB r1 bB .nil pass0) (pe_op op_catA (pe_op op_catA (pe_slice sl_tupA (pv 2) po_none (po_some (pv 5))) (pe_tup (pa_cons (pv 3) pa_nil))) (pe_slice sl_tupA (pv 2) (po_some (pe_op op_add (pv 5) pe_int)) po_none)) (nomark _)) (pw_or1 (pt_cmpR (op_neP hr.units) (pe_meth (pv 6) TB.cl mR GR r3 bR .nil passL (pa_cons (pe_ix ix_list (pv 1) (pv 5) (fun _ _ => rfl)) pa_nil)) (pv 3) (nomark _))))) (pss_one (ps_ret pe_bl)) pss_nil))))
  (pss_cons (ps_par3 (i := 7) (j := 8) (l := 9) (by rfl) sc_right.nd rfl rfl rfl (by decide) (by decide) (by decide) rfl rfl rfl (pa_cons (pe_call GNo r2 (by rfl) gNo kNo bNo .nil pass0 (pa_cons (pv 0) (pa_cons (pv 3) pa_nil))) (pa_cons (pe_call GNd r2 (by rfl) gNd kNd bNd .nil pass0 (pa_cons (pv 0) pa_nil)) (pa_cons (pe_call GD r1 (by rfl) gD kD bD .nil pass0 (pa_cons (pv 0) (pa_cons pe_int pa_nil))) pa_nil))) (by rfl))
  (pss_cons (ps_if (pt_not (pt_val (pe_call GI r1 (by rfl) gI kI bI .nil pass0 (pa_cons (pe_call GC r7 (by rfl) gC kC bC .nil pass0 (pa_cons (pv 4) (pa_cons pe_str (pa_cons (pv 8) (pa_cons (pv 3) pa_nil))))) (pa_cons pe_str (pa_cons (pv 8) pa_nil)))))) (pss_one (ps_ret pe_bl)) pss_nil)
  (pss_cons (ps_if (pt_not (pt_val (pe_call GI r1 (by rfl) gI kI bI .nil pass0 (pa_cons (pe_call GC r7 (by rfl) gC kC bC .nil pass0 (pa_cons (pv 4) (pa_cons pe_str (pa_cons (pv 8) (pa_cons (pv 7) pa_nil))))) (pa_cons pe_str (pa_cons (pv 8) pa_nil)))))) (pss_one (ps_ret pe_bl)) pss_nil)
  (pss_cons (ps_for PassesOwn.never rfl (pi_list (pe_lst (pa_cons pe_str (pa_cons pe_str pa_nil)))) (pg_name (i := 10) sc_right.nd rfl (Or.inl rfl)) (pss_cons (ps_if (pt_not (pt_val (pe_call GI r1 (by rfl) gI kI bI .nil pass0 (pa_cons (pe_call GC r7 (by rfl) gC kC bC .nil pass0 (pa_cons (pv 4) (pa_cons (pv 10) (pa_cons (pv 8) (pa_cons pe_non pa_nil))))) (pa_cons pe_str (pa_cons (pv 8) pa_nil)))))) (pss_one (ps_ret pe_bl)) pss_nil)
  (pss_one (ps_if (pt_cmpR (op_neP hr.units) (pe_call GC r7 (by rfl) gC kC bC .nil pass0 (pa_cons (pv 4) (pa_cons (pv 10) (pa_cons (pe_ix ix_list (pv 1) (pv 9) (fun _ _ => rfl)) (pa_cons pe_non pa_nil))))) (pe_tup (pa_cons pe_str (pa_cons (pe_tup (pa_cons (pe_ix ix_tup (pv 2) (pv 9) (fun _ _ => rfl)) (pa_cons (pe_tup pa_nil) (pa_cons (pe_tup pa_nil) (pa_cons (pe_tup pa_nil) (pa_cons (pe_tup pa_nil) (pa_cons (pe_tup pa_nil) pa_nil))))))) pa_nil))) (nomark _)) (pss_one (ps_ret pe_bl)) pss_nil))))
  (pss_cons (ps_if (pt_not (pt_val (pe_call GI r1 (by rfl) gI kI bI .nil pass0 (pa_cons (pe_call GC r7 (by rfl) gC kC bC .nil pass0 (pa_cons (pv 4) (pa_cons pe_str (pa_cons (pe_ix ix_list (pv 1) (pv 9) (fun _ _ => rfl)) (pa_cons (pv 7) pa_nil))))) (pa_cons pe_str (pa_cons (pe_ix ix_list (pv 1) (pv 9) (fun _ _ => rfl)) pa_nil)))))) (pss_one (ps_ret pe_bl)) pss_nil)
  (pss_cons (ps_set (i := 11) sc_right.nd rfl (Or.inl rfl) (pe_call GDo r2 (by rfl) gDo kDo bDo .nil pass0 (pa_cons (pv 0) (pa_cons (pv 1) pa_nil))))
  (pss_cons (ps_if (pt_cmpR (op_neP hr.units) (pe_call GC r7 (by rfl) gC kC bC .nil pass0 (pa_cons (pv 4) (pa_cons pe_str (pa_cons (pv 11) (pa_cons pe_non pa_nil))))) (pe_call GAs r1 (by rfl) gAs kAs bAs .nil pass0 (pa_cons (pv 1) (pa_cons (pv 2) (pa_cons (pv 11) pa_nil)))) (nomark _)) (pss_one (ps_ret pe_bl)) pss_nil)
  (pss_cons (ps_if (pt_cmpR (op_neP hr.units) (pe_call GC r7 (by rfl) gC kC bC .nil pass0 (pa_cons (pv 4) (pa_cons pe_str (pa_cons (pe_call GNs r3 (by rfl) gNs kNs bNs .nil pass0 (pa_cons (pv 0) (pa_cons (pv 11) pa_nil))) (pa_cons pe_non pa_nil))))) (pe_tup (pa_cons pe_str (pa_cons pe_bl pa_nil))) (nomark _)) (pss_one (ps_ret pe_bl)) pss_nil)
  (pss_one (ps_ret (pe_and (pe_cmpR (op_eqP hr.units) (pe_meth0 (pv 4) TB.cl mB GB r1 bB .nil pass0) (pv 2) (nomark _)) (pe_one (pe_cmpR (op_eqP hr.units) (pe_meth0 (pe_methK0 (pv 4) TB.cl mA GA r6 kbA passL (pk_cons (pe_tup pa_nil) pk_nil)) TB.cl mB GB r1 bB .nil pass0) (pv 2) (nomark _)))))))))))))))))), ?_⟩
    refine ⟨by show 6 ≤ sizeLine; decide, fun nl hnl => ?_⟩
    have s1 := same_new (o := .lst (doors.map V.str)) hnl
    have nl1 : upd H nl (.lst (doors.map V.str)) nl = some (.lst (doors.map V.str)) := upd_same
    have nlj : nl ≠ j := J.ne hnl
    have J1 := J.same s1
    refine ⟨_, rfl, j, n, rfl, J1, Nat.le_trans hn (by decide), fun sa rs H2 h6 e6 hrs J2 k2 => ?_⟩
    have nl2 := k2 _ _ nlj nl1
    refine ⟨_, rfl, j, 6, _, rfl, J2, by decide, by decide, by omega, fun fa fr H3 hfa hfr hact J3 k3 => ?_⟩
    have k03 : Kp j H H3 := ((s1.kp j).trans k2).trans k3
    have nl3 := k3 _ _ nlj nl2
    have h63 := (J2.kt k3).six h6
    have rf3 : RuleAt K H3 (.ref fa) fr := ⟨fa, rfl, SqT.of hfa⟩
    have frr : IsRule fr := ⟨by omega, hact⟩
    refine ⟨_, _, rfl, ?_⟩
    obtain ⟨sa', u0, u1, u2, u3, u4, u5, q0, q1, q2, q3, q4, q5, es, rfl, hs6, pr⟩ := six_six h63 e6
    cases es
    refine ⟨_, rfl, sa, _, _, _, rfl, rfl, hs6, rfl, ?_⟩
    refine ⟨_, rfl, sa, _, _, _, rfl, rfl, hs6, rfl, ?_⟩
    refine ⟨_, rfl, sa, _, _, _, rfl, rfl, hs6, rfl, ?_⟩
    refine ⟨_, rfl, sa, _, _, _, rfl, rfl, hs6, rfl, ?_⟩
    refine ⟨_, rfl, sa, _, _, _, rfl, rfl, hs6, rfl, ?_⟩
    refine ⟨_, rfl, sa, _, _, _, rfl, rfl, hs6, rfl, ?_⟩
    intro x dx hx hdx nex
    refine book_new (ws := [u0, u1, u2, u3, u4, u5]) hx hdx pr hrs rfl fun H4 hb4 s4 => ⟨rfl, ?_⟩
    have k04 := k03.trans (s4.kp j)
    have J4 := J3.same s4
    have nl4 := s4 _ _ nl3
    have h64 := s4.kt.six h63
    have rf4 := s4.kt.rule rf3
    have door_at : ∀ {k : Nat} {d : Str}, doors[k]? = some d → atI (doors.map V.str) (0 + (k : Int)) = some (.str d) := fun {k d} hd => at_of (j := k) (by omega) (by rw [List.getElem?_map, hd]; rfl)
    have amb : ∀ {H' : Hp} {d : Str}, Among K H' doors (.str d) (decide (d ∈ doors)) := fun {_ d} => .str d
    have no : ∀ {d : Str}, d ∈ doors → decide (d ∈ doors) = false → False := fun hd e => by
      rw [decide_eq_true hd] at e
      cases e
    refine ⟨6, rfl, by decide, by decide, for_range (lo := 0) (n := 6) (fun i σ H' => ∃ v5 v6, σ = [some (.ref j), some (.ref nl), some (.ref sa), some (.ref fa), some (.ref x), v5, v6, none, none, none, none, none] ∧ JarAt H' j (n + 110 + i) ∧ Kp j H4 H') ?_ ?_ ?_⟩
    · exact ⟨_, _, rfl, J4.mono (by omega), Kp.refl _ _⟩
    · rintro i σ H5 hi ⟨v5, v6, rfl, J5, k5⟩
      have hi6 : i < 6 := hi
      have K5 : KT H4 H5 := J4.kt k5
      have nl5 := k5 _ _ nlj nl4
      obtain ⟨d, hd⟩ : ∃ d, doors[i]? = some d := ⟨_, List.getElem?_eq_getElem (show i < doors.length from hi6)⟩
      have hdm : d ∈ doors := List.mem_of_getElem? hd
      dsimp only [gName, tSeq, tAsg]
      refine tIf_via (fun v' H' => ∃ y, v' = .ref y ∧ BookAt K C H' y ([q0, q1, q2, q3, q4, q5].set i fr) ∧ JarAt H' j (n + 110 + (i + 1)) ∧ Kp j H5 H') (fun key => ?_) ?_
      · refine ⟨_, rfl, j, 2, _, rfl, J5, by decide, by decide, by omega, fun z H6 _ _ J6 k6 => ?_⟩
        have K6 : KT H4 H6 := K5.trans (J5.kt k6)
        have hb6 := K6.book hb4
        obtain ⟨dxx, l, hp, _, _⟩ := id hb6
        have nl6 := k6 _ _ nlj nl5
        have rf6 := K6.rule rf4
        have cl6 := ruleCl_of rf6 frr
        refine ⟨rfl, _, rfl, ?_⟩
        refine ite2 (fun _ => ?_) (fun _ => ?_)
        · refine ⟨_, rfl, x, dxx, _, rfl, hp, rfl, _, rfl, _, rfl, nl, _, _, _, rfl, rfl, SqL.of nl6, door_at hd, ?_⟩
          refine ⟨_, rfl, x, .str d, .ref fa, _, true, fr, [q0, q1, q2, q3, q4, q5], rfl, hb6, hrs, amb, cl6, fun _ => ⟨rf6, frr⟩, fun en => (no hdm en).elim, (fun _ _ _ _ e => by cases e), fun i' z' ez hz' _ y H' hbk s' => ?_⟩
          cases ez
          have := doors_nd hz' hd
          subst this
          exact key _ _ ⟨y, rfl, hbk, J6.same s', k6.trans (s'.kp j)⟩
        · refine ⟨_, rfl, x, dxx, _, rfl, hp, rfl, _, rfl, _, rfl, _, rfl, nl, _, _, _, rfl, rfl, SqL.of nl6, door_at hd, rfl, ?_⟩
          refine ⟨x, .str d, .ref fa, _, true, fr, [q0, q1, q2, q3, q4, q5], rfl, hb6, hrs, amb, cl6, fun _ => ⟨rf6, frr⟩, fun en => (no hdm en).elim, (fun _ _ _ _ e => by cases e), fun i' z' ez hz' _ y H' hbk s' => ?_⟩
          cases ez
          have := doors_nd hz' hd
          subst this
          exact key _ _ ⟨y, rfl, hbk, J6.same s', k6.trans (s'.kp j)⟩
      rintro v' H7 ⟨y, rfl, hby, J7, k7⟩
      have K7 : KT H4 H7 := K5.trans (J5.kt k7)
      obtain ⟨dxy, ly, hpy, _, _⟩ := id hby
      obtain ⟨_, ws7, ew, hs7, pr7⟩ := id (K7.six h64)
      cases ew
      have w6 : ws7.length = 6 := pr7.length
      have nl7 := k7 _ _ nlj nl5
      refine ⟨_, rfl, y, dxy, _, rfl, hpy, rfl, y, _, rfl, hby, fun v2 h62 => ?_⟩
      refine ⟨_, rfl, _, rfl, _, rfl, ?_⟩
      refine slA_of hs7 fun p1 H8 hp1 s8 => ?_
      refine ⟨_, rfl, by show 1 ≤ sizeLine; decide, fun to hto => ?_⟩
      have s9 := same_new (o := .tup [.ref fa]) hto
      have c1 : cutV ws7 none (some (0 + (i : Int))) = ws7.take i := by rw [Int.zero_add]; exact cut_lo (by omega)
      have c2 : cutV ws7 (some (0 + (i : Int) + 1)) none = ws7.drop (i + 1) := by
        rw [show 0 + (i : Int) + 1 = ((i + 1 : Nat) : Int) by omega]
        exact cut_hi (by omega)
      rw [c1] at hp1
      refine catA_of (sqT_same s9 hp1) (SqT.of upd_same) ?_ fun p2 H10 hp2 s10 => ?_
      · have := List.length_take_le i ws7
        show _ + 1 ≤ 1000
        omega
      refine ⟨_, rfl, _, rfl, _, _, rfl, rfl, _, rfl, ?_⟩
      dsimp only [tNoPart]
      have s810 := (s8.trans s9).trans s10
      refine slA_of (sqT_same s810 hs7) fun p3 H11 hp3 s11 => ?_
      rw [c2] at hp3
      refine catA_of (sqT_same s11 hp2) hp3 ?_ fun p4 H12 hp4 s12 => ?_
      · have := List.length_take_le i ws7
        rw [List.length_append, List.length_drop, List.length_singleton]
        omega
      have sT := (s810.trans s11).trans s12
      have K12 := K7.trans sT.kt
      have six12 : SixAt K H12 (.ref p4) ([q0, q1, q2, q3, q4, q5].set i fr) := ⟨p4, _, rfl, hp4, paired_mid (K12.rule rf4) i (sT.kt.rules pr7) (by omega)⟩
      refine ⟨dSix _, dSix _, (sT.kt.six h62).dp, six12.dp, plain_six _, plain_six _, Nat.le_trans (depth_six _) (by decide), ?_⟩
      rw [eqv_six, decide_eq_true rfl]
      refine ⟨_, rfl, ?_⟩
      refine ite2 (fun c => by cases c) (fun _ => ?_)
      refine ⟨_, rfl, y, dxy, _, rfl, sT _ _ hpy, rfl, _, rfl, _, rfl, nl, _, _, _, rfl, rfl, SqL.of (sT _ _ nl7), door_at hd, ?_⟩
      refine ⟨y, .str d, _, _, rfl, sT.kt.book hby, amb, fun i' z' u r' ez hz' hr' ru => ?_, fun en => (no hdm en).elim⟩
      cases ez
      have := doors_nd hz' hd
      subst this
      rw [List.getElem?_set_self (show i' < 6 from hi6)] at hr'
      cases hr'
      refine ⟨_, rfl, dRule fr, dRule fr, ru.dp, (K12.rule rf4).dp, plain_rule _, plain_rule _, by rw [depth_rule]; decide, ?_⟩
      rw [eqv_rule, decide_eq_true rfl]
      refine ⟨_, rfl, ?_⟩
      refine ite2 (fun c => by cases c) (fun _ => ?_)
      exact ⟨_, _, rfl, J7.same sT, (k5.trans k7).trans (sT.kp j)⟩
    rintro σ H5 ⟨v5, v6, rfl, J5, k5⟩
    have K5 : KT H4 H5 := J4.kt k5
    have nl5 := k5 _ _ nlj nl4
    -- bad, thing, at
    refine ⟨_, rfl, _, rfl, j, .ref fa, _, fr, rfl, J5, by omega, K5.rule rf4, frr, fun bad H6 hbad J6 k6 => ?_⟩
    refine ⟨_, rfl, j, _, rfl, J6, by omega, fun thing H7 hth J7 k7 => ?_⟩
    refine ⟨_, rfl, j, 6, _, rfl, J7, by decide, by decide, by omega, fun at_ H8 ha0 ha1 J8 k8 => ?_⟩
    refine ⟨_, _, _, rfl, ?_⟩
    have k58 := (k6.trans k7).trans k8
    have K8 : KT H4 H8 := K5.trans (J5.kt k58)
    have hbad8 := (hbad.kp J6 k7).kp J7 k8
    have hth8 := hth.kp J7 k8
    have nl8 := k58 _ _ nlj nl5
    have rf8 := K8.rule rf4
    have hb8 := K8.book hb4
    obtain ⟨dxw, lw, hpw, _, _⟩ := id hb8
    have h68 := K8.six h64
    obtain ⟨d, hd, hdm, hda⟩ : ∃ d, doors[at_.toNat]? = some d ∧ d ∈ doors ∧ atI (doors.map V.str) at_ = some (.str d) := by
      have h5 : at_.toNat < doors.length := by show at_.toNat < 6; omega
      refine ⟨doors[at_.toNat], List.getElem?_eq_getElem h5, List.getElem_mem h5, at_of (j := at_.toNat) (by omega) ?_⟩
      rw [List.getElem?_map, List.getElem?_eq_getElem h5]
      rfl
    refine ⟨_, rfl, _, rfl, _, rfl, x, "with", thing, .ref fa, _, .err "NoDoor" thing, rfl, hb8, hrs, .w1 hth8 (ruleCl_of rf8 frr) (fun _ => ⟨rf8, frr⟩), fun t9 H9 ho9 s9 => ?_⟩
    refine ⟨_, rfl, t9, "NoDoor", thing, rfl, ho9, (hth8.same s9).1, ?_⟩
    refine ⟨_, rfl, ?_⟩
    refine ⟨_, rfl, _, rfl, _, rfl, x, "with", thing, bad, _, .err "NoDoor" thing, rfl, s9.kt.book hb8, hrs, .w1 (c := false) (r := []) (hth8.same s9) (hbad8.same s9).cl (fun e => by cases e), fun t10 H10 ho10 s10 => ?_⟩
    refine ⟨_, rfl, t10, "NoDoor", thing, rfl, ho10, ((hth8.same s9).same s10).1, ?_⟩
    refine ⟨_, rfl, ?_⟩
    have sA := s9.trans s10
    refine ⟨by show 2 ≤ sizeLine; decide, fun ld hld => ?_⟩
    have sB := sA.trans (same_new (o := .lst [.str "rule", .str "by name"]) hld)
    have ld0 : upd H10 ld (.lst [.str "rule", .str "by name"]) ld = some (.lst [.str "rule", .str "by name"]) := upd_same
    generalize upd H10 ld (.lst [.str "rule", .str "by name"]) = H11 at sB ld0
    refine ⟨ld, rfl, ⟨_, SqL.of ld0⟩, for_list (K := K) (a := ld) (xs := [.str "rule", .str "by name"]) (fun m σ H' => ∃ v10, σ = [some (.ref j), some (.ref nl), some (.ref sa), some (.ref fa), some (.ref x), v5, v6, some bad, some thing, some (.int at_), v10, none] ∧ Same H11 H') ?_ ?_ ?_ ?_⟩
    · exact ⟨_, rfl, Same.refl _⟩
    · rintro m σ H' _ ⟨_, _, s'⟩
      exact SqL.of (s' _ _ ld0)
    · rintro m y σ H12 hy ⟨v10, rfl, s12⟩
      obtain ⟨dd, hdd, rfl⟩ : ∃ dd : Str, (dd = "rule" ∨ dd = "by name") ∧ y = .str dd := by
        have : y ∈ ([.str "rule", .str "by name"] : List V) := List.mem_of_getElem? hy
        simp only [List.mem_cons, List.not_mem_nil, or_false] at this
        rcases this with rfl | rfl
        · exact ⟨_, .inl rfl, rfl⟩
        · exact ⟨_, .inr rfl, rfl⟩
      have sC := sB.trans s12
      refine ⟨_, rfl, _, rfl, _, rfl, x, dd, thing, .non, _, .err "NoDoor" thing, rfl, sC.kt.book hb8, hrs, .r1 hdd (hth8.same sC), fun t13 H13 ho13 s13 => ?_⟩
      refine ⟨_, rfl, t13, "NoDoor", thing, rfl, ho13, ((hth8.same sC).same s13).1, ?_⟩
      refine ⟨_, rfl, ?_⟩
      have sD := sC.trans s13
      obtain ⟨r, hr'⟩ : ∃ r, [q0, q1, q2, q3, q4, q5][at_.toNat]? = some r := ⟨_, List.getElem?_eq_getElem (show at_.toNat < 6 by omega)⟩
      refine ⟨_, rfl, _, rfl, _, rfl, _, rfl, nl, _, at_, .str d, rfl, rfl, SqL.of (sD _ _ nl8), hda, ?_⟩
      refine ⟨x, dd, .str d, .non, _, .made [r, [], [], [], [], []], rfl, sD.kt.book hb8, hrs, .r2 hdd hd hr', fun t14 H14 ho14 s14 => ?_⟩
      have sE := sD.trans s14
      obtain ⟨_, ws8, ew, hs8, pr8⟩ := id (sE.kt.six h68)
      cases ew
      obtain ⟨u, hu, ru⟩ := pair_get pr8 hr'
      refine ⟨_, rfl, _, rfl, sa, ws8, at_, u, rfl, rfl, hs8, at_of (j := at_.toNat) (by omega) hu, ?_⟩
      refine ⟨Nat.zero_le _, fun e1 he1 => ?_⟩
      have g1 := same_new (o := .tup []) he1
      refine ⟨Nat.zero_le _, fun e2 he2 => ?_⟩
      have g2 := same_new (o := .tup []) he2
      refine ⟨Nat.zero_le _, fun e3 he3 => ?_⟩
      have g3 := same_new (o := .tup []) he3
      refine ⟨Nat.zero_le _, fun e4 he4 => ?_⟩
      have g4 := same_new (o := .tup []) he4
      refine ⟨Nat.zero_le _, fun e5 he5 => ?_⟩
      have g5 := same_new (o := .tup []) he5
      refine ⟨by show 6 ≤ sizeLine; decide, fun t6 ht6 => ?_⟩
      have g6 := same_new (o := .tup [u, .ref e1, .ref e2, .ref e3, .ref e4, .ref e5]) ht6
      refine ⟨by show 2 ≤ sizeLine; decide, fun t7 ht7 => ?_⟩
      have g7 := same_new (o := .tup [.str "made", .ref t6]) ht7
      have gg6 := g6.trans g7
      have gg5 := g5.trans gg6
      have gg4 := g4.trans gg5
      have gg3 := g3.trans gg4
      have gg2 := g2.trans gg3
      have gg1 := g1.trans gg2
      have hsix : SixAt K _ (.ref t6) [r, [], [], [], [], []] := ⟨t6, _, rfl, sqT_same g7 (SqT.of upd_same), .cons (gg1.kt.rule ru) (.cons (gg2.kt.rule nil_new) (.cons (gg3.kt.rule nil_new) (.cons (gg4.kt.rule nil_new) (.cons (gg5.kt.rule nil_new) (.cons (gg6.kt.rule nil_new) .nil)))))⟩
      have hmade : OutAt K _ t7 (.made [r, [], [], [], [], []]) := ⟨.ref t6, upd_same, hsix⟩
      refine ⟨dMade _, dMade _, made_dp (ho14.same gg1), made_dp hmade, made_plain _, made_plain _, made_depth _, ?_⟩
      rw [refl_ (made_plain _)]
      refine ⟨_, rfl, ?_⟩
      refine ite2 (fun c => by cases c) (fun _ => ?_)
      exact ⟨_, rfl, ((s12.trans s13).trans s14).trans gg1⟩
    rintro σ H12 ⟨v10, rfl, s12⟩
    have sC := sB.trans s12
    refine ⟨_, rfl, _, rfl, _, rfl, nl, _, at_, .str d, rfl, rfl, SqL.of (sC _ _ nl8), hda, _, rfl, ?_⟩
    refine ⟨x, "with", .str d, bad, _, .err "NoRule" (.str d), rfl, sC.kt.book hb8, hrs, .w2 hd (hbad8.same sC).cl, fun t13 H13 ho13 s13 => ?_⟩
    have sD := sC.trans s13
    refine ⟨_, rfl, _, rfl, nl, _, at_, .str d, rfl, rfl, SqL.of (sD _ _ nl8), hda, ?_⟩
    refine ⟨t13, "NoRule", .str d, rfl, ho13, .inl (.str d), ?_⟩
    refine ⟨_, rfl, ?_⟩
    -- some
    have J13 := J8.same sD
    refine ⟨_, rfl, _, rfl, j, nl, _, rfl, J13, by omega, sD _ _ nl8, fun da zs H14 hz zl zsub znd J14 k14 => ?_⟩
    have K14 : KT H8 H14 := sD.kt.trans (J13.kt k14)
    have nl14 := k14 _ _ nlj (sD _ _ nl8)
    refine ⟨_, rfl, _, rfl, x, "ask", .ref da, .non, _, outAsk _ zs, rfl, K14.book hb8, hrs, .a1 hz (by omega) zsub znd, fun t15 H15 ho15 s15 => ?_⟩
    refine ⟨_, rfl, _, rfl, _, rfl, nl, da, .ref sa, _, zs, rfl, SqL.of (s15 _ _ nl14), s15.kt.six (K14.six h68), rfl, hrs, sqT_same s15 hz, fun t16 H16 ho16 s16 => ?_⟩
    refine ⟨dAsk _ _, dAsk _ _, ask_dp (ho15.same s16), ask_dp ho16, ask_plain _ _, ask_plain _ _, ask_depth _ _, ?_⟩
    rw [refl_ (ask_plain _ _)]
    refine ⟨_, rfl, ?_⟩
    refine ite2 (fun c => by cases c) (fun _ => ?_)
    have sF := s15.trans s16
    have J16 := J14.same sF
    refine ⟨_, rfl, _, rfl, _, rfl, j, .ref da, _, zs, rfl, J16, by omega, ⟨da, rfl, sqT_same sF hz⟩, zl, fun nd H17 hnd J17 k17 => ?_⟩
    have K17 : KT H8 H17 := (K14.trans sF.kt).trans (J16.kt k17)
    refine ⟨x, "ask", nd, .non, _, .none_, rfl, K17.book hb8, hrs, .a2 hnd.cl, fun t18 H18 ho18 s18 => ?_⟩
    refine ⟨by show 2 ≤ sizeLine; decide, fun t19 ht19 => ?_⟩
    have s19 := same_new (o := .tup [.str "NoDoors", .bl true]) ht19
    refine ⟨.tuple [.str "NoDoors", .bool true], .tuple [.str "NoDoors", .bool true], .tup (SqT.of (s19 _ _ ho18)) (.cons (.str _) (.cons (.bl _) .nil)), .tup (SqT.of upd_same) (.cons (.str _) (.cons (.bl _) .nil)), rfl, rfl, by decide, ?_⟩
    rw [refl_ rfl]
    refine ⟨_, rfl, ?_⟩
    refine ite2 (fun c => by cases c) (fun _ => ?_)
    have sG := s18.trans s19
    have K19 := K17.trans sG.kt
    have hb19 := K19.book hb8
    have hp19 := K19 _ _ (fun _ z => by cases z) hpw
    have h619 := K19.six h68
    refine ⟨_, rfl, x, dxw, _, rfl, hp19, rfl, x, _, rfl, hb19, fun v2 h62 => ?_⟩
    refine ⟨_, rfl, dSix _, dSix _, h62.dp, h619.dp, plain_six _, plain_six _, Nat.le_trans (depth_six _) (by decide), ?_⟩
    rw [eqv_six, decide_eq_true rfl]
    refine ⟨_, rfl, ?_⟩
    refine ite2 (fun _ => ?_) (fun c => absurd rfl c)
    refine ⟨_, rfl, x, dxw, _, rfl, hp19, rfl, Nat.zero_le _, fun e9 he9 => ?_⟩
    have s20 := same_new (o := .tup []) he9
    refine ⟨rfl, x, .ref e9, true, [], _, rfl, s20.kt.book hb19, hrs, doors_nil (SqT.of upd_same), fun _ => ⟨e9, rfl, SqT.of upd_same, fun z hz => by cases hz⟩, (fun e => by cases e), fun _ => ⟨fun i z r _ _ hm => (by cases hm), fun _ y H21 hby s21 => ?_⟩⟩
    rw [asked_nil rfl] at hby
    obtain ⟨dxy, ly, hpy, _, _⟩ := id hby
    refine ⟨y, dxy, _, rfl, hpy, rfl, y, _, rfl, hby, fun v3 h63 => ?_⟩
    have sH := s20.trans s21
    refine ⟨_, rfl, dSix _, dSix _, h63.dp, (sH.kt.six h619).dp, plain_six _, plain_six _, Nat.le_trans (depth_six _) (by decide), ?_⟩
    rw [eqv_six, decide_eq_true rfl]
    refine q _ ((J17.same (sG.trans sH)).mono (by omega)) ?_
    exact ((((((k04.trans k5).trans k58).trans (sD.kp j)).trans k14).trans (sF.kp j)).trans k17).trans ((sG.trans sH).kp j)
end
end Sh

namespace Sh
open PySem L2
section
variable {P : Program} {w : World} {K : PySem.W.Frag} {mg : Str → Option Value} {base : Heap} {aA aD : Addr}
abbrev s_law : Stmt := top 27
abbrev nLaw : List Str := ["script", "k", "jar", "turn"]
theorem sc_law : FnScope nLaw ["script"] (defScope s_law) := ⟨rfl, rfl, rfl, by decide +kernel, rfl, by decide +kernel, by decide +kernel⟩
theorem ok_law {f fJ fR : Addr} {fd fdJ fdR : FuncData} (F : Fun K "law" "law" s_law f fd) (T : TxtB mg) (bmin : mg "min" = none)
    (gJ : mg "_law_jar" = some (.ref fJ)) (kJ : PySem.W.keepIn K (.ref fJ) = true) (bJ : Binds K fdJ ["script", "k"] []) (GJ : FnOk P w K mg base CX0 1 fJ fdJ ["script", "k"] (spJar K))
    (gR : mg "_law_right" = some (.ref fR)) (kR : PySem.W.keepIn K (.ref fR) = true) (bR : Binds K fdR ["jar"] []) (GR : FnOk P w K mg base CX0 8 fR fdR ["jar"] spRight) : FnOk P w K mg base CX0 9 f fd ["script"] (spLaw K) := by
  refine F.ok sc_law (fun vs H Q E h => ?_) (fun cdv A outer s H vs Q E hr h => ?_)
  · obtain ⟨a, ns, rfl, _⟩ := h
    rfl
  · obtain ⟨a, ns, rfl, hS, hlen, q⟩ := h
    have r1 : Room 1 _ := hr.mono (by decide)
    refine ⟨_, (pss_cons (ps_for PassesOwn.never rfl (pi_range1 (by rfl) T.b_range (pa_cons (pe_callB (call_max2 rfl) (by rfl) T.b_max (by decide +kernel) (pa_cons pe_int (pa_cons (pe_callB (call_min2 rfl) (by rfl) bmin (by decide +kernel) (pa_cons pe_int (pa_cons (pe_callB call_len_seq (by rfl) T.b_len (by decide +kernel) (pa_cons (pv 0) pa_nil)) pa_nil))) pa_nil))) pa_nil)) (pg_name (i := 1) sc_law.nd rfl (Or.inl rfl)) (pss_cons (ps_set (i := 2) sc_law.nd rfl (Or.inl rfl) (pe_call GJ r1 (by rfl) gJ kJ bJ .nil pass0 (pa_cons (pv 0) (pa_cons (pv 1) pa_nil))))
  (pss_one (ps_for PassesOwn.never rfl (pi_range1 (by rfl) T.b_range (pa_cons pe_int pa_nil)) (pg_name (i := 3) sc_law.nd rfl (Or.inl rfl)) (pss_one (ps_if (pt_not (pt_val (pe_call GR hr (by rfl) gR kR bR .nil pass0 (pa_cons (pv 2) pa_nil)))) (pss_one (ps_ret pe_bl)) pss_nil))))))
  (pss_one (ps_ret pe_bl))), ?_⟩
    refine ⟨_, rfl, a, _, rfl, .inl hS, _, _, rfl, _, _, rfl, ?_⟩
    have hN := rng_le 8 (ns.map V.int).length (by decide)
    refine ⟨_, rfl, by omega, by omega, for_range (lo := 0) (n := _) (fun i σ H' => ∃ v1 v2 v3, σ = [some (.ref a), v1, v2, v3] ∧ Same H H') ?_ ?_ ?_⟩
    · exact ⟨_, _, _, rfl, Same.refl _⟩
    · rintro i σ H1 hi ⟨v1, v2, v3, rfl, s1⟩
      refine ⟨_, rfl, _, rfl, a, ns, _, rfl, s1.seq hS, by omega, by omega, fun j H2 J2 nj s2 => ?_⟩
      have nj0 : H j = none := s1.free nj
      refine ⟨2, rfl, by decide, by decide, for_range (lo := 0) (n := 2) (fun m σ H' => ∃ v3, σ = [some (.ref a), some (.int (0 + i)), some (.ref j), v3] ∧ JarAt H' j (1000 * m) ∧ Same H H') ?_ ?_ ?_⟩
      · exact ⟨_, rfl, J2, s1.trans s2⟩
      · rintro m σ H3 hm ⟨v3, rfl, J3, s3⟩
        have hm2 : m < 2 := hm
        refine ⟨_, rfl, j, 1000 * m, rfl, J3, by omega, fun H4 J4 k4 => ?_⟩
        refine ⟨_, rfl, ?_⟩
        exact ⟨_, rfl, J4.mono (by omega), same_kp s3 nj0 k4⟩
      · rintro σ H3 ⟨v3, rfl, J3, s3⟩
        exact ⟨_, _, _, rfl, s3⟩
    · rintro σ H1 _
      exact q _
end
end Sh

namespace Sh
open PySem L2
theorem kit_cls {K : PySem.W.Frag} {C D : Addr} {b : Bool} (ne : C ≠ D) (hdct : PySem.W.hasDictIn K D = true) (ht : PySem.W.typeIn K (.ref D) = some (.type "type")) (h : PySem.W.subIn K (.ref C) (.ref D) = some b) : PySem.W.kitOne K (.ref C) (.ref D) = some b := by
  obtain ⟨cd, hc, _⟩ := PySem.W.any_some hdct
  have e0 : ¬ ((Value.ref C) == (Value.ref D)) = true := fun e => ne (Value.ref.inj (eq_of_beq e))
  have e2 : ((PySem.W.clsIn K D).isSome && PySem.W.typeIn K (.ref D) == some (.type "type")) = true := by rw [hc, ht] <;> rfl
  show (if ((Value.ref C) == (Value.ref D)) = true then some true else (if ((PySem.W.clsIn K D).isSome && PySem.W.typeIn K (.ref D) == some (.type "type")) = true then PySem.W.subIn K (.ref C) (.ref D) else none)) = some b
  rw [if_neg e0, if_pos e2]
  exact h
theorem kit_blt {K : PySem.W.Frag} {C : Addr} {T : String} {b : Bool} (hm : PySem.W.kitMeta T = true) (h : PySem.W.subIn K (.ref C) (.type T) = some b) : PySem.W.kitOne K (.ref C) (.type T) = some b := by
  have e0 : ¬ ((Value.ref C) == (Value.type T)) = true := fun e => by cases eq_of_beq e
  show (if ((Value.ref C) == (Value.type T)) = true then some true else (if PySem.W.kitMeta T = true then PySem.W.subIn K (.ref C) (.type T) else none)) = some b
  rw [if_neg e0, if_pos hm]
  exact h
theorem kit_self {K : PySem.W.Frag} {C : Addr} : PySem.W.kitOne K (.ref C) (.ref C) = some true := by
  have e : ((Value.ref C) == (Value.ref C)) = true := by first | exact beq_self_eq_true _ | simp | rfl
  show (if ((Value.ref C) == (Value.ref C)) = true then some true else PySem.W.kitCls K (.ref C) (.ref C)) = some true
  rw [if_pos e]
theorem init_b1 {K : PySem.W.Frag} {f : Addr} {fd : FuncData} {d0 d1 d2 d3 d4 d5 : V} (F : FunD K "__init__" "Book.__init__" (defArgs s_init) (defBody s_init) (defScope s_init) [d0, d1, d2, d3, d4, d5] [] f fd) : ∃ ds, Vals [d1, d2, d3, d4, d5] ds ∧ Binds K fd pI ds :=
  F.binds1 2 1 (fun z => by cases z) rfl fun _ _ _ _ _ _ _ us its h1 h2 => match us, its, h1, h2 with | [_, _], [_, _, _, _, _, _], _, _ => ⟨_, rfl, rfl⟩
theorem all_mk {l : PySem.W.OpenLaw} {w : World} {K : PySem.W.Frag} {h : Heap} {mg : Str → Option Value} {fa A_ACTIONS A_DOORS C_NoRule f_eNoRule N_NoRule C_NoDoor f_eNoDoor N_NoDoor C_Book T_d A_d0 A_d1 A_d2 A_d3 A_d4 A_d5 f_init f_brule f_brules f_bwith f_bask C_NoDoors f_is_action f_is_rule f_is_door f_are_distinct_doors f__law_jar f__law_draw f__law_rule f__law_six f__law_no_rule f__law_no_door f__law_no_doors f__law_come f__law_is f__law_asked f__law_doors f__law_right f_law C_ShownError : Addr} (X : K.In h) (G : h.Ns mainGlobals mg) (hfa : mg "law" = some (.ref fa))
    {its_ACTIONS : Array Value} {n_ACTIONS : Nat} {sl_ACTIONS : Array (Option Value)}
    {its_DOORS : Array Value} {n_DOORS : Nat} {sl_DOORS : Array (Option Value)}
    {t_MOST_ACTIONS : Tok}
    {nm_NoRule q_NoRule : Str} {bs_NoRule bm_NoRule : List Value} {sn_NoRule : List Str} {sub_NoRule : List Value} {ab_NoRule : Bool} {col_NoRule : Option Bool} {dd_NoRule : Option Addr} {m0_NoRule m1_NoRule m2_NoRule m3_NoRule m5_NoRule : Option Value}
    {od_eNoRule an_eNoRule : Option Addr} {sl_eNoRule : Array (Option Value)} {oc_eNoRule kV_eNoRule dc_eNoRule pm_eNoRule cd_eNoRule ct_eNoRule : Value}
    {nm_NoDoor q_NoDoor : Str} {bs_NoDoor bm_NoDoor : List Value} {sn_NoDoor : List Str} {sub_NoDoor : List Value} {ab_NoDoor : Bool} {col_NoDoor : Option Bool} {dd_NoDoor : Option Addr} {m0_NoDoor m1_NoDoor m2_NoDoor m3_NoDoor m5_NoDoor : Option Value}
    {od_eNoDoor an_eNoDoor : Option Addr} {sl_eNoDoor : Array (Option Value)} {oc_eNoDoor kV_eNoDoor dc_eNoDoor pm_eNoDoor cd_eNoDoor ct_eNoDoor : Value}
    {oT : Option Addr} {nT : Nat} {slT : Array (Option Value)} {cT : Value}
    {od_init an_init : Option Addr} {sl_init : Array (Option Value)} {oc_init kV_init dc_init pm_init cd_init ct_init : Value}
    {o_d0 : Option Addr} {n_d0 : Nat} {sl_d0 : Array (Option Value)}
    {o_d1 : Option Addr} {n_d1 : Nat} {sl_d1 : Array (Option Value)}
    {o_d2 : Option Addr} {n_d2 : Nat} {sl_d2 : Array (Option Value)}
    {o_d3 : Option Addr} {n_d3 : Nat} {sl_d3 : Array (Option Value)}
    {o_d4 : Option Addr} {n_d4 : Nat} {sl_d4 : Array (Option Value)}
    {o_d5 : Option Addr} {n_d5 : Nat} {sl_d5 : Array (Option Value)}
    {od_brule an_brule : Option Addr} {sl_brule : Array (Option Value)} {oc_brule kV_brule dc_brule pm_brule cd_brule ct_brule : Value}
    {od_brules an_brules : Option Addr} {sl_brules : Array (Option Value)} {oc_brules kV_brules dc_brules pm_brules cd_brules ct_brules : Value}
    {od_bwith an_bwith : Option Addr} {sl_bwith : Array (Option Value)} {oc_bwith kV_bwith dc_bwith pm_bwith cd_bwith ct_bwith : Value}
    {od_bask an_bask : Option Addr} {sl_bask : Array (Option Value)} {oc_bask kV_bask dc_bask pm_bask cd_bask ct_bask : Value}
    {od_is_action an_is_action : Option Addr} {sl_is_action : Array (Option Value)} {oc_is_action kV_is_action dc_is_action pm_is_action cd_is_action ct_is_action : Value}
    {od_is_rule an_is_rule : Option Addr} {sl_is_rule : Array (Option Value)} {oc_is_rule kV_is_rule dc_is_rule pm_is_rule cd_is_rule ct_is_rule : Value}
    {od_is_door an_is_door : Option Addr} {sl_is_door : Array (Option Value)} {oc_is_door kV_is_door dc_is_door pm_is_door cd_is_door ct_is_door : Value}
    {od_are_distinct_doors an_are_distinct_doors : Option Addr} {sl_are_distinct_doors : Array (Option Value)} {oc_are_distinct_doors kV_are_distinct_doors dc_are_distinct_doors pm_are_distinct_doors cd_are_distinct_doors ct_are_distinct_doors : Value}
    {od__law_jar an__law_jar : Option Addr} {sl__law_jar : Array (Option Value)} {oc__law_jar kV__law_jar dc__law_jar pm__law_jar cd__law_jar ct__law_jar : Value}
    {od__law_draw an__law_draw : Option Addr} {sl__law_draw : Array (Option Value)} {oc__law_draw kV__law_draw dc__law_draw pm__law_draw cd__law_draw ct__law_draw : Value}
    {od__law_rule an__law_rule : Option Addr} {sl__law_rule : Array (Option Value)} {oc__law_rule kV__law_rule dc__law_rule pm__law_rule cd__law_rule ct__law_rule : Value}
    {od__law_six an__law_six : Option Addr} {sl__law_six : Array (Option Value)} {oc__law_six kV__law_six dc__law_six pm__law_six cd__law_six ct__law_six : Value}
    {od__law_no_rule an__law_no_rule : Option Addr} {sl__law_no_rule : Array (Option Value)} {oc__law_no_rule kV__law_no_rule dc__law_no_rule pm__law_no_rule cd__law_no_rule ct__law_no_rule : Value}
    {od__law_no_door an__law_no_door : Option Addr} {sl__law_no_door : Array (Option Value)} {oc__law_no_door kV__law_no_door dc__law_no_door pm__law_no_door cd__law_no_door ct__law_no_door : Value}
    {od__law_no_doors an__law_no_doors : Option Addr} {sl__law_no_doors : Array (Option Value)} {oc__law_no_doors kV__law_no_doors dc__law_no_doors pm__law_no_doors cd__law_no_doors ct__law_no_doors : Value}
    {od__law_come an__law_come : Option Addr} {sl__law_come : Array (Option Value)} {oc__law_come kV__law_come dc__law_come pm__law_come cd__law_come ct__law_come : Value}
    {od__law_is an__law_is : Option Addr} {sl__law_is : Array (Option Value)} {oc__law_is kV__law_is dc__law_is pm__law_is cd__law_is ct__law_is : Value}
    {od__law_asked an__law_asked : Option Addr} {sl__law_asked : Array (Option Value)} {oc__law_asked kV__law_asked dc__law_asked pm__law_asked cd__law_asked ct__law_asked : Value}
    {od__law_doors an__law_doors : Option Addr} {sl__law_doors : Array (Option Value)} {oc__law_doors kV__law_doors dc__law_doors pm__law_doors cd__law_doors ct__law_doors : Value}
    {od__law_right an__law_right : Option Addr} {sl__law_right : Array (Option Value)} {oc__law_right kV__law_right dc__law_right pm__law_right cd__law_right ct__law_right : Value}
    {od_law an_law : Option Addr} {sl_law : Array (Option Value)} {oc_law kV_law dc_law pm_law cd_law ct_law : Value}
    (z_int : PySem.W.nsIn K mainGlobals "int" = some none)
    (z_len : PySem.W.nsIn K mainGlobals "len" = some none)
    (z_abs : PySem.W.nsIn K mainGlobals "abs" = some none)
    (z_max : PySem.W.nsIn K mainGlobals "max" = some none)
    (z_range : PySem.W.nsIn K mainGlobals "range" = some none)
    (z_tuple : PySem.W.nsIn K mainGlobals "tuple" = some none)
    (z_str : PySem.W.nsIn K mainGlobals "str" = some none)
    (z_isinstance : PySem.W.nsIn K mainGlobals "isinstance" = some none)
    (z_all : PySem.W.nsIn K mainGlobals "all" = some none)
    (z_zip : PySem.W.nsIn K mainGlobals "zip" = some none)
    (z_min : PySem.W.nsIn K mainGlobals "min" = some none)
    (z_list : PySem.W.nsIn K mainGlobals "list" = some none)
    (z_set : PySem.W.nsIn K mainGlobals "set" = some none)
    (z_bool : PySem.W.nsIn K mainGlobals "bool" = some none)
    (a_ACTIONS : PySem.W.nsIn K mainGlobals "ACTIONS" = some (some (.ref A_ACTIONS)))
    (l_ACTIONS : K.lookup A_ACTIONS = some ⟨.type "tuple", none, .seq its_ACTIONS n_ACTIONS, sl_ACTIONS⟩)
    (z_ACTIONS : its_ACTIONS.size ≤ sizeLine)
    (v_ACTIONS : Vals (Sh.acts.map V.str) its_ACTIONS.toList)
    (a_DOORS : PySem.W.nsIn K mainGlobals "DOORS" = some (some (.ref A_DOORS)))
    (l_DOORS : K.lookup A_DOORS = some ⟨.type "tuple", none, .seq its_DOORS n_DOORS, sl_DOORS⟩)
    (z_DOORS : its_DOORS.size ≤ sizeLine)
    (v_DOORS : Vals (Sh.doors.map V.str) its_DOORS.toList)
    (a_MOST_ACTIONS : PySem.W.nsIn K mainGlobals "MOST_ACTIONS" = some (some (.int 6 t_MOST_ACTIONS)))
    (a_NoRule : PySem.W.nsIn K mainGlobals "NoRule" = some (some (.ref C_NoRule)))
    (x_NoRule : K.lookup C_NoRule = some (PySem.excClassObj nm_NoRule q_NoRule C_NoRule N_NoRule bs_NoRule bm_NoRule true sn_NoRule sub_NoRule ab_NoRule col_NoRule dd_NoRule m0_NoRule m1_NoRule m2_NoRule m3_NoRule m5_NoRule "ValueError.__new__"))
    (r_NoRule : PySem.HandSPX.refsVE bm_NoRule = true)
    (sa_NoRule : PySem.W.findIn K (.ref C_NoRule) "__setattr__" = some (some (.builtin "object.__setattr__")))
    (no_NoRule : PySem.W.findIn K (.ref C_NoRule) "door" = some none)
    (a_eNoRule : PySem.W.findIn K (.ref C_NoRule) "__init__" = some (some (.ref f_eNoRule)))
    (t_eNoRule : PySem.W.typeIn K (.ref f_eNoRule) = some (.type "function"))
    (l_eNoRule : K.lookup f_eNoRule = some ⟨oc_eNoRule, od_eNoRule, .func (PySem.W.fnOf "__init__" "NoRule.__init__" (defArgs Sh.s_eRule) (defBody Sh.s_eRule) (defScope Sh.s_eRule) .none kV_eNoRule dc_eNoRule pm_eNoRule an_eNoRule cd_eNoRule ct_eNoRule), sl_eNoRule⟩)
    (c_eNoRule : PySem.W.codeIn K cd_eNoRule "NoRule.__init__" = true)
    (k_eNoRule : PySem.W.keepIn K (.ref f_eNoRule) = true)
    (kc_NoRule : PySem.W.keepIn K (.ref C_NoRule) = true)
    (ec_NoRule : PySem.W.subIn K (.ref C_NoRule) (.type "BaseException") = some true)
    (tc_NoRule : PySem.W.typeIn K (.ref C_NoRule) = some (.type "type"))
    (a_NoDoor : PySem.W.nsIn K mainGlobals "NoDoor" = some (some (.ref C_NoDoor)))
    (x_NoDoor : K.lookup C_NoDoor = some (PySem.excClassObj nm_NoDoor q_NoDoor C_NoDoor N_NoDoor bs_NoDoor bm_NoDoor true sn_NoDoor sub_NoDoor ab_NoDoor col_NoDoor dd_NoDoor m0_NoDoor m1_NoDoor m2_NoDoor m3_NoDoor m5_NoDoor "ValueError.__new__"))
    (r_NoDoor : PySem.HandSPX.refsVE bm_NoDoor = true)
    (sa_NoDoor : PySem.W.findIn K (.ref C_NoDoor) "__setattr__" = some (some (.builtin "object.__setattr__")))
    (no_NoDoor : PySem.W.findIn K (.ref C_NoDoor) "door" = some none)
    (a_eNoDoor : PySem.W.findIn K (.ref C_NoDoor) "__init__" = some (some (.ref f_eNoDoor)))
    (t_eNoDoor : PySem.W.typeIn K (.ref f_eNoDoor) = some (.type "function"))
    (l_eNoDoor : K.lookup f_eNoDoor = some ⟨oc_eNoDoor, od_eNoDoor, .func (PySem.W.fnOf "__init__" "NoDoor.__init__" (defArgs Sh.s_eDoor) (defBody Sh.s_eDoor) (defScope Sh.s_eDoor) .none kV_eNoDoor dc_eNoDoor pm_eNoDoor an_eNoDoor cd_eNoDoor ct_eNoDoor), sl_eNoDoor⟩)
    (c_eNoDoor : PySem.W.codeIn K cd_eNoDoor "NoDoor.__init__" = true)
    (k_eNoDoor : PySem.W.keepIn K (.ref f_eNoDoor) = true)
    (kc_NoDoor : PySem.W.keepIn K (.ref C_NoDoor) = true)
    (ec_NoDoor : PySem.W.subIn K (.ref C_NoDoor) (.type "BaseException") = some true)
    (tc_NoDoor : PySem.W.typeIn K (.ref C_NoDoor) = some (.type "type"))
    (a_Book : PySem.W.nsIn K mainGlobals "Book" = some (some (.ref C_Book)))
    (pg_Book : PySem.W.plainGet K C_Book Str.empty = true)
    (hd_Book : PySem.W.hasDictIn K C_Book = true)
    (po_Book : PySem.W.plainOver K C_Book = true)
    (sa_Book : PySem.W.findIn K (.ref C_Book) "__setattr__" = some (some (.builtin "object.__setattr__")))
    (mk_Book : PySem.W.makesIn K C_Book = true)
    (kc_Book : PySem.W.keepIn K (.ref C_Book) = true)
    (n_Book__rules : PySem.W.findIn K (.ref C_Book) "_rules" = some none)
    (a_init : PySem.W.findIn K (.ref C_Book) "__init__" = some (some (.ref f_init)))
    (i_init : PySem.W.isFn K (.ref f_init) = true)
    (l_init : K.lookup f_init = some ⟨oc_init, od_init, .func (PySem.W.fnOf "__init__" "Book.__init__" (defArgs Sh.s_init) (defBody Sh.s_init) (defScope Sh.s_init) (.ref T_d) kV_init dc_init pm_init an_init cd_init ct_init), sl_init⟩)
    (c_init : PySem.W.codeIn K cd_init "Book.__init__" = true)
    (k_init : PySem.W.keepIn K (.ref f_init) = true)
    (l_d : K.lookup T_d = some ⟨cT, oT, .seq #[.ref A_d0, .ref A_d1, .ref A_d2, .ref A_d3, .ref A_d4, .ref A_d5] nT, slT⟩)
    (l_d0 : K.lookup A_d0 = some ⟨.type "tuple", o_d0, .seq #[] n_d0, sl_d0⟩)
    (l_d1 : K.lookup A_d1 = some ⟨.type "tuple", o_d1, .seq #[] n_d1, sl_d1⟩)
    (l_d2 : K.lookup A_d2 = some ⟨.type "tuple", o_d2, .seq #[] n_d2, sl_d2⟩)
    (l_d3 : K.lookup A_d3 = some ⟨.type "tuple", o_d3, .seq #[] n_d3, sl_d3⟩)
    (l_d4 : K.lookup A_d4 = some ⟨.type "tuple", o_d4, .seq #[] n_d4, sl_d4⟩)
    (l_d5 : K.lookup A_d5 = some ⟨.type "tuple", o_d5, .seq #[] n_d5, sl_d5⟩)
    (a_brule : PySem.W.findIn K (.ref C_Book) "rule" = some (some (.ref f_brule)))
    (i_brule : PySem.W.isFn K (.ref f_brule) = true)
    (l_brule : K.lookup f_brule = some ⟨oc_brule, od_brule, .func (PySem.W.fnOf "rule" "Book.rule" (defArgs Sh.s_brule) (defBody Sh.s_brule) (defScope Sh.s_brule) .none kV_brule dc_brule pm_brule an_brule cd_brule ct_brule), sl_brule⟩)
    (c_brule : PySem.W.codeIn K cd_brule "Book.rule" = true)
    (k_brule : PySem.W.keepIn K (.ref f_brule) = true)
    (a_brules : PySem.W.findIn K (.ref C_Book) "rules" = some (some (.ref f_brules)))
    (i_brules : PySem.W.isFn K (.ref f_brules) = true)
    (l_brules : K.lookup f_brules = some ⟨oc_brules, od_brules, .func (PySem.W.fnOf "rules" "Book.rules" (defArgs Sh.s_brules) (defBody Sh.s_brules) (defScope Sh.s_brules) .none kV_brules dc_brules pm_brules an_brules cd_brules ct_brules), sl_brules⟩)
    (c_brules : PySem.W.codeIn K cd_brules "Book.rules" = true)
    (k_brules : PySem.W.keepIn K (.ref f_brules) = true)
    (a_bwith : PySem.W.findIn K (.ref C_Book) "with_rule" = some (some (.ref f_bwith)))
    (i_bwith : PySem.W.isFn K (.ref f_bwith) = true)
    (l_bwith : K.lookup f_bwith = some ⟨oc_bwith, od_bwith, .func (PySem.W.fnOf "with_rule" "Book.with_rule" (defArgs Sh.s_with) (defBody Sh.s_with) (defScope Sh.s_with) .none kV_bwith dc_bwith pm_bwith an_bwith cd_bwith ct_bwith), sl_bwith⟩)
    (c_bwith : PySem.W.codeIn K cd_bwith "Book.with_rule" = true)
    (k_bwith : PySem.W.keepIn K (.ref f_bwith) = true)
    (a_bask : PySem.W.findIn K (.ref C_Book) "asking" = some (some (.ref f_bask)))
    (i_bask : PySem.W.isFn K (.ref f_bask) = true)
    (l_bask : K.lookup f_bask = some ⟨oc_bask, od_bask, .func (PySem.W.fnOf "asking" "Book.asking" (defArgs Sh.s_ask) (defBody Sh.s_ask) (defScope Sh.s_ask) .none kV_bask dc_bask pm_bask an_bask cd_bask ct_bask), sl_bask⟩)
    (c_bask : PySem.W.codeIn K cd_bask "Book.asking" = true)
    (k_bask : PySem.W.keepIn K (.ref f_bask) = true)
    (a_NoDoors : PySem.W.nsIn K mainGlobals "NoDoors" = some (some (.ref C_NoDoors)))
    (xP_NoDoors : PySem.W.excIn K C_NoDoors [.type "ValueError", .type "Exception", .type "BaseException", .type "object"] "ValueError.__new__" = true)
    (kc_NoDoors : PySem.W.keepIn K (.ref C_NoDoors) = true)
    (ec_NoDoors : PySem.W.subIn K (.ref C_NoDoors) (.type "BaseException") = some true)
    (tc_NoDoors : PySem.W.typeIn K (.ref C_NoDoors) = some (.type "type"))
    (a_is_action : PySem.W.nsIn K mainGlobals "is_action" = some (some (.ref f_is_action)))
    (l_is_action : K.lookup f_is_action = some ⟨oc_is_action, od_is_action, .func (PySem.W.fnOf "is_action" "is_action" (defArgs Sh.s_isact) (defBody Sh.s_isact) (defScope Sh.s_isact) .none kV_is_action dc_is_action pm_is_action an_is_action cd_is_action ct_is_action), sl_is_action⟩)
    (c_is_action : PySem.W.codeIn K cd_is_action "is_action" = true)
    (k_is_action : PySem.W.keepIn K (.ref f_is_action) = true)
    (a_is_rule : PySem.W.nsIn K mainGlobals "is_rule" = some (some (.ref f_is_rule)))
    (l_is_rule : K.lookup f_is_rule = some ⟨oc_is_rule, od_is_rule, .func (PySem.W.fnOf "is_rule" "is_rule" (defArgs Sh.s_isrule) (defBody Sh.s_isrule) (defScope Sh.s_isrule) .none kV_is_rule dc_is_rule pm_is_rule an_is_rule cd_is_rule ct_is_rule), sl_is_rule⟩)
    (c_is_rule : PySem.W.codeIn K cd_is_rule "is_rule" = true)
    (k_is_rule : PySem.W.keepIn K (.ref f_is_rule) = true)
    (a_is_door : PySem.W.nsIn K mainGlobals "is_door" = some (some (.ref f_is_door)))
    (l_is_door : K.lookup f_is_door = some ⟨oc_is_door, od_is_door, .func (PySem.W.fnOf "is_door" "is_door" (defArgs Sh.s_isdoor) (defBody Sh.s_isdoor) (defScope Sh.s_isdoor) .none kV_is_door dc_is_door pm_is_door an_is_door cd_is_door ct_is_door), sl_is_door⟩)
    (c_is_door : PySem.W.codeIn K cd_is_door "is_door" = true)
    (k_is_door : PySem.W.keepIn K (.ref f_is_door) = true)
    (a_are_distinct_doors : PySem.W.nsIn K mainGlobals "are_distinct_doors" = some (some (.ref f_are_distinct_doors)))
    (l_are_distinct_doors : K.lookup f_are_distinct_doors = some ⟨oc_are_distinct_doors, od_are_distinct_doors, .func (PySem.W.fnOf "are_distinct_doors" "are_distinct_doors" (defArgs Sh.s_dist) (defBody Sh.s_dist) (defScope Sh.s_dist) .none kV_are_distinct_doors dc_are_distinct_doors pm_are_distinct_doors an_are_distinct_doors cd_are_distinct_doors ct_are_distinct_doors), sl_are_distinct_doors⟩)
    (c_are_distinct_doors : PySem.W.codeIn K cd_are_distinct_doors "are_distinct_doors" = true)
    (k_are_distinct_doors : PySem.W.keepIn K (.ref f_are_distinct_doors) = true)
    (a__law_jar : PySem.W.nsIn K mainGlobals "_law_jar" = some (some (.ref f__law_jar)))
    (l__law_jar : K.lookup f__law_jar = some ⟨oc__law_jar, od__law_jar, .func (PySem.W.fnOf "_law_jar" "_law_jar" (defArgs Sh.s_jar) (defBody Sh.s_jar) (defScope Sh.s_jar) .none kV__law_jar dc__law_jar pm__law_jar an__law_jar cd__law_jar ct__law_jar), sl__law_jar⟩)
    (c__law_jar : PySem.W.codeIn K cd__law_jar "_law_jar" = true)
    (k__law_jar : PySem.W.keepIn K (.ref f__law_jar) = true)
    (a__law_draw : PySem.W.nsIn K mainGlobals "_law_draw" = some (some (.ref f__law_draw)))
    (l__law_draw : K.lookup f__law_draw = some ⟨oc__law_draw, od__law_draw, .func (PySem.W.fnOf "_law_draw" "_law_draw" (defArgs Sh.s_draw) (defBody Sh.s_draw) (defScope Sh.s_draw) .none kV__law_draw dc__law_draw pm__law_draw an__law_draw cd__law_draw ct__law_draw), sl__law_draw⟩)
    (c__law_draw : PySem.W.codeIn K cd__law_draw "_law_draw" = true)
    (k__law_draw : PySem.W.keepIn K (.ref f__law_draw) = true)
    (a__law_rule : PySem.W.nsIn K mainGlobals "_law_rule" = some (some (.ref f__law_rule)))
    (l__law_rule : K.lookup f__law_rule = some ⟨oc__law_rule, od__law_rule, .func (PySem.W.fnOf "_law_rule" "_law_rule" (defArgs Sh.s_rule) (defBody Sh.s_rule) (defScope Sh.s_rule) .none kV__law_rule dc__law_rule pm__law_rule an__law_rule cd__law_rule ct__law_rule), sl__law_rule⟩)
    (c__law_rule : PySem.W.codeIn K cd__law_rule "_law_rule" = true)
    (k__law_rule : PySem.W.keepIn K (.ref f__law_rule) = true)
    (a__law_six : PySem.W.nsIn K mainGlobals "_law_six" = some (some (.ref f__law_six)))
    (l__law_six : K.lookup f__law_six = some ⟨oc__law_six, od__law_six, .func (PySem.W.fnOf "_law_six" "_law_six" (defArgs Sh.s_six) (defBody Sh.s_six) (defScope Sh.s_six) .none kV__law_six dc__law_six pm__law_six an__law_six cd__law_six ct__law_six), sl__law_six⟩)
    (c__law_six : PySem.W.codeIn K cd__law_six "_law_six" = true)
    (k__law_six : PySem.W.keepIn K (.ref f__law_six) = true)
    (a__law_no_rule : PySem.W.nsIn K mainGlobals "_law_no_rule" = some (some (.ref f__law_no_rule)))
    (l__law_no_rule : K.lookup f__law_no_rule = some ⟨oc__law_no_rule, od__law_no_rule, .func (PySem.W.fnOf "_law_no_rule" "_law_no_rule" (defArgs Sh.s_norule) (defBody Sh.s_norule) (defScope Sh.s_norule) .none kV__law_no_rule dc__law_no_rule pm__law_no_rule an__law_no_rule cd__law_no_rule ct__law_no_rule), sl__law_no_rule⟩)
    (c__law_no_rule : PySem.W.codeIn K cd__law_no_rule "_law_no_rule" = true)
    (k__law_no_rule : PySem.W.keepIn K (.ref f__law_no_rule) = true)
    (a__law_no_door : PySem.W.nsIn K mainGlobals "_law_no_door" = some (some (.ref f__law_no_door)))
    (l__law_no_door : K.lookup f__law_no_door = some ⟨oc__law_no_door, od__law_no_door, .func (PySem.W.fnOf "_law_no_door" "_law_no_door" (defArgs Sh.s_nodoor) (defBody Sh.s_nodoor) (defScope Sh.s_nodoor) .none kV__law_no_door dc__law_no_door pm__law_no_door an__law_no_door cd__law_no_door ct__law_no_door), sl__law_no_door⟩)
    (c__law_no_door : PySem.W.codeIn K cd__law_no_door "_law_no_door" = true)
    (k__law_no_door : PySem.W.keepIn K (.ref f__law_no_door) = true)
    (a__law_no_doors : PySem.W.nsIn K mainGlobals "_law_no_doors" = some (some (.ref f__law_no_doors)))
    (l__law_no_doors : K.lookup f__law_no_doors = some ⟨oc__law_no_doors, od__law_no_doors, .func (PySem.W.fnOf "_law_no_doors" "_law_no_doors" (defArgs Sh.s_nodoors) (defBody Sh.s_nodoors) (defScope Sh.s_nodoors) .none kV__law_no_doors dc__law_no_doors pm__law_no_doors an__law_no_doors cd__law_no_doors ct__law_no_doors), sl__law_no_doors⟩)
    (c__law_no_doors : PySem.W.codeIn K cd__law_no_doors "_law_no_doors" = true)
    (k__law_no_doors : PySem.W.keepIn K (.ref f__law_no_doors) = true)
    (a__law_come : PySem.W.nsIn K mainGlobals "_law_come" = some (some (.ref f__law_come)))
    (l__law_come : K.lookup f__law_come = some ⟨oc__law_come, od__law_come, .func (PySem.W.fnOf "_law_come" "_law_come" (defArgs Sh.s_come) (defBody Sh.s_come) (defScope Sh.s_come) .none kV__law_come dc__law_come pm__law_come an__law_come cd__law_come ct__law_come), sl__law_come⟩)
    (c__law_come : PySem.W.codeIn K cd__law_come "_law_come" = true)
    (k__law_come : PySem.W.keepIn K (.ref f__law_come) = true)
    (a__law_is : PySem.W.nsIn K mainGlobals "_law_is" = some (some (.ref f__law_is)))
    (l__law_is : K.lookup f__law_is = some ⟨oc__law_is, od__law_is, .func (PySem.W.fnOf "_law_is" "_law_is" (defArgs Sh.s_is) (defBody Sh.s_is) (defScope Sh.s_is) .none kV__law_is dc__law_is pm__law_is an__law_is cd__law_is ct__law_is), sl__law_is⟩)
    (c__law_is : PySem.W.codeIn K cd__law_is "_law_is" = true)
    (k__law_is : PySem.W.keepIn K (.ref f__law_is) = true)
    (a__law_asked : PySem.W.nsIn K mainGlobals "_law_asked" = some (some (.ref f__law_asked)))
    (l__law_asked : K.lookup f__law_asked = some ⟨oc__law_asked, od__law_asked, .func (PySem.W.fnOf "_law_asked" "_law_asked" (defArgs Sh.s_asked) (defBody Sh.s_asked) (defScope Sh.s_asked) .none kV__law_asked dc__law_asked pm__law_asked an__law_asked cd__law_asked ct__law_asked), sl__law_asked⟩)
    (c__law_asked : PySem.W.codeIn K cd__law_asked "_law_asked" = true)
    (k__law_asked : PySem.W.keepIn K (.ref f__law_asked) = true)
    (a__law_doors : PySem.W.nsIn K mainGlobals "_law_doors" = some (some (.ref f__law_doors)))
    (l__law_doors : K.lookup f__law_doors = some ⟨oc__law_doors, od__law_doors, .func (PySem.W.fnOf "_law_doors" "_law_doors" (defArgs Sh.s_doors) (defBody Sh.s_doors) (defScope Sh.s_doors) .none kV__law_doors dc__law_doors pm__law_doors an__law_doors cd__law_doors ct__law_doors), sl__law_doors⟩)
    (c__law_doors : PySem.W.codeIn K cd__law_doors "_law_doors" = true)
    (k__law_doors : PySem.W.keepIn K (.ref f__law_doors) = true)
    (a__law_right : PySem.W.nsIn K mainGlobals "_law_right" = some (some (.ref f__law_right)))
    (l__law_right : K.lookup f__law_right = some ⟨oc__law_right, od__law_right, .func (PySem.W.fnOf "_law_right" "_law_right" (defArgs Sh.s_right) (defBody Sh.s_right) (defScope Sh.s_right) .none kV__law_right dc__law_right pm__law_right an__law_right cd__law_right ct__law_right), sl__law_right⟩)
    (c__law_right : PySem.W.codeIn K cd__law_right "_law_right" = true)
    (k__law_right : PySem.W.keepIn K (.ref f__law_right) = true)
    (a_law : PySem.W.nsIn K mainGlobals "law" = some (some (.ref f_law)))
    (l_law : K.lookup f_law = some ⟨oc_law, od_law, .func (PySem.W.fnOf "law" "law" (defArgs Sh.s_law) (defBody Sh.s_law) (defScope Sh.s_law) .none kV_law dc_law pm_law an_law cd_law ct_law), sl_law⟩)
    (c_law : PySem.W.codeIn K cd_law "law" = true)
    (k_law : PySem.W.keepIn K (.ref f_law) = true)
    (hdx_NoDoor : PySem.W.hasDictIn K C_NoDoor = true)
    (ga_NoDoor : PySem.W.findIn K (.ref C_NoDoor) "__getattribute__" = some (some (.builtin "BaseException.__getattribute__")))
    (gg_NoDoor : PySem.W.findIn K (.ref C_NoDoor) "__getattr__" = some none)
    (hax_NoDoor : PySem.W.findIn K (.ref C_NoDoor) "__class__" = some (some (.builtin "object.__class__")))
    (hmx_NoDoor : PySem.W.mroIn K C_NoDoor (.type "object") = some true)
    (hnx : PySem.W.specialIn K (.builtin "object.__class__") "__get__" = some (some (.builtin "getset_descriptor.__get__")))
    (htx : PySem.W.takesIn K (.builtin "object.__class__") = some true)
    (hdx_NoRule : PySem.W.hasDictIn K C_NoRule = true)
    (ga_NoRule : PySem.W.findIn K (.ref C_NoRule) "__getattribute__" = some (some (.builtin "BaseException.__getattribute__")))
    (gg_NoRule : PySem.W.findIn K (.ref C_NoRule) "__getattr__" = some none)
    (hax_NoRule : PySem.W.findIn K (.ref C_NoRule) "__class__" = some (some (.builtin "object.__class__")))
    (hmx_NoRule : PySem.W.mroIn K C_NoRule (.type "object") = some true)
    (hdx_NoDoors : PySem.W.hasDictIn K C_NoDoors = true)
    (ga_NoDoors : PySem.W.findIn K (.ref C_NoDoors) "__getattribute__" = some (some (.builtin "BaseException.__getattribute__")))
    (gg_NoDoors : PySem.W.findIn K (.ref C_NoDoors) "__getattr__" = some none)
    (hax_NoDoors : PySem.W.findIn K (.ref C_NoDoors) "__class__" = some (some (.builtin "object.__class__")))
    (hmx_NoDoors : PySem.W.mroIn K C_NoDoors (.type "object") = some true)
    (a_ShownError : PySem.W.nsIn K mainGlobals "ShownError" = some (some (.ref C_ShownError)))
    (hdx_ShownError : PySem.W.hasDictIn K C_ShownError = true)
    (ec_ShownError : PySem.W.subIn K (.ref C_ShownError) (.type "BaseException") = some true)
    (tc_ShownError : PySem.W.typeIn K (.ref C_ShownError) = some (.type "type"))
    (s_NoDoor_NoDoor : PySem.W.subIn K (.ref C_NoDoor) (.ref C_NoDoor) = some true)
    (s_NoRule_NoDoor : PySem.W.subIn K (.ref C_NoRule) (.ref C_NoDoor) = some false)
    (s_NoRule_NoRule : PySem.W.subIn K (.ref C_NoRule) (.ref C_NoRule) = some true)
    (s_NoDoors_NoDoor : PySem.W.subIn K (.ref C_NoDoors) (.ref C_NoDoor) = some false)
    (s_NoDoors_NoRule : PySem.W.subIn K (.ref C_NoDoors) (.ref C_NoRule) = some false)
    (s_NoDoors_NoDoors : PySem.W.subIn K (.ref C_NoDoors) (.ref C_NoDoors) = some true)
    (s_NoDoor_ShownError : PySem.W.subIn K (.ref C_NoDoor) (.ref C_ShownError) = some true)
    (s_NoRule_ShownError : PySem.W.subIn K (.ref C_NoRule) (.ref C_ShownError) = some true)
    (s_NoDoors_ShownError : PySem.W.subIn K (.ref C_NoDoors) (.ref C_ShownError) = some true)
    (ne_NoDoor_ShownError : C_NoDoor ≠ C_ShownError)
    (ne_NoRule_ShownError : C_NoRule ≠ C_ShownError)
    (ne_NoDoors_ShownError : C_NoDoors ≠ C_ShownError) :
    ∃ fd : FuncData, (∀ (s : Shared) (v : Value), BindsTo s fd ⟨[v], []⟩ [("script", v)]) ∧ ∀ base : Heap, K.In base → base.Ns mainGlobals mg → FnOk l.prog w K mg base CX0 9 fa fd ["script"] (spLaw K) := by
  have e := hfa.symm.trans (PySem.W.mg_of X G a_law)
  cases e
  have B : TxtB mg := ⟨PySem.W.mg_none_of X G z_int, PySem.W.mg_none_of X G z_len, PySem.W.mg_none_of X G z_abs, PySem.W.mg_none_of X G z_max, PySem.W.mg_none_of X G z_range, PySem.W.mg_none_of X G z_tuple, PySem.W.mg_none_of X G z_str, PySem.W.mg_none_of X G z_isinstance, PySem.W.mg_none_of X G z_all, PySem.W.mg_none_of X G z_zip⟩
  have TK : TxtK K mg A_ACTIONS A_DOORS := ⟨PySem.W.mg_of X G a_ACTIONS, PySem.W.mg_of X G a_DOORS, ⟨_, PySem.W.mg_of X G a_MOST_ACTIONS⟩, ⟨_, _, _, l_ACTIONS, rfl, rfl, rfl, z_ACTIONS, v_ACTIONS⟩, ⟨_, _, _, l_DOORS, rfl, rfl, rfl, z_DOORS, v_DOORS⟩⟩
  have TE1 : ErrTxt K mg "NoRule" "door" C_NoRule f_eNoRule := ⟨⟨⟨_, _, _, _, _, _, _, _, _, _, _, _, _, _, _, x_NoRule, r_NoRule⟩, sa_NoRule, ec_NoRule, tc_NoRule, kc_NoRule⟩, no_NoRule, a_eNoRule, t_eNoRule, PySem.W.mg_of X G a_NoRule⟩
  have TE2 : ErrTxt K mg "NoDoor" "door" C_NoDoor f_eNoDoor := ⟨⟨⟨_, _, _, _, _, _, _, _, _, _, _, _, _, _, _, x_NoDoor, r_NoDoor⟩, sa_NoDoor, ec_NoDoor, tc_NoDoor, kc_NoDoor⟩, no_NoDoor, a_eNoDoor, t_eNoDoor, PySem.W.mg_of X G a_NoDoor⟩
  have TB : TxtBook K mg C_Book := ⟨⟨pg_Book, hd_Book, po_Book, sa_Book⟩, n_Book__rules, PySem.W.mg_of X G a_Book⟩
  have FE1 := fun_mk (st := s_eRule) l_eNoRule c_eNoRule k_eNoRule
  have FE2 := fun_mk (st := s_eDoor) l_eNoDoor c_eNoDoor k_eNoDoor
  have FI : FunD K "__init__" "Book.__init__" (defArgs s_init) (defBody s_init) (defScope s_init) [.ref A_d0, .ref A_d1, .ref A_d2, .ref A_d3, .ref A_d4, .ref A_d5] [] f_init _ := ⟨⟨_, _, _, _, _, _, _, _, _, _, rfl, l_init, c_init, .inr ⟨(fun z => by cases z), _, _, [.ref A_d0, .ref A_d1, .ref A_d2, .ref A_d3, .ref A_d4, .ref A_d5], _, rfl, l_d, rfl, (.cons rfl (.cons rfl (.cons rfl (.cons rfl (.cons rfl (.cons rfl .nil))))))⟩, .inl rfl⟩, k_init⟩
  have F_brule := fun_mk (st := s_brule) l_brule c_brule k_brule
  have F_brules := fun_mk (st := s_brules) l_brules c_brules k_brules
  have F_bwith := fun_mk (st := s_with) l_bwith c_bwith k_bwith
  have F_bask := fun_mk (st := s_ask) l_bask c_bask k_bask
  have F_is_action := fun_mk (st := s_isact) l_is_action c_is_action k_is_action
  have F_is_rule := fun_mk (st := s_isrule) l_is_rule c_is_rule k_is_rule
  have F_is_door := fun_mk (st := s_isdoor) l_is_door c_is_door k_is_door
  have F_are_distinct_doors := fun_mk (st := s_dist) l_are_distinct_doors c_are_distinct_doors k_are_distinct_doors
  have F__law_jar := fun_mk (st := s_jar) l__law_jar c__law_jar k__law_jar
  have F__law_draw := fun_mk (st := s_draw) l__law_draw c__law_draw k__law_draw
  have F__law_rule := fun_mk (st := s_rule) l__law_rule c__law_rule k__law_rule
  have F__law_six := fun_mk (st := s_six) l__law_six c__law_six k__law_six
  have F__law_no_rule := fun_mk (st := s_norule) l__law_no_rule c__law_no_rule k__law_no_rule
  have F__law_no_door := fun_mk (st := s_nodoor) l__law_no_door c__law_no_door k__law_no_door
  have F__law_no_doors := fun_mk (st := s_nodoors) l__law_no_doors c__law_no_doors k__law_no_doors
  have F__law_come := fun_mk (st := s_come) l__law_come c__law_come k__law_come
  have F__law_is := fun_mk (st := s_is) l__law_is c__law_is k__law_is
  have F__law_asked := fun_mk (st := s_asked) l__law_asked c__law_asked k__law_asked
  have F__law_doors := fun_mk (st := s_doors) l__law_doors c__law_doors k__law_doors
  have F__law_right := fun_mk (st := s_right) l__law_right c__law_right k__law_right
  have F_law := fun_mk (st := s_law) l_law c_law k_law
  have bE1 := FE1.binds (ps := ["self", "door"]) fun _ _ _ _ _ _ us hl => match us, hl with | [_, _], _ => rfl
  have bE2 := FE2.binds (ps := ["self", "door"]) fun _ _ _ _ _ _ us hl => match us, hl with | [_, _], _ => rfl
  have bR := F_brule.binds (ps := ["self", "door"]) fun _ _ _ _ _ _ us hl => match us, hl with | [_, _], _ => rfl
  have bRs := F_brules.binds (ps := ["self"]) fun _ _ _ _ _ _ us hl => match us, hl with | [_], _ => rfl
  have bAct := F_is_action.binds (ps := ["value"]) fun _ _ _ _ _ _ us hl => match us, hl with | [_], _ => rfl
  have bRule := F_is_rule.binds (ps := ["value"]) fun _ _ _ _ _ _ us hl => match us, hl with | [_], _ => rfl
  have bDoor := F_is_door.binds (ps := ["value"]) fun _ _ _ _ _ _ us hl => match us, hl with | [_], _ => rfl
  have bWith := F_bwith.binds (ps := ["self", "door", "rule"]) fun _ _ _ _ _ _ us hl => match us, hl with | [_, _, _], _ => rfl
  have bAsk := F_bask.binds (ps := ["self", "doors"]) fun _ _ _ _ _ _ us hl => match us, hl with | [_, _], _ => rfl
  have bDist := F_are_distinct_doors.binds (ps := ["value"]) fun _ _ _ _ _ _ us hl => match us, hl with | [_], _ => rfl
  have bJ := F__law_jar.binds (ps := ["script", "k"]) fun _ _ _ _ _ _ us hl => match us, hl with | [_, _], _ => rfl
  have bD := F__law_draw.binds (ps := ["jar", "many"]) fun _ _ _ _ _ _ us hl => match us, hl with | [_, _], _ => rfl
  have bRu := F__law_rule.binds (ps := ["jar", "most"]) fun _ _ _ _ _ _ us hl => match us, hl with | [_, _], _ => rfl
  have bS := F__law_six.binds (ps := ["jar"]) fun _ _ _ _ _ _ us hl => match us, hl with | [_], _ => rfl
  have bNo := F__law_no_rule.binds (ps := ["jar", "row"]) fun _ _ _ _ _ _ us hl => match us, hl with | [_, _], _ => rfl
  have bNd := F__law_no_door.binds (ps := ["jar"]) fun _ _ _ _ _ _ us hl => match us, hl with | [_], _ => rfl
  have bNs := F__law_no_doors.binds (ps := ["jar", "some"]) fun _ _ _ _ _ _ us hl => match us, hl with | [_, _], _ => rfl
  have bC := F__law_come.binds (ps := ["work", "deed", "thing", "fresh"]) fun _ _ _ _ _ _ us hl => match us, hl with | [_, _, _, _], _ => rfl
  have bI := F__law_is.binds (ps := ["found", "name", "thing"]) fun _ _ _ _ _ _ us hl => match us, hl with | [_, _, _], _ => rfl
  have bAs := F__law_asked.binds (ps := ["names", "six", "some"]) fun _ _ _ _ _ _ us hl => match us, hl with | [_, _, _], _ => rfl
  have bDo := F__law_doors.binds (ps := ["jar", "names"]) fun _ _ _ _ _ _ us hl => match us, hl with | [_, _], _ => rfl
  have bRi := F__law_right.binds (ps := ["jar"]) fun _ _ _ _ _ _ us hl => match us, hl with | [_], _ => rfl
  obtain ⟨ds6, v6, b6⟩ := init_b6 FI
  cases v6
  refine ⟨PySem.W.fnOf "law" "law" (defArgs s_law) (defBody s_law) (defScope s_law) .none kV_law dc_law pm_law an_law cd_law ct_law, fun s v => .of_eq rfl, fun base _ _ => ?_⟩
  have GI := ok_init (P := l.prog) (w := w) (base := base) FI B TK TB (PySem.W.mg_of X G a_is_action) F_is_action bAct (PySem.W.mg_of X G a_is_rule) F_is_rule bRule TE1 FE1 bE1
  have GR := ok_brule (P := l.prog) (w := w) (base := base) F_brule B TK TB (PySem.W.mg_of X G a_is_door) F_is_door bDoor TE2 FE2 bE2
  have GRs := ok_brules (P := l.prog) (w := w) (base := base) F_brules TB
  have MK : Mk K C_Book f_init := ⟨mk_Book, a_init, i_init, kc_Book⟩
  have M : MkB l.prog w K mg base C_Book C_NoRule f_init _ (.ref A_d0) (.ref A_d1) (.ref A_d2) (.ref A_d3) (.ref A_d4) (.ref A_d5) := ⟨MK, GI, fun H => .cons (empty_at l_d0) (.cons (empty_at l_d1) (.cons (empty_at l_d2) (.cons (empty_at l_d3) (.cons (empty_at l_d4) (.cons (empty_at l_d5) .nil)))))⟩
  have mR : Meth K C_Book "rule" f_brule := ⟨a_brule, i_brule, k_brule⟩
  have mRs : Meth K C_Book "rules" f_brules := ⟨a_brules, i_brules, k_brules⟩
  have GW := ok_with (P := l.prog) (w := w) (base := base) F_bwith B TK TB (PySem.W.mg_of X G a_is_door) F_is_door bDoor TE2 FE2 bE2 MK GI b6
  have mW : Meth K C_Book "with_rule" f_bwith := ⟨a_bwith, i_bwith, k_bwith⟩
  have ON : OwnTxt K mg "NoDoors" C_NoDoors := ⟨xP_NoDoors, PySem.W.mg_of X G a_NoDoors, kc_NoDoors, ec_NoDoors, tc_NoDoors⟩
  have GDi := ok_dist (P := l.prog) (w := w) (base := base) F_are_distinct_doors B (PySem.W.mg_none_of X G z_set) TK (PySem.W.mg_of X G a_is_door) F_is_door bDoor
  have GA := ok_ask (P := l.prog) (w := w) (base := base) F_bask B TK TB ON (PySem.W.mg_of X G a_are_distinct_doors) k_are_distinct_doors bDist GDi MK GI b6
  have mA : Meth K C_Book "asking" f_bask := ⟨a_bask, i_bask, k_bask⟩
  have kbR := kbn_of (ps := ["self", "door"]) (ks := ["door"]) F_brule 1 [0, 1] fun _ _ _ _ _ _ us ws h1 h2 => match us, ws, h1, h2 with | [_], [_], _, _ => rfl
  have kbA := kbn_of (ps := ["self", "doors"]) (ks := ["doors"]) F_bask 1 [0, 1] fun _ _ _ _ _ _ us ws h1 h2 => match us, ws, h1, h2 with | [_], [_], _, _ => rfl
  have kbW := kbn_of (ps := ["self", "door", "rule"]) (ks := ["rule", "door"]) F_bwith 1 [0, 2, 1] fun _ _ _ _ _ _ us ws h1 h2 => match us, ws, h1, h2 with | [_], [_, _], _, _ => rfl
  obtain ⟨ds1, v1, b1⟩ := init_b1 FI
  have GJ := ok_jar (P := l.prog) (w := w) (base := base) F__law_jar B
  have GD := ok_draw (P := l.prog) (w := w) (base := base) (K := K) F__law_draw B
  have GRu := ok_rule (P := l.prog) (w := w) (base := base) (K := K) F__law_rule B (PySem.W.mg_of X G a__law_draw) F__law_draw bD
  have GS := ok_six (P := l.prog) (w := w) (base := base) F__law_six B (PySem.W.mg_of X G a__law_draw) F__law_draw bD (PySem.W.mg_of X G a__law_rule) F__law_rule bRu
  have GNo := ok_norule (P := l.prog) (w := w) (base := base) F__law_no_rule B (PySem.W.mg_none_of X G z_list) (PySem.W.mg_of X G a__law_draw) k__law_draw bD GD
  have GNd := ok_nodoor (P := l.prog) (w := w) (base := base) F__law_no_door B (PySem.W.mg_of X G a__law_draw) k__law_draw bD GD
  have GNs := ok_nodoors (P := l.prog) (w := w) (base := base) F__law_no_doors B (PySem.W.mg_none_of X G z_list) (PySem.W.mg_of X G a__law_draw) k__law_draw bD GD (PySem.W.mg_of X G a__law_no_door) k__law_no_door bNd GNd
  have GDo := ok_doors (P := l.prog) (w := w) (base := base) (K := K) F__law_doors B (PySem.W.mg_none_of X G z_list) (PySem.W.mg_of X G a__law_draw) k__law_draw bD GD
  have ET : ErTxt K mg C_ShownError C_NoDoor C_NoRule C_NoDoors := ⟨(PySem.W.mg_of X G a_ShownError), (PySem.W.mg_of X G a_NoDoors), PySem.W.exm_ref ec_NoDoor hdx_NoDoor tc_NoDoor s_NoDoor_NoDoor, PySem.W.exm_ref ec_NoDoor hdx_NoDoor tc_NoDoor s_NoRule_NoDoor, PySem.W.exm_ref ec_NoRule hdx_NoRule tc_NoRule s_NoRule_NoRule, PySem.W.exm_ref ec_NoDoor hdx_NoDoor tc_NoDoor s_NoDoors_NoDoor, PySem.W.exm_ref ec_NoRule hdx_NoRule tc_NoRule s_NoDoors_NoRule, PySem.W.exm_ref ec_NoDoors hdx_NoDoors tc_NoDoors s_NoDoors_NoDoors, ⟨ga_NoDoor, gg_NoDoor, ec_NoDoor, hdx_NoDoor⟩, ⟨ga_NoRule, gg_NoRule, ec_NoRule, hdx_NoRule⟩, ⟨ga_NoDoor, gg_NoDoor, ec_NoDoor, hdx_NoDoor, hax_NoDoor, hnx, htx, hmx_NoDoor⟩, ⟨ga_NoRule, gg_NoRule, ec_NoRule, hdx_NoRule, hax_NoRule, hnx, htx, hmx_NoRule⟩, ⟨ga_NoDoors, gg_NoDoors, ec_NoDoors, hdx_NoDoors, hax_NoDoors, hnx, htx, hmx_NoDoors⟩, kit_cls ne_NoDoor_ShownError hdx_ShownError tc_ShownError s_NoDoor_ShownError, kit_cls ne_NoRule_ShownError hdx_ShownError tc_ShownError s_NoRule_ShownError, kit_cls ne_NoDoors_ShownError hdx_ShownError tc_ShownError s_NoDoors_ShownError⟩
  have GC := ok_come (P := l.prog) (w := w) (base := base) F__law_come B TB GW mW bWith GA mA bAsk GR mR bR kbR M v1 b1 mRs bRs GRs TE2 TE1 ET
  have GIs := ok_is (P := l.prog) (w := w) (base := base) (K := K) F__law_is B (PySem.W.mg_none_of X G z_bool)
  have GAs := ok_asked (P := l.prog) (w := w) (base := base) F__law_asked B
  have GRi := ok_right (P := l.prog) (w := w) (base := base) (CS := C_ShownError) F__law_right B TB (PySem.W.mg_of X G a__law_draw) k__law_draw bD GD (PySem.W.mg_of X G a__law_six) k__law_six bS GS (PySem.W.mg_of X G a__law_rule) k__law_rule bRu GRu M b6 GW mW bWith kbW GR mR bR GA mA kbA mRs bRs GRs (PySem.W.mg_of X G a__law_no_rule) k__law_no_rule bNo GNo (PySem.W.mg_of X G a__law_no_door) k__law_no_door bNd GNd (PySem.W.mg_of X G a__law_no_doors) k__law_no_doors bNs GNs (PySem.W.mg_of X G a__law_come) k__law_come bC GC (PySem.W.mg_of X G a__law_is) k__law_is bI GIs (PySem.W.mg_of X G a__law_asked) k__law_asked bAs GAs (PySem.W.mg_of X G a__law_doors) k__law_doors bDo GDo
  exact ok_law F_law B (PySem.W.mg_none_of X G z_min) (PySem.W.mg_of X G a__law_jar) k__law_jar bJ GJ (PySem.W.mg_of X G a__law_right) k__law_right bRi GRi

theorem walk {l : PySem.W.OpenLaw} {q : Program} {loose : List Str} {XP : (Str → Option Value) → Heap → Prop} {YP : World → Heap → Prop} {d : DefRec} {K : Params → PySem.W.Frag} (hn : l.most = some 63) (hdf : d.params.defaults = [])
    (hY : ∀ (w : World) (h : Heap), YP w h → (K w.params).In h)
    (F : ∀ (w : World) (mg : Str → Option Value) (fa : Addr) (h : Heap), (K w.params).In h → h.Ns mainGlobals mg → mg d.name = some (.ref fa) →
      ∃ fd : FuncData, (∀ (s : Shared) (u : Value), BindsTo s fd ⟨[u], []⟩ [("script", u)]) ∧ ∀ base : Heap, (K w.params).In base → base.Ns mainGlobals mg → FnOk l.prog w (K w.params) mg base CX0 9 fa fd ["script"] (spLaw (K w.params))) :
    PySem.W.WalkO q loose XP YP l.row.toRowW d [] (fun f vs => PySem.call f vs) :=
  L2.walk_of (n := 63) (k := 9) (x := "script") (CX := fun _ => CX0) (sp := fun w => spLaw (K w.params)) hn (by decide) hdf ⟨rfl, by decide, by decide⟩ hY F (fun _ _ a ns hl _ hS => ⟨a, ns, rfl, hS, hl, fun _ => rfl⟩) fun _ _ _ _ _ z => z
end Sh

open PySem PySem.W PyProof.Rows
set_option maxRecDepth 100000 in
set_option maxHeartbeats 0 in
theorem PySem.Challenge.cw_lastshown_k03_rules_exchanged_and_asks_holds : PySem.Challenge.rw_lastshown_k03_rules_exchanged_and_asks.Holds := by
  w_on; o_law; k_head; (case hw => w_witness2)
  k_fill
  refine Sh.walk (l := PySem.Challenge.rw_lastshown_k03_rules_exchanged_and_asks) rfl rfl (fun w h Y => PySem.W.kIn_of Y) ?F
  case F =>
    intro w mg fa h KX G hmg
    refine' Sh.all_mk KX G hmg ?z_int ?z_len ?z_abs ?z_max ?z_range ?z_tuple ?z_str ?z_isinstance ?z_all ?z_zip ?z_min ?z_list ?z_set ?z_bool ?a_ACTIONS ?l_ACTIONS ?z_ACTIONS ?v_ACTIONS ?a_DOORS ?l_DOORS ?z_DOORS ?v_DOORS ?a_MOST_ACTIONS ?a_NoRule ?x_NoRule ?r_NoRule ?sa_NoRule ?no_NoRule ?a_eNoRule ?t_eNoRule ?l_eNoRule ?c_eNoRule ?k_eNoRule ?kc_NoRule ?ec_NoRule ?tc_NoRule ?a_NoDoor ?x_NoDoor ?r_NoDoor ?sa_NoDoor ?no_NoDoor ?a_eNoDoor ?t_eNoDoor ?l_eNoDoor ?c_eNoDoor ?k_eNoDoor ?kc_NoDoor ?ec_NoDoor ?tc_NoDoor ?a_Book ?pg_Book ?hd_Book ?po_Book ?sa_Book ?mk_Book ?kc_Book ?n_Book__rules ?a_init ?i_init ?l_init ?c_init ?k_init ?l_d ?l_d0 ?l_d1 ?l_d2 ?l_d3 ?l_d4 ?l_d5 ?a_brule ?i_brule ?l_brule ?c_brule ?k_brule ?a_brules ?i_brules ?l_brules ?c_brules ?k_brules ?a_bwith ?i_bwith ?l_bwith ?c_bwith ?k_bwith ?a_bask ?i_bask ?l_bask ?c_bask ?k_bask ?a_NoDoors ?xP_NoDoors ?kc_NoDoors ?ec_NoDoors ?tc_NoDoors ?a_is_action ?l_is_action ?c_is_action ?k_is_action ?a_is_rule ?l_is_rule ?c_is_rule ?k_is_rule ?a_is_door ?l_is_door ?c_is_door ?k_is_door ?a_are_distinct_doors ?l_are_distinct_doors ?c_are_distinct_doors ?k_are_distinct_doors ?a__law_jar ?l__law_jar ?c__law_jar ?k__law_jar ?a__law_draw ?l__law_draw ?c__law_draw ?k__law_draw ?a__law_rule ?l__law_rule ?c__law_rule ?k__law_rule ?a__law_six ?l__law_six ?c__law_six ?k__law_six ?a__law_no_rule ?l__law_no_rule ?c__law_no_rule ?k__law_no_rule ?a__law_no_door ?l__law_no_door ?c__law_no_door ?k__law_no_door ?a__law_no_doors ?l__law_no_doors ?c__law_no_doors ?k__law_no_doors ?a__law_come ?l__law_come ?c__law_come ?k__law_come ?a__law_is ?l__law_is ?c__law_is ?k__law_is ?a__law_asked ?l__law_asked ?c__law_asked ?k__law_asked ?a__law_doors ?l__law_doors ?c__law_doors ?k__law_doors ?a__law_right ?l__law_right ?c__law_right ?k__law_right ?a_law ?l_law ?c_law ?k_law ?hdx_NoDoor ?ga_NoDoor ?gg_NoDoor ?hax_NoDoor ?hmx_NoDoor ?hnx ?htx ?hdx_NoRule ?ga_NoRule ?gg_NoRule ?hax_NoRule ?hmx_NoRule ?hdx_NoDoors ?ga_NoDoors ?gg_NoDoors ?hax_NoDoors ?hmx_NoDoors ?a_ShownError ?hdx_ShownError ?ec_ShownError ?tc_ShownError ?s_NoDoor_NoDoor ?s_NoRule_NoDoor ?s_NoRule_NoRule ?s_NoDoors_NoDoor ?s_NoDoors_NoRule ?s_NoDoors_NoDoors ?s_NoDoor_ShownError ?s_NoRule_ShownError ?s_NoDoors_ShownError ?ne_NoDoor_ShownError ?ne_NoRule_ShownError ?ne_NoDoors_ShownError
    (case z_int => k_is)
    (case z_len => k_is)
    (case z_abs => k_is)
    (case z_max => k_is)
    (case z_range => k_is)
    (case z_tuple => k_is)
    (case z_str => k_is)
    (case z_isinstance => k_is)
    (case z_all => k_is)
    (case z_zip => k_is)
    (case z_min => k_is)
    (case z_list => k_is)
    (case z_set => k_is)
    (case z_bool => k_is)
    (case a_ACTIONS => k_is)
    (case l_ACTIONS => k_is)
    (case z_ACTIONS => decide +kernel)
    (case v_ACTIONS => exact (.cons ⟨_, rfl⟩ (.cons ⟨_, rfl⟩ (.cons ⟨_, rfl⟩ (.cons ⟨_, rfl⟩ (.cons ⟨_, rfl⟩ .nil))))))
    (case a_DOORS => k_is)
    (case l_DOORS => k_is)
    (case z_DOORS => decide +kernel)
    (case v_DOORS => exact (.cons ⟨_, rfl⟩ (.cons ⟨_, rfl⟩ (.cons ⟨_, rfl⟩ (.cons ⟨_, rfl⟩ (.cons ⟨_, rfl⟩ (.cons ⟨_, rfl⟩ .nil)))))))
    (case a_MOST_ACTIONS => k_is)
    (case a_NoRule => k_is)
    (case x_NoRule => k_is)
    (case r_NoRule => first | rfl | decide +kernel)
    (case sa_NoRule => k_is)
    (case no_NoRule => k_is)
    (case a_eNoRule => k_is)
    (case t_eNoRule => k_is)
    (case l_eNoRule => k_is)
    (case c_eNoRule => k_is)
    (case k_eNoRule => k_is)
    (case kc_NoRule => k_is)
    (case ec_NoRule => k_is)
    (case tc_NoRule => k_is)
    (case a_NoDoor => k_is)
    (case x_NoDoor => k_is)
    (case r_NoDoor => first | rfl | decide +kernel)
    (case sa_NoDoor => k_is)
    (case no_NoDoor => k_is)
    (case a_eNoDoor => k_is)
    (case t_eNoDoor => k_is)
    (case l_eNoDoor => k_is)
    (case c_eNoDoor => k_is)
    (case k_eNoDoor => k_is)
    (case kc_NoDoor => k_is)
    (case ec_NoDoor => k_is)
    (case tc_NoDoor => k_is)
    (case a_Book => k_is)
    (case pg_Book => k_is)
    (case hd_Book => k_is)
    (case po_Book => k_is)
    (case sa_Book => k_is)
    (case mk_Book => k_is)
    (case kc_Book => k_is)
    (case n_Book__rules => k_is)
    (case a_init => k_is)
    (case i_init => k_is)
    (case l_init => k_is)
    (case c_init => k_is)
    (case k_init => k_is)
    (case l_d => k_is)
    (case l_d0 => k_is)
    (case l_d1 => k_is)
    (case l_d2 => k_is)
    (case l_d3 => k_is)
    (case l_d4 => k_is)
    (case l_d5 => k_is)
    (case a_brule => k_is)
    (case i_brule => k_is)
    (case l_brule => k_is)
    (case c_brule => k_is)
    (case k_brule => k_is)
    (case a_brules => k_is)
    (case i_brules => k_is)
    (case l_brules => k_is)
    (case c_brules => k_is)
    (case k_brules => k_is)
    (case a_bwith => k_is)
    (case i_bwith => k_is)
    (case l_bwith => k_is)
    (case c_bwith => k_is)
    (case k_bwith => k_is)
    (case a_bask => k_is)
    (case i_bask => k_is)
    (case l_bask => k_is)
    (case c_bask => k_is)
    (case k_bask => k_is)
    (case a_NoDoors => k_is)
    (case xP_NoDoors => k_exc)
    (case kc_NoDoors => k_is)
    (case ec_NoDoors => k_is)
    (case tc_NoDoors => k_is)
    (case a_is_action => k_is)
    (case l_is_action => k_is)
    (case c_is_action => k_is)
    (case k_is_action => k_is)
    (case a_is_rule => k_is)
    (case l_is_rule => k_is)
    (case c_is_rule => k_is)
    (case k_is_rule => k_is)
    (case a_is_door => k_is)
    (case l_is_door => k_is)
    (case c_is_door => k_is)
    (case k_is_door => k_is)
    (case a_are_distinct_doors => k_is)
    (case l_are_distinct_doors => k_is)
    (case c_are_distinct_doors => k_is)
    (case k_are_distinct_doors => k_is)
    (case a__law_jar => k_is)
    (case l__law_jar => k_is)
    (case c__law_jar => k_is)
    (case k__law_jar => k_is)
    (case a__law_draw => k_is)
    (case l__law_draw => k_is)
    (case c__law_draw => k_is)
    (case k__law_draw => k_is)
    (case a__law_rule => k_is)
    (case l__law_rule => k_is)
    (case c__law_rule => k_is)
    (case k__law_rule => k_is)
    (case a__law_six => k_is)
    (case l__law_six => k_is)
    (case c__law_six => k_is)
    (case k__law_six => k_is)
    (case a__law_no_rule => k_is)
    (case l__law_no_rule => k_is)
    (case c__law_no_rule => k_is)
    (case k__law_no_rule => k_is)
    (case a__law_no_door => k_is)
    (case l__law_no_door => k_is)
    (case c__law_no_door => k_is)
    (case k__law_no_door => k_is)
    (case a__law_no_doors => k_is)
    (case l__law_no_doors => k_is)
    (case c__law_no_doors => k_is)
    (case k__law_no_doors => k_is)
    (case a__law_come => k_is)
    (case l__law_come => k_is)
    (case c__law_come => k_is)
    (case k__law_come => k_is)
    (case a__law_is => k_is)
    (case l__law_is => k_is)
    (case c__law_is => k_is)
    (case k__law_is => k_is)
    (case a__law_asked => k_is)
    (case l__law_asked => k_is)
    (case c__law_asked => k_is)
    (case k__law_asked => k_is)
    (case a__law_doors => k_is)
    (case l__law_doors => k_is)
    (case c__law_doors => k_is)
    (case k__law_doors => k_is)
    (case a__law_right => k_is)
    (case l__law_right => k_is)
    (case c__law_right => k_is)
    (case k__law_right => k_is)
    (case a_law => k_is)
    (case l_law => k_is)
    (case c_law => k_is)
    (case k_law => k_is)
    (case hdx_NoDoor => k_is)
    (case ga_NoDoor => k_is)
    (case gg_NoDoor => k_is)
    (case hax_NoDoor => k_is)
    (case hmx_NoDoor => k_is)
    (case hnx => k_is)
    (case htx => k_is)
    (case hdx_NoRule => k_is)
    (case ga_NoRule => k_is)
    (case gg_NoRule => k_is)
    (case hax_NoRule => k_is)
    (case hmx_NoRule => k_is)
    (case hdx_NoDoors => k_is)
    (case ga_NoDoors => k_is)
    (case gg_NoDoors => k_is)
    (case hax_NoDoors => k_is)
    (case hmx_NoDoors => k_is)
    (case a_ShownError => k_is)
    (case hdx_ShownError => k_is)
    (case ec_ShownError => k_is)
    (case tc_ShownError => k_is)
    (case s_NoDoor_NoDoor => k_is)
    (case s_NoRule_NoDoor => k_is)
    (case s_NoRule_NoRule => k_is)
    (case s_NoDoors_NoDoor => k_is)
    (case s_NoDoors_NoRule => k_is)
    (case s_NoDoors_NoDoors => k_is)
    (case s_NoDoor_ShownError => k_is)
    (case s_NoRule_ShownError => k_is)
    (case s_NoDoors_ShownError => k_is)
    (case ne_NoDoor_ShownError => decide)
    (case ne_NoRule_ShownError => decide)
    (case ne_NoDoors_ShownError => decide)

