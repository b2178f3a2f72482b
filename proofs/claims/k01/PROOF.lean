import PyProof.Rows.All
import Wide.All
import OpenK.AllK
import Wide.FinOn
import PyProof.EqAt
import PyProof.EqKinds
import PyProof.TupleCall
import HandS.ForMost
import HandS.Exc
import HandS.TryOnly
import HandS.ExcOwn
import HandS.WordsExc
import HandS.Wide
import HandS.Flow
import HandS.IsInst
import HandS.Strs
import HandS.Zip
import HandS.TupAny
import HandS.Defaults
import HandS.MakeKw
import HandS.MakeKwOnly
import HandS.ExcInit
import PySem.Challenge.RW_lastshown_k01_books_told
import KE.DataEq
set_option Elab.async false
set_option linter.all false
set_option maxRecDepth 100000
set_option maxHeartbeats 4000000
namespace Sh
open PySem L2
def top (i : Nat) : Stmt := PySem.Challenge.pw_lastshown_k01_books_told.main.body.getD i (.Pass ⟨0, 0, 0, 0⟩)
/-! ### powers of any base -/
def CPowW (i j : Int) : Prop := 0 ≤ j ∧ j ≤ 1000 ∧ i.natAbs < 2 ^ 1000
theorem bits_le (i : Int) (n : Nat) (h : i.natAbs < 2 ^ n) : Builtin.Int.intBits i ≤ n + 1 := by
  unfold Builtin.Int.intBits
  split
  · omega
  · have : i.natAbs.log2 < n ∨ n = 0 := by
      rcases Nat.eq_zero_or_pos n with h0 | h0
      · exact .inr h0
      · exact .inl (PySem.Flt.log2_lt_of h0 h)
    rcases this with q | q
    · omega
    · subst q
      have : i.natAbs = 0 := by omega
      rw [this]
      decide
theorem op_powW {X : Cx} : OpR X (binaryOp .Pow) (rI CPowW fun i j => .int (i ^ j.toNat)) := opI fun i j _ _ _ _ _ hc q => by
  have h := bits_le i 1000 hc.2.2
  have h0 : 0 ≤ j := hc.1
  have h1 : j ≤ 1000 := hc.2.1
  refine PyProof.Rows.pow_int hc.1 ?_ q
  have z : (Builtin.Int.intBits i : Int) * j ≤ 1001 * 1000 := Int.mul_le_mul (by omega) h1 h0 (by decide)
  exact Int.le_trans z (by decide)
/-! ### the jar -/
def JarAt (H : Hp) (j : Addr) (n : Nat) : Prop := ∃ a b c : Int, H j = some (.lst [.int a, .int b, .int c]) ∧ 0 ≤ a ∧ 0 ≤ b ∧ b < 2 ^ 200 ∧ 0 ≤ c ∧ c ≤ n
/-- all that was tracked, but what stands at j, is as it was -/
def Kp (j : Addr) (H H' : Hp) : Prop := ∀ b o, b ≠ j → H b = some o → H' b = some o
def spDraw : Sp := fun vs H Q _ => ∃ (j : Addr) (m : Int) (n : Nat), vs = [.ref j, .int m] ∧ JarAt H j n ∧ 0 < m ∧ m < 2 ^ 200 ∧ n ≤ 2 ^ 100 ∧ ∀ (r : Int) (H' : Hp), 0 ≤ r → r < m → JarAt H' j (n + 1) → Kp j H H' → Q (.int r) H'
def spJar (K : PySem.W.Frag) : Sp := fun vs H Q _ => ∃ (a : Addr) (ns : List Int) (k : Int), vs = [.ref a, .int k] ∧ SqL K H a (ns.map V.int) ∧ 0 ≤ k ∧ k < 1000 ∧ ∀ (j : Addr) (H' : Hp), JarAt H' j 0 → H j = none → Same H H' → Q (.ref j) H'
theorem stir_lt (x : Int) {c : Int} (hc : 0 ≤ c) (hn : c ≤ 2 ^ 101) : (x % ((10 : Int) ^ (Int.toNat 42) + 63) + 32452867 * (c + 1)).natAbs < 2 ^ 1000 := by
  have e : (10 : Int) ^ (Int.toNat 42) + 63 = 1000000000000000000000000000000000000000063 := by decide
  rw [e]
  have h1 := Int.emod_nonneg x (b := 1000000000000000000000000000000000000000063) (by decide)
  have h2 := Int.emod_lt_of_pos x (b := 1000000000000000000000000000000000000000063) (by decide)
  exact Nat.lt_of_lt_of_le (show _ < 2 ^ 200 by omega) (by decide)
structure TxtB (mg : Str → Option Value) : Prop where
  b_int : mg "int" = none
  b_len : mg "len" = none
  b_abs : mg "abs" = none
  b_max : mg "max" = none
  b_range : mg "range" = none
  b_tuple : mg "tuple" = none
  b_str : mg "str" = none
  b_isinstance : mg "isinstance" = none
  b_all : mg "all" = none
  b_zip : mg "zip" = none
section
variable {P : Program} {w : World} {K : PySem.W.Frag} {mg : Str → Option Value} {base : Heap}
abbrev s_draw : Stmt := top 15
theorem sc_draw : FnScope ["jar", "many", "found", "stirred"] ["jar", "many"] (defScope s_draw) := ⟨rfl, rfl, rfl, by decide +kernel, rfl, by decide +kernel, by decide +kernel⟩
theorem ok_draw {f : Addr} {fd : FuncData} (F : Fun K "_law_draw" "_law_draw" s_draw f fd) (T : TxtB mg) : FnOk P w K mg base CX0 1 f fd ["jar", "many"] spDraw := by
  refine F.ok sc_draw (fun vs H Q E h => ?_) (fun cdv A outer s H vs Q E hr h => ?_)
  · obtain ⟨j, m, n, rfl, _⟩ := h
    rfl
  · obtain ⟨j, m, n, rfl, ⟨a, b, c, hj, ha, hb, hb2, hc, hcn⟩, hm, hm2, hn, k⟩ := h
    refine ⟨_, (pss_cons (ps_if (pt_cmpR op_gt (pe_ix ix_list (pv 0) pe_int (fun _ _ => rfl)) pe_int (nomark _)) (pss_cons (ps_set (i := 2) sc_draw.nd rfl (Or.inl rfl) (pe_op op_mod (pe_callTy call_int1 (by rfl) T.b_int (by decide +kernel) (pa_cons (pe_ix ix_list (pv 0) pe_int (fun _ _ => rfl)) pa_nil)) (pv 1)))
  (pss_cons (ps_asg (pe_op op_fdivW (pe_ix ix_list (pv 0) pe_int (fun _ _ => rfl)) (pv 1)) (pg_sub (pv 0) pe_int set_list))
  (pss_one (ps_ret (pv 2))))) pss_nil)
  (pss_cons (ps_asg (pe_op op_add (pe_ix ix_list (pv 0) pe_int (fun _ _ => rfl)) pe_int) (pg_sub (pv 0) pe_int set_list))
  (pss_cons (ps_set (i := 3) sc_draw.nd rfl (Or.inl rfl) (pe_op op_mod (pe_callTy call_int1 (by rfl) T.b_int (by decide +kernel) (pa_cons (pe_op op_add (pe_op op_powW (pe_op op_add (pe_ix ix_list (pv 0) pe_int (fun _ _ => rfl)) (pe_op op_mul pe_int (pe_ix ix_list (pv 0) pe_int (fun _ _ => rfl)))) pe_int) (pe_op op_mul pe_int (pe_ix ix_list (pv 0) pe_int (fun _ _ => rfl)))) pa_nil)) (pe_op op_add (pe_op op_powW pe_int pe_int) pe_int)))
  (pss_cons (ps_set (i := 3) sc_draw.nd rfl (Or.inl rfl) (pe_op op_mod (pe_callTy call_int1 (by rfl) T.b_int (by decide +kernel) (pa_cons (pe_op op_powW (pe_op op_add (pv 3) (pe_op op_mul pe_int (pe_ix ix_list (pv 0) pe_int (fun _ _ => rfl)))) pe_int) pa_nil)) (pe_op op_add (pe_op op_powW pe_int pe_int) pe_int)))
  (pss_one (ps_ret (pe_op op_mod (pe_callTy call_int1 (by rfl) T.b_int (by decide +kernel) (pa_cons (pe_op op_fdivW (pv 3) (pe_op op_powW pe_int pe_int)) pa_nil)) (pv 1)))))))), ?_⟩
    refine ⟨_, rfl, j, _, 0, _, rfl, rfl, SqL.of hj, rfl, ?_⟩
    refine ⟨_, _, rfl, rfl, _, rfl, ?_⟩
    refine ite2 (fun h0 => ?_) (fun h0 => ?_)
    · refine ⟨_, rfl, j, _, 0, _, rfl, rfl, SqL.of hj, rfl, ?_⟩
      refine .inl ⟨_, rfl, ?_⟩
      refine ⟨_, rfl, _, _, rfl, rfl, hm, ?_⟩
      refine ⟨_, rfl, j, _, 0, _, rfl, rfl, SqL.of hj, rfl, ?_⟩
      refine ⟨_, rfl, _, _, rfl, rfl, wide_div hm (b := 200) (by omega) (by decide) (by decide), ?_⟩
      refine ⟨_, rfl, j, _, 0, 0, rfl, rfl, hj, rfl, ?_⟩
      refine ⟨_, rfl, ?_⟩
      refine k _ _ (Int.emod_nonneg _ (by omega)) (Int.emod_lt_of_pos _ hm) ⟨_, _, _, upd_same, Int.ediv_nonneg ha (by omega), hb, hb2, hc, by omega⟩ fun b' o hb' e => by rw [upd_ne hb']; exact e
    · refine ⟨_, rfl, j, _, 2, _, rfl, rfl, SqL.of hj, rfl, ?_⟩
      refine ⟨_, _, rfl, rfl, ?_⟩
      refine ⟨_, rfl, j, _, 2, 2, rfl, rfl, hj, rfl, ?_⟩
      have hj1 : upd H j (.lst [.int a, .int b, .int (c + 1)]) j = some (.lst [.int a, .int b, .int (c + 1)]) := upd_same
      refine ⟨_, rfl, j, _, 1, _, rfl, rfl, SqL.of hj1, rfl, ?_⟩
      refine ⟨_, rfl, j, _, 2, _, rfl, rfl, SqL.of hj1, rfl, ?_⟩
      refine ⟨_, _, rfl, rfl, .inl ⟨by decide, by decide⟩, ?_⟩
      refine ⟨_, _, rfl, rfl, ?_⟩
      refine ⟨_, _, rfl, rfl, ⟨by decide, by decide, ?_⟩, ?_⟩
      · show (b + 15485867 * (c + 1)).natAbs < 2 ^ 1000
        exact Nat.lt_of_lt_of_le (show (b + 15485867 * (c + 1)).natAbs < 2 ^ 201 by omega) (by decide)
      refine ⟨_, rfl, j, _, 2, _, rfl, rfl, SqL.of hj1, rfl, ?_⟩
      refine ⟨_, _, rfl, rfl, .inl ⟨by decide, by decide⟩, ?_⟩
      refine ⟨_, _, rfl, rfl, ?_⟩
      refine .inl ⟨_, rfl, ?_⟩
      refine ⟨_, _, rfl, rfl, ⟨by decide, by decide, by decide⟩, ?_⟩
      refine ⟨_, _, rfl, rfl, ?_⟩
      refine ⟨_, _, rfl, rfl, (by show (0 : Int) < _; decide), ?_⟩
      refine ⟨_, rfl, ?_⟩
      refine ⟨_, rfl, j, _, 2, _, rfl, rfl, SqL.of hj1, rfl, ?_⟩
      refine ⟨_, _, rfl, rfl, .inl ⟨by decide, by decide⟩, ?_⟩
      refine ⟨_, _, rfl, rfl, ?_⟩
      refine ⟨_, _, rfl, rfl, ⟨by decide, by decide, ?_⟩, ?_⟩
      · exact stir_lt _ hc (by omega)
      refine .inl ⟨_, rfl, ?_⟩
      refine ⟨_, _, rfl, rfl, ⟨by decide, by decide, by decide⟩, ?_⟩
      refine ⟨_, _, rfl, rfl, ?_⟩
      refine ⟨_, _, rfl, rfl, (by show (0 : Int) < _; decide), ?_⟩
      refine ⟨_, rfl, ?_⟩
      refine ⟨_, _, rfl, rfl, ⟨by decide, by decide, by decide⟩, ?_⟩
      refine ⟨_, _, rfl, rfl, wide_div (b := 200) (by decide) (by decide) (by decide) (by decide), ?_⟩
      refine .inl ⟨_, rfl, ?_⟩
      refine ⟨_, rfl, ?_⟩
      refine ⟨_, _, rfl, rfl, hm, ?_⟩
      exact k _ _ (Int.emod_nonneg _ (by omega)) (Int.emod_lt_of_pos _ hm) ⟨_, _, _, hj1, ha, hb, hb2, by omega, by omega⟩ fun b' o hb' e => by rw [upd_ne hb']; exact e

/-- one way on behind a conditional expression -/
theorem tIf_via {t : TT} {ta tb : TE} {σ : L2.St} {H : Hp} {Q : VK} (R : V → Hp → Prop) (h : (∀ v H', R v H' → Q v H') → tIf t ta tb σ H Q) (k : ∀ v H', R v H' → Q v H') : tIf t ta tb σ H Q := h k
abbrev s_jar : Stmt := top 14
theorem sc_jar : FnScope ["script", "k", "cell"] ["script", "k"] (defScope s_jar) := ⟨rfl, rfl, rfl, by decide +kernel, rfl, by decide +kernel, by decide +kernel⟩
theorem ok_jar {f : Addr} {fd : FuncData} (F : Fun K "_law_jar" "_law_jar" s_jar f fd) (T : TxtB mg) : FnOk P w K mg base CX0 1 f fd ["script", "k"] (spJar K) := by
  refine F.ok sc_jar (fun vs H Q E h => ?_) (fun cdv A outer s H vs Q E hr h => ?_)
  · obtain ⟨j, m, n, rfl, _⟩ := h
    rfl
  · obtain ⟨a, ns, k, rfl, hS, hk, hk2, q⟩ := h
    refine ⟨_, (pss_cons (ps_set (i := 2) sc_jar.nd rfl (Or.inl rfl) (pe_ifExp (pt_cmpR op_lt (pv 1) (pe_callB call_len_seq (by rfl) T.b_len (by decide +kernel) (pa_cons (pv 0) pa_nil)) (nomark _)) (pe_callB call_abs (by rfl) T.b_abs (by decide +kernel) (pa_cons (pe_callTy call_int1 (by rfl) T.b_int (by decide +kernel) (pa_cons (pe_ix ix_list (pv 0) (pv 1) (fun _ _ => rfl)) pa_nil)) pa_nil)) pe_int))
  (pss_one (ps_ret (pe_lst (pa_cons (pe_callB (call_max2 rfl) (by rfl) T.b_max (by decide +kernel) (pa_cons pe_int (pa_cons (pe_op op_sub (pv 2) (pe_op op_powW pe_int pe_int)) pa_nil))) (pa_cons (pe_op op_add (pe_op op_mod (pe_callTy call_int1 (by rfl) T.b_int (by decide +kernel) (pa_cons (pv 2) pa_nil)) (pe_op op_add (pe_op op_powW pe_int pe_int) pe_int)) (pe_op op_mul pe_int (pv 1))) (pa_cons pe_int pa_nil))))))), ?_⟩
    refine tIf_via (fun v H' => ∃ c : Int, v = .int c ∧ H' = H) (fun key => ?_) ?_
    · refine ⟨_, rfl, _, rfl, a, _, rfl, .inl hS, _, _, rfl, rfl, _, rfl, ?_⟩
      refine ite2 (fun h1 => ?_) (fun h1 => ?_)
      · have h2 : k.toNat < ns.length := by
          have z := of_decide_eq_true h1
          rw [List.length_map] at z
          omega
        refine ⟨_, rfl, _, rfl, a, _, k, .int ns[k.toNat], rfl, rfl, hS, at_of (j := k.toNat) (by omega) (by rw [List.getElem?_map, List.getElem?_eq_getElem h2]; rfl), ?_⟩
        refine .inl ⟨_, rfl, _, rfl, ?_⟩
        exact key _ _ ⟨_, rfl, rfl⟩
      · exact key _ _ ⟨0, rfl, rfl⟩
    · rintro v H' ⟨c, rfl, rfl⟩
      refine ⟨_, rfl, ?_⟩
      refine ⟨_, _, rfl, rfl, ⟨by decide, by decide, by decide⟩, ?_⟩
      refine ⟨_, _, rfl, rfl, ?_⟩
      refine ⟨_, _, rfl, ?_⟩
      refine ⟨_, rfl, ?_⟩
      refine .inl ⟨_, rfl, ?_⟩
      refine ⟨_, _, rfl, rfl, ⟨by decide, by decide, by decide⟩, ?_⟩
      refine ⟨_, _, rfl, rfl, ?_⟩
      refine ⟨_, _, rfl, rfl, (by show (0 : Int) < _; decide), ?_⟩
      refine ⟨_, rfl, ?_⟩
      refine ⟨_, _, rfl, rfl, .inl ⟨by decide, by decide⟩, ?_⟩
      refine ⟨_, _, rfl, rfl, ?_⟩
      refine ⟨by show 3 ≤ sizeLine; decide, fun p hp => ?_⟩
      have e : (10 : Int) ^ (Int.toNat 36) + 67 = 1000000000000000000000000000000000067 := by decide
      have h1 := Int.emod_nonneg c (b := (10 : Int) ^ (Int.toNat 36) + 67) (by decide)
      have h2 := Int.emod_lt_of_pos c (b := (10 : Int) ^ (Int.toNat 36) + 67) (by decide)
      refine q p _ ⟨_, _, _, upd_same, ?_, ?_, ?_, by decide, by decide⟩ hp fun b o e => ?_
      · split <;> omega
      · omega
      · omega
      · rw [upd_ne (ne_of_none e hp)]
        exact e
end
end Sh

namespace Sh
open PySem L2
/-! ### what stays -/
/-- all but lists stays -/
def KT (H H' : Hp) : Prop := ∀ b o, (∀ xs, o ≠ HO.lst xs) → H b = some o → H' b = some o
theorem KT.refl (H : Hp) : KT H H := fun _ _ _ h => h
theorem KT.trans {H H1 H2 : Hp} (a : KT H H1) (b : KT H1 H2) : KT H H2 := fun c o z h => b c o z (a c o z h)
theorem _root_.L2.Same.kt {H H' : Hp} (s : Same H H') : KT H H' := fun b o _ h => s b o h
theorem Kp.kt {j : Addr} {H H' : Hp} {xs : List V} (hj : H j = some (.lst xs)) (k : Kp j H H') : KT H H' := fun b o z h => by
  refine k b o (fun e => ?_) h
  subst e
  rw [hj] at h
  exact z xs (Option.some.inj h).symm
theorem JarAt.kt {j : Addr} {H H' : Hp} {n : Nat} (J : JarAt H j n) (k : Kp j H H') : KT H H' := by
  obtain ⟨a, b, c, hj, _⟩ := J
  exact k.kt hj
theorem Kp.refl (j : Addr) (H : Hp) : Kp j H H := fun _ _ _ h => h
theorem Kp.trans {j : Addr} {H H1 H2 : Hp} (a : Kp j H H1) (b : Kp j H1 H2) : Kp j H H2 := fun c o z h => b c o z (a c o z h)
theorem _root_.L2.Same.kp {H H' : Hp} (j : Addr) (s : Same H H') : Kp j H H' := fun b o _ h => s b o h
theorem kp_fresh {j D : Addr} {H H2 H4 : Hp} {o : HO} (a : Kp j H H2) (hD : H2 D = none) (b : Kp j H H4) : Kp j H (upd H4 D o) := fun c u hc e => by
  rw [upd_ne (ne_of_none (a c u hc e) hD)]
  exact b c u hc e
theorem same_new {H : Hp} {p : Addr} {o : HO} (hp : H p = none) : Same H (upd H p o) := fun b u e => by
  rw [upd_ne (ne_of_none e hp)]
  exact e
theorem kt_lst {H : Hp} {p : Addr} {xs : List V} {o : HO} (hp : H p = some (.lst xs)) : KT H (upd H p o) := fun b u z e => by
  have hb : b ≠ p := fun q => by
    rw [q, hp] at e
    exact z xs (Option.some.inj e).symm
  rw [upd_ne hb]
  exact e
theorem KT.rd {H H' : Hp} (k : KT H H') {a : Addr} {xs : List V} (h : Rd H a (.tup xs)) : Rd H' a (.tup xs) := by
  rcases h with h | ⟨o, h⟩
  · exact .inl (k _ _ (fun _ z => by cases z) h)
  · exact .inr ⟨o, k _ _ (fun _ z => by cases z) h⟩
theorem KT.sqT {K : PySem.W.Frag} {H H' : Hp} (k : KT H H') {a : Addr} {xs : List V} (h : SqT K H a xs) : SqT K H' a xs := by
  rcases h with h | h
  · exact .inl (k.rd h)
  · exact .inr h
theorem JarAt.keep {H H' : Hp} {j : Addr} {n : Nat} (J : JarAt H j n) (h : ∀ o, H j = some o → H' j = some o) : JarAt H' j n := by
  obtain ⟨a, b, c, hj, q⟩ := J
  exact ⟨a, b, c, h _ hj, q⟩
theorem JarAt.same {H H' : Hp} {j : Addr} {n : Nat} (J : JarAt H j n) (h : Same H H') : JarAt H' j n := J.keep (h j)
theorem JarAt.mono {H : Hp} {j : Addr} {n m : Nat} (J : JarAt H j n) (h : n ≤ m) : JarAt H j m := by
  obtain ⟨a, b, c, hj, q1, q2, q3, q4, q5⟩ := J
  exact ⟨a, b, c, hj, q1, q2, q3, q4, by omega⟩
theorem JarAt.ne {H : Hp} {j p : Addr} {n : Nat} (J : JarAt H j n) (h : H p = none) : p ≠ j := by
  obtain ⟨a, b, c, hj, _⟩ := J
  exact (ne_of_none hj h).symm
theorem JarAt.neT {H : Hp} {j p : Addr} {n : Nat} {o : HO} (J : JarAt H j n) (h : H p = some o) (z : ∀ xs, o ≠ .lst xs) : p ≠ j := by
  obtain ⟨a, b, c, hj, _⟩ := J
  exact ne_of h hj (z _)
/-! ### rules -/
def acts : List Str := ["take", "least", "last", "show", "ask"]
def doors : List Str := ["put", "look", "alter", "back", "pay", "again"]
def IsRule (r : List Str) : Prop := r.length ≤ 6 ∧ ∀ x ∈ r, x ∈ acts
/-- a tuple of texts -/
def RuleAt (K : PySem.W.Frag) (H : Hp) (v : V) (r : List Str) : Prop := ∃ a, v = .ref a ∧ SqT K H a (r.map V.str)
def SixAt (K : PySem.W.Frag) (H : Hp) (v : V) (rs : List (List Str)) : Prop := ∃ a vs, v = .ref a ∧ SqT K H a vs ∧ Paired (RuleAt K H) vs rs
theorem KT.rule {K : PySem.W.Frag} {H H' : Hp} (k : KT H H') {v : V} {r : List Str} (h : RuleAt K H v r) : RuleAt K H' v r := by
  obtain ⟨a, e, h⟩ := h
  exact ⟨a, e, k.sqT h⟩
theorem pair_map {α β : Type} {F G : α → β → Prop} (h : ∀ a b, F a b → G a b) : ∀ {l1 : List α} {l2 : List β}, Paired F l1 l2 → Paired G l1 l2
  | _, _, .nil => .nil
  | _, _, .cons a b => .cons (h _ _ a) (pair_map h b)
theorem KT.rules {K : PySem.W.Frag} {H H' : Hp} (k : KT H H') {vs : List V} {rs : List (List Str)} (h : Paired (RuleAt K H) vs rs) : Paired (RuleAt K H') vs rs := pair_map (fun _ _ q => k.rule q) h
theorem KT.six {K : PySem.W.Frag} {H H' : Hp} (k : KT H H') {v : V} {rs : List (List Str)} (h : SixAt K H v rs) : SixAt K H' v rs := by
  obtain ⟨a, vs, e, h, q⟩ := h
  exact ⟨a, vs, e, k.sqT h, k.rules q⟩
theorem pair_get {α β : Type} {F : α → β → Prop} : ∀ {l1 : List α} {l2 : List β} {i : Nat} {y : β}, Paired F l1 l2 → l2[i]? = some y → ∃ x, l1[i]? = some x ∧ F x y
  | _, _, i, y, .nil, h => by simp at h
  | x :: _, _, 0, y, .cons a b, h => by
    have e := Option.some.inj h
    subst e
    exact ⟨x, rfl, a⟩
  | _ :: l1, _ :: l2, i + 1, y, .cons a b, h => pair_get (l1 := l1) (l2 := l2) (i := i) (y := y) b h
theorem pair_get1 {α β : Type} {F : α → β → Prop} : ∀ {l1 : List α} {l2 : List β} {i : Nat} {x : α}, Paired F l1 l2 → l1[i]? = some x → ∃ y, l2[i]? = some y ∧ F x y
  | _, _, i, y, .nil, h => by simp at h
  | _, y :: _, 0, _, .cons a b, h => by
    have e := Option.some.inj h
    subst e
    exact ⟨y, rfl, a⟩
  | _ :: l1, _ :: l2, i + 1, x, .cons a b, h => pair_get1 (l1 := l1) (l2 := l2) (i := i) (x := x) b h
theorem pair_snoc {α β : Type} {F : α → β → Prop} {x : α} {y : β} (f : F x y) : ∀ {l1 : List α} {l2 : List β}, Paired F l1 l2 → Paired F (l1 ++ [x]) (l2 ++ [y])
  | _, _, .nil => .cons f .nil
  | _, _, .cons a b => .cons a (pair_snoc f b)
/-! ### as data -/
def dRule (r : List Str) : PyData := .tuple (r.map PyData.str)
def dSix (rs : List (List Str)) : PyData := .tuple (rs.map dRule)
theorem dp_strs {K : PySem.W.Frag} {H : Hp} : ∀ r : List Str, DpAll K H (r.map V.str) (r.map PyData.str)
  | [] => .nil
  | x :: r => .cons (.str x) (dp_strs r)
theorem RuleAt.dp {K : PySem.W.Frag} {H : Hp} {v : V} {r : List Str} (h : RuleAt K H v r) : Dp K H v (dRule r) := by
  obtain ⟨a, rfl, h⟩ := h
  exact .tup h (dp_strs r)
theorem dp_rules {K : PySem.W.Frag} {H : Hp} : ∀ {vs : List V} {rs : List (List Str)}, Paired (RuleAt K H) vs rs → DpAll K H vs (rs.map dRule)
  | _, _, .nil => .nil
  | _, _, .cons a b => .cons a.dp (dp_rules b)
theorem SixAt.dp {K : PySem.W.Frag} {H : Hp} {v : V} {rs : List (List Str)} (h : SixAt K H v rs) : Dp K H v (dSix rs) := by
  obtain ⟨a, vs, rfl, h, q⟩ := h
  exact .tup h (dp_rules q)
def spRule : Sp := fun vs H Q _ => ∃ (j : Addr) (m : Int) (n : Nat), vs = [.ref j, .int m] ∧ JarAt H j n ∧ 0 ≤ m ∧ m ≤ 6 ∧ n ≤ 2 ^ 90 ∧
  ∀ (a : Addr) (r : List Str) (H' : Hp), H' a = some (.tup (r.map V.str)) → (r.length : Int) ≤ m → (∀ x ∈ r, x ∈ acts) → JarAt H' j (n + 10) → Kp j H H' → Q (.ref a) H'
def spSix (K : PySem.W.Frag) : Sp := fun vs H Q _ => ∃ (j : Addr) (n : Nat), vs = [.ref j] ∧ JarAt H j n ∧ n ≤ 2 ^ 80 ∧
  ∀ (a : Addr) (rs : List (List Str)) (H' : Hp), SixAt K H' (.ref a) rs → rs.length = 6 → (∀ r ∈ rs, IsRule r) → JarAt H' j (n + 100) → Kp j H H' → Q (.ref a) H'
section
variable {P : Program} {w : World} {K : PySem.W.Frag} {mg : Str → Option Value} {base : Heap}
abbrev s_rule : Stmt := top 16
theorem sc_rule : FnScope ["jar", "most", "actions", "k"] ["jar", "most"] (defScope s_rule) := ⟨rfl, rfl, rfl, by decide +kernel, rfl, by decide +kernel, by decide +kernel⟩
theorem ok_rule {f fD : Addr} {fd fdD : FuncData} (F : Fun K "_law_rule" "_law_rule" s_rule f fd) (T : TxtB mg) (gD : mg "_law_draw" = some (.ref fD)) (FD : Fun K "_law_draw" "_law_draw" s_draw fD fdD) (bD : Binds K fdD ["jar", "many"] []) : FnOk P w K mg base CX0 2 f fd ["jar", "most"] spRule := by
  have GD : FnOk P w K mg base CX0 1 fD fdD ["jar", "many"] spDraw := ok_draw FD T
  refine F.ok sc_rule (fun vs H Q E h => ?_) (fun cdv A outer s H vs Q E hr h => ?_)
  · obtain ⟨j, m, n, rfl, _⟩ := h
    rfl
  · obtain ⟨j, m, n, rfl, J, hm, hm2, hn, q⟩ := h
    refine ⟨_, (pss_cons (ps_set (i := 2) sc_rule.nd rfl (Or.inr rfl) (pe_lst (pa_cons pe_str (pa_cons pe_str (pa_cons pe_str (pa_cons pe_str (pa_cons pe_str pa_nil)))))))
  (pss_one (ps_ret (pe_callTy call_tuple_of (by rfl) T.b_tuple (by decide +kernel) (pa_cons (pe_lc (own := [("k", 3)]) (g := (gName 3)) (by rfl) sc_rule.nd (pi_range1 (by rfl) T.b_range (pa_cons (pe_call GD hr (by rfl) gD FD.kp bD .nil pass0 (pa_cons (pv 0) (pa_cons (pe_op op_add (pv 1) pe_int) pa_nil))) pa_nil)) (blkOk_by (own := [("k", 3)]) (N := ["jar", "most", "actions", "k"]) (sc := defScope s_rule) (by decide +kernel)) (fun _ _ _ _ _ => (pg_name (i := 3) sc_rule.nd rfl (Or.inl rfl))) (fun _ _ _ _ _ => pts_nil) (fun _ _ _ _ _ => (pe_ix (r := rIxL K) ix_list (pv 2) (pe_call GD hr (by rfl) gD FD.kp bD .nil pass0 (pa_cons (pv 0) (pa_cons pe_int pa_nil))) (fun _ _ => rfl)))) pa_nil))))), ?_⟩
    refine ⟨by show 5 ≤ sizeLine; decide, fun la hla => ?_⟩
    have J1 : JarAt (upd H la (.lst [.str "take", .str "least", .str "last", .str "show", .str "ask"])) j n := J.same (same_new hla)
    have hla1 : upd H la (.lst [.str "take", .str "least", .str "last", .str "show", .str "ask"]) la = some (.lst (acts.map V.str)) := upd_same
    have k1 : Same H (upd H la (.lst [.str "take", .str "least", .str "last", .str "show", .str "ask"])) := same_new hla
    have nlj : la ≠ j := J.ne hla
    refine ⟨_, rfl, _, rfl, _, _, rfl, rfl, ?_⟩
    refine ⟨j, m + 1, n, rfl, J1, by omega, by omega, by omega, fun r H2 hr0 hr1 J2 k2 => ?_⟩
    refine ⟨r, rfl, by omega, by omega, fun D hD => ?_⟩
    have njD : D ≠ j := J2.ne hD
    have nlD : la ≠ D := ne_of_none (k2 _ _ nlj hla1) hD
    refine lc_range (lo := 0) (n := r.toNat) (fun i H' => ∃ r : List Str, H' D = some (.lst (r.map V.str)) ∧ r.length = i ∧ (∀ x ∈ r, x ∈ acts) ∧ JarAt H' j (n + 1 + i) ∧ H' la = some (.lst (acts.map V.str)) ∧ Kp j H H') ?_ ?_ ?_
    · refine ⟨[], upd_same, rfl, (by intro x hx; cases hx), J2.same (same_new hD), same_new hD _ _ (k2 _ _ nlj hla1), ((k1.kp j).trans k2).trans ((same_new hD).kp j)⟩
    · rintro i H3 hi ⟨r', hD3, hl3, ha3, J3, hla3, k3⟩
      refine ⟨rfl, ?_⟩
      refine ⟨_, rfl, _, rfl, ?_⟩
      refine ⟨j, 5, n + 1 + i, rfl, J3, by decide, by decide, by omega, fun z H4 hz0 hz1 J4 k4 => ?_⟩
      obtain ⟨x, hx, hxa⟩ : ∃ x, acts[z.toNat]? = some x ∧ x ∈ acts := by
        have h5 : z.toNat < acts.length := by show z.toNat < 5; omega
        exact ⟨acts[z.toNat], List.getElem?_eq_getElem h5, List.getElem_mem h5⟩
      refine ⟨la, _, z, .str x, rfl, rfl, SqL.of (k4 _ _ nlj hla3), at_of (j := z.toNat) (by omega) (by rw [List.getElem?_map, hx]; rfl), ?_⟩
      refine ⟨_, k4 _ _ njD hD3, by rw [List.length_map, hl3]; exact small1000 (by omega), r' ++ [x], ?_, ?_, ?_, ?_, ?_, ?_⟩
      · rw [upd_same, List.map_append]
        rfl
      · rw [List.length_append, hl3]
        rfl
      · intro y hy
        rcases List.mem_append.mp hy with hy | hy
        · exact ha3 y hy
        · rw [List.mem_singleton.mp hy]
          exact hxa
      · have e : n + 1 + (i + 1) = n + 1 + i + 1 := by omega
        rw [e]
        exact J4.keep fun o e => by rw [upd_ne njD.symm]; exact e
      · rw [upd_ne nlD]
        exact k4 _ _ nlj hla3
      · exact kp_fresh (fun b o hb e => k2 b o hb (k1 b o e)) hD (k3.trans k4)
    · rintro H3 ⟨r', hD3, hl3, ha3, J3, hla3, k3⟩
      refine ⟨D, _, rfl, .inl ⟨SqL.of hD3, fun l hl => ?_⟩⟩
      refine q l r' _ upd_same (by omega) ha3 ?_ ?_
      · exact (J3.same (same_new hl)).mono (by omega)
      · exact k3.trans ((same_new hl).kp j)
/-! ### one way on behind an if -/
theorem tIfS_via {c : TT} {t u : TS} {D : Ends} {σ : L2.St} {H : Hp} (R : L2.St → Hp → Prop) (h : (∀ σ' H', R σ' H' → D.nx σ' H') → tIfS c t u D σ H) (k : ∀ σ' H', R σ' H' → D.nx σ' H') : tIfS c t u D σ H := h k
/-! ### == of data without dicts -/
section
variable {X : Cx}
def rEqP (K : PySem.W.Frag) : R2 := fun x y H Q => ∃ d e, Dp K H x d ∧ Dp K H y e ∧ d.plain = true ∧ e.plain = true ∧ d.depth ≤ 64 ∧ Q (.bl (PyData.eqv d e)) H
def rNeP (K : PySem.W.Frag) : R2 := fun x y H Q => ∃ d e, Dp K H x d ∧ Dp K H y e ∧ d.plain = true ∧ e.plain = true ∧ d.depth ≤ 64 ∧ Q (.bl (!PyData.eqv d e)) H
theorem op_eqP (hu : X.A.units + 64 < cLine) : OpR X (compareOp .Eq) (rEqP X.K) := by
  intro pins s σ H x y v u Q I rx ry h
  obtain ⟨d, e, hd, he, sd, se, dd, q⟩ := h
  obtain ⟨as, r1⟩ := Dp.reads I d x v hd rx
  obtain ⟨bs, r2⟩ := Dp.reads I e y u he ry
  exact SeqAt.eq_plain r1 r2 sd se (by omega) ⟨.bl _, H, I, rfl, q⟩
theorem op_neP (hu : X.A.units + 64 < cLine) : OpR X (compareOp .NotEq) (rNeP X.K) := by
  intro pins s σ H x y v u Q I rx ry h
  obtain ⟨d, e, hd, he, sd, se, dd, q⟩ := h
  obtain ⟨as, r1⟩ := Dp.reads I d x v hd rx
  obtain ⟨bs, r2⟩ := Dp.reads I e y u he ry
  exact SeqAt.ne_plain r1 r2 sd se (by omega) ⟨.bl _, H, I, rfl, q⟩
end
theorem plain_strs : ∀ r : List Str, PyData.plainAll (r.map PyData.str) = true
  | [] => rfl
  | x :: r => plain_strs r
theorem plain_rule (r : List Str) : (dRule r).plain = true := plain_strs r
theorem plain_rules : ∀ rs : List (List Str), PyData.plainAll (rs.map dRule) = true
  | [] => rfl
  | r :: rs => by
    show (PyData.plain (dRule r) && PyData.plainAll (rs.map dRule)) = true
    rw [plain_rule, plain_rules rs]
    rfl
theorem plain_six (rs : List (List Str)) : (dSix rs).plain = true := plain_rules rs
theorem depth_strs : ∀ r : List Str, PyData.depthAll (r.map PyData.str) = 0
  | [] => rfl
  | x :: r => by
    show max (PyData.depth (.str x)) (PyData.depthAll (r.map PyData.str)) = 0
    rw [depth_strs r]
    rfl
theorem depth_rule (r : List Str) : (dRule r).depth = 1 := by
  show PyData.depthAll (r.map PyData.str) + 1 = 1
  rw [depth_strs]
theorem depth_rules : ∀ rs : List (List Str), PyData.depthAll (rs.map dRule) ≤ 1
  | [] => Nat.zero_le _
  | r :: rs => by
    show max (PyData.depth (dRule r)) (PyData.depthAll (rs.map dRule)) ≤ 1
    have := depth_rules rs
    rw [depth_rule]
    omega
theorem depth_six (rs : List (List Str)) : (dSix rs).depth ≤ 2 := Nat.succ_le_succ (depth_rules rs)
theorem eqv_strs : ∀ r r' : List Str, PyData.eqvAll (r.map PyData.str) (r'.map PyData.str) = decide (r = r')
  | [], [] => rfl
  | [], _ :: _ => rfl
  | _ :: _, [] => rfl
  | x :: r, y :: r' => by
    show (PyData.eqv (.str x) (.str y) && PyData.eqvAll (r.map PyData.str) (r'.map PyData.str)) = _
    rw [eqv_strs r r']
    have e : PyData.eqv (.str x) (.str y) = (x == y) := by simp only [PyData.eqv]
    rw [e]
    by_cases h : x = y
    · subst h
      simp
    · simp [h]
theorem eqv_rule (r r' : List Str) : PyData.eqv (dRule r) (dRule r') = decide (r = r') := by
  have e : PyData.eqv (dRule r) (dRule r') = PyData.eqvAll (r.map PyData.str) (r'.map PyData.str) := by simp only [dRule, PyData.eqv]
  rw [e, eqv_strs]
theorem eqv_rules : ∀ r r' : List (List Str), PyData.eqvAll (r.map dRule) (r'.map dRule) = decide (r = r')
  | [], [] => rfl
  | [], _ :: _ => rfl
  | _ :: _, [] => rfl
  | x :: r, y :: r' => by
    show (PyData.eqv (dRule x) (dRule y) && PyData.eqvAll (r.map dRule) (r'.map dRule)) = _
    rw [eqv_rules r r', eqv_rule]
    by_cases h : x = y
    · subst h
      simp
    · simp [h]
theorem eqv_six (r r' : List (List Str)) : PyData.eqv (dSix r) (dSix r') = decide (r = r') := by
  have e : PyData.eqv (dSix r) (dSix r') = PyData.eqvAll (r.map dRule) (r'.map dRule) := by simp only [dSix, PyData.eqv]
  rw [e, eqv_rules]
abbrev s_six : Stmt := top 17
theorem sc_six : FnScope ["jar", "found", "k", "some"] ["jar"] (defScope s_six) := ⟨rfl, rfl, rfl, by decide +kernel, rfl, by decide +kernel, by decide +kernel⟩
structure SixSt (K : PySem.W.Frag) (H0 H : Hp) (j fo : Addr) (n : Nat) (rs : List (List Str)) : Prop where
  lst : ∃ vs, H fo = some (.lst vs) ∧ Paired (RuleAt K H) vs rs
  jar : JarAt H j n
  kp : Kp j H0 H
theorem ok_six {f fD fR : Addr} {fd fdD fdR : FuncData} (F : Fun K "_law_six" "_law_six" s_six f fd) (T : TxtB mg) (gD : mg "_law_draw" = some (.ref fD)) (FD : Fun K "_law_draw" "_law_draw" s_draw fD fdD) (bD : Binds K fdD ["jar", "many"] [])
    (gR : mg "_law_rule" = some (.ref fR)) (FR : Fun K "_law_rule" "_law_rule" s_rule fR fdR) (bR : Binds K fdR ["jar", "most"] []) : FnOk P w K mg base CX0 3 f fd ["jar"] (spSix K) := by
  have GD : FnOk P w K mg base CX0 1 fD fdD ["jar", "many"] spDraw := ok_draw FD T
  have GR : FnOk P w K mg base CX0 2 fR fdR ["jar", "most"] spRule := ok_rule FR T gD FD bD
  refine F.ok sc_six (fun vs H Q E h => ?_) (fun cdv A outer s H vs Q E hr h => ?_)
  · obtain ⟨j, n, rfl, _⟩ := h
    rfl
  · obtain ⟨j, n, rfl, J, hn, q⟩ := h
    have hr1 : Room 1 _ := hr.mono (by decide)
    refine ⟨_, (pss_cons (ps_set (i := 1) sc_six.nd rfl (Or.inl rfl) (pe_lst pa_nil))
  (pss_cons (ps_for PassesOwn.never rfl (pi_range1 (by rfl) T.b_range (pa_cons pe_int pa_nil)) (pg_name (i := 2) sc_six.nd rfl (Or.inl rfl)) (pss_cons (ps_set (i := 3) sc_six.nd rfl (Or.inl rfl) (pe_call GR hr (by rfl) gR FR.kp bR .nil pass0 (pa_cons (pv 0) (pa_cons (pe_ix ix_list (pe_lst (pa_cons pe_int (pa_cons pe_int (pa_cons pe_int (pa_cons pe_int pa_nil))))) (pe_call GD hr1 (by rfl) gD FD.kp bD .nil pass0 (pa_cons (pv 0) (pa_cons pe_int pa_nil))) (fun _ _ => rfl)) pa_nil))))
  (pss_cons (ps_if (PW.pt (pw_and (pt_cmpR (op_neP hr.units) (pv 1) (pe_lst pa_nil) (nomark _)) (pw_and1 (pt_cmpR op_eq (pe_call GD hr1 (by rfl) gD FD.kp bD .nil pass0 (pa_cons (pv 0) (pa_cons pe_int pa_nil))) pe_int (nomark _))))) (pss_one (ps_set (i := 3) sc_six.nd rfl (Or.inl rfl) (pe_ix ix_list (pv 1) (pe_call GD hr1 (by rfl) gD FD.kp bD .nil pass0 (pa_cons (pv 0) (pa_cons (pe_callB call_len_seq (by rfl) T.b_len (by decide +kernel) (pa_cons (pv 1) pa_nil)) pa_nil))) (fun _ _ => rfl)))) pss_nil)
  (pss_one (ps_expr (pe_bm PySem.F.plainAttrs_list PySem.F.slot_list_append PySem.F.type_list_append mt_append (pv 1) (pa_cons (pv 3) pa_nil)))))))
  (pss_one (ps_ret (pe_callTy call_tuple_of (by rfl) T.b_tuple (by decide +kernel) (pa_cons (pv 1) pa_nil)))))), ?_⟩
    refine ⟨Nat.zero_le _, fun fo hfo => ?_⟩
    have nfj : fo ≠ j := J.ne hfo
    refine ⟨6, rfl, by decide, by decide, for_range (lo := 0) (n := 6) (fun i σ H' => ∃ v2 v3 rs, σ = [some (.ref j), some (.ref fo), v2, v3] ∧ SixSt K H H' j fo (n + 13 * i) rs ∧ rs.length = i ∧ ∀ r ∈ rs, IsRule r) ?_ ?_ ?_⟩
    · exact ⟨none, none, [], rfl, ⟨⟨[], upd_same, .nil⟩, J.same (same_new hfo), (same_new hfo).kp j⟩, rfl, fun r hr => by cases hr⟩
    · rintro i σ H1 hi ⟨v2, v3, rs, rfl, S1, hl, hrs⟩
      have hi6 : i < 6 := hi
      obtain ⟨⟨vs, hfo1, pr⟩, J1, k1⟩ := S1
      refine ⟨_, rfl, ?_⟩
      refine ⟨by show 4 ≤ sizeLine; decide, fun l4 h4 => ?_⟩
      refine ⟨_, rfl, ?_⟩
      refine ⟨j, 4, n + 13 * i, rfl, J1.same (same_new h4), by decide, by decide, by omega, fun z H2 hz0 hz1 J2 k2 => ?_⟩
      have k2' : Kp j H1 H2 := ((same_new h4).kp j).trans k2
      obtain ⟨m, hm, hm0, hm6⟩ : ∃ m : Int, ([1, 2, 3, 6] : List Int)[z.toNat]? = some m ∧ 0 ≤ m ∧ m ≤ 6 := by
        have : z.toNat = 0 ∨ z.toNat = 1 ∨ z.toNat = 2 ∨ z.toNat = 3 := by omega
        rcases this with e | e | e | e <;> rw [e]
        · exact ⟨1, rfl, by decide, by decide⟩
        · exact ⟨2, rfl, by decide, by decide⟩
        · exact ⟨3, rfl, by decide, by decide⟩
        · exact ⟨6, rfl, by decide, by decide⟩
      refine ⟨l4, ([1, 2, 3, 6] : List Int).map V.int, z, .int m, rfl, rfl, SqL.of (k2 _ _ (J1.ne h4) upd_same), at_of (j := z.toNat) (by omega) (by rw [List.getElem?_map, hm]; rfl), ?_⟩
      refine ⟨j, m, n + 13 * i + 1, rfl, J2, hm0, hm6, by omega, fun a r H3 ha hra hrx J3 k3 => ?_⟩
      have k3' : Kp j H1 H3 := k2'.trans k3
      have hfo3 : H3 fo = some (.lst vs) := k3' _ _ nfj hfo1
      have pr3 : Paired (RuleAt K H3) vs rs := (J1.kt k3').rules pr
      dsimp only [gName, tSeq]
      refine tIfS_via (fun σ' H' => ∃ v r, σ' = [some (.ref j), some (.ref fo), some (.int (0 + i)), some v] ∧ RuleAt K H' v r ∧ IsRule r ∧ SixSt K H H' j fo (n + 13 * (i + 1)) rs ∧ H' fo = some (.lst vs)) (fun key => ?_) ?_
      · have pl : PyData.plain (.list (rs.map dRule)) = true := plain_rules rs
        have dl : PyData.depth (.list (rs.map dRule)) ≤ 64 := by
          have := depth_rules rs
          show PyData.depthAll (rs.map dRule) + 1 ≤ 64
          omega
        refine ⟨_, rfl, Nat.zero_le _, fun l0 hl0 => ?_⟩
        have nl : fo ≠ l0 := ne_of_none hfo3 hl0
        have k4 : Kp j H1 (upd H3 l0 (.lst [])) := k3'.trans ((same_new hl0).kp j)
        have J4 := J3.same (same_new (o := .lst []) hl0)
        have pr4 : Paired (RuleAt K (upd H3 l0 (.lst []))) vs rs := (same_new hl0).kt.rules pr3
        have hfo4 : upd H3 l0 (.lst []) fo = some (.lst vs) := by rw [upd_ne nl]; exact hfo3
        refine ⟨.list (rs.map dRule), .list [], .lst (SqL.of hfo4) (dp_rules pr4), .lst (SqL.of upd_same) .nil, pl, rfl, dl, ?_⟩
        refine ⟨_, rfl, ?_⟩
        have stop : ∀ H', Kp j H1 H' → JarAt H' j (n + 13 * (i + 1)) → H' fo = some (.lst vs) → RuleAt K H' (.ref a) r → _ := fun H' kk jj hh aa => key _ H' ⟨.ref a, r, rfl, aa, ⟨by omega, hrx⟩, ⟨⟨vs, hh, (J1.kt kk).rules pr⟩, jj, k1.trans kk⟩, hh⟩
        have ha3 : RuleAt K H3 (.ref a) r := ⟨a, rfl, SqT.of ha⟩
        refine ite2 (fun hc => ?_) (fun hc => ?_)
        · have hne : 0 < vs.length := by
            rw [pr.length]
            cases rs with
            | nil => exact absurd hc (by decide)
            | cons _ _ => exact Nat.succ_pos _
          refine ⟨_, rfl, j, 4, n + 13 * i + 1 + 10, rfl, J4, by decide, by decide, by omega, fun z2 H5 hz20 hz21 J5 k5 => ?_⟩
          have kk5 := k4.trans k5
          refine ⟨rfl, _, rfl, ?_⟩
          refine ite2 (fun hd => ?_) (fun hd => ?_)
          · have hfo5 := k5 _ _ nfj hfo4
            refine ⟨_, rfl, ?_⟩
            refine ⟨_, rfl, _, rfl, fo, _, rfl, .inl (SqL.of hfo5), ?_⟩
            have hl6 : vs.length < 7 := by rw [pr.length]; omega
            refine ⟨j, _, n + 13 * i + 1 + 10 + 1, rfl, J5, by omega, Int.lt_trans (Int.ofNat_lt.mpr hl6) (by decide), by omega, fun z3 H6 hz30 hz31 J6 k6 => ?_⟩
            have kk6 := kk5.trans k6
            obtain ⟨v, hv⟩ : ∃ v, vs[z3.toNat]? = some v := ⟨_, List.getElem?_eq_getElem (show z3.toNat < vs.length by omega)⟩
            have pr6 : Paired (RuleAt K H6) vs rs := (J1.kt kk6).rules pr
            obtain ⟨r6, hr6, hv6⟩ := pair_get1 pr6 hv
            have hfo6 := k6 _ _ nfj hfo5
            refine ⟨fo, _, z3, v, rfl, rfl, SqL.of hfo6, at_of (j := z3.toNat) (by omega) hv, ?_⟩
            exact key _ H6 ⟨v, r6, rfl, hv6, hrs _ (List.mem_of_getElem? hr6), ⟨⟨vs, hfo6, pr6⟩, J6.mono (by omega), k1.trans kk6⟩, hfo6⟩
          · exact stop H5 kk5 (J5.mono (by omega)) (k5 _ _ nfj hfo4) ((J4.kt k5).rule ((same_new hl0).kt.rule ha3))
        · exact stop _ k4 (J4.mono (by omega)) hfo4 ((same_new hl0).kt.rule ha3)
      · rintro σ' H4 ⟨v, r4, rfl, hv, hr4, S4, hfo4⟩
        obtain ⟨⟨vs4, e4, pr4⟩, J4, k4⟩ := S4
        have e5 : vs4 = vs := HO.lst.inj (Option.some.inj (e4.symm.trans hfo4))
        subst e5
        refine ⟨_, rfl, .inl ⟨rfl, _, SqL.of hfo4⟩, _, rfl, fo, _, v, rfl, rfl, hfo4, small1000 (by rw [pr4.length]; omega), ?_⟩
        refine ⟨_, _, rs ++ [r4], rfl, ⟨⟨vs4 ++ [v], upd_same, pair_snoc ((kt_lst hfo4).rule hv) ((kt_lst hfo4).rules pr4)⟩, ?_, kp_fresh (Kp.refl j H) hfo k4⟩, by rw [List.length_append, hl]; rfl, ?_⟩
        · exact J4.keep fun o e => by rw [upd_ne nfj.symm]; exact e
        · intro x hx
          rcases List.mem_append.mp hx with hx | hx
          · exact hrs x hx
          · rw [List.mem_singleton.mp hx]
            exact hr4
    · rintro σ H1 ⟨v2, v3, rs, rfl, S1, hl, hrs⟩
      obtain ⟨⟨vs, hfo1, pr⟩, J1, k1⟩ := S1
      refine ⟨_, rfl, fo, _, rfl, .inl ⟨SqL.of hfo1, fun l hl1 => ?_⟩⟩
      refine q l rs _ ⟨l, vs, rfl, SqT.of upd_same, (same_new hl1).kt.rules pr⟩ hl hrs ((J1.same (same_new hl1)).mono (by omega)) (k1.trans ((same_new hl1).kp j))
end
end Sh

namespace Sh
open PySem L2
/-! ### what the text's constants are -/
structure TxtK (K : PySem.W.Frag) (mg : Str → Option Value) (aA aD : Addr) : Prop where
  g_ACTIONS : mg "ACTIONS" = some (.ref aA)
  g_DOORS : mg "DOORS" = some (.ref aD)
  g_MOST : ∃ t, mg "MOST_ACTIONS" = some (.int 6 t)
  kA : ∃ (o : Obj) (its : Array Value) (n : Nat), K.lookup aA = some o ∧ o.cls = .type "tuple" ∧ o.dict = none ∧ o.data = .seq its n ∧ its.size ≤ sizeLine ∧ Vals (acts.map V.str) its.toList
  kD : ∃ (o : Obj) (its : Array Value) (n : Nat), K.lookup aD = some o ∧ o.cls = .type "tuple" ∧ o.dict = none ∧ o.data = .seq its n ∧ its.size ≤ sizeLine ∧ Vals (doors.map V.str) its.toList
section
variable {P : Program} {w : World} {K : PySem.W.Frag} {mg : Str → Option Value} {base : Heap} {aA aD : Addr}
theorem TxtK.sA (T : TxtK K mg aA aD) (H : Hp) : SqT K H aA (acts.map V.str) := by
  obtain ⟨o, its, n, h1, h2, h3, h4, h5, h6⟩ := T.kA
  exact .inr ⟨o, its, n, h1, h2, h4, h5, h6⟩
theorem TxtK.sD (T : TxtK K mg aA aD) (H : Hp) : SqT K H aD (doors.map V.str) := by
  obtain ⟨o, its, n, h1, h2, h3, h4, h5, h6⟩ := T.kD
  exact .inr ⟨o, its, n, h1, h2, h4, h5, h6⟩
theorem TxtK.tD (T : TxtK K mg aA aD) (H : Hp) : tyV K "tuple" (.ref aD) H := by
  obtain ⟨o, its, n, h1, h2, h3, _⟩ := T.kD
  exact .inr (.inl ⟨rfl, o, h1, h2, h3⟩)
theorem inV_strs (z : Str) : ∀ l : List Str, inV (.str z) (l.map V.str) = decide (z ∈ l)
  | [] => rfl
  | x :: l => by
    show (eqV (.str x) (.str z) || inV (.str z) (l.map V.str)) = _
    rw [inV_strs z l]
    show ((x == z) || decide (z ∈ l)) = _
    by_cases h : x = z
    · subst h
      simp
    · have h' : ¬ z = x := fun q => h q.symm
      simp [h, h']
theorem flat_strs : ∀ l : List Str, (l.map V.str).all flatV = true
  | [] => rfl
  | x :: l => flat_strs l
/-- a value by whether it is a text among l -/
inductive Among (K : PySem.W.Frag) (H : Hp) (l : List Str) : V → Bool → Prop
  | str (z : Str) : Among K H l (.str z) (decide (z ∈ l))
  | other {v : V} {t : Value} (ty : TyX K H v t) (no : PySem.W.kitOne K t (.type "str") = some false) : Among K H l v false
theorem Among.kt {H H' : Hp} {l : List Str} {v : V} {b : Bool} (h : Among K H l v b) (k : ∀ t, TyX K H v t → TyX K H' v t) : Among K H' l v b := by
  cases h with
  | str z => exact .str z
  | other ty no => exact .other (k _ ty) no
def spAmong (K : PySem.W.Frag) (l : List Str) : Sp := fun vs H Q _ => ∃ v b, vs = [v] ∧ Among K H l v b ∧ Q (.bl b) H
abbrev s_isact : Stmt := top 9
abbrev s_isrule : Stmt := top 10
abbrev s_isdoor : Stmt := top 11
theorem sc_isact : FnScope ["value"] ["value"] (defScope s_isact) := ⟨rfl, rfl, rfl, by decide +kernel, rfl, by decide +kernel, by decide +kernel⟩
theorem ok_isact {f : Addr} {fd : FuncData} (F : Fun K "is_action" "is_action" s_isact f fd) (B : TxtB mg) (T : TxtK K mg aA aD) : FnOk P w K mg base CX0 1 f fd ["value"] (spAmong K acts) := by
  refine F.ok sc_isact (fun vs H Q E h => ?_) (fun cdv A outer s H vs Q E hr h => ?_)
  · obtain ⟨v, b, rfl, _⟩ := h
    rfl
  · obtain ⟨v, b, rfl, hv, q⟩ := h
    refine ⟨_, (pss_one (ps_ret (pe_and (pe_callB call_isi (by rfl) B.b_isinstance (by decide +kernel) (pa_cons (pv 0) (pa_cons (pe_bltn (v := .ty "str") (by rfl) B.b_str (by decide +kernel) rfl) pa_nil))) (pe_one (pe_cmpR op_in_seq (pv 0) (pe_glob (v := .ref aA) (by rfl) T.g_ACTIONS rfl) (by rfl)))))), ?_⟩
    refine ⟨_, rfl, ?_⟩
    cases hv with
    | str z =>
      refine ⟨_, _, _, _, true, rfl, .ty "str", .base (.str z), kit_ty (by decide +kernel), ?_⟩
      refine ⟨_, rfl, ?_⟩
      refine ⟨_, rfl, aA, _, rfl, .inr (T.sA _), rfl, flat_strs acts, ?_⟩
      show Q (.bl (inV (.str z) (acts.map V.str))) H
      rw [inV_strs]
      exact q
    | other ty no =>
      refine ⟨_, _, _, _, false, rfl, .ty "str", ty, no, ?_⟩
      exact ⟨_, rfl, q⟩
theorem sc_isdoor : FnScope ["value"] ["value"] (defScope s_isdoor) := ⟨rfl, rfl, rfl, by decide +kernel, rfl, by decide +kernel, by decide +kernel⟩
theorem ok_isdoor {f : Addr} {fd : FuncData} (F : Fun K "is_door" "is_door" s_isdoor f fd) (B : TxtB mg) (T : TxtK K mg aA aD) : FnOk P w K mg base CX0 1 f fd ["value"] (spAmong K doors) := by
  refine F.ok sc_isdoor (fun vs H Q E h => ?_) (fun cdv A outer s H vs Q E hr h => ?_)
  · obtain ⟨v, b, rfl, _⟩ := h
    rfl
  · obtain ⟨v, b, rfl, hv, q⟩ := h
    refine ⟨_, (pss_one (ps_ret (pe_and (pe_callB call_isi (by rfl) B.b_isinstance (by decide +kernel) (pa_cons (pv 0) (pa_cons (pe_bltn (v := .ty "str") (by rfl) B.b_str (by decide +kernel) rfl) pa_nil))) (pe_one (pe_cmpR op_in_seq (pv 0) (pe_glob (v := .ref aD) (by rfl) T.g_DOORS rfl) (by rfl)))))), ?_⟩
    refine ⟨_, rfl, ?_⟩
    cases hv with
    | str z =>
      refine ⟨_, _, _, _, true, rfl, .ty "str", .base (.str z), kit_ty (by decide +kernel), ?_⟩
      refine ⟨_, rfl, ?_⟩
      refine ⟨_, rfl, aD, _, rfl, .inr (T.sD _), rfl, flat_strs doors, ?_⟩
      show Q (.bl (inV (.str z) (doors.map V.str))) H
      rw [inV_strs]
      exact q
    | other ty no =>
      refine ⟨_, _, _, _, false, rfl, .ty "str", ty, no, ?_⟩
      exact ⟨_, rfl, q⟩
/-! ### rules by is_rule -/
/-- a value by whether it is a rule -/
inductive RuleCl (K : PySem.W.Frag) (H : Hp) : V → Bool → Prop
  | tup {a : Addr} {xs : List V} {bs : List Bool} (h : SqT K H a xs) (ty : TyX K H (.ref a) (.type "tuple")) (p : xs.length ≤ 6 → Paired (Among K H acts) xs bs) : RuleCl K H (.ref a) (decide (xs.length ≤ 6) && bs.all id)
  | other {v : V} {t : Value} (ty : TyX K H v t) (no : PySem.W.kitOne K t (.type "tuple") = some false) : RuleCl K H v false
def spIsRule (K : PySem.W.Frag) : Sp := fun vs H Q _ => ∃ v b, vs = [v] ∧ RuleCl K H v b ∧ ∀ H', Same H H' → Q (.bl b) H'
theorem _root_.L2.Same.tyX {H H' : Hp} (s : Same H H') {v : V} {t : Value} (h : TyX K H v t) : TyX K H' v t := by
  cases h with
  | base b =>
    cases b with
    | non => exact .base .non
    | bl x => exact .base (.bl x)
    | int x => exact .base (.int x)
    | str x => exact .base (.str x)
    | flt x => exact .base (.flt x)
    | lst e => exact .base (.lst (s _ _ e))
    | frz e => exact .base (.frz (s _ _ e))
    | tup e => exact .base (.tup (s _ _ e))
    | dK e => exact .base (.dK (s _ _ e))
    | dT e => exact .base (.dT (s _ _ e))
    | ins e a b c d f => exact .base (.ins (s _ _ e) a b c d f)
  | byt b => exact .byt b
  | set e => exact .set (s _ _ e)
  | kList e c => exact .kList e c
  | kTuple e c => exact .kTuple e c
  | kDict e c => exact .kDict e c
  | fTuple e => exact .fTuple (s _ _ e)
  | fDict e => exact .fDict (s _ _ e)
theorem sqT_same {H H' : Hp} (s : Same H H') {a : Addr} {xs : List V} (h : SqT K H a xs) : SqT K H' a xs := s.kt.sqT h
theorem among_same {H H' : Hp} (s : Same H H') {l : List Str} {v : V} {b : Bool} (h : Among K H l v b) : Among K H' l v b := h.kt fun _ q => s.tyX q
theorem sc_isrule : FnScope ["value", "part"] ["value"] (defScope s_isrule) := ⟨rfl, rfl, rfl, by decide +kernel, rfl, by decide +kernel, by decide +kernel⟩
theorem ok_isrule {f fA : Addr} {fd fdA : FuncData} (F : Fun K "is_rule" "is_rule" s_isrule f fd) (B : TxtB mg) (T : TxtK K mg aA aD) (gA : mg "is_action" = some (.ref fA)) (FA : Fun K "is_action" "is_action" s_isact fA fdA) (bA : Binds K fdA ["value"] []) :
    FnOk P w K mg base CX0 2 f fd ["value"] (spIsRule K) := by
  have GA : FnOk P w K mg base CX0 1 fA fdA ["value"] (spAmong K acts) := ok_isact FA B T
  refine F.ok sc_isrule (fun vs H Q E h => ?_) (fun cdv A outer s H vs Q E hr h => ?_)
  · obtain ⟨v, b, rfl, _⟩ := h
    rfl
  · obtain ⟨v, b, rfl, hv, q⟩ := h
    obtain ⟨t6, g6⟩ := T.g_MOST
    refine ⟨_, (pss_one (ps_ret (pe_and (pe_callB call_isi (by rfl) B.b_isinstance (by decide +kernel) (pa_cons (pv 0) (pa_cons (pe_bltn (v := .ty "tuple") (by rfl) B.b_tuple (by decide +kernel) rfl) pa_nil))) (pe_and (pe_cmpR op_le (pe_callB call_len_seq (by rfl) B.b_len (by decide +kernel) (pa_cons (pv 0) pa_nil)) (pe_glob (v := .int 6) (by rfl) g6 ⟨_, rfl⟩) (nomark _)) (pe_one (pe_callB (cr_all rfl) (by rfl) B.b_all (by decide +kernel) (pa_cons (pe_lc (own := [("part", 1)]) (g := (gName 1)) (by rfl) sc_isrule.nd (pi_tup (pv 0)) (blkOk_by (own := [("part", 1)]) (N := ["value", "part"]) (sc := defScope s_isrule) (by decide +kernel)) (fun _ _ _ _ _ => (pg_name (i := 1) sc_isrule.nd rfl (Or.inl rfl))) (fun _ _ _ _ _ => pts_nil) (fun _ _ _ _ _ => (pe_call GA hr (by rfl) gA FA.kp bA .nil pass0 (pa_cons (pv 1) pa_nil)))) pa_nil))))))), ?_⟩
    refine ⟨_, rfl, ?_⟩
    cases hv with
    | other ty no =>
      refine ⟨_, _, _, _, false, rfl, .ty "tuple", ty, no, ?_⟩
      exact ⟨_, rfl, q _ (Same.refl _)⟩
    | @tup a xs bs h ty p =>
      refine ⟨_, _, _, _, true, rfl, .ty "tuple", ty, kit_ty (by decide +kernel), ?_⟩
      refine ⟨_, rfl, ?_⟩
      refine ⟨_, rfl, a, _, rfl, .inr h, _, _, rfl, rfl, ?_⟩
      refine ⟨_, rfl, ?_⟩
      refine ite2 (fun hc => ?_) (fun hc => ?_)
      · have hc' : xs.length ≤ 6 := Int.ofNat_le.mp (of_decide_eq_true hc)
        have pp := p hc'
        refine ⟨_, rfl, a, rfl, ⟨_, h⟩, fun D hD => ?_⟩
        refine lc_tup (K := K) (a := a) (xs := xs) (fun i H' => H' D = some (.lst ((bs.take i).map V.bl)) ∧ Same H H') ?_ ?_ ?_ ?_
        · exact ⟨upd_same, same_new hD⟩
        · intro i H' _ ⟨_, s'⟩
          exact sqT_same s' h
        · rintro i x H' hx ⟨hD', s'⟩
          obtain ⟨b, hb, hxb⟩ := pair_get1 pp hx
          refine ⟨rfl, ?_⟩
          refine ⟨_, rfl, x, b, rfl, among_same s' hxb, ?_⟩
          refine ⟨_, hD', ?_, ?_, ?_⟩
          · rw [List.length_map, List.length_take]
            exact small1000 (by have := (List.getElem?_eq_some_iff.mp hx).1; omega)
          · rw [upd_same, List.take_add_one, hb]
            simp
          · exact fun c o e => by rw [upd_ne (ne_of_none e hD)]; exact s' _ _ e
        · rintro H' ⟨hD', s'⟩
          refine ⟨D, bs, rfl, SqL.of ?_, ?_⟩
          · rw [hD', pp.length, List.take_length]
          · have e : (decide (xs.length ≤ 6) && bs.all id) = bs.all id := by
              rw [decide_eq_true hc']
              rfl
            rw [← e]
            exact q _ s'
      · have hc' : ¬ xs.length ≤ 6 := fun z => hc (decide_eq_true (Int.ofNat_le.mpr z))
        have e : (decide (xs.length ≤ 6) && bs.all id) = false := by
          rw [decide_eq_false hc']
          rfl
        have q' := q _ (Same.refl _)
        rw [e] at q'
        exact q'
end
end Sh

namespace Sh
open PySem L2
section
variable {P : Program} {w : World} {K : PySem.W.Frag} {mg : Str → Option Value} {base : Heap} {aA aD : Addr}
/-! ### the error classes with one field -/
structure ErrTxt (K : PySem.W.Frag) (mg : Str → Option Value) (x f : Str) (C fI : Addr) : Prop where
  oex : OexC K C
  no : PySem.W.findIn K (.ref C) f = some none
  iC : PySem.W.findIn K (.ref C) "__init__" = some (some (.ref fI))
  tI : PySem.W.typeIn K (.ref fI) = some (.type "function")
  g : mg x = some (.ref C)
def spErr (C : Addr) (f : Str) : Sp := fun vs H Q _ => ∃ (a : Addr) (v : V), vs = [.ref a, v] ∧ H a = some (exo a C none) ∧ ∀ d, H d = none → d ≠ a → Q .non (upd (upd H d (exd d [(f, v)])) a (exo a C (some d)))
theorem err_made {C : Addr} {f : Str} {v : V} {H : Hp} {Q : XK} (k : ∀ d H', H' d = some (.xd [(f, v)]) → Same H H' → H d = none → Q (.ref C) (some d) H') :
    ([v] : List V).length ≤ 1000 ∧ ∀ a, H a = none → spErr C f (.ref a :: ([v] ++ [])) (upd H a (exo a C none))
      (fun v H2 => v = .non ∧ ∃ (d : Addr) (fs : List (Str × V)), H2 a = some (exo a C (some d)) ∧ H2 d = some (exd d fs) ∧ H d = none ∧ Q (.ref C) (some d) (upd (del H2 a) d (.xd fs))) (fun _ _ _ => False) := by
  refine ⟨by show 1 ≤ 1000; decide, fun a ha => ⟨a, v, rfl, upd_same, fun d hd nd => ⟨rfl, d, [(f, v)], upd_same, ?_, ?_, ?_⟩⟩⟩
  · rw [upd_ne nd, upd_same]
  · rw [upd_ne nd] at hd
    exact hd
  · rw [upd_ne nd] at hd
    refine k d _ upd_same (fun b o e => ?_) hd
    have hb : b ≠ d := ne_of_none e hd
    have hba : b ≠ a := ne_of_none e ha
    rw [upd_ne hb, del_ne hba, upd_ne hba, upd_ne hb, upd_ne hba]
    exact e
abbrev s_eRule : Stmt := inClass (top 3) 0
abbrev s_eDoor : Stmt := inClass (top 4) 0
theorem sc_eRule : FnScope ["self", "door"] ["self", "door"] (defScope s_eRule) := ⟨rfl, rfl, rfl, by decide +kernel, rfl, by decide +kernel, by decide +kernel⟩
theorem ok_eRule {f C : Addr} {fd : FuncData} (F : Fun K "__init__" "NoRule.__init__" s_eRule f fd) (T : ErrTxt K mg "NoRule" "door" C f) : FnOk P w K mg base CX0 1 f fd ["self", "door"] (spErr C "door") := by
  refine F.ok sc_eRule (fun vs H Q E h => ?_) (fun cdv A outer s H vs Q E hr h => ?_)
  · obtain ⟨a, v, rfl, _⟩ := h
    rfl
  · obtain ⟨a, v, rfl, ha, k⟩ := h
    refine ⟨_, pss_one (ps_ost (pv 0) (pv 1) rfl), ?_⟩
    refine ⟨_, rfl, _, rfl, a, C, rfl, T.oex, T.no, .inl ⟨ha, fun d hd nd => ?_⟩⟩
    exact k d hd nd
theorem sc_eDoor : FnScope ["self", "door"] ["self", "door"] (defScope s_eDoor) := ⟨rfl, rfl, rfl, by decide +kernel, rfl, by decide +kernel, by decide +kernel⟩
theorem ok_eDoor {f C : Addr} {fd : FuncData} (F : Fun K "__init__" "NoDoor.__init__" s_eDoor f fd) (T : ErrTxt K mg "NoDoor" "door" C f) : FnOk P w K mg base CX0 1 f fd ["self", "door"] (spErr C "door") := by
  refine F.ok sc_eDoor (fun vs H Q E h => ?_) (fun cdv A outer s H vs Q E hr h => ?_)
  · obtain ⟨a, v, rfl, _⟩ := h
    rfl
  · obtain ⟨a, v, rfl, ha, k⟩ := h
    refine ⟨_, pss_one (ps_ost (pv 0) (pv 1) rfl), ?_⟩
    refine ⟨_, rfl, _, rfl, a, C, rfl, T.oex, T.no, .inl ⟨ha, fun d hd nd => ?_⟩⟩
    exact k d hd nd
/-! ### Book -/
theorem ruleCl_same {H H' : Hp} (s : Same H H') {v : V} {b : Bool} (h : RuleCl K H v b) : RuleCl K H' v b := by
  cases h with
  | tup h ty p => exact .tup (sqT_same s h) (s.tyX ty) fun z => pair_map (fun _ _ q => among_same s q) (p z)
  | other ty no => exact .other (s.tyX ty) no
def bf (l : Addr) : List (Str × V) := [("_rules", .ref l)]
def spBInit (K : PySem.W.Frag) (C CR : Addr) : Sp := fun vs H Q E => ∃ (x dx : Addr) (ws : List V) (bs : List Bool), vs = .ref x :: ws ∧ ws.length = 6 ∧ H x = some (.ins C dx []) ∧ Paired (RuleCl K H) ws bs ∧
  ((∀ b ∈ bs, b = true) → ∀ H' l, H' x = some (.ins C dx (bf l)) → H' l = some (.tup ws) → H l = none → (∀ b o, H b = some o → b ≠ x → H' b = some o) → Q .non H') ∧
  (∀ i, bs[i]? = some false → (∀ j, j < i → bs[j]? = some true) → ∀ d H', H' d = some (.xd [("door", .str (doors.getD i ""))]) → Same H H' → H d = none → E (.ref CR) (some d) H')
structure TxtBook (K : PySem.W.Frag) (mg : Str → Option Value) (C : Addr) : Prop where
  cl : Cls K C
  nR : NoAttr K C "_rules"
  g : mg "Book" = some (.ref C)
abbrev s_init : Stmt := inClass (top 12) 0
theorem sc_init : FnScope ["self", "put", "look", "alter", "back", "pay", "again", "rules", "door", "rule"] ["self", "put", "look", "alter", "back", "pay", "again"] (defScope s_init) := ⟨rfl, rfl, rfl, by decide +kernel, rfl, by decide +kernel, by decide +kernel⟩
theorem ok_init {f fS fA C CR fE : Addr} {dvs : List V} {fd fdS fdA fdE : FuncData} (F : FunD K "__init__" "Book.__init__" (defArgs s_init) (defBody s_init) (defScope s_init) dvs [] f fd) (B : TxtB mg) (T : TxtK K mg aA aD) (TB : TxtBook K mg C)
    (gA : mg "is_action" = some (.ref fA)) (FA : Fun K "is_action" "is_action" s_isact fA fdA) (bA : Binds K fdA ["value"] [])
    (gS : mg "is_rule" = some (.ref fS)) (FS : Fun K "is_rule" "is_rule" s_isrule fS fdS) (bS : Binds K fdS ["value"] [])
    (TE : ErrTxt K mg "NoRule" "door" CR fE) (FE : Fun K "__init__" "NoRule.__init__" s_eRule fE fdE) (bE : Binds K fdE ["self", "door"] []) :
    FnOk P w K mg base (L2.CX P w) 4 f fd ["self", "put", "look", "alter", "back", "pay", "again"] (spBInit K C CR) := by
  have GS : FnOk P w K mg base CX0 2 fS fdS ["value"] (spIsRule K) := ok_isrule FS B T gA FA bA
  have GE : FnOk P w K mg base CX0 1 fE fdE ["self", "door"] (spErr CR "door") := ok_eRule FE TE
  refine F.ok sc_init (fun vs H Q E h => ?_) (fun cdv A outer s H vs Q E hr h => ?_)
  · obtain ⟨x, dx, ws, bs, rfl, h6, _⟩ := h
    show ws.length + 1 = 7
    rw [h6]
  · obtain ⟨x, dx, ws, bs, rfl, h6, hx, pr, kq, ke⟩ := h
    match ws, h6 with
    | [w0, w1, w2, w3, w4, w5], _ => ?_
    have hr1 : Room 2 _ := hr.mono (by decide)
    refine ⟨_, (pss_cons (ps_set (i := 7) sc_init.nd rfl (Or.inl rfl) (pe_tup (pa_cons (pv 1) (pa_cons (pv 2) (pa_cons (pv 3) (pa_cons (pv 4) (pa_cons (pv 5) (pa_cons (pv 6) pa_nil))))))))
  (pss_cons (ps_for (passes_of rfl) rfl (RZ.pi_zipA (by rfl) B.b_zip (pa_cons (pe_glob (v := .ref aD) (by rfl) T.g_DOORS rfl) (pa_cons (pv 7) pa_nil))) (pg_tup (by rfl) (pgs_cons (pg_name (i := 8) sc_init.nd rfl (Or.inl rfl)) (pgs_cons (pg_name (i := 9) sc_init.nd rfl (Or.inl rfl)) pgs_nil))) (pss_one (ps_if (pt_not (pt_val (pe_call GS hr1 (by rfl) gS FS.kp bS .nil pass0 (pa_cons (pv 9) pa_nil)))) (pss_one (ps_raise rfl (takes_of rfl rfl rfl rfl) (pmk_oex TE.oex TE.iC TE.tI GE hr1 bE .nil pass0 (by rfl) TE.g (by exact (pa_cons (pv 8) pa_nil))))) pss_nil)))
  (pss_one (ps_fld (pv 0) (pv 7) rfl)))), ?_⟩
    refine ⟨_, rfl, _, rfl, _, rfl, _, rfl, _, rfl, _, rfl, ?_⟩
    refine ⟨by show 6 ≤ sizeLine; decide, fun l hl => ?_⟩
    have s1 : Same H (upd H l (.tup [w0, w1, w2, w3, w4, w5])) := same_new hl
    have nxl : x ≠ l := ne_of_none hx hl
    refine ⟨_, rfl, aD, l, doors.map V.str, [w0, w1, w2, w3, w4, w5], rfl, .inr ⟨T.sD _, SqT.of upd_same, ?_⟩⟩
    refine RZ.for_zipT (K := K) (a := aD) (b := l) (xs := doors.map V.str) (ys := [w0, w1, w2, w3, w4, w5]) rfl (fun i σ H' => ∃ v8 v9, σ = [some (.ref x), some w0, some w1, some w2, some w3, some w4, some w5, some (.ref l), v8, v9] ∧ Same (upd H l (.tup [w0, w1, w2, w3, w4, w5])) H' ∧ ∀ j, j < i → bs[j]? = some true) ?_ ?_ ?_ ?_
    · exact ⟨none, none, rfl, Same.refl _, fun j hj => absurd hj (Nat.not_lt_zero _)⟩
    · rintro i σ H' ⟨_, _, _, s2, _⟩
      exact ⟨T.sD _, SqT.of (s2 _ _ upd_same)⟩
    · rintro i u y tu σ H' hu hy ⟨v8, v9, rfl, s2, hb⟩ hT
      refine ⟨tu, [u, y], rfl, SqT.of upd_same, rfl, u, _, rfl, y, _, rfl, rfl, ?_⟩
      have s3 : Same H (upd H' tu (.tup [u, y])) := (s1.trans s2).trans (same_new hT)
      obtain ⟨b, hbi, hcl⟩ := pair_get1 pr hy
      refine ⟨_, rfl, y, b, rfl, ruleCl_same s3 hcl, fun H4 s4 => ⟨_, rfl, ?_⟩⟩
      cases b with
      | true =>
        refine ⟨_, _, rfl, s2.trans ((same_new hT).trans s4), fun j hj => ?_⟩
        by_cases e : j < i
        · exact hb j e
        · have e' : j = i := by omega
          rw [e']
          exact hbi
      | false =>
        have hi6 : i < doors.length := by
          have := (List.getElem?_eq_some_iff.mp hu).1
          rw [List.length_map] at this
          exact this
        have eu : u = .str (doors.getD i "") := by
          rw [List.getElem?_map] at hu
          rw [List.getD_eq_getElem?_getD]
          cases e : doors[i]? with
          | none =>
            rw [e] at hu
            cases hu
          | some z =>
            rw [e] at hu
            exact (Option.some.inj hu).symm
        subst eu
        refine ⟨_, rfl, err_made fun d H5 hd s5 hn => ?_⟩
        exact ke i hbi hb d H5 hd ((s3.trans s4).trans s5) ((s3.trans s4).free hn)
    · rintro σ H' ⟨v8, v9, rfl, s2, hb⟩
      have s3 := s1.trans s2
      refine ⟨_, rfl, _, rfl, x, C, dx, [], rfl, s3 _ _ hx, TB.cl, TB.nR, (by show 0 < 1000; decide), ?_⟩
      have hbl : bs.length = 6 := pr.length.symm
      refine kq (fun b hm => ?_) _ l upd_same ?_ hl fun b o e hb => ?_
      · obtain ⟨i, hi, e⟩ := List.getElem_of_mem hm
        have := hb i (by show i < 6; omega)
        rw [List.getElem?_eq_getElem hi] at this
        rw [← e]
        exact Option.some.inj this
      · rw [upd_ne nxl.symm]
        exact s2 _ _ upd_same
      · rw [upd_ne hb]
        exact s3 _ _ e
end
end Sh

namespace Sh
open PySem L2
/-! ### keywords of methods -/
def tMethN (C : Addr) (m : Str) (n : Nat) (sp : Sp) (gV : List V → List V → List V) (E : XK) (ta : TE) (tk : TA) : TE := fun σ H Q => ta σ H fun x H1 => ∃ a dx fs, x = .ref a ∧ H1 a = some (.ins C dx fs) ∧ fs.lookup m = none ∧
  tk σ H1 fun zs H2 => zs.length = n ∧ sp (gV [x] zs) H2 Q E
section
variable {X : Cx} {CX : CXT} {k : Nat} {f C : Addr} {fd : FuncData} {ps ks : List Str} {sp : Sp} {E : XK} {m : Str} {apos pos : Pos} {o : Expr} {kws : List Keyword} {ta : TE} {tk : TA} {g : List Value → List Value → List Value} {gV : List V → List V → List V}
/-- o.m(k = v, ..) -/
theorem pe_methK0 {pl : Sem Bool} (he : PE X o ta) (c : Cls X.K C) (hm : Meth X.K C m f) (F : FnOk X.prog X.w X.K X.mg X.base CX k f fd ps sp) (hr : Room k X.A) (hb : KBn X.K fd ps 1 ks g gV) (hx : Passes CX X E) (hkw : PK X kws tk)
    (hall : (backToKw pos (keywordEach kws X.env)).all (·.1.isSome) = true := by rfl) (hks : (backToKw pos (keywordEach kws X.env)).filterMap (·.1) = ks := by rfl)
    (hpl : ((backTo pos (starEach [] X.env)).any (·.1) || (backToKw pos (keywordEach kws X.env)).any (·.1.isNone)) = false := by rfl)
    (ht : eval (.Call (.Attribute o m apos) [] kws pos) X.env = (do
      let ov ← eval o X.env
      standAt apos.atName
      let (f, first) ← holding [ov] (getMethod ov m pl)
      callWith pos f first (backTo pos (starEach [] X.env)) (backToKw pos (keywordEach kws X.env))) := by rfl) :
    PE X (.Call (.Attribute o m apos) [] kws pos) (tMethN C m ks.length sp gV E ta tk) := by
  refine ⟨fun pins s σ H Q I h => ?_⟩
  refine PySem.W.methodCall_KW (pl := pl) (thn (he.run pins s σ H _ I h) fun u s1 ⟨x, H1, I1, rx, a, dx, fs, ex, ea, l, q⟩ => ?_) ht
  subst ex
  obtain rfl : u = Value.ref a := rx
  refine getmeth_ok I1 ea c hm l ?_
  refine PySem.W.callWith_KW0 (h₀ := X.base) (first := [.ref a]) I.ok.mod.kin hm.kp hall ?_ hpl
  refine thn (hkw.run pos pins s1 σ H1 _ I1 q) fun ws s2 ⟨zs, H2, I2, rz, l2, q2⟩ => ⟨I2.kIn, ?_⟩
  rw [hks]
  exact run_fnN (us := [.ref a]) (vs := [.ref a]) F hr hb hx I2 (.cons rfl .nil) rz rfl l2 q2
end
/-- the items at these places -/
def pick {α : Type} (ix : List Nat) (l : List α) : List α := ix.filterMap fun i => l[i]?
theorem pick_vals {xs : List V} {us : List Value} (r : Vals xs us) : ∀ ix : List Nat, Vals (pick ix xs) (pick ix us)
  | [] => .nil
  | i :: ix => by
    have h := pick_vals r ix
    show Vals (List.filterMap (fun i => xs[i]?) (i :: ix)) (List.filterMap (fun i => us[i]?) (i :: ix))
    cases e : xs[i]? with
    | none =>
      rw [List.filterMap_cons_none e, List.filterMap_cons_none (r.none_of e)]
      exact h
    | some x =>
      obtain ⟨u, eu, ru⟩ := r.get e
      rw [List.filterMap_cons_some e, List.filterMap_cons_some eu]
      exact .cons ru h
section
variable {K : PySem.W.Frag}
/-- a def without defaults, called with keywords -/
theorem kbn_of {x qual : Str} {st : Stmt} {f : Addr} {fd : FuncData} {ps ks : List Str} (F : Fun K x qual st f fd) (n : Nat) (ix : List Nat)
    (h : ∀ (kV doc pm : Value) (an : Option Addr) (cdv ct : Value) (us ws : List Value), us.length = n → ws.length = ks.length → bindArgs (PySem.W.fnOf x qual (defArgs st) (defBody st) (defScope st) .none kV doc pm an cdv ct) ⟨us, ks.zip ws⟩ = pure (ps.zip (pick ix (us ++ ws)))) :
    KBn K fd ps n ks (fun us ws => pick ix (us ++ ws)) (fun us ws => pick ix (us ++ ws)) := by
  obtain ⟨oc, od, kV, doc, pm, an, cdv, ct, osl, rfl, lk, hcd⟩ := F.ex
  exact ⟨fun s us ws _ h1 h2 => .of_eq (h kV doc pm an cdv ct us ws h1 h2), fun r1 r2 => pick_vals (r1.append r2) ix⟩
end
section
variable {P : Program} {w : World} {K : PySem.W.Frag} {mg : Str → Option Value} {base : Heap} {aA aD : Addr}
def BookAt (K : PySem.W.Frag) (C : Addr) (H : Hp) (p : Addr) (rs : List (List Str)) : Prop := ∃ dx l, H p = some (.ins C dx (bf l)) ∧ SixAt K H (.ref l) rs ∧ rs.length = 6
theorem KT.book {H H' : Hp} (k : KT H H') {C p : Addr} {rs : List (List Str)} (h : BookAt K C H p rs) : BookAt K C H' p rs := by
  obtain ⟨dx, l, hp, h6, e⟩ := h
  exact ⟨dx, l, k _ _ (fun _ z => by cases z) hp, k.six h6, e⟩
def spBRule (K : PySem.W.Frag) (C CD : Addr) : Sp := fun vs H Q E => ∃ (p : Addr) (v : V) (b : Bool) (rs : List (List Str)), vs = [.ref p, v] ∧ BookAt K C H p rs ∧ Among K H doors v b ∧
  (∀ (i : Nat) (z : Str) (u : V) (r : List Str), v = .str z → doors[i]? = some z → rs[i]? = some r → RuleAt K H u r → Q u H) ∧
  (b = false → ∀ d H', H' d = some (.xd [("door", v)]) → Same H H' → H d = none → E (.ref CD) (some d) H')
def spBRules (K : PySem.W.Frag) (C : Addr) : Sp := fun vs H Q _ => ∃ (p : Addr) (rs : List (List Str)), vs = [.ref p] ∧ BookAt K C H p rs ∧ ∀ v, SixAt K H v rs → Q v H
abbrev s_brule : Stmt := inClass (top 12) 2
abbrev s_brules : Stmt := inClass (top 12) 3
theorem sc_brules : FnScope ["self"] ["self"] (defScope s_brules) := ⟨rfl, rfl, rfl, by decide +kernel, rfl, by decide +kernel, by decide +kernel⟩
theorem ok_brules {f C : Addr} {fd : FuncData} (F : Fun K "rules" "Book.rules" s_brules f fd) (TB : TxtBook K mg C) : FnOk P w K mg base CX0 1 f fd ["self"] (spBRules K C) := by
  refine F.ok sc_brules (fun vs H Q E h => ?_) (fun cdv A outer s H vs Q E hr h => ?_)
  · obtain ⟨p, rs, rfl, _⟩ := h
    rfl
  · obtain ⟨p, rs, rfl, ⟨dx, l, hp, h6, e⟩, q⟩ := h
    refine ⟨_, (pss_one (ps_ret (pe_fld (pv 0) rfl))), ?_⟩
    exact ⟨_, rfl, p, C, dx, _, .ref l, rfl, hp, TB.cl, TB.nR, rfl, q _ h6⟩
theorem doors_nd {i j : Nat} {z : Str} (a : doors[i]? = some z) (b : doors[j]? = some z) : i = j := nd_ix (by decide +kernel : doors.Nodup) a b
theorem sc_brule : FnScope ["self", "door"] ["self", "door"] (defScope s_brule) := ⟨rfl, rfl, rfl, by decide +kernel, rfl, by decide +kernel, by decide +kernel⟩
theorem ok_brule {f C CD fE fS : Addr} {fd fdE fdS : FuncData} (F : Fun K "rule" "Book.rule" s_brule f fd) (B : TxtB mg) (T : TxtK K mg aA aD) (TB : TxtBook K mg C) (gS : mg "is_door" = some (.ref fS)) (FS : Fun K "is_door" "is_door" s_isdoor fS fdS) (bS : Binds K fdS ["value"] [])
    (TE : ErrTxt K mg "NoDoor" "door" CD fE) (FE : Fun K "__init__" "NoDoor.__init__" s_eDoor fE fdE) (bE : Binds K fdE ["self", "door"] []) : FnOk P w K mg base (L2.CX P w) 3 f fd ["self", "door"] (spBRule K C CD) := by
  have GS : FnOk P w K mg base CX0 1 fS fdS ["value"] (spAmong K doors) := ok_isdoor FS B T
  have GE : FnOk P w K mg base CX0 1 fE fdE ["self", "door"] (spErr CD "door") := ok_eDoor FE TE
  refine F.okX sc_brule (fun vs H Q E h => ?_) (fun cdv A outer s H vs Q E hr h => ?_)
  · obtain ⟨p, v, b, rs, rfl, _⟩ := h
    rfl
  · obtain ⟨p, v, b, rs, rfl, ⟨dx, l, hp, ⟨l', ws, el, hl, pr⟩, e6⟩, hv, q, ke⟩ := h
    have el' : l = l' := V.ref.inj el
    subst el'
    have hr1 : Room 1 _ := hr.mono (by decide)
    refine ⟨_, (pss_cons (ps_if (pt_not (pt_val (pe_call GS hr1 (by rfl) gS FS.kp bS .nil pass0 (pa_cons (pv 1) pa_nil)))) (pss_one (ps_raise rfl (takes_of rfl rfl rfl rfl) (pmk_oex TE.oex TE.iC TE.tI GE hr bE .nil pass0 (by rfl) TE.g (by exact (pa_cons (pv 1) pa_nil))))) pss_nil)
  (pss_one (ps_ret (pe_ix ix_tup (pe_fld (pv 0) rfl) (pe_bm PySem.F.plainAttrs_tuple PySem.F.slot_tuple_index PySem.F.type_tuple_index mt_tup_index (pe_glob (v := .ref aD) (by rfl) T.g_DOORS rfl) (pa_cons (pv 1) pa_nil)) (fun _ _ => rfl))))), ?_⟩
    refine ⟨_, rfl, v, b, rfl, hv, ⟨_, rfl, ?_⟩⟩
    cases hv with
    | other ty no => exact ⟨_, rfl, err_made fun d H5 hd s5 hn => ke rfl d H5 hd s5 hn⟩
    | str z =>
      by_cases hz : z ∈ doors
      · rw [decide_eq_true hz]
        obtain ⟨i, hi, ez⟩ := List.getElem_of_mem hz
        have hi' : doors[i]? = some z := by rw [List.getElem?_eq_getElem hi, ez]
        have hi6 : i < rs.length := by
          have : i < 6 := hi
          omega
        obtain ⟨u, hu, ru⟩ := pair_get pr (List.getElem?_eq_getElem hi6)
        refine ⟨_, rfl, p, C, dx, _, .ref l, rfl, hp, TB.cl, TB.nR, rfl, ?_⟩
        refine ⟨T.tD H, _, rfl, aD, doors, z, i, rfl, rfl, T.sD _, hi', fun m hm hm2 => ?_, ?_⟩
        · have := doors_nd hi' hm2
          omega
        · refine ⟨l, ws, (i : Int), u, rfl, rfl, hl, at_of rfl hu, ?_⟩
          exact q i z u _ rfl hi' (List.getElem?_eq_getElem hi6) ru
      · rw [decide_eq_false hz]
        exact ⟨_, rfl, err_made fun d H5 hd s5 hn => ke (decide_eq_false hz) d H5 hd s5 hn⟩
end
end Sh

namespace Sh
open PySem L2
section
variable {P : Program} {w : World} {K : PySem.W.Frag} {mg : Str → Option Value} {base : Heap} {aA aD : Addr}
theorem sqT_tyX {H : Hp} {a : Addr} {xs : List V} (h : SqT K H a xs) : TyX K H (.ref a) (.type "tuple") := by
  rcases h with (h | ⟨o, h⟩) | ⟨o, its, n, h1, h2, _⟩
  · exact .base (.tup h)
  · exact .fTuple h
  · exact .kTuple h1 h2
theorem RuleAt.tyX {H : Hp} {v : V} {r : List Str} (h : RuleAt K H v r) : TyX K H v (.type "tuple") := by
  obtain ⟨a, rfl, h⟩ := h
  exact sqT_tyX h
theorem SixAt.tyX {H : Hp} {v : V} {r : List (List Str)} (h : SixAt K H v r) : TyX K H v (.type "tuple") := by
  obtain ⟨a, vs, rfl, h, _⟩ := h
  exact sqT_tyX h
theorem among_strs {H : Hp} (l : List Str) : ∀ r : List Str, Paired (Among K H l) (r.map V.str) (r.map fun z => decide (z ∈ l))
  | [] => .nil
  | x :: r => .cons (.str x) (among_strs l r)
theorem ruleCl_of {H : Hp} {v : V} {r : List Str} (h : RuleAt K H v r) (hr : IsRule r) : RuleCl K H v true := by
  obtain ⟨a, rfl, h⟩ := h
  have e : (decide ((r.map V.str).length ≤ 6) && (r.map fun z => decide (z ∈ acts)).all id) = true := by
    rw [List.length_map, decide_eq_true hr.1, Bool.true_and, List.all_eq_true]
    intro b hb
    obtain ⟨z, hz, rfl⟩ := List.mem_map.mp hb
    exact decide_eq_true (hr.2 z hz)
  rw [← e]
  exact .tup h (sqT_tyX h) fun _ => among_strs acts r
theorem ruleCls_of {H : Hp} : ∀ {ws : List V} {rs : List (List Str)}, Paired (RuleAt K H) ws rs → (∀ r ∈ rs, IsRule r) → Paired (RuleCl K H) ws (rs.map fun _ => true)
  | _, _, .nil, _ => .nil
  | _, _, .cons a b, h => .cons (ruleCl_of a (h _ (List.mem_cons_self ..))) (ruleCls_of b fun r hr => h r (List.mem_cons_of_mem _ hr))
/-- a new book -/
theorem book_new {C CR x dx : Addr} {H : Hp} {ws : List V} {rs : List (List Str)} {Q : VK} {E : XK} (hx : H x = none) (hdx : H dx = none) (pr : Paired (RuleAt K H) ws rs) (hr : ∀ r ∈ rs, IsRule r) (h6 : rs.length = 6)
    (k : ∀ H', BookAt K C H' x rs → Same H H' → Q .non H') : spBInit K C CR (.ref x :: ws) (upd (upd H dx (.own x)) x (.ins C dx [])) Q E := by
  have s1 : Same H (upd (upd H dx (.own x)) x (.ins C dx [])) := fun b o e => by
    rw [upd_ne (ne_of_none e hx), upd_ne (ne_of_none e hdx)]
    exact e
  refine ⟨x, dx, ws, rs.map fun _ => true, rfl, by rw [pr.length, h6], upd_same, pair_map (fun _ _ q => ruleCl_same s1 q) (ruleCls_of pr hr), fun _ H' l h1 h2 h3 h4 => ?_, fun i hi => ?_⟩
  · have s2 : Same H H' := fun b o e => h4 b o (s1 b o e) (ne_of_none e hx)
    exact k H' ⟨dx, l, h1, ⟨l, ws, rfl, SqT.of h2, s2.kt.rules pr⟩, h6⟩ s2
  · rw [List.getElem?_map] at hi
    cases e : rs[i]? with
    | none =>
      rw [e] at hi
      cases hi
    | some r =>
      rw [e] at hi
      cases hi
theorem same_kp {j : Addr} {H H1 H2 : Hp} (s : Same H H1) (hj : H j = none) (k : Kp j H1 H2) : Same H H2 := fun b o e => k b o (ne_of_none e hj) (s b o e)
theorem same_upd {j : Addr} {H H1 : Hp} {o : HO} (s : Same H H1) (hj : H j = none) : Same H (upd H1 j o) := fun b u e => by
  rw [upd_ne (ne_of_none e hj)]
  exact s b u e
def spTells (K : PySem.W.Frag) (C : Addr) : Sp := fun vs H Q _ => ∃ (p : Addr) (v : V) (t : Int) (rs : List (List Str)), vs = [.ref p, v, .int t] ∧ BookAt K C H p rs ∧ SixAt K H v rs ∧ ∀ H', Same H H' → Q (.bl true) H'
abbrev s_tells : Stmt := top 18
theorem sc_tells : FnScope ["work", "six", "turn", "names", "k", "at", "told"] ["work", "six", "turn"] (defScope s_tells) := ⟨rfl, rfl, rfl, by decide +kernel, rfl, by decide +kernel, by decide +kernel⟩
theorem ok_tells {f C CD fR fS : Addr} {fd fdR fdS : FuncData} (F : Fun K "_law_tells" "_law_tells" s_tells f fd) (B : TxtB mg) (TB : TxtBook K mg C)
    (GR : FnOk P w K mg base (L2.CX P w) 3 fR fdR ["self", "door"] (spBRule K C CD)) (mR : Meth K C "rule" fR) (bR : Binds K fdR ["self", "door"] []) (kbR : KBn K fdR ["self", "door"] 1 ["door"] (fun us ws => pick [0, 1] (us ++ ws)) (fun us ws => pick [0, 1] (us ++ ws)))
    (GS : FnOk P w K mg base CX0 1 fS fdS ["self"] (spBRules K C)) (mS : Meth K C "rules" fS) (bS : Binds K fdS ["self"] []) : FnOk P w K mg base CX0 4 f fd ["work", "six", "turn"] (spTells K C) := by
  refine F.ok sc_tells (fun vs H Q E h => ?_) (fun cdv A outer s H vs Q E hr h => ?_)
  · obtain ⟨p, v, t, rs, rfl, _⟩ := h
    rfl
  · obtain ⟨p, v, t, rs, rfl, hb, h6, q⟩ := h
    have hr1 : Room 1 _ := hr.mono (by decide)
    refine ⟨_, (pss_cons (ps_set (i := 3) sc_tells.nd rfl (Or.inl rfl) (pe_lst (pa_cons pe_str (pa_cons pe_str (pa_cons pe_str (pa_cons pe_str (pa_cons pe_str (pa_cons pe_str pa_nil))))))))
  (pss_cons (ps_for PassesOwn.never rfl (pi_range1 (by rfl) B.b_range (pa_cons pe_int pa_nil)) (pg_name (i := 4) sc_tells.nd rfl (Or.inl rfl)) (pss_cons (ps_set (i := 5) sc_tells.nd rfl (Or.inl rfl) (pe_op op_mod (pe_op op_add (pe_op op_mul (pv 4) pe_int) (pv 2)) pe_int))
  (pss_cons (ps_set (i := 6) sc_tells.nd rfl (Or.inl rfl) (pe_ifExp (pt_cmpR op_eq (pe_op op_mod (pe_op op_add (pv 4) (pv 2)) pe_int) pe_int (nomark _)) (pe_meth (pv 0) TB.cl mR GR hr bR .nil passL (pa_cons (pe_ix ix_list (pv 3) (pv 5) (fun _ _ => rfl)) pa_nil)) (pe_methK0 (pv 0) TB.cl mR GR hr kbR passL (pk_cons (pe_ix ix_list (pv 3) (pv 5) (fun _ _ => rfl)) pk_nil))))
  (pss_cons (ps_if (PW.pt (pw_or (pt_not (pt_val (pe_callB call_isi (by rfl) B.b_isinstance (by decide +kernel) (pa_cons (pv 6) (pa_cons (pe_bltn (v := .ty "tuple") (by rfl) B.b_tuple (by decide +kernel) rfl) pa_nil))))) (pw_or1 (pt_cmpR (op_neP hr.units) (pv 6) (pe_ix ix_tup (pv 1) (pv 5) (fun _ _ => rfl)) (nomark _))))) (pss_one (ps_ret pe_bl)) pss_nil)
  (pss_one (ps_if (PW.pt (pw_and (pt_cmpR op_eq (pv 4) (pe_op op_mod (pv 2) pe_int) (nomark _)) (pw_and1 (pt_cmpR (op_neP hr.units) (pe_meth0 (pv 0) TB.cl mS GS hr1 bS .nil pass0) (pv 1) (nomark _))))) (pss_one (ps_ret pe_bl)) pss_nil))))))
  (pss_one (ps_ret (pe_and (pe_callB call_isi (by rfl) B.b_isinstance (by decide +kernel) (pa_cons (pe_meth0 (pv 0) TB.cl mS GS hr1 bS .nil pass0) (pa_cons (pe_bltn (v := .ty "tuple") (by rfl) B.b_tuple (by decide +kernel) rfl) pa_nil))) (pe_one (pe_cmpR (op_eqP hr.units) (pe_meth0 (pv 0) TB.cl mS GS hr1 bS .nil pass0) (pv 1) (nomark _)))))))), ?_⟩
    refine ⟨by show 6 ≤ sizeLine; decide, fun ln hln => ?_⟩
    refine ⟨6, rfl, by decide, by decide, for_range (lo := 0) (n := 6) (fun i σ H' => ∃ a b c, σ = [some (.ref p), some v, some (.int t), some (.ref ln), a, b, c] ∧ Same H H' ∧ H' ln = some (.lst (doors.map V.str))) ?_ ?_ ?_⟩
    · exact ⟨none, none, none, rfl, same_new hln, upd_same⟩
    · rintro i σ H1 hi ⟨a, b, c, rfl, s1, hl1⟩
      have hb1 := s1.kt.book hb
      have h61 := s1.kt.six h6
      obtain ⟨dx, l, hp, _, e6⟩ := id hb1
      refine ⟨_, rfl, _, _, rfl, rfl, .inr ⟨by decide, by decide⟩, ?_⟩
      refine ⟨_, rfl, _, _, rfl, rfl, ?_⟩
      refine ⟨_, _, rfl, rfl, (by show (0 : Int) < 6; decide), ?_⟩
      have ha0 := Int.emod_nonneg ((0 + (i : Int)) * 5 + t) (b := 6) (by decide)
      have ha1 := Int.emod_lt_of_pos ((0 + (i : Int)) * 5 + t) (b := 6) (by decide)
      obtain ⟨z, hz⟩ : ∃ z, doors[(((0 + (i : Int)) * 5 + t) % 6).toNat]? = some z := ⟨_, List.getElem?_eq_getElem (show (((0 + (i : Int)) * 5 + t) % 6).toNat < 6 by omega)⟩
      obtain ⟨r, hr6⟩ : ∃ r, rs[(((0 + (i : Int)) * 5 + t) % 6).toNat]? = some r := ⟨_, List.getElem?_eq_getElem (show (((0 + (i : Int)) * 5 + t) % 6).toNat < rs.length by omega)⟩
      dsimp only [gName, tSeq, tAsg]
      refine tIf_via (fun v' H' => H' = H1 ∧ RuleAt K H1 v' r) (fun key => ?_) ?_
      · have key2 : ∀ (i : Nat) (z' : Str) (u : V) (r' : List Str), V.str z = .str z' → doors[i]? = some z' → rs[i]? = some r' → RuleAt K H1 u r' → RuleAt K H1 u r := fun i z' u r' e1 e2 e3 e4 => by
          have e5 := V.str.inj e1
          subst e5
          have e6 := doors_nd e2 hz
          rw [e6, hr6] at e3
          rw [Option.some.inj e3]
          exact e4
        have no : decide (z ∈ doors) = false → False := fun e => by
          rw [decide_eq_true (List.mem_of_getElem? hz)] at e
          cases e
        have amb : Among K H1 doors (.str z) (decide (z ∈ doors)) := .str z
        refine ⟨_, rfl, _, rfl, _, _, rfl, rfl, ?_⟩
        refine ⟨_, _, rfl, rfl, (by show (0 : Int) < 2; decide), ?_⟩
        refine ⟨rfl, _, rfl, ?_⟩
        refine ite2 (fun _ => ?_) (fun _ => ?_)
        · refine ⟨_, rfl, p, dx, _, rfl, hp, rfl, ?_⟩
          refine ⟨_, rfl, _, rfl, ln, _, (((0 + (i : Int)) * 5 + t) % 6), .str z, rfl, rfl, SqL.of hl1, at_of (j := (((0 + (i : Int)) * 5 + t) % 6).toNat) (by omega) (by rw [List.getElem?_map, hz]; rfl), ?_⟩
          exact ⟨p, .str z, _, rs, rfl, hb1, amb, fun i z' u r' e1 e2 e3 e4 => key _ _ ⟨rfl, key2 i z' u r' e1 e2 e3 e4⟩, fun e => (no e).elim⟩
        · refine ⟨_, rfl, p, dx, _, rfl, hp, rfl, ?_⟩
          refine ⟨_, rfl, _, rfl, ln, _, (((0 + (i : Int)) * 5 + t) % 6), .str z, rfl, rfl, SqL.of hl1, at_of (j := (((0 + (i : Int)) * 5 + t) % 6).toNat) (by omega) (by rw [List.getElem?_map, hz]; rfl), ?_⟩
          refine ⟨rfl, ?_⟩
          exact ⟨p, .str z, _, rs, rfl, hb1, amb, fun i z' u r' e1 e2 e3 e4 => key _ _ ⟨rfl, key2 i z' u r' e1 e2 e3 e4⟩, fun e => (no e).elim⟩
      · rintro v' H' ⟨rfl, hv'⟩
        obtain ⟨a6, vs6, rfl, hs6, pr6⟩ := id h61
        obtain ⟨u6, hu6, ru6⟩ := pair_get pr6 hr6
        refine ⟨_, rfl, _, _, _, _, true, rfl, .ty "tuple", hv'.tyX, kit_ty (by decide +kernel), ?_⟩
        refine ⟨_, rfl, ?_⟩
        refine ⟨_, rfl, _, rfl, _, rfl, a6, vs6, (((0 + (i : Int)) * 5 + t) % 6), u6, rfl, rfl, hs6, at_of (j := (((0 + (i : Int)) * 5 + t) % 6).toNat) (by omega) hu6, ?_⟩
        refine ⟨dRule r, dRule r, hv'.dp, ru6.dp, plain_rule r, plain_rule r, by rw [depth_rule]; decide, ?_⟩
        have e1 : (!PyData.eqv (dRule r) (dRule r)) = false := by rw [eqv_rule]; simp
        rw [e1]
        refine ⟨_, rfl, ?_⟩
        refine ⟨_, rfl, _, rfl, _, _, rfl, rfl, (by show (0 : Int) < 6; decide), ?_⟩
        refine ⟨rfl, _, rfl, ?_⟩
        refine ite2 (fun _ => ?_) (fun _ => ?_)
        · refine ⟨_, rfl, p, dx, _, rfl, hp, rfl, ?_⟩
          refine ⟨p, rs, rfl, hb1, fun v2 h62 => ?_⟩
          refine ⟨_, rfl, dSix rs, dSix rs, h62.dp, h61.dp, plain_six rs, plain_six rs, Nat.le_trans (depth_six rs) (by decide), ?_⟩
          have e2 : (!PyData.eqv (dSix rs) (dSix rs)) = false := by rw [eqv_six]; simp
          rw [e2]
          refine ⟨_, rfl, ?_⟩
          exact ⟨_, _, _, rfl, s1, hl1⟩
        · exact ⟨_, _, _, rfl, s1, hl1⟩
    · rintro σ H1 ⟨a, b, c, rfl, s1, hl1⟩
      have hb1 := s1.kt.book hb
      have h61 := s1.kt.six h6
      obtain ⟨dx, l, hp, _, e6⟩ := id hb1
      refine ⟨_, rfl, p, dx, _, rfl, hp, rfl, ?_⟩
      refine ⟨p, rs, rfl, hb1, fun v2 h62 => ?_⟩
      refine ⟨_, _, _, _, true, rfl, .ty "tuple", h62.tyX, kit_ty (by decide +kernel), ?_⟩
      refine ⟨_, rfl, ?_⟩
      refine ⟨_, rfl, p, dx, _, rfl, hp, rfl, ?_⟩
      refine ⟨p, rs, rfl, hb1, fun v3 h63 => ?_⟩
      refine ⟨_, rfl, dSix rs, dSix rs, h63.dp, h61.dp, plain_six rs, plain_six rs, Nat.le_trans (depth_six rs) (by decide), ?_⟩
      have e2 : PyData.eqv (dSix rs) (dSix rs) = true := by rw [eqv_six]; simp
      rw [e2]
      exact q _ s1
end
end Sh

namespace Sh
open PySem L2
section
variable {P : Program} {w : World} {K : PySem.W.Frag} {mg : Str → Option Value} {base : Heap} {aA aD : Addr}
def PairAt (K : PySem.W.Frag) (C : Addr) (H : Hp) (x : V) : Prop := ∃ t p v rs, x = .ref t ∧ H t = some (.tup [.ref p, v]) ∧ BookAt K C H p rs ∧ SixAt K H v rs
theorem PairAt.kt {C : Addr} {H H' : Hp} {x : V} (k : KT H H') (h : PairAt K C H x) : PairAt K C H' x := by
  obtain ⟨t, p, v, rs, e, ht, hb, h6⟩ := h
  exact ⟨t, p, v, rs, e, k _ _ (fun _ z => by cases z) ht, k.book hb, k.six h6⟩
structure MadeSt (K : PySem.W.Frag) (C : Addr) (H0 H : Hp) (a : Addr) (xs : List V) : Prop where
  s : Same H0 H
  l : H a = some (.lst xs)
  all : ∀ x ∈ xs, PairAt K C H x
theorem MadeSt.same {C a : Addr} {H0 H H' : Hp} {xs : List V} (S : MadeSt K C H0 H a xs) (s : Same H H') : MadeSt K C H0 H' a xs := ⟨S.s.trans s, s _ _ S.l, fun x hx => (S.all x hx).kt s.kt⟩
theorem MadeSt.push {C a : Addr} {H0 H : Hp} {xs : List V} {x : V} (S : MadeSt K C H0 H a xs) (h0 : H0 a = none) (hx : PairAt K C H x) : MadeSt K C H0 (upd H a (.lst (xs ++ [x]))) a (xs ++ [x]) :=
  ⟨same_upd S.s h0, upd_same, fun y hy => by
    rcases List.mem_append.mp hy with hy | hy
    · exact (S.all y hy).kt (kt_lst S.l)
    · rw [List.mem_singleton.mp hy]
      exact hx.kt (kt_lst S.l)⟩
theorem six_six {H : Hp} {v : V} {rs : List (List Str)} (h : SixAt K H v rs) (h6 : rs.length = 6) : ∃ a u0 u1 u2 u3 u4 u5 r0 r1 r2 r3 r4 r5, v = .ref a ∧ rs = [r0, r1, r2, r3, r4, r5] ∧ SqT K H a [u0, u1, u2, u3, u4, u5] ∧
    Paired (RuleAt K H) [u0, u1, u2, u3, u4, u5] [r0, r1, r2, r3, r4, r5] := by
  obtain ⟨a, vs, rfl, hs, pr⟩ := h
  have hv := pr.length
  match rs, vs, h6, hv with
  | [r0, r1, r2, r3, r4, r5], [u0, u1, u2, u3, u4, u5], _, _ => exact ⟨a, u0, u1, u2, u3, u4, u5, r0, r1, r2, r3, r4, r5, rfl, rfl, hs, pr⟩
theorem pair_new {C t p : Addr} {H : Hp} {v : V} {rs : List (List Str)} (hb : BookAt K C H p rs) (h6 : SixAt K H v rs) (ht : H t = none) : PairAt K C (upd H t (.tup [.ref p, v])) (.ref t) :=
  ⟨t, p, v, rs, rfl, upd_same, (same_new ht).kt.book hb, (same_new ht).kt.six h6⟩
theorem nil_new {H : Hp} {e : Addr} : RuleAt K (upd H e (.tup [])) (.ref e) [] := ⟨e, rfl, SqT.of upd_same⟩
def spMade (K : PySem.W.Frag) (C : Addr) : Sp := fun vs H Q _ => ∃ (v : V) (rs : List (List Str)), vs = [v] ∧ SixAt K H v rs ∧ rs.length = 6 ∧ (∀ r ∈ rs, IsRule r) ∧ ∀ (a : Addr) (xs : List V) (H' : Hp), MadeSt K C H H' a xs → H a = none → xs.length = 6 → Q (.ref a) H'
/-- how Book is made -/
structure MkB (P : Program) (w : World) (K : PySem.W.Frag) (mg : Str → Option Value) (base : Heap) (C CR fI : Addr) (fd : FuncData) (d0 d1 d2 d3 d4 d5 : V) : Prop where
  mkb : Mk K C fI
  ok : FnOk P w K mg base (L2.CX P w) 4 fI fd ["self", "put", "look", "alter", "back", "pay", "again"] (spBInit K C CR)
  dv : ∀ H, Paired (RuleAt K H) [d0, d1, d2, d3, d4, d5] [[], [], [], [], [], []]
theorem isRule_nil : IsRule [] := ⟨Nat.zero_le _, fun x hx => by cases hx⟩
theorem mix4 {H : Hp} {u0 u1 u2 u3 u4 u5 d0 d1 d2 d3 d4 d5 : V} {r0 r1 r2 r3 r4 r5 : List Str} (pc : Paired (RuleAt K H) [u0, u1, u2, u3, u4, u5] [r0, r1, r2, r3, r4, r5]) (dv : Paired (RuleAt K H) [d0, d1, d2, d3, d4, d5] [[], [], [], [], [], []]) : Paired (RuleAt K H) [d0, u1, d2, d3, u4, d5] [[], r1, [], [], r4, []] := by
  cases pc with | cons a0 b => cases b with | cons a1 b => cases b with | cons a2 b => cases b with | cons a3 b => cases b with | cons a4 b => cases b with | cons a5 b =>
  cases dv with | cons c0 e => cases e with | cons c1 e => cases e with | cons c2 e => cases e with | cons c3 e => cases e with | cons c4 e => cases e with | cons c5 e =>
  exact .cons c0 (.cons a1 (.cons c2 (.cons c3 (.cons a4 (.cons c5 .nil)))))
theorem mix5 {H : Hp} {u0 u1 u2 u3 u4 u5 d0 d1 d2 d3 d4 d5 : V} {r0 r1 r2 r3 r4 r5 : List Str} (pc : Paired (RuleAt K H) [u0, u1, u2, u3, u4, u5] [r0, r1, r2, r3, r4, r5]) (dv : Paired (RuleAt K H) [d0, d1, d2, d3, d4, d5] [[], [], [], [], [], []]) : Paired (RuleAt K H) [u0, d1, u2, d3, d4, u5] [r0, [], r2, [], [], r5] := by
  cases pc with | cons a0 b => cases b with | cons a1 b => cases b with | cons a2 b => cases b with | cons a3 b => cases b with | cons a4 b => cases b with | cons a5 b =>
  cases dv with | cons c0 e => cases e with | cons c1 e => cases e with | cons c2 e => cases e with | cons c3 e => cases e with | cons c4 e => cases e with | cons c5 e =>
  exact .cons a0 (.cons c1 (.cons a2 (.cons c3 (.cons c4 (.cons a5 .nil)))))
theorem mix6 {H : Hp} {us d : List V} {rs es : List (List Str)} (_ : Paired (RuleAt K H) us rs) (dv : Paired (RuleAt K H) d es) : Paired (RuleAt K H) d es := dv
abbrev s_made : Stmt := top 19
abbrev pI : List Str := ["self", "put", "look", "alter", "back", "pay", "again"]
theorem sc_made : FnScope ["six", "found", "turned"] ["six"] (defScope s_made) := ⟨rfl, rfl, rfl, by decide +kernel, rfl, by decide +kernel, by decide +kernel⟩
theorem ok_made {f C CR fI : Addr} {fd fdI : FuncData} {d0 d1 d2 d3 d4 d5 : V} {ds3 ds0 : List Value} (F : Fun K "_law_made" "_law_made" s_made f fd) (TB : TxtBook K mg C) (M : MkB P w K mg base C CR fI fdI d0 d1 d2 d3 d4 d5)
    (b6 : Binds K fdI pI []) (v3 : Vals [d3, d4, d5] ds3) (b3 : Binds K fdI pI ds3) (v0 : Vals [d0, d1, d2, d3, d4, d5] ds0) (b0 : Binds K fdI pI ds0)
    {g1 g2 g3 : List Value → List Value → List Value}
    (k1 : KBn K fdI pI 1 ["again", "back", "put", "pay", "alter", "look"] g1 (fun us ws => pick [0, 9, 12, 11, 8, 10, 7] (us ++ [d0, d1, d2, d3, d4, d5] ++ ws)))
    (k2 : KBn K fdI pI 1 ["pay", "look"] g2 (fun us ws => pick [0, 1, 8, 3, 4, 7, 6] (us ++ [d0, d1, d2, d3, d4, d5] ++ ws)))
    (k3 : KBn K fdI pI 2 ["again", "alter"] g3 (fun us ws => pick [0, 1, 3, 9, 5, 6, 8] (us ++ [d0, d1, d2, d3, d4, d5] ++ ws))) : FnOk P w K mg base CX0 6 f fd ["six"] (spMade K C) := by
  refine F.ok sc_made (fun vs H Q E h => ?_) (fun cdv A outer s H vs Q E hr h => ?_)
  · obtain ⟨v, rs, rfl, _⟩ := h
    rfl
  · obtain ⟨v, rs, rfl, h6, hl6, hrs, q⟩ := h
    refine ⟨_, (pss_cons (ps_set (i := 1) sc_made.nd rfl (Or.inl rfl) (pe_lst (pa_cons (pe_tup (pa_cons (pe_make M.mkb M.ok hr (by rfl) TB.g b6 .nil passL (pa_cons (pe_ix ix_tup (pv 0) pe_int (fun _ _ => rfl)) (pa_cons (pe_ix ix_tup (pv 0) pe_int (fun _ _ => rfl)) (pa_cons (pe_ix ix_tup (pv 0) pe_int (fun _ _ => rfl)) (pa_cons (pe_ix ix_tup (pv 0) pe_int (fun _ _ => rfl)) (pa_cons (pe_ix ix_tup (pv 0) pe_int (fun _ _ => rfl)) (pa_cons (pe_ix ix_tup (pv 0) pe_int (fun _ _ => rfl)) pa_nil))))))) (pa_cons (pv 0) pa_nil))) pa_nil)))
  (pss_cons (ps_set (i := 2) sc_made.nd rfl (Or.inl rfl) (pe_makeK0 M.mkb M.ok hr (by rfl) TB.g k1 passL (pk_cons (pe_ix ix_tup (pv 0) pe_int (fun _ _ => rfl)) (pk_cons (pe_ix ix_tup (pv 0) pe_int (fun _ _ => rfl)) (pk_cons (pe_ix ix_tup (pv 0) pe_int (fun _ _ => rfl)) (pk_cons (pe_ix ix_tup (pv 0) pe_int (fun _ _ => rfl)) (pk_cons (pe_ix ix_tup (pv 0) pe_int (fun _ _ => rfl)) (pk_cons (pe_ix ix_tup (pv 0) pe_int (fun _ _ => rfl)) pk_nil))))))))
  (pss_cons (ps_expr (pe_bm PySem.F.plainAttrs_list PySem.F.slot_list_append PySem.F.type_list_append mt_append (pv 1) (pa_cons (pe_tup (pa_cons (pv 2) (pa_cons (pv 0) pa_nil))) pa_nil)))
  (pss_cons (ps_expr (pe_bm PySem.F.plainAttrs_list PySem.F.slot_list_append PySem.F.type_list_append mt_append (pv 1) (pa_cons (pe_tup (pa_cons (pe_make M.mkb M.ok hr (by rfl) TB.g b3 v3 passL (pa_cons (pe_ix ix_tup (pv 0) pe_int (fun _ _ => rfl)) (pa_cons (pe_ix ix_tup (pv 0) pe_int (fun _ _ => rfl)) (pa_cons (pe_ix ix_tup (pv 0) pe_int (fun _ _ => rfl)) pa_nil)))) (pa_cons (pe_op op_catT (pe_slice sl_tup (pv 0) po_none (po_some pe_int)) (pe_tup (pa_cons (pe_tup pa_nil) (pa_cons (pe_tup pa_nil) (pa_cons (pe_tup pa_nil) pa_nil))))) pa_nil))) pa_nil)))
  (pss_cons (ps_expr (pe_bm PySem.F.plainAttrs_list PySem.F.slot_list_append PySem.F.type_list_append mt_append (pv 1) (pa_cons (pe_tup (pa_cons (pe_makeK0 M.mkb M.ok hr (by rfl) TB.g k2 passL (pk_cons (pe_ix ix_tup (pv 0) pe_int (fun _ _ => rfl)) (pk_cons (pe_ix ix_tup (pv 0) pe_int (fun _ _ => rfl)) pk_nil))) (pa_cons (pe_tup (pa_cons (pe_tup pa_nil) (pa_cons (pe_ix ix_tup (pv 0) pe_int (fun _ _ => rfl)) (pa_cons (pe_tup pa_nil) (pa_cons (pe_tup pa_nil) (pa_cons (pe_ix ix_tup (pv 0) pe_int (fun _ _ => rfl)) (pa_cons (pe_tup pa_nil) pa_nil))))))) pa_nil))) pa_nil)))
  (pss_cons (ps_expr (pe_bm PySem.F.plainAttrs_list PySem.F.slot_list_append PySem.F.type_list_append mt_append (pv 1) (pa_cons (pe_tup (pa_cons (pe_makeK M.mkb M.ok hr (by rfl) TB.g k3 passL (pa_cons (pe_ix ix_tup (pv 0) pe_int (fun _ _ => rfl)) pa_nil) (pk_cons (pe_ix ix_tup (pv 0) pe_int (fun _ _ => rfl)) (pk_cons (pe_ix ix_tup (pv 0) pe_int (fun _ _ => rfl)) pk_nil))) (pa_cons (pe_tup (pa_cons (pe_ix ix_tup (pv 0) pe_int (fun _ _ => rfl)) (pa_cons (pe_tup pa_nil) (pa_cons (pe_ix ix_tup (pv 0) pe_int (fun _ _ => rfl)) (pa_cons (pe_tup pa_nil) (pa_cons (pe_tup pa_nil) (pa_cons (pe_ix ix_tup (pv 0) pe_int (fun _ _ => rfl)) pa_nil))))))) pa_nil))) pa_nil)))
  (pss_cons (ps_expr (pe_bm PySem.F.plainAttrs_list PySem.F.slot_list_append PySem.F.type_list_append mt_append (pv 1) (pa_cons (pe_tup (pa_cons (pe_make0 M.mkb M.ok hr (by rfl) TB.g b0 v0 passL) (pa_cons (pe_tup (pa_cons (pe_tup pa_nil) (pa_cons (pe_tup pa_nil) (pa_cons (pe_tup pa_nil) (pa_cons (pe_tup pa_nil) (pa_cons (pe_tup pa_nil) (pa_cons (pe_tup pa_nil) pa_nil))))))) pa_nil))) pa_nil)))
  (pss_one (ps_ret (pv 1)))))))))), ?_⟩
    obtain ⟨a6, u0, u1, u2, u3, u4, u5, r0, r1, r2, r3, r4, r5, rfl, rfl, hs, pr⟩ := six_six h6 hl6
    obtain ⟨q0, q1, q2, q3, q4, q5⟩ : IsRule r0 ∧ IsRule r1 ∧ IsRule r2 ∧ IsRule r3 ∧ IsRule r4 ∧ IsRule r5 := ⟨hrs _ (by simp), hrs _ (by simp), hrs _ (by simp), hrs _ (by simp), hrs _ (by simp), hrs _ (by simp)⟩
    -- found = [(Book(..), six)]
    refine ⟨_, rfl, a6, _, _, _, rfl, rfl, hs, rfl, ?_⟩
    refine ⟨_, rfl, a6, _, _, _, rfl, rfl, hs, rfl, ?_⟩
    refine ⟨_, rfl, a6, _, _, _, rfl, rfl, hs, rfl, ?_⟩
    refine ⟨_, rfl, a6, _, _, _, rfl, rfl, hs, rfl, ?_⟩
    refine ⟨_, rfl, a6, _, _, _, rfl, rfl, hs, rfl, ?_⟩
    refine ⟨_, rfl, a6, _, _, _, rfl, rfl, hs, rfl, ?_⟩
    intro x1 dx1 hx1 hdx1 ne1
    refine book_new (ws := [u0, u1, u2, u3, u4, u5]) hx1 hdx1 pr hrs rfl fun H1 hb1 s1 => ⟨rfl, ?_⟩
    refine ⟨_, rfl, by show 2 ≤ sizeLine; decide, fun t1 ht1 => ?_⟩
    refine ⟨by show 1 ≤ sizeLine; decide, fun a ha => ?_⟩
    have P1 := pair_new hb1 (s1.kt.six h6) ht1
    have s2 := s1.trans (same_new (o := .tup [.ref x1, .ref a6]) ht1)
    have ha0 : H a = none := s2.free ha
    have S1 : MadeSt K C H (upd (upd H1 t1 (.tup [.ref x1, .ref a6])) a (.lst [.ref t1])) a [.ref t1] := ⟨s2.trans (same_new ha), upd_same, fun x hx => by
      rw [List.mem_singleton.mp hx]
      exact P1.kt (same_new ha).kt⟩
    generalize upd (upd H1 t1 (.tup [.ref x1, .ref a6])) a (.lst [.ref t1]) = H2 at S1
    have hs2 := S1.s.kt.sqT hs
    have pr2 := S1.s.kt.rules pr
    refine ⟨_, rfl, a6, _, _, _, rfl, rfl, hs2, rfl, ?_⟩
    refine ⟨_, rfl, a6, _, _, _, rfl, rfl, hs2, rfl, ?_⟩
    refine ⟨_, rfl, a6, _, _, _, rfl, rfl, hs2, rfl, ?_⟩
    refine ⟨_, rfl, a6, _, _, _, rfl, rfl, hs2, rfl, ?_⟩
    refine ⟨_, rfl, a6, _, _, _, rfl, rfl, hs2, rfl, ?_⟩
    refine ⟨_, rfl, a6, _, _, _, rfl, rfl, hs2, rfl, ?_⟩
    refine ⟨rfl, rfl, fun x2 dx2 hx2 hdx2 ne2 => ?_⟩
    refine book_new (ws := [u0, u1, u2, u3, u4, u5]) hx2 hdx2 pr2 hrs rfl fun H3 hb3 s3 => ⟨rfl, ?_⟩
    have S3 := S1.same s3
    -- found.append((turned, six))
    refine ⟨_, rfl, .inl ⟨rfl, _, SqL.of S3.l⟩, ?_⟩
    refine ⟨_, rfl, _, rfl, by show 2 ≤ sizeLine; decide, fun t2 ht2 => ?_⟩
    have P2 := pair_new hb3 (S3.s.kt.six h6) ht2
    have S4 := S3.same (same_new (o := .tup [.ref x2, .ref a6]) ht2)
    refine ⟨a, _, .ref t2, rfl, rfl, S4.l, by show 1 < sizeLine; decide, ?_⟩
    have S5 := S4.push ha0 P2
    generalize upd (upd H3 t2 (.tup [.ref x2, .ref a6])) a (.lst ([.ref t1] ++ [.ref t2])) = H5 at S5
    -- found.append((Book(six[0], six[1], six[2]), six[:3] + ((), (), ())))
    have hs5 := S5.s.kt.sqT hs
    have pr5 := S5.s.kt.rules pr
    refine ⟨_, rfl, .inl ⟨rfl, _, SqL.of S5.l⟩, ?_⟩
    refine ⟨_, rfl, a6, _, _, _, rfl, rfl, hs5, rfl, ?_⟩
    refine ⟨_, rfl, a6, _, _, _, rfl, rfl, hs5, rfl, ?_⟩
    refine ⟨_, rfl, a6, _, _, _, rfl, rfl, hs5, rfl, ?_⟩
    intro x3 dx3 hx3 hdx3 ne3
    have pp5 : Paired (RuleAt K H5) [u0, u1, u2, d3, d4, d5] [r0, r1, r2, [], [], []] := by
      have dv := M.dv H5
      cases pr5 with | cons a0 b0 => cases b0 with | cons a1 b1 => cases b1 with | cons a2 b2 =>
      cases dv with | cons c0 e0 => cases e0 with | cons c1 e1 => cases e1 with | cons c2 e2 =>
      exact .cons a0 (.cons a1 (.cons a2 e2))
    have rr5 : ∀ r ∈ [r0, r1, r2, [], [], []], IsRule r := by
      intro r hr
      simp only [List.mem_cons, List.not_mem_nil, or_false] at hr
      rcases hr with rfl | rfl | rfl | rfl | rfl | rfl <;> first | assumption | exact isRule_nil
    refine book_new (ws := [u0, u1, u2, d3, d4, d5]) hx3 hdx3 pp5 rr5 rfl fun H6 hb6 s6 => ⟨rfl, ?_⟩
    have S6 := S5.same s6
    have hs6 := S6.s.kt.sqT hs
    have pool : Paired (RuleAt K H6) [u0, u1, u2] [r0, r1, r2] := by
      have q := S6.s.kt.rules pr
      cases q with | cons a0 b0 => cases b0 with | cons a1 b1 => cases b1 with | cons a2 b2 =>
      exact .cons a0 (.cons a1 (.cons a2 .nil))
    refine ⟨_, rfl, _, rfl, a6, _, rfl, hs6, (by show ¬ (HT.sIx 6 0 Option.none = 0 ∧ HT.sIx 6 6 (some 3) = 6); decide), fun sl hsl => ?_⟩
    have tsl := same_new (o := .tup (cutV [u0, u1, u2, u3, u4, u5] Option.none (some 3))) hsl
    have fsl : upd H6 sl (.tup (cutV [u0, u1, u2, u3, u4, u5] Option.none (some 3))) sl = some (.tup [u0, u1, u2]) := upd_same
    have pool := tsl.kt.rules pool
    refine ⟨Nat.zero_le _, fun e0 he0 => ?_⟩
    have te0 := same_new (o := .tup []) he0
    have pool := Paired.cons (F := RuleAt K _) (nil_new (K := K) (e := e0)) (te0.kt.rules pool)
    refine ⟨Nat.zero_le _, fun e1 he1 => ?_⟩
    have te1 := same_new (o := .tup []) he1
    have pool := Paired.cons (F := RuleAt K _) (nil_new (K := K) (e := e1)) (te1.kt.rules pool)
    refine ⟨Nat.zero_le _, fun e2 he2 => ?_⟩
    have te2 := same_new (o := .tup []) he2
    have pool := Paired.cons (F := RuleAt K _) (nil_new (K := K) (e := e2)) (te2.kt.rules pool)
    refine ⟨by show 3 ≤ sizeLine; decide, fun et het => ?_⟩
    have tet := same_new (o := .tup [.ref e0, .ref e1, .ref e2]) het
    have pool := tet.kt.rules pool
    have c1 := ((te0.trans te1).trans te2).trans tet
    refine ⟨sl, et, _, _, rfl, rfl, SqT.of (c1 _ _ fsl), SqT.of upd_same, (fun z => by cases z), (by show 6 ≤ sizeLine; decide), (fun z => by cases z), fun _ cc hcc => ?_⟩
    have tcc := same_new (o := .tup ([u0, u1, u2] ++ [.ref e0, .ref e1, .ref e2])) hcc
    have pool := tcc.kt.rules pool
    refine ⟨by show 2 ≤ sizeLine; decide, fun t3 ht3 => ?_⟩
    have S7 := S6.same ((tsl.trans c1).trans tcc)
    have b7 := ((tsl.trans c1).trans tcc).kt.book hb6
    have six7 : SixAt K _ (.ref cc) [r0, r1, r2, [], [], []] := ⟨cc, _, rfl, SqT.of upd_same, by
      cases pool with | cons p0 pool => cases pool with | cons p1 pool => cases pool with | cons p2 pool => cases pool with | cons p3 pool => cases pool with | cons p4 pool => cases pool with | cons p5 pool =>
      exact .cons p3 (.cons p4 (.cons p5 (.cons p2 (.cons p1 (.cons p0 .nil)))))⟩
    have P3 := pair_new b7 six7 ht3
    have S8 := S7.same (same_new (o := .tup [.ref x3, .ref cc]) ht3)
    refine ⟨a, _, .ref t3, rfl, rfl, S8.l, by show 2 < sizeLine; decide, ?_⟩
    have S9 := S8.push ha0 P3
    refine ⟨_, rfl, .inl ⟨rfl, _, SqL.of S9.l⟩, ?_⟩
    have hc := S9.s.kt.sqT hs
    have pc := S9.s.kt.rules pr
    refine ⟨_, rfl, a6, _, _, _, rfl, rfl, hc, rfl, ?_⟩
    refine ⟨_, rfl, a6, _, _, _, rfl, rfl, hc, rfl, ?_⟩
    refine ⟨rfl, rfl, fun x4 dx4 hx4 hdx4 nex4 => ?_⟩
    have pp := mix4 pc (M.dv _)
    have rr : ∀ r ∈ [[], r1, [], [], r4, []], IsRule r := by
      intro r hr
      simp only [List.mem_cons, List.not_mem_nil, or_false] at hr
      rcases hr with rfl | rfl | rfl | rfl | rfl | rfl <;> first | assumption | exact isRule_nil
    refine book_new (ws := [d0, u1, d2, d3, u4, d5]) hx4 hdx4 pp rr rfl fun HB4 hb4 sb4 => ⟨rfl, ?_⟩
    have hc := sb4.kt.sqT hc
    have pool := sb4.kt.rules pc
    have ch := Same.refl HB4
    refine ⟨Nat.zero_le _, fun e40 he40 => ?_⟩
    have pool := Paired.cons (F := RuleAt K _) (nil_new (K := K) (e := e40)) ((same_new (o := .tup []) he40).kt.rules pool)
    have hc := (same_new (o := .tup []) he40).kt.sqT hc
    have ch := ch.trans (same_new (o := .tup []) he40)
    refine ⟨_, rfl, a6, _, _, _, rfl, rfl, hc, rfl, ?_⟩
    refine ⟨Nat.zero_le _, fun e42 he42 => ?_⟩
    have pool := Paired.cons (F := RuleAt K _) (nil_new (K := K) (e := e42)) ((same_new (o := .tup []) he42).kt.rules pool)
    have hc := (same_new (o := .tup []) he42).kt.sqT hc
    have ch := ch.trans (same_new (o := .tup []) he42)
    refine ⟨Nat.zero_le _, fun e43 he43 => ?_⟩
    have pool := Paired.cons (F := RuleAt K _) (nil_new (K := K) (e := e43)) ((same_new (o := .tup []) he43).kt.rules pool)
    have hc := (same_new (o := .tup []) he43).kt.sqT hc
    have ch := ch.trans (same_new (o := .tup []) he43)
    refine ⟨_, rfl, a6, _, _, _, rfl, rfl, hc, rfl, ?_⟩
    refine ⟨Nat.zero_le _, fun e45 he45 => ?_⟩
    have pool := Paired.cons (F := RuleAt K _) (nil_new (K := K) (e := e45)) ((same_new (o := .tup []) he45).kt.rules pool)
    have hc := (same_new (o := .tup []) he45).kt.sqT hc
    have ch := ch.trans (same_new (o := .tup []) he45)
    refine ⟨by show 6 ≤ sizeLine; decide, fun cc4 hcc4 => ?_⟩
    have tcc := same_new (o := .tup [.ref e40, u1, .ref e42, .ref e43, u4, .ref e45]) hcc4
    have pool := tcc.kt.rules pool
    have ch := ch.trans tcc
    refine ⟨by show 2 ≤ sizeLine; decide, fun t4 ht4 => ?_⟩
    have SA := S9.same (sb4.trans ch)
    have six7 : SixAt K _ (.ref cc4) [[], r1, [], [], r4, []] := ⟨cc4, _, rfl, SqT.of upd_same, by
      cases pool with | cons p0 pool => cases pool with | cons p1 pool => cases pool with | cons p2 pool => cases pool with | cons p3 pool => cases pool with | cons p4 pool => cases pool with | cons p5 pool => cases pool with | cons p6 pool => cases pool with | cons p7 pool => cases pool with | cons p8 pool => cases pool with | cons p9 pool =>
      exact .cons p3 (.cons p5 (.cons p2 (.cons p1 (.cons p8 (.cons p0 .nil)))))⟩
    have PA := pair_new (ch.kt.book hb4) six7 ht4
    have SB := SA.same (same_new (o := .tup [.ref x4, .ref cc4]) ht4)
    refine ⟨a, _, .ref t4, rfl, rfl, SB.l, by show 3 < sizeLine; decide, ?_⟩
    have SP4 := SB.push ha0 PA
    clear hc pc pp rr pool ch tcc SA six7 PA SB
    refine ⟨_, rfl, .inl ⟨rfl, _, SqL.of SP4.l⟩, ?_⟩
    have hc := SP4.s.kt.sqT hs
    have pc := SP4.s.kt.rules pr
    refine ⟨_, rfl, a6, _, _, _, rfl, rfl, hc, rfl, ?_⟩
    refine ⟨_, rfl, a6, _, _, _, rfl, rfl, hc, rfl, ?_⟩
    refine ⟨_, rfl, a6, _, _, _, rfl, rfl, hc, rfl, ?_⟩
    refine ⟨rfl, rfl, fun x5 dx5 hx5 hdx5 nex5 => ?_⟩
    have pp := mix5 pc (M.dv _)
    have rr : ∀ r ∈ [r0, [], r2, [], [], r5], IsRule r := by
      intro r hr
      simp only [List.mem_cons, List.not_mem_nil, or_false] at hr
      rcases hr with rfl | rfl | rfl | rfl | rfl | rfl <;> first | assumption | exact isRule_nil
    refine book_new (ws := [u0, d1, u2, d3, d4, u5]) hx5 hdx5 pp rr rfl fun HB5 hb5 sb5 => ⟨rfl, ?_⟩
    have hc := sb5.kt.sqT hc
    have pool := sb5.kt.rules pc
    have ch := Same.refl HB5
    refine ⟨_, rfl, a6, _, _, _, rfl, rfl, hc, rfl, ?_⟩
    refine ⟨Nat.zero_le _, fun e51 he51 => ?_⟩
    have pool := Paired.cons (F := RuleAt K _) (nil_new (K := K) (e := e51)) ((same_new (o := .tup []) he51).kt.rules pool)
    have hc := (same_new (o := .tup []) he51).kt.sqT hc
    have ch := ch.trans (same_new (o := .tup []) he51)
    refine ⟨_, rfl, a6, _, _, _, rfl, rfl, hc, rfl, ?_⟩
    refine ⟨Nat.zero_le _, fun e53 he53 => ?_⟩
    have pool := Paired.cons (F := RuleAt K _) (nil_new (K := K) (e := e53)) ((same_new (o := .tup []) he53).kt.rules pool)
    have hc := (same_new (o := .tup []) he53).kt.sqT hc
    have ch := ch.trans (same_new (o := .tup []) he53)
    refine ⟨Nat.zero_le _, fun e54 he54 => ?_⟩
    have pool := Paired.cons (F := RuleAt K _) (nil_new (K := K) (e := e54)) ((same_new (o := .tup []) he54).kt.rules pool)
    have hc := (same_new (o := .tup []) he54).kt.sqT hc
    have ch := ch.trans (same_new (o := .tup []) he54)
    refine ⟨_, rfl, a6, _, _, _, rfl, rfl, hc, rfl, ?_⟩
    refine ⟨by show 6 ≤ sizeLine; decide, fun cc5 hcc5 => ?_⟩
    have tcc := same_new (o := .tup [u0, .ref e51, u2, .ref e53, .ref e54, u5]) hcc5
    have pool := tcc.kt.rules pool
    have ch := ch.trans tcc
    refine ⟨by show 2 ≤ sizeLine; decide, fun t5 ht5 => ?_⟩
    have SA := SP4.same (sb5.trans ch)
    have six7 : SixAt K _ (.ref cc5) [r0, [], r2, [], [], r5] := ⟨cc5, _, rfl, SqT.of upd_same, by
      cases pool with | cons p0 pool => cases pool with | cons p1 pool => cases pool with | cons p2 pool => cases pool with | cons p3 pool => cases pool with | cons p4 pool => cases pool with | cons p5 pool => cases pool with | cons p6 pool => cases pool with | cons p7 pool => cases pool with | cons p8 pool =>
      exact .cons p3 (.cons p2 (.cons p5 (.cons p1 (.cons p0 (.cons p8 .nil)))))⟩
    have PA := pair_new (ch.kt.book hb5) six7 ht5
    have SB := SA.same (same_new (o := .tup [.ref x5, .ref cc5]) ht5)
    refine ⟨a, _, .ref t5, rfl, rfl, SB.l, by show 4 < sizeLine; decide, ?_⟩
    have SP5 := SB.push ha0 PA
    clear hc pc pp rr pool ch tcc SA six7 PA SB
    refine ⟨_, rfl, .inl ⟨rfl, _, SqL.of SP5.l⟩, ?_⟩
    have hc := SP5.s.kt.sqT hs
    have pc := SP5.s.kt.rules pr
    intro x6 dx6 hx6 hdx6 nex6
    have pp := mix6 pc (M.dv _)
    have rr : ∀ r ∈ [[], [], [], [], [], []], IsRule r := by
      intro r hr
      simp only [List.mem_cons, List.not_mem_nil, or_false] at hr
      rcases hr with rfl | rfl | rfl | rfl | rfl | rfl <;> first | assumption | exact isRule_nil
    refine book_new (ws := [d0, d1, d2, d3, d4, d5]) hx6 hdx6 pp rr rfl fun HB6 hb6 sb6 => ⟨rfl, ?_⟩
    have hc := sb6.kt.sqT hc
    have pool := sb6.kt.rules pc
    have ch := Same.refl HB6
    refine ⟨Nat.zero_le _, fun e60 he60 => ?_⟩
    have pool := Paired.cons (F := RuleAt K _) (nil_new (K := K) (e := e60)) ((same_new (o := .tup []) he60).kt.rules pool)
    have hc := (same_new (o := .tup []) he60).kt.sqT hc
    have ch := ch.trans (same_new (o := .tup []) he60)
    refine ⟨Nat.zero_le _, fun e61 he61 => ?_⟩
    have pool := Paired.cons (F := RuleAt K _) (nil_new (K := K) (e := e61)) ((same_new (o := .tup []) he61).kt.rules pool)
    have hc := (same_new (o := .tup []) he61).kt.sqT hc
    have ch := ch.trans (same_new (o := .tup []) he61)
    refine ⟨Nat.zero_le _, fun e62 he62 => ?_⟩
    have pool := Paired.cons (F := RuleAt K _) (nil_new (K := K) (e := e62)) ((same_new (o := .tup []) he62).kt.rules pool)
    have hc := (same_new (o := .tup []) he62).kt.sqT hc
    have ch := ch.trans (same_new (o := .tup []) he62)
    refine ⟨Nat.zero_le _, fun e63 he63 => ?_⟩
    have pool := Paired.cons (F := RuleAt K _) (nil_new (K := K) (e := e63)) ((same_new (o := .tup []) he63).kt.rules pool)
    have hc := (same_new (o := .tup []) he63).kt.sqT hc
    have ch := ch.trans (same_new (o := .tup []) he63)
    refine ⟨Nat.zero_le _, fun e64 he64 => ?_⟩
    have pool := Paired.cons (F := RuleAt K _) (nil_new (K := K) (e := e64)) ((same_new (o := .tup []) he64).kt.rules pool)
    have hc := (same_new (o := .tup []) he64).kt.sqT hc
    have ch := ch.trans (same_new (o := .tup []) he64)
    refine ⟨Nat.zero_le _, fun e65 he65 => ?_⟩
    have pool := Paired.cons (F := RuleAt K _) (nil_new (K := K) (e := e65)) ((same_new (o := .tup []) he65).kt.rules pool)
    have hc := (same_new (o := .tup []) he65).kt.sqT hc
    have ch := ch.trans (same_new (o := .tup []) he65)
    refine ⟨by show 6 ≤ sizeLine; decide, fun cc6 hcc6 => ?_⟩
    have tcc := same_new (o := .tup [.ref e60, .ref e61, .ref e62, .ref e63, .ref e64, .ref e65]) hcc6
    have pool := tcc.kt.rules pool
    have ch := ch.trans tcc
    refine ⟨by show 2 ≤ sizeLine; decide, fun t6 ht6 => ?_⟩
    have SA := SP5.same (sb6.trans ch)
    have six7 : SixAt K _ (.ref cc6) [[], [], [], [], [], []] := ⟨cc6, _, rfl, SqT.of upd_same, by
      cases pool with | cons p0 pool => cases pool with | cons p1 pool => cases pool with | cons p2 pool => cases pool with | cons p3 pool => cases pool with | cons p4 pool => cases pool with | cons p5 pool => cases pool with | cons p6 pool => cases pool with | cons p7 pool => cases pool with | cons p8 pool => cases pool with | cons p9 pool => cases pool with | cons p10 pool => cases pool with | cons p11 pool =>
      exact .cons p5 (.cons p4 (.cons p3 (.cons p2 (.cons p1 (.cons p0 .nil)))))⟩
    have PA := pair_new (ch.kt.book hb6) six7 ht6
    have SB := SA.same (same_new (o := .tup [.ref x6, .ref cc6]) ht6)
    refine ⟨a, _, .ref t6, rfl, rfl, SB.l, by show 5 < sizeLine; decide, ?_⟩
    have SP6 := SB.push ha0 PA
    clear hc pc pp rr pool ch tcc SA six7 PA SB
    exact ⟨_, rfl, q a _ _ SP6 ha0 rfl⟩
end
end Sh

namespace Sh
open PySem L2
section
variable {P : Program} {w : World} {K : PySem.W.Frag} {mg : Str → Option Value} {base : Heap} {aA aD : Addr}
def spLaw (K : PySem.W.Frag) : Sp := fun vs H Q _ => ∃ (a : Addr) (ns : List Int), vs = [.ref a] ∧ SqL K H a (ns.map V.int) ∧ ns.length ≤ 63 ∧ ∀ H', Q (.bl true) H'
def TriAt (K : PySem.W.Frag) (C : Addr) (H : Hp) (x : V) : Prop := ∃ t p v i rs, x = .ref t ∧ H t = some (.tup [.ref p, v, .int i]) ∧ BookAt K C H p rs ∧ SixAt K H v rs
theorem TriAt.kt {C : Addr} {H H' : Hp} {x : V} (k : KT H H') (h : TriAt K C H x) : TriAt K C H' x := by
  obtain ⟨t, p, v, i, rs, e, ht, hb, h6⟩ := h
  exact ⟨t, p, v, i, rs, e, k _ _ (fun _ z => by cases z) ht, k.book hb, k.six h6⟩
structure LawSt (K : PySem.W.Frag) (C : Addr) (H0 H : Hp) (h : Addr) (n : Nat) : Prop where
  s : Same H0 H
  l : ∃ es, H h = some (.lst es) ∧ (∀ e ∈ es, TriAt K C H e) ∧ es.length ≤ n
theorem LawSt.same {C h : Addr} {H0 H H' : Hp} {n : Nat} (S : LawSt K C H0 H h n) (s : Same H H') : LawSt K C H0 H' h n := by
  obtain ⟨es, h1, h2, h3⟩ := S.l
  exact ⟨S.s.trans s, es, s _ _ h1, fun e he => (h2 e he).kt s.kt, h3⟩
theorem LawSt.kp {C h j : Addr} {H0 H1 H H' : Hp} {n m : Nat} (S : LawSt K C H0 H h n) (J : JarAt H j m) (s1 : Same H0 H1) (nj : H1 j = none) (hj : h ≠ j) (k : Kp j H H') : LawSt K C H0 H' h n := by
  obtain ⟨es, h1, h2, h3⟩ := S.l
  exact ⟨same_kp S.s (s1.free nj) k, es, k _ _ hj h1, fun e he => (h2 e he).kt (J.kt k), h3⟩
theorem rng_le (c n : Nat) (hc : 1 ≤ c) : 0 ≤ (if (if (n : Int) < (c : Int) then (n : Int) else c) > 1 then (if (n : Int) < (c : Int) then (n : Int) else c) else 1) ∧ (if (if (n : Int) < (c : Int) then (n : Int) else c) > 1 then (if (n : Int) < (c : Int) then (n : Int) else c) else 1) ≤ (c : Int) := by
  split <;> split <;> omega
abbrev s_law : Stmt := top 20
theorem sc_law : FnScope ["script", "held", "k", "jar", "turn", "work", "six"] ["script"] (defScope s_law) := ⟨rfl, rfl, rfl, by decide +kernel, rfl, by decide +kernel, by decide +kernel⟩
theorem ok_law {f C CR fJ fD fS fT fM : Addr} {fd fdJ fdD fdS fdT fdM : FuncData} (F : Fun K "law" "law" s_law f fd) (B : TxtB mg) (bmin : mg "min" = none)
    (gJ : mg "_law_jar" = some (.ref fJ)) (kJ : PySem.W.keepIn K (.ref fJ) = true) (bJ : Binds K fdJ ["script", "k"] []) (GJ : FnOk P w K mg base CX0 1 fJ fdJ ["script", "k"] (spJar K))
    (gD : mg "_law_draw" = some (.ref fD)) (kD : PySem.W.keepIn K (.ref fD) = true) (bD : Binds K fdD ["jar", "many"] []) (GD : FnOk P w K mg base CX0 1 fD fdD ["jar", "many"] spDraw)
    (gS : mg "_law_six" = some (.ref fS)) (kS : PySem.W.keepIn K (.ref fS) = true) (bS : Binds K fdS ["jar"] []) (GS : FnOk P w K mg base CX0 3 fS fdS ["jar"] (spSix K))
    (gT : mg "_law_tells" = some (.ref fT)) (kT : PySem.W.keepIn K (.ref fT) = true) (bT : Binds K fdT ["work", "six", "turn"] []) (GT : FnOk P w K mg base CX0 4 fT fdT ["work", "six", "turn"] (spTells K C))
    (gM : mg "_law_made" = some (.ref fM)) (kM : PySem.W.keepIn K (.ref fM) = true) (bM : Binds K fdM ["six"] []) (GM : FnOk P w K mg base CX0 6 fM fdM ["six"] (spMade K C)) : FnOk P w K mg base CX0 7 f fd ["script"] (spLaw K) := by
  refine F.ok sc_law (fun vs H Q E h => ?_) (fun cdv A outer s H vs Q E hr h => ?_)
  · obtain ⟨a, ns, rfl, _⟩ := h
    rfl
  · obtain ⟨a, ns, rfl, hS, hlen, q⟩ := h
    have r1 : Room 1 _ := hr.mono (by decide)
    have r3 : Room 3 _ := hr.mono (by decide)
    have r4 : Room 4 _ := hr.mono (by decide)
    refine ⟨_, (pss_cons (ps_set (i := 1) sc_law.nd rfl (Or.inl rfl) (pe_lst pa_nil))
  (pss_cons (ps_for PassesOwn.never rfl (pi_range1 (by rfl) B.b_range (pa_cons (pe_callB (call_max2 rfl) (by rfl) B.b_max (by decide +kernel) (pa_cons pe_int (pa_cons (pe_callB (call_min2 rfl) (by rfl) bmin (by decide +kernel) (pa_cons pe_int (pa_cons (pe_callB call_len_seq (by rfl) B.b_len (by decide +kernel) (pa_cons (pv 0) pa_nil)) pa_nil))) pa_nil))) pa_nil)) (pg_name (i := 2) sc_law.nd rfl (Or.inl rfl)) (pss_cons (ps_set (i := 3) sc_law.nd rfl (Or.inl rfl) (pe_call GJ r1 (by rfl) gJ kJ bJ .nil pass0 (pa_cons (pv 0) (pa_cons (pv 2) pa_nil))))
  (pss_cons (ps_set (i := 4) sc_law.nd rfl (Or.inl rfl) (pe_call GD r1 (by rfl) gD kD bD .nil pass0 (pa_cons (pv 3) (pa_cons pe_int pa_nil))))
  (pss_one (ps_for PassesOwn.never rfl (pi_list (pe_call GM hr (by rfl) gM kM bM .nil pass0 (pa_cons (pe_call GS r3 (by rfl) gS kS bS .nil pass0 (pa_cons (pv 3) pa_nil)) pa_nil))) (pg_tup (by rfl) (pgs_cons (pg_name (i := 5) sc_law.nd rfl (Or.inl rfl)) (pgs_cons (pg_name (i := 6) sc_law.nd rfl (Or.inl rfl)) pgs_nil))) (pss_cons (ps_if (pt_not (pt_val (pe_call GT r4 (by rfl) gT kT bT .nil pass0 (pa_cons (pv 5) (pa_cons (pv 6) (pa_cons (pv 4) pa_nil)))))) (pss_one (ps_ret pe_bl)) pss_nil)
  (pss_one (ps_expr (pe_bm PySem.F.plainAttrs_list PySem.F.slot_list_append PySem.F.type_list_append mt_append (pv 1) (pa_cons (pe_tup (pa_cons (pv 5) (pa_cons (pv 6) (pa_cons (pe_op op_sub pe_int (pv 4)) pa_nil)))) pa_nil))))))))))
  (pss_cons (ps_for PassesOwn.never rfl (pi_list (pv 1)) (pg_tup (by rfl) (pgs_cons (pg_name (i := 5) sc_law.nd rfl (Or.inl rfl)) (pgs_cons (pg_name (i := 6) sc_law.nd rfl (Or.inl rfl)) (pgs_cons (pg_name (i := 4) sc_law.nd rfl (Or.inl rfl)) pgs_nil)))) (pss_one (ps_if (pt_not (pt_val (pe_call GT r4 (by rfl) gT kT bT .nil pass0 (pa_cons (pv 5) (pa_cons (pv 6) (pa_cons (pv 4) pa_nil)))))) (pss_one (ps_ret pe_bl)) pss_nil)))
  (pss_one (ps_ret pe_bl))))), ?_⟩
    refine ⟨Nat.zero_le _, fun h hh => ?_⟩
    have hS1 : SqL K (upd H h (.lst [])) a (ns.map V.int) := (same_new hh).seq hS
    refine ⟨_, rfl, a, _, rfl, .inl hS1, _, _, rfl, _, _, rfl, ?_⟩
    have hN := rng_le 8 (ns.map V.int).length (by decide)
    refine ⟨_, rfl, by omega, by omega, for_range (lo := 0) (n := _) (fun i σ H' => ∃ v2 v3 v4 v5 v6, σ = [some (.ref a), some (.ref h), v2, v3, v4, v5, v6] ∧ LawSt K C H H' h (6 * i)) ?_ ?_ ?_⟩
    · exact ⟨_, _, _, _, _, rfl, same_new hh, [], upd_same, (fun e he => by cases he), Nat.le_refl _⟩
    · rintro i σ H1 hi ⟨v2, v3, v4, v5, v6, rfl, S1⟩
      have hi8 : i < 8 := by omega
      refine ⟨_, rfl, _, rfl, a, ns, _, rfl, S1.s.seq hS, by omega, by omega, fun j H2 J2 nj s2 => ?_⟩
      have S2 := S1.same s2
      have nhj : h ≠ j := by
        obtain ⟨es, h1, _⟩ := S1.l
        exact ne_of_none h1 nj
      refine ⟨_, rfl, j, 12, 0, rfl, J2, by decide, by decide, by decide, fun r H3 hr0 hr1 J3 k3 => ?_⟩
      have S3 := S2.kp J2 S1.s nj nhj k3
      refine ⟨_, rfl, j, 1, rfl, J3, by decide, fun a6 rs H4 h6 hl6 hrs J4 k4 => ?_⟩
      have S4 := S3.kp J3 S1.s nj nhj k4
      refine ⟨_, rs, rfl, h6, hl6, hrs, fun am xs H5 M5 nam hx6 => ?_⟩
      have S5 := S4.same M5.s
      have nhm : h ≠ am := by
        obtain ⟨es, h1, _⟩ := S4.l
        exact ne_of_none h1 nam
      have nam0 : H am = none := S4.s.free nam
      refine ⟨am, rfl, ⟨_, SqL.of M5.l⟩, for_list (K := K) (a := am) (xs := xs) (fun m σ H' => ∃ v5 v6, σ = [some (.ref a), some (.ref h), some (.int (0 + i)), some (.ref j), some (.int r), v5, v6] ∧ LawSt K C H H' h (6 * i + m) ∧ H' am = some (.lst xs) ∧ ∀ x ∈ xs, PairAt K C H' x) ?_ ?_ ?_ ?_⟩
      · exact ⟨_, _, rfl, S5, M5.l, M5.all⟩
      · rintro m σ H' _ ⟨_, _, _, _, hl, _⟩
        exact SqL.of hl
      · rintro m x σ H6 hx ⟨w5, w6, rfl, S6, l6, all6⟩
        obtain ⟨t, p, v, rs6, rfl, ht, hb, h6⟩ := all6 x (List.mem_of_getElem? hx)
        refine ⟨t, _, rfl, SqT.of ht, rfl, .ref p, _, rfl, v, _, rfl, rfl, ?_⟩
        refine ⟨_, rfl, _, rfl, _, rfl, p, v, r, rs6, rfl, hb, h6, fun H7 s7 => ⟨_, rfl, ?_⟩⟩
        have S7 := S6.same s7
        obtain ⟨es, hes, alle, hle⟩ := S7.l
        refine ⟨_, rfl, .inl ⟨rfl, _, SqL.of hes⟩, ?_⟩
        refine ⟨_, rfl, _, rfl, _, rfl, _, _, rfl, rfl, by show 3 ≤ sizeLine; decide, fun t2 ht2 => ?_⟩
        have s8 := same_new (o := .tup [.ref p, v, .int (11 - r)]) ht2
        have hm6 : m < 6 := by
          have := (List.getElem?_eq_some_iff.mp hx).1
          omega
        refine ⟨h, es, .ref t2, rfl, rfl, s8 _ _ hes, small1000 (by omega), ?_⟩
        refine ⟨_, _, rfl, ⟨same_upd (S7.s.trans s8) hh, _, upd_same, ?_, ?_⟩, ?_, ?_⟩
        · intro e he
          have kk := (kt_lst (p := h) (o := .lst (es ++ [.ref t2])) (s8 _ _ hes))
          rcases List.mem_append.mp he with he | he
          · exact (alle e he).kt (s8.kt.trans kk)
          · rw [List.mem_singleton.mp he]
            exact TriAt.kt kk ⟨t2, p, v, 11 - r, rs6, rfl, upd_same, s8.kt.book (s7.kt.book hb), s8.kt.six (s7.kt.six h6)⟩
        · rw [List.length_append]
          show es.length + 1 ≤ _
          omega
        · rw [upd_ne nhm.symm]
          exact s8 _ _ (s7 _ _ l6)
        · intro y hy
          exact (all6 y hy).kt ((s7.kt.trans s8.kt).trans (kt_lst (s8 _ _ hes)))
      · rintro σ H6 ⟨w5, w6, rfl, S6, _⟩
        refine ⟨_, _, _, _, _, rfl, S6.s, ?_⟩
        obtain ⟨es, h1, h2, h3⟩ := S6.l
        exact ⟨es, h1, h2, by omega⟩
    · rintro σ H1 ⟨v2, v3, v4, v5, v6, rfl, S1⟩
      obtain ⟨es, hes, alle, hle⟩ := S1.l
      refine ⟨_, rfl, h, rfl, ⟨_, SqL.of hes⟩, for_list (K := K) (a := h) (xs := es) (fun m σ H' => ∃ w2 w3 w4 w5 w6, σ = [some (.ref a), some (.ref h), w2, w3, w4, w5, w6] ∧ Same H1 H') ?_ ?_ ?_ ?_⟩
      · exact ⟨_, _, _, _, _, rfl, Same.refl _⟩
      · rintro m σ H' _ ⟨_, _, _, _, _, _, s'⟩
        exact SqL.of (s' _ _ hes)
      · rintro m x σ H6 hx ⟨w2, w3, w4, w5, w6, rfl, s6⟩
        obtain ⟨t, p, v, i, rs6, rfl, ht, hb, h6⟩ := (alle x (List.mem_of_getElem? hx)).kt s6.kt
        refine ⟨t, _, rfl, SqT.of ht, rfl, .ref p, _, rfl, v, _, rfl, .int i, _, rfl, rfl, ?_⟩
        refine ⟨_, rfl, _, rfl, _, rfl, p, v, i, rs6, rfl, hb, h6, fun H7 s7 => ⟨_, rfl, ?_⟩⟩
        exact ⟨_, _, _, _, _, rfl, s6.trans s7⟩
      · rintro σ H6 _
        exact q _
end
end Sh

namespace Sh
open PySem L2
section
variable {K : PySem.W.Frag} {f : Addr} {fd : FuncData} {d0 d1 d2 d3 d4 d5 : V}
theorem empty_at {K : PySem.W.Frag} {H : Hp} {e : Addr} {o : Option Addr} {n : Nat} {sl : Array (Option Value)} (l : K.lookup e = some ⟨.type "tuple", o, .seq #[] n, sl⟩) : RuleAt K H (.ref e) [] := ⟨e, rfl, .inr ⟨_, _, _, l, rfl, rfl, Nat.zero_le _, .nil⟩⟩
theorem init_b6 (F : FunD K "__init__" "Book.__init__" (defArgs s_init) (defBody s_init) (defScope s_init) [d0, d1, d2, d3, d4, d5] [] f fd) : ∃ ds, Vals [] ds ∧ Binds K fd pI ds :=
  F.binds1 7 6 (fun z => by cases z) rfl fun _ _ _ _ _ _ _ us its h1 h2 => match us, its, h1, h2 with | [_, _, _, _, _, _, _], [_, _, _, _, _, _], _, _ => ⟨_, rfl, rfl⟩
theorem init_b3 (F : FunD K "__init__" "Book.__init__" (defArgs s_init) (defBody s_init) (defScope s_init) [d0, d1, d2, d3, d4, d5] [] f fd) : ∃ ds, Vals [d3, d4, d5] ds ∧ Binds K fd pI ds :=
  F.binds1 4 3 (fun z => by cases z) rfl fun _ _ _ _ _ _ _ us its h1 h2 => match us, its, h1, h2 with | [_, _, _, _], [_, _, _, _, _, _], _, _ => ⟨_, rfl, rfl⟩
theorem init_b0 (F : FunD K "__init__" "Book.__init__" (defArgs s_init) (defBody s_init) (defScope s_init) [d0, d1, d2, d3, d4, d5] [] f fd) : ∃ ds, Vals [d0, d1, d2, d3, d4, d5] ds ∧ Binds K fd pI ds :=
  F.binds1 1 0 (fun z => by cases z) rfl fun _ _ _ _ _ _ _ us its h1 h2 => match us, its, h1, h2 with | [_], [_, _, _, _, _, _], _, _ => ⟨_, rfl, rfl⟩
theorem init_k1 (F : FunD K "__init__" "Book.__init__" (defArgs s_init) (defBody s_init) (defScope s_init) [d0, d1, d2, d3, d4, d5] [] f fd) :
    ∃ its : List Value, KBn K fd pI 1 ["again", "back", "put", "pay", "alter", "look"] (fun us ws => pick [0, 9, 12, 11, 8, 10, 7] (us ++ its ++ ws)) (fun us ws => pick [0, 9, 12, 11, 8, 10, 7] (us ++ [d0, d1, d2, d3, d4, d5] ++ ws)) :=
  F.kbindsD 1 ["again", "back", "put", "pay", "alter", "look"] (fun us its ws => pick [0, 9, 12, 11, 8, 10, 7] (us ++ its ++ ws)) (fun z => by cases z) (fun r1 r2 r3 => pick_vals ((r1.append r2).append r3) _)
    fun _ _ _ _ _ _ _ us its ws h1 h2 h3 => match us, its, ws, h1, h2, h3 with | [_], [_, _, _, _, _, _], [_, _, _, _, _, _], _, _, _ => ⟨_, rfl, rfl⟩
theorem init_k2 (F : FunD K "__init__" "Book.__init__" (defArgs s_init) (defBody s_init) (defScope s_init) [d0, d1, d2, d3, d4, d5] [] f fd) :
    ∃ its : List Value, KBn K fd pI 1 ["pay", "look"] (fun us ws => pick [0, 1, 8, 3, 4, 7, 6] (us ++ its ++ ws)) (fun us ws => pick [0, 1, 8, 3, 4, 7, 6] (us ++ [d0, d1, d2, d3, d4, d5] ++ ws)) :=
  F.kbindsD 1 ["pay", "look"] (fun us its ws => pick [0, 1, 8, 3, 4, 7, 6] (us ++ its ++ ws)) (fun z => by cases z) (fun r1 r2 r3 => pick_vals ((r1.append r2).append r3) _)
    fun _ _ _ _ _ _ _ us its ws h1 h2 h3 => match us, its, ws, h1, h2, h3 with | [_], [_, _, _, _, _, _], [_, _], _, _, _ => ⟨_, rfl, rfl⟩
theorem init_k3 (F : FunD K "__init__" "Book.__init__" (defArgs s_init) (defBody s_init) (defScope s_init) [d0, d1, d2, d3, d4, d5] [] f fd) :
    ∃ its : List Value, KBn K fd pI 2 ["again", "alter"] (fun us ws => pick [0, 1, 3, 9, 5, 6, 8] (us ++ its ++ ws)) (fun us ws => pick [0, 1, 3, 9, 5, 6, 8] (us ++ [d0, d1, d2, d3, d4, d5] ++ ws)) :=
  F.kbindsD 2 ["again", "alter"] (fun us its ws => pick [0, 1, 3, 9, 5, 6, 8] (us ++ its ++ ws)) (fun z => by cases z) (fun r1 r2 r3 => pick_vals ((r1.append r2).append r3) _)
    fun _ _ _ _ _ _ _ us its ws h1 h2 h3 => match us, its, ws, h1, h2, h3 with | [_, _], [_, _, _, _, _, _], [_, _], _, _, _ => ⟨_, rfl, rfl⟩
end
theorem all_mk {l : PySem.W.OpenLaw} {w : World} {K : PySem.W.Frag} {h : Heap} {mg : Str → Option Value} {fa A_ACTIONS A_DOORS C_NoRule f_eNoRule N_NoRule C_NoDoor f_eNoDoor N_NoDoor C_Book T_d A_d0 A_d1 A_d2 A_d3 A_d4 A_d5 f_init f_brule f_brules f_is_action f_is_rule f_is_door f__law_jar f__law_draw f__law_rule f__law_six f__law_tells f__law_made f_law : Addr} (X : K.In h) (G : h.Ns mainGlobals mg) (hfa : mg "law" = some (.ref fa))
    {its_ACTIONS : Array Value} {n_ACTIONS : Nat} {sl_ACTIONS : Array (Option Value)}
    {its_DOORS : Array Value} {n_DOORS : Nat} {sl_DOORS : Array (Option Value)}
    {t_MOST_ACTIONS : Tok}
    {nm_NoRule q_NoRule : Str} {bs_NoRule bm_NoRule : List Value} {sn_NoRule : List Str} {sub_NoRule : List Value} {ab_NoRule : Bool} {col_NoRule : Option Bool} {dd_NoRule : Option Addr} {m0_NoRule m1_NoRule m2_NoRule m3_NoRule m5_NoRule : Option Value}
    {od_eNoRule an_eNoRule : Option Addr} {sl_eNoRule : Array (Option Value)} {oc_eNoRule kV_eNoRule dc_eNoRule pm_eNoRule cd_eNoRule ct_eNoRule : Value}
    {nm_NoDoor q_NoDoor : Str} {bs_NoDoor bm_NoDoor : List Value} {sn_NoDoor : List Str} {sub_NoDoor : List Value} {ab_NoDoor : Bool} {col_NoDoor : Option Bool} {dd_NoDoor : Option Addr} {m0_NoDoor m1_NoDoor m2_NoDoor m3_NoDoor m5_NoDoor : Option Value}
    {od_eNoDoor an_eNoDoor : Option Addr} {sl_eNoDoor : Array (Option Value)} {oc_eNoDoor kV_eNoDoor dc_eNoDoor pm_eNoDoor cd_eNoDoor ct_eNoDoor : Value}
    {oT : Option Addr} {nT : Nat} {slT : Array (Option Value)} {cT : Value}
    {od_init an_init : Option Addr} {sl_init : Array (Option Value)} {oc_init kV_init dc_init pm_init cd_init ct_init : Value}
    {o_d0 : Option Addr} {n_d0 : Nat} {sl_d0 : Array (Option Value)}
    {o_d1 : Option Addr} {n_d1 : Nat} {sl_d1 : Array (Option Value)}
    {o_d2 : Option Addr} {n_d2 : Nat} {sl_d2 : Array (Option Value)}
    {o_d3 : Option Addr} {n_d3 : Nat} {sl_d3 : Array (Option Value)}
    {o_d4 : Option Addr} {n_d4 : Nat} {sl_d4 : Array (Option Value)}
    {o_d5 : Option Addr} {n_d5 : Nat} {sl_d5 : Array (Option Value)}
    {od_brule an_brule : Option Addr} {sl_brule : Array (Option Value)} {oc_brule kV_brule dc_brule pm_brule cd_brule ct_brule : Value}
    {od_brules an_brules : Option Addr} {sl_brules : Array (Option Value)} {oc_brules kV_brules dc_brules pm_brules cd_brules ct_brules : Value}
    {od_is_action an_is_action : Option Addr} {sl_is_action : Array (Option Value)} {oc_is_action kV_is_action dc_is_action pm_is_action cd_is_action ct_is_action : Value}
    {od_is_rule an_is_rule : Option Addr} {sl_is_rule : Array (Option Value)} {oc_is_rule kV_is_rule dc_is_rule pm_is_rule cd_is_rule ct_is_rule : Value}
    {od_is_door an_is_door : Option Addr} {sl_is_door : Array (Option Value)} {oc_is_door kV_is_door dc_is_door pm_is_door cd_is_door ct_is_door : Value}
    {od__law_jar an__law_jar : Option Addr} {sl__law_jar : Array (Option Value)} {oc__law_jar kV__law_jar dc__law_jar pm__law_jar cd__law_jar ct__law_jar : Value}
    {od__law_draw an__law_draw : Option Addr} {sl__law_draw : Array (Option Value)} {oc__law_draw kV__law_draw dc__law_draw pm__law_draw cd__law_draw ct__law_draw : Value}
    {od__law_rule an__law_rule : Option Addr} {sl__law_rule : Array (Option Value)} {oc__law_rule kV__law_rule dc__law_rule pm__law_rule cd__law_rule ct__law_rule : Value}
    {od__law_six an__law_six : Option Addr} {sl__law_six : Array (Option Value)} {oc__law_six kV__law_six dc__law_six pm__law_six cd__law_six ct__law_six : Value}
    {od__law_tells an__law_tells : Option Addr} {sl__law_tells : Array (Option Value)} {oc__law_tells kV__law_tells dc__law_tells pm__law_tells cd__law_tells ct__law_tells : Value}
    {od__law_made an__law_made : Option Addr} {sl__law_made : Array (Option Value)} {oc__law_made kV__law_made dc__law_made pm__law_made cd__law_made ct__law_made : Value}
    {od_law an_law : Option Addr} {sl_law : Array (Option Value)} {oc_law kV_law dc_law pm_law cd_law ct_law : Value}
    (z_int : PySem.W.nsIn K mainGlobals "int" = some none)
    (z_len : PySem.W.nsIn K mainGlobals "len" = some none)
    (z_abs : PySem.W.nsIn K mainGlobals "abs" = some none)
    (z_max : PySem.W.nsIn K mainGlobals "max" = some none)
    (z_min : PySem.W.nsIn K mainGlobals "min" = some none)
    (z_range : PySem.W.nsIn K mainGlobals "range" = some none)
    (z_tuple : PySem.W.nsIn K mainGlobals "tuple" = some none)
    (z_str : PySem.W.nsIn K mainGlobals "str" = some none)
    (z_isinstance : PySem.W.nsIn K mainGlobals "isinstance" = some none)
    (z_all : PySem.W.nsIn K mainGlobals "all" = some none)
    (z_zip : PySem.W.nsIn K mainGlobals "zip" = some none)
    (a_ACTIONS : PySem.W.nsIn K mainGlobals "ACTIONS" = some (some (.ref A_ACTIONS)))
    (l_ACTIONS : K.lookup A_ACTIONS = some ⟨.type "tuple", none, .seq its_ACTIONS n_ACTIONS, sl_ACTIONS⟩)
    (z_ACTIONS : its_ACTIONS.size ≤ sizeLine)
    (v_ACTIONS : Vals (Sh.acts.map V.str) its_ACTIONS.toList)
    (a_DOORS : PySem.W.nsIn K mainGlobals "DOORS" = some (some (.ref A_DOORS)))
    (l_DOORS : K.lookup A_DOORS = some ⟨.type "tuple", none, .seq its_DOORS n_DOORS, sl_DOORS⟩)
    (z_DOORS : its_DOORS.size ≤ sizeLine)
    (v_DOORS : Vals (Sh.doors.map V.str) its_DOORS.toList)
    (a_MOST_ACTIONS : PySem.W.nsIn K mainGlobals "MOST_ACTIONS" = some (some (.int 6 t_MOST_ACTIONS)))
    (a_NoRule : PySem.W.nsIn K mainGlobals "NoRule" = some (some (.ref C_NoRule)))
    (x_NoRule : K.lookup C_NoRule = some (PySem.excClassObj nm_NoRule q_NoRule C_NoRule N_NoRule bs_NoRule bm_NoRule true sn_NoRule sub_NoRule ab_NoRule col_NoRule dd_NoRule m0_NoRule m1_NoRule m2_NoRule m3_NoRule m5_NoRule "ValueError.__new__"))
    (r_NoRule : PySem.HandSPX.refsVE bm_NoRule = true)
    (sa_NoRule : PySem.W.findIn K (.ref C_NoRule) "__setattr__" = some (some (.builtin "object.__setattr__")))
    (no_NoRule : PySem.W.findIn K (.ref C_NoRule) "door" = some none)
    (a_eNoRule : PySem.W.findIn K (.ref C_NoRule) "__init__" = some (some (.ref f_eNoRule)))
    (t_eNoRule : PySem.W.typeIn K (.ref f_eNoRule) = some (.type "function"))
    (l_eNoRule : K.lookup f_eNoRule = some ⟨oc_eNoRule, od_eNoRule, .func (PySem.W.fnOf "__init__" "NoRule.__init__" (defArgs Sh.s_eRule) (defBody Sh.s_eRule) (defScope Sh.s_eRule) .none kV_eNoRule dc_eNoRule pm_eNoRule an_eNoRule cd_eNoRule ct_eNoRule), sl_eNoRule⟩)
    (c_eNoRule : PySem.W.codeIn K cd_eNoRule "NoRule.__init__" = true)
    (k_eNoRule : PySem.W.keepIn K (.ref f_eNoRule) = true)
    (kc_NoRule : PySem.W.keepIn K (.ref C_NoRule) = true)
    (ec_NoRule : PySem.W.subIn K (.ref C_NoRule) (.type "BaseException") = some true)
    (tc_NoRule : PySem.W.typeIn K (.ref C_NoRule) = some (.type "type"))
    (a_NoDoor : PySem.W.nsIn K mainGlobals "NoDoor" = some (some (.ref C_NoDoor)))
    (x_NoDoor : K.lookup C_NoDoor = some (PySem.excClassObj nm_NoDoor q_NoDoor C_NoDoor N_NoDoor bs_NoDoor bm_NoDoor true sn_NoDoor sub_NoDoor ab_NoDoor col_NoDoor dd_NoDoor m0_NoDoor m1_NoDoor m2_NoDoor m3_NoDoor m5_NoDoor "ValueError.__new__"))
    (r_NoDoor : PySem.HandSPX.refsVE bm_NoDoor = true)
    (sa_NoDoor : PySem.W.findIn K (.ref C_NoDoor) "__setattr__" = some (some (.builtin "object.__setattr__")))
    (no_NoDoor : PySem.W.findIn K (.ref C_NoDoor) "door" = some none)
    (a_eNoDoor : PySem.W.findIn K (.ref C_NoDoor) "__init__" = some (some (.ref f_eNoDoor)))
    (t_eNoDoor : PySem.W.typeIn K (.ref f_eNoDoor) = some (.type "function"))
    (l_eNoDoor : K.lookup f_eNoDoor = some ⟨oc_eNoDoor, od_eNoDoor, .func (PySem.W.fnOf "__init__" "NoDoor.__init__" (defArgs Sh.s_eDoor) (defBody Sh.s_eDoor) (defScope Sh.s_eDoor) .none kV_eNoDoor dc_eNoDoor pm_eNoDoor an_eNoDoor cd_eNoDoor ct_eNoDoor), sl_eNoDoor⟩)
    (c_eNoDoor : PySem.W.codeIn K cd_eNoDoor "NoDoor.__init__" = true)
    (k_eNoDoor : PySem.W.keepIn K (.ref f_eNoDoor) = true)
    (kc_NoDoor : PySem.W.keepIn K (.ref C_NoDoor) = true)
    (ec_NoDoor : PySem.W.subIn K (.ref C_NoDoor) (.type "BaseException") = some true)
    (tc_NoDoor : PySem.W.typeIn K (.ref C_NoDoor) = some (.type "type"))
    (a_Book : PySem.W.nsIn K mainGlobals "Book" = some (some (.ref C_Book)))
    (pg_Book : PySem.W.plainGet K C_Book Str.empty = true)
    (hd_Book : PySem.W.hasDictIn K C_Book = true)
    (po_Book : PySem.W.plainOver K C_Book = true)
    (sa_Book : PySem.W.findIn K (.ref C_Book) "__setattr__" = some (some (.builtin "object.__setattr__")))
    (mk_Book : PySem.W.makesIn K C_Book = true)
    (kc_Book : PySem.W.keepIn K (.ref C_Book) = true)
    (n_Book__rules : PySem.W.findIn K (.ref C_Book) "_rules" = some none)
    (a_init : PySem.W.findIn K (.ref C_Book) "__init__" = some (some (.ref f_init)))
    (i_init : PySem.W.isFn K (.ref f_init) = true)
    (l_init : K.lookup f_init = some ⟨oc_init, od_init, .func (PySem.W.fnOf "__init__" "Book.__init__" (defArgs Sh.s_init) (defBody Sh.s_init) (defScope Sh.s_init) (.ref T_d) kV_init dc_init pm_init an_init cd_init ct_init), sl_init⟩)
    (c_init : PySem.W.codeIn K cd_init "Book.__init__" = true)
    (k_init : PySem.W.keepIn K (.ref f_init) = true)
    (l_d : K.lookup T_d = some ⟨cT, oT, .seq #[.ref A_d0, .ref A_d1, .ref A_d2, .ref A_d3, .ref A_d4, .ref A_d5] nT, slT⟩)
    (l_d0 : K.lookup A_d0 = some ⟨.type "tuple", o_d0, .seq #[] n_d0, sl_d0⟩)
    (l_d1 : K.lookup A_d1 = some ⟨.type "tuple", o_d1, .seq #[] n_d1, sl_d1⟩)
    (l_d2 : K.lookup A_d2 = some ⟨.type "tuple", o_d2, .seq #[] n_d2, sl_d2⟩)
    (l_d3 : K.lookup A_d3 = some ⟨.type "tuple", o_d3, .seq #[] n_d3, sl_d3⟩)
    (l_d4 : K.lookup A_d4 = some ⟨.type "tuple", o_d4, .seq #[] n_d4, sl_d4⟩)
    (l_d5 : K.lookup A_d5 = some ⟨.type "tuple", o_d5, .seq #[] n_d5, sl_d5⟩)
    (a_brule : PySem.W.findIn K (.ref C_Book) "rule" = some (some (.ref f_brule)))
    (i_brule : PySem.W.isFn K (.ref f_brule) = true)
    (l_brule : K.lookup f_brule = some ⟨oc_brule, od_brule, .func (PySem.W.fnOf "rule" "Book.rule" (defArgs Sh.s_brule) (defBody Sh.s_brule) (defScope Sh.s_brule) .none kV_brule dc_brule pm_brule an_brule cd_brule ct_brule), sl_brule⟩)
    (c_brule : PySem.W.codeIn K cd_brule "Book.rule" = true)
    (k_brule : PySem.W.keepIn K (.ref f_brule) = true)
    (a_brules : PySem.W.findIn K (.ref C_Book) "rules" = some (some (.ref f_brules)))
    (i_brules : PySem.W.isFn K (.ref f_brules) = true)
    (l_brules : K.lookup f_brules = some ⟨oc_brules, od_brules, .func (PySem.W.fnOf "rules" "Book.rules" (defArgs Sh.s_brules) (defBody Sh.s_brules) (defScope Sh.s_brules) .none kV_brules dc_brules pm_brules an_brules cd_brules ct_brules), sl_brules⟩)
    (c_brules : PySem.W.codeIn K cd_brules "Book.rules" = true)
    (k_brules : PySem.W.keepIn K (.ref f_brules) = true)
    (a_is_action : PySem.W.nsIn K mainGlobals "is_action" = some (some (.ref f_is_action)))
    (l_is_action : K.lookup f_is_action = some ⟨oc_is_action, od_is_action, .func (PySem.W.fnOf "is_action" "is_action" (defArgs Sh.s_isact) (defBody Sh.s_isact) (defScope Sh.s_isact) .none kV_is_action dc_is_action pm_is_action an_is_action cd_is_action ct_is_action), sl_is_action⟩)
    (c_is_action : PySem.W.codeIn K cd_is_action "is_action" = true)
    (k_is_action : PySem.W.keepIn K (.ref f_is_action) = true)
    (a_is_rule : PySem.W.nsIn K mainGlobals "is_rule" = some (some (.ref f_is_rule)))
    (l_is_rule : K.lookup f_is_rule = some ⟨oc_is_rule, od_is_rule, .func (PySem.W.fnOf "is_rule" "is_rule" (defArgs Sh.s_isrule) (defBody Sh.s_isrule) (defScope Sh.s_isrule) .none kV_is_rule dc_is_rule pm_is_rule an_is_rule cd_is_rule ct_is_rule), sl_is_rule⟩)
    (c_is_rule : PySem.W.codeIn K cd_is_rule "is_rule" = true)
    (k_is_rule : PySem.W.keepIn K (.ref f_is_rule) = true)
    (a_is_door : PySem.W.nsIn K mainGlobals "is_door" = some (some (.ref f_is_door)))
    (l_is_door : K.lookup f_is_door = some ⟨oc_is_door, od_is_door, .func (PySem.W.fnOf "is_door" "is_door" (defArgs Sh.s_isdoor) (defBody Sh.s_isdoor) (defScope Sh.s_isdoor) .none kV_is_door dc_is_door pm_is_door an_is_door cd_is_door ct_is_door), sl_is_door⟩)
    (c_is_door : PySem.W.codeIn K cd_is_door "is_door" = true)
    (k_is_door : PySem.W.keepIn K (.ref f_is_door) = true)
    (a__law_jar : PySem.W.nsIn K mainGlobals "_law_jar" = some (some (.ref f__law_jar)))
    (l__law_jar : K.lookup f__law_jar = some ⟨oc__law_jar, od__law_jar, .func (PySem.W.fnOf "_law_jar" "_law_jar" (defArgs Sh.s_jar) (defBody Sh.s_jar) (defScope Sh.s_jar) .none kV__law_jar dc__law_jar pm__law_jar an__law_jar cd__law_jar ct__law_jar), sl__law_jar⟩)
    (c__law_jar : PySem.W.codeIn K cd__law_jar "_law_jar" = true)
    (k__law_jar : PySem.W.keepIn K (.ref f__law_jar) = true)
    (a__law_draw : PySem.W.nsIn K mainGlobals "_law_draw" = some (some (.ref f__law_draw)))
    (l__law_draw : K.lookup f__law_draw = some ⟨oc__law_draw, od__law_draw, .func (PySem.W.fnOf "_law_draw" "_law_draw" (defArgs Sh.s_draw) (defBody Sh.s_draw) (defScope Sh.s_draw) .none kV__law_draw dc__law_draw pm__law_draw an__law_draw cd__law_draw ct__law_draw), sl__law_draw⟩)
    (c__law_draw : PySem.W.codeIn K cd__law_draw "_law_draw" = true)
    (k__law_draw : PySem.W.keepIn K (.ref f__law_draw) = true)
    (a__law_rule : PySem.W.nsIn K mainGlobals "_law_rule" = some (some (.ref f__law_rule)))
    (l__law_rule : K.lookup f__law_rule = some ⟨oc__law_rule, od__law_rule, .func (PySem.W.fnOf "_law_rule" "_law_rule" (defArgs Sh.s_rule) (defBody Sh.s_rule) (defScope Sh.s_rule) .none kV__law_rule dc__law_rule pm__law_rule an__law_rule cd__law_rule ct__law_rule), sl__law_rule⟩)
    (c__law_rule : PySem.W.codeIn K cd__law_rule "_law_rule" = true)
    (k__law_rule : PySem.W.keepIn K (.ref f__law_rule) = true)
    (a__law_six : PySem.W.nsIn K mainGlobals "_law_six" = some (some (.ref f__law_six)))
    (l__law_six : K.lookup f__law_six = some ⟨oc__law_six, od__law_six, .func (PySem.W.fnOf "_law_six" "_law_six" (defArgs Sh.s_six) (defBody Sh.s_six) (defScope Sh.s_six) .none kV__law_six dc__law_six pm__law_six an__law_six cd__law_six ct__law_six), sl__law_six⟩)
    (c__law_six : PySem.W.codeIn K cd__law_six "_law_six" = true)
    (k__law_six : PySem.W.keepIn K (.ref f__law_six) = true)
    (a__law_tells : PySem.W.nsIn K mainGlobals "_law_tells" = some (some (.ref f__law_tells)))
    (l__law_tells : K.lookup f__law_tells = some ⟨oc__law_tells, od__law_tells, .func (PySem.W.fnOf "_law_tells" "_law_tells" (defArgs Sh.s_tells) (defBody Sh.s_tells) (defScope Sh.s_tells) .none kV__law_tells dc__law_tells pm__law_tells an__law_tells cd__law_tells ct__law_tells), sl__law_tells⟩)
    (c__law_tells : PySem.W.codeIn K cd__law_tells "_law_tells" = true)
    (k__law_tells : PySem.W.keepIn K (.ref f__law_tells) = true)
    (a__law_made : PySem.W.nsIn K mainGlobals "_law_made" = some (some (.ref f__law_made)))
    (l__law_made : K.lookup f__law_made = some ⟨oc__law_made, od__law_made, .func (PySem.W.fnOf "_law_made" "_law_made" (defArgs Sh.s_made) (defBody Sh.s_made) (defScope Sh.s_made) .none kV__law_made dc__law_made pm__law_made an__law_made cd__law_made ct__law_made), sl__law_made⟩)
    (c__law_made : PySem.W.codeIn K cd__law_made "_law_made" = true)
    (k__law_made : PySem.W.keepIn K (.ref f__law_made) = true)
    (a_law : PySem.W.nsIn K mainGlobals "law" = some (some (.ref f_law)))
    (l_law : K.lookup f_law = some ⟨oc_law, od_law, .func (PySem.W.fnOf "law" "law" (defArgs Sh.s_law) (defBody Sh.s_law) (defScope Sh.s_law) .none kV_law dc_law pm_law an_law cd_law ct_law), sl_law⟩)
    (c_law : PySem.W.codeIn K cd_law "law" = true)
    (k_law : PySem.W.keepIn K (.ref f_law) = true) :
    ∃ fd : FuncData, (∀ (s : Shared) (v : Value), BindsTo s fd ⟨[v], []⟩ [("script", v)]) ∧ ∀ base : Heap, K.In base → base.Ns mainGlobals mg → FnOk l.prog w K mg base CX0 7 fa fd ["script"] (spLaw K) := by
  have e := hfa.symm.trans (PySem.W.mg_of X G a_law)
  cases e
  have B : TxtB mg := ⟨PySem.W.mg_none_of X G z_int, PySem.W.mg_none_of X G z_len, PySem.W.mg_none_of X G z_abs, PySem.W.mg_none_of X G z_max, PySem.W.mg_none_of X G z_range, PySem.W.mg_none_of X G z_tuple, PySem.W.mg_none_of X G z_str, PySem.W.mg_none_of X G z_isinstance, PySem.W.mg_none_of X G z_all, PySem.W.mg_none_of X G z_zip⟩
  have TK : TxtK K mg A_ACTIONS A_DOORS := ⟨PySem.W.mg_of X G a_ACTIONS, PySem.W.mg_of X G a_DOORS, ⟨_, PySem.W.mg_of X G a_MOST_ACTIONS⟩, ⟨_, _, _, l_ACTIONS, rfl, rfl, rfl, z_ACTIONS, v_ACTIONS⟩, ⟨_, _, _, l_DOORS, rfl, rfl, rfl, z_DOORS, v_DOORS⟩⟩
  have TE1 : ErrTxt K mg "NoRule" "door" C_NoRule f_eNoRule := ⟨⟨⟨_, _, _, _, _, _, _, _, _, _, _, _, _, _, _, x_NoRule, r_NoRule⟩, sa_NoRule, ec_NoRule, tc_NoRule, kc_NoRule⟩, no_NoRule, a_eNoRule, t_eNoRule, PySem.W.mg_of X G a_NoRule⟩
  have TE2 : ErrTxt K mg "NoDoor" "door" C_NoDoor f_eNoDoor := ⟨⟨⟨_, _, _, _, _, _, _, _, _, _, _, _, _, _, _, x_NoDoor, r_NoDoor⟩, sa_NoDoor, ec_NoDoor, tc_NoDoor, kc_NoDoor⟩, no_NoDoor, a_eNoDoor, t_eNoDoor, PySem.W.mg_of X G a_NoDoor⟩
  have TB : TxtBook K mg C_Book := ⟨⟨pg_Book, hd_Book, po_Book, sa_Book⟩, n_Book__rules, PySem.W.mg_of X G a_Book⟩
  have FE1 := fun_mk (st := s_eRule) l_eNoRule c_eNoRule k_eNoRule
  have FE2 := fun_mk (st := s_eDoor) l_eNoDoor c_eNoDoor k_eNoDoor
  have FI : FunD K "__init__" "Book.__init__" (defArgs s_init) (defBody s_init) (defScope s_init) [.ref A_d0, .ref A_d1, .ref A_d2, .ref A_d3, .ref A_d4, .ref A_d5] [] f_init _ := ⟨⟨_, _, _, _, _, _, _, _, _, _, rfl, l_init, c_init, .inr ⟨(fun z => by cases z), _, _, [.ref A_d0, .ref A_d1, .ref A_d2, .ref A_d3, .ref A_d4, .ref A_d5], _, rfl, l_d, rfl, (.cons rfl (.cons rfl (.cons rfl (.cons rfl (.cons rfl (.cons rfl .nil))))))⟩, .inl rfl⟩, k_init⟩
  have F_brule := fun_mk (st := s_brule) l_brule c_brule k_brule
  have F_brules := fun_mk (st := s_brules) l_brules c_brules k_brules
  have F_is_action := fun_mk (st := s_isact) l_is_action c_is_action k_is_action
  have F_is_rule := fun_mk (st := s_isrule) l_is_rule c_is_rule k_is_rule
  have F_is_door := fun_mk (st := s_isdoor) l_is_door c_is_door k_is_door
  have F__law_jar := fun_mk (st := s_jar) l__law_jar c__law_jar k__law_jar
  have F__law_draw := fun_mk (st := s_draw) l__law_draw c__law_draw k__law_draw
  have F__law_rule := fun_mk (st := s_rule) l__law_rule c__law_rule k__law_rule
  have F__law_six := fun_mk (st := s_six) l__law_six c__law_six k__law_six
  have F__law_tells := fun_mk (st := s_tells) l__law_tells c__law_tells k__law_tells
  have F__law_made := fun_mk (st := s_made) l__law_made c__law_made k__law_made
  have F_law := fun_mk (st := s_law) l_law c_law k_law
  have bE1 := FE1.binds (ps := ["self", "door"]) fun _ _ _ _ _ _ us hl => match us, hl with | [_, _], _ => rfl
  have bE2 := FE2.binds (ps := ["self", "door"]) fun _ _ _ _ _ _ us hl => match us, hl with | [_, _], _ => rfl
  have bR := F_brule.binds (ps := ["self", "door"]) fun _ _ _ _ _ _ us hl => match us, hl with | [_, _], _ => rfl
  have kbR := kbn_of (ps := ["self", "door"]) (ks := ["door"]) F_brule 1 [0, 1] fun _ _ _ _ _ _ us ws h1 h2 => match us, ws, h1, h2 with | [_], [_], _, _ => rfl
  have bRs := F_brules.binds (ps := ["self"]) fun _ _ _ _ _ _ us hl => match us, hl with | [_], _ => rfl
  have bAct := F_is_action.binds (ps := ["value"]) fun _ _ _ _ _ _ us hl => match us, hl with | [_], _ => rfl
  have bRule := F_is_rule.binds (ps := ["value"]) fun _ _ _ _ _ _ us hl => match us, hl with | [_], _ => rfl
  have bDoor := F_is_door.binds (ps := ["value"]) fun _ _ _ _ _ _ us hl => match us, hl with | [_], _ => rfl
  have bJ := F__law_jar.binds (ps := ["script", "k"]) fun _ _ _ _ _ _ us hl => match us, hl with | [_, _], _ => rfl
  have bD := F__law_draw.binds (ps := ["jar", "many"]) fun _ _ _ _ _ _ us hl => match us, hl with | [_, _], _ => rfl
  have bRu := F__law_rule.binds (ps := ["jar", "most"]) fun _ _ _ _ _ _ us hl => match us, hl with | [_, _], _ => rfl
  have bS := F__law_six.binds (ps := ["jar"]) fun _ _ _ _ _ _ us hl => match us, hl with | [_], _ => rfl
  have bT := F__law_tells.binds (ps := ["work", "six", "turn"]) fun _ _ _ _ _ _ us hl => match us, hl with | [_, _, _], _ => rfl
  have bM := F__law_made.binds (ps := ["six"]) fun _ _ _ _ _ _ us hl => match us, hl with | [_], _ => rfl
  obtain ⟨ds6, v6, b6⟩ := init_b6 FI
  obtain ⟨ds3, v3, b3⟩ := init_b3 FI
  obtain ⟨ds0, v0, b0⟩ := init_b0 FI
  obtain ⟨i1, k1⟩ := init_k1 FI
  obtain ⟨i2, k2⟩ := init_k2 FI
  obtain ⟨i3, k3⟩ := init_k3 FI
  cases v6
  refine ⟨PySem.W.fnOf "law" "law" (defArgs s_law) (defBody s_law) (defScope s_law) .none kV_law dc_law pm_law an_law cd_law ct_law, fun s v => .of_eq rfl, fun base _ _ => ?_⟩
  have GI := ok_init (P := l.prog) (w := w) (base := base) FI B TK TB (PySem.W.mg_of X G a_is_action) F_is_action bAct (PySem.W.mg_of X G a_is_rule) F_is_rule bRule TE1 FE1 bE1
  have GR := ok_brule (P := l.prog) (w := w) (base := base) F_brule B TK TB (PySem.W.mg_of X G a_is_door) F_is_door bDoor TE2 FE2 bE2
  have GRs := ok_brules (P := l.prog) (w := w) (base := base) F_brules TB
  have GJ := ok_jar (P := l.prog) (w := w) (base := base) F__law_jar B
  have GD := ok_draw (P := l.prog) (w := w) (K := K) (base := base) F__law_draw B
  have GS := ok_six (P := l.prog) (w := w) (base := base) F__law_six B (PySem.W.mg_of X G a__law_draw) F__law_draw bD (PySem.W.mg_of X G a__law_rule) F__law_rule bRu
  have GT := ok_tells (P := l.prog) (w := w) (base := base) F__law_tells B TB GR ⟨a_brule, i_brule, k_brule⟩ bR kbR GRs ⟨a_brules, i_brules, k_brules⟩ bRs
  have M : MkB l.prog w K mg base C_Book C_NoRule f_init _ (.ref A_d0) (.ref A_d1) (.ref A_d2) (.ref A_d3) (.ref A_d4) (.ref A_d5) := ⟨⟨mk_Book, a_init, i_init, kc_Book⟩, GI, fun H => .cons (empty_at l_d0) (.cons (empty_at l_d1) (.cons (empty_at l_d2) (.cons (empty_at l_d3) (.cons (empty_at l_d4) (.cons (empty_at l_d5) .nil)))))⟩
  have GM := ok_made (P := l.prog) (w := w) (base := base) F__law_made TB M b6 v3 b3 v0 b0 k1 k2 k3
  exact ok_law (C := C_Book) (CR := C_NoRule) F_law B (PySem.W.mg_none_of X G z_min) (PySem.W.mg_of X G a__law_jar) k__law_jar bJ GJ (PySem.W.mg_of X G a__law_draw) k__law_draw bD GD (PySem.W.mg_of X G a__law_six) k__law_six bS GS (PySem.W.mg_of X G a__law_tells) k__law_tells bT GT (PySem.W.mg_of X G a__law_made) k__law_made bM GM
theorem walk {l : PySem.W.OpenLaw} {q : Program} {loose : List Str} {XP : (Str → Option Value) → Heap → Prop} {YP : World → Heap → Prop} {d : DefRec} {K : Params → PySem.W.Frag} (hn : l.most = some 63) (hdf : d.params.defaults = [])
    (hY : ∀ (w : World) (h : Heap), YP w h → (K w.params).In h)
    (F : ∀ (w : World) (mg : Str → Option Value) (fa : Addr) (h : Heap), (K w.params).In h → h.Ns mainGlobals mg → mg d.name = some (.ref fa) →
      ∃ fd : FuncData, (∀ (s : Shared) (u : Value), BindsTo s fd ⟨[u], []⟩ [("script", u)]) ∧ ∀ base : Heap, (K w.params).In base → base.Ns mainGlobals mg → FnOk l.prog w (K w.params) mg base CX0 7 fa fd ["script"] (spLaw (K w.params))) :
    PySem.W.WalkO q loose XP YP l.row.toRowW d [] (fun f vs => PySem.call f vs) :=
  L2.walk_of (n := 63) (k := 7) (x := "script") (CX := fun _ => CX0) (sp := fun w => spLaw (K w.params)) hn (by decide) hdf ⟨rfl, by decide, by decide⟩ hY F (fun _ _ a ns hl _ hS => ⟨a, ns, rfl, hS, hl, fun _ => rfl⟩) fun _ _ _ _ _ z => z
end Sh

open PySem PySem.W PyProof.Rows
set_option maxRecDepth 100000 in
set_option maxHeartbeats 0 in
theorem PySem.Challenge.cw_lastshown_k01_books_told_holds : PySem.Challenge.rw_lastshown_k01_books_told.Holds := by
  w_on; o_law; k_head; (case hw => w_witness2)
  k_fill
  refine Sh.walk (l := PySem.Challenge.rw_lastshown_k01_books_told) rfl rfl (fun w h Y => PySem.W.kIn_of Y) ?F
  case F =>
    intro w mg fa h KX G hmg
    refine' Sh.all_mk KX G hmg ?z_int ?z_len ?z_abs ?z_max ?z_min ?z_range ?z_tuple ?z_str ?z_isinstance ?z_all ?z_zip ?a_ACTIONS ?l_ACTIONS ?z_ACTIONS ?v_ACTIONS ?a_DOORS ?l_DOORS ?z_DOORS ?v_DOORS ?a_MOST_ACTIONS ?a_NoRule ?x_NoRule ?r_NoRule ?sa_NoRule ?no_NoRule ?a_eNoRule ?t_eNoRule ?l_eNoRule ?c_eNoRule ?k_eNoRule ?kc_NoRule ?ec_NoRule ?tc_NoRule ?a_NoDoor ?x_NoDoor ?r_NoDoor ?sa_NoDoor ?no_NoDoor ?a_eNoDoor ?t_eNoDoor ?l_eNoDoor ?c_eNoDoor ?k_eNoDoor ?kc_NoDoor ?ec_NoDoor ?tc_NoDoor ?a_Book ?pg_Book ?hd_Book ?po_Book ?sa_Book ?mk_Book ?kc_Book ?n_Book__rules ?a_init ?i_init ?l_init ?c_init ?k_init ?l_d ?l_d0 ?l_d1 ?l_d2 ?l_d3 ?l_d4 ?l_d5 ?a_brule ?i_brule ?l_brule ?c_brule ?k_brule ?a_brules ?i_brules ?l_brules ?c_brules ?k_brules ?a_is_action ?l_is_action ?c_is_action ?k_is_action ?a_is_rule ?l_is_rule ?c_is_rule ?k_is_rule ?a_is_door ?l_is_door ?c_is_door ?k_is_door ?a__law_jar ?l__law_jar ?c__law_jar ?k__law_jar ?a__law_draw ?l__law_draw ?c__law_draw ?k__law_draw ?a__law_rule ?l__law_rule ?c__law_rule ?k__law_rule ?a__law_six ?l__law_six ?c__law_six ?k__law_six ?a__law_tells ?l__law_tells ?c__law_tells ?k__law_tells ?a__law_made ?l__law_made ?c__law_made ?k__law_made ?a_law ?l_law ?c_law ?k_law
    (case z_int => k_is)
    (case z_len => k_is)
    (case z_abs => k_is)
    (case z_max => k_is)
    (case z_min => k_is)
    (case z_range => k_is)
    (case z_tuple => k_is)
    (case z_str => k_is)
    (case z_isinstance => k_is)
    (case z_all => k_is)
    (case z_zip => k_is)
    (case a_ACTIONS => k_is)
    (case l_ACTIONS => k_is)
    (case z_ACTIONS => decide +kernel)
    (case v_ACTIONS => exact (.cons ⟨_, rfl⟩ (.cons ⟨_, rfl⟩ (.cons ⟨_, rfl⟩ (.cons ⟨_, rfl⟩ (.cons ⟨_, rfl⟩ .nil))))))
    (case a_DOORS => k_is)
    (case l_DOORS => k_is)
    (case z_DOORS => decide +kernel)
    (case v_DOORS => exact (.cons ⟨_, rfl⟩ (.cons ⟨_, rfl⟩ (.cons ⟨_, rfl⟩ (.cons ⟨_, rfl⟩ (.cons ⟨_, rfl⟩ (.cons ⟨_, rfl⟩ .nil)))))))
    (case a_MOST_ACTIONS => k_is)
    (case a_NoRule => k_is)
    (case x_NoRule => k_is)
    (case r_NoRule => first | rfl | decide +kernel)
    (case sa_NoRule => k_is)
    (case no_NoRule => k_is)
    (case a_eNoRule => k_is)
    (case t_eNoRule => k_is)
    (case l_eNoRule => k_is)
    (case c_eNoRule => k_is)
    (case k_eNoRule => k_is)
    (case kc_NoRule => k_is)
    (case ec_NoRule => k_is)
    (case tc_NoRule => k_is)
    (case a_NoDoor => k_is)
    (case x_NoDoor => k_is)
    (case r_NoDoor => first | rfl | decide +kernel)
    (case sa_NoDoor => k_is)
    (case no_NoDoor => k_is)
    (case a_eNoDoor => k_is)
    (case t_eNoDoor => k_is)
    (case l_eNoDoor => k_is)
    (case c_eNoDoor => k_is)
    (case k_eNoDoor => k_is)
    (case kc_NoDoor => k_is)
    (case ec_NoDoor => k_is)
    (case tc_NoDoor => k_is)
    (case a_Book => k_is)
    (case pg_Book => k_is)
    (case hd_Book => k_is)
    (case po_Book => k_is)
    (case sa_Book => k_is)
    (case mk_Book => k_is)
    (case kc_Book => k_is)
    (case n_Book__rules => k_is)
    (case a_init => k_is)
    (case i_init => k_is)
    (case l_init => k_is)
    (case c_init => k_is)
    (case k_init => k_is)
    (case l_d => k_is)
    (case l_d0 => k_is)
    (case l_d1 => k_is)
    (case l_d2 => k_is)
    (case l_d3 => k_is)
    (case l_d4 => k_is)
    (case l_d5 => k_is)
    (case a_brule => k_is)
    (case i_brule => k_is)
    (case l_brule => k_is)
    (case c_brule => k_is)
    (case k_brule => k_is)
    (case a_brules => k_is)
    (case i_brules => k_is)
    (case l_brules => k_is)
    (case c_brules => k_is)
    (case k_brules => k_is)
    (case a_is_action => k_is)
    (case l_is_action => k_is)
    (case c_is_action => k_is)
    (case k_is_action => k_is)
    (case a_is_rule => k_is)
    (case l_is_rule => k_is)
    (case c_is_rule => k_is)
    (case k_is_rule => k_is)
    (case a_is_door => k_is)
    (case l_is_door => k_is)
    (case c_is_door => k_is)
    (case k_is_door => k_is)
    (case a__law_jar => k_is)
    (case l__law_jar => k_is)
    (case c__law_jar => k_is)
    (case k__law_jar => k_is)
    (case a__law_draw => k_is)
    (case l__law_draw => k_is)
    (case c__law_draw => k_is)
    (case k__law_draw => k_is)
    (case a__law_rule => k_is)
    (case l__law_rule => k_is)
    (case c__law_rule => k_is)
    (case k__law_rule => k_is)
    (case a__law_six => k_is)
    (case l__law_six => k_is)
    (case c__law_six => k_is)
    (case k__law_six => k_is)
    (case a__law_tells => k_is)
    (case l__law_tells => k_is)
    (case c__law_tells => k_is)
    (case k__law_tells => k_is)
    (case a__law_made => k_is)
    (case l__law_made => k_is)
    (case c__law_made => k_is)
    (case k__law_made => k_is)
    (case a_law => k_is)
    (case l_law => k_is)
    (case c_law => k_is)
    (case k_law => k_is)

