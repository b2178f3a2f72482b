import PyProof.Rows.All
import Wide.All
import OpenK.AllK
import Wide.FinOn
import PyProof.EqAt
import PyProof.EqKinds
import PyProof.TupleCall
import HandS.ForMost
import HandS.Exc
import HandS.TryOnly
import HandS.ExcOwn
import HandS.WordsExc
import HandS.Wide
import HandS.Flow
import HandS.IsInst
import HandS.Strs
import HandS.Zip
import HandS.TupAny
import HandS.Defaults
import HandS.MakeKw
import HandS.MakeKwOnly
import HandS.ExcInit
import PySem.Challenge.RW_lastshown_k04_equal_books
import KE.DataEq
import PyProof.NeKinds
import PyProof.InstEq
import HandS.More
import HandS.SetKeys
import HandS.SetFor
import HandS.SetBool
import HandS.TryMany
import HandS.Walk
import HandS.Star
set_option Elab.async false
set_option linter.all false
set_option maxRecDepth 100000
set_option maxHeartbeats 4000000
namespace Sh
open PySem L2
def top (i : Nat) : Stmt := PySem.Challenge.pw_lastshown_k04_equal_books.main.body.getD i (.Pass ⟨0, 0, 0, 0⟩)
/-! ### powers of any base -/
def CPowW (i j : Int) : Prop := 0 ≤ j ∧ j ≤ 1000 ∧ i.natAbs < 2 ^ 1000
theorem bits_le (i : Int) (n : Nat) (h : i.natAbs < 2 ^ n) : Builtin.Int.intBits i ≤ n + 1 := by
  unfold Builtin.Int.intBits
  split
  · omega
  · have : i.natAbs.log2 < n ∨ n = 0 := by
      rcases Nat.eq_zero_or_pos n with h0 | h0
      · exact .inr h0
      · exact .inl (PySem.Flt.log2_lt_of h0 h)
    rcases this with q | q
    · omega
    · subst q
      have : i.natAbs = 0 := by omega
      rw [this]
      decide
theorem op_powW {X : Cx} : OpR X (binaryOp .Pow) (rI CPowW fun i j => .int (i ^ j.toNat)) := opI fun i j _ _ _ _ _ hc q => by
  have h := bits_le i 1000 hc.2.2
  have h0 : 0 ≤ j := hc.1
  have h1 : j ≤ 1000 := hc.2.1
  refine PyProof.Rows.pow_int hc.1 ?_ q
  have z : (Builtin.Int.intBits i : Int) * j ≤ 1001 * 1000 := Int.mul_le_mul (by omega) h1 h0 (by decide)
  exact Int.le_trans z (by decide)
/-! ### the jar -/
def JarAt (H : Hp) (j : Addr) (n : Nat) : Prop := ∃ a b c : Int, H j = some (.lst [.int a, .int b, .int c]) ∧ 0 ≤ a ∧ 0 ≤ b ∧ b < 2 ^ 200 ∧ 0 ≤ c ∧ c ≤ n
/-- all that was tracked, but what stands at j, is as it was -/
def Kp (j : Addr) (H H' : Hp) : Prop := ∀ b o, b ≠ j → H b = some o → H' b = some o
def spDraw : Sp := fun vs H Q _ => ∃ (j : Addr) (m : Int) (n : Nat), vs = [.ref j, .int m] ∧ JarAt H j n ∧ 0 < m ∧ m < 2 ^ 200 ∧ n ≤ 2 ^ 100 ∧ ∀ (r : Int) (H' : Hp), 0 ≤ r → r < m → JarAt H' j (n + 1) → Kp j H H' → Q (.int r) H'
def spJar (K : PySem.W.Frag) : Sp := fun vs H Q _ => ∃ (a : Addr) (ns : List Int) (k : Int), vs = [.ref a, .int k] ∧ SqL K H a (ns.map V.int) ∧ 0 ≤ k ∧ k < 1000 ∧ ∀ (j : Addr) (H' : Hp), JarAt H' j 0 → H j = none → Same H H' → Q (.ref j) H'
theorem stir_lt (x : Int) {c : Int} (hc : 0 ≤ c) (hn : c ≤ 2 ^ 101) : (x % ((10 : Int) ^ (Int.toNat 42) + 63) + 32452867 * (c + 1)).natAbs < 2 ^ 1000 := by
  have e : (10 : Int) ^ (Int.toNat 42) + 63 = 1000000000000000000000000000000000000000063 := by decide
  rw [e]
  have h1 := Int.emod_nonneg x (b := 1000000000000000000000000000000000000000063) (by decide)
  have h2 := Int.emod_lt_of_pos x (b := 1000000000000000000000000000000000000000063) (by decide)
  exact Nat.lt_of_lt_of_le (show _ < 2 ^ 200 by omega) (by decide)
structure TxtB (mg : Str → Option Value) : Prop where
  b_int : mg "int" = none
  b_len : mg "len" = none
  b_abs : mg "abs" = none
  b_max : mg "max" = none
  b_range : mg "range" = none
  b_tuple : mg "tuple" = none
  b_str : mg "str" = none
  b_isinstance : mg "isinstance" = none
  b_all : mg "all" = none
  b_zip : mg "zip" = none
section
variable {P : Program} {w : World} {K : PySem.W.Frag} {mg : Str → Option Value} {base : Heap}
abbrev s_draw : Stmt := top 16
theorem sc_draw : FnScope ["jar", "many", "found", "stirred"] ["jar", "many"] (defScope s_draw) := ⟨rfl, rfl, rfl, by decide +kernel, rfl, by decide +kernel, by decide +kernel⟩
theorem ok_draw {f : Addr} {fd : FuncData} (F : Fun K "_law_draw" "_law_draw" s_draw f fd) (T : TxtB mg) : FnOk P w K mg base CX0 1 f fd ["jar", "many"] spDraw := by
  refine F.ok sc_draw (fun vs H Q E h => ?_) (fun cdv A outer s H vs Q E hr h => ?_)
  · obtain ⟨j, m, n, rfl, _⟩ := h
    rfl
  · obtain ⟨j, m, n, rfl, ⟨a, b, c, hj, ha, hb, hb2, hc, hcn⟩, hm, hm2, hn, k⟩ := h
    refine ⟨_, (pss_cons (ps_if (pt_cmpR op_gt (pe_ix ix_list (pv 0) pe_int (fun _ _ => rfl)) pe_int (nomark _)) (pss_cons (ps_set (i := 2) sc_draw.nd rfl (Or.inl rfl) (pe_op op_mod (pe_callTy call_int1 (by rfl) T.b_int (by decide +kernel) (pa_cons (pe_ix ix_list (pv 0) pe_int (fun _ _ => rfl)) pa_nil)) (pv 1)))
  (pss_cons (ps_asg (pe_op op_fdivW (pe_ix ix_list (pv 0) pe_int (fun _ _ => rfl)) (pv 1)) (pg_sub (pv 0) pe_int set_list))
  (pss_one (ps_ret (pv 2))))) pss_nil)
  (pss_cons (ps_asg (pe_op op_add (pe_ix ix_list (pv 0) pe_int (fun _ _ => rfl)) pe_int) (pg_sub (pv 0) pe_int set_list))
  (pss_cons (ps_set (i := 3) sc_draw.nd rfl (Or.inl rfl) (pe_op op_mod (pe_callTy call_int1 (by rfl) T.b_int (by decide +kernel) (pa_cons (pe_op op_add (pe_op op_powW (pe_op op_add (pe_ix ix_list (pv 0) pe_int (fun _ _ => rfl)) (pe_op op_mul pe_int (pe_ix ix_list (pv 0) pe_int (fun _ _ => rfl)))) pe_int) (pe_op op_mul pe_int (pe_ix ix_list (pv 0) pe_int (fun _ _ => rfl)))) pa_nil)) (pe_op op_add (pe_op op_powW pe_int pe_int) pe_int)))
  (pss_cons (ps_set (i := 3) sc_draw.nd rfl (Or.inl rfl) (pe_op op_mod (pe_callTy call_int1 (by rfl) T.b_int (by decide +kernel) (pa_cons (pe_op op_powW (pe_op op_add (pv 3) (pe_op op_mul pe_int (pe_ix ix_list (pv 0) pe_int (fun _ _ => rfl)))) pe_int) pa_nil)) (pe_op op_add (pe_op op_powW pe_int pe_int) pe_int)))
  (pss_one (ps_ret (pe_op op_mod (pe_callTy call_int1 (by rfl) T.b_int (by decide +kernel) (pa_cons (pe_op op_fdivW (pv 3) (pe_op op_powW pe_int pe_int)) pa_nil)) (pv 1)))))))), ?_⟩
    refine ⟨_, rfl, j, _, 0, _, rfl, rfl, SqL.of hj, rfl, ?_⟩
    refine ⟨_, _, rfl, rfl, _, rfl, ?_⟩
    refine ite2 (fun h0 => ?_) (fun h0 => ?_)
    · refine ⟨_, rfl, j, _, 0, _, rfl, rfl, SqL.of hj, rfl, ?_⟩
      refine .inl ⟨_, rfl, ?_⟩
      refine ⟨_, rfl, _, _, rfl, rfl, hm, ?_⟩
      refine ⟨_, rfl, j, _, 0, _, rfl, rfl, SqL.of hj, rfl, ?_⟩
      refine ⟨_, rfl, _, _, rfl, rfl, wide_div hm (b := 200) (by omega) (by decide) (by decide), ?_⟩
      refine ⟨_, rfl, j, _, 0, 0, rfl, rfl, hj, rfl, ?_⟩
      refine ⟨_, rfl, ?_⟩
      refine k _ _ (Int.emod_nonneg _ (by omega)) (Int.emod_lt_of_pos _ hm) ⟨_, _, _, upd_same, Int.ediv_nonneg ha (by omega), hb, hb2, hc, by omega⟩ fun b' o hb' e => by rw [upd_ne hb']; exact e
    · refine ⟨_, rfl, j, _, 2, _, rfl, rfl, SqL.of hj, rfl, ?_⟩
      refine ⟨_, _, rfl, rfl, ?_⟩
      refine ⟨_, rfl, j, _, 2, 2, rfl, rfl, hj, rfl, ?_⟩
      have hj1 : upd H j (.lst [.int a, .int b, .int (c + 1)]) j = some (.lst [.int a, .int b, .int (c + 1)]) := upd_same
      refine ⟨_, rfl, j, _, 1, _, rfl, rfl, SqL.of hj1, rfl, ?_⟩
      refine ⟨_, rfl, j, _, 2, _, rfl, rfl, SqL.of hj1, rfl, ?_⟩
      refine ⟨_, _, rfl, rfl, .inl ⟨by decide, by decide⟩, ?_⟩
      refine ⟨_, _, rfl, rfl, ?_⟩
      refine ⟨_, _, rfl, rfl, ⟨by decide, by decide, ?_⟩, ?_⟩
      · show (b + 15485867 * (c + 1)).natAbs < 2 ^ 1000
        exact Nat.lt_of_lt_of_le (show (b + 15485867 * (c + 1)).natAbs < 2 ^ 201 by omega) (by decide)
      refine ⟨_, rfl, j, _, 2, _, rfl, rfl, SqL.of hj1, rfl, ?_⟩
      refine ⟨_, _, rfl, rfl, .inl ⟨by decide, by decide⟩, ?_⟩
      refine ⟨_, _, rfl, rfl, ?_⟩
      refine .inl ⟨_, rfl, ?_⟩
      refine ⟨_, _, rfl, rfl, ⟨by decide, by decide, by decide⟩, ?_⟩
      refine ⟨_, _, rfl, rfl, ?_⟩
      refine ⟨_, _, rfl, rfl, (by show (0 : Int) < _; decide), ?_⟩
      refine ⟨_, rfl, ?_⟩
      refine ⟨_, rfl, j, _, 2, _, rfl, rfl, SqL.of hj1, rfl, ?_⟩
      refine ⟨_, _, rfl, rfl, .inl ⟨by decide, by decide⟩, ?_⟩
      refine ⟨_, _, rfl, rfl, ?_⟩
      refine ⟨_, _, rfl, rfl, ⟨by decide, by decide, ?_⟩, ?_⟩
      · exact stir_lt _ hc (by omega)
      refine .inl ⟨_, rfl, ?_⟩
      refine ⟨_, _, rfl, rfl, ⟨by decide, by decide, by decide⟩, ?_⟩
      refine ⟨_, _, rfl, rfl, ?_⟩
      refine ⟨_, _, rfl, rfl, (by show (0 : Int) < _; decide), ?_⟩
      refine ⟨_, rfl, ?_⟩
      refine ⟨_, _, rfl, rfl, ⟨by decide, by decide, by decide⟩, ?_⟩
      refine ⟨_, _, rfl, rfl, wide_div (b := 200) (by decide) (by decide) (by decide) (by decide), ?_⟩
      refine .inl ⟨_, rfl, ?_⟩
      refine ⟨_, rfl, ?_⟩
      refine ⟨_, _, rfl, rfl, hm, ?_⟩
      exact k _ _ (Int.emod_nonneg _ (by omega)) (Int.emod_lt_of_pos _ hm) ⟨_, _, _, hj1, ha, hb, hb2, by omega, by omega⟩ fun b' o hb' e => by rw [upd_ne hb']; exact e

/-- one way on behind a conditional expression -/
theorem tIf_via {t : TT} {ta tb : TE} {σ : L2.St} {H : Hp} {Q : VK} (R : V → Hp → Prop) (h : (∀ v H', R v H' → Q v H') → tIf t ta tb σ H Q) (k : ∀ v H', R v H' → Q v H') : tIf t ta tb σ H Q := h k
abbrev s_jar : Stmt := top 15
theorem sc_jar : FnScope ["script", "k", "cell"] ["script", "k"] (defScope s_jar) := ⟨rfl, rfl, rfl, by decide +kernel, rfl, by decide +kernel, by decide +kernel⟩
theorem ok_jar {f : Addr} {fd : FuncData} (F : Fun K "_law_jar" "_law_jar" s_jar f fd) (T : TxtB mg) : FnOk P w K mg base CX0 1 f fd ["script", "k"] (spJar K) := by
  refine F.ok sc_jar (fun vs H Q E h => ?_) (fun cdv A outer s H vs Q E hr h => ?_)
  · obtain ⟨j, m, n, rfl, _⟩ := h
    rfl
  · obtain ⟨a, ns, k, rfl, hS, hk, hk2, q⟩ := h
    refine ⟨_, (pss_cons (ps_set (i := 2) sc_jar.nd rfl (Or.inl rfl) (pe_ifExp (pt_cmpR op_lt (pv 1) (pe_callB call_len_seq (by rfl) T.b_len (by decide +kernel) (pa_cons (pv 0) pa_nil)) (nomark _)) (pe_callB call_abs (by rfl) T.b_abs (by decide +kernel) (pa_cons (pe_callTy call_int1 (by rfl) T.b_int (by decide +kernel) (pa_cons (pe_ix ix_list (pv 0) (pv 1) (fun _ _ => rfl)) pa_nil)) pa_nil)) pe_int))
  (pss_one (ps_ret (pe_lst (pa_cons (pe_callB (call_max2 rfl) (by rfl) T.b_max (by decide +kernel) (pa_cons pe_int (pa_cons (pe_op op_sub (pv 2) (pe_op op_powW pe_int pe_int)) pa_nil))) (pa_cons (pe_op op_add (pe_op op_mod (pe_callTy call_int1 (by rfl) T.b_int (by decide +kernel) (pa_cons (pv 2) pa_nil)) (pe_op op_add (pe_op op_powW pe_int pe_int) pe_int)) (pe_op op_mul pe_int (pv 1))) (pa_cons pe_int pa_nil))))))), ?_⟩
    refine tIf_via (fun v H' => ∃ c : Int, v = .int c ∧ H' = H) (fun key => ?_) ?_
    · refine ⟨_, rfl, _, rfl, a, _, rfl, .inl hS, _, _, rfl, rfl, _, rfl, ?_⟩
      refine ite2 (fun h1 => ?_) (fun h1 => ?_)
      · have h2 : k.toNat < ns.length := by
          have z := of_decide_eq_true h1
          rw [List.length_map] at z
          omega
        refine ⟨_, rfl, _, rfl, a, _, k, .int ns[k.toNat], rfl, rfl, hS, at_of (j := k.toNat) (by omega) (by rw [List.getElem?_map, List.getElem?_eq_getElem h2]; rfl), ?_⟩
        refine .inl ⟨_, rfl, _, rfl, ?_⟩
        exact key _ _ ⟨_, rfl, rfl⟩
      · exact key _ _ ⟨0, rfl, rfl⟩
    · rintro v H' ⟨c, rfl, rfl⟩
      refine ⟨_, rfl, ?_⟩
      refine ⟨_, _, rfl, rfl, ⟨by decide, by decide, by decide⟩, ?_⟩
      refine ⟨_, _, rfl, rfl, ?_⟩
      refine ⟨_, _, rfl, ?_⟩
      refine ⟨_, rfl, ?_⟩
      refine .inl ⟨_, rfl, ?_⟩
      refine ⟨_, _, rfl, rfl, ⟨by decide, by decide, by decide⟩, ?_⟩
      refine ⟨_, _, rfl, rfl, ?_⟩
      refine ⟨_, _, rfl, rfl, (by show (0 : Int) < _; decide), ?_⟩
      refine ⟨_, rfl, ?_⟩
      refine ⟨_, _, rfl, rfl, .inl ⟨by decide, by decide⟩, ?_⟩
      refine ⟨_, _, rfl, rfl, ?_⟩
      refine ⟨by show 3 ≤ sizeLine; decide, fun p hp => ?_⟩
      have e : (10 : Int) ^ (Int.toNat 36) + 67 = 1000000000000000000000000000000000067 := by decide
      have h1 := Int.emod_nonneg c (b := (10 : Int) ^ (Int.toNat 36) + 67) (by decide)
      have h2 := Int.emod_lt_of_pos c (b := (10 : Int) ^ (Int.toNat 36) + 67) (by decide)
      refine q p _ ⟨_, _, _, upd_same, ?_, ?_, ?_, by decide, by decide⟩ hp fun b o e => ?_
      · split <;> omega
      · omega
      · omega
      · rw [upd_ne (ne_of_none e hp)]
        exact e
end
end Sh

namespace Sh
open PySem L2
/-! ### what stays -/
/-- all but lists stays -/
def KT (H H' : Hp) : Prop := ∀ b o, (∀ xs, o ≠ HO.lst xs) → H b = some o → H' b = some o
theorem KT.refl (H : Hp) : KT H H := fun _ _ _ h => h
theorem KT.trans {H H1 H2 : Hp} (a : KT H H1) (b : KT H1 H2) : KT H H2 := fun c o z h => b c o z (a c o z h)
theorem _root_.L2.Same.kt {H H' : Hp} (s : Same H H') : KT H H' := fun b o _ h => s b o h
theorem Kp.kt {j : Addr} {H H' : Hp} {xs : List V} (hj : H j = some (.lst xs)) (k : Kp j H H') : KT H H' := fun b o z h => by
  refine k b o (fun e => ?_) h
  subst e
  rw [hj] at h
  exact z xs (Option.some.inj h).symm
theorem JarAt.kt {j : Addr} {H H' : Hp} {n : Nat} (J : JarAt H j n) (k : Kp j H H') : KT H H' := by
  obtain ⟨a, b, c, hj, _⟩ := J
  exact k.kt hj
theorem Kp.refl (j : Addr) (H : Hp) : Kp j H H := fun _ _ _ h => h
theorem Kp.trans {j : Addr} {H H1 H2 : Hp} (a : Kp j H H1) (b : Kp j H1 H2) : Kp j H H2 := fun c o z h => b c o z (a c o z h)
theorem _root_.L2.Same.kp {H H' : Hp} (j : Addr) (s : Same H H') : Kp j H H' := fun b o _ h => s b o h
theorem kp_fresh {j D : Addr} {H H2 H4 : Hp} {o : HO} (a : Kp j H H2) (hD : H2 D = none) (b : Kp j H H4) : Kp j H (upd H4 D o) := fun c u hc e => by
  rw [upd_ne (ne_of_none (a c u hc e) hD)]
  exact b c u hc e
theorem same_new {H : Hp} {p : Addr} {o : HO} (hp : H p = none) : Same H (upd H p o) := fun b u e => by
  rw [upd_ne (ne_of_none e hp)]
  exact e
theorem kt_lst {H : Hp} {p : Addr} {xs : List V} {o : HO} (hp : H p = some (.lst xs)) : KT H (upd H p o) := fun b u z e => by
  have hb : b ≠ p := fun q => by
    rw [q, hp] at e
    exact z xs (Option.some.inj e).symm
  rw [upd_ne hb]
  exact e
theorem KT.rd {H H' : Hp} (k : KT H H') {a : Addr} {xs : List V} (h : Rd H a (.tup xs)) : Rd H' a (.tup xs) := by
  rcases h with h | ⟨o, h⟩
  · exact .inl (k _ _ (fun _ z => by cases z) h)
  · exact .inr ⟨o, k _ _ (fun _ z => by cases z) h⟩
theorem KT.sqT {K : PySem.W.Frag} {H H' : Hp} (k : KT H H') {a : Addr} {xs : List V} (h : SqT K H a xs) : SqT K H' a xs := by
  rcases h with h | h
  · exact .inl (k.rd h)
  · exact .inr h
theorem JarAt.keep {H H' : Hp} {j : Addr} {n : Nat} (J : JarAt H j n) (h : ∀ o, H j = some o → H' j = some o) : JarAt H' j n := by
  obtain ⟨a, b, c, hj, q⟩ := J
  exact ⟨a, b, c, h _ hj, q⟩
theorem JarAt.same {H H' : Hp} {j : Addr} {n : Nat} (J : JarAt H j n) (h : Same H H') : JarAt H' j n := J.keep (h j)
theorem JarAt.mono {H : Hp} {j : Addr} {n m : Nat} (J : JarAt H j n) (h : n ≤ m) : JarAt H j m := by
  obtain ⟨a, b, c, hj, q1, q2, q3, q4, q5⟩ := J
  exact ⟨a, b, c, hj, q1, q2, q3, q4, by omega⟩
theorem JarAt.ne {H : Hp} {j p : Addr} {n : Nat} (J : JarAt H j n) (h : H p = none) : p ≠ j := by
  obtain ⟨a, b, c, hj, _⟩ := J
  exact (ne_of_none hj h).symm
theorem JarAt.neT {H : Hp} {j p : Addr} {n : Nat} {o : HO} (J : JarAt H j n) (h : H p = some o) (z : ∀ xs, o ≠ .lst xs) : p ≠ j := by
  obtain ⟨a, b, c, hj, _⟩ := J
  exact ne_of h hj (z _)
/-! ### rules -/
def acts : List Str := ["take", "least", "last", "show", "ask"]
def doors : List Str := ["put", "look", "alter", "back", "pay", "again"]
def IsRule (r : List Str) : Prop := r.length ≤ 6 ∧ ∀ x ∈ r, x ∈ acts
/-- a tuple of texts -/
def RuleAt (K : PySem.W.Frag) (H : Hp) (v : V) (r : List Str) : Prop := ∃ a, v = .ref a ∧ SqT K H a (r.map V.str)
def SixAt (K : PySem.W.Frag) (H : Hp) (v : V) (rs : List (List Str)) : Prop := ∃ a vs, v = .ref a ∧ SqT K H a vs ∧ Paired (RuleAt K H) vs rs
theorem KT.rule {K : PySem.W.Frag} {H H' : Hp} (k : KT H H') {v : V} {r : List Str} (h : RuleAt K H v r) : RuleAt K H' v r := by
  obtain ⟨a, e, h⟩ := h
  exact ⟨a, e, k.sqT h⟩
theorem pair_map {α β : Type} {F G : α → β → Prop} (h : ∀ a b, F a b → G a b) : ∀ {l1 : List α} {l2 : List β}, Paired F l1 l2 → Paired G l1 l2
  | _, _, .nil => .nil
  | _, _, .cons a b => .cons (h _ _ a) (pair_map h b)
theorem KT.rules {K : PySem.W.Frag} {H H' : Hp} (k : KT H H') {vs : List V} {rs : List (List Str)} (h : Paired (RuleAt K H) vs rs) : Paired (RuleAt K H') vs rs := pair_map (fun _ _ q => k.rule q) h
theorem KT.six {K : PySem.W.Frag} {H H' : Hp} (k : KT H H') {v : V} {rs : List (List Str)} (h : SixAt K H v rs) : SixAt K H' v rs := by
  obtain ⟨a, vs, e, h, q⟩ := h
  exact ⟨a, vs, e, k.sqT h, k.rules q⟩
theorem pair_get {α β : Type} {F : α → β → Prop} : ∀ {l1 : List α} {l2 : List β} {i : Nat} {y : β}, Paired F l1 l2 → l2[i]? = some y → ∃ x, l1[i]? = some x ∧ F x y
  | _, _, i, y, .nil, h => by simp at h
  | x :: _, _, 0, y, .cons a b, h => by
    have e := Option.some.inj h
    subst e
    exact ⟨x, rfl, a⟩
  | _ :: l1, _ :: l2, i + 1, y, .cons a b, h => pair_get (l1 := l1) (l2 := l2) (i := i) (y := y) b h
theorem pair_get1 {α β : Type} {F : α → β → Prop} : ∀ {l1 : List α} {l2 : List β} {i : Nat} {x : α}, Paired F l1 l2 → l1[i]? = some x → ∃ y, l2[i]? = some y ∧ F x y
  | _, _, i, y, .nil, h => by simp at h
  | _, y :: _, 0, _, .cons a b, h => by
    have e := Option.some.inj h
    subst e
    exact ⟨y, rfl, a⟩
  | _ :: l1, _ :: l2, i + 1, x, .cons a b, h => pair_get1 (l1 := l1) (l2 := l2) (i := i) (x := x) b h
theorem pair_snoc {α β : Type} {F : α → β → Prop} {x : α} {y : β} (f : F x y) : ∀ {l1 : List α} {l2 : List β}, Paired F l1 l2 → Paired F (l1 ++ [x]) (l2 ++ [y])
  | _, _, .nil => .cons f .nil
  | _, _, .cons a b => .cons a (pair_snoc f b)
/-! ### as data -/
def dRule (r : List Str) : PyData := .tuple (r.map PyData.str)
def dSix (rs : List (List Str)) : PyData := .tuple (rs.map dRule)
theorem dp_strs {K : PySem.W.Frag} {H : Hp} : ∀ r : List Str, DpAll K H (r.map V.str) (r.map PyData.str)
  | [] => .nil
  | x :: r => .cons (.str x) (dp_strs r)
theorem RuleAt.dp {K : PySem.W.Frag} {H : Hp} {v : V} {r : List Str} (h : RuleAt K H v r) : Dp K H v (dRule r) := by
  obtain ⟨a, rfl, h⟩ := h
  exact .tup h (dp_strs r)
theorem dp_rules {K : PySem.W.Frag} {H : Hp} : ∀ {vs : List V} {rs : List (List Str)}, Paired (RuleAt K H) vs rs → DpAll K H vs (rs.map dRule)
  | _, _, .nil => .nil
  | _, _, .cons a b => .cons a.dp (dp_rules b)
theorem SixAt.dp {K : PySem.W.Frag} {H : Hp} {v : V} {rs : List (List Str)} (h : SixAt K H v rs) : Dp K H v (dSix rs) := by
  obtain ⟨a, vs, rfl, h, q⟩ := h
  exact .tup h (dp_rules q)
def spRule : Sp := fun vs H Q _ => ∃ (j : Addr) (m : Int) (n : Nat), vs = [.ref j, .int m] ∧ JarAt H j n ∧ 0 ≤ m ∧ m ≤ 6 ∧ n ≤ 2 ^ 90 ∧
  ∀ (a : Addr) (r : List Str) (H' : Hp), H' a = some (.tup (r.map V.str)) → (r.length : Int) ≤ m → (∀ x ∈ r, x ∈ acts) → JarAt H' j (n + 10) → Kp j H H' → Q (.ref a) H'
def spSix (K : PySem.W.Frag) : Sp := fun vs H Q _ => ∃ (j : Addr) (n : Nat), vs = [.ref j] ∧ JarAt H j n ∧ n ≤ 2 ^ 80 ∧
  ∀ (a : Addr) (rs : List (List Str)) (H' : Hp), SixAt K H' (.ref a) rs → rs.length = 6 → (∀ r ∈ rs, IsRule r) → JarAt H' j (n + 100) → Kp j H H' → Q (.ref a) H'
section
variable {P : Program} {w : World} {K : PySem.W.Frag} {mg : Str → Option Value} {base : Heap}
abbrev s_rule : Stmt := top 17
theorem sc_rule : FnScope ["jar", "most", "actions", "k"] ["jar", "most"] (defScope s_rule) := ⟨rfl, rfl, rfl, by decide +kernel, rfl, by decide +kernel, by decide +kernel⟩
theorem ok_rule {f fD : Addr} {fd fdD : FuncData} (F : Fun K "_law_rule" "_law_rule" s_rule f fd) (T : TxtB mg) (gD : mg "_law_draw" = some (.ref fD)) (FD : Fun K "_law_draw" "_law_draw" s_draw fD fdD) (bD : Binds K fdD ["jar", "many"] []) : FnOk P w K mg base CX0 2 f fd ["jar", "most"] spRule := by
  have GD : FnOk P w K mg base CX0 1 fD fdD ["jar", "many"] spDraw := ok_draw FD T
  refine F.ok sc_rule (fun vs H Q E h => ?_) (fun cdv A outer s H vs Q E hr h => ?_)
  · obtain ⟨j, m, n, rfl, _⟩ := h
    rfl
  · obtain ⟨j, m, n, rfl, J, hm, hm2, hn, q⟩ := h
    refine ⟨_, (pss_cons (ps_set (i := 2) sc_rule.nd rfl (Or.inr rfl) (pe_lst (pa_cons pe_str (pa_cons pe_str (pa_cons pe_str (pa_cons pe_str (pa_cons pe_str pa_nil)))))))
  (pss_one (ps_ret (pe_callTy call_tuple_of (by rfl) T.b_tuple (by decide +kernel) (pa_cons (pe_lc (own := [("k", 3)]) (g := (gName 3)) (by rfl) sc_rule.nd (pi_range1 (by rfl) T.b_range (pa_cons (pe_call GD hr (by rfl) gD FD.kp bD .nil pass0 (pa_cons (pv 0) (pa_cons (pe_op op_add (pv 1) pe_int) pa_nil))) pa_nil)) (blkOk_by (own := [("k", 3)]) (N := ["jar", "most", "actions", "k"]) (sc := defScope s_rule) (by decide +kernel)) (fun _ _ _ _ _ => (pg_name (i := 3) sc_rule.nd rfl (Or.inl rfl))) (fun _ _ _ _ _ => pts_nil) (fun _ _ _ _ _ => (pe_ix (r := rIxL K) ix_list (pv 2) (pe_call GD hr (by rfl) gD FD.kp bD .nil pass0 (pa_cons (pv 0) (pa_cons pe_int pa_nil))) (fun _ _ => rfl)))) pa_nil))))), ?_⟩
    refine ⟨by show 5 ≤ sizeLine; decide, fun la hla => ?_⟩
    have J1 : JarAt (upd H la (.lst [.str "take", .str "least", .str "last", .str "show", .str "ask"])) j n := J.same (same_new hla)
    have hla1 : upd H la (.lst [.str "take", .str "least", .str "last", .str "show", .str "ask"]) la = some (.lst (acts.map V.str)) := upd_same
    have k1 : Same H (upd H la (.lst [.str "take", .str "least", .str "last", .str "show", .str "ask"])) := same_new hla
    have nlj : la ≠ j := J.ne hla
    refine ⟨_, rfl, _, rfl, _, _, rfl, rfl, ?_⟩
    refine ⟨j, m + 1, n, rfl, J1, by omega, by omega, by omega, fun r H2 hr0 hr1 J2 k2 => ?_⟩
    refine ⟨r, rfl, by omega, by omega, fun D hD => ?_⟩
    have njD : D ≠ j := J2.ne hD
    have nlD : la ≠ D := ne_of_none (k2 _ _ nlj hla1) hD
    refine lc_range (lo := 0) (n := r.toNat) (fun i H' => ∃ r : List Str, H' D = some (.lst (r.map V.str)) ∧ r.length = i ∧ (∀ x ∈ r, x ∈ acts) ∧ JarAt H' j (n + 1 + i) ∧ H' la = some (.lst (acts.map V.str)) ∧ Kp j H H') ?_ ?_ ?_
    · refine ⟨[], upd_same, rfl, (by intro x hx; cases hx), J2.same (same_new hD), same_new hD _ _ (k2 _ _ nlj hla1), ((k1.kp j).trans k2).trans ((same_new hD).kp j)⟩
    · rintro i H3 hi ⟨r', hD3, hl3, ha3, J3, hla3, k3⟩
      refine ⟨rfl, ?_⟩
      refine ⟨_, rfl, _, rfl, ?_⟩
      refine ⟨j, 5, n + 1 + i, rfl, J3, by decide, by decide, by omega, fun z H4 hz0 hz1 J4 k4 => ?_⟩
      obtain ⟨x, hx, hxa⟩ : ∃ x, acts[z.toNat]? = some x ∧ x ∈ acts := by
        have h5 : z.toNat < acts.length := by show z.toNat < 5; omega
        exact ⟨acts[z.toNat], List.getElem?_eq_getElem h5, List.getElem_mem h5⟩
      refine ⟨la, _, z, .str x, rfl, rfl, SqL.of (k4 _ _ nlj hla3), at_of (j := z.toNat) (by omega) (by rw [List.getElem?_map, hx]; rfl), ?_⟩
      refine ⟨_, k4 _ _ njD hD3, by rw [List.length_map, hl3]; exact small1000 (by omega), r' ++ [x], ?_, ?_, ?_, ?_, ?_, ?_⟩
      · rw [upd_same, List.map_append]
        rfl
      · rw [List.length_append, hl3]
        rfl
      · intro y hy
        rcases List.mem_append.mp hy with hy | hy
        · exact ha3 y hy
        · rw [List.mem_singleton.mp hy]
          exact hxa
      · have e : n + 1 + (i + 1) = n + 1 + i + 1 := by omega
        rw [e]
        exact J4.keep fun o e => by rw [upd_ne njD.symm]; exact e
      · rw [upd_ne nlD]
        exact k4 _ _ nlj hla3
      · exact kp_fresh (fun b o hb e => k2 b o hb (k1 b o e)) hD (k3.trans k4)
    · rintro H3 ⟨r', hD3, hl3, ha3, J3, hla3, k3⟩
      refine ⟨D, _, rfl, .inl ⟨SqL.of hD3, fun l hl => ?_⟩⟩
      refine q l r' _ upd_same (by omega) ha3 ?_ ?_
      · exact (J3.same (same_new hl)).mono (by omega)
      · exact k3.trans ((same_new hl).kp j)
/-! ### one way on behind an if -/
theorem tIfS_via {c : TT} {t u : TS} {D : Ends} {σ : L2.St} {H : Hp} (R : L2.St → Hp → Prop) (h : (∀ σ' H', R σ' H' → D.nx σ' H') → tIfS c t u D σ H) (k : ∀ σ' H', R σ' H' → D.nx σ' H') : tIfS c t u D σ H := h k
/-! ### == of data without dicts -/
section
variable {X : Cx}
def rEqP (K : PySem.W.Frag) : R2 := fun x y H Q => ∃ d e, Dp K H x d ∧ Dp K H y e ∧ d.plain = true ∧ e.plain = true ∧ d.depth ≤ 64 ∧ Q (.bl (PyData.eqv d e)) H
def rNeP (K : PySem.W.Frag) : R2 := fun x y H Q => ∃ d e, Dp K H x d ∧ Dp K H y e ∧ d.plain = true ∧ e.plain = true ∧ d.depth ≤ 64 ∧ Q (.bl (!PyData.eqv d e)) H
theorem op_eqP (hu : X.A.units + 64 < cLine) : OpR X (compareOp .Eq) (rEqP X.K) := by
  intro pins s σ H x y v u Q I rx ry h
  obtain ⟨d, e, hd, he, sd, se, dd, q⟩ := h
  obtain ⟨as, r1⟩ := Dp.reads I d x v hd rx
  obtain ⟨bs, r2⟩ := Dp.reads I e y u he ry
  exact SeqAt.eq_plain r1 r2 sd se (by omega) ⟨.bl _, H, I, rfl, q⟩
theorem op_neP (hu : X.A.units + 64 < cLine) : OpR X (compareOp .NotEq) (rNeP X.K) := by
  intro pins s σ H x y v u Q I rx ry h
  obtain ⟨d, e, hd, he, sd, se, dd, q⟩ := h
  obtain ⟨as, r1⟩ := Dp.reads I d x v hd rx
  obtain ⟨bs, r2⟩ := Dp.reads I e y u he ry
  exact SeqAt.ne_plain r1 r2 sd se (by omega) ⟨.bl _, H, I, rfl, q⟩
end
theorem plain_strs : ∀ r : List Str, PyData.plainAll (r.map PyData.str) = true
  | [] => rfl
  | x :: r => plain_strs r
theorem plain_rule (r : List Str) : (dRule r).plain = true := plain_strs r
theorem plain_rules : ∀ rs : List (List Str), PyData.plainAll (rs.map dRule) = true
  | [] => rfl
  | r :: rs => by
    show (PyData.plain (dRule r) && PyData.plainAll (rs.map dRule)) = true
    rw [plain_rule, plain_rules rs]
    rfl
theorem plain_six (rs : List (List Str)) : (dSix rs).plain = true := plain_rules rs
theorem depth_strs : ∀ r : List Str, PyData.depthAll (r.map PyData.str) = 0
  | [] => rfl
  | x :: r => by
    show max (PyData.depth (.str x)) (PyData.depthAll (r.map PyData.str)) = 0
    rw [depth_strs r]
    rfl
theorem depth_rule (r : List Str) : (dRule r).depth = 1 := by
  show PyData.depthAll (r.map PyData.str) + 1 = 1
  rw [depth_strs]
theorem depth_rules : ∀ rs : List (List Str), PyData.depthAll (rs.map dRule) ≤ 1
  | [] => Nat.zero_le _
  | r :: rs => by
    show max (PyData.depth (dRule r)) (PyData.depthAll (rs.map dRule)) ≤ 1
    have := depth_rules rs
    rw [depth_rule]
    omega
theorem depth_six (rs : List (List Str)) : (dSix rs).depth ≤ 2 := Nat.succ_le_succ (depth_rules rs)
theorem eqv_strs : ∀ r r' : List Str, PyData.eqvAll (r.map PyData.str) (r'.map PyData.str) = decide (r = r')
  | [], [] => rfl
  | [], _ :: _ => rfl
  | _ :: _, [] => rfl
  | x :: r, y :: r' => by
    show (PyData.eqv (.str x) (.str y) && PyData.eqvAll (r.map PyData.str) (r'.map PyData.str)) = _
    rw [eqv_strs r r']
    have e : PyData.eqv (.str x) (.str y) = (x == y) := by simp only [PyData.eqv]
    rw [e]
    by_cases h : x = y
    · subst h
      simp
    · simp [h]
theorem eqv_rule (r r' : List Str) : PyData.eqv (dRule r) (dRule r') = decide (r = r') := by
  have e : PyData.eqv (dRule r) (dRule r') = PyData.eqvAll (r.map PyData.str) (r'.map PyData.str) := by simp only [dRule, PyData.eqv]
  rw [e, eqv_strs]
theorem eqv_rules : ∀ r r' : List (List Str), PyData.eqvAll (r.map dRule) (r'.map dRule) = decide (r = r')
  | [], [] => rfl
  | [], _ :: _ => rfl
  | _ :: _, [] => rfl
  | x :: r, y :: r' => by
    show (PyData.eqv (dRule x) (dRule y) && PyData.eqvAll (r.map dRule) (r'.map dRule)) = _
    rw [eqv_rules r r', eqv_rule]
    by_cases h : x = y
    · subst h
      simp
    · simp [h]
theorem eqv_six (r r' : List (List Str)) : PyData.eqv (dSix r) (dSix r') = decide (r = r') := by
  have e : PyData.eqv (dSix r) (dSix r') = PyData.eqvAll (r.map dRule) (r'.map dRule) := by simp only [dSix, PyData.eqv]
  rw [e, eqv_rules]
abbrev s_six : Stmt := top 18
theorem sc_six : FnScope ["jar", "found", "k", "some"] ["jar"] (defScope s_six) := ⟨rfl, rfl, rfl, by decide +kernel, rfl, by decide +kernel, by decide +kernel⟩
structure SixSt (K : PySem.W.Frag) (H0 H : Hp) (j fo : Addr) (n : Nat) (rs : List (List Str)) : Prop where
  lst : ∃ vs, H fo = some (.lst vs) ∧ Paired (RuleAt K H) vs rs
  jar : JarAt H j n
  kp : Kp j H0 H
theorem ok_six {f fD fR : Addr} {fd fdD fdR : FuncData} (F : Fun K "_law_six" "_law_six" s_six f fd) (T : TxtB mg) (gD : mg "_law_draw" = some (.ref fD)) (FD : Fun K "_law_draw" "_law_draw" s_draw fD fdD) (bD : Binds K fdD ["jar", "many"] [])
    (gR : mg "_law_rule" = some (.ref fR)) (FR : Fun K "_law_rule" "_law_rule" s_rule fR fdR) (bR : Binds K fdR ["jar", "most"] []) : FnOk P w K mg base CX0 3 f fd ["jar"] (spSix K) := by
  have GD : FnOk P w K mg base CX0 1 fD fdD ["jar", "many"] spDraw := ok_draw FD T
  have GR : FnOk P w K mg base CX0 2 fR fdR ["jar", "most"] spRule := ok_rule FR T gD FD bD
  refine F.ok sc_six (fun vs H Q E h => ?_) (fun cdv A outer s H vs Q E hr h => ?_)
  · obtain ⟨j, n, rfl, _⟩ := h
    rfl
  · obtain ⟨j, n, rfl, J, hn, q⟩ := h
    have hr1 : Room 1 _ := hr.mono (by decide)
    refine ⟨_, (pss_cons (ps_set (i := 1) sc_six.nd rfl (Or.inl rfl) (pe_lst pa_nil))
  (pss_cons (ps_for PassesOwn.never rfl (pi_range1 (by rfl) T.b_range (pa_cons pe_int pa_nil)) (pg_name (i := 2) sc_six.nd rfl (Or.inl rfl)) (pss_cons (ps_set (i := 3) sc_six.nd rfl (Or.inl rfl) (pe_call GR hr (by rfl) gR FR.kp bR .nil pass0 (pa_cons (pv 0) (pa_cons (pe_ix ix_list (pe_lst (pa_cons pe_int (pa_cons pe_int (pa_cons pe_int (pa_cons pe_int pa_nil))))) (pe_call GD hr1 (by rfl) gD FD.kp bD .nil pass0 (pa_cons (pv 0) (pa_cons pe_int pa_nil))) (fun _ _ => rfl)) pa_nil))))
  (pss_cons (ps_if (PW.pt (pw_and (pt_cmpR (op_neP hr.units) (pv 1) (pe_lst pa_nil) (nomark _)) (pw_and1 (pt_cmpR op_eq (pe_call GD hr1 (by rfl) gD FD.kp bD .nil pass0 (pa_cons (pv 0) (pa_cons pe_int pa_nil))) pe_int (nomark _))))) (pss_one (ps_set (i := 3) sc_six.nd rfl (Or.inl rfl) (pe_ix ix_list (pv 1) (pe_call GD hr1 (by rfl) gD FD.kp bD .nil pass0 (pa_cons (pv 0) (pa_cons (pe_callB call_len_seq (by rfl) T.b_len (by decide +kernel) (pa_cons (pv 1) pa_nil)) pa_nil))) (fun _ _ => rfl)))) pss_nil)
  (pss_one (ps_expr (pe_bm PySem.F.plainAttrs_list PySem.F.slot_list_append PySem.F.type_list_append mt_append (pv 1) (pa_cons (pv 3) pa_nil)))))))
  (pss_one (ps_ret (pe_callTy call_tuple_of (by rfl) T.b_tuple (by decide +kernel) (pa_cons (pv 1) pa_nil)))))), ?_⟩
    refine ⟨Nat.zero_le _, fun fo hfo => ?_⟩
    have nfj : fo ≠ j := J.ne hfo
    refine ⟨6, rfl, by decide, by decide, for_range (lo := 0) (n := 6) (fun i σ H' => ∃ v2 v3 rs, σ = [some (.ref j), some (.ref fo), v2, v3] ∧ SixSt K H H' j fo (n + 13 * i) rs ∧ rs.length = i ∧ ∀ r ∈ rs, IsRule r) ?_ ?_ ?_⟩
    · exact ⟨none, none, [], rfl, ⟨⟨[], upd_same, .nil⟩, J.same (same_new hfo), (same_new hfo).kp j⟩, rfl, fun r hr => by cases hr⟩
    · rintro i σ H1 hi ⟨v2, v3, rs, rfl, S1, hl, hrs⟩
      have hi6 : i < 6 := hi
      obtain ⟨⟨vs, hfo1, pr⟩, J1, k1⟩ := S1
      refine ⟨_, rfl, ?_⟩
      refine ⟨by show 4 ≤ sizeLine; decide, fun l4 h4 => ?_⟩
      refine ⟨_, rfl, ?_⟩
      refine ⟨j, 4, n + 13 * i, rfl, J1.same (same_new h4), by decide, by decide, by omega, fun z H2 hz0 hz1 J2 k2 => ?_⟩
      have k2' : Kp j H1 H2 := ((same_new h4).kp j).trans k2
      obtain ⟨m, hm, hm0, hm6⟩ : ∃ m : Int, ([1, 2, 3, 6] : List Int)[z.toNat]? = some m ∧ 0 ≤ m ∧ m ≤ 6 := by
        have : z.toNat = 0 ∨ z.toNat = 1 ∨ z.toNat = 2 ∨ z.toNat = 3 := by omega
        rcases this with e | e | e | e <;> rw [e]
        · exact ⟨1, rfl, by decide, by decide⟩
        · exact ⟨2, rfl, by decide, by decide⟩
        · exact ⟨3, rfl, by decide, by decide⟩
        · exact ⟨6, rfl, by decide, by decide⟩
      refine ⟨l4, ([1, 2, 3, 6] : List Int).map V.int, z, .int m, rfl, rfl, SqL.of (k2 _ _ (J1.ne h4) upd_same), at_of (j := z.toNat) (by omega) (by rw [List.getElem?_map, hm]; rfl), ?_⟩
      refine ⟨j, m, n + 13 * i + 1, rfl, J2, hm0, hm6, by omega, fun a r H3 ha hra hrx J3 k3 => ?_⟩
      have k3' : Kp j H1 H3 := k2'.trans k3
      have hfo3 : H3 fo = some (.lst vs) := k3' _ _ nfj hfo1
      have pr3 : Paired (RuleAt K H3) vs rs := (J1.kt k3').rules pr
      dsimp only [gName, tSeq]
      refine tIfS_via (fun σ' H' => ∃ v r, σ' = [some (.ref j), some (.ref fo), some (.int (0 + i)), some v] ∧ RuleAt K H' v r ∧ IsRule r ∧ SixSt K H H' j fo (n + 13 * (i + 1)) rs ∧ H' fo = some (.lst vs)) (fun key => ?_) ?_
      · have pl : PyData.plain (.list (rs.map dRule)) = true := plain_rules rs
        have dl : PyData.depth (.list (rs.map dRule)) ≤ 64 := by
          have := depth_rules rs
          show PyData.depthAll (rs.map dRule) + 1 ≤ 64
          omega
        refine ⟨_, rfl, Nat.zero_le _, fun l0 hl0 => ?_⟩
        have nl : fo ≠ l0 := ne_of_none hfo3 hl0
        have k4 : Kp j H1 (upd H3 l0 (.lst [])) := k3'.trans ((same_new hl0).kp j)
        have J4 := J3.same (same_new (o := .lst []) hl0)
        have pr4 : Paired (RuleAt K (upd H3 l0 (.lst []))) vs rs := (same_new hl0).kt.rules pr3
        have hfo4 : upd H3 l0 (.lst []) fo = some (.lst vs) := by rw [upd_ne nl]; exact hfo3
        refine ⟨.list (rs.map dRule), .list [], .lst (SqL.of hfo4) (dp_rules pr4), .lst (SqL.of upd_same) .nil, pl, rfl, dl, ?_⟩
        refine ⟨_, rfl, ?_⟩
        have stop : ∀ H', Kp j H1 H' → JarAt H' j (n + 13 * (i + 1)) → H' fo = some (.lst vs) → RuleAt K H' (.ref a) r → _ := fun H' kk jj hh aa => key _ H' ⟨.ref a, r, rfl, aa, ⟨by omega, hrx⟩, ⟨⟨vs, hh, (J1.kt kk).rules pr⟩, jj, k1.trans kk⟩, hh⟩
        have ha3 : RuleAt K H3 (.ref a) r := ⟨a, rfl, SqT.of ha⟩
        refine ite2 (fun hc => ?_) (fun hc => ?_)
        · have hne : 0 < vs.length := by
            rw [pr.length]
            cases rs with
            | nil => exact absurd hc (by decide)
            | cons _ _ => exact Nat.succ_pos _
          refine ⟨_, rfl, j, 4, n + 13 * i + 1 + 10, rfl, J4, by decide, by decide, by omega, fun z2 H5 hz20 hz21 J5 k5 => ?_⟩
          have kk5 := k4.trans k5
          refine ⟨rfl, _, rfl, ?_⟩
          refine ite2 (fun hd => ?_) (fun hd => ?_)
          · have hfo5 := k5 _ _ nfj hfo4
            refine ⟨_, rfl, ?_⟩
            refine ⟨_, rfl, _, rfl, fo, _, rfl, .inl (SqL.of hfo5), ?_⟩
            have hl6 : vs.length < 7 := by rw [pr.length]; omega
            refine ⟨j, _, n + 13 * i + 1 + 10 + 1, rfl, J5, by omega, Int.lt_trans (Int.ofNat_lt.mpr hl6) (by decide), by omega, fun z3 H6 hz30 hz31 J6 k6 => ?_⟩
            have kk6 := kk5.trans k6
            obtain ⟨v, hv⟩ : ∃ v, vs[z3.toNat]? = some v := ⟨_, List.getElem?_eq_getElem (show z3.toNat < vs.length by omega)⟩
            have pr6 : Paired (RuleAt K H6) vs rs := (J1.kt kk6).rules pr
            obtain ⟨r6, hr6, hv6⟩ := pair_get1 pr6 hv
            have hfo6 := k6 _ _ nfj hfo5
            refine ⟨fo, _, z3, v, rfl, rfl, SqL.of hfo6, at_of (j := z3.toNat) (by omega) hv, ?_⟩
            exact key _ H6 ⟨v, r6, rfl, hv6, hrs _ (List.mem_of_getElem? hr6), ⟨⟨vs, hfo6, pr6⟩, J6.mono (by omega), k1.trans kk6⟩, hfo6⟩
          · exact stop H5 kk5 (J5.mono (by omega)) (k5 _ _ nfj hfo4) ((J4.kt k5).rule ((same_new hl0).kt.rule ha3))
        · exact stop _ k4 (J4.mono (by omega)) hfo4 ((same_new hl0).kt.rule ha3)
      · rintro σ' H4 ⟨v, r4, rfl, hv, hr4, S4, hfo4⟩
        obtain ⟨⟨vs4, e4, pr4⟩, J4, k4⟩ := S4
        have e5 : vs4 = vs := HO.lst.inj (Option.some.inj (e4.symm.trans hfo4))
        subst e5
        refine ⟨_, rfl, .inl ⟨rfl, _, SqL.of hfo4⟩, _, rfl, fo, _, v, rfl, rfl, hfo4, small1000 (by rw [pr4.length]; omega), ?_⟩
        refine ⟨_, _, rs ++ [r4], rfl, ⟨⟨vs4 ++ [v], upd_same, pair_snoc ((kt_lst hfo4).rule hv) ((kt_lst hfo4).rules pr4)⟩, ?_, kp_fresh (Kp.refl j H) hfo k4⟩, by rw [List.length_append, hl]; rfl, ?_⟩
        · exact J4.keep fun o e => by rw [upd_ne nfj.symm]; exact e
        · intro x hx
          rcases List.mem_append.mp hx with hx | hx
          · exact hrs x hx
          · rw [List.mem_singleton.mp hx]
            exact hr4
    · rintro σ H1 ⟨v2, v3, rs, rfl, S1, hl, hrs⟩
      obtain ⟨⟨vs, hfo1, pr⟩, J1, k1⟩ := S1
      refine ⟨_, rfl, fo, _, rfl, .inl ⟨SqL.of hfo1, fun l hl1 => ?_⟩⟩
      refine q l rs _ ⟨l, vs, rfl, SqT.of upd_same, (same_new hl1).kt.rules pr⟩ hl hrs ((J1.same (same_new hl1)).mono (by omega)) (k1.trans ((same_new hl1).kp j))
end
end Sh

namespace Sh
open PySem L2
/-! ### what the text's constants are -/
structure TxtK (K : PySem.W.Frag) (mg : Str → Option Value) (aA aD : Addr) : Prop where
  g_ACTIONS : mg "ACTIONS" = some (.ref aA)
  g_DOORS : mg "DOORS" = some (.ref aD)
  g_MOST : ∃ t, mg "MOST_ACTIONS" = some (.int 6 t)
  kA : ∃ (o : Obj) (its : Array Value) (n : Nat), K.lookup aA = some o ∧ o.cls = .type "tuple" ∧ o.dict = none ∧ o.data = .seq its n ∧ its.size ≤ sizeLine ∧ Vals (acts.map V.str) its.toList
  kD : ∃ (o : Obj) (its : Array Value) (n : Nat), K.lookup aD = some o ∧ o.cls = .type "tuple" ∧ o.dict = none ∧ o.data = .seq its n ∧ its.size ≤ sizeLine ∧ Vals (doors.map V.str) its.toList
section
variable {P : Program} {w : World} {K : PySem.W.Frag} {mg : Str → Option Value} {base : Heap} {aA aD : Addr}
theorem TxtK.sA (T : TxtK K mg aA aD) (H : Hp) : SqT K H aA (acts.map V.str) := by
  obtain ⟨o, its, n, h1, h2, h3, h4, h5, h6⟩ := T.kA
  exact .inr ⟨o, its, n, h1, h2, h4, h5, h6⟩
theorem TxtK.sD (T : TxtK K mg aA aD) (H : Hp) : SqT K H aD (doors.map V.str) := by
  obtain ⟨o, its, n, h1, h2, h3, h4, h5, h6⟩ := T.kD
  exact .inr ⟨o, its, n, h1, h2, h4, h5, h6⟩
theorem TxtK.tD (T : TxtK K mg aA aD) (H : Hp) : tyV K "tuple" (.ref aD) H := by
  obtain ⟨o, its, n, h1, h2, h3, _⟩ := T.kD
  exact .inr (.inl ⟨rfl, o, h1, h2, h3⟩)
theorem inV_strs (z : Str) : ∀ l : List Str, inV (.str z) (l.map V.str) = decide (z ∈ l)
  | [] => rfl
  | x :: l => by
    show (eqV (.str x) (.str z) || inV (.str z) (l.map V.str)) = _
    rw [inV_strs z l]
    show ((x == z) || decide (z ∈ l)) = _
    by_cases h : x = z
    · subst h
      simp
    · have h' : ¬ z = x := fun q => h q.symm
      simp [h, h']
theorem flat_strs : ∀ l : List Str, (l.map V.str).all flatV = true
  | [] => rfl
  | x :: l => flat_strs l
/-- a value by whether it is a text among l -/
inductive Among (K : PySem.W.Frag) (H : Hp) (l : List Str) : V → Bool → Prop
  | str (z : Str) : Among K H l (.str z) (decide (z ∈ l))
  | other {v : V} {t : Value} (ty : TyX K H v t) (no : PySem.W.kitOne K t (.type "str") = some false) : Among K H l v false
theorem Among.kt {H H' : Hp} {l : List Str} {v : V} {b : Bool} (h : Among K H l v b) (k : ∀ t, TyX K H v t → TyX K H' v t) : Among K H' l v b := by
  cases h with
  | str z => exact .str z
  | other ty no => exact .other (k _ ty) no
def spAmong (K : PySem.W.Frag) (l : List Str) : Sp := fun vs H Q _ => ∃ v b, vs = [v] ∧ Among K H l v b ∧ Q (.bl b) H
abbrev s_isact : Stmt := top 9
abbrev s_isrule : Stmt := top 10
abbrev s_isdoor : Stmt := top 11
theorem sc_isact : FnScope ["value"] ["value"] (defScope s_isact) := ⟨rfl, rfl, rfl, by decide +kernel, rfl, by decide +kernel, by decide +kernel⟩
theorem ok_isact {f : Addr} {fd : FuncData} (F : Fun K "is_action" "is_action" s_isact f fd) (B : TxtB mg) (T : TxtK K mg aA aD) : FnOk P w K mg base CX0 1 f fd ["value"] (spAmong K acts) := by
  refine F.ok sc_isact (fun vs H Q E h => ?_) (fun cdv A outer s H vs Q E hr h => ?_)
  · obtain ⟨v, b, rfl, _⟩ := h
    rfl
  · obtain ⟨v, b, rfl, hv, q⟩ := h
    refine ⟨_, (pss_one (ps_ret (pe_and (pe_callB call_isi (by rfl) B.b_isinstance (by decide +kernel) (pa_cons (pv 0) (pa_cons (pe_bltn (v := .ty "str") (by rfl) B.b_str (by decide +kernel) rfl) pa_nil))) (pe_one (pe_cmpR op_in_seq (pv 0) (pe_glob (v := .ref aA) (by rfl) T.g_ACTIONS rfl) (by rfl)))))), ?_⟩
    refine ⟨_, rfl, ?_⟩
    cases hv with
    | str z =>
      refine ⟨_, _, _, _, true, rfl, .ty "str", .base (.str z), kit_ty (by decide +kernel), ?_⟩
      refine ⟨_, rfl, ?_⟩
      refine ⟨_, rfl, aA, _, rfl, .inr (T.sA _), rfl, flat_strs acts, ?_⟩
      show Q (.bl (inV (.str z) (acts.map V.str))) H
      rw [inV_strs]
      exact q
    | other ty no =>
      refine ⟨_, _, _, _, false, rfl, .ty "str", ty, no, ?_⟩
      exact ⟨_, rfl, q⟩
theorem sc_isdoor : FnScope ["value"] ["value"] (defScope s_isdoor) := ⟨rfl, rfl, rfl, by decide +kernel, rfl, by decide +kernel, by decide +kernel⟩
theorem ok_isdoor {f : Addr} {fd : FuncData} (F : Fun K "is_door" "is_door" s_isdoor f fd) (B : TxtB mg) (T : TxtK K mg aA aD) : FnOk P w K mg base CX0 1 f fd ["value"] (spAmong K doors) := by
  refine F.ok sc_isdoor (fun vs H Q E h => ?_) (fun cdv A outer s H vs Q E hr h => ?_)
  · obtain ⟨v, b, rfl, _⟩ := h
    rfl
  · obtain ⟨v, b, rfl, hv, q⟩ := h
    refine ⟨_, (pss_one (ps_ret (pe_and (pe_callB call_isi (by rfl) B.b_isinstance (by decide +kernel) (pa_cons (pv 0) (pa_cons (pe_bltn (v := .ty "str") (by rfl) B.b_str (by decide +kernel) rfl) pa_nil))) (pe_one (pe_cmpR op_in_seq (pv 0) (pe_glob (v := .ref aD) (by rfl) T.g_DOORS rfl) (by rfl)))))), ?_⟩
    refine ⟨_, rfl, ?_⟩
    cases hv with
    | str z =>
      refine ⟨_, _, _, _, true, rfl, .ty "str", .base (.str z), kit_ty (by decide +kernel), ?_⟩
      refine ⟨_, rfl, ?_⟩
      refine ⟨_, rfl, aD, _, rfl, .inr (T.sD _), rfl, flat_strs doors, ?_⟩
      show Q (.bl (inV (.str z) (doors.map V.str))) H
      rw [inV_strs]
      exact q
    | other ty no =>
      refine ⟨_, _, _, _, false, rfl, .ty "str", ty, no, ?_⟩
      exact ⟨_, rfl, q⟩
/-! ### rules by is_rule -/
/-- a value by whether it is a rule -/
inductive RuleCl (K : PySem.W.Frag) (H : Hp) : V → Bool → Prop
  | tup {a : Addr} {xs : List V} {bs : List Bool} (h : SqT K H a xs) (ty : TyX K H (.ref a) (.type "tuple")) (p : xs.length ≤ 6 → Paired (Among K H acts) xs bs) : RuleCl K H (.ref a) (decide (xs.length ≤ 6) && bs.all id)
  | other {v : V} {t : Value} (ty : TyX K H v t) (no : PySem.W.kitOne K t (.type "tuple") = some false) : RuleCl K H v false
def spIsRule (K : PySem.W.Frag) : Sp := fun vs H Q _ => ∃ v b, vs = [v] ∧ RuleCl K H v b ∧ ∀ H', Same H H' → Q (.bl b) H'
theorem _root_.L2.Same.tyX {H H' : Hp} (s : Same H H') {v : V} {t : Value} (h : TyX K H v t) : TyX K H' v t := by
  cases h with
  | base b =>
    cases b with
    | non => exact .base .non
    | bl x => exact .base (.bl x)
    | int x => exact .base (.int x)
    | str x => exact .base (.str x)
    | flt x => exact .base (.flt x)
    | lst e => exact .base (.lst (s _ _ e))
    | frz e => exact .base (.frz (s _ _ e))
    | tup e => exact .base (.tup (s _ _ e))
    | dK e => exact .base (.dK (s _ _ e))
    | dT e => exact .base (.dT (s _ _ e))
    | ins e a b c d f => exact .base (.ins (s _ _ e) a b c d f)
  | byt b => exact .byt b
  | set e => exact .set (s _ _ e)
  | kList e c => exact .kList e c
  | kTuple e c => exact .kTuple e c
  | kDict e c => exact .kDict e c
  | fTuple e => exact .fTuple (s _ _ e)
  | fDict e => exact .fDict (s _ _ e)
theorem sqT_same {H H' : Hp} (s : Same H H') {a : Addr} {xs : List V} (h : SqT K H a xs) : SqT K H' a xs := s.kt.sqT h
theorem among_same {H H' : Hp} (s : Same H H') {l : List Str} {v : V} {b : Bool} (h : Among K H l v b) : Among K H' l v b := h.kt fun _ q => s.tyX q
theorem sc_isrule : FnScope ["value", "part"] ["value"] (defScope s_isrule) := ⟨rfl, rfl, rfl, by decide +kernel, rfl, by decide +kernel, by decide +kernel⟩
theorem ok_isrule {f fA : Addr} {fd fdA : FuncData} (F : Fun K "is_rule" "is_rule" s_isrule f fd) (B : TxtB mg) (T : TxtK K mg aA aD) (gA : mg "is_action" = some (.ref fA)) (FA : Fun K "is_action" "is_action" s_isact fA fdA) (bA : Binds K fdA ["value"] []) :
    FnOk P w K mg base CX0 2 f fd ["value"] (spIsRule K) := by
  have GA : FnOk P w K mg base CX0 1 fA fdA ["value"] (spAmong K acts) := ok_isact FA B T
  refine F.ok sc_isrule (fun vs H Q E h => ?_) (fun cdv A outer s H vs Q E hr h => ?_)
  · obtain ⟨v, b, rfl, _⟩ := h
    rfl
  · obtain ⟨v, b, rfl, hv, q⟩ := h
    obtain ⟨t6, g6⟩ := T.g_MOST
    refine ⟨_, (pss_one (ps_ret (pe_and (pe_callB call_isi (by rfl) B.b_isinstance (by decide +kernel) (pa_cons (pv 0) (pa_cons (pe_bltn (v := .ty "tuple") (by rfl) B.b_tuple (by decide +kernel) rfl) pa_nil))) (pe_and (pe_cmpR op_le (pe_callB call_len_seq (by rfl) B.b_len (by decide +kernel) (pa_cons (pv 0) pa_nil)) (pe_glob (v := .int 6) (by rfl) g6 ⟨_, rfl⟩) (nomark _)) (pe_one (pe_callB (cr_all rfl) (by rfl) B.b_all (by decide +kernel) (pa_cons (pe_lc (own := [("part", 1)]) (g := (gName 1)) (by rfl) sc_isrule.nd (pi_tup (pv 0)) (blkOk_by (own := [("part", 1)]) (N := ["value", "part"]) (sc := defScope s_isrule) (by decide +kernel)) (fun _ _ _ _ _ => (pg_name (i := 1) sc_isrule.nd rfl (Or.inl rfl))) (fun _ _ _ _ _ => pts_nil) (fun _ _ _ _ _ => (pe_call GA hr (by rfl) gA FA.kp bA .nil pass0 (pa_cons (pv 1) pa_nil)))) pa_nil))))))), ?_⟩
    refine ⟨_, rfl, ?_⟩
    cases hv with
    | other ty no =>
      refine ⟨_, _, _, _, false, rfl, .ty "tuple", ty, no, ?_⟩
      exact ⟨_, rfl, q _ (Same.refl _)⟩
    | @tup a xs bs h ty p =>
      refine ⟨_, _, _, _, true, rfl, .ty "tuple", ty, kit_ty (by decide +kernel), ?_⟩
      refine ⟨_, rfl, ?_⟩
      refine ⟨_, rfl, a, _, rfl, .inr h, _, _, rfl, rfl, ?_⟩
      refine ⟨_, rfl, ?_⟩
      refine ite2 (fun hc => ?_) (fun hc => ?_)
      · have hc' : xs.length ≤ 6 := Int.ofNat_le.mp (of_decide_eq_true hc)
        have pp := p hc'
        refine ⟨_, rfl, a, rfl, ⟨_, h⟩, fun D hD => ?_⟩
        refine lc_tup (K := K) (a := a) (xs := xs) (fun i H' => H' D = some (.lst ((bs.take i).map V.bl)) ∧ Same H H') ?_ ?_ ?_ ?_
        · exact ⟨upd_same, same_new hD⟩
        · intro i H' _ ⟨_, s'⟩
          exact sqT_same s' h
        · rintro i x H' hx ⟨hD', s'⟩
          obtain ⟨b, hb, hxb⟩ := pair_get1 pp hx
          refine ⟨rfl, ?_⟩
          refine ⟨_, rfl, x, b, rfl, among_same s' hxb, ?_⟩
          refine ⟨_, hD', ?_, ?_, ?_⟩
          · rw [List.length_map, List.length_take]
            exact small1000 (by have := (List.getElem?_eq_some_iff.mp hx).1; omega)
          · rw [upd_same, List.take_add_one, hb]
            simp
          · exact fun c o e => by rw [upd_ne (ne_of_none e hD)]; exact s' _ _ e
        · rintro H' ⟨hD', s'⟩
          refine ⟨D, bs, rfl, SqL.of ?_, ?_⟩
          · rw [hD', pp.length, List.take_length]
          · have e : (decide (xs.length ≤ 6) && bs.all id) = bs.all id := by
              rw [decide_eq_true hc']
              rfl
            rw [← e]
            exact q _ s'
      · have hc' : ¬ xs.length ≤ 6 := fun z => hc (decide_eq_true (Int.ofNat_le.mpr z))
        have e : (decide (xs.length ≤ 6) && bs.all id) = false := by
          rw [decide_eq_false hc']
          rfl
        have q' := q _ (Same.refl _)
        rw [e] at q'
        exact q'
end
end Sh

namespace Sh
open PySem L2
section
variable {P : Program} {w : World} {K : PySem.W.Frag} {mg : Str → Option Value} {base : Heap} {aA aD : Addr}
/-! ### the error classes with one field -/
structure ErrTxt (K : PySem.W.Frag) (mg : Str → Option Value) (x f : Str) (C fI : Addr) : Prop where
  oex : OexC K C
  no : PySem.W.findIn K (.ref C) f = some none
  iC : PySem.W.findIn K (.ref C) "__init__" = some (some (.ref fI))
  tI : PySem.W.typeIn K (.ref fI) = some (.type "function")
  g : mg x = some (.ref C)
def spErr (C : Addr) (f : Str) : Sp := fun vs H Q _ => ∃ (a : Addr) (v : V), vs = [.ref a, v] ∧ H a = some (exo a C none) ∧ ∀ d, H d = none → d ≠ a → Q .non (upd (upd H d (exd d [(f, v)])) a (exo a C (some d)))
theorem err_made {C : Addr} {f : Str} {v : V} {H : Hp} {Q : XK} (k : ∀ d H', H' d = some (.xd [(f, v)]) → Same H H' → H d = none → Q (.ref C) (some d) H') :
    ([v] : List V).length ≤ 1000 ∧ ∀ a, H a = none → spErr C f (.ref a :: ([v] ++ [])) (upd H a (exo a C none))
      (fun v H2 => v = .non ∧ ∃ (d : Addr) (fs : List (Str × V)), H2 a = some (exo a C (some d)) ∧ H2 d = some (exd d fs) ∧ H d = none ∧ Q (.ref C) (some d) (upd (del H2 a) d (.xd fs))) (fun _ _ _ => False) := by
  refine ⟨by show 1 ≤ 1000; decide, fun a ha => ⟨a, v, rfl, upd_same, fun d hd nd => ⟨rfl, d, [(f, v)], upd_same, ?_, ?_, ?_⟩⟩⟩
  · rw [upd_ne nd, upd_same]
  · rw [upd_ne nd] at hd
    exact hd
  · rw [upd_ne nd] at hd
    refine k d _ upd_same (fun b o e => ?_) hd
    have hb : b ≠ d := ne_of_none e hd
    have hba : b ≠ a := ne_of_none e ha
    rw [upd_ne hb, del_ne hba, upd_ne hba, upd_ne hb, upd_ne hba]
    exact e
abbrev s_eRule : Stmt := inClass (top 3) 0
abbrev s_eDoor : Stmt := inClass (top 4) 0
theorem sc_eRule : FnScope ["self", "door"] ["self", "door"] (defScope s_eRule) := ⟨rfl, rfl, rfl, by decide +kernel, rfl, by decide +kernel, by decide +kernel⟩
theorem ok_eRule {f C : Addr} {fd : FuncData} (F : Fun K "__init__" "NoRule.__init__" s_eRule f fd) (T : ErrTxt K mg "NoRule" "door" C f) : FnOk P w K mg base CX0 1 f fd ["self", "door"] (spErr C "door") := by
  refine F.ok sc_eRule (fun vs H Q E h => ?_) (fun cdv A outer s H vs Q E hr h => ?_)
  · obtain ⟨a, v, rfl, _⟩ := h
    rfl
  · obtain ⟨a, v, rfl, ha, k⟩ := h
    refine ⟨_, pss_one (ps_ost (pv 0) (pv 1) rfl), ?_⟩
    refine ⟨_, rfl, _, rfl, a, C, rfl, T.oex, T.no, .inl ⟨ha, fun d hd nd => ?_⟩⟩
    exact k d hd nd
theorem sc_eDoor : FnScope ["self", "door"] ["self", "door"] (defScope s_eDoor) := ⟨rfl, rfl, rfl, by decide +kernel, rfl, by decide +kernel, by decide +kernel⟩
theorem ok_eDoor {f C : Addr} {fd : FuncData} (F : Fun K "__init__" "NoDoor.__init__" s_eDoor f fd) (T : ErrTxt K mg "NoDoor" "door" C f) : FnOk P w K mg base CX0 1 f fd ["self", "door"] (spErr C "door") := by
  refine F.ok sc_eDoor (fun vs H Q E h => ?_) (fun cdv A outer s H vs Q E hr h => ?_)
  · obtain ⟨a, v, rfl, _⟩ := h
    rfl
  · obtain ⟨a, v, rfl, ha, k⟩ := h
    refine ⟨_, pss_one (ps_ost (pv 0) (pv 1) rfl), ?_⟩
    refine ⟨_, rfl, _, rfl, a, C, rfl, T.oex, T.no, .inl ⟨ha, fun d hd nd => ?_⟩⟩
    exact k d hd nd
/-! ### Book -/
theorem ruleCl_same {H H' : Hp} (s : Same H H') {v : V} {b : Bool} (h : RuleCl K H v b) : RuleCl K H' v b := by
  cases h with
  | tup h ty p => exact .tup (sqT_same s h) (s.tyX ty) fun z => pair_map (fun _ _ q => among_same s q) (p z)
  | other ty no => exact .other (s.tyX ty) no
def bf (l : Addr) : List (Str × V) := [("_rules", .ref l)]
def spBInit (K : PySem.W.Frag) (C CR : Addr) : Sp := fun vs H Q E => ∃ (x dx : Addr) (ws : List V) (bs : List Bool), vs = .ref x :: ws ∧ ws.length = 6 ∧ H x = some (.ins C dx []) ∧ Paired (RuleCl K H) ws bs ∧
  ((∀ b ∈ bs, b = true) → ∀ H' l, H' x = some (.ins C dx (bf l)) → H' l = some (.tup ws) → H l = none → (∀ b o, H b = some o → b ≠ x → H' b = some o) → Q .non H') ∧
  (∀ i, bs[i]? = some false → (∀ j, j < i → bs[j]? = some true) → ∀ d H', H' d = some (.xd [("door", .str (doors.getD i ""))]) → Same H H' → H d = none → E (.ref CR) (some d) H')
structure TxtBook (K : PySem.W.Frag) (mg : Str → Option Value) (C : Addr) : Prop where
  cl : Cls K C
  nR : NoAttr K C "_rules"
  g : mg "Book" = some (.ref C)
abbrev s_init : Stmt := inClass (top 13) 0
theorem sc_init : FnScope ["self", "put", "look", "alter", "back", "pay", "again", "rules", "door", "rule"] ["self", "put", "look", "alter", "back", "pay", "again"] (defScope s_init) := ⟨rfl, rfl, rfl, by decide +kernel, rfl, by decide +kernel, by decide +kernel⟩
theorem ok_init {f fS fA C CR fE : Addr} {dvs : List V} {fd fdS fdA fdE : FuncData} (F : FunD K "__init__" "Book.__init__" (defArgs s_init) (defBody s_init) (defScope s_init) dvs [] f fd) (B : TxtB mg) (T : TxtK K mg aA aD) (TB : TxtBook K mg C)
    (gA : mg "is_action" = some (.ref fA)) (FA : Fun K "is_action" "is_action" s_isact fA fdA) (bA : Binds K fdA ["value"] [])
    (gS : mg "is_rule" = some (.ref fS)) (FS : Fun K "is_rule" "is_rule" s_isrule fS fdS) (bS : Binds K fdS ["value"] [])
    (TE : ErrTxt K mg "NoRule" "door" CR fE) (FE : Fun K "__init__" "NoRule.__init__" s_eRule fE fdE) (bE : Binds K fdE ["self", "door"] []) :
    FnOk P w K mg base (L2.CX P w) 4 f fd ["self", "put", "look", "alter", "back", "pay", "again"] (spBInit K C CR) := by
  have GS : FnOk P w K mg base CX0 2 fS fdS ["value"] (spIsRule K) := ok_isrule FS B T gA FA bA
  have GE : FnOk P w K mg base CX0 1 fE fdE ["self", "door"] (spErr CR "door") := ok_eRule FE TE
  refine F.ok sc_init (fun vs H Q E h => ?_) (fun cdv A outer s H vs Q E hr h => ?_)
  · obtain ⟨x, dx, ws, bs, rfl, h6, _⟩ := h
    show ws.length + 1 = 7
    rw [h6]
  · obtain ⟨x, dx, ws, bs, rfl, h6, hx, pr, kq, ke⟩ := h
    match ws, h6 with
    | [w0, w1, w2, w3, w4, w5], _ => ?_
    have hr1 : Room 2 _ := hr.mono (by decide)
    refine ⟨_, (pss_cons (ps_set (i := 7) sc_init.nd rfl (Or.inl rfl) (pe_tup (pa_cons (pv 1) (pa_cons (pv 2) (pa_cons (pv 3) (pa_cons (pv 4) (pa_cons (pv 5) (pa_cons (pv 6) pa_nil))))))))
  (pss_cons (ps_for (passes_of rfl) rfl (RZ.pi_zipA (by rfl) B.b_zip (pa_cons (pe_glob (v := .ref aD) (by rfl) T.g_DOORS rfl) (pa_cons (pv 7) pa_nil))) (pg_tup (by rfl) (pgs_cons (pg_name (i := 8) sc_init.nd rfl (Or.inl rfl)) (pgs_cons (pg_name (i := 9) sc_init.nd rfl (Or.inl rfl)) pgs_nil))) (pss_one (ps_if (pt_not (pt_val (pe_call GS hr1 (by rfl) gS FS.kp bS .nil pass0 (pa_cons (pv 9) pa_nil)))) (pss_one (ps_raise rfl (takes_of rfl rfl rfl rfl) (pmk_oex TE.oex TE.iC TE.tI GE hr1 bE .nil pass0 (by rfl) TE.g (by exact (pa_cons (pv 8) pa_nil))))) pss_nil)))
  (pss_one (ps_fld (pv 0) (pv 7) rfl)))), ?_⟩
    refine ⟨_, rfl, _, rfl, _, rfl, _, rfl, _, rfl, _, rfl, ?_⟩
    refine ⟨by show 6 ≤ sizeLine; decide, fun l hl => ?_⟩
    have s1 : Same H (upd H l (.tup [w0, w1, w2, w3, w4, w5])) := same_new hl
    have nxl : x ≠ l := ne_of_none hx hl
    refine ⟨_, rfl, aD, l, doors.map V.str, [w0, w1, w2, w3, w4, w5], rfl, .inr ⟨T.sD _, SqT.of upd_same, ?_⟩⟩
    refine RZ.for_zipT (K := K) (a := aD) (b := l) (xs := doors.map V.str) (ys := [w0, w1, w2, w3, w4, w5]) rfl (fun i σ H' => ∃ v8 v9, σ = [some (.ref x), some w0, some w1, some w2, some w3, some w4, some w5, some (.ref l), v8, v9] ∧ Same (upd H l (.tup [w0, w1, w2, w3, w4, w5])) H' ∧ ∀ j, j < i → bs[j]? = some true) ?_ ?_ ?_ ?_
    · exact ⟨none, none, rfl, Same.refl _, fun j hj => absurd hj (Nat.not_lt_zero _)⟩
    · rintro i σ H' ⟨_, _, _, s2, _⟩
      exact ⟨T.sD _, SqT.of (s2 _ _ upd_same)⟩
    · rintro i u y tu σ H' hu hy ⟨v8, v9, rfl, s2, hb⟩ hT
      refine ⟨tu, [u, y], rfl, SqT.of upd_same, rfl, u, _, rfl, y, _, rfl, rfl, ?_⟩
      have s3 : Same H (upd H' tu (.tup [u, y])) := (s1.trans s2).trans (same_new hT)
      obtain ⟨b, hbi, hcl⟩ := pair_get1 pr hy
      refine ⟨_, rfl, y, b, rfl, ruleCl_same s3 hcl, fun H4 s4 => ⟨_, rfl, ?_⟩⟩
      cases b with
      | true =>
        refine ⟨_, _, rfl, s2.trans ((same_new hT).trans s4), fun j hj => ?_⟩
        by_cases e : j < i
        · exact hb j e
        · have e' : j = i := by omega
          rw [e']
          exact hbi
      | false =>
        have hi6 : i < doors.length := by
          have := (List.getElem?_eq_some_iff.mp hu).1
          rw [List.length_map] at this
          exact this
        have eu : u = .str (doors.getD i "") := by
          rw [List.getElem?_map] at hu
          rw [List.getD_eq_getElem?_getD]
          cases e : doors[i]? with
          | none =>
            rw [e] at hu
            cases hu
          | some z =>
            rw [e] at hu
            exact (Option.some.inj hu).symm
        subst eu
        refine ⟨_, rfl, err_made fun d H5 hd s5 hn => ?_⟩
        exact ke i hbi hb d H5 hd ((s3.trans s4).trans s5) ((s3.trans s4).free hn)
    · rintro σ H' ⟨v8, v9, rfl, s2, hb⟩
      have s3 := s1.trans s2
      refine ⟨_, rfl, _, rfl, x, C, dx, [], rfl, s3 _ _ hx, TB.cl, TB.nR, (by show 0 < 1000; decide), ?_⟩
      have hbl : bs.length = 6 := pr.length.symm
      refine kq (fun b hm => ?_) _ l upd_same ?_ hl fun b o e hb => ?_
      · obtain ⟨i, hi, e⟩ := List.getElem_of_mem hm
        have := hb i (by show i < 6; omega)
        rw [List.getElem?_eq_getElem hi] at this
        rw [← e]
        exact Option.some.inj this
      · rw [upd_ne nxl.symm]
        exact s2 _ _ upd_same
      · rw [upd_ne hb]
        exact s3 _ _ e
end
end Sh

namespace Sh
open PySem L2
/-! ### keywords of methods -/
def tMethN (C : Addr) (m : Str) (n : Nat) (sp : Sp) (gV : List V → List V → List V) (E : XK) (ta : TE) (tk : TA) : TE := fun σ H Q => ta σ H fun x H1 => ∃ a dx fs, x = .ref a ∧ H1 a = some (.ins C dx fs) ∧ fs.lookup m = none ∧
  tk σ H1 fun zs H2 => zs.length = n ∧ sp (gV [x] zs) H2 Q E
section
variable {X : Cx} {CX : CXT} {k : Nat} {f C : Addr} {fd : FuncData} {ps ks : List Str} {sp : Sp} {E : XK} {m : Str} {apos pos : Pos} {o : Expr} {kws : List Keyword} {ta : TE} {tk : TA} {g : List Value → List Value → List Value} {gV : List V → List V → List V}
/-- o.m(k = v, ..) -/
theorem pe_methK0 {pl : Sem Bool} (he : PE X o ta) (c : Cls X.K C) (hm : Meth X.K C m f) (F : FnOk X.prog X.w X.K X.mg X.base CX k f fd ps sp) (hr : Room k X.A) (hb : KBn X.K fd ps 1 ks g gV) (hx : Passes CX X E) (hkw : PK X kws tk)
    (hall : (backToKw pos (keywordEach kws X.env)).all (·.1.isSome) = true := by rfl) (hks : (backToKw pos (keywordEach kws X.env)).filterMap (·.1) = ks := by rfl)
    (hpl : ((backTo pos (starEach [] X.env)).any (·.1) || (backToKw pos (keywordEach kws X.env)).any (·.1.isNone)) = false := by rfl)
    (ht : eval (.Call (.Attribute o m apos) [] kws pos) X.env = (do
      let ov ← eval o X.env
      standAt apos.atName
      let (f, first) ← holding [ov] (getMethod ov m pl)
      callWith pos f first (backTo pos (starEach [] X.env)) (backToKw pos (keywordEach kws X.env))) := by rfl) :
    PE X (.Call (.Attribute o m apos) [] kws pos) (tMethN C m ks.length sp gV E ta tk) := by
  refine ⟨fun pins s σ H Q I h => ?_⟩
  refine PySem.W.methodCall_KW (pl := pl) (thn (he.run pins s σ H _ I h) fun u s1 ⟨x, H1, I1, rx, a, dx, fs, ex, ea, l, q⟩ => ?_) ht
  subst ex
  obtain rfl : u = Value.ref a := rx
  refine getmeth_ok I1 ea c hm l ?_
  refine PySem.W.callWith_KW0 (h₀ := X.base) (first := [.ref a]) I.ok.mod.kin hm.kp hall ?_ hpl
  refine thn (hkw.run pos pins s1 σ H1 _ I1 q) fun ws s2 ⟨zs, H2, I2, rz, l2, q2⟩ => ⟨I2.kIn, ?_⟩
  rw [hks]
  exact run_fnN (us := [.ref a]) (vs := [.ref a]) F hr hb hx I2 (.cons rfl .nil) rz rfl l2 q2
end
/-- the items at these places -/
def pick {α : Type} (ix : List Nat) (l : List α) : List α := ix.filterMap fun i => l[i]?
theorem pick_vals {xs : List V} {us : List Value} (r : Vals xs us) : ∀ ix : List Nat, Vals (pick ix xs) (pick ix us)
  | [] => .nil
  | i :: ix => by
    have h := pick_vals r ix
    show Vals (List.filterMap (fun i => xs[i]?) (i :: ix)) (List.filterMap (fun i => us[i]?) (i :: ix))
    cases e : xs[i]? with
    | none =>
      rw [List.filterMap_cons_none e, List.filterMap_cons_none (r.none_of e)]
      exact h
    | some x =>
      obtain ⟨u, eu, ru⟩ := r.get e
      rw [List.filterMap_cons_some e, List.filterMap_cons_some eu]
      exact .cons ru h
section
variable {K : PySem.W.Frag}
/-- a def without defaults, called with keywords -/
theorem kbn_of {x qual : Str} {st : Stmt} {f : Addr} {fd : FuncData} {ps ks : List Str} (F : Fun K x qual st f fd) (n : Nat) (ix : List Nat)
    (h : ∀ (kV doc pm : Value) (an : Option Addr) (cdv ct : Value) (us ws : List Value), us.length = n → ws.length = ks.length → bindArgs (PySem.W.fnOf x qual (defArgs st) (defBody st) (defScope st) .none kV doc pm an cdv ct) ⟨us, ks.zip ws⟩ = pure (ps.zip (pick ix (us ++ ws)))) :
    KBn K fd ps n ks (fun us ws => pick ix (us ++ ws)) (fun us ws => pick ix (us ++ ws)) := by
  obtain ⟨oc, od, kV, doc, pm, an, cdv, ct, osl, rfl, lk, hcd⟩ := F.ex
  exact ⟨fun s us ws _ h1 h2 => .of_eq (h kV doc pm an cdv ct us ws h1 h2), fun r1 r2 => pick_vals (r1.append r2) ix⟩
end
section
variable {P : Program} {w : World} {K : PySem.W.Frag} {mg : Str → Option Value} {base : Heap} {aA aD : Addr}
def BookAt (K : PySem.W.Frag) (C : Addr) (H : Hp) (p : Addr) (rs : List (List Str)) : Prop := ∃ dx l, H p = some (.ins C dx (bf l)) ∧ SixAt K H (.ref l) rs ∧ rs.length = 6
theorem KT.book {H H' : Hp} (k : KT H H') {C p : Addr} {rs : List (List Str)} (h : BookAt K C H p rs) : BookAt K C H' p rs := by
  obtain ⟨dx, l, hp, h6, e⟩ := h
  exact ⟨dx, l, k _ _ (fun _ z => by cases z) hp, k.six h6, e⟩
def spBRule (K : PySem.W.Frag) (C CD : Addr) : Sp := fun vs H Q E => ∃ (p : Addr) (v : V) (b : Bool) (rs : List (List Str)), vs = [.ref p, v] ∧ BookAt K C H p rs ∧ Among K H doors v b ∧
  (∀ (i : Nat) (z : Str) (u : V) (r : List Str), v = .str z → doors[i]? = some z → rs[i]? = some r → RuleAt K H u r → Q u H) ∧
  (b = false → ∀ d H', H' d = some (.xd [("door", v)]) → Same H H' → H d = none → E (.ref CD) (some d) H')
def spBRules (K : PySem.W.Frag) (C : Addr) : Sp := fun vs H Q _ => ∃ (p : Addr) (rs : List (List Str)), vs = [.ref p] ∧ BookAt K C H p rs ∧ ∀ v, SixAt K H v rs → Q v H
abbrev s_brule : Stmt := inClass (top 13) 2
abbrev s_brules : Stmt := inClass (top 13) 3
theorem sc_brules : FnScope ["self"] ["self"] (defScope s_brules) := ⟨rfl, rfl, rfl, by decide +kernel, rfl, by decide +kernel, by decide +kernel⟩
theorem ok_brules {f C : Addr} {fd : FuncData} (F : Fun K "rules" "Book.rules" s_brules f fd) (TB : TxtBook K mg C) : FnOk P w K mg base CX0 1 f fd ["self"] (spBRules K C) := by
  refine F.ok sc_brules (fun vs H Q E h => ?_) (fun cdv A outer s H vs Q E hr h => ?_)
  · obtain ⟨p, rs, rfl, _⟩ := h
    rfl
  · obtain ⟨p, rs, rfl, ⟨dx, l, hp, h6, e⟩, q⟩ := h
    refine ⟨_, (pss_one (ps_ret (pe_fld (pv 0) rfl))), ?_⟩
    exact ⟨_, rfl, p, C, dx, _, .ref l, rfl, hp, TB.cl, TB.nR, rfl, q _ h6⟩
theorem doors_nd {i j : Nat} {z : Str} (a : doors[i]? = some z) (b : doors[j]? = some z) : i = j := nd_ix (by decide +kernel : doors.Nodup) a b
theorem sc_brule : FnScope ["self", "door"] ["self", "door"] (defScope s_brule) := ⟨rfl, rfl, rfl, by decide +kernel, rfl, by decide +kernel, by decide +kernel⟩
theorem ok_brule {f C CD fE fS : Addr} {fd fdE fdS : FuncData} (F : Fun K "rule" "Book.rule" s_brule f fd) (B : TxtB mg) (T : TxtK K mg aA aD) (TB : TxtBook K mg C) (gS : mg "is_door" = some (.ref fS)) (FS : Fun K "is_door" "is_door" s_isdoor fS fdS) (bS : Binds K fdS ["value"] [])
    (TE : ErrTxt K mg "NoDoor" "door" CD fE) (FE : Fun K "__init__" "NoDoor.__init__" s_eDoor fE fdE) (bE : Binds K fdE ["self", "door"] []) : FnOk P w K mg base (L2.CX P w) 3 f fd ["self", "door"] (spBRule K C CD) := by
  have GS : FnOk P w K mg base CX0 1 fS fdS ["value"] (spAmong K doors) := ok_isdoor FS B T
  have GE : FnOk P w K mg base CX0 1 fE fdE ["self", "door"] (spErr CD "door") := ok_eDoor FE TE
  refine F.okX sc_brule (fun vs H Q E h => ?_) (fun cdv A outer s H vs Q E hr h => ?_)
  · obtain ⟨p, v, b, rs, rfl, _⟩ := h
    rfl
  · obtain ⟨p, v, b, rs, rfl, ⟨dx, l, hp, ⟨l', ws, el, hl, pr⟩, e6⟩, hv, q, ke⟩ := h
    have el' : l = l' := V.ref.inj el
    subst el'
    have hr1 : Room 1 _ := hr.mono (by decide)
    refine ⟨_, (pss_cons (ps_if (pt_not (pt_val (pe_call GS hr1 (by rfl) gS FS.kp bS .nil pass0 (pa_cons (pv 1) pa_nil)))) (pss_one (ps_raise rfl (takes_of rfl rfl rfl rfl) (pmk_oex TE.oex TE.iC TE.tI GE hr bE .nil pass0 (by rfl) TE.g (by exact (pa_cons (pv 1) pa_nil))))) pss_nil)
  (pss_one (ps_ret (pe_ix ix_tup (pe_fld (pv 0) rfl) (pe_bm PySem.F.plainAttrs_tuple PySem.F.slot_tuple_index PySem.F.type_tuple_index mt_tup_index (pe_glob (v := .ref aD) (by rfl) T.g_DOORS rfl) (pa_cons (pv 1) pa_nil)) (fun _ _ => rfl))))), ?_⟩
    refine ⟨_, rfl, v, b, rfl, hv, ⟨_, rfl, ?_⟩⟩
    cases hv with
    | other ty no => exact ⟨_, rfl, err_made fun d H5 hd s5 hn => ke rfl d H5 hd s5 hn⟩
    | str z =>
      by_cases hz : z ∈ doors
      · rw [decide_eq_true hz]
        obtain ⟨i, hi, ez⟩ := List.getElem_of_mem hz
        have hi' : doors[i]? = some z := by rw [List.getElem?_eq_getElem hi, ez]
        have hi6 : i < rs.length := by
          have : i < 6 := hi
          omega
        obtain ⟨u, hu, ru⟩ := pair_get pr (List.getElem?_eq_getElem hi6)
        refine ⟨_, rfl, p, C, dx, _, .ref l, rfl, hp, TB.cl, TB.nR, rfl, ?_⟩
        refine ⟨T.tD H, _, rfl, aD, doors, z, i, rfl, rfl, T.sD _, hi', fun m hm hm2 => ?_, ?_⟩
        · have := doors_nd hi' hm2
          omega
        · refine ⟨l, ws, (i : Int), u, rfl, rfl, hl, at_of rfl hu, ?_⟩
          exact q i z u _ rfl hi' (List.getElem?_eq_getElem hi6) ru
      · rw [decide_eq_false hz]
        exact ⟨_, rfl, err_made fun d H5 hd s5 hn => ke (decide_eq_false hz) d H5 hd s5 hn⟩
end
end Sh

namespace Sh
open PySem L2
section
variable {P : Program} {w : World} {K : PySem.W.Frag} {mg : Str → Option Value} {base : Heap} {aA aD : Addr}
theorem sqT_tyX {H : Hp} {a : Addr} {xs : List V} (h : SqT K H a xs) : TyX K H (.ref a) (.type "tuple") := by
  rcases h with (h | ⟨o, h⟩) | ⟨o, its, n, h1, h2, _⟩
  · exact .base (.tup h)
  · exact .fTuple h
  · exact .kTuple h1 h2
theorem RuleAt.tyX {H : Hp} {v : V} {r : List Str} (h : RuleAt K H v r) : TyX K H v (.type "tuple") := by
  obtain ⟨a, rfl, h⟩ := h
  exact sqT_tyX h
theorem SixAt.tyX {H : Hp} {v : V} {r : List (List Str)} (h : SixAt K H v r) : TyX K H v (.type "tuple") := by
  obtain ⟨a, vs, rfl, h, _⟩ := h
  exact sqT_tyX h
theorem among_strs {H : Hp} (l : List Str) : ∀ r : List Str, Paired (Among K H l) (r.map V.str) (r.map fun z => decide (z ∈ l))
  | [] => .nil
  | x :: r => .cons (.str x) (among_strs l r)
theorem ruleCl_of {H : Hp} {v : V} {r : List Str} (h : RuleAt K H v r) (hr : IsRule r) : RuleCl K H v true := by
  obtain ⟨a, rfl, h⟩ := h
  have e : (decide ((r.map V.str).length ≤ 6) && (r.map fun z => decide (z ∈ acts)).all id) = true := by
    rw [List.length_map, decide_eq_true hr.1, Bool.true_and, List.all_eq_true]
    intro b hb
    obtain ⟨z, hz, rfl⟩ := List.mem_map.mp hb
    exact decide_eq_true (hr.2 z hz)
  rw [← e]
  exact .tup h (sqT_tyX h) fun _ => among_strs acts r
theorem ruleCls_of {H : Hp} : ∀ {ws : List V} {rs : List (List Str)}, Paired (RuleAt K H) ws rs → (∀ r ∈ rs, IsRule r) → Paired (RuleCl K H) ws (rs.map fun _ => true)
  | _, _, .nil, _ => .nil
  | _, _, .cons a b, h => .cons (ruleCl_of a (h _ (List.mem_cons_self ..))) (ruleCls_of b fun r hr => h r (List.mem_cons_of_mem _ hr))
/-- a new book -/
theorem book_new {C CR x dx : Addr} {H : Hp} {ws : List V} {rs : List (List Str)} {Q : VK} {E : XK} (hx : H x = none) (hdx : H dx = none) (pr : Paired (RuleAt K H) ws rs) (hr : ∀ r ∈ rs, IsRule r) (h6 : rs.length = 6)
    (k : ∀ H', BookAt K C H' x rs → Same H H' → Q .non H') : spBInit K C CR (.ref x :: ws) (upd (upd H dx (.own x)) x (.ins C dx [])) Q E := by
  have s1 : Same H (upd (upd H dx (.own x)) x (.ins C dx [])) := fun b o e => by
    rw [upd_ne (ne_of_none e hx), upd_ne (ne_of_none e hdx)]
    exact e
  refine ⟨x, dx, ws, rs.map fun _ => true, rfl, by rw [pr.length, h6], upd_same, pair_map (fun _ _ q => ruleCl_same s1 q) (ruleCls_of pr hr), fun _ H' l h1 h2 h3 h4 => ?_, fun i hi => ?_⟩
  · have s2 : Same H H' := fun b o e => h4 b o (s1 b o e) (ne_of_none e hx)
    exact k H' ⟨dx, l, h1, ⟨l, ws, rfl, SqT.of h2, s2.kt.rules pr⟩, h6⟩ s2
  · rw [List.getElem?_map] at hi
    cases e : rs[i]? with
    | none =>
      rw [e] at hi
      cases hi
    | some r =>
      rw [e] at hi
      cases hi
theorem same_kp {j : Addr} {H H1 H2 : Hp} (s : Same H H1) (hj : H j = none) (k : Kp j H1 H2) : Same H H2 := fun b o e => k b o (ne_of_none e hj) (s b o e)
theorem same_upd {j : Addr} {H H1 : Hp} {o : HO} (s : Same H H1) (hj : H j = none) : Same H (upd H1 j o) := fun b u e => by
  rw [upd_ne (ne_of_none e hj)]
  exact s b u e
theorem six_six {H : Hp} {v : V} {rs : List (List Str)} (h : SixAt K H v rs) (h6 : rs.length = 6) : ∃ a u0 u1 u2 u3 u4 u5 r0 r1 r2 r3 r4 r5, v = .ref a ∧ rs = [r0, r1, r2, r3, r4, r5] ∧ SqT K H a [u0, u1, u2, u3, u4, u5] ∧
    Paired (RuleAt K H) [u0, u1, u2, u3, u4, u5] [r0, r1, r2, r3, r4, r5] := by
  obtain ⟨a, vs, rfl, hs, pr⟩ := h
  have hv := pr.length
  match rs, vs, h6, hv with
  | [r0, r1, r2, r3, r4, r5], [u0, u1, u2, u3, u4, u5], _, _ => exact ⟨a, u0, u1, u2, u3, u4, u5, r0, r1, r2, r3, r4, r5, rfl, rfl, hs, pr⟩
theorem nil_new {H : Hp} {e : Addr} : RuleAt K (upd H e (.tup [])) (.ref e) [] := ⟨e, rfl, SqT.of upd_same⟩
/-- how Book is made -/
structure MkB (P : Program) (w : World) (K : PySem.W.Frag) (mg : Str → Option Value) (base : Heap) (C CR fI : Addr) (fd : FuncData) (d0 d1 d2 d3 d4 d5 : V) : Prop where
  mkb : Mk K C fI
  ok : FnOk P w K mg base (L2.CX P w) 4 fI fd ["self", "put", "look", "alter", "back", "pay", "again"] (spBInit K C CR)
  dv : ∀ H, Paired (RuleAt K H) [d0, d1, d2, d3, d4, d5] [[], [], [], [], [], []]
theorem isRule_nil : IsRule [] := ⟨Nat.zero_le _, fun x hx => by cases hx⟩
abbrev pI : List Str := ["self", "put", "look", "alter", "back", "pay", "again"]
theorem rng_le (c n : Nat) (hc : 1 ≤ c) : 0 ≤ (if (if (n : Int) < (c : Int) then (n : Int) else c) > 1 then (if (n : Int) < (c : Int) then (n : Int) else c) else 1) ∧ (if (if (n : Int) < (c : Int) then (n : Int) else c) > 1 then (if (n : Int) < (c : Int) then (n : Int) else c) else 1) ≤ (c : Int) := by
  split <;> split <;> omega
def spLaw (K : PySem.W.Frag) : Sp := fun vs H Q _ => ∃ (a : Addr) (ns : List Int), vs = [.ref a] ∧ SqL K H a (ns.map V.int) ∧ ns.length ≤ 63 ∧ ∀ H', Q (.bl true) H'
section
variable {f : Addr} {fd : FuncData} {d0 d1 d2 d3 d4 d5 : V}
theorem empty_at {K : PySem.W.Frag} {H : Hp} {e : Addr} {o : Option Addr} {n : Nat} {sl : Array (Option Value)} (l : K.lookup e = some ⟨.type "tuple", o, .seq #[] n, sl⟩) : RuleAt K H (.ref e) [] := ⟨e, rfl, .inr ⟨_, _, _, l, rfl, rfl, Nat.zero_le _, .nil⟩⟩
theorem init_b6 (F : FunD K "__init__" "Book.__init__" (defArgs s_init) (defBody s_init) (defScope s_init) [d0, d1, d2, d3, d4, d5] [] f fd) : ∃ ds, Vals [] ds ∧ Binds K fd pI ds :=
  F.binds1 7 6 (fun z => by cases z) rfl fun _ _ _ _ _ _ _ us its h1 h2 => match us, its, h1, h2 with | [_, _, _, _, _, _, _], [_, _, _, _, _, _], _, _ => ⟨_, rfl, rfl⟩
end
end
end Sh

/-! == and != of an own instance with values of other kinds, from both sides -/
namespace PySem.SeqAt
open AutoSeq1 (wpAny_loadPart')
open MeetsSeq MeetsSeq2 MeetsSeq3 SeqRoads2
theorem tuple_eq_dec (l x : Addr) :
    Meets (Builtin.«tuple.__eq__» ⟨[.ref l, .ref x], []⟩) (fun _ R s => (∀ M : Model, PySem.W.Looks M s.heap (isInstance (.ref x) (.type "tuple")) false) ∧ R (.ok (.ret .notImplemented)) s) :=
  .of_wp fun prog w A R s h => by
    obtain ⟨hp, g, d, tk, os⟩ := s
    obtain ⟨L, h⟩ := h
    unfold Builtin.«tuple.__eq__»
    refine wpAny_bind (wpAny_of_eq (a := ((Value.ref l : Value), [Value.ref x])) (by first | rfl | (simp only [slotArgs]; rfl)) ?_)
    refine wpAny_bind ((L _).here ?_)
    exact wpAny_pure ⟨_, rfl, h⟩
theorem tuple_ne_dec (l x : Addr) :
    Meets (Builtin.«tuple.__ne__» ⟨[.ref l, .ref x], []⟩) (fun _ R s => (∀ M : Model, PySem.W.Looks M s.heap (isInstance (.ref x) (.type "tuple")) false) ∧ R (.ok (.ret .notImplemented)) s) :=
  .of_wp fun prog w A R s h => by
    obtain ⟨hp, g, d, tk, os⟩ := s
    obtain ⟨L, h⟩ := h
    unfold Builtin.«tuple.__ne__»
    refine wpAny_bind (wpAny_of_eq (a := ((Value.ref l : Value), [Value.ref x])) (by first | rfl | (simp only [slotArgs]; rfl)) ?_)
    refine wpAny_bind ((L _).here ?_)
    exact wpAny_pure ⟨_, rfl, h⟩
theorem list_eq_dec (l x : Addr) :
    Meets (Builtin.«list.__eq__» ⟨[.ref l, .ref x], []⟩) (fun _ R s => (∀ M : Model, PySem.W.Looks M s.heap (isInstance (.ref x) (.type "list")) false) ∧ R (.ok (.ret .notImplemented)) s) :=
  .of_wp fun prog w A R s h => by
    obtain ⟨hp, g, d, tk, os⟩ := s
    obtain ⟨L, h⟩ := h
    unfold Builtin.«list.__eq__»
    refine wpAny_bind (wpAny_of_eq (a := ((Value.ref l : Value), [Value.ref x])) (by first | rfl | (simp only [slotArgs]; rfl)) ?_)
    refine wpAny_bind ((L _).here ?_)
    exact wpAny_pure ⟨_, rfl, h⟩
theorem list_ne_dec (l x : Addr) :
    Meets (Builtin.«list.__ne__» ⟨[.ref l, .ref x], []⟩) (fun _ R s => (∀ M : Model, PySem.W.Looks M s.heap (isInstance (.ref x) (.type "list")) false) ∧ R (.ok (.ret .notImplemented)) s) :=
  .of_wp fun prog w A R s h => by
    obtain ⟨hp, g, d, tk, os⟩ := s
    obtain ⟨L, h⟩ := h
    unfold Builtin.«list.__ne__»
    refine wpAny_bind (wpAny_of_eq (a := ((Value.ref l : Value), [Value.ref x])) (by first | rfl | (simp only [slotArgs]; rfl)) ?_)
    refine wpAny_bind ((L _).here ?_)
    exact wpAny_pure ⟨_, rfl, h⟩
theorem str_eq_dec (b : Str) (u : Tok) (x : Addr) (C dx : Addr) :
    Meets (Builtin.«str.__eq__» ⟨[.str b u, .ref x], []⟩) (fun _ R s => s.heap.get? x = some (PySem.W.instObj C dx) ∧ R (.ok (.ret .notImplemented)) s) :=
  .of_wp fun prog w A R s h => by obtain ⟨hp, g, d, tk, os⟩ := s; obtain ⟨hl, h⟩ := h; unfold PySem.W.instObj at hl; wp_walk using wpAny_loadPart' hl, wpAny_load hl; exact ⟨_, rfl, h⟩
theorem str_ne_dec (b : Str) (u : Tok) (x : Addr) (C dx : Addr) :
    Meets (Builtin.«str.__ne__» ⟨[.str b u, .ref x], []⟩) (fun _ R s => s.heap.get? x = some (PySem.W.instObj C dx) ∧ R (.ok (.ret .notImplemented)) s) :=
  .of_wp fun prog w A R s h => by obtain ⟨hp, g, d, tk, os⟩ := s; obtain ⟨hl, h⟩ := h; unfold PySem.W.instObj at hl; wp_walk using wpAny_loadPart' hl, wpAny_load hl; exact ⟨_, rfl, h⟩
theorem int_eq_dec (b : Int) (u : Tok) (x : Addr) (C dx : Addr) :
    Meets (Builtin.«int.__eq__» ⟨[.int b u, .ref x], []⟩) (fun _ R s => s.heap.get? x = some (PySem.W.instObj C dx) ∧ R (.ok (.ret .notImplemented)) s) :=
  .of_wp fun prog w A R s h => by obtain ⟨hp, g, d, tk, os⟩ := s; obtain ⟨hl, h⟩ := h; unfold PySem.W.instObj at hl; wp_walk using wpAny_loadPart' hl, wpAny_load hl; exact ⟨_, rfl, h⟩
theorem int_ne_dec (b : Int) (u : Tok) (x : Addr) (C dx : Addr) :
    Meets (Builtin.«int.__ne__» ⟨[.int b u, .ref x], []⟩) (fun _ R s => s.heap.get? x = some (PySem.W.instObj C dx) ∧ R (.ok (.ret .notImplemented)) s) :=
  .of_wp fun prog w A R s h => by obtain ⟨hp, g, d, tk, os⟩ := s; obtain ⟨hl, h⟩ := h; unfold PySem.W.instObj at hl; wp_walk using wpAny_loadPart' hl, wpAny_load hl; exact ⟨_, rfl, h⟩
theorem bool_eq_dec (b : Bool) (x : Addr) (C dx : Addr) :
    Meets (Builtin.«int.__eq__» ⟨[.bool b, .ref x], []⟩) (fun _ R s => s.heap.get? x = some (PySem.W.instObj C dx) ∧ R (.ok (.ret .notImplemented)) s) :=
  .of_wp fun prog w A R s h => by obtain ⟨hp, g, d, tk, os⟩ := s; obtain ⟨hl, h⟩ := h; unfold PySem.W.instObj at hl; wp_walk using wpAny_loadPart' hl, wpAny_load hl; exact ⟨_, rfl, h⟩
theorem bool_ne_dec (b : Bool) (x : Addr) (C dx : Addr) :
    Meets (Builtin.«int.__ne__» ⟨[.bool b, .ref x], []⟩) (fun _ R s => s.heap.get? x = some (PySem.W.instObj C dx) ∧ R (.ok (.ret .notImplemented)) s) :=
  .of_wp fun prog w A R s h => by obtain ⟨hp, g, d, tk, os⟩ := s; obtain ⟨hl, h⟩ := h; unfold PySem.W.instObj at hl; wp_walk using wpAny_loadPart' hl, wpAny_load hl; exact ⟨_, rfl, h⟩
section
variable {prog : Program} {w : World} {A : Around} {E : Value → Shared → Prop} {s : Shared} {K : PySem.W.Frag} {x C f : Addr} {ox : Obj} {od : Option Obj}
open PySem.W in
theorem ifBound_ne {M : Model} {args : List Value} {Q : Option Value → Shared → Prop} (X : K.In s.heap) (I : InstAt s.heap x ox C od) (hs : findIn K (.ref C) "__ne__" = some (some (.builtin "object.__ne__")))
    (h : wpAny M A (call (.builtin "object.__ne__") (.ref x :: args)) (fun v => Q (some v)) E s) : wpAny M A (callSpecialIfBound? (.ref x) "__ne__" args) Q E s := by
  simp only [callSpecialIfBound?, bindSpecialIfBound?]
  refine wpAny_holding (wpAny_bind (wpAny_bind (wpAny_bind (I.type.here ((looks_findIn X hs).here ?_)))))
  refine wpAny_bind (wpAny_askSetting (wpAny_ite ?_))
  have last : wpAny M A (call (.builtin "object.__ne__") ([.ref x] ++ args) >>= fun v => pure (some v)) Q E s := wpAny_bind (wpAny_mono h (fun v s1 h1 => wpAny_pure h1) fun _ _ h1 => h1)
  split
  · exact wpAny_bind (wpAny_of_eq (F.cmp_object.ne.bind _) (wpAny_pure (by exact last)))
  · exact wpAny_tryCatch (wpAny_bind (wpAny_of_eq (F.cmp_object.ne.bind _) (wpAny_pure (by exact last))))
open PySem.W in
/-- object.__ne__ of an instance with its own __eq__ -/
theorem call_objNe {b : Value} {Q : Value → Shared → Prop} (hu : A.units + 64 < cLine) (X : K.In s.heap) (I : InstAt s.heap x ox C od) (hm : mroIn K C (.type "object") = some true) (hs : findIn K (.ref C) "__eq__" = some (some (.ref f))) (hf : isFn K (.ref f) = true)
    (h : wpAny (model prog w) A.in1 (call (.ref f) [.ref x, b]) (fun v s1 => ∃ k, v = .bool k ∧ Q (.bool (!k)) s1) E s) : wpAny (model prog w) A (call (.builtin "object.__ne__") [.ref x, b]) Q E s := by
  refine wpAny_call (codeAny_call_builtin F.cmp_object.ne.plain F.cmpEntry_ne (check_slot F.cmpKind_ne F.cmpSplit_ne (I.type.andThen (looks_mroIn X hm)) (F.cmpArgs_ne _ _) ?_))
  unfold Builtin.«object.__ne__»
  refine wpAny_bind (wpAny_of_eq (a := ((Value.ref x : Value), [b])) (by first | rfl | (simp only [slotArgs]; rfl)) ?_)
  refine wpAny_bind (wpAny_cRoomFor (by show A.units + 1 < cLine; omega) ?_)
  refine wpAny_bind (ifBound_K X I hs hf (wpAny_mono h (fun v s1 hv => ?_) fun _ _ e => e))
  obtain ⟨k, rfl, q⟩ := hv
  refine wpAny_bind (wpAny_truthy_bool ?_)
  exact wpAny_pure q
open PySem.W in
/-- the left one answers -/
theorem cmp_left {op : CmpOp} {b tb : Value} {Q : Value → Shared → Prop} (hu : A.units < cLine) (X : K.In s.heap) (I : InstAt s.heap x ox C od) (hb : Looks (model prog w) s.heap (typeOf b) tb) (hn : tb = .ref C ∨ subIn K tb (.ref C) = some false)
    (one : wpAny (model prog w) A (tryCompare (.ref x) (cmpInfo op).2.1 b) (fun r s' => ∃ v, r = some v ∧ Q v s') E s) : wpAny (model prog w) A (richCompare op (.ref x) b) Q E s := by
  unfold richCompare
  simp only [oneThing_ref]
  refine wpAny_holding (wpAny_bind (wpAny_cRoomFor hu (wpAny_bind (I.type.here (wpAny_bind (hb.here ?_))))))
  split
  · rename_i ne
    rcases hn with rfl | sf
    · simp at ne
    refine wpAny_bind ((looks_subIn X sf).here ?_)
    simp only [Bool.false_eq_true, if_false]
    refine wpAny_bind (wpAny_mono one (fun r s1 z => ?_) fun _ _ e => e)
    obtain ⟨v, rfl, q⟩ := z
    exact wpAny_pure q
  · refine wpAny_bind (wpAny_pure ?_)
    simp only [Bool.false_eq_true, if_false]
    refine wpAny_bind (wpAny_mono one (fun r s1 z => ?_) fun _ _ e => e)
    obtain ⟨v, rfl, q⟩ := z
    exact wpAny_pure q
open PySem.W in
/-- the left one, of a built-in type, declines, the right one answers -/
theorem cmp_right {op : CmpOp} {a : Value} {T : String} {Q : Value → Shared → Prop} (hu : A.units < cLine) (X : K.In s.heap) (I : InstAt s.heap x ox C od) (ha : s.TypeIs a T) (hsub : subIn K (.ref C) (.type T) = some false)
    (one : wpAny (model prog w) A (tryCompare a (cmpInfo op).2.1 (.ref x)) (fun r s' => r = none ∧ s' = s) E s)
    (two : wpAny (model prog w) A (tryCompare (.ref x) (cmpInfo op).2.2 a) (fun r s' => ∃ v, r = some v ∧ Q v s') E s) : wpAny (model prog w) A (richCompare op a (.ref x)) Q E s := by
  unfold richCompare
  simp only [ha.oneThing_none]
  refine wpAny_holding (wpAny_bind (wpAny_cRoomFor hu (wpAny_bind (wpAny_typeOf ha (wpAny_bind (I.type.here ?_))))))
  split
  · refine wpAny_bind ((looks_subIn X hsub).here ?_)
    simp only [Bool.false_eq_true, if_false, Bool.not_false, if_true]
    refine wpAny_bind (m := tryCompare a _ (.ref x)) (wpAny_mono one (fun r s1 z => ?_) fun _ _ e => e)
    obtain ⟨z1, z2⟩ := z
    subst z1
    subst z2
    refine wpAny_bind (m := tryCompare (.ref x) _ a) (wpAny_mono two (fun r s2 z => ?_) fun _ _ e => e)
    obtain ⟨v, rfl, q⟩ := z
    exact wpAny_pure q
  · rename_i q
    exact absurd (by simp) q
open PySem.W in
theorem try_eq {b : Value} {Q : Value → Shared → Prop} (X : K.In s.heap) (I : InstAt s.heap x ox C od) (hs : findIn K (.ref C) "__eq__" = some (some (.ref f))) (hf : isFn K (.ref f) = true)
    (h : wpAny (model prog w) A (call (.ref f) [.ref x, b]) (fun v s1 => ∃ k, v = .bool k ∧ Q (.bool k) s1) E s) : wpAny (model prog w) A (tryCompare (.ref x) "__eq__" b) (fun r s' => ∃ v, r = some v ∧ Q v s') E s := by
  unfold tryCompare
  refine wpAny_bind (ifBound_K X I hs hf (wpAny_mono h (fun v s1 hv => ?_) fun _ _ e => e))
  obtain ⟨k, rfl, q⟩ := hv
  exact wpAny_pure ⟨_, rfl, q⟩
open PySem.W in
theorem try_ne {b : Value} {Q : Value → Shared → Prop} (hu : A.units + 64 < cLine) (X : K.In s.heap) (I : InstAt s.heap x ox C od) (hm : mroIn K C (.type "object") = some true) (hn : findIn K (.ref C) "__ne__" = some (some (.builtin "object.__ne__"))) (hs : findIn K (.ref C) "__eq__" = some (some (.ref f))) (hf : isFn K (.ref f) = true)
    (h : wpAny (model prog w) A.in1 (call (.ref f) [.ref x, b]) (fun v s1 => ∃ k, v = .bool k ∧ Q (.bool (!k)) s1) E s) : wpAny (model prog w) A (tryCompare (.ref x) "__ne__" b) (fun r s' => ∃ v, r = some v ∧ Q v s') E s := by
  unfold tryCompare
  refine wpAny_bind (ifBound_ne X I hn (call_objNe hu X I hm hs hf (wpAny_mono h (fun v s1 hv => ?_) fun _ _ e => e)))
  obtain ⟨k, rfl, q⟩ := hv
  exact ⟨k, rfl, wpAny_pure ⟨_, rfl, q⟩⟩
end
end PySem.SeqAt
namespace Sh
open PySem L2
/-- a value of another kind -/
inductive Oth (K : PySem.W.Frag) (H : Hp) : V → String → Prop
  | non : Oth K H .non "NoneType"
  | bl (b : Bool) : Oth K H (.bl b) "bool"
  | int (i : Int) : Oth K H (.int i) "int"
  | str (z : Str) : Oth K H (.str z) "str"
  | lst {a : Addr} {xs : List V} (h : H a = some (.lst xs)) : Oth K H (.ref a) "list"
  | tup {a : Addr} {xs : List V} (h : SqT K H a xs) : Oth K H (.ref a) "tuple"
theorem sub_blt {K : PySem.W.Frag} {H : Hp} {y : V} {T : String} {C : Addr} (h : Oth K H y T) : PySem.W.subIn K (.type T) (.ref C) = some false := by
  have go : ∀ (T : String) (l : List Value), fastBuiltinMro T = some l → l.contains (.ref C) = false → PySem.W.subIn K (.type T) (.ref C) = some false := fun T l e n => by
    show (fastBuiltinMro T).map (·.contains (.ref C)) = some false
    rw [e]
    exact congrArg some n
  cases h with
  | non => exact go _ [.type "NoneType", .type "object"] (by decide +kernel) (by first | rfl | simp)
  | bl b => exact go _ [.type "bool", .type "int", .type "object"] (by decide +kernel) (by first | rfl | simp)
  | int i => exact go _ [.type "int", .type "object"] (by decide +kernel) (by first | rfl | simp)
  | str z => exact go _ [.type "str", .type "object"] (by decide +kernel) (by first | rfl | simp)
  | lst h => exact go _ [.type "list", .type "object"] (by decide +kernel) (by first | rfl | simp)
  | tup h => exact go _ [.type "tuple", .type "object"] (by decide +kernel) (by first | rfl | simp)
theorem oth_ty {X : Cx} {pins : List (Addr × Obj)} {s : Shared} {σ : L2.St} {H : Hp} {y : V} {u : Value} {T : String} (I : Inv X pins σ H s) (r : RelV y u) (h : Oth X.K H y T) : s.TypeIs u T := by
  cases h with
  | non => cases r; exact rfl
  | bl b => cases r; exact rfl
  | int i => obtain ⟨t, rfl⟩ := (show ∃ t, u = Value.int i t from r); exact typeIs_int s i t
  | str z => obtain ⟨t, rfl⟩ := (show ∃ t, u = Value.str z t from r); exact typeIs_str s z t
  | lst h =>
    cases r
    obtain ⟨its, _, ⟨o, n, e, ec, _⟩, _⟩ := I.list (SqL.of h)
    exact ⟨o, e, ec⟩
  | tup h =>
    cases r
    obtain ⟨its, _, ⟨o, e, ec, _⟩, _⟩ := I.tuple h
    exact ⟨o, e, ec⟩
theorem ty_looks {M : Model} {s : Shared} {u : Value} {T : String} (h : s.TypeIs u T) : PySem.W.Looks M s.heap (typeOf u) (.type T) := by
  intro A Q E s1 k q
  cases u with
  | ref a =>
    obtain ⟨o, e, ec⟩ := h
    exact wpAny_typeOf ⟨o, k _ _ e, ec⟩ q
  | _ => exact wpAny_typeOf (s := s1) h q
end Sh

namespace Sh
open PySem L2
section
variable {P : Program} {w : World} {K : PySem.W.Frag} {mg : Str → Option Value} {base : Heap} {aA aD : Addr}
/-! ### books and other values -/
structure InsTxt (K : PySem.W.Frag) (C : Addr) : Prop where
  ha : PySem.W.findIn K (.ref C) "__class__" = some (some (.builtin "object.__class__"))
  hn : PySem.W.specialIn K (.builtin "object.__class__") "__get__" = some (some (.builtin "getset_descriptor.__get__"))
  ht : PySem.W.takesIn K (.builtin "object.__class__") = some true
  hm : PySem.W.mroIn K C (.type "object") = some true
  self : PySem.W.kitOne K (.ref C) (.ref C) = some true
structure NeTxt (K : PySem.W.Frag) (C f : Addr) : Prop where
  hs : PySem.W.findIn K (.ref C) "__eq__" = some (some (.ref f))
  hf : PySem.W.isFn K (.ref f) = true
  hne : PySem.W.findIn K (.ref C) "__ne__" = some (some (.builtin "object.__ne__"))
  hm : PySem.W.mroIn K C (.type "object") = some true
  hd : PySem.W.hasDictIn K C = true
  ht : PySem.W.typeIn K (.ref C) = some (.type "type")
  s1 : PySem.W.subIn K (.ref C) (.type "NoneType") = some false
  s2 : PySem.W.subIn K (.ref C) (.type "bool") = some false
  s3 : PySem.W.subIn K (.ref C) (.type "int") = some false
  s4 : PySem.W.subIn K (.ref C) (.type "str") = some false
  s5 : PySem.W.subIn K (.ref C) (.type "list") = some false
  s6 : PySem.W.subIn K (.ref C) (.type "tuple") = some false
theorem NeTxt.sub {C f : Addr} {H : Hp} {y : V} {T : String} (N : NeTxt K C f) (h : Oth K H y T) : PySem.W.subIn K (.ref C) (.type T) = some false := by
  cases h with
  | non => exact N.s1
  | bl b => exact N.s2
  | int i => exact N.s3
  | str z => exact N.s4
  | lst h => exact N.s5
  | tup h => exact N.s6
theorem NeTxt.kit {C f : Addr} {H : Hp} {y : V} {T : String} (N : NeTxt K C f) (h : Oth K H y T) : PySem.W.kitOne K (.type T) (.ref C) = some false := by
  obtain ⟨cd, hc, _⟩ := PySem.W.any_some N.hd
  have e2 : ((PySem.W.clsIn K C).isSome && PySem.W.typeIn K (.ref C) == some (.type "type")) = true := by rw [hc, N.ht] <;> rfl
  have e0 : ¬ ((Value.type T) == (Value.ref C)) = true := fun e => by cases eq_of_beq e
  show (if ((Value.type T) == (Value.ref C)) = true then some true else (if ((PySem.W.clsIn K C).isSome && PySem.W.typeIn K (.ref C) == some (.type "type")) = true then PySem.W.subIn K (.type T) (.ref C) else none)) = some false
  rw [if_neg e0, if_pos e2]
  exact sub_blt h
theorem oth_tyX {H : Hp} {y : V} {T : String} (h : Oth K H y T) : TyX K H y (.type T) := by
  cases h with
  | non => exact .base .non
  | bl b => exact .base (.bl b)
  | int i => exact .base (.int i)
  | str z => exact .base (.str z)
  | lst h => exact .base (.lst h)
  | tup h => exact sqT_tyX h
/-- a book, and what it is compared with: equal or not -/
inductive EqCl (K : PySem.W.Frag) (C : Addr) (H : Hp) (a : Addr) : V → Bool → Prop
  | book {b : Addr} {r1 r2 : List (List Str)} (h1 : BookAt K C H a r1) (h2 : BookAt K C H b r2) : EqCl K C H a (.ref b) (decide (r1 = r2))
  | oth {r1 : List (List Str)} {y : V} {T : String} (h1 : BookAt K C H a r1) (h : Oth K H y T) : EqCl K C H a y false
def spEqA (K : PySem.W.Frag) (C : Addr) : Sp := fun vs H Q _ => ∃ (a : Addr) (y : V) (k : Bool), vs = [.ref a, y] ∧ EqCl K C H a y k ∧ Q (.bl k) H
abbrev s_eq : Stmt := inClass (top 13) 1
theorem sc_eq : FnScope ["self", "other"] ["self", "other"] (defScope s_eq) := ⟨rfl, rfl, rfl, by decide +kernel, rfl, by decide +kernel, by decide +kernel⟩
theorem ok_eqA {f f' C : Addr} {fd : FuncData} (F : Fun K "__eq__" "Book.__eq__" s_eq f fd) (B : TxtB mg) (TB : TxtBook K mg C) (TI : InsTxt K C) (N : NeTxt K C f') : FnOk P w K mg base CX0 1 f fd ["self", "other"] (spEqA K C) := by
  refine F.ok sc_eq (fun vs H Q E h => ?_) (fun cdv A outer s H vs Q E hr h => ?_)
  · obtain ⟨a, y, k, rfl, _⟩ := h
    rfl
  · obtain ⟨a, y, k, rfl, hc, q⟩ := h
    refine ⟨_, (pss_one (ps_ret (pe_and (pe_callB call_isi (by rfl) B.b_isinstance (by decide +kernel) (pa_cons (pv 1) (pa_cons (pe_glob (v := .ref C) (by rfl) TB.g rfl) pa_nil))) (pe_one (pe_cmpR (op_eqP hr.units) (pe_fld (pv 0) rfl) (pe_fld (pv 1) rfl) (nomark _)))))), ?_⟩
    cases hc with
    | @book b r1 r2 h1 h2 =>
      obtain ⟨dx, l, ha, h6a, _⟩ := h1
      obtain ⟨dy, m, hb, h6b, _⟩ := h2
      refine ⟨_, rfl, _, _, _, _, true, rfl, .own C, .base (.ins hb TB.cl TI.ha TI.hn TI.ht TI.hm), TI.self, ?_⟩
      refine ⟨_, rfl, ?_⟩
      refine ⟨_, rfl, a, C, dx, _, .ref l, rfl, ha, TB.cl, TB.nR, rfl, _, rfl, b, C, dy, _, .ref m, rfl, hb, TB.cl, TB.nR, rfl, ?_⟩
      refine ⟨dSix r1, dSix r2, h6a.dp, h6b.dp, plain_six r1, plain_six r2, Nat.le_trans (depth_six r1) (by decide), ?_⟩
      rw [eqv_six]
      exact q
    | @oth r1 _ T h1 h =>
      refine ⟨_, rfl, _, _, _, _, false, rfl, .own C, oth_tyX h, N.kit h, ?_⟩
      exact ⟨_, rfl, q⟩
section
variable {X : Cx} {C f : Addr} {fd : FuncData} {ps : List Str}
theorem run_eqA {A' : Around} {E : XK} {pins : List (Addr × Obj)} {σ : L2.St} {H : Hp} {s : Shared} {a : Addr} {y : V} {v : Value} {k : Bool} (F : FnOk X.prog X.w X.K X.mg X.base CX0 1 f fd ["self", "other"] (spEqA X.K C)) (hr : Room 1 A') (e0 : Env0 X.prog X.w X.K X.mg X.base A' X.stack s H)
    (hb : Binds X.K fd ["self", "other"] []) (hx : Passes CX0 X E) (I : Inv X pins σ H s) (ry : RelV y v) (h : EqCl X.K C H a y k) {Q : Bool → Shared → Prop} (q : ∀ s1, Inv X pins σ H s1 → Q k s1) :
    wpAny (model X.prog X.w) A' (call (.ref f) [.ref a, v]) (fun r s1 => ∃ k1, r = .bool k1 ∧ Q k1 s1) X.xe s := by
  have r0 : Vals [V.ref a, y] [Value.ref a, v] := .cons rfl (.cons ry .nil)
  have bb := hb s [Value.ref a, v] I.kIn rfl
  rw [List.append_nil] at bb
  refine wpAny_call (codeAny_mono (F.run A' X.stack s H ⟨[Value.ref a, v], []⟩ [Value.ref a, v] [.ref a, y] (fun z H' => z = .bl k ∧ H' = H) E hr e0 bb r0 ⟨a, y, k, rfl, h, rfl, rfl⟩) fun res s1 hq => ?_)
  match res, hq with
  | .error er, hq => exact hx pins σ H s er s1 I hq
  | .ok (.ret u), hq =>
    obtain ⟨z, H', I1, rz, rfl, rfl⟩ := I.after hq
    cases rz
    exact ⟨k, rfl, q s1 I1⟩
  | .ok .next, hq => exact False.elim hq
  | .ok .brk, hq => exact False.elim hq
  | .ok .cont, hq => exact False.elim hq
def rOwn (K : PySem.W.Frag) (C : Addr) (neg : Bool) : R2 := fun x y H Q => ∃ (a : Addr) (k : Bool), x = .ref a ∧ EqCl K C H a y k ∧ Q (.bl (if neg then !k else k)) H
def rRev (K : PySem.W.Frag) (C : Addr) (neg : Bool) : R2 := fun x y H Q => ∃ (T : String) (b : Addr) (r : List (List Str)), y = .ref b ∧ Oth K H x T ∧ BookAt K C H b r ∧ Q (.bl neg) H
theorem EqCl.at_ {K : PySem.W.Frag} {H : Hp} {a : Addr} {y : V} {k : Bool} (h : EqCl K C H a y k) : ∃ r, BookAt K C H a r := by
  cases h with
  | book h1 _ => exact ⟨_, h1⟩
  | oth h1 _ => exact ⟨_, h1⟩
theorem book_inst {pins : List (Addr × Obj)} {σ : L2.St} {H : Hp} {s : Shared} {a : Addr} {r : List (List Str)} (I : Inv X pins σ H s) (h : BookAt X.K C H a r) : ∃ dx od, PySem.W.InstAt s.heap a (PySem.W.instObj C dx) C od ∧ s.heap.get? a = some (PySem.W.instObj C dx) := by
  obtain ⟨dx, l, ha, _⟩ := h
  obtain ⟨mA, J, _⟩ := ins_get I.hok ha
  obtain ⟨od, J1, _⟩ := J.look
  exact ⟨dx, od, J1, J1.at_⟩
theorem EqCl.right {pins : List (Addr × Obj)} {σ : L2.St} {H : Hp} {s : Shared} {a : Addr} {y : V} {v : Value} {k : Bool} (I : Inv X pins σ H s) (ry : RelV y v) (h : EqCl X.K C H a y k) :
    ∃ tb, PySem.W.Looks (model X.prog X.w) s.heap (typeOf v) tb ∧ (tb = .ref C ∨ PySem.W.subIn X.K tb (.ref C) = some false) := by
  cases h with
  | book h1 h2 =>
    cases ry
    obtain ⟨dx, od, J, _⟩ := book_inst I h2
    exact ⟨_, J.type, .inl rfl⟩
  | oth h1 h => exact ⟨_, ty_looks (oth_ty I ry h), .inr (sub_blt h)⟩
theorem op_eqO {E : XK} (hr : Room 2 X.A) (F : FnOk X.prog X.w X.K X.mg X.base CX0 1 f fd ["self", "other"] (spEqA X.K C)) (N : NeTxt X.K C f) (hb : Binds X.K fd ["self", "other"] []) (hx : Passes CX0 X E) : OpR X (compareOp .Eq) (rOwn X.K C false) := by
  rintro pins s σ H x y v u Q I rx ry ⟨a, k, rfl, hc, q⟩
  cases rx
  obtain ⟨r, h1⟩ := hc.at_
  obtain ⟨dx, od, J, _⟩ := book_inst I h1
  obtain ⟨tb, L, hn⟩ := hc.right I ry
  refine PySem.SeqAt.cmp_left (op := .Eq) hr.units0 I.kIn J L hn (PySem.SeqAt.try_eq I.kIn J N.hs N.hf (run_eqA F (hr.mono (by decide)) I.env0 hb hx I ry hc fun s1 I1 => ⟨.bl k, H, I1, rfl, q⟩))
theorem op_neO {E : XK} (hr : Room 2 X.A) (F : FnOk X.prog X.w X.K X.mg X.base CX0 1 f fd ["self", "other"] (spEqA X.K C)) (N : NeTxt X.K C f) (hb : Binds X.K fd ["self", "other"] []) (hx : Passes CX0 X E) : OpR X (compareOp .NotEq) (rOwn X.K C true) := by
  rintro pins s σ H x y v u Q I rx ry ⟨a, k, rfl, hc, q⟩
  cases rx
  obtain ⟨r, h1⟩ := hc.at_
  obtain ⟨dx, od, J, _⟩ := book_inst I h1
  obtain ⟨tb, L, hn⟩ := hc.right I ry
  refine PySem.SeqAt.cmp_left (op := .NotEq) hr.units0 I.kIn J L hn (PySem.SeqAt.try_ne hr.units I.kIn J N.hm N.hne N.hs N.hf (run_eqA F hr.in1 I.env0.in1 hb hx I ry hc fun s1 I1 => ⟨.bl (!k), H, I1, rfl, q⟩))
open PySem.SeqAt in
theorem dec_eq {M : Model} {A : Around} {pins : List (Addr × Obj)} {σ : L2.St} {H : Hp} {s : Shared} {x : V} {v : Value} {T : String} {b dx : Addr} {od : Option Obj} {E : Value → Shared → Prop} (hM : M = model X.prog X.w) (I : Inv X pins σ H s) (N : NeTxt X.K C f) (rx : RelV x v) (h : Oth X.K H x T)
    (J : PySem.W.InstAt s.heap b (PySem.W.instObj C dx) C od) (e : s.heap.get? b = some (PySem.W.instObj C dx)) : wpAny M A (tryCompare v "__eq__" (.ref b)) (fun r s' => r = none ∧ s' = s) E s := by
  subst hM
  have ty := oth_ty I rx h
  cases h with
  | non =>
    cases rx
    exact wpAny_tryCompare_declines ty F.slot_NoneType_eq (call_gives F.slot_NoneType_eq rfl F.entry_NoneType_eq (F.args_NoneType_eq_2 _ _) (NoneType___eq___none_ref_0 b) ⟨rfl, rfl, rfl⟩)
  | bl k =>
    cases rx
    exact wpAny_tryCompare_declines ty F.slot_bool_eq (call_meets F.slot_bool_eq rfl F.entry_int_eq (F.args_int_eq_2 _ _) (bool_eq_dec k b C dx) ⟨e, rfl, rfl, rfl⟩)
  | int i =>
    obtain ⟨t, rfl⟩ := (show ∃ t, v = Value.int i t from rx)
    exact wpAny_tryCompare_declines ty F.slot_int_eq (call_meets F.slot_int_eq ty F.entry_int_eq (F.args_int_eq_2 _ _) (int_eq_dec i t b C dx) ⟨e, rfl, rfl, rfl⟩)
  | str z =>
    obtain ⟨t, rfl⟩ := (show ∃ t, v = Value.str z t from rx)
    exact wpAny_tryCompare_declines ty F.slot_str_eq (call_meets F.slot_str_eq ty F.entry_str_eq (F.args_str_eq_2 _ _) (str_eq_dec z t b C dx) ⟨e, rfl, rfl, rfl⟩)
  | @lst l xs hl =>
    cases rx
    exact wpAny_tryCompare_declines ty F.slot_list_eq (call_meets F.slot_list_eq ty F.entry_list_eq (F.args_list_eq_2 _ _) (list_eq_dec l b) ⟨fun M => J.type.andThen (PySem.W.looks_subIn I.kIn N.s5), rfl, rfl, rfl⟩)
  | @tup l xs hl =>
    cases rx
    exact wpAny_tryCompare_declines ty F.slot_tuple_eq (call_meets F.slot_tuple_eq ty F.entry_tuple_eq (F.args_tuple_eq_2 _ _) (tuple_eq_dec l b) ⟨fun M => J.type.andThen (PySem.W.looks_subIn I.kIn N.s6), rfl, rfl, rfl⟩)
open PySem.SeqAt in
theorem dec_ne {M : Model} {A : Around} {pins : List (Addr × Obj)} {σ : L2.St} {H : Hp} {s : Shared} {x : V} {v : Value} {T : String} {b dx : Addr} {od : Option Obj} {E : Value → Shared → Prop} (hM : M = model X.prog X.w) (I : Inv X pins σ H s) (N : NeTxt X.K C f) (rx : RelV x v) (h : Oth X.K H x T)
    (J : PySem.W.InstAt s.heap b (PySem.W.instObj C dx) C od) (e : s.heap.get? b = some (PySem.W.instObj C dx)) : wpAny M A (tryCompare v "__ne__" (.ref b)) (fun r s' => r = none ∧ s' = s) E s := by
  subst hM
  have ty := oth_ty I rx h
  cases h with
  | non =>
    cases rx
    exact wpAny_tryCompare_declines ty F.slot_NoneType_ne (call_gives F.slot_NoneType_ne rfl F.entry_NoneType_ne (F.args_NoneType_ne_2 _ _) (NoneType___ne___none_ref_0 b) ⟨rfl, rfl, rfl⟩)
  | bl k =>
    cases rx
    exact wpAny_tryCompare_declines ty F.slot_bool_ne (call_meets F.slot_bool_ne rfl F.entry_int_ne (F.args_int_ne_2 _ _) (bool_ne_dec k b C dx) ⟨e, rfl, rfl, rfl⟩)
  | int i =>
    obtain ⟨t, rfl⟩ := (show ∃ t, v = Value.int i t from rx)
    exact wpAny_tryCompare_declines ty F.slot_int_ne (call_meets F.slot_int_ne ty F.entry_int_ne (F.args_int_ne_2 _ _) (int_ne_dec i t b C dx) ⟨e, rfl, rfl, rfl⟩)
  | str z =>
    obtain ⟨t, rfl⟩ := (show ∃ t, v = Value.str z t from rx)
    exact wpAny_tryCompare_declines ty F.slot_str_ne (call_meets F.slot_str_ne ty F.entry_str_ne (F.args_str_ne_2 _ _) (str_ne_dec z t b C dx) ⟨e, rfl, rfl, rfl⟩)
  | @lst l xs hl =>
    cases rx
    exact wpAny_tryCompare_declines ty F.slot_list_ne (call_meets F.slot_list_ne ty F.entry_list_ne (F.args_list_ne_2 _ _) (list_ne_dec l b) ⟨fun M => J.type.andThen (PySem.W.looks_subIn I.kIn N.s5), rfl, rfl, rfl⟩)
  | @tup l xs hl =>
    cases rx
    exact wpAny_tryCompare_declines ty F.slot_tuple_ne (call_meets F.slot_tuple_ne ty F.entry_tuple_ne (F.args_tuple_ne_2 _ _) (tuple_ne_dec l b) ⟨fun M => J.type.andThen (PySem.W.looks_subIn I.kIn N.s6), rfl, rfl, rfl⟩)
theorem op_eqV {E : XK} (hr : Room 2 X.A) (F : FnOk X.prog X.w X.K X.mg X.base CX0 1 f fd ["self", "other"] (spEqA X.K C)) (N : NeTxt X.K C f) (hb : Binds X.K fd ["self", "other"] []) (hx : Passes CX0 X E) : OpR X (compareOp .Eq) (rRev X.K C false) := by
  rintro pins s σ H x y v u Q I rx ry ⟨T, b, r, rfl, ho, h1, q⟩
  cases ry
  obtain ⟨dx, od, J, e⟩ := book_inst I h1
  refine PySem.SeqAt.cmp_right (op := .Eq) hr.units0 I.kIn J (oth_ty I rx ho) (N.sub ho) (dec_eq rfl I N rx ho J e) (PySem.SeqAt.try_eq I.kIn J N.hs N.hf (run_eqA F (hr.mono (by decide)) I.env0 hb hx I rx (.oth h1 ho) fun s1 I1 => ⟨.bl false, H, I1, rfl, q⟩))
theorem op_neV {E : XK} (hr : Room 2 X.A) (F : FnOk X.prog X.w X.K X.mg X.base CX0 1 f fd ["self", "other"] (spEqA X.K C)) (N : NeTxt X.K C f) (hb : Binds X.K fd ["self", "other"] []) (hx : Passes CX0 X E) : OpR X (compareOp .NotEq) (rRev X.K C true) := by
  rintro pins s σ H x y v u Q I rx ry ⟨T, b, r, rfl, ho, h1, q⟩
  cases ry
  obtain ⟨dx, od, J, e⟩ := book_inst I h1
  refine PySem.SeqAt.cmp_right (op := .NotEq) hr.units0 I.kIn J (oth_ty I rx ho) (N.sub ho) (dec_ne rfl I N rx ho J e) (PySem.SeqAt.try_ne hr.units I.kIn J N.hm N.hne N.hs N.hf (run_eqA F hr.in1 I.env0.in1 hb hx I rx (.oth h1 ho) fun s1 I1 => ⟨.bl true, H, I1, rfl, q⟩))
end
end
end Sh

/-! sets of texts: set(t), {e for ..}, len of these -/
namespace Sh
open PySem PySem.Spec PyProof.Rows L2
/-! ### each once -/
def hasK {α : Type} [DecidableEq α] (k : α) (l : List α) : Bool := l.any fun j => decide (j = k)
theorem hasK_iff {α : Type} [DecidableEq α] {k : α} {l : List α} : hasK k l = true ↔ k ∈ l := by
  unfold hasK
  rw [List.any_eq_true]
  constructor
  · rintro ⟨j, hj, e⟩
    rw [← of_decide_eq_true e]
    exact hj
  · intro h
    exact ⟨k, h, decide_eq_true rfl⟩
theorem hasK_not {α : Type} [DecidableEq α] {k : α} {l : List α} : hasK k l = false ↔ ¬ k ∈ l := by
  rw [← hasK_iff]
  cases hasK k l <;> simp
def once {α : Type} [DecidableEq α] (l : List α) : List α := l.foldl (fun acc k => if hasK k acc = true then acc else acc ++ [k]) []
theorem once_snoc {α : Type} [DecidableEq α] (l : List α) (k : α) : once (l ++ [k]) = if hasK k (once l) = true then once l else once l ++ [k] := by
  unfold once
  rw [List.foldl_append]
  rfl
theorem rev_ind {α : Type} {C : List α → Prop} (h0 : C []) (h1 : ∀ l x, C l → C (l ++ [x])) (l : List α) : C l := by
  suffices h : ∀ r : List α, C r.reverse by
    have := h l.reverse
    rwa [List.reverse_reverse] at this
  intro r
  induction r with
  | nil => exact h0
  | cons x r ih =>
    rw [List.reverse_cons]
    exact h1 _ _ ih
theorem mem_once {α : Type} [DecidableEq α] (k : α) (l : List α) : k ∈ once l ↔ k ∈ l := by
  induction l using rev_ind with
  | h0 => simp [once]
  | h1 l x ih =>
    rw [once_snoc]
    by_cases h : hasK x (once l) = true
    · rw [if_pos h, ih, List.mem_append, List.mem_singleton]
      constructor
      · exact .inl
      · rintro (q | q)
        · exact q
        · subst q
          exact ih.mp (hasK_iff.mp h)
    · rw [if_neg h, List.mem_append, List.mem_append, ih]
theorem has_once {α : Type} [DecidableEq α] (k : α) (l : List α) : hasK k (once l) = hasK k l := by
  cases h : hasK k l with
  | true => exact hasK_iff.mpr ((mem_once k l).mpr (hasK_iff.mp h))
  | false => exact hasK_not.mpr fun z => hasK_not.mp h ((mem_once k l).mp z)
theorem once_len {α : Type} [DecidableEq α] (l : List α) : (once l).length ≤ l.length := by
  induction l using rev_ind with
  | h0 => simp [once]
  | h1 l x ih =>
    rw [once_snoc, List.length_append, List.length_singleton]
    split
    · omega
    · rw [List.length_append, List.length_singleton]
      omega
theorem nd_snoc {α : Type} {l : List α} {x : α} : (l ++ [x]).Nodup ↔ l.Nodup ∧ ¬ x ∈ l := by
  rw [List.nodup_append]
  constructor
  · rintro ⟨a, b, c⟩
    exact ⟨a, fun h => c x h x (List.mem_singleton.mpr rfl) rfl⟩
  · rintro ⟨a, b⟩
    refine ⟨a, List.nodup_cons.mpr ⟨by simp, List.nodup_nil⟩, fun y hy z hz e => ?_⟩
    rw [List.mem_singleton.mp hz] at e
    subst e
    exact b hy
theorem once_nd {α : Type} [DecidableEq α] (l : List α) : (once l).length = l.length ↔ l.Nodup := by
  induction l using rev_ind with
  | h0 => simp [once]
  | h1 l x ih =>
    have hle := once_len l
    rw [once_snoc, nd_snoc, List.length_append, List.length_singleton]
    by_cases h : hasK x (once l) = true
    · rw [if_pos h]
      rw [has_once] at h
      constructor
      · intro q
        omega
      · intro q
        exact absurd (hasK_iff.mp h) q.2
    · rw [if_neg h, List.length_append, List.length_singleton]
      rw [has_once] at h
      constructor
      · intro q
        exact ⟨ih.mp (by omega), fun z => h (hasK_iff.mpr z)⟩
      · intro q
        have := ih.mpr q.1
        omega
/-! ### set(t), t a tuple of keys -/
theorem nat_no {a b : Nat} (z : a = b) (h : a < b ∨ b < a) : False := by omega
/-- an empty set as it is made -/
def setNew (w : World) : Obj := { cls := .type "set", dict := none, data := .set #[] 0 (.fresh 0 0 (!w.params.followText "set-order")) }
theorem setNew_of {P : Program} {w : World} {h : Heap} {a : Addr} (e : h.get? a = some (setNew w)) : h.SetOf (mixKind P w) a (fun _ => false) 0 :=
  ⟨_, #[], 0, _, e, ⟨rfl, rfl, rfl⟩, rfl, (fun z hz => by simp at hz), (fun k => by simp), (by decide), (by rfl), rfl⟩
section
variable {P : Program} {w : World} {A : Around} {E : Value → Shared → Prop} {s : Shared}
theorem loop_keys {I : Addr} {fp wr : List Addr} {G : Array GenState → Array GenState → Prop} {n : Nat} {Pv : Nat → Value → Prop} {St : Nat → Shared → Prop} {R : Result → Shared → Prop} (W : WalksS P w A.in1 I fp wr G n Pv St) (S : Addr)
    (out : S ∉ fp) (ks : List Key) (hn : n = ks.length) (few : ks.length + 1 < scanBound) (kv : ∀ i v, Pv i v → ∃ k, ks[i]? = some k ∧ (mixKind P w).is k v = true ∧ v.scannable = true)
    (fin : ∀ s', Moved (S :: wr) G s s' → s'.heap.SetOf (mixKind P w) S (fun k => hasK k ks) (once ks).length → R (.ok (.ret .none)) s') : ∀ (left i : Nat) (s1 : Shared), n - i = left → i ≤ n → St i s1 → Moved (S :: wr) G s s1 →
      s1.heap.SetOf (mixKind P w) S (fun k => hasK k (ks.take i)) (once (ks.take i)).length → codeAny (model P w) A (.builtin "set.update.loop" ⟨[.ref S, .ref I], []⟩) R s1 := by
  have far : S ∉ wr := fun z => out (W.sub _ z)
  have more : ∀ b ∈ wr, b ∈ S :: wr := fun b hb => List.mem_cons_of_mem _ hb
  have stays : ∀ {h h' : Heap} {T : Key → Bool} {c : Nat}, h.SetOf (mixKind P w) S T c → (∀ o, h.get? S = some o → h'.get? S = some o) → h'.SetOf (mixKind P w) S T c := fun z k => setOf_at z k
  intro left
  induction left with
  | zero =>
    intro i s1 e hi st mv so
    have ei : i = n := by omega
    refine codeAny_builtin PyProof.Rows.F.entry_set_update_loop ?_
    rw [Around.under_plainId PyProof.Rows.F.plain_set_update_loop _, show ks.take i = ks from List.take_of_length_le (by omega)] at *
    refine wpAny_bind (W.done s1 _ _ (ei ▸ st) fun s2 m2 => ?_)
    exact wpAny_pure (fin s2 (Moved.trans W.gtrans mv (m2.mono more)) (stays so fun o q => m2.heap S o far q))
  | succ left ih =>
    intro i s1 e hi st mv so
    have lt : i < n := by omega
    refine codeAny_builtin PyProof.Rows.F.entry_set_update_loop ?_
    rw [Around.under_plainId PyProof.Rows.F.plain_set_update_loop _]
    refine wpAny_bind (W.item i s1 _ _ lt st fun v s2 pv st2 m2 => ?_)
    obtain ⟨k, hk, is, sc⟩ := kv i v pv
    have so2 := stays so fun o q => m2.heap S o far q
    show wpAny _ _ (holding [v] (setAdd S v) >>= _) _ _ _
    refine wpAny_bind (wpAny_holding ?_)
    unfold setAdd
    refine wpAny_holding (wpAny_bind ((mixKind P w).pyHash (k := k) is ?_))
    have room : (once (ks.take i)).length + 1 < scanBound := by
      have h1 := once_len (ks.take i)
      rw [List.length_take] at h1
      omega
    refine wpAny_setAddHashed_of (knd := mixKind P w) (s := { s2 with toks := s2.toks + 1 }) is sc so2 room fun h3 but so3 => ?_
    have tk : ks.take (i + 1) = ks.take i ++ [k] := by rw [List.take_add_one, hk]; rfl
    have so4 : h3.SetOf (mixKind P w) S (fun j => hasK j (ks.take (i + 1))) (once (ks.take (i + 1))).length := by
      have e1 : (fun j => hasK j (ks.take i) || decide (j = k)) = fun j => hasK j (ks.take (i + 1)) := funext fun j => by
        rw [tk]
        unfold hasK
        rw [List.any_append, List.any_cons, List.any_nil, Bool.or_false, show decide (k = j) = decide (j = k) from decide_eq_decide.mpr eq_comm]
      have e2 : (if hasK k (ks.take i) = true then (once (ks.take i)).length else (once (ks.take i)).length + 1) = (once (ks.take (i + 1))).length := by
        rw [tk, once_snoc, has_once]
        cases h1 : hasK k (ks.take i) with
        | true => rw [if_pos rfl, if_pos rfl]
        | false => rw [if_neg Bool.false_ne_true, if_neg Bool.false_ne_true, List.length_append]; rfl
      rw [e1, e2] at so3
      exact so3
    refine wpAny_pure ⟨plainId_quiet PyProof.Rows.F.plain_set_update_loop _, ih (i + 1) _ (by omega) lt (W.frame _ s2 _ _ st2 (Nat.le_succ _) fun b hb o q => ?_) ?_ so4⟩
    · exact (but.2 b fun z => out (z ▸ hb)).trans q
    · refine Moved.trans W.gtrans mv ((m2.mono more).then_heap (Nat.le_succ _) fun b o hb q => ?_)
      exact (but.2 b fun z => hb (z ▸ List.mem_cons_self)).trans q
set_option maxHeartbeats 4000000 in
theorem set_of_tuple {l : Addr} {items : Array Value} (ks : List Key) {Q : Value → Shared → Prop} (hh : A.handled = none) (hl : s.heap.IsTuple l items) (sz : items.size = ks.length) (few : ks.length + 1 < scanBound)
    (kv : ∀ (i : Nat) (v : Value), items[i]? = some v → ∃ k, ks[i]? = some k ∧ (mixKind P w).is k v = true ∧ v.scannable = true)
    (h : ∀ (h' : Heap) (tk : Nat), h'.SetOf (mixKind P w) s.heap.objs.size (fun k => hasK k ks) (once ks).length → (∀ b o, s.heap.get? b = some o → h'.get? b = some o) → Q (.ref s.heap.objs.size) { s with heap := h', toks := tk }) :
    wpAny (model P w) A (call (.type "set") [.ref l]) Q E s := by
  have ⟨c, tl, m1⟩ := PySem.F.called_set.mro
  have m2 := PySem.F.called_set.made
  have m3 := PySem.F.called_set.sub
  have m4 := PySem.F.called_set.notType
  have m5 := PySem.F.called_set.canCreate
  have m6 := PySem.F.typeCall_set_1 (.ref l)
  refine wpAny_call (codeAny_of_tree (show wpAny _ _ (callAny (.type "set") _) _ _ _ from wpAny_pure ⟨Code.quiet_builtin _ (by decide +kernel), codeAny_builtin PySem.F.entry_type_call ?_⟩))
  rw [Around.under_plain (weight_type_call_type "set" [.ref l] []) rfl]
  repeat (any_goals (first | assumption | wp_step))
  refine codeAny_mono (code_set_led1 (.ref l) (E := E) (Q₁ := fun u s1 => u = .ref s.heap.objs.size ∧ s1 = { s with heap := s.heap.push (setNew w) }) ⟨rfl, rfl⟩) fun r s1 hr => ?_
  match r, hr with
  | .error e, hr => exact hr
  | .ok (.ret u), hr =>
    obtain ⟨rfl, rfl⟩ := hr
    have e0 : (s.heap.push (setNew w)).get? s.heap.objs.size = some (setNew w) := Heap.get?_push_size _ rfl
    have ty : Shared.TypeIs { s with heap := s.heap.push (setNew w) } (.ref s.heap.objs.size) "set" := ⟨_, e0, rfl⟩
    have i1 := PySem.F.called_set.init.lookup
    have i2 := PySem.F.called_set.init.bind (.ref s.heap.objs.size)
    repeat (any_goals (first | assumption | wp_step))
    refine codeAny_mono (codeAny_call_builtin (R := wants (fun u s2 => u = .none ∧ ∃ h' tk, s2 = { s with heap := h', toks := tk } ∧ h'.SetOf (mixKind P w) s.heap.objs.size (fun k => hasK k ks) (once ks).length ∧ (∀ b o, s.heap.get? b = some o → h'.get? b = some o)) E)
      PySem.F.called_set.init.plain PySem.F.entry_set_init (check_set_init_1 ty ?_)) fun r2 s2 hr2 => ?_
    · obtain ⟨⟨oc, od, _, os⟩, ho, rfl, nl, rfl⟩ := hl
      have ho1 := Heap.get?_push_of_some (setNew w) ho
      have t1 := PySem.F.sub_tuple_set
      have t2 := PySem.F.sub_tuple_frozenset
      have t3 : (Value.type "tuple" == Value.type "dict") = false := by decide
      have tl1 : (s.heap.push (setNew w)).IsTuple l items := ⟨_, ho1, rfl, nl, rfl⟩
      have lt := Heap.lt_size ho
      have z1 : (s.heap.push (setNew w)).objs.size = s.heap.objs.size + 1 := Heap.size_push _ _
      unfold Builtin.«set.__init__» noKeywords Builtin.Frozenset.updateFrom
      generalize hP : pyIter = PI
      wp_walk
      subst hP
      refine wpAny_pyIter_tuple tl1 (wpAny_bind (wpAny_runValue ?_))
      have hd : A.in1.in1.in1.handled = none := by simp [hh]
      have n1 : l ≠ (s.heap.push (setNew w)).objs.size := fun z => nat_no z (.inl (by rw [z1]; exact Nat.lt_succ_of_lt lt))
      have n2 : s.heap.objs.size ∉ [(s.heap.push (setNew w)).objs.size, l] := by
        intro z
        rcases List.mem_cons.mp z with z | z
        · exact nat_no z (.inl (by rw [z1]; exact Nat.lt_succ_self _))
        · exact nat_no (List.mem_singleton.mp z) (.inr lt)
      refine loop_keys ((Walks.tuple hd _ l n1 items).toS) s.heap.objs.size n2 ks sz few kv (fun s3 m so => ?_) items.size 0 _ (by omega) (Nat.zero_le _) ⟨⟨_, Heap.get?_push_size _ rfl, rfl, rfl⟩, tl1.push _⟩ ⟨fun _ _ _ e => e, rfl, rfl, rfl, Nat.le_refl _⟩ ?_
      · obtain ⟨h3, g3, d3, k3, o3⟩ := s3
        obtain rfl : g3 = s.gens := m.gens
        obtain rfl : d3 = s.drawn := m.drawn
        obtain rfl : o3 = s.os := m.os
        refine wpAny_pure (wpAny_pure ⟨rfl, h3, k3, rfl, so, fun b o e => ?_⟩)
        have lb := Heap.lt_size e
        refine m.heap b o (fun z => ?_) (Heap.get?_push_of_some _ (Heap.get?_push_of_some _ e))
        rcases List.mem_cons.mp z with z | z
        · exact nat_no z (.inl lb)
        · rcases List.mem_cons.mp z with z | z
          · exact nat_no z (.inl (by rw [z1]; exact Nat.lt_succ_of_lt lb))
          · cases z
      · exact setNew_of (Heap.get?_push_of_some _ e0)
    · match r2, hr2 with
      | .error e, hr2 => exact hr2
      | .ok (.ret u2), hr2 =>
        obtain ⟨rfl, h', tk, rfl, so, kp⟩ := hr2
        repeat (any_goals (first | assumption | wp_step))
        exact h _ _ so kp
      | .ok .next, hr2 => exact hr2.elim
      | .ok .brk, hr2 => exact hr2.elim
      | .ok .cont, hr2 => exact hr2.elim
  | .ok .next, hr => exact hr.elim
  | .ok .brk, hr => exact hr.elim
  | .ok .cont, hr => exact hr.elim
end
end Sh

/-! further rules: len(set(t)), C(*xs), zips of tuples walked by a comprehension, calls in a try, several clauses with names -/
namespace Sh
open PySem PySem.Spec PyProof.Rows L2
section
variable {X : Cx}
/-- len(set(a)), a a tuple of texts -/
def tLenSetT (K : PySem.W.Frag) (ta : TE) : TE := fun σ H Q => ta σ H fun x H1 => ∃ (l : Addr) (xs : List Str), x = .ref l ∧ SqT K H1 l (xs.map V.str) ∧ xs.length ≤ 1000 ∧ Q (.int ((once (xs.map (Sum.inr : Str → Key))).length : Nat)) H1
theorem pe_lenSetT {a : Expr} {ta : TE} {p p2 q pos : Pos} (hc : X.calm = true) (g1 : Gl X "len") (m1 : X.mg "len" = none) (g2 : Gl X "set") (m2 : X.mg "set" = none) (ha : PE X a ta)
    (na : starEach [a] X.env = (false, eval a X.env) :: starEach [] X.env := by rfl) : PE X (.Call (.Name "len" p) [.Call (.Name "set" p2) [a] [] q] [] pos) (tLenSetT X.K ta) := by
  refine ⟨fun pins s σ H Q I h => Call_ (ld_blt I g1 m1 boot_len (callWith_builtin1 (args_cons ?_ rfl) rfl rfl))⟩
  refine Call_ (ld_blt I g2 m2 boot_set (callWith_type1 (args_cons (thn (ha.run pins s σ H _ I h) fun v s1 ⟨x, H1, I1, r1, q1⟩ => args_nil ?_) na) na rfl))
  obtain ⟨l, xs, rfl, hq, few, q1⟩ := q1
  cases r1
  obtain ⟨its, r, pl, hz⟩ := I1.tuple hq
  have len : its.length = xs.length := by rw [← r.length, List.length_map]
  refine set_of_tuple (xs.map Sum.inr) (I1.ok.hd hc) pl (by rw [List.size_toArray, List.length_map, len]) (by rw [List.length_map]; unfold scanBound; omega) (fun i v e => ?_) fun h' tk so k => args_nil ?_
  · have e' : its[i]? = some v := by simpa using e
    have lt : i < xs.length := by rw [← len]; exact (List.getElem?_eq_some_iff.mp e').1
    obtain ⟨u, hu, t, ht⟩ := r.get (i := i) (x := .str xs[i]) (by rw [List.getElem?_map, List.getElem?_eq_getElem lt]; rfl)
    rw [e'] at hu
    cases hu
    refine ⟨.inr xs[i], by rw [List.getElem?_map, List.getElem?_eq_getElem lt]; rfl, ?_, ?_⟩
    · rw [ht]
      exact keyIs_str xs[i] t
    · rw [ht]
      rfl
  · obtain ⟨o, es, ep, t, ho, hex, hd, _, _, _, hf, hn⟩ := so
    have I2 : Inv X pins σ H1 { s1 with heap := h', toks := tk } := I1.kept fun b o e => k b o e
    have le := once_len (xs.map (Sum.inr : Str → Key))
    rw [List.length_map] at le
    exact call_len_set ho hex hd hf (by rw [hn]; omega) ⟨.int _, H1, I2.tok _, ⟨_, by rw [hn]⟩, q1⟩
theorem nd_map {α β : Type} {f : α → β} (inj : ∀ a b, f a = f b → a = b) : ∀ {l : List α}, (l.map f).Nodup ↔ l.Nodup
  | [] => by simp
  | x :: l => by
    rw [List.map_cons, List.nodup_cons, List.nodup_cons, nd_map inj]
    constructor
    · rintro ⟨a, b⟩
      exact ⟨fun w => a (List.mem_map.mpr ⟨x, w, rfl⟩), b⟩
    · rintro ⟨a, b⟩
      refine ⟨fun w => ?_, b⟩
      obtain ⟨y, hy, e⟩ := List.mem_map.mp w
      exact a (inj _ _ e ▸ hy)
theorem once_texts {xs : List Str} : (once (xs.map (Sum.inr : Str → Key))).length = xs.length ↔ xs.Nodup := by
  have h := once_nd (xs.map (Sum.inr : Str → Key))
  rw [List.length_map] at h
  rw [h]
  exact nd_map fun _ _ e => by cases e; rfl
/-! ### zip of two tuples in a comprehension -/
theorem walk_zipT {K : PySem.W.Frag} {a b : Addr} {xs ys : List V} (e : xs.length = ys.length) : Walk (RZ.ItzT K a b) xs.length (fun H => SqT K H a xs ∧ SqT K H b ys) (YPair (fun i => xs[i]?) (fun i => ys[i]?)) :=
  ⟨fun i H lt q => ⟨xs, ys, xs[i], ys[i]'(e ▸ lt), q.1, q.2, List.getElem?_eq_getElem lt, List.getElem?_eq_getElem (e ▸ lt)⟩, fun H q => ⟨xs, ys, q.1, q.2, .inl (Nat.le_refl _)⟩,
    fun i H x H' lt q y => by
      obtain ⟨T, u, v, h1, h2, h3, h4, h5⟩ := y
      exact ⟨T, u, v, h1, h2, h3, h4 _ q.1, h5 _ q.2⟩⟩
/-! ### C(*xs) -/
variable {CX : CXT} {k n : Nat} {f C : Addr} {fd : FuncData} {ps ks : List Str} {sp : Sp} {dvs : List V} {ds : List Value} {E : XK} {x m : Str} {p pos apos sp_ : Pos} {e o : Expr} {es : List Expr} {kws : List Keyword} {te ta : TE} {t tk : TA}
  {g : List Value → List Value → List Value} {gV : List V → List V → List V}
theorem pe_makeS (M : Mk X.K C f) (F : FnOk X.prog X.w X.K X.mg X.base CX k f fd ps sp) (hr : Room (k + 1) X.A) (hg : Gl X x) (hm : X.mg x = some (.ref C)) (hb : Binds X.K fd ps ds) (hd : Vals dvs ds) (hx : Passes CX X E) (he : PE X e te)
    (hdb : (x == ("__debug__" : Str)) = false := by decide) (st : starEach [.Starred e sp_] X.env = [(true, eval e X.env)] := by rfl) :
    PE X (.Call (.Name x p) [.Starred e sp_] [] pos) (fun σ H Q => te σ H fun y H1 => ∃ a xs, y = V.ref a ∧ (SqT X.K H1 a xs ∨ SqL X.K H1 a xs) ∧ ∀ z dz, H1 z = none → H1 dz = none → dz ≠ z →
      sp (.ref z :: (xs ++ dvs)) (upd (upd H1 dz (.own z)) z (.ins C dz [])) (fun v H2 => v = .non ∧ Q (.ref z) H2) E) := by
  refine ⟨fun pins s σ H Q I h => wpAny_Call_Name_kw (ld_glob I hg hm ?_ hdb)⟩
  refine PySem.W.callWith_S (h₀ := X.base) I.ok.mod.kin M.kp (thn (he.run pins s σ H _ I h) fun v s1 ⟨y, H1, I1, ry, a, xs, ey, hxs, q⟩ => ?_) st
  subst ey
  cases ry
  exact StX.star_any I1 hxs fun us s2 I2 rv => ⟨I2.kIn, run_make M F hr hb hd hx I2 rv q⟩
/-! ### within a try: what is raised is wished for at the slots -/
def tMethT (C : Addr) (m : Str) (sp : Sp) (E : L2.St → XK) (ta : TE) (t : TA) : TE := fun σ H Q => ta σ H fun x H1 => ∃ a dx fs, x = .ref a ∧ H1 a = some (.ins C dx fs) ∧ fs.lookup m = none ∧ t σ H1 fun vs H2 => sp (x :: vs) H2 Q (E σ)
theorem pe_methT {E : L2.St → XK} {pl : Sem Bool} (he : PE X o ta) (c : Cls X.K C) (hm : Meth X.K C m f) (F : FnOk X.prog X.w X.K X.mg X.base CX k f fd ps sp) (hr : Room k X.A) (hb : Binds X.K fd ps []) (hx : ∀ σ, PassesAt CX X σ (E σ)) (ha : PA X (e :: es) t)
    (hst : starEach (e :: es) X.env = (false, eval e X.env) :: starEach es X.env := by rfl) (hpl : (backTo pos (starEach es X.env)).any (·.1) = false := by rfl)
    (ht : eval (.Call (.Attribute o m apos) (e :: es) [] pos) X.env = (do
      let ov ← eval o X.env
      standAt apos.atName
      let (f, first) ← holding [ov] (getMethod ov m pl)
      callWith pos f first (backTo pos (starEach (e :: es) X.env)) (backToKw pos (keywordEach [] X.env))) := by rfl) :
    PE X (.Call (.Attribute o m apos) (e :: es) [] pos) (tMethT C m sp E ta t) := by
  refine ⟨fun pins s σ H Q I h => PySem.W.methodCall_KW (pl := pl) (thn (he.run pins s σ H _ I h) fun u s1 ⟨x, H1, I1, rx, a, dx, fs, ex, ea, l, q⟩ => ?_) ht⟩
  subst ex
  cases rx
  refine getmeth_ok I1 ea c hm l (PySem.W.callWith_K (first := [.ref a]) (h₀ := X.base) I.ok.mod.kin hm.kp (thn (ha.run pos pins s1 σ H1 _ I1 q) fun us s2 ⟨vs, H2, I2, r, q2⟩ => ⟨I2.kIn, ?_⟩) hst hpl)
  exact run_fnS (us := .ref a :: us) (vs := .ref a :: vs) F hr hb (hx σ) I2 (.cons rfl r) q2
/-- all by position, told as a call with no keywords -/
theorem kbn_pos {K : PySem.W.Frag} (hb : Binds K fd ps ds) (hd : Vals dvs ds) (hn : n + ds.length = ps.length) : KBn K fd ps n [] (fun us _ => us ++ ds) (fun vs _ => vs ++ dvs) :=
  ⟨fun s us ws k h1 _ => hb s us k (by rw [List.length_append, h1, hn]), fun r1 _ => r1.append hd⟩
theorem run_makeT {pins : List (Addr × Obj)} {σ : L2.St} {H : Hp} {s : Shared} {Q : VK} {us ws : List Value} {vs zs : List V} (M : Mk X.K C f) (F : FnOk X.prog X.w X.K X.mg X.base CX k f fd ps sp) (hr : Room (k + 1) X.A) (hb : KBn X.K fd ps (n + 1) ks g gV)
    (hx : PassesAt CX X σ E) (I : Inv X pins σ H s) (r : Vals vs us) (rz : Vals zs ws) (l1 : vs.length = n) (l2 : zs.length = ks.length)
    (h : ∀ y dy, H y = none → H dy = none → dy ≠ y → sp (gV (.ref y :: vs) zs) (upd (upd H dy (.own y)) y (.ins C dy [])) (fun v H2 => v = .non ∧ Q (.ref y) H2) E) :
    wpAny (model X.prog X.w) X.A (call (.ref C) us (ks.zip ws)) (EP X pins σ Q) X.xe s := by
  have free : ∀ i, s.heap.objs.size ≤ i → H i = none := fun i hi => I.hok.fresh hi
  have hq := h (s.heap.objs.size + 1) s.heap.objs.size (free _ (Nat.le_succ _)) (free _ (Nat.le_refl _)) (Nat.ne_of_lt (Nat.lt_succ_self _))
  have I2 := Inv.made (C := C) I
  have q1 : Vals (V.ref (s.heap.objs.size + 1) :: vs) (Value.ref (s.heap.objs.size + 1) :: us) := .cons rfl r
  have bt := hb.to _ (Value.ref (s.heap.objs.size + 1) :: us) ws I2.kIn (q1.length.symm.trans (congrArg Nat.succ l1)) (rz.length.symm.trans l2)
  have run := F.run _ X.stack _ _ ⟨Value.ref (s.heap.objs.size + 1) :: us, ks.zip ws⟩ (g (Value.ref (s.heap.objs.size + 1) :: us) ws) _ _ E (hr.make C us (ks.zip ws)) (I2.env0.make C us (ks.zip ws)) bt (hb.rel q1 rz) hq
  refine wpAny_call (make_map (f := f) I.kIn M.makes M.init (beq_iff_eq.mp M.fn) (codeAny_mono run fun res s' hq' => ?_))
  match res, hq' with
  | .error er, hq' => exact hx pins _ _ er s' I2 hq'
  | .ok (.ret u), hq' =>
    obtain ⟨v, H', I3, rv, ev, q3⟩ := I2.after hq'
    subst ev
    exact ⟨rv, ⟨V.ref (s.heap.objs.size + 1), H', I3, rfl, q3⟩⟩
  | .ok .next, hq' => exact False.elim hq'
  | .ok .brk, hq' => exact False.elim hq'
  | .ok .cont, hq' => exact False.elim hq'
def tMakeT (C : Addr) (n m : Nat) (sp : Sp) (gV : List V → List V → List V) (E : L2.St → XK) (t tk : TA) : TE := fun σ H Q => t σ H fun vs H1 => tk σ H1 fun zs H2 => vs.length = n ∧ zs.length = m ∧
  ∀ y dy, H2 y = none → H2 dy = none → dy ≠ y → sp (gV (.ref y :: vs) zs) (upd (upd H2 dy (.own y)) y (.ins C dy [])) (fun v H3 => v = .non ∧ Q (.ref y) H3) (E σ)
theorem pe_makeT {E : L2.St → XK} (M : Mk X.K C f) (F : FnOk X.prog X.w X.K X.mg X.base CX k f fd ps sp) (hr : Room (k + 1) X.A) (hg : Gl X x) (hm : X.mg x = some (.ref C)) (hb : KBn X.K fd ps (n + 1) [] g gV) (hx : ∀ σ, PassesAt CX X σ (E σ)) (ha : PA X (e :: es) t)
    (hdb : (x == ("__debug__" : Str)) = false := by decide) (he : starEach (e :: es) X.env = (false, eval e X.env) :: starEach es X.env := by rfl) (hpl : (backTo pos (starEach es X.env)).any (·.1) = false := by rfl) :
    PE X (.Call (.Name x p) (e :: es) [] pos) (tMakeT C n 0 sp gV E t tNil) := by
  refine ⟨fun pins s σ H Q I h => wpAny_Call_Name_kw (ld_glob I hg hm (PySem.W.callWith_K (h₀ := X.base) I.ok.mod.kin M.kp (thn (ha.run pos pins s σ H _ I h) fun us s1 ⟨vs, H1, I1, r, l1, l2, q⟩ => ⟨I1.kIn, ?_⟩) he hpl) hdb)⟩
  exact run_makeT (ws := []) (zs := []) M F hr hb (hx σ) I1 r .nil l1 rfl q
theorem pe_makeTK {E : L2.St → XK} (M : Mk X.K C f) (F : FnOk X.prog X.w X.K X.mg X.base CX k f fd ps sp) (hr : Room (k + 1) X.A) (hg : Gl X x) (hm : X.mg x = some (.ref C)) (hb : KBn X.K fd ps 1 ks g gV) (hx : ∀ σ, PassesAt CX X σ (E σ)) (hkw : PK X kws tk)
    (hall : (backToKw pos (keywordEach kws X.env)).all (·.1.isSome) = true := by rfl) (hks : (backToKw pos (keywordEach kws X.env)).filterMap (·.1) = ks := by rfl) (hdb : (x == ("__debug__" : Str)) = false := by decide)
    (hpl : ((backTo pos (starEach [] X.env)).any (·.1) || (backToKw pos (keywordEach kws X.env)).any (·.1.isNone)) = false := by rfl) :
    PE X (.Call (.Name x p) [] kws pos) (tMakeT C 0 ks.length sp gV E tNil tk) := by
  refine ⟨fun pins s σ H Q I h => wpAny_Call_Name_kw (ld_glob I hg hm (PySem.W.callWith_KW0 (h₀ := X.base) I.ok.mod.kin M.kp hall ?_ hpl) hdb)⟩
  refine thn (hkw.run pos pins s σ H _ I h) fun ws s2 ⟨zs, H2, I2, rz, l1, l2, q2⟩ => ⟨I2.kIn, ?_⟩
  rw [hks]
  exact run_makeT (us := []) (vs := []) M F hr hb (hx σ) I2 .nil rz rfl l2 q2
end
end Sh

namespace Sh
open PySem L2
section
variable {P : Program} {w : World} {K : PySem.W.Frag} {mg : Str → Option Value} {base : Heap} {aA aD : Addr}
/-! ### what is a rule, told back -/
theorem among_true {H : Hp} {l : List Str} : ∀ {xs : List V} {bs : List Bool}, Paired (Among K H l) xs bs → bs.all id = true → ∃ zs : List Str, xs = zs.map V.str ∧ ∀ z ∈ zs, z ∈ l
  | _, _, .nil, _ => ⟨[], rfl, fun z hz => by cases hz⟩
  | _, b :: bs, .cons a r, h => by
    rw [List.all_cons, Bool.and_eq_true] at h
    obtain ⟨zs, e, q⟩ := among_true r h.2
    have h1 : b = true := h.1
    cases a with
    | other ty no => cases h1
    | str z =>
      refine ⟨z :: zs, by rw [e]; rfl, fun y hy => ?_⟩
      rcases List.mem_cons.mp hy with hy | hy
      · rw [hy]
        exact of_decide_eq_true h1
      · exact q y hy
theorem ruleCl_true {H : Hp} {v : V} (h : RuleCl K H v true) : ∃ r, RuleAt K H v r ∧ IsRule r := by
  suffices z : ∀ b, RuleCl K H v b → b = true → ∃ r, RuleAt K H v r ∧ IsRule r from z true h rfl
  intro b h e
  cases h with
  | other ty no => cases e
  | @tup a xs bs h ty p =>
    rw [Bool.and_eq_true] at e
    have e1 := of_decide_eq_true e.1
    obtain ⟨zs, ez, q⟩ := among_true (p e1) e.2
    subst ez
    rw [List.length_map] at e1
    exact ⟨zs, ⟨a, rfl, h⟩, e1, q⟩
/-! ### with_rule -/
def spWith (K : PySem.W.Frag) (C CD CR : Addr) : Sp := fun vs H Q E => ∃ (p : Addr) (v u : V) (b c : Bool) (r : List Str) (rs : List (List Str)), vs = [.ref p, v, u] ∧ BookAt K C H p rs ∧ (∀ r ∈ rs, IsRule r) ∧ Among K H doors v b ∧ RuleCl K H u c ∧ (c = true → RuleAt K H u r ∧ IsRule r) ∧
  (b = false → ∀ d H', H' d = some (.xd [("door", v)]) → Same H H' → H d = none → E (.ref CD) (some d) H') ∧
  (∀ (i : Nat) (z : Str), v = .str z → doors[i]? = some z → c = false → ∀ d H', H' d = some (.xd [("door", .str z)]) → Same H H' → H d = none → E (.ref CR) (some d) H') ∧
  (∀ (i : Nat) (z : Str), v = .str z → doors[i]? = some z → c = true → ∀ x H', BookAt K C H' x (rs.set i r) → Same H H' → Q (.ref x) H')
theorem paired_set {α β : Type} {F : α → β → Prop} {x : α} {y : β} (f : F x y) : ∀ {l1 : List α} {l2 : List β} (i : Nat), Paired F l1 l2 → Paired F (l1.set i x) (l2.set i y)
  | _, _, _, .nil => .nil
  | _, _, 0, .cons a b => .cons f b
  | _, _, i + 1, .cons a b => .cons a (paired_set f i b)
theorem take_set {α : Type} {l : List α} {i k : Nat} {u y : α} (hy : l[k]? = some y) : (l.set i u).take (k + 1) = (l.set i u).take k ++ [if k = i then u else y] := by
  have lt := (List.getElem?_eq_some_iff.mp hy).1
  rw [List.take_add_one]
  congr 1
  rw [List.getElem?_set]
  by_cases h : k = i
  · subst h
    simp [lt]
  · have h' : ¬ i = k := fun q => h q.symm
    rw [if_neg h', if_neg h, hy]
    rfl
abbrev s_with : Stmt := inClass (top 13) 4
theorem sc_with : FnScope ["self", "door", "rule", "rules", "name", "old"] ["self", "door", "rule"] (defScope s_with) := ⟨rfl, rfl, rfl, by decide +kernel, rfl, by decide +kernel, by decide +kernel⟩
theorem ok_with {f C CD CR fE fS fI : Addr} {fd fdE fdS fdI : FuncData} (F : Fun K "with_rule" "Book.with_rule" s_with f fd) (B : TxtB mg) (T : TxtK K mg aA aD) (TB : TxtBook K mg C)
    (gS : mg "is_door" = some (.ref fS)) (FS : Fun K "is_door" "is_door" s_isdoor fS fdS) (bS : Binds K fdS ["value"] [])
    (TE : ErrTxt K mg "NoDoor" "door" CD fE) (FE : Fun K "__init__" "NoDoor.__init__" s_eDoor fE fdE) (bE : Binds K fdE ["self", "door"] [])
    (MK : Mk K C fI) (GI : FnOk P w K mg base (L2.CX P w) 4 fI fdI pI (spBInit K C CR)) (b6 : Binds K fdI pI []) : FnOk P w K mg base (L2.CX P w) 6 f fd ["self", "door", "rule"] (spWith K C CD CR) := by
  have GS : FnOk P w K mg base CX0 1 fS fdS ["value"] (spAmong K doors) := ok_isdoor FS B T
  have GE : FnOk P w K mg base CX0 1 fE fdE ["self", "door"] (spErr CD "door") := ok_eDoor FE TE
  refine F.okX sc_with (fun vs H Q E h => ?_) (fun cdv A outer s H vs Q E hr h => ?_)
  · obtain ⟨p, v, u, b, c, r, rs, rfl, _⟩ := h
    rfl
  · obtain ⟨p, v, u, b, c, r, rs, rfl, hb, hrs, hv, hu, hur, eD, eR, q⟩ := h
    have r1 : Room 1 _ := hr.mono (by decide)
    have r2 : Room 2 _ := hr.mono (by decide)
    refine ⟨_, (pss_cons (ps_if (pt_not (pt_val (pe_call GS r1 (by rfl) gS FS.kp bS .nil pass0 (pa_cons (pv 1) pa_nil)))) (pss_one (ps_raise rfl (takes_of rfl rfl rfl rfl) (pmk_oex TE.oex TE.iC TE.tI GE r2 bE .nil pass0 (by rfl) TE.g (by exact (pa_cons (pv 1) pa_nil))))) pss_nil)
  (pss_cons (ps_setLc (i := 3) (own := [("name", 4), ("old", 5)]) (g := (gTup K 2 (gCons (gName 4) (gCons (gName 5) gNil)))) (by rfl) sc_with.nd rfl rfl (sw_true rfl rfl rfl (by decide +kernel)) (RZ.pi_zipA (by rfl) B.b_zip (pa_cons (pe_glob (v := .ref aD) (by rfl) T.g_DOORS rfl) (pa_cons (pe_fld (pv 0) rfl) pa_nil))) (blkOk_by (own := [("name", 4), ("old", 5)]) (N := ["self", "door", "rule", "rules", "name", "old"]) (sc := defScope s_with) (by decide +kernel)) (fun _ _ _ _ _ => (pg_tup (by rfl) (pgs_cons (pg_name (i := 4) sc_with.nd rfl (Or.inl rfl)) (pgs_cons (pg_name (i := 5) sc_with.nd rfl (Or.inl rfl)) pgs_nil)))) (fun _ _ _ _ _ => pts_nil) (fun _ _ _ _ _ => (pe_ifExp (pt_cmpR op_eq (pv 4) (pv 1) (nomark _)) (pv 2) (pv 5))))
  (pss_one (ps_ret (pe_makeS MK GI hr (by rfl) TB.g b6 .nil (passes_call (takes_of rfl rfl rfl rfl) fun _ _ _ _ h => h) (pv 3)))))), ?_⟩
    obtain ⟨dx, l, hp, ⟨l', ws, el, hl, pr⟩, e6⟩ := id hb
    cases el
    refine ⟨_, rfl, v, b, rfl, hv, ⟨_, rfl, ?_⟩⟩
    cases hv with
    | other ty no => exact ⟨_, rfl, err_made fun d H5 hd s5 hn => eD rfl d H5 hd s5 hn⟩
    | str z =>
      by_cases hz : z ∈ doors
      · rw [decide_eq_true hz]
        obtain ⟨i, hi, ez⟩ := List.getElem_of_mem hz
        have hi' : doors[i]? = some z := by rw [List.getElem?_eq_getElem hi, ez]
        have hw6 : ws.length = 6 := pr.length.trans e6
        refine ⟨_, rfl, p, C, dx, _, .ref l, rfl, hp, TB.cl, TB.nR, rfl, aD, l, _, ws, rfl, .inr ⟨T.sD _, hl, fun D hD => ?_⟩⟩
        refine lc_it (walk_zipT (K := K) (a := aD) (b := l) (xs := doors.map V.str) (ys := ws) (by rw [hw6]; rfl)) (fun k H' => H' D = some (.lst ((ws.set i u).take k)) ∧ Same H H') ?_ ?_ ?_ ?_
        · exact ⟨upd_same, same_new hD⟩
        · rintro k H' _ ⟨_, s'⟩
          exact ⟨T.sD _, s'.kt.sqT hl⟩
        · rintro k x H1 H2 hk ⟨h1, s1⟩ ⟨tu, n1, o1, rfl, ht, rfl, hn1, ho1⟩
          have nDt : D ≠ tu := ne_of_none h1 ht
          obtain ⟨dk, hdk, rfl⟩ : ∃ dk, doors[k]? = some dk ∧ n1 = V.str dk := by
            have hn1' : (doors.map V.str)[k]? = some n1 := hn1
            rw [List.getElem?_map] at hn1'
            cases e : doors[k]? with
            | none =>
              rw [e] at hn1'
              cases hn1'
            | some y =>
              rw [e] at hn1'
              exact ⟨y, rfl, (Option.some.inj hn1').symm⟩
          have ho1' : ws[k]? = some o1 := ho1
          have s2 : Same H (upd H1 tu (.tup [.str dk, o1])) := s1.trans (same_new ht)
          refine ⟨tu, _, rfl, SqT.of upd_same, rfl, .str dk, _, rfl, o1, _, rfl, rfl, rfl, ?_⟩
          have more : ∀ y : V, y = (if k = i then u else o1) → ∃ acc, upd H1 tu (.tup [.str dk, o1]) D = some (.lst acc) ∧ acc.length < sizeLine ∧ upd (upd H1 tu (.tup [.str dk, o1])) D (.lst (acc ++ [y])) D = some (.lst ((ws.set i u).take (k + 1))) ∧ Same H (upd (upd H1 tu (.tup [.str dk, o1])) D (.lst (acc ++ [y]))) := fun y ey => by
            refine ⟨_, by rw [upd_ne nDt]; exact h1, ?_, ?_, same_upd s2 hD⟩
            · rw [List.length_take, List.length_set, hw6]
              exact small1000 (by omega)
            · rw [upd_same, take_set ho1', ey]
          refine ⟨_, rfl, _, rfl, rfl, _, rfl, ?_⟩
          by_cases hki : k = i
          · subst hki
            have ed : dk = z := Option.some.inj (hdk.symm.trans hi')
            subst ed
            rw [decide_eq_true rfl]
            exact ⟨_, rfl, more u (by rw [if_pos rfl])⟩
          · have nd : ¬ V.str dk = V.str z := fun e => hki (doors_nd hdk (by rw [V.str.inj e]; exact hi'))
            rw [decide_eq_false nd]
            exact ⟨_, rfl, more o1 (by rw [if_neg hki])⟩
        · rintro H1 ⟨h1, s1⟩
          have full : (ws.set i u).take (doors.map V.str).length = ws.set i u := List.take_of_length_le (by rw [List.length_set, hw6]; exact Nat.le_refl 6)
          rw [full] at h1
          refine ⟨_, rfl, D, _, rfl, .inr (SqL.of h1), fun x dx hx hdx ne => ?_⟩
          have s2 : Same H (upd (upd H1 dx (.own x)) x (.ins C dx [])) := fun y o e => by
            rw [upd_ne (ne_of_none (s1 y o e) hx), upd_ne (ne_of_none (s1 y o e) hdx)]
            exact s1 y o e
          have hi6 : i < rs.length := by
            have : i < 6 := hi
            omega
          refine ⟨x, dx, ws.set i u, (rs.map fun _ => true).set i c, by rw [List.append_nil], by rw [List.length_set, hw6], upd_same, paired_set (ruleCl_same s2 hu) i (pair_map (fun _ _ q => ruleCl_same s2 q) (ruleCls_of pr hrs)), fun all H' l2 h3 h4 h5 h6 => ⟨rfl, ?_⟩, fun k hk _ d H' hd s3 hn => ?_⟩
          · have hc : c = true := all c (List.mem_of_getElem? (i := i) (by rw [List.getElem?_set_self (by rw [List.length_map]; exact hi6)]))
            subst hc
            obtain ⟨hr1, hr2⟩ := hur rfl
            have s4 : Same H H' := fun y o e => h6 y o (s2 y o e) (ne_of_none (s1 y o e) hx)
            exact q i z rfl hi' rfl x H' ⟨dx, l2, h3, ⟨l2, _, rfl, SqT.of h4, paired_set (s4.kt.rule hr1) i (s4.kt.rules pr)⟩, by rw [List.length_set, e6]⟩ s4
          · by_cases hki : k = i
            · subst hki
              rw [List.getElem?_set_self (by rw [List.length_map]; exact hi6)] at hk
              have ed : doors.getD k "" = z := by rw [List.getD_eq_getElem?_getD, hi']; rfl
              rw [ed] at hd
              exact eR k z rfl hi' (Option.some.inj hk) d H' hd (s2.trans s3) (s2.free hn)
            · rw [List.getElem?_set_ne (fun e => hki e.symm), List.getElem?_map] at hk
              cases e : rs[k]? with
              | none =>
                rw [e] at hk
                cases hk
              | some r =>
                rw [e] at hk
                cases hk
      · rw [decide_eq_false hz]
        exact ⟨_, rfl, err_made fun d H5 hd s5 hn => eD (decide_eq_false hz) d H5 hd s5 hn⟩
end
end Sh

namespace Sh
open PySem L2
section
variable {P : Program} {w : World} {K : PySem.W.Frag} {mg : Str → Option Value} {base : Heap} {aA aD : Addr}
/-! ### distinct doors -/
inductive DoorsCl (K : PySem.W.Frag) (H : Hp) : V → Bool → Prop
  | tup {a : Addr} {xs : List V} {bs : List Bool} (h : SqT K H a xs) (few : xs.length ≤ 1000) (p : Paired (Among K H doors) xs bs) : DoorsCl K H (.ref a) (bs.all id && decide xs.Nodup)
  | other {v : V} {t : Value} (ty : TyX K H v t) (no : PySem.W.kitOne K t (.type "tuple") = some false) : DoorsCl K H v false
def spDist (K : PySem.W.Frag) : Sp := fun vs H Q _ => ∃ v b, vs = [v] ∧ DoorsCl K H v b ∧ ∀ H', Same H H' → Q (.bl b) H'
abbrev s_dist : Stmt := top 12
theorem sc_dist : FnScope ["value", "part"] ["value"] (defScope s_dist) := ⟨rfl, rfl, rfl, by decide +kernel, rfl, by decide +kernel, by decide +kernel⟩
theorem ok_dist {f fA : Addr} {fd fdA : FuncData} (F : Fun K "are_distinct_doors" "are_distinct_doors" s_dist f fd) (B : TxtB mg) (bset : mg "set" = none) (T : TxtK K mg aA aD) (gA : mg "is_door" = some (.ref fA)) (FA : Fun K "is_door" "is_door" s_isdoor fA fdA) (bA : Binds K fdA ["value"] []) :
    FnOk P w K mg base CX0 2 f fd ["value"] (spDist K) := by
  have GA : FnOk P w K mg base CX0 1 fA fdA ["value"] (spAmong K doors) := ok_isdoor FA B T
  refine F.ok sc_dist (fun vs H Q E h => ?_) (fun cdv A outer s H vs Q E hr h => ?_)
  · obtain ⟨v, b, rfl, _⟩ := h
    rfl
  · obtain ⟨v, b, rfl, hv, q⟩ := h
    refine ⟨_, (pss_cons (ps_if (PW.pt (pw_or (pt_not (pt_val (pe_callB call_isi (by rfl) B.b_isinstance (by decide +kernel) (pa_cons (pv 0) (pa_cons (pe_bltn (v := .ty "tuple") (by rfl) B.b_tuple (by decide +kernel) rfl) pa_nil))))) (pw_or1 (pt_not (pt_val (pe_callB (cr_all rfl) (by rfl) B.b_all (by decide +kernel) (pa_cons (pe_lc (own := [("part", 1)]) (g := (gName 1)) (by rfl) sc_dist.nd (pi_tup (pv 0)) (blkOk_by (own := [("part", 1)]) (N := ["value", "part"]) (sc := defScope s_dist) (by decide +kernel)) (fun _ _ _ _ _ => (pg_name (i := 1) sc_dist.nd rfl (Or.inl rfl))) (fun _ _ _ _ _ => pts_nil) (fun _ _ _ _ _ => (pe_call GA hr (by rfl) gA FA.kp bA .nil pass0 (pa_cons (pv 1) pa_nil)))) pa_nil))))))) (pss_one (ps_ret pe_bl)) pss_nil)
  (pss_one (ps_ret (pe_cmpR op_eq (pe_lenSetT rfl (by rfl) B.b_len (by rfl) bset (pv 0)) (pe_callB call_len_seq (by rfl) B.b_len (by decide +kernel) (pa_cons (pv 0) pa_nil)) (nomark _))))), ?_⟩
    refine ⟨_, rfl, ?_⟩
    cases hv with
    | other ty no =>
      refine ⟨_, _, _, _, false, rfl, .ty "tuple", ty, no, ?_⟩
      exact ⟨_, rfl, q _ (Same.refl _)⟩
    | @tup a xs bs h few p =>
      refine ⟨_, _, _, _, true, rfl, .ty "tuple", sqT_tyX h, kit_ty (by decide +kernel), ?_⟩
      refine ⟨_, rfl, ?_⟩
      refine ⟨_, rfl, a, rfl, ⟨_, h⟩, fun D hD => ?_⟩
      refine lc_tup (K := K) (a := a) (xs := xs) (fun i H' => H' D = some (.lst ((bs.take i).map V.bl)) ∧ Same H H') ?_ ?_ ?_ ?_
      · exact ⟨upd_same, same_new hD⟩
      · intro i H' _ ⟨_, s'⟩
        exact sqT_same s' h
      · rintro i x H' hx ⟨hD', s'⟩
        obtain ⟨b, hb, hxb⟩ := pair_get1 p hx
        refine ⟨rfl, ?_⟩
        refine ⟨_, rfl, x, b, rfl, among_same s' hxb, ?_⟩
        refine ⟨_, hD', ?_, ?_, ?_⟩
        · rw [List.length_map, List.length_take]
          exact small1000 (by have := (List.getElem?_eq_some_iff.mp hx).1; omega)
        · rw [upd_same, List.take_add_one, hb]
          simp
        · exact same_upd s' hD
      · rintro H' ⟨hD', s'⟩
        refine ⟨D, bs, rfl, SqL.of (by rw [hD', p.length, List.take_length]), _, rfl, ?_⟩
        cases hb : bs.all id with
        | false =>
          have q' := q _ s'
          rw [hb] at q'
          exact q'
        | true =>
          obtain ⟨zs, ez, hz⟩ := among_true p hb
          subst ez
          have q' := q _ s'
          rw [hb, Bool.true_and] at q'
          refine ⟨_, rfl, a, zs, rfl, sqT_same s' h, by rw [List.length_map] at few; exact few, ?_⟩
          refine ⟨_, rfl, a, _, rfl, .inr (sqT_same s' h), rfl, ?_⟩
          have e : decide (V.int ((once (zs.map (Sum.inr : Str → Key))).length : Nat) = V.int ((zs.map V.str).length : Nat)) = decide (zs.map V.str).Nodup := by
            have h1 : (zs.map V.str).Nodup ↔ zs.Nodup := nd_map fun _ _ e => V.str.inj e
            rw [decide_eq_decide, h1, ← once_texts, List.length_map]
            constructor
            · intro z
              have := V.int.inj z
              omega
            · intro z
              rw [z]
          show Q (.bl (decide (V.int ((once (zs.map (Sum.inr : Str → Key))).length : Nat) = V.int ((zs.map V.str).length : Nat)))) H'
          rw [e]
          exact q'
/-! ### asking -/
structure OwnTxt (K : PySem.W.Frag) (mg : Str → Option Value) (x : Str) (C : Addr) : Prop where
  xP : PySem.W.excIn K C [.type "ValueError", .type "Exception", .type "BaseException", .type "object"] "ValueError.__new__" = true
  g : mg x = some (.ref C)
  k : PySem.W.keepIn K (.ref C) = true
  b : PySem.W.subIn K (.ref C) (.type "BaseException") = some true
  t : PySem.W.typeIn K (.ref C) = some (.type "type")
def asked (zs : List Str) (d : Str) (r : List Str) : List Str := if d ∈ zs then r ++ [("ask" : Str)] else r
def askedAll (zs : List Str) (rs : List (List Str)) : List (List Str) := List.zipWith (asked zs) doors rs
def spAsk (K : PySem.W.Frag) (C CN CR : Addr) : Sp := fun vs H Q E => ∃ (p : Addr) (v : V) (b : Bool) (zs : List Str) (rs : List (List Str)), vs = [.ref p, v] ∧ BookAt K C H p rs ∧ (∀ r ∈ rs, IsRule r) ∧ DoorsCl K H v b ∧
  (b = true → ∃ a : Addr, v = .ref a ∧ SqT K H a (zs.map V.str) ∧ ∀ z ∈ zs, z ∈ doors) ∧
  (b = false → ∀ H', Same H H' → E (.ref CN) none H') ∧
  (b = true → (∀ (i : Nat) (z : Str) (r : List Str), doors[i]? = some z → rs[i]? = some r → z ∈ zs → r.length = 6 → (∀ (j : Nat) (y : Str) (t : List Str), j < i → doors[j]? = some y → rs[j]? = some t → y ∈ zs → t.length < 6) →
      ∀ d H', H' d = some (.xd [("door", .str z)]) → Same H H' → H d = none → E (.ref CR) (some d) H') ∧
    ((∀ (i : Nat) (z : Str) (r : List Str), doors[i]? = some z → rs[i]? = some r → z ∈ zs → r.length < 6) → ∀ x H', BookAt K C H' x (askedAll zs rs) → Same H H' → Q (.ref x) H'))
theorem ruleCl_acts {H : Hp} {v : V} {r : List Str} (h : RuleAt K H v r) (ha : ∀ x ∈ r, x ∈ acts) : RuleCl K H v (decide (r.length ≤ 6)) := by
  obtain ⟨a, rfl, h⟩ := h
  have e : (decide ((r.map V.str).length ≤ 6) && (r.map fun z => decide (z ∈ acts)).all id) = decide (r.length ≤ 6) := by
    have all : (r.map fun z => decide (z ∈ acts)).all id = true := by
      rw [List.all_eq_true]
      intro b hb
      obtain ⟨z, hz, rfl⟩ := List.mem_map.mp hb
      exact decide_eq_true (ha z hz)
    rw [all, Bool.and_true, List.length_map]
  rw [← e]
  exact .tup h (sqT_tyX h) fun _ => among_strs acts r
theorem ruleCls_acts {H : Hp} : ∀ {ws : List V} {rs : List (List Str)}, Paired (RuleAt K H) ws rs → (∀ r ∈ rs, ∀ x ∈ r, x ∈ acts) → Paired (RuleCl K H) ws (rs.map fun r => decide (r.length ≤ 6))
  | _, _, .nil, _ => .nil
  | _, _, .cons a b, h => .cons (ruleCl_acts a (h _ (List.mem_cons_self ..))) (ruleCls_acts b fun r hr => h r (List.mem_cons_of_mem _ hr))
/-- Book of six tuples of actions, some of them perhaps too long -/
theorem book_gen {C CR x dx : Addr} {H : Hp} {ws : List V} {rs : List (List Str)} {R : VK} {E : XK} (hx : H x = none) (hdx : H dx = none) (pr : Paired (RuleAt K H) ws rs) (ha : ∀ r ∈ rs, ∀ x ∈ r, x ∈ acts) (h6 : rs.length = 6)
    (good : (∀ r ∈ rs, r.length ≤ 6) → ∀ H', BookAt K C H' x rs → Same H H' → R .non H')
    (bad : ∀ (i : Nat) (r : List Str), rs[i]? = some r → 6 < r.length → (∀ (j : Nat) (t : List Str), j < i → rs[j]? = some t → t.length ≤ 6) → ∀ d H', H' d = some (.xd [("door", .str (doors.getD i ""))]) → Same H H' → H d = none → E (.ref CR) (some d) H') :
    spBInit K C CR (.ref x :: ws) (upd (upd H dx (.own x)) x (.ins C dx [])) R E := by
  have s1 : Same H (upd (upd H dx (.own x)) x (.ins C dx [])) := fun b o e => by
    rw [upd_ne (ne_of_none e hx), upd_ne (ne_of_none e hdx)]
    exact e
  refine ⟨x, dx, ws, rs.map fun r => decide (r.length ≤ 6), rfl, by rw [pr.length, h6], upd_same, pair_map (fun _ _ q => ruleCl_same s1 q) (ruleCls_acts pr ha), fun all H' l h1 h2 h3 h4 => ?_, fun i hi hj d H' hd s2 hn => ?_⟩
  · have s2 : Same H H' := fun b o e => h4 b o (s1 b o e) (ne_of_none e hx)
    exact good (fun r hr => of_decide_eq_true (all _ (List.mem_map.mpr ⟨r, hr, rfl⟩))) H' ⟨dx, l, h1, ⟨l, ws, rfl, SqT.of h2, s2.kt.rules pr⟩, h6⟩ s2
  · rw [List.getElem?_map] at hi
    cases e : rs[i]? with
    | none =>
      rw [e] at hi
      cases hi
    | some r =>
      rw [e] at hi
      have hr := of_decide_eq_false (Option.some.inj hi)
      refine bad i r e (by omega) (fun j t lt et => ?_) d H' hd (s1.trans s2) (s1.free hn)
      have := hj j lt
      rw [List.getElem?_map, et] at this
      exact of_decide_eq_true (Option.some.inj this)
theorem asked_at {zs : List Str} {rs : List (List Str)} {i : Nat} {z : Str} {r : List Str} (hz : doors[i]? = some z) (hr : rs[i]? = some r) : (askedAll zs rs)[i]? = some (asked zs z r) := by
  unfold askedAll
  rw [List.getElem?_zipWith, hz, hr]
theorem asked_len {zs : List Str} {rs : List (List Str)} (h6 : rs.length = 6) : (askedAll zs rs).length = 6 := by
  unfold askedAll
  rw [List.length_zipWith, h6]
  rfl
abbrev s_ask : Stmt := inClass (top 13) 5
theorem sc_ask : FnScope ["self", "doors", "rules", "door", "rule"] ["self", "doors"] (defScope s_ask) := ⟨rfl, rfl, rfl, by decide +kernel, rfl, by decide +kernel, by decide +kernel⟩
theorem ok_ask {f C CN CR fS fI : Addr} {fd fdS fdI : FuncData} (F : Fun K "asking" "Book.asking" s_ask f fd) (B : TxtB mg) (T : TxtK K mg aA aD) (TB : TxtBook K mg C) (O : OwnTxt K mg "NoDoors" CN)
    (gS : mg "are_distinct_doors" = some (.ref fS)) (kS : PySem.W.keepIn K (.ref fS) = true) (bS : Binds K fdS ["value"] []) (GS : FnOk P w K mg base CX0 2 fS fdS ["value"] (spDist K))
    (MK : Mk K C fI) (GI : FnOk P w K mg base (L2.CX P w) 4 fI fdI pI (spBInit K C CR)) (b6 : Binds K fdI pI []) : FnOk P w K mg base (L2.CX P w) 6 f fd ["self", "doors"] (spAsk K C CN CR) := by
  refine F.okX sc_ask (fun vs H Q E h => ?_) (fun cdv A outer s H vs Q E hr h => ?_)
  · obtain ⟨p, v, b, zs, rs, rfl, _⟩ := h
    rfl
  · obtain ⟨p, v, b, zs, rs, rfl, hb, hrs, hv, hvz, eN, q⟩ := h
    have r2 : Room 2 _ := hr.mono (by decide)
    refine ⟨_, (pss_cons (ps_if (pt_not (pt_val (pe_call GS r2 (by rfl) gS kS bS .nil pass0 (pa_cons (pv 1) pa_nil)))) (pss_one (ps_raise rfl (takes_of rfl rfl rfl rfl) (pmk_own PySem.F.excBase_ValueError O.xP O.g O.k (raises_own O.b O.t) rfl))) pss_nil)
  (pss_cons (ps_setLc (i := 2) (own := [("door", 3), ("rule", 4)]) (g := (gTup K 2 (gCons (gName 3) (gCons (gName 4) gNil)))) (by rfl) sc_ask.nd rfl rfl (sw_true rfl rfl rfl (by decide +kernel)) (RZ.pi_zipA (by rfl) B.b_zip (pa_cons (pe_glob (v := .ref aD) (by rfl) T.g_DOORS rfl) (pa_cons (pe_fld (pv 0) rfl) pa_nil))) (blkOk_by (own := [("door", 3), ("rule", 4)]) (N := ["self", "doors", "rules", "door", "rule"]) (sc := defScope s_ask) (by decide +kernel)) (fun _ _ _ _ _ => (pg_tup (by rfl) (pgs_cons (pg_name (i := 3) sc_ask.nd rfl (Or.inl rfl)) (pgs_cons (pg_name (i := 4) sc_ask.nd rfl (Or.inl rfl)) pgs_nil)))) (fun _ _ _ _ _ => pts_nil) (fun _ _ _ _ _ => (pe_ifExp (pt_cmpR (r := rIn K false) op_in_seq (pv 3) (pv 1) (by rfl)) (pe_op (r := rCatA K) op_catA (pv 4) (pe_tup (pa_cons pe_str pa_nil))) (pv 4))))
  (pss_one (ps_ret (pe_makeS MK GI hr (by rfl) TB.g b6 .nil (passes_call (takes_of rfl rfl rfl rfl) fun _ _ _ _ h => h) (pv 2)))))), ?_⟩
    obtain ⟨dx, l, hp, ⟨l', ws, el, hl, pr⟩, e6⟩ := id hb
    cases el
    refine ⟨_, rfl, v, b, rfl, hv, fun H0 s0 => ⟨_, rfl, ?_⟩⟩
    cases b with
    | false => exact eN rfl H0 s0
    | true =>
      obtain ⟨a, ev, hz, hsub⟩ := hvz rfl
      subst ev
      obtain ⟨qfull, qgood⟩ := q rfl
      have hw6 : ws.length = 6 := pr.length.trans e6
      refine ⟨_, rfl, p, C, dx, _, .ref l, rfl, s0 _ _ hp, TB.cl, TB.nR, rfl, aD, l, _, ws, rfl, .inr ⟨T.sD _, sqT_same s0 hl, fun D hD => ?_⟩⟩
      refine lc_it (walk_zipT (K := K) (a := aD) (b := l) (xs := doors.map V.str) (ys := ws) (by rw [hw6]; rfl)) (fun k H' => ∃ us, H' D = some (.lst us) ∧ Paired (RuleAt K H') us ((askedAll zs rs).take k) ∧ Same H0 H') ?_ ?_ ?_ ?_
      · exact ⟨[], upd_same, .nil, same_new hD⟩
      · rintro k H' _ ⟨_, _, _, s'⟩
        exact ⟨T.sD _, sqT_same (s0.trans s') hl⟩
      · rintro k x H1 H2 hk ⟨us, h1, p1, s1⟩ ⟨tu, n1, o1, rfl, ht, rfl, hn1, ho1⟩
        have nDt : D ≠ tu := ne_of_none h1 ht
        obtain ⟨dk, hdk, rfl⟩ : ∃ dk, doors[k]? = some dk ∧ n1 = V.str dk := by
          have hn1' : (doors.map V.str)[k]? = some n1 := hn1
          rw [List.getElem?_map] at hn1'
          cases e : doors[k]? with
          | none =>
            rw [e] at hn1'
            cases hn1'
          | some y =>
            rw [e] at hn1'
            exact ⟨y, rfl, (Option.some.inj hn1').symm⟩
        have ho1' : ws[k]? = some o1 := ho1
        obtain ⟨r1, hr1, ro1⟩ := pair_get1 pr ho1'
        have tk : (askedAll zs rs).take (k + 1) = (askedAll zs rs).take k ++ [asked zs dk r1] := by
          rw [List.take_add_one, asked_at hdk hr1]
          rfl
        have s2 : Same H0 (upd H1 tu (.tup [.str dk, o1])) := s1.trans (same_new ht)
        have ulen : us.length < sizeLine := by
          rw [p1.length, List.length_take, asked_len e6]
          exact small1000 (by omega)
        refine ⟨tu, _, rfl, SqT.of upd_same, rfl, .str dk, _, rfl, o1, _, rfl, rfl, rfl, ?_⟩
        have more : ∀ (y : V) (H3 : Hp), Same (upd H1 tu (.tup [.str dk, o1])) H3 → RuleAt K H3 y (asked zs dk r1) → ∃ acc, H3 D = some (.lst acc) ∧ acc.length < sizeLine ∧ ∃ us, upd H3 D (.lst (acc ++ [y])) D = some (.lst us) ∧
            Paired (RuleAt K (upd H3 D (.lst (acc ++ [y])))) us ((askedAll zs rs).take (k + 1)) ∧ Same H0 (upd H3 D (.lst (acc ++ [y]))) := fun y H3 s3 ry => by
          have h3 : H3 D = some (.lst us) := s3 _ _ (by rw [upd_ne nDt]; exact h1)
          refine ⟨us, h3, ulen, _, upd_same, ?_, same_upd (s2.trans s3) hD⟩
          rw [tk]
          exact (kt_lst h3).rules (pair_snoc ry (((same_new ht).trans s3).kt.rules p1))
        refine ⟨_, rfl, _, rfl, a, zs.map V.str, rfl, .inr (sqT_same (s0.trans s2) hz), rfl, flat_strs zs, ?_⟩
        have e1 : inV (.str dk) (zs.map V.str) = decide (dk ∈ zs) := inV_strs dk zs
        show ∃ c, V.bl (inV (.str dk) (zs.map V.str)) = V.bl c ∧ _
        rw [e1]
        refine ⟨_, rfl, ?_⟩
        by_cases hm : dk ∈ zs
        · rw [decide_eq_true hm]
          obtain ⟨ao, rfl, so⟩ := ro1
          refine ⟨_, rfl, by show 1 ≤ sizeLine; decide, fun tt htt => ?_⟩
          have s3 := same_new (o := .tup [V.str "ask"]) htt
          have len1 : r1.length ≤ 6 := (hrs r1 (List.mem_of_getElem? hr1)).1
          refine ⟨ao, tt, r1.map V.str, [V.str "ask"], rfl, rfl, sqT_same ((s0.trans s2).trans s3) so, SqT.of upd_same, ?_, fun e => ?_, (fun _ e => by cases e), fun _ _ pn hpn => ?_⟩
          · rw [List.length_map]
            exact Nat.le_of_lt (small1000 (show r1.length + 1 ≤ 1000 by omega))
          · have er : r1 = [] := by
              cases r1 with
              | nil => rfl
              | cons _ _ => cases e
            refine more _ _ s3 ⟨tt, rfl, SqT.of ?_⟩
            rw [upd_same, er]
            unfold asked
            rw [if_pos hm]
            rfl
          · refine more _ _ (s3.trans (same_new hpn)) ⟨pn, rfl, SqT.of ?_⟩
            rw [upd_same]
            unfold asked
            rw [if_pos hm, List.map_append]
            rfl
        · rw [decide_eq_false hm]
          refine ⟨_, rfl, more _ _ (Same.refl _) ?_⟩
          unfold asked
          rw [if_neg hm]
          exact (s0.trans s2).kt.rule ro1
      · rintro H1 ⟨us, h1, p1, s1⟩
        have full : (askedAll zs rs).take (doors.map V.str).length = askedAll zs rs := List.take_of_length_le (by rw [asked_len e6]; exact Nat.le_refl 6)
        rw [full] at p1
        have s2 := s0.trans s1
        refine ⟨_, rfl, D, us, rfl, .inr (SqL.of h1), fun x dx hx hdx ne => ?_⟩
        rw [List.append_nil]
        have at_ : ∀ {i : Nat} {t : List Str}, (askedAll zs rs)[i]? = some t → ∃ z r, doors[i]? = some z ∧ rs[i]? = some r ∧ t = asked zs z r := fun {i t} e => by
          have lt : i < 6 := by
            have := (List.getElem?_eq_some_iff.mp e).1
            rw [asked_len e6] at this
            exact this
          have h1 : doors[i]? = some (doors[i]'lt) := List.getElem?_eq_getElem lt
          have h2 : rs[i]? = some (rs[i]'(by omega)) := List.getElem?_eq_getElem (by omega)
          refine ⟨_, _, h1, h2, ?_⟩
          rw [asked_at h1 h2] at e
          exact (Option.some.inj e).symm
        refine book_gen hx hdx p1 (fun r hr y hy => ?_) (asked_len e6) (fun all H' hbk s3 => ⟨rfl, ?_⟩) (fun i t et lt before d H' hd s3 hn => ?_)
        · obtain ⟨i, hi, e⟩ := List.getElem_of_mem hr
          obtain ⟨z, r0, hz0, hr0, er⟩ := at_ (i := i) (t := r) (by rw [List.getElem?_eq_getElem hi, e])
          have h0 := (hrs r0 (List.mem_of_getElem? hr0)).2
          rw [er] at hy
          unfold asked at hy
          split at hy
          · rcases List.mem_append.mp hy with hy | hy
            · exact h0 y hy
            · rw [List.mem_singleton.mp hy]
              decide
          · exact h0 y hy
        · refine qgood (fun i z r hz0 hr0 hm => ?_) x H' hbk (s2.trans s3)
          have := all _ (List.mem_of_getElem? (asked_at (zs := zs) hz0 hr0))
          unfold asked at this
          rw [if_pos hm, List.length_append, List.length_singleton] at this
          omega
        · obtain ⟨z, r, hz0, hr0, er⟩ := at_ et
          have l6 := (hrs r (List.mem_of_getElem? hr0)).1
          rw [er] at lt
          unfold asked at lt
          by_cases hm : z ∈ zs
          · rw [if_pos hm, List.length_append, List.length_singleton] at lt
            have ed : doors.getD i "" = z := by rw [List.getD_eq_getElem?_getD, hz0]; rfl
            rw [ed] at hd
            refine qfull i z r hz0 hr0 hm (by omega) (fun j y t lj hy ht hmj => ?_) d H' hd (s2.trans s3) (s2.free hn)
            have := before j _ lj (asked_at (zs := zs) hy ht)
            unfold asked at this
            rw [if_pos hmj, List.length_append, List.length_singleton] at this
            omega
          · rw [if_neg hm] at lt
            omega
end
end Sh

namespace Sh
open PySem L2
section
variable {P : Program} {w : World} {K : PySem.W.Frag} {mg : Str → Option Value} {base : Heap} {aA aD : Addr}
/-! ### parts and sums of tuples -/
theorem cut_lo {xs : List V} {k : Nat} (h : k ≤ xs.length) : cutV xs none (some (k : Int)) = xs.take k := by
  unfold cutV
  rw [HT.sIx_none, HT.sIx_nat, Nat.min_eq_left h, List.drop_zero, Nat.sub_zero]
theorem cut_hiA {xs : List V} {k : Nat} : cutV xs (some (k : Int)) none = xs.drop k := by
  unfold cutV
  rw [HT.sIx_none, HT.sIx_nat]
  rcases Nat.le_total k xs.length with h | h
  · rw [Nat.min_eq_left h, List.take_of_length_le (by rw [List.length_drop]; exact Nat.le_refl _)]
  · rw [Nat.min_eq_right h, List.drop_length, List.drop_of_length_le h]
    simp
theorem cut_full {xs : List V} {lo hi : Option Int} (h : HT.sIx xs.length 0 lo = 0 ∧ HT.sIx xs.length xs.length hi = xs.length) : cutV xs lo hi = xs := by
  unfold cutV
  rw [h.1, h.2, List.drop_zero, Nat.sub_zero, List.take_length]
theorem slA_of {K : PySem.W.Frag} {H : Hp} {a : Addr} {xs : List V} {lo hi : Option Int} {Q : VK} (h : SqT K H a xs) (q : ∀ p H', SqT K H' p (cutV xs lo hi) → Same H H' → Q (.ref p) H') : rSlA K (.ref a) lo hi H Q :=
  ⟨a, xs, rfl, h, fun e => q a H (by rw [cut_full e]; exact h) (Same.refl _), fun _ p hp => q p _ (SqT.of upd_same) (same_new hp)⟩
theorem catA_of {K : PySem.W.Frag} {H : Hp} {a b : Addr} {xs ys : List V} {Q : VK} (ha : SqT K H a xs) (hb : SqT K H b ys) (hl : xs.length + ys.length ≤ 1000) (q : ∀ p H', SqT K H' p (xs ++ ys) → Same H H' → Q (.ref p) H') : rCatA K (.ref a) (.ref b) H Q :=
  ⟨a, b, xs, ys, rfl, rfl, ha, hb, Nat.le_of_lt (small1000 hl), fun e => q b H (by rw [e]; exact hb) (Same.refl _), fun _ e => q a H (by rw [e, List.append_nil]; exact ha) (Same.refl _), fun _ _ p hp => q p _ (SqT.of upd_same) (same_new hp)⟩
/-! ### rules near to others -/
def spNear (K : PySem.W.Frag) : Sp := fun vs H Q _ => ∃ (j : Addr) (v : V) (n : Nat) (rs : List (List Str)), vs = [.ref j, v] ∧ JarAt H j n ∧ n ≤ 2 ^ 75 ∧ SixAt K H v rs ∧ rs.length = 6 ∧ (∀ r ∈ rs, IsRule r) ∧
  ∀ (a : Addr) (ms : List (List Str)) (H' : Hp), SixAt K H' (.ref a) ms → ms.length = 6 → (∀ r ∈ ms, IsRule r) → JarAt H' j (n + 200) → Kp j H H' → Q (.ref a) H'
/-- the list that is being changed -/
structure FoSt (K : PySem.W.Frag) (H0 H : Hp) (j fo : Addr) (n : Nat) (ms : List (List Str)) : Prop where
  l : ∃ zs, H fo = some (.lst zs) ∧ Paired (RuleAt K H) zs ms
  len : ms.length = 6
  ru : ∀ r ∈ ms, IsRule r
  new : H0 fo = none
  jar : JarAt H j n
  kp : Kp j H0 H
theorem FoSt.set {H0 H : Hp} {j fo : Addr} {n : Nat} {ms : List (List Str)} (S : FoSt K H0 H j fo n ms) (ne : fo ≠ j) {i : Nat} {x : V} {r : List Str} (hx : RuleAt K H x r) (hr : IsRule r) :
    ∃ zs, H fo = some (.lst zs) ∧ zs.length = 6 ∧ FoSt K H0 (upd H fo (.lst (zs.set i x))) j fo n (ms.set i r) := by
  obtain ⟨zs, h, p⟩ := S.l
  refine ⟨zs, h, p.length.trans S.len, ⟨_, upd_same, paired_set ((kt_lst h).rule hx) i ((kt_lst h).rules p)⟩, by rw [List.length_set]; exact S.len, fun y hy => ?_, S.new, S.jar.keep fun o e => by rw [upd_ne ne.symm]; exact e, kp_fresh (Kp.refl j H0) S.new S.kp⟩
  rcases List.mem_or_eq_of_mem_set hy with h1 | h1
  · exact S.ru y h1
  · rw [h1]
    exact hr
theorem FoSt.jk {H0 H H' : Hp} {j fo : Addr} {n m : Nat} {ms : List (List Str)} (S : FoSt K H0 H j fo n ms) (ne : fo ≠ j) (J : JarAt H' j m) (k : Kp j H H') : FoSt K H0 H' j fo m ms := by
  obtain ⟨zs, h, p⟩ := S.l
  exact ⟨⟨zs, k _ _ ne h, (S.jar.kt k).rules p⟩, S.len, S.ru, S.new, J, S.kp.trans k⟩
abbrev s_near : Stmt := top 19
abbrev nNear : List Str := ["jar", "six", "at", "other", "found", "way"]
theorem sc_near : FnScope nNear ["jar", "six"] (defScope s_near) := ⟨rfl, rfl, rfl, by decide +kernel, rfl, by decide +kernel, by decide +kernel⟩
theorem ixN6 {z : Int} (h0 : 0 ≤ z) (h6 : z < 6) {n : Nat} (e : n = 6) : ixN n z = some z.toNat := by
  unfold ixN
  rw [e, if_pos h0, if_pos (show z < ((6 : Nat) : Int) by omega)]
theorem ok_near {f fD fR fS : Addr} {fd fdD fdR fdS : FuncData} (F : Fun K "_law_near" "_law_near" s_near f fd) (T : TxtB mg) (blist : mg "list" = none)
    (gD : mg "_law_draw" = some (.ref fD)) (kD : PySem.W.keepIn K (.ref fD) = true) (bD : Binds K fdD ["jar", "many"] []) (GD : FnOk P w K mg base CX0 1 fD fdD ["jar", "many"] spDraw)
    (gR : mg "_law_rule" = some (.ref fR)) (kR : PySem.W.keepIn K (.ref fR) = true) (bR : Binds K fdR ["jar", "most"] []) (GR : FnOk P w K mg base CX0 2 fR fdR ["jar", "most"] spRule)
    (gS : mg "_law_six" = some (.ref fS)) (kS : PySem.W.keepIn K (.ref fS) = true) (bS : Binds K fdS ["jar"] []) (GS : FnOk P w K mg base CX0 3 fS fdS ["jar"] (spSix K)) : FnOk P w K mg base CX0 4 f fd ["jar", "six"] (spNear K) := by
  refine F.ok sc_near (fun vs H Q E h => ?_) (fun cdv A outer s H vs Q E hr h => ?_)
  · obtain ⟨j, v, n, rs, rfl, _⟩ := h
    rfl
  · obtain ⟨j, v, n, rs, rfl, J, hn, h6, e6, hrs, q⟩ := h
    have r1 : Room 1 _ := hr.mono (by decide)
    have r2 : Room 2 _ := hr.mono (by decide)
    refine ⟨_, (pss_cons (ps_par (i := 2) (j := 3) (by rfl) sc_near.nd rfl rfl (by decide) rfl rfl (pa_cons (pe_call GD r1 (by rfl) gD kD bD .nil pass0 (pa_cons (pv 0) (pa_cons pe_int pa_nil))) (pa_cons (pe_call GD r1 (by rfl) gD kD bD .nil pass0 (pa_cons (pv 0) (pa_cons pe_int pa_nil))) pa_nil)) (by rfl))
  (pss_cons (ps_par (i := 4) (j := 5) (by rfl) sc_near.nd rfl rfl (by decide) rfl rfl (pa_cons (pe_callTy call_list_of (by rfl) blist (by decide +kernel) (pa_cons (pv 1) pa_nil)) (pa_cons (pe_call GD r1 (by rfl) gD kD bD .nil pass0 (pa_cons (pv 0) (pa_cons pe_int pa_nil))) pa_nil)) (by rfl))
  (pss_cons (ps_if (PW.pt (pw_and (pt_cmpR op_eq (pv 5) pe_int (nomark _)) (pw_and1 (pt_cmpR op_lt (pe_callB call_len_seq (by rfl) T.b_len (by decide +kernel) (pa_cons (pe_ix ix_tup (pv 1) (pv 2) (fun _ _ => rfl)) pa_nil)) pe_int (nomark _))))) (pss_one (ps_asg (pe_op op_catA (pe_ix ix_tup (pv 1) (pv 2) (fun _ _ => rfl)) (pe_call GR r2 (by rfl) gR kR bR .nil pass0 (pa_cons (pv 0) (pa_cons pe_int pa_nil)))) (pg_sub (pv 4) (pv 2) set_list))) pss_nil)
  (pss_cons (ps_if (pt_cmpR op_eq (pv 5) pe_int (nomark _)) (pss_one (ps_asg (pe_slice sl_tupA (pe_ix ix_tup (pv 1) (pv 2) (fun _ _ => rfl)) (po_some pe_int) po_none) (pg_sub (pv 4) (pv 2) set_list))) pss_nil)
  (pss_cons (ps_if (pt_cmpR op_eq (pv 5) pe_int (nomark _)) (pss_one (ps_asg (pe_call GR r2 (by rfl) gR kR bR .nil pass0 (pa_cons (pv 0) (pa_cons pe_int pa_nil))) (pg_sub (pv 4) (pv 2) set_list))) pss_nil)
  (pss_cons (ps_if (pt_cmpR op_eq (pv 5) pe_int (nomark _)) (pss_cons (ps_asg (pe_ix ix_tup (pv 1) (pv 3) (fun _ _ => rfl)) (pg_sub (pv 4) (pv 2) set_list))
  (pss_one (ps_asg (pe_ix ix_tup (pv 1) (pv 2) (fun _ _ => rfl)) (pg_sub (pv 4) (pv 3) set_list)))) pss_nil)
  (pss_cons (ps_if (pt_cmpR op_eq (pv 5) pe_int (nomark _)) (pss_one (ps_set (i := 4) sc_near.nd rfl (Or.inl rfl) (pe_callTy call_list_of (by rfl) blist (by decide +kernel) (pa_cons (pe_call GS hr (by rfl) gS kS bS .nil pass0 (pa_cons (pv 0) pa_nil)) pa_nil)))) pss_nil)
  (pss_one (ps_ret (pe_callTy call_tuple_of (by rfl) T.b_tuple (by decide +kernel) (pa_cons (pv 4) pa_nil))))))))))), ?_⟩
    refine ⟨_, rfl, j, 6, n, rfl, J, by decide, by decide, Nat.le_trans hn (by decide), fun at_ H1 ha0 ha1 J1 k1 => ?_⟩
    refine ⟨_, rfl, j, 6, _, rfl, J1, by decide, by decide, by omega, fun ot H2 ho0 ho1 J2 k2 => ?_⟩
    refine ⟨_, _, rfl, ?_⟩
    have k02 := k1.trans k2
    obtain ⟨sa, ws, rfl, hs, pr⟩ := id ((J.kt k02).six h6)
    have w6 : ws.length = 6 := pr.length.trans e6
    refine ⟨_, rfl, sa, ws, rfl, .inr hs, fun fo hfo => ?_⟩
    have sF := same_new (o := .lst ws) hfo
    have nfj : fo ≠ j := J2.ne hfo
    have new0 : H fo = none := by
      cases e : H fo with
      | none => rfl
      | some o =>
        have := k02 _ _ nfj e
        rw [hfo] at this
        cases this
    have S3 : FoSt K H (upd H2 fo (.lst ws)) j fo (n + 1 + 1) rs := ⟨⟨ws, upd_same, sF.kt.rules pr⟩, e6, hrs, new0, J2.same sF, k02.trans (sF.kp j)⟩
    refine ⟨_, rfl, j, 6, _, rfl, S3.jar, by decide, by decide, by omega, fun way H4 hw0 hw1 J4 k4 => ?_⟩
    have S4 := S3.jk nfj J4 k4
    refine ⟨_, _, rfl, ?_⟩
    dsimp only [gName, tSeq]
    -- what stands of the first rules
    have six_ : ∀ {H' : Hp}, Kp j H H' → ∃ (us : List V), SqT K H' sa us ∧ Paired (RuleAt K H') us rs ∧ us.length = 6 := fun {H'} k => by
      obtain ⟨sa', us, e, hs', pr'⟩ := (J.kt k).six h6
      cases e
      exact ⟨us, hs', pr', pr'.length.trans e6⟩
    have item : ∀ {H' : Hp} (k : Kp j H H') (z : Int), 0 ≤ z → z < 6 → ∃ (us : List V) (u : V) (r : List Str), SqT K H' sa us ∧ atI us z = some u ∧ RuleAt K H' u r ∧ IsRule r := fun {H'} k z h0 h1 => by
      obtain ⟨us, hs', pr', l'⟩ := six_ k
      obtain ⟨r, hr'⟩ : ∃ r, rs[z.toNat]? = some r := ⟨_, List.getElem?_eq_getElem (show z.toNat < rs.length by omega)⟩
      obtain ⟨u, hu, ru⟩ := pair_get pr' hr'
      exact ⟨us, u, r, hs', at_of (j := z.toNat) (by omega) hu, ru, hrs r (List.mem_of_getElem? hr')⟩
    refine tIfS_via (fun σ' H' => σ' = [some (.ref j), some (.ref sa), some (.int at_), some (.int ot), some (.ref fo), some (.int way)] ∧ ∃ ms, FoSt K H H' j fo (n + 20) ms) (fun key => ?_) ?_
    · have S5 : FoSt K H H4 j fo (n + 20) rs := ⟨S4.l, S4.len, S4.ru, S4.new, S4.jar.mono (by omega), S4.kp⟩
      obtain ⟨us, u, r, hsu, hu, ru, irr⟩ := item S4.kp at_ ha0 ha1
      obtain ⟨ua, rfl, hua⟩ := id ru
      refine ⟨_, rfl, rfl, _, rfl, ?_⟩
      refine ite2 (fun _ => ?_) (fun _ => key _ _ ⟨rfl, rs, S5⟩)
      refine ⟨_, rfl, _, rfl, sa, us, at_, _, rfl, rfl, hsu, hu, ua, _, rfl, .inr hua, _, _, rfl, rfl, _, rfl, ?_⟩
      rw [List.length_map]
      refine ite2 (fun c => ?_) (fun _ => key _ _ ⟨rfl, rs, S5⟩)
      have l5 : r.length < 6 := Int.ofNat_lt.mp (of_decide_eq_true c)
      refine ⟨_, rfl, _, rfl, sa, us, at_, _, rfl, rfl, hsu, hu, ?_⟩
      refine ⟨_, rfl, j, 1, _, rfl, J4, by decide, by decide, by omega, fun fa fr H5 hfa hfr hact J5 k5 => ?_⟩
      have S6 := S4.jk nfj J5 k5
      refine catA_of ((J4.kt k5).sqT hua) (SqT.of hfa) ?_ fun p H6 hp s6 => ?_
      · rw [List.length_map, List.length_map]
        omega
      have S7 := S6.jk nfj (S6.jar.same s6) (s6.kp j)
      obtain ⟨zs, hz, lz, S8⟩ := S7.set nfj (i := at_.toNat) (x := .ref p) (r := r ++ fr) ⟨p, rfl, by rw [List.map_append]; exact hp⟩ ⟨by rw [List.length_append]; omega, fun y hy => by
        rcases List.mem_append.mp hy with hy | hy
        · exact irr.2 y hy
        · exact hact y hy⟩
      refine ⟨_, rfl, _, rfl, fo, zs, at_, at_.toNat, rfl, rfl, hz, ixN6 ha0 ha1 lz, ?_⟩
      exact key _ _ ⟨rfl, _, S8.l, S8.len, S8.ru, S8.new, S8.jar.mono (by omega), S8.kp⟩
    rintro σ5 H5 ⟨rfl, ms5, S5⟩
    dsimp only [tSeq]
    refine tIfS_via (fun σ' H' => σ' = [some (.ref j), some (.ref sa), some (.int at_), some (.int ot), some (.ref fo), some (.int way)] ∧ ∃ ms, FoSt K H H' j fo (n + 20) ms) (fun key => ?_) ?_
    · refine ⟨_, rfl, rfl, _, rfl, ?_⟩
      refine ite2 (fun _ => ?_) (fun _ => key _ _ ⟨rfl, ms5, S5⟩)
      obtain ⟨us, u, r, hsu, hu, ru, irr⟩ := item S5.kp at_ ha0 ha1
      obtain ⟨ua, rfl, hua⟩ := id ru
      refine ⟨_, rfl, _, rfl, sa, us, at_, _, rfl, rfl, hsu, hu, _, rfl, ?_⟩
      dsimp only [tNoPart]
      refine slA_of hua fun p H6 hp s6 => ?_
      rw [show (some (1 : Int)) = some ((1 : Nat) : Int) from rfl, cut_hiA, ← List.map_drop] at hp
      have S7 := S5.jk nfj (S5.jar.same s6) (s6.kp j)
      obtain ⟨zs, hz, lz, S8⟩ := S7.set nfj (i := at_.toNat) (x := .ref p) (r := r.drop 1) ⟨p, rfl, hp⟩ ⟨by rw [List.length_drop]; have := irr.1; omega, fun y hy => irr.2 y (List.mem_of_mem_drop hy)⟩
      refine ⟨_, rfl, _, rfl, fo, zs, at_, at_.toNat, rfl, rfl, hz, ixN6 ha0 ha1 lz, ?_⟩
      exact key _ _ ⟨rfl, _, S8⟩
    rintro σ6 H6 ⟨rfl, ms6, S6⟩
    dsimp only [tSeq]
    refine tIfS_via (fun σ' H' => σ' = [some (.ref j), some (.ref sa), some (.int at_), some (.int ot), some (.ref fo), some (.int way)] ∧ ∃ ms, FoSt K H H' j fo (n + 30) ms) (fun key => ?_) ?_
    · refine ⟨_, rfl, rfl, _, rfl, ?_⟩
      refine ite2 (fun _ => ?_) (fun _ => key _ _ ⟨rfl, ms6, S6.l, S6.len, S6.ru, S6.new, S6.jar.mono (by omega), S6.kp⟩)
      refine ⟨_, rfl, j, 6, _, rfl, S6.jar, by decide, by decide, by omega, fun fa fr H7 hfa hfr hact J7 k7 => ?_⟩
      have S7 := S6.jk nfj J7 k7
      obtain ⟨zs, hz, lz, S8⟩ := S7.set nfj (i := at_.toNat) (x := .ref fa) (r := fr) ⟨fa, rfl, SqT.of hfa⟩ ⟨by omega, hact⟩
      refine ⟨_, rfl, _, rfl, fo, zs, at_, at_.toNat, rfl, rfl, hz, ixN6 ha0 ha1 lz, ?_⟩
      exact key _ _ ⟨rfl, _, S8⟩
    rintro σ7 H7 ⟨rfl, ms7, S7⟩
    dsimp only [tSeq]
    refine tIfS_via (fun σ' H' => σ' = [some (.ref j), some (.ref sa), some (.int at_), some (.int ot), some (.ref fo), some (.int way)] ∧ ∃ ms, FoSt K H H' j fo (n + 30) ms) (fun key => ?_) ?_
    · refine ⟨_, rfl, rfl, _, rfl, ?_⟩
      refine ite2 (fun _ => ?_) (fun _ => key _ _ ⟨rfl, ms7, S7⟩)
      obtain ⟨us, u, r, hsu, hu, ru, irr⟩ := item S7.kp ot ho0 ho1
      refine ⟨_, rfl, _, rfl, sa, us, ot, _, rfl, rfl, hsu, hu, ?_⟩
      obtain ⟨zs, hz, lz, S8⟩ := S7.set nfj (i := at_.toNat) ru irr
      refine ⟨_, rfl, _, rfl, fo, zs, at_, at_.toNat, rfl, rfl, hz, ixN6 ha0 ha1 lz, ?_⟩
      obtain ⟨us', u', r', hsu', hu', ru', irr'⟩ := item S8.kp at_ ha0 ha1
      refine ⟨_, rfl, _, rfl, sa, us', at_, _, rfl, rfl, hsu', hu', ?_⟩
      obtain ⟨zs', hz', lz', S9⟩ := S8.set nfj (i := ot.toNat) ru' irr'
      refine ⟨_, rfl, _, rfl, fo, zs', ot, ot.toNat, rfl, rfl, hz', ixN6 ho0 ho1 lz', ?_⟩
      exact key _ _ ⟨rfl, _, S9⟩
    rintro σ8 H8 ⟨rfl, ms8, S8⟩
    dsimp only [tSeq]
    refine tIfS_via (fun σ' H' => ∃ fo', σ' = [some (.ref j), some (.ref sa), some (.int at_), some (.int ot), some (.ref fo'), some (.int way)] ∧ fo' ≠ j ∧ ∃ ms, FoSt K H H' j fo' (n + 190) ms) (fun key => ?_) ?_
    · refine ⟨_, rfl, rfl, _, rfl, ?_⟩
      refine ite2 (fun _ => ?_) (fun _ => key _ _ ⟨fo, rfl, nfj, ms8, S8.l, S8.len, S8.ru, S8.new, S8.jar.mono (by omega), S8.kp⟩)
      refine ⟨_, rfl, j, _, rfl, S8.jar, by omega, fun sb ts H9 h9 l9 ru9 J9 k9 => ?_⟩
      obtain ⟨sb', ws9, e, hs9, pr9⟩ := id h9
      cases e
      refine ⟨sb, ws9, rfl, .inr hs9, fun fp hfp => ?_⟩
      have sn := same_new (o := .lst ws9) hfp
      have npj : fp ≠ j := J9.ne hfp
      have k09 := S8.kp.trans k9
      have newp : H fp = none := by
        cases e : H fp with
        | none => rfl
        | some o =>
          have := k09 _ _ npj e
          rw [hfp] at this
          cases this
      exact key _ _ ⟨fp, rfl, npj, ts, ⟨ws9, upd_same, sn.kt.rules pr9⟩, l9, ru9, newp, (J9.same sn).mono (by omega), k09.trans (sn.kp j)⟩
    rintro σ9 H9 ⟨fo', rfl, ne', ms9, S9⟩
    obtain ⟨zs, hz, pz⟩ := S9.l
    refine ⟨_, rfl, fo', zs, rfl, .inl ⟨SqL.of hz, fun l hl => ?_⟩⟩
    have sn := same_new (o := .tup zs) hl
    exact q l ms9 _ ⟨l, zs, rfl, SqT.of upd_same, sn.kt.rules pz⟩ S9.len S9.ru ((S9.jar.same sn).mono (by omega)) (S9.kp.trans (sn.kp j))
end
end Sh

namespace Sh
open PySem L2
section
variable {P : Program} {w : World} {K : PySem.W.Frag} {mg : Str → Option Value} {base : Heap} {aA aD : Addr}
def rAny (K : PySem.W.Frag) (C : Addr) (neg : Bool) : R2 := fun x y H Q => rOwn K C neg x y H Q ∨ rRev K C neg x y H Q
section
variable {X : Cx} {C f : Addr} {fd : FuncData}
theorem op_eqY {E : XK} (hr : Room 2 X.A) (F : FnOk X.prog X.w X.K X.mg X.base CX0 1 f fd ["self", "other"] (spEqA X.K C)) (N : NeTxt X.K C f) (hb : Binds X.K fd ["self", "other"] []) (hx : Passes CX0 X E) : OpR X (compareOp .Eq) (rAny X.K C false) := by
  intro pins s σ H x y v u Q I rx ry h
  rcases h with h | h
  · exact op_eqO hr F N hb hx pins s σ H x y v u Q I rx ry h
  · exact op_eqV hr F N hb hx pins s σ H x y v u Q I rx ry h
theorem op_neY {E : XK} (hr : Room 2 X.A) (F : FnOk X.prog X.w X.K X.mg X.base CX0 1 f fd ["self", "other"] (spEqA X.K C)) (N : NeTxt X.K C f) (hb : Binds X.K fd ["self", "other"] []) (hx : Passes CX0 X E) : OpR X (compareOp .NotEq) (rAny X.K C true) := by
  intro pins s σ H x y v u Q I rx ry h
  rcases h with h | h
  · exact op_neO hr F N hb hx pins s σ H x y v u Q I rx ry h
  · exact op_neV hr F N hb hx pins s σ H x y v u Q I rx ry h
end
/-- both ways round -/
theorem both {C : Addr} {H : Hp} {a : Addr} {y : V} {k : Bool} (h : EqCl K C H a y k) (neg : Bool) {Q : VK} (q : Q (.bl (if neg then !k else k)) H) : rAny K C neg y (.ref a) H Q := by
  cases h with
  | @book b r1 r2 h1 h2 =>
    refine .inl ⟨b, _, rfl, .book h2 h1, ?_⟩
    have e : decide (r2 = r1) = decide (r1 = r2) := by
      by_cases e : r1 = r2
      · rw [e]
      · rw [decide_eq_false e, decide_eq_false fun q => e q.symm]
    rw [e]
    exact q
  | oth h1 h =>
    refine .inr ⟨_, a, _, rfl, h, h1, ?_⟩
    cases neg <;> exact q
def spEqual (K : PySem.W.Frag) (C : Addr) : Sp := fun vs H Q _ => ∃ (a : Addr) (y : V) (k : Bool), vs = [.ref a, y, .bl k] ∧ EqCl K C H a y k ∧ ∀ H', Same H H' → Q (.bl true) H'
abbrev s_equal : Stmt := top 20
abbrev nEqual : List Str := ["one", "other", "due", "told", "word"]
theorem sc_equal : FnScope nEqual ["one", "other", "due"] (defScope s_equal) := ⟨rfl, rfl, rfl, by decide +kernel, rfl, by decide +kernel, by decide +kernel⟩
theorem ok_equal {f fE C : Addr} {fd fdE : FuncData} (F : Fun K "_law_equal" "_law_equal" s_equal f fd) (T : TxtB mg) (bbool : mg "bool" = none)
    (GE : FnOk P w K mg base CX0 1 fE fdE ["self", "other"] (spEqA K C)) (N : NeTxt K C fE) (bE : Binds K fdE ["self", "other"] []) : FnOk P w K mg base CX0 3 f fd ["one", "other", "due"] (spEqual K C) := by
  refine F.ok sc_equal (fun vs H Q E h => ?_) (fun cdv A outer s H vs Q E hr h => ?_)
  · obtain ⟨a, y, k, rfl, _⟩ := h
    rfl
  · obtain ⟨a, y, k, rfl, hc, q⟩ := h
    refine ⟨_, (pss_cons (ps_set (i := 3) sc_equal.nd rfl (Or.inl rfl) (pe_lst (pa_cons (pe_cmpR (op_eqY hr GE N bE pass0) (pv 0) (pv 1) (nomark _)) (pa_cons (pe_cmpR (op_eqY hr GE N bE pass0) (pv 1) (pv 0) (nomark _)) (pa_cons (pe_not (pe_cmpR (op_neY hr GE N bE pass0) (pv 0) (pv 1) (nomark _))) (pa_cons (pe_not (pe_cmpR (op_neY hr GE N bE pass0) (pv 1) (pv 0) (nomark _))) pa_nil))))))
  (pss_one (ps_ret (pe_cmpR (op_eqP hr.units) (pe_lc (own := [("word", 4)]) (g := (gName 4)) (by rfl) sc_equal.nd (pi_list (pv 3)) (blkOk_by (own := [("word", 4)]) (N := nEqual) (sc := defScope s_equal) (by decide +kernel)) (fun _ _ _ _ _ => (pg_name (i := 4) sc_equal.nd rfl (Or.inl rfl))) (fun _ _ _ _ _ => (pts_one (PW.pt (pw_or (pt_not (pt_val (pe_callB (id := "isinstance") (r := rIsi K) call_isi (by rfl) T.b_isinstance (by decide +kernel) (pa_cons (pv 4) (pa_cons (pe_bltn (v := .ty "bool") (by rfl) bbool (by decide +kernel) rfl) pa_nil))))) (pw_or1 (pt_cmpR op_ne (pv 4) (pv 2) (nomark _))))))) (fun _ _ _ _ _ => (pv 4))) (pe_lst pa_nil) (nomark _))))), ?_⟩
    refine ⟨_, rfl, _, rfl, .inl ⟨a, k, rfl, hc, ?_⟩⟩
    refine ⟨_, rfl, _, rfl, both hc false ?_⟩
    refine ⟨_, rfl, _, rfl, .inl ⟨a, k, rfl, hc, ?_⟩⟩
    refine ⟨_, rfl, ?_⟩
    refine ⟨_, rfl, _, rfl, both hc true ?_⟩
    refine ⟨_, rfl, ?_⟩
    refine ⟨by show 4 ≤ sizeLine; decide, fun l hl => ?_⟩
    have hk : ∀ x ∈ ([.bl k, .bl (if false = true then !k else k), .bl (!(if true = true then !k else k)), .bl (!(if true = true then !k else k))] : List V), x = .bl k := fun x hx => by
      simp only [List.mem_cons, List.not_mem_nil, or_false] at hx
      rcases hx with rfl | rfl | rfl | rfl <;> cases k <;> rfl
    have hl1 : upd H l (.lst [.bl k, .bl (if false = true then !k else k), .bl (!(if true = true then !k else k)), .bl (!(if true = true then !k else k))]) l = some (.lst [.bl k, .bl (if false = true then !k else k), .bl (!(if true = true then !k else k)), .bl (!(if true = true then !k else k))]) := upd_same
    have s1 := same_new (o := .lst [.bl k, .bl (if false = true then !k else k), .bl (!(if true = true then !k else k)), .bl (!(if true = true then !k else k))]) hl
    refine ⟨_, rfl, l, rfl, ⟨_, SqL.of hl1⟩, fun D hD => ?_⟩
    refine lc_list (K := K) (a := l) (xs := [.bl k, .bl (if false = true then !k else k), .bl (!(if true = true then !k else k)), .bl (!(if true = true then !k else k))]) (fun i H' => H' D = some (.lst []) ∧ Same (upd H l (.lst [.bl k, .bl (if false = true then !k else k), .bl (!(if true = true then !k else k)), .bl (!(if true = true then !k else k))])) H') ?_ ?_ ?_ ?_
    · exact ⟨upd_same, same_new hD⟩
    · rintro i H' _ ⟨_, s'⟩
      exact SqL.of (s' _ _ hl1)
    · rintro i x H2 hx ⟨h2, s2⟩
      have e := hk x (List.mem_of_getElem? hx)
      subst e
      refine ⟨rfl, ?_⟩
      refine ⟨_, rfl, _, _, _, _, true, rfl, .ty "bool", .base (.bl k), kit_ty (by decide +kernel), ?_⟩
      refine ⟨_, rfl, ?_⟩
      refine ite2 (fun c => by cases c) (fun _ => ?_)
      refine ⟨_, rfl, _, rfl, rfl, _, rfl, ?_⟩
      refine ite2 (fun c => by simp at c) (fun _ => ?_)
      exact ⟨h2, s2⟩
    · rintro H2 ⟨h2, s2⟩
      refine ⟨Nat.zero_le _, fun l0 hl0 => ?_⟩
      have s3 := same_new (o := .lst []) hl0
      refine ⟨.list [], .list [], .lst (SqL.of (s3 _ _ h2)) .nil, .lst (SqL.of upd_same) .nil, rfl, rfl, by decide, ?_⟩
      have e : PyData.eqv (.list []) (.list []) = true := PySem.SeqAt.eqv_refl_plain _ rfl
      rw [e]
      exact q _ ((s1.trans s2).trans s3)
end
end Sh

namespace Sh
open PySem L2
section
variable {P : Program} {w : World} {K : PySem.W.Frag} {mg : Str → Option Value} {base : Heap} {aA aD : Addr}
theorem paired_mid {α β : Type} {F : α → β → Prop} {x : α} {y : β} (f : F x y) : ∀ {l1 : List α} {l2 : List β} (i : Nat), Paired F l1 l2 → i < l1.length → Paired F (l1.take i ++ [x] ++ l1.drop (i + 1)) (l2.set i y)
  | _, _, 0, .cons a b, _ => .cons f b
  | _, _, i + 1, .cons a b, h => .cons a (paired_mid f i b (Nat.lt_of_succ_lt_succ h))
theorem mix_step {p0 p1 p2 p3 p4 p5 q0 q1 q2 q3 q4 q5 : List Str} : ∀ (i : Nat) (r : List Str), [p0, p1, p2, p3, p4, p5][i]? = some r → (([p0, p1, p2, p3, p4, p5].take i ++ [q0, q1, q2, q3, q4, q5].drop i).set i r) = [p0, p1, p2, p3, p4, p5].take (i + 1) ++ [q0, q1, q2, q3, q4, q5].drop (i + 1)
  | 0, _, h => by cases h; rfl
  | 1, _, h => by cases h; rfl
  | 2, _, h => by cases h; rfl
  | 3, _, h => by cases h; rfl
  | 4, _, h => by cases h; rfl
  | 5, _, h => by cases h; rfl
  | n + 6, _, h => by simp at h
theorem ask_one {p0 p1 p2 p3 p4 p5 : List Str} : ∀ (i : Nat) (d : Str) (r : List Str), doors[i]? = some d → [p0, p1, p2, p3, p4, p5][i]? = some r → askedAll [d] [p0, p1, p2, p3, p4, p5] = [p0, p1, p2, p3, p4, p5].set i (r ++ [("ask" : Str)])
  | 0, _, _, h, e => by cases h; cases e; rfl
  | 1, _, _, h, e => by cases h; cases e; rfl
  | 2, _, _, h, e => by cases h; cases e; rfl
  | 3, _, _, h, e => by cases h; cases e; rfl
  | 4, _, _, h, e => by cases h; cases e; rfl
  | 5, _, _, h, e => by cases h; cases e; rfl
  | n + 6, _, _, h, e => by simp at e
theorem mem_mix {p0 p1 p2 p3 p4 p5 q0 q1 q2 q3 q4 q5 : List Str} (hp : ∀ r ∈ [p0, p1, p2, p3, p4, p5], IsRule r) (hq : ∀ r ∈ [q0, q1, q2, q3, q4, q5], IsRule r) (i : Nat) : ∀ r ∈ [p0, p1, p2, p3, p4, p5].take i ++ [q0, q1, q2, q3, q4, q5].drop i, IsRule r := fun r hr => by
  rcases List.mem_append.mp hr with h | h
  · exact hp r (List.mem_of_mem_take h)
  · exact hq r (List.mem_of_mem_drop h)
def spRight : Sp := fun vs H Q _ => ∃ (j : Addr) (n : Nat), vs = [.ref j] ∧ JarAt H j n ∧ n ≤ 2 ^ 70 ∧ ∀ H', JarAt H' j (n + 1000) → Kp j H H' → Q (.bl true) H'
abbrev s_right : Stmt := top 21
abbrev nRight : List Str := ["jar", "names", "six", "more", "one", "other", "last", "k", "at", "grown", "asked", "thing"]
theorem sc_right : FnScope nRight ["jar"] (defScope s_right) := ⟨rfl, rfl, rfl, by decide +kernel, rfl, by decide +kernel, by decide +kernel⟩
theorem ok_right {f C CD CR CN fD fS fNr fQ fI fW fA fB : Addr} {fd fdD fdS fdNr fdQ fdI fdW fdA fdB : FuncData} {d0 d1 d2 d3 d4 d5 : V} (F : Fun K "_law_right" "_law_right" s_right f fd) (T : TxtB mg) (TB : TxtBook K mg C) (blist : mg "list" = none)
    (gD : mg "_law_draw" = some (.ref fD)) (kD : PySem.W.keepIn K (.ref fD) = true) (bD : Binds K fdD ["jar", "many"] []) (GD : FnOk P w K mg base CX0 1 fD fdD ["jar", "many"] spDraw)
    (gS : mg "_law_six" = some (.ref fS)) (kS : PySem.W.keepIn K (.ref fS) = true) (bS : Binds K fdS ["jar"] []) (GS : FnOk P w K mg base CX0 3 fS fdS ["jar"] (spSix K))
    (gNr : mg "_law_near" = some (.ref fNr)) (kNr : PySem.W.keepIn K (.ref fNr) = true) (bNr : Binds K fdNr ["jar", "six"] []) (GNr : FnOk P w K mg base CX0 4 fNr fdNr ["jar", "six"] (spNear K))
    (gQ : mg "_law_equal" = some (.ref fQ)) (kQ : PySem.W.keepIn K (.ref fQ) = true) (bQ : Binds K fdQ ["one", "other", "due"] []) (GQ : FnOk P w K mg base CX0 3 fQ fdQ ["one", "other", "due"] (spEqual K C))
    (M : MkB P w K mg base C CR fI fdI d0 d1 d2 d3 d4 d5) (b6 : Binds K fdI pI [])
    (GW : FnOk P w K mg base (L2.CX P w) 6 fW fdW ["self", "door", "rule"] (spWith K C CD CR)) (mW : Meth K C "with_rule" fW) (bW : Binds K fdW ["self", "door", "rule"] [])
    (GA : FnOk P w K mg base (L2.CX P w) 6 fA fdA ["self", "doors"] (spAsk K C CN CR)) (mA : Meth K C "asking" fA) (bA : Binds K fdA ["self", "doors"] [])
    (mB : Meth K C "rules" fB) (bB : Binds K fdB ["self"] []) (GB : FnOk P w K mg base CX0 1 fB fdB ["self"] (spBRules K C)) :
    FnOk P w K mg base CX0 8 f fd ["jar"] spRight := by
  refine F.ok sc_right (fun vs H Q E h => ?_) (fun cdv A outer s H vs Q E hr h => ?_)
  · obtain ⟨j, n, rfl, _⟩ := h
    rfl
  · obtain ⟨j, n, rfl, J, hn, q⟩ := h
    have r1 : Room 1 _ := hr.mono (by decide)
    have r3 : Room 3 _ := hr.mono (by decide)
    have r4 : Room 4 _ := hr.mono (by decide)
    have r5 : Room 5 _ := hr.mono (by decide)
    have r6 : Room 6 _ := hr.mono (by decide)
    refine ⟨_, (pss_cons (ps_set (i := 1) sc_right.nd rfl (Or.inl rfl) (pe_lst (pa_cons pe_str (pa_cons pe_str (pa_cons pe_str (pa_cons pe_str (pa_cons pe_str (pa_cons pe_str pa_nil))))))))
  (pss_cons (ps_set (i := 2) sc_right.nd rfl (Or.inl rfl) (pe_call GS r3 (by rfl) gS kS bS .nil pass0 (pa_cons (pv 0) pa_nil)))
  (pss_cons (ps_set (i := 3) sc_right.nd rfl (Or.inl rfl) (pe_call GNr r4 (by rfl) gNr kNr bNr .nil pass0 (pa_cons (pv 0) (pa_cons (pv 2) pa_nil))))
  (pss_cons (ps_set (i := 4) sc_right.nd rfl (Or.inl rfl) (pe_make M.mkb M.ok r5 (by rfl) TB.g b6 .nil passL (pa_cons (pe_ix ix_tup (pv 2) pe_int (fun _ _ => rfl)) (pa_cons (pe_ix ix_tup (pv 2) pe_int (fun _ _ => rfl)) (pa_cons (pe_ix ix_tup (pv 2) pe_int (fun _ _ => rfl)) (pa_cons (pe_ix ix_tup (pv 2) pe_int (fun _ _ => rfl)) (pa_cons (pe_ix ix_tup (pv 2) pe_int (fun _ _ => rfl)) (pa_cons (pe_ix ix_tup (pv 2) pe_int (fun _ _ => rfl)) pa_nil))))))))
  (pss_cons (ps_set (i := 5) sc_right.nd rfl (Or.inl rfl) (pe_make M.mkb M.ok r5 (by rfl) TB.g b6 .nil passL (pa_cons (pe_ix ix_tup (pv 3) pe_int (fun _ _ => rfl)) (pa_cons (pe_ix ix_tup (pv 3) pe_int (fun _ _ => rfl)) (pa_cons (pe_ix ix_tup (pv 3) pe_int (fun _ _ => rfl)) (pa_cons (pe_ix ix_tup (pv 3) pe_int (fun _ _ => rfl)) (pa_cons (pe_ix ix_tup (pv 3) pe_int (fun _ _ => rfl)) (pa_cons (pe_ix ix_tup (pv 3) pe_int (fun _ _ => rfl)) pa_nil))))))))
  (pss_cons (ps_if (PW.pt (pw_or (pt_not (pt_val (pe_call GQ r3 (by rfl) gQ kQ bQ .nil pass0 (pa_cons (pv 4) (pa_cons (pv 5) (pa_cons (pe_cmpR (op_eqP hr.units) (pv 2) (pv 3) (nomark _)) pa_nil)))))) (pw_or1 (pt_not (pt_val (pe_call GQ r3 (by rfl) gQ kQ bQ .nil pass0 (pa_cons (pv 4) (pa_cons (pv 4) (pa_cons pe_bl pa_nil))))))))) (pss_one (ps_ret pe_bl)) pss_nil)
  (pss_cons (ps_set (i := 6) sc_right.nd rfl (Or.inl rfl) (pv 4))
  (pss_cons (ps_for PassesOwn.never rfl (pi_range1 (by rfl) T.b_range (pa_cons pe_int pa_nil)) (pg_name (i := 7) sc_right.nd rfl (Or.inl rfl)) (pss_one (ps_set (i := 6) sc_right.nd rfl (Or.inl rfl) (pe_meth (pv 6) TB.cl mW GW r6 bW .nil passL (pa_cons (pe_ix ix_list (pv 1) (pv 7) (fun _ _ => rfl)) (pa_cons (pe_ix ix_tup (pv 3) (pv 7) (fun _ _ => rfl)) pa_nil))))))
  (pss_cons (ps_if (PW.pt (pw_or (pt_not (pt_val (pe_call GQ r3 (by rfl) gQ kQ bQ .nil pass0 (pa_cons (pv 6) (pa_cons (pv 5) (pa_cons pe_bl pa_nil)))))) (pw_or1 (pt_not (pt_val (pe_call GQ r3 (by rfl) gQ kQ bQ .nil pass0 (pa_cons (pv 4) (pa_cons (pv 5) (pa_cons (pe_cmpR (op_eqP hr.units) (pv 2) (pv 3) (nomark _)) pa_nil))))))))) (pss_one (ps_ret pe_bl)) pss_nil)
  (pss_cons (ps_set (i := 8) sc_right.nd rfl (Or.inl rfl) (pe_call GD r1 (by rfl) gD kD bD .nil pass0 (pa_cons (pv 0) (pa_cons pe_int pa_nil))))
  (pss_cons (ps_if (pt_cmpR op_lt (pe_callB call_len_seq (by rfl) T.b_len (by decide +kernel) (pa_cons (pe_ix ix_tup (pv 3) (pv 8) (fun _ _ => rfl)) pa_nil)) pe_int (nomark _)) (pss_cons (ps_set (i := 9) sc_right.nd rfl (Or.inl rfl) (pe_op op_catA (pe_op op_catA (pe_slice sl_tupA (pv 3) po_none (po_some (pv 8))) (pe_tup (pa_cons (pe_op op_catA (pe_ix ix_tup (pv 3) (pv 8) (fun _ _ => rfl)) (pe_tup (pa_cons pe_str pa_nil))) pa_nil))) (pe_slice sl_tupA (pv 3) (po_some (pe_op op_add (pv 8) pe_int)) po_none)))
  (pss_cons (ps_set (i := 10) sc_right.nd rfl (Or.inl rfl) (pe_make M.mkb M.ok r5 (by rfl) TB.g b6 .nil passL (pa_cons (pe_ix ix_tup (pv 9) pe_int (fun _ _ => rfl)) (pa_cons (pe_ix ix_tup (pv 9) pe_int (fun _ _ => rfl)) (pa_cons (pe_ix ix_tup (pv 9) pe_int (fun _ _ => rfl)) (pa_cons (pe_ix ix_tup (pv 9) pe_int (fun _ _ => rfl)) (pa_cons (pe_ix ix_tup (pv 9) pe_int (fun _ _ => rfl)) (pa_cons (pe_ix ix_tup (pv 9) pe_int (fun _ _ => rfl)) pa_nil))))))))
  (pss_one (ps_if (PW.pt (pw_or (pt_not (pt_val (pe_call GQ r3 (by rfl) gQ kQ bQ .nil pass0 (pa_cons (pe_meth (pv 5) TB.cl mA GA r6 bA .nil passL (pa_cons (pe_tup (pa_cons (pe_ix ix_list (pv 1) (pv 8) (fun _ _ => rfl)) pa_nil)) pa_nil)) (pa_cons (pv 10) (pa_cons pe_bl pa_nil)))))) (pw_or1 (pt_not (pt_val (pe_call GQ r3 (by rfl) gQ kQ bQ .nil pass0 (pa_cons (pv 10) (pa_cons (pv 5) (pa_cons pe_bl pa_nil))))))))) (pss_one (ps_ret pe_bl)) pss_nil)))) pss_nil)
  (pss_cons (ps_for PassesOwn.never rfl (pi_list (pe_lst (pa_cons (pv 2) (pa_cons (pe_callTy call_list_of (by rfl) blist (by decide +kernel) (pa_cons (pv 2) pa_nil)) (pa_cons pe_str (pa_cons pe_str (pa_cons pe_non (pa_cons pe_int (pa_cons pe_int (pa_cons pe_bl (pa_cons (pe_tup (pa_cons (pv 4) pa_nil)) pa_nil))))))))))) (pg_name (i := 11) sc_right.nd rfl (Or.inl rfl)) (pss_one (ps_if (pt_not (pt_val (pe_call GQ r3 (by rfl) gQ kQ bQ .nil pass0 (pa_cons (pv 4) (pa_cons (pv 11) (pa_cons pe_bl pa_nil)))))) (pss_one (ps_ret pe_bl)) pss_nil)))
  (pss_one (ps_ret (pe_and (pe_cmpR (op_eqP hr.units) (pe_meth0 (pv 4) TB.cl mB GB r1 bB .nil pass0) (pv 2) (nomark _)) (pe_one (pe_cmpR (op_eqP hr.units) (pe_meth0 (pv 5) TB.cl mB GB r1 bB .nil pass0) (pv 3) (nomark _)))))))))))))))))), ?_⟩
    refine ⟨by show 6 ≤ sizeLine; decide, fun nl hnl => ?_⟩
    have s1 := same_new (o := .lst (doors.map V.str)) hnl
    have nl1 : upd H nl (.lst (doors.map V.str)) nl = some (.lst (doors.map V.str)) := upd_same
    have nlj : nl ≠ j := J.ne hnl
    have J1 := J.same s1
    refine ⟨_, rfl, j, n, rfl, J1, Nat.le_trans hn (by decide), fun sa rs H2 h6 e6 hrs J2 k2 => ?_⟩
    refine ⟨_, rfl, _, rfl, j, .ref sa, _, rs, rfl, J2, by omega, h6, e6, hrs, fun ma ms H3 h6m e6m hms J3 k3 => ?_⟩
    have nl3 := k3 _ _ nlj (k2 _ _ nlj nl1)
    have k03 : Kp j H H3 := ((s1.kp j).trans k2).trans k3
    have h63 := (J2.kt k3).six h6
    obtain ⟨sa', u0, u1, u2, u3, u4, u5, q0, q1, q2, q3, q4, q5, es, rfl, hs6, pr⟩ := six_six h63 e6
    cases es
    refine ⟨_, rfl, sa, _, _, _, rfl, rfl, hs6, rfl, ?_⟩
    refine ⟨_, rfl, sa, _, _, _, rfl, rfl, hs6, rfl, ?_⟩
    refine ⟨_, rfl, sa, _, _, _, rfl, rfl, hs6, rfl, ?_⟩
    refine ⟨_, rfl, sa, _, _, _, rfl, rfl, hs6, rfl, ?_⟩
    refine ⟨_, rfl, sa, _, _, _, rfl, rfl, hs6, rfl, ?_⟩
    refine ⟨_, rfl, sa, _, _, _, rfl, rfl, hs6, rfl, ?_⟩
    intro x dx hx hdx nex
    refine book_new (ws := [u0, u1, u2, u3, u4, u5]) hx hdx pr hrs rfl fun H4 hb4 s4 => ⟨rfl, ?_⟩
    have h6m4 := s4.kt.six h6m
    obtain ⟨ma', m0, m1, m2, m3, m4, m5, p0, p1, p2, p3, p4, p5, em, rfl, hm6, prm⟩ := six_six h6m4 e6m
    cases em
    refine ⟨_, rfl, ma, _, _, _, rfl, rfl, hm6, rfl, ?_⟩
    refine ⟨_, rfl, ma, _, _, _, rfl, rfl, hm6, rfl, ?_⟩
    refine ⟨_, rfl, ma, _, _, _, rfl, rfl, hm6, rfl, ?_⟩
    refine ⟨_, rfl, ma, _, _, _, rfl, rfl, hm6, rfl, ?_⟩
    refine ⟨_, rfl, ma, _, _, _, rfl, rfl, hm6, rfl, ?_⟩
    refine ⟨_, rfl, ma, _, _, _, rfl, rfl, hm6, rfl, ?_⟩
    intro y dy hy hdy ney
    refine book_new (ws := [m0, m1, m2, m3, m4, m5]) hy hdy prm hms rfl fun H5 hby5 s5 => ⟨rfl, ?_⟩
    have s35 := s4.trans s5
    have J5 := J3.same s35
    have nl5 := s35 _ _ nl3
    have hbx5 := s5.kt.book hb4
    have h65 := s35.kt.six h63
    have h6m5 := s5.kt.six h6m4
    -- six == more
    refine ⟨_, rfl, _, rfl, _, rfl, _, rfl, dSix _, dSix _, h65.dp, h6m5.dp, plain_six _, plain_six _, Nat.le_trans (depth_six _) (by decide), ?_⟩
    rw [eqv_six]
    refine ⟨x, .ref y, _, rfl, .book hbx5 hby5, fun H6 s6 => ?_⟩
    refine ⟨_, rfl, ?_⟩
    refine ite2 (fun c => by cases c) (fun _ => ?_)
    have self : ∀ {H' : Hp} {a : Addr} {r : List (List Str)}, BookAt K C H' a r → EqCl K C H' a (.ref a) true := fun {H' a r} h => by
      have := EqCl.book (C := C) h h
      rw [decide_eq_true rfl] at this
      exact this
    refine ⟨_, rfl, _, rfl, x, .ref x, true, rfl, self (s6.kt.book hbx5), fun H7 s7 => ?_⟩
    refine ⟨_, rfl, ?_⟩
    refine ite2 (fun c => by cases c) (fun _ => ?_)
    have s57 := s6.trans s7
    refine ⟨_, rfl, ?_⟩
    have door_at : ∀ {k : Nat} {d : Str}, doors[k]? = some d → atI (doors.map V.str) (0 + (k : Int)) = some (.str d) := fun {k d} hd => at_of (j := k) (by omega) (by rw [List.getElem?_map, hd]; rfl)
    have amb : ∀ {H' : Hp} {d : Str}, Among K H' doors (.str d) (decide (d ∈ doors)) := fun {_ d} => .str d
    have no : ∀ {d : Str}, d ∈ doors → decide (d ∈ doors) = false → False := fun hd e => by
      rw [decide_eq_true hd] at e
      cases e
    have morei : ∀ {H' : Hp}, Same H5 H' → ∀ (i : Nat), i < 6 → ∃ (us : List V) (u : V) (r : List Str), SqT K H' ma us ∧ us.length = 6 ∧ Paired (RuleAt K H') us [p0, p1, p2, p3, p4, p5] ∧ us[i]? = some u ∧ RuleAt K H' u r ∧ [p0, p1, p2, p3, p4, p5][i]? = some r ∧ IsRule r := fun {H'} s' i hi => by
      obtain ⟨ma', us, e, hs', pr'⟩ := s'.kt.six h6m5
      cases e
      obtain ⟨r, hr'⟩ : ∃ r, [p0, p1, p2, p3, p4, p5][i]? = some r := ⟨_, List.getElem?_eq_getElem (show i < 6 from hi)⟩
      obtain ⟨u, hu, ru⟩ := pair_get pr' hr'
      exact ⟨us, u, r, hs', pr'.length, pr', hu, ru, hr', hms r (List.mem_of_getElem? hr')⟩
    refine ⟨6, rfl, by decide, by decide, for_range (lo := 0) (n := 6) (fun i σ H' => ∃ z v7, σ = [some (.ref j), some (.ref nl), some (.ref sa), some (.ref ma), some (.ref x), some (.ref y), some (.ref z), v7, none, none, none, none] ∧ BookAt K C H' z ([p0, p1, p2, p3, p4, p5].take i ++ [q0, q1, q2, q3, q4, q5].drop i) ∧ Same H5 H') ?_ ?_ ?_⟩
    · exact ⟨x, _, rfl, s57.kt.book hbx5, s57⟩
    · rintro i σ H8 hi ⟨z, v7, rfl, hbz, s8⟩
      have hi6 : i < 6 := hi
      obtain ⟨d, hd⟩ : ∃ d, doors[i]? = some d := ⟨_, List.getElem?_eq_getElem (show i < doors.length from hi6)⟩
      have hdm : d ∈ doors := List.mem_of_getElem? hd
      obtain ⟨us, u, r, hsu, lu, _, hu, ru, hr', irr⟩ := morei s8 i hi6
      obtain ⟨dz, lz, hpz, _, _⟩ := id hbz
      refine ⟨_, rfl, z, dz, _, rfl, hpz, rfl, _, rfl, _, rfl, nl, _, _, _, rfl, rfl, SqL.of (s8 _ _ nl5), door_at hd, ?_⟩
      refine ⟨_, rfl, _, rfl, ma, us, _, u, rfl, rfl, hsu, at_of (j := i) (by omega) hu, ?_⟩
      refine ⟨z, .str d, u, _, true, r, _, rfl, hbz, mem_mix hms hrs i, amb, ruleCl_of ru irr, fun _ => ⟨ru, irr⟩, fun en => (no hdm en).elim, (fun _ _ _ _ e => by cases e), fun i' z' ez hz' _ z2 H' hbk s' => ?_⟩
      cases ez
      have := doors_nd hz' hd
      subst this
      rw [mix_step i' r hr'] at hbk
      exact ⟨z2, _, rfl, hbk, s8.trans s'⟩
    rintro σ H8 ⟨z, v7, rfl, hbz, s8⟩
    have hbz : BookAt K C H8 z [p0, p1, p2, p3, p4, p5] := hbz
    have same : ∀ {H' : Hp} {a b : Addr} {r : List (List Str)}, BookAt K C H' a r → BookAt K C H' b r → EqCl K C H' a (.ref b) true := fun {H' a b r} h g => by
      have := EqCl.book (C := C) h g
      rw [decide_eq_true rfl] at this
      exact this
    refine ⟨_, rfl, _, rfl, z, .ref y, true, rfl, same hbz (s8.kt.book hby5), fun H9 s9 => ?_⟩
    refine ⟨_, rfl, ?_⟩
    refine ite2 (fun c => by cases c) (fun _ => ?_)
    have s59 := s8.trans s9
    refine ⟨_, rfl, _, rfl, _, rfl, _, rfl, dSix _, dSix _, (s59.kt.six h65).dp, (s59.kt.six h6m5).dp, plain_six _, plain_six _, Nat.le_trans (depth_six _) (by decide), ?_⟩
    rw [eqv_six]
    refine ⟨x, .ref y, _, rfl, .book (s59.kt.book hbx5) (s59.kt.book hby5), fun H10 s10 => ?_⟩
    refine ⟨_, rfl, ?_⟩
    refine ite2 (fun c => by cases c) (fun _ => ?_)
    have s510 := s59.trans s10
    have J10 := J5.same s510
    refine ⟨_, rfl, j, 6, _, rfl, J10, by decide, by decide, by omega, fun at_ H11 ha0 ha1 J11 k11 => ?_⟩
    have K11 : KT H5 H11 := s510.kt.trans (J10.kt k11)
    have nl11 := k11 _ _ nlj (s510 _ _ nl5)
    obtain ⟨d, hd⟩ : ∃ d, doors[at_.toNat]? = some d := ⟨_, List.getElem?_eq_getElem (show at_.toNat < 6 by omega)⟩
    have hdm : d ∈ doors := List.mem_of_getElem? hd
    obtain ⟨us, u, r, hsu, lu, pru, hu, ru, hr', irr⟩ : ∃ (us : List V) (u : V) (r : List Str), SqT K H11 ma us ∧ us.length = 6 ∧ Paired (RuleAt K H11) us [p0, p1, p2, p3, p4, p5] ∧ us[at_.toNat]? = some u ∧ RuleAt K H11 u r ∧ [p0, p1, p2, p3, p4, p5][at_.toNat]? = some r ∧ IsRule r := by
      obtain ⟨ma', us, e, hs', pr'⟩ := K11.six h6m5
      cases e
      obtain ⟨r, hr'⟩ : ∃ r, [p0, p1, p2, p3, p4, p5][at_.toNat]? = some r := ⟨_, List.getElem?_eq_getElem (show at_.toNat < 6 by omega)⟩
      obtain ⟨u, hu, ru⟩ := pair_get pr' hr'
      exact ⟨us, u, r, hs', pr'.length, pr', hu, ru, hr', hms r (List.mem_of_getElem? hr')⟩
    obtain ⟨ua, rfl, hua⟩ := id ru
    have hati : atI us at_ = some (.ref ua) := at_of (j := at_.toNat) (by omega) hu
    have hdi : atI (doors.map V.str) at_ = some (.str d) := at_of (j := at_.toNat) (by omega) (by rw [List.getElem?_map, hd]; rfl)
    have eat : at_ = ((at_.toNat : Nat) : Int) := by omega
    have c1 : cutV us none (some at_) = us.take at_.toNat := by rw [eat, cut_lo (by omega), Int.toNat_natCast]
    have c2 : cutV us (some (at_ + 1)) none = us.drop (at_.toNat + 1) := by
      rw [show at_ + 1 = ((at_.toNat + 1 : Nat) : Int) by omega]
      exact cut_hiA
    dsimp only [gName, tSeq]
    refine tIfS_via (fun σ' H' => ∃ v9 v10, σ' = [some (.ref j), some (.ref nl), some (.ref sa), some (.ref ma), some (.ref x), some (.ref y), some (.ref z), v7, some (.int at_), v9, v10, none] ∧ Same H11 H') (fun key => ?_) ?_
    · refine ⟨_, rfl, _, rfl, ma, us, at_, _, rfl, rfl, hsu, hati, ua, _, rfl, .inr hua, _, _, rfl, rfl, _, rfl, ?_⟩
      rw [List.length_map]
      refine ite2 (fun c => ?_) (fun _ => key _ _ ⟨_, _, rfl, Same.refl _⟩)
      have l5 : r.length < 6 := Int.ofNat_lt.mp (of_decide_eq_true c)
      refine ⟨_, rfl, _, rfl, _, rfl, ?_⟩
      refine slA_of hsu fun t1 H12 ht1 s12 => ?_
      rw [c1] at ht1
      refine ⟨_, rfl, _, rfl, ma, us, at_, _, rfl, rfl, sqT_same s12 hsu, hati, ?_⟩
      refine ⟨by show 1 ≤ sizeLine; decide, fun ta hta => ?_⟩
      have s13 := same_new (o := .tup [.str "ask"]) hta
      refine catA_of (sqT_same (s12.trans s13) hua) (SqT.of upd_same) ?_ fun t2 H14 ht2 s14 => ?_
      · rw [List.length_map]
        show r.length + 1 ≤ 1000
        omega
      refine ⟨by show 1 ≤ sizeLine; decide, fun tb htb => ?_⟩
      have s15 := same_new (o := .tup [.ref t2]) htb
      have rt2 : RuleAt K _ (.ref t2) (r ++ [("ask" : Str)]) := ⟨t2, rfl, by rw [List.map_append]; exact sqT_same s15 ht2⟩
      have s12_15 := ((s12.trans s13).trans s14).trans s15
      refine catA_of (sqT_same ((s13.trans s14).trans s15) ht1) (SqT.of upd_same) ?_ fun t3 H16 ht3 s16 => ?_
      · have := List.length_take_le at_.toNat us
        show _ + 1 ≤ 1000
        omega
      refine ⟨_, rfl, _, rfl, _, _, rfl, rfl, _, rfl, ?_⟩
      dsimp only [tNoPart]
      have s11_16 := s12_15.trans s16
      refine slA_of (sqT_same s11_16 hsu) fun t4 H17 ht4 s17 => ?_
      rw [c2] at ht4
      refine catA_of (sqT_same s17 ht3) ht4 ?_ fun t5 H18 ht5 s18 => ?_
      · have := List.length_take_le at_.toNat us
        rw [List.length_append, List.length_drop, List.length_singleton]
        omega
      have s11_18 := (s11_16.trans s17).trans s18
      have gr6 : SixAt K H18 (.ref t5) ([p0, p1, p2, p3, p4, p5].set at_.toNat (r ++ [("ask" : Str)])) := ⟨t5, _, rfl, ht5, paired_mid (((s16.trans s17).trans s18).kt.rule rt2) at_.toNat (s11_18.kt.rules pru) (by omega)⟩
      have grr : ∀ t ∈ [p0, p1, p2, p3, p4, p5].set at_.toNat (r ++ [("ask" : Str)]), IsRule t := fun t ht => by
        rcases List.mem_or_eq_of_mem_set ht with h | h
        · exact hms t h
        · rw [h]
          refine ⟨by rw [List.length_append]; show r.length + 1 ≤ 6; omega, fun w hw => ?_⟩
          rcases List.mem_append.mp hw with hw | hw
          · exact irr.2 w hw
          · rw [List.mem_singleton.mp hw]
            decide
      obtain ⟨t5', g0, g1, g2, g3, g4, g5, f0, f1, f2, f3, f4, f5, eg, erg, hg6, prg⟩ := six_six gr6 (by rw [List.length_set]; rfl)
      cases eg
      refine ⟨_, rfl, t5, _, _, _, rfl, rfl, hg6, rfl, ?_⟩
      refine ⟨_, rfl, t5, _, _, _, rfl, rfl, hg6, rfl, ?_⟩
      refine ⟨_, rfl, t5, _, _, _, rfl, rfl, hg6, rfl, ?_⟩
      refine ⟨_, rfl, t5, _, _, _, rfl, rfl, hg6, rfl, ?_⟩
      refine ⟨_, rfl, t5, _, _, _, rfl, rfl, hg6, rfl, ?_⟩
      refine ⟨_, rfl, t5, _, _, _, rfl, rfl, hg6, rfl, ?_⟩
      intro ak dk hak hdk nek
      refine book_new (ws := [g0, g1, g2, g3, g4, g5]) hak hdk prg (by rw [← erg]; exact grr) rfl fun H19 hba s19 => ⟨rfl, ?_⟩
      rw [← erg] at hba
      have s11_19 := s11_18.trans s19
      have K19 := K11.trans s11_19.kt
      have hby19 := K19.book hby5
      obtain ⟨dyy, ly, hpy, _, _⟩ := id hby19
      refine ⟨_, rfl, y, dyy, _, rfl, hpy, rfl, _, rfl, _, rfl, nl, _, at_, .str d, rfl, rfl, SqL.of (s11_19 _ _ nl11), hdi, ?_⟩
      refine ⟨by show 1 ≤ sizeLine; decide, fun td htd => ?_⟩
      have s20 := same_new (o := .tup [.str d]) htd
      have hby20 := s20.kt.book hby19
      have sqd : SqT K (upd H19 td (.tup [.str d])) td (([d] : List Str).map V.str) := SqT.of upd_same
      have cl20 : DoorsCl K (upd H19 td (.tup [.str d])) (.ref td) true := by
        have q0 : DoorsCl K (upd H19 td (.tup [.str d])) (.ref td) _ := .tup sqd (by show 1 ≤ 1000; decide) (among_strs doors [d])
        have e1 : ((([d] : List Str).map fun t => decide (t ∈ doors)).all id && decide (([d] : List Str).map V.str).Nodup) = true := by
          rw [Bool.and_eq_true]
          refine ⟨?_, decide_eq_true (by simp)⟩
          show (decide (d ∈ doors) && true) = true
          rw [decide_eq_true hdm]
          rfl
        rw [e1] at q0
        exact q0
      refine ⟨y, .ref td, true, [d], _, rfl, hby20, hms, cl20, fun _ => ⟨td, rfl, sqd, fun t ht => by rw [List.mem_singleton.mp ht]; exact hdm⟩, (fun e => by cases e), fun _ => ⟨fun i z' r' hz' hrr hm len _ d' H' hx' s' hn' => ?_, fun _ w H21 hbw s21 => ?_⟩⟩
      · have e1 := List.mem_singleton.mp hm
        subst e1
        have := doors_nd hz' hd
        subst this
        rw [hr'] at hrr
        cases hrr
        omega
      · rw [ask_one at_.toNat d r hd hr'] at hbw
        have s20_21 := s20.trans s21
        refine ⟨_, rfl, w, .ref ak, true, rfl, same hbw (s20_21.kt.book hba), fun H22 s22 => ?_⟩
        refine ⟨_, rfl, ?_⟩
        refine ite2 (fun c => by cases c) (fun _ => ?_)
        have neq : decide ([p0, p1, p2, p3, p4, p5].set at_.toNat (r ++ [("ask" : Str)]) = [p0, p1, p2, p3, p4, p5]) = false := decide_eq_false fun e => by
          have h1 : ([p0, p1, p2, p3, p4, p5].set at_.toNat (r ++ [("ask" : Str)]))[at_.toNat]? = some (r ++ [("ask" : Str)]) := List.getElem?_set_self (show at_.toNat < 6 by omega)
          rw [e, hr'] at h1
          have h2 := congrArg List.length (Option.some.inj h1)
          rw [List.length_append, List.length_singleton] at h2
          omega
        have s20_22 := s20_21.trans s22
        have cl : EqCl K C H22 ak (.ref y) false := by
          have := EqCl.book (C := C) (s20_22.kt.book hba) (s20_22.kt.book hby19)
          rw [neq] at this
          exact this
        refine ⟨_, rfl, _, rfl, ak, .ref y, false, rfl, cl, fun H23 s23 => ?_⟩
        refine ⟨_, rfl, ?_⟩
        refine ite2 (fun c => by cases c) (fun _ => ?_)
        exact key _ _ ⟨_, _, rfl, (s11_19.trans s20_22).trans s23⟩
    rintro σ' H12 ⟨v9, v10, rfl, s12⟩
    dsimp only [tSeq]
    have K12 := K11.trans s12.kt
    obtain ⟨_, ws12, e12, hs12, pr12⟩ := id (K12.six h65)
    cases e12
    refine ⟨_, rfl, _, rfl, sa, ws12, rfl, .inr hs12, fun l6 hl6 => ?_⟩
    have g1 := same_new (o := .lst ws12) hl6
    refine ⟨_, rfl, by show 1 ≤ sizeLine; decide, fun t1 ht1 => ?_⟩
    have g2 := same_new (o := .tup [.ref x]) ht1
    refine ⟨by show 9 ≤ sizeLine; decide, fun lt hlt => ?_⟩
    have g3 := same_new (o := .lst [.ref sa, .ref l6, .str "", .str "put", .non, .int 6, .int 0, .bl false, .ref t1]) hlt
    have fl : upd (upd (upd H12 l6 (.lst ws12)) t1 (.tup [.ref x])) lt (.lst [.ref sa, .ref l6, .str "", .str "put", .non, .int 6, .int 0, .bl false, .ref t1]) lt = some (.lst [.ref sa, .ref l6, .str "", .str "put", .non, .int 6, .int 0, .bl false, .ref t1]) := upd_same
    have oth : ∀ v ∈ ([.ref sa, .ref l6, .str "", .str "put", .non, .int 6, .int 0, .bl false, .ref t1] : List V), ∀ {H' : Hp}, Same (upd (upd (upd H12 l6 (.lst ws12)) t1 (.tup [.ref x])) lt (.lst [.ref sa, .ref l6, .str "", .str "put", .non, .int 6, .int 0, .bl false, .ref t1])) H' → ∃ T, Oth K H' v T := fun v hv {H'} s' => by
      simp only [List.mem_cons, List.not_mem_nil, or_false] at hv
      rcases hv with rfl | rfl | rfl | rfl | rfl | rfl | rfl | rfl | rfl
      · exact ⟨_, .tup (sqT_same (((g1.trans g2).trans g3).trans s') hs12)⟩
      · exact ⟨_, .lst (((g2.trans g3).trans s') _ _ upd_same)⟩
      · exact ⟨_, .str _⟩
      · exact ⟨_, .str _⟩
      · exact ⟨_, .non⟩
      · exact ⟨_, .int _⟩
      · exact ⟨_, .int _⟩
      · exact ⟨_, .bl _⟩
      · exact ⟨_, .tup (sqT_same (g3.trans s') (SqT.of upd_same))⟩
    have g123 := (g1.trans g2).trans g3
    generalize upd (upd (upd H12 l6 (.lst ws12)) t1 (.tup [.ref x])) lt (.lst [.ref sa, .ref l6, .str "", .str "put", .non, .int 6, .int 0, .bl false, .ref t1]) = H13 at fl oth g123
    have K13 := K12.trans g123.kt
    refine ⟨lt, rfl, ⟨_, SqL.of fl⟩, for_list (K := K) (a := lt) (xs := [.ref sa, .ref l6, .str "", .str "put", .non, .int 6, .int 0, .bl false, .ref t1]) (fun m σ H' => ∃ v11, σ = [some (.ref j), some (.ref nl), some (.ref sa), some (.ref ma), some (.ref x), some (.ref y), some (.ref z), v7, some (.int at_), v9, v10, v11] ∧ Same H13 H') ?_ ?_ ?_ ?_⟩
    · exact ⟨_, rfl, Same.refl _⟩
    · rintro m σ H' _ ⟨_, _, s'⟩
      exact SqL.of (s' _ _ fl)
    · rintro m v σ H14 hv ⟨v11, rfl, s14⟩
      obtain ⟨T', ho⟩ := oth v (List.mem_of_getElem? hv) s14
      refine ⟨_, rfl, _, rfl, x, v, false, rfl, .oth (s14.kt.book (K13.book hbx5)) ho, fun H15 s15 => ?_⟩
      refine ⟨_, rfl, ?_⟩
      exact ⟨_, rfl, s14.trans s15⟩
    rintro σ H14 ⟨v11, rfl, s14⟩
    have K14 := K13.trans s14.kt
    have hbx14 := K14.book hbx5
    have hby14 := K14.book hby5
    obtain ⟨dx1, l1, hp1, _, _⟩ := id hbx14
    obtain ⟨dy1, l2, hp2, _, _⟩ := id hby14
    refine ⟨_, rfl, x, dx1, _, rfl, hp1, rfl, x, _, rfl, hbx14, fun v2 h62 => ?_⟩
    refine ⟨_, rfl, dSix _, dSix _, h62.dp, (K14.six h65).dp, plain_six _, plain_six _, Nat.le_trans (depth_six _) (by decide), ?_⟩
    rw [eqv_six, decide_eq_true rfl]
    refine ⟨_, rfl, ?_⟩
    refine ite2 (fun _ => ?_) (fun c => absurd rfl c)
    refine ⟨_, rfl, y, dy1, _, rfl, hp2, rfl, y, _, rfl, hby14, fun v3 h63 => ?_⟩
    refine ⟨_, rfl, dSix _, dSix _, h63.dp, (K14.six h6m5).dp, plain_six _, plain_six _, Nat.le_trans (depth_six _) (by decide), ?_⟩
    rw [eqv_six, decide_eq_true rfl]
    have sT := (s12.trans g123).trans s14
    exact q _ ((J11.same sT).mono (by omega)) ((((k03.trans (s35.kp j)).trans (s510.kp j)).trans k11).trans (sT.kp j))
end
end Sh

namespace Sh
open PySem L2
section
variable {P : Program} {w : World} {K : PySem.W.Frag} {mg : Str → Option Value} {base : Heap} {aA aD : Addr}
abbrev s_law : Stmt := top 22
abbrev nLaw : List Str := ["script", "k", "jar", "turn"]
theorem sc_law : FnScope nLaw ["script"] (defScope s_law) := ⟨rfl, rfl, rfl, by decide +kernel, rfl, by decide +kernel, by decide +kernel⟩
theorem ok_law {f fJ fR : Addr} {fd fdJ fdR : FuncData} (F : Fun K "law" "law" s_law f fd) (T : TxtB mg) (bmin : mg "min" = none)
    (gJ : mg "_law_jar" = some (.ref fJ)) (kJ : PySem.W.keepIn K (.ref fJ) = true) (bJ : Binds K fdJ ["script", "k"] []) (GJ : FnOk P w K mg base CX0 1 fJ fdJ ["script", "k"] (spJar K))
    (gR : mg "_law_right" = some (.ref fR)) (kR : PySem.W.keepIn K (.ref fR) = true) (bR : Binds K fdR ["jar"] []) (GR : FnOk P w K mg base CX0 8 fR fdR ["jar"] spRight) : FnOk P w K mg base CX0 9 f fd ["script"] (spLaw K) := by
  refine F.ok sc_law (fun vs H Q E h => ?_) (fun cdv A outer s H vs Q E hr h => ?_)
  · obtain ⟨a, ns, rfl, _⟩ := h
    rfl
  · obtain ⟨a, ns, rfl, hS, hlen, q⟩ := h
    have r1 : Room 1 _ := hr.mono (by decide)
    refine ⟨_, (pss_cons (ps_for PassesOwn.never rfl (pi_range1 (by rfl) T.b_range (pa_cons (pe_callB (call_max2 rfl) (by rfl) T.b_max (by decide +kernel) (pa_cons pe_int (pa_cons (pe_callB (call_min2 rfl) (by rfl) bmin (by decide +kernel) (pa_cons pe_int (pa_cons (pe_callB call_len_seq (by rfl) T.b_len (by decide +kernel) (pa_cons (pv 0) pa_nil)) pa_nil))) pa_nil))) pa_nil)) (pg_name (i := 1) sc_law.nd rfl (Or.inl rfl)) (pss_cons (ps_set (i := 2) sc_law.nd rfl (Or.inl rfl) (pe_call GJ r1 (by rfl) gJ kJ bJ .nil pass0 (pa_cons (pv 0) (pa_cons (pv 1) pa_nil))))
  (pss_one (ps_for PassesOwn.never rfl (pi_range1 (by rfl) T.b_range (pa_cons pe_int pa_nil)) (pg_name (i := 3) sc_law.nd rfl (Or.inl rfl)) (pss_one (ps_if (pt_not (pt_val (pe_call GR hr (by rfl) gR kR bR .nil pass0 (pa_cons (pv 2) pa_nil)))) (pss_one (ps_ret pe_bl)) pss_nil))))))
  (pss_one (ps_ret pe_bl))), ?_⟩
    refine ⟨_, rfl, a, _, rfl, .inl hS, _, _, rfl, _, _, rfl, ?_⟩
    have hN := rng_le 8 (ns.map V.int).length (by decide)
    refine ⟨_, rfl, by omega, by omega, for_range (lo := 0) (n := _) (fun i σ H' => ∃ v1 v2 v3, σ = [some (.ref a), v1, v2, v3] ∧ Same H H') ?_ ?_ ?_⟩
    · exact ⟨_, _, _, rfl, Same.refl _⟩
    · rintro i σ H1 hi ⟨v1, v2, v3, rfl, s1⟩
      refine ⟨_, rfl, _, rfl, a, ns, _, rfl, s1.seq hS, by omega, by omega, fun j H2 J2 nj s2 => ?_⟩
      have nj0 : H j = none := s1.free nj
      refine ⟨2, rfl, by decide, by decide, for_range (lo := 0) (n := 2) (fun m σ H' => ∃ v3, σ = [some (.ref a), some (.int (0 + i)), some (.ref j), v3] ∧ JarAt H' j (1000 * m) ∧ Same H H') ?_ ?_ ?_⟩
      · exact ⟨_, rfl, J2, s1.trans s2⟩
      · rintro m σ H3 hm ⟨v3, rfl, J3, s3⟩
        have hm2 : m < 2 := hm
        refine ⟨_, rfl, j, 1000 * m, rfl, J3, by omega, fun H4 J4 k4 => ?_⟩
        refine ⟨_, rfl, ?_⟩
        exact ⟨_, rfl, J4.mono (by omega), same_kp s3 nj0 k4⟩
      · rintro σ H3 ⟨v3, rfl, J3, s3⟩
        exact ⟨_, _, _, rfl, s3⟩
    · rintro σ H1 _
      exact q _
end
end Sh

namespace Sh
open PySem L2
theorem kit_cls {K : PySem.W.Frag} {C D : Addr} {b : Bool} (ne : C ≠ D) (hdct : PySem.W.hasDictIn K D = true) (ht : PySem.W.typeIn K (.ref D) = some (.type "type")) (h : PySem.W.subIn K (.ref C) (.ref D) = some b) : PySem.W.kitOne K (.ref C) (.ref D) = some b := by
  obtain ⟨cd, hc, _⟩ := PySem.W.any_some hdct
  have e0 : ¬ ((Value.ref C) == (Value.ref D)) = true := fun e => ne (Value.ref.inj (eq_of_beq e))
  have e2 : ((PySem.W.clsIn K D).isSome && PySem.W.typeIn K (.ref D) == some (.type "type")) = true := by rw [hc, ht] <;> rfl
  show (if ((Value.ref C) == (Value.ref D)) = true then some true else (if ((PySem.W.clsIn K D).isSome && PySem.W.typeIn K (.ref D) == some (.type "type")) = true then PySem.W.subIn K (.ref C) (.ref D) else none)) = some b
  rw [if_neg e0, if_pos e2]
  exact h
theorem kit_blt {K : PySem.W.Frag} {C : Addr} {T : String} {b : Bool} (hm : PySem.W.kitMeta T = true) (h : PySem.W.subIn K (.ref C) (.type T) = some b) : PySem.W.kitOne K (.ref C) (.type T) = some b := by
  have e0 : ¬ ((Value.ref C) == (Value.type T)) = true := fun e => by cases eq_of_beq e
  show (if ((Value.ref C) == (Value.type T)) = true then some true else (if PySem.W.kitMeta T = true then PySem.W.subIn K (.ref C) (.type T) else none)) = some b
  rw [if_neg e0, if_pos hm]
  exact h
theorem kit_self {K : PySem.W.Frag} {C : Addr} : PySem.W.kitOne K (.ref C) (.ref C) = some true := by
  have e : ((Value.ref C) == (Value.ref C)) = true := by first | exact beq_self_eq_true _ | simp | rfl
  show (if ((Value.ref C) == (Value.ref C)) = true then some true else PySem.W.kitCls K (.ref C) (.ref C)) = some true
  rw [if_pos e]
theorem all_mk {l : PySem.W.OpenLaw} {w : World} {K : PySem.W.Frag} {h : Heap} {mg : Str → Option Value} {fa A_ACTIONS A_DOORS C_NoRule f_eNoRule N_NoRule C_NoDoor f_eNoDoor N_NoDoor C_Book T_d A_d0 A_d1 A_d2 A_d3 A_d4 A_d5 f_init f_brule f_brules f_bwith f_bask C_NoDoors f_beq f_is_action f_is_rule f_is_door f_are_distinct_doors f__law_jar f__law_draw f__law_rule f__law_six f__law_near f__law_equal f__law_right f_law : Addr} (X : K.In h) (G : h.Ns mainGlobals mg) (hfa : mg "law" = some (.ref fa))
    {its_ACTIONS : Array Value} {n_ACTIONS : Nat} {sl_ACTIONS : Array (Option Value)}
    {its_DOORS : Array Value} {n_DOORS : Nat} {sl_DOORS : Array (Option Value)}
    {t_MOST_ACTIONS : Tok}
    {nm_NoRule q_NoRule : Str} {bs_NoRule bm_NoRule : List Value} {sn_NoRule : List Str} {sub_NoRule : List Value} {ab_NoRule : Bool} {col_NoRule : Option Bool} {dd_NoRule : Option Addr} {m0_NoRule m1_NoRule m2_NoRule m3_NoRule m5_NoRule : Option Value}
    {od_eNoRule an_eNoRule : Option Addr} {sl_eNoRule : Array (Option Value)} {oc_eNoRule kV_eNoRule dc_eNoRule pm_eNoRule cd_eNoRule ct_eNoRule : Value}
    {nm_NoDoor q_NoDoor : Str} {bs_NoDoor bm_NoDoor : List Value} {sn_NoDoor : List Str} {sub_NoDoor : List Value} {ab_NoDoor : Bool} {col_NoDoor : Option Bool} {dd_NoDoor : Option Addr} {m0_NoDoor m1_NoDoor m2_NoDoor m3_NoDoor m5_NoDoor : Option Value}
    {od_eNoDoor an_eNoDoor : Option Addr} {sl_eNoDoor : Array (Option Value)} {oc_eNoDoor kV_eNoDoor dc_eNoDoor pm_eNoDoor cd_eNoDoor ct_eNoDoor : Value}
    {oT : Option Addr} {nT : Nat} {slT : Array (Option Value)} {cT : Value}
    {od_init an_init : Option Addr} {sl_init : Array (Option Value)} {oc_init kV_init dc_init pm_init cd_init ct_init : Value}
    {o_d0 : Option Addr} {n_d0 : Nat} {sl_d0 : Array (Option Value)}
    {o_d1 : Option Addr} {n_d1 : Nat} {sl_d1 : Array (Option Value)}
    {o_d2 : Option Addr} {n_d2 : Nat} {sl_d2 : Array (Option Value)}
    {o_d3 : Option Addr} {n_d3 : Nat} {sl_d3 : Array (Option Value)}
    {o_d4 : Option Addr} {n_d4 : Nat} {sl_d4 : Array (Option Value)}
    {o_d5 : Option Addr} {n_d5 : Nat} {sl_d5 : Array (Option Value)}
    {od_brule an_brule : Option Addr} {sl_brule : Array (Option Value)} {oc_brule kV_brule dc_brule pm_brule cd_brule ct_brule : Value}
    {od_brules an_brules : Option Addr} {sl_brules : Array (Option Value)} {oc_brules kV_brules dc_brules pm_brules cd_brules ct_brules : Value}
    {od_bwith an_bwith : Option Addr} {sl_bwith : Array (Option Value)} {oc_bwith kV_bwith dc_bwith pm_bwith cd_bwith ct_bwith : Value}
    {od_bask an_bask : Option Addr} {sl_bask : Array (Option Value)} {oc_bask kV_bask dc_bask pm_bask cd_bask ct_bask : Value}
    {od_beq an_beq : Option Addr} {sl_beq : Array (Option Value)} {oc_beq kV_beq dc_beq pm_beq cd_beq ct_beq : Value}
    {od_is_action an_is_action : Option Addr} {sl_is_action : Array (Option Value)} {oc_is_action kV_is_action dc_is_action pm_is_action cd_is_action ct_is_action : Value}
    {od_is_rule an_is_rule : Option Addr} {sl_is_rule : Array (Option Value)} {oc_is_rule kV_is_rule dc_is_rule pm_is_rule cd_is_rule ct_is_rule : Value}
    {od_is_door an_is_door : Option Addr} {sl_is_door : Array (Option Value)} {oc_is_door kV_is_door dc_is_door pm_is_door cd_is_door ct_is_door : Value}
    {od_are_distinct_doors an_are_distinct_doors : Option Addr} {sl_are_distinct_doors : Array (Option Value)} {oc_are_distinct_doors kV_are_distinct_doors dc_are_distinct_doors pm_are_distinct_doors cd_are_distinct_doors ct_are_distinct_doors : Value}
    {od__law_jar an__law_jar : Option Addr} {sl__law_jar : Array (Option Value)} {oc__law_jar kV__law_jar dc__law_jar pm__law_jar cd__law_jar ct__law_jar : Value}
    {od__law_draw an__law_draw : Option Addr} {sl__law_draw : Array (Option Value)} {oc__law_draw kV__law_draw dc__law_draw pm__law_draw cd__law_draw ct__law_draw : Value}
    {od__law_rule an__law_rule : Option Addr} {sl__law_rule : Array (Option Value)} {oc__law_rule kV__law_rule dc__law_rule pm__law_rule cd__law_rule ct__law_rule : Value}
    {od__law_six an__law_six : Option Addr} {sl__law_six : Array (Option Value)} {oc__law_six kV__law_six dc__law_six pm__law_six cd__law_six ct__law_six : Value}
    {od__law_near an__law_near : Option Addr} {sl__law_near : Array (Option Value)} {oc__law_near kV__law_near dc__law_near pm__law_near cd__law_near ct__law_near : Value}
    {od__law_equal an__law_equal : Option Addr} {sl__law_equal : Array (Option Value)} {oc__law_equal kV__law_equal dc__law_equal pm__law_equal cd__law_equal ct__law_equal : Value}
    {od__law_right an__law_right : Option Addr} {sl__law_right : Array (Option Value)} {oc__law_right kV__law_right dc__law_right pm__law_right cd__law_right ct__law_right : Value}
    {od_law an_law : Option Addr} {sl_law : Array (Option Value)} {oc_law kV_law dc_law pm_law cd_law ct_law : Value}
    (z_int : PySem.W.nsIn K mainGlobals "int" = some none)
    (z_len : PySem.W.nsIn K mainGlobals "len" = some none)
    (z_abs : PySem.W.nsIn K mainGlobals "abs" = some none)
    (z_max : PySem.W.nsIn K mainGlobals "max" = some none)
    (z_range : PySem.W.nsIn K mainGlobals "range" = some none)
    (z_tuple : PySem.W.nsIn K mainGlobals "tuple" = some none)
    (z_str : PySem.W.nsIn K mainGlobals "str" = some none)
    (z_isinstance : PySem.W.nsIn K mainGlobals "isinstance" = some none)
    (z_all : PySem.W.nsIn K mainGlobals "all" = some none)
    (z_zip : PySem.W.nsIn K mainGlobals "zip" = some none)
    (z_min : PySem.W.nsIn K mainGlobals "min" = some none)
    (z_list : PySem.W.nsIn K mainGlobals "list" = some none)
    (z_set : PySem.W.nsIn K mainGlobals "set" = some none)
    (z_bool : PySem.W.nsIn K mainGlobals "bool" = some none)
    (a_ACTIONS : PySem.W.nsIn K mainGlobals "ACTIONS" = some (some (.ref A_ACTIONS)))
    (l_ACTIONS : K.lookup A_ACTIONS = some ⟨.type "tuple", none, .seq its_ACTIONS n_ACTIONS, sl_ACTIONS⟩)
    (z_ACTIONS : its_ACTIONS.size ≤ sizeLine)
    (v_ACTIONS : Vals (Sh.acts.map V.str) its_ACTIONS.toList)
    (a_DOORS : PySem.W.nsIn K mainGlobals "DOORS" = some (some (.ref A_DOORS)))
    (l_DOORS : K.lookup A_DOORS = some ⟨.type "tuple", none, .seq its_DOORS n_DOORS, sl_DOORS⟩)
    (z_DOORS : its_DOORS.size ≤ sizeLine)
    (v_DOORS : Vals (Sh.doors.map V.str) its_DOORS.toList)
    (a_MOST_ACTIONS : PySem.W.nsIn K mainGlobals "MOST_ACTIONS" = some (some (.int 6 t_MOST_ACTIONS)))
    (a_NoRule : PySem.W.nsIn K mainGlobals "NoRule" = some (some (.ref C_NoRule)))
    (x_NoRule : K.lookup C_NoRule = some (PySem.excClassObj nm_NoRule q_NoRule C_NoRule N_NoRule bs_NoRule bm_NoRule true sn_NoRule sub_NoRule ab_NoRule col_NoRule dd_NoRule m0_NoRule m1_NoRule m2_NoRule m3_NoRule m5_NoRule "ValueError.__new__"))
    (r_NoRule : PySem.HandSPX.refsVE bm_NoRule = true)
    (sa_NoRule : PySem.W.findIn K (.ref C_NoRule) "__setattr__" = some (some (.builtin "object.__setattr__")))
    (no_NoRule : PySem.W.findIn K (.ref C_NoRule) "door" = some none)
    (a_eNoRule : PySem.W.findIn K (.ref C_NoRule) "__init__" = some (some (.ref f_eNoRule)))
    (t_eNoRule : PySem.W.typeIn K (.ref f_eNoRule) = some (.type "function"))
    (l_eNoRule : K.lookup f_eNoRule = some ⟨oc_eNoRule, od_eNoRule, .func (PySem.W.fnOf "__init__" "NoRule.__init__" (defArgs Sh.s_eRule) (defBody Sh.s_eRule) (defScope Sh.s_eRule) .none kV_eNoRule dc_eNoRule pm_eNoRule an_eNoRule cd_eNoRule ct_eNoRule), sl_eNoRule⟩)
    (c_eNoRule : PySem.W.codeIn K cd_eNoRule "NoRule.__init__" = true)
    (k_eNoRule : PySem.W.keepIn K (.ref f_eNoRule) = true)
    (kc_NoRule : PySem.W.keepIn K (.ref C_NoRule) = true)
    (ec_NoRule : PySem.W.subIn K (.ref C_NoRule) (.type "BaseException") = some true)
    (tc_NoRule : PySem.W.typeIn K (.ref C_NoRule) = some (.type "type"))
    (a_NoDoor : PySem.W.nsIn K mainGlobals "NoDoor" = some (some (.ref C_NoDoor)))
    (x_NoDoor : K.lookup C_NoDoor = some (PySem.excClassObj nm_NoDoor q_NoDoor C_NoDoor N_NoDoor bs_NoDoor bm_NoDoor true sn_NoDoor sub_NoDoor ab_NoDoor col_NoDoor dd_NoDoor m0_NoDoor m1_NoDoor m2_NoDoor m3_NoDoor m5_NoDoor "ValueError.__new__"))
    (r_NoDoor : PySem.HandSPX.refsVE bm_NoDoor = true)
    (sa_NoDoor : PySem.W.findIn K (.ref C_NoDoor) "__setattr__" = some (some (.builtin "object.__setattr__")))
    (no_NoDoor : PySem.W.findIn K (.ref C_NoDoor) "door" = some none)
    (a_eNoDoor : PySem.W.findIn K (.ref C_NoDoor) "__init__" = some (some (.ref f_eNoDoor)))
    (t_eNoDoor : PySem.W.typeIn K (.ref f_eNoDoor) = some (.type "function"))
    (l_eNoDoor : K.lookup f_eNoDoor = some ⟨oc_eNoDoor, od_eNoDoor, .func (PySem.W.fnOf "__init__" "NoDoor.__init__" (defArgs Sh.s_eDoor) (defBody Sh.s_eDoor) (defScope Sh.s_eDoor) .none kV_eNoDoor dc_eNoDoor pm_eNoDoor an_eNoDoor cd_eNoDoor ct_eNoDoor), sl_eNoDoor⟩)
    (c_eNoDoor : PySem.W.codeIn K cd_eNoDoor "NoDoor.__init__" = true)
    (k_eNoDoor : PySem.W.keepIn K (.ref f_eNoDoor) = true)
    (kc_NoDoor : PySem.W.keepIn K (.ref C_NoDoor) = true)
    (ec_NoDoor : PySem.W.subIn K (.ref C_NoDoor) (.type "BaseException") = some true)
    (tc_NoDoor : PySem.W.typeIn K (.ref C_NoDoor) = some (.type "type"))
    (a_Book : PySem.W.nsIn K mainGlobals "Book" = some (some (.ref C_Book)))
    (pg_Book : PySem.W.plainGet K C_Book Str.empty = true)
    (hd_Book : PySem.W.hasDictIn K C_Book = true)
    (po_Book : PySem.W.plainOver K C_Book = true)
    (sa_Book : PySem.W.findIn K (.ref C_Book) "__setattr__" = some (some (.builtin "object.__setattr__")))
    (mk_Book : PySem.W.makesIn K C_Book = true)
    (kc_Book : PySem.W.keepIn K (.ref C_Book) = true)
    (n_Book__rules : PySem.W.findIn K (.ref C_Book) "_rules" = some none)
    (a_init : PySem.W.findIn K (.ref C_Book) "__init__" = some (some (.ref f_init)))
    (i_init : PySem.W.isFn K (.ref f_init) = true)
    (l_init : K.lookup f_init = some ⟨oc_init, od_init, .func (PySem.W.fnOf "__init__" "Book.__init__" (defArgs Sh.s_init) (defBody Sh.s_init) (defScope Sh.s_init) (.ref T_d) kV_init dc_init pm_init an_init cd_init ct_init), sl_init⟩)
    (c_init : PySem.W.codeIn K cd_init "Book.__init__" = true)
    (k_init : PySem.W.keepIn K (.ref f_init) = true)
    (l_d : K.lookup T_d = some ⟨cT, oT, .seq #[.ref A_d0, .ref A_d1, .ref A_d2, .ref A_d3, .ref A_d4, .ref A_d5] nT, slT⟩)
    (l_d0 : K.lookup A_d0 = some ⟨.type "tuple", o_d0, .seq #[] n_d0, sl_d0⟩)
    (l_d1 : K.lookup A_d1 = some ⟨.type "tuple", o_d1, .seq #[] n_d1, sl_d1⟩)
    (l_d2 : K.lookup A_d2 = some ⟨.type "tuple", o_d2, .seq #[] n_d2, sl_d2⟩)
    (l_d3 : K.lookup A_d3 = some ⟨.type "tuple", o_d3, .seq #[] n_d3, sl_d3⟩)
    (l_d4 : K.lookup A_d4 = some ⟨.type "tuple", o_d4, .seq #[] n_d4, sl_d4⟩)
    (l_d5 : K.lookup A_d5 = some ⟨.type "tuple", o_d5, .seq #[] n_d5, sl_d5⟩)
    (a_brule : PySem.W.findIn K (.ref C_Book) "rule" = some (some (.ref f_brule)))
    (i_brule : PySem.W.isFn K (.ref f_brule) = true)
    (l_brule : K.lookup f_brule = some ⟨oc_brule, od_brule, .func (PySem.W.fnOf "rule" "Book.rule" (defArgs Sh.s_brule) (defBody Sh.s_brule) (defScope Sh.s_brule) .none kV_brule dc_brule pm_brule an_brule cd_brule ct_brule), sl_brule⟩)
    (c_brule : PySem.W.codeIn K cd_brule "Book.rule" = true)
    (k_brule : PySem.W.keepIn K (.ref f_brule) = true)
    (a_brules : PySem.W.findIn K (.ref C_Book) "rules" = some (some (.ref f_brules)))
    (i_brules : PySem.W.isFn K (.ref f_brules) = true)
    (l_brules : K.lookup f_brules = some ⟨oc_brules, od_brules, .func (PySem.W.fnOf "rules" "Book.rules" (defArgs Sh.s_brules) (defBody Sh.s_brules) (defScope Sh.s_brules) .none kV_brules dc_brules pm_brules an_brules cd_brules ct_brules), sl_brules⟩)
    (c_brules : PySem.W.codeIn K cd_brules "Book.rules" = true)
    (k_brules : PySem.W.keepIn K (.ref f_brules) = true)
    (a_bwith : PySem.W.findIn K (.ref C_Book) "with_rule" = some (some (.ref f_bwith)))
    (i_bwith : PySem.W.isFn K (.ref f_bwith) = true)
    (l_bwith : K.lookup f_bwith = some ⟨oc_bwith, od_bwith, .func (PySem.W.fnOf "with_rule" "Book.with_rule" (defArgs Sh.s_with) (defBody Sh.s_with) (defScope Sh.s_with) .none kV_bwith dc_bwith pm_bwith an_bwith cd_bwith ct_bwith), sl_bwith⟩)
    (c_bwith : PySem.W.codeIn K cd_bwith "Book.with_rule" = true)
    (k_bwith : PySem.W.keepIn K (.ref f_bwith) = true)
    (a_bask : PySem.W.findIn K (.ref C_Book) "asking" = some (some (.ref f_bask)))
    (i_bask : PySem.W.isFn K (.ref f_bask) = true)
    (l_bask : K.lookup f_bask = some ⟨oc_bask, od_bask, .func (PySem.W.fnOf "asking" "Book.asking" (defArgs Sh.s_ask) (defBody Sh.s_ask) (defScope Sh.s_ask) .none kV_bask dc_bask pm_bask an_bask cd_bask ct_bask), sl_bask⟩)
    (c_bask : PySem.W.codeIn K cd_bask "Book.asking" = true)
    (k_bask : PySem.W.keepIn K (.ref f_bask) = true)
    (a_NoDoors : PySem.W.nsIn K mainGlobals "NoDoors" = some (some (.ref C_NoDoors)))
    (xP_NoDoors : PySem.W.excIn K C_NoDoors [.type "ValueError", .type "Exception", .type "BaseException", .type "object"] "ValueError.__new__" = true)
    (kc_NoDoors : PySem.W.keepIn K (.ref C_NoDoors) = true)
    (ec_NoDoors : PySem.W.subIn K (.ref C_NoDoors) (.type "BaseException") = some true)
    (tc_NoDoors : PySem.W.typeIn K (.ref C_NoDoors) = some (.type "type"))
    (a_beq : PySem.W.findIn K (.ref C_Book) "__eq__" = some (some (.ref f_beq)))
    (i_beq : PySem.W.isFn K (.ref f_beq) = true)
    (l_beq : K.lookup f_beq = some ⟨oc_beq, od_beq, .func (PySem.W.fnOf "__eq__" "Book.__eq__" (defArgs Sh.s_eq) (defBody Sh.s_eq) (defScope Sh.s_eq) .none kV_beq dc_beq pm_beq an_beq cd_beq ct_beq), sl_beq⟩)
    (c_beq : PySem.W.codeIn K cd_beq "Book.__eq__" = true)
    (k_beq : PySem.W.keepIn K (.ref f_beq) = true)
    (ha_Book : PySem.W.findIn K (.ref C_Book) "__class__" = some (some (.builtin "object.__class__")))
    (hn_Book : PySem.W.specialIn K (.builtin "object.__class__") "__get__" = some (some (.builtin "getset_descriptor.__get__")))
    (ht_Book : PySem.W.takesIn K (.builtin "object.__class__") = some true)
    (hm_Book : PySem.W.mroIn K C_Book (.type "object") = some true)
    (ne_Book : PySem.W.findIn K (.ref C_Book) "__ne__" = some (some (.builtin "object.__ne__")))
    (tc_Book : PySem.W.typeIn K (.ref C_Book) = some (.type "type"))
    (s_Book_NoneType : PySem.W.subIn K (.ref C_Book) (.type "NoneType") = some false)
    (s_Book_bool : PySem.W.subIn K (.ref C_Book) (.type "bool") = some false)
    (s_Book_int : PySem.W.subIn K (.ref C_Book) (.type "int") = some false)
    (s_Book_str : PySem.W.subIn K (.ref C_Book) (.type "str") = some false)
    (s_Book_list : PySem.W.subIn K (.ref C_Book) (.type "list") = some false)
    (s_Book_tuple : PySem.W.subIn K (.ref C_Book) (.type "tuple") = some false)
    (a_is_action : PySem.W.nsIn K mainGlobals "is_action" = some (some (.ref f_is_action)))
    (l_is_action : K.lookup f_is_action = some ⟨oc_is_action, od_is_action, .func (PySem.W.fnOf "is_action" "is_action" (defArgs Sh.s_isact) (defBody Sh.s_isact) (defScope Sh.s_isact) .none kV_is_action dc_is_action pm_is_action an_is_action cd_is_action ct_is_action), sl_is_action⟩)
    (c_is_action : PySem.W.codeIn K cd_is_action "is_action" = true)
    (k_is_action : PySem.W.keepIn K (.ref f_is_action) = true)
    (a_is_rule : PySem.W.nsIn K mainGlobals "is_rule" = some (some (.ref f_is_rule)))
    (l_is_rule : K.lookup f_is_rule = some ⟨oc_is_rule, od_is_rule, .func (PySem.W.fnOf "is_rule" "is_rule" (defArgs Sh.s_isrule) (defBody Sh.s_isrule) (defScope Sh.s_isrule) .none kV_is_rule dc_is_rule pm_is_rule an_is_rule cd_is_rule ct_is_rule), sl_is_rule⟩)
    (c_is_rule : PySem.W.codeIn K cd_is_rule "is_rule" = true)
    (k_is_rule : PySem.W.keepIn K (.ref f_is_rule) = true)
    (a_is_door : PySem.W.nsIn K mainGlobals "is_door" = some (some (.ref f_is_door)))
    (l_is_door : K.lookup f_is_door = some ⟨oc_is_door, od_is_door, .func (PySem.W.fnOf "is_door" "is_door" (defArgs Sh.s_isdoor) (defBody Sh.s_isdoor) (defScope Sh.s_isdoor) .none kV_is_door dc_is_door pm_is_door an_is_door cd_is_door ct_is_door), sl_is_door⟩)
    (c_is_door : PySem.W.codeIn K cd_is_door "is_door" = true)
    (k_is_door : PySem.W.keepIn K (.ref f_is_door) = true)
    (a_are_distinct_doors : PySem.W.nsIn K mainGlobals "are_distinct_doors" = some (some (.ref f_are_distinct_doors)))
    (l_are_distinct_doors : K.lookup f_are_distinct_doors = some ⟨oc_are_distinct_doors, od_are_distinct_doors, .func (PySem.W.fnOf "are_distinct_doors" "are_distinct_doors" (defArgs Sh.s_dist) (defBody Sh.s_dist) (defScope Sh.s_dist) .none kV_are_distinct_doors dc_are_distinct_doors pm_are_distinct_doors an_are_distinct_doors cd_are_distinct_doors ct_are_distinct_doors), sl_are_distinct_doors⟩)
    (c_are_distinct_doors : PySem.W.codeIn K cd_are_distinct_doors "are_distinct_doors" = true)
    (k_are_distinct_doors : PySem.W.keepIn K (.ref f_are_distinct_doors) = true)
    (a__law_jar : PySem.W.nsIn K mainGlobals "_law_jar" = some (some (.ref f__law_jar)))
    (l__law_jar : K.lookup f__law_jar = some ⟨oc__law_jar, od__law_jar, .func (PySem.W.fnOf "_law_jar" "_law_jar" (defArgs Sh.s_jar) (defBody Sh.s_jar) (defScope Sh.s_jar) .none kV__law_jar dc__law_jar pm__law_jar an__law_jar cd__law_jar ct__law_jar), sl__law_jar⟩)
    (c__law_jar : PySem.W.codeIn K cd__law_jar "_law_jar" = true)
    (k__law_jar : PySem.W.keepIn K (.ref f__law_jar) = true)
    (a__law_draw : PySem.W.nsIn K mainGlobals "_law_draw" = some (some (.ref f__law_draw)))
    (l__law_draw : K.lookup f__law_draw = some ⟨oc__law_draw, od__law_draw, .func (PySem.W.fnOf "_law_draw" "_law_draw" (defArgs Sh.s_draw) (defBody Sh.s_draw) (defScope Sh.s_draw) .none kV__law_draw dc__law_draw pm__law_draw an__law_draw cd__law_draw ct__law_draw), sl__law_draw⟩)
    (c__law_draw : PySem.W.codeIn K cd__law_draw "_law_draw" = true)
    (k__law_draw : PySem.W.keepIn K (.ref f__law_draw) = true)
    (a__law_rule : PySem.W.nsIn K mainGlobals "_law_rule" = some (some (.ref f__law_rule)))
    (l__law_rule : K.lookup f__law_rule = some ⟨oc__law_rule, od__law_rule, .func (PySem.W.fnOf "_law_rule" "_law_rule" (defArgs Sh.s_rule) (defBody Sh.s_rule) (defScope Sh.s_rule) .none kV__law_rule dc__law_rule pm__law_rule an__law_rule cd__law_rule ct__law_rule), sl__law_rule⟩)
    (c__law_rule : PySem.W.codeIn K cd__law_rule "_law_rule" = true)
    (k__law_rule : PySem.W.keepIn K (.ref f__law_rule) = true)
    (a__law_six : PySem.W.nsIn K mainGlobals "_law_six" = some (some (.ref f__law_six)))
    (l__law_six : K.lookup f__law_six = some ⟨oc__law_six, od__law_six, .func (PySem.W.fnOf "_law_six" "_law_six" (defArgs Sh.s_six) (defBody Sh.s_six) (defScope Sh.s_six) .none kV__law_six dc__law_six pm__law_six an__law_six cd__law_six ct__law_six), sl__law_six⟩)
    (c__law_six : PySem.W.codeIn K cd__law_six "_law_six" = true)
    (k__law_six : PySem.W.keepIn K (.ref f__law_six) = true)
    (a__law_near : PySem.W.nsIn K mainGlobals "_law_near" = some (some (.ref f__law_near)))
    (l__law_near : K.lookup f__law_near = some ⟨oc__law_near, od__law_near, .func (PySem.W.fnOf "_law_near" "_law_near" (defArgs Sh.s_near) (defBody Sh.s_near) (defScope Sh.s_near) .none kV__law_near dc__law_near pm__law_near an__law_near cd__law_near ct__law_near), sl__law_near⟩)
    (c__law_near : PySem.W.codeIn K cd__law_near "_law_near" = true)
    (k__law_near : PySem.W.keepIn K (.ref f__law_near) = true)
    (a__law_equal : PySem.W.nsIn K mainGlobals "_law_equal" = some (some (.ref f__law_equal)))
    (l__law_equal : K.lookup f__law_equal = some ⟨oc__law_equal, od__law_equal, .func (PySem.W.fnOf "_law_equal" "_law_equal" (defArgs Sh.s_equal) (defBody Sh.s_equal) (defScope Sh.s_equal) .none kV__law_equal dc__law_equal pm__law_equal an__law_equal cd__law_equal ct__law_equal), sl__law_equal⟩)
    (c__law_equal : PySem.W.codeIn K cd__law_equal "_law_equal" = true)
    (k__law_equal : PySem.W.keepIn K (.ref f__law_equal) = true)
    (a__law_right : PySem.W.nsIn K mainGlobals "_law_right" = some (some (.ref f__law_right)))
    (l__law_right : K.lookup f__law_right = some ⟨oc__law_right, od__law_right, .func (PySem.W.fnOf "_law_right" "_law_right" (defArgs Sh.s_right) (defBody Sh.s_right) (defScope Sh.s_right) .none kV__law_right dc__law_right pm__law_right an__law_right cd__law_right ct__law_right), sl__law_right⟩)
    (c__law_right : PySem.W.codeIn K cd__law_right "_law_right" = true)
    (k__law_right : PySem.W.keepIn K (.ref f__law_right) = true)
    (a_law : PySem.W.nsIn K mainGlobals "law" = some (some (.ref f_law)))
    (l_law : K.lookup f_law = some ⟨oc_law, od_law, .func (PySem.W.fnOf "law" "law" (defArgs Sh.s_law) (defBody Sh.s_law) (defScope Sh.s_law) .none kV_law dc_law pm_law an_law cd_law ct_law), sl_law⟩)
    (c_law : PySem.W.codeIn K cd_law "law" = true)
    (k_law : PySem.W.keepIn K (.ref f_law) = true) :
    ∃ fd : FuncData, (∀ (s : Shared) (v : Value), BindsTo s fd ⟨[v], []⟩ [("script", v)]) ∧ ∀ base : Heap, K.In base → base.Ns mainGlobals mg → FnOk l.prog w K mg base CX0 9 fa fd ["script"] (spLaw K) := by
  have e := hfa.symm.trans (PySem.W.mg_of X G a_law)
  cases e
  have B : TxtB mg := ⟨PySem.W.mg_none_of X G z_int, PySem.W.mg_none_of X G z_len, PySem.W.mg_none_of X G z_abs, PySem.W.mg_none_of X G z_max, PySem.W.mg_none_of X G z_range, PySem.W.mg_none_of X G z_tuple, PySem.W.mg_none_of X G z_str, PySem.W.mg_none_of X G z_isinstance, PySem.W.mg_none_of X G z_all, PySem.W.mg_none_of X G z_zip⟩
  have TK : TxtK K mg A_ACTIONS A_DOORS := ⟨PySem.W.mg_of X G a_ACTIONS, PySem.W.mg_of X G a_DOORS, ⟨_, PySem.W.mg_of X G a_MOST_ACTIONS⟩, ⟨_, _, _, l_ACTIONS, rfl, rfl, rfl, z_ACTIONS, v_ACTIONS⟩, ⟨_, _, _, l_DOORS, rfl, rfl, rfl, z_DOORS, v_DOORS⟩⟩
  have TE1 : ErrTxt K mg "NoRule" "door" C_NoRule f_eNoRule := ⟨⟨⟨_, _, _, _, _, _, _, _, _, _, _, _, _, _, _, x_NoRule, r_NoRule⟩, sa_NoRule, ec_NoRule, tc_NoRule, kc_NoRule⟩, no_NoRule, a_eNoRule, t_eNoRule, PySem.W.mg_of X G a_NoRule⟩
  have TE2 : ErrTxt K mg "NoDoor" "door" C_NoDoor f_eNoDoor := ⟨⟨⟨_, _, _, _, _, _, _, _, _, _, _, _, _, _, _, x_NoDoor, r_NoDoor⟩, sa_NoDoor, ec_NoDoor, tc_NoDoor, kc_NoDoor⟩, no_NoDoor, a_eNoDoor, t_eNoDoor, PySem.W.mg_of X G a_NoDoor⟩
  have TB : TxtBook K mg C_Book := ⟨⟨pg_Book, hd_Book, po_Book, sa_Book⟩, n_Book__rules, PySem.W.mg_of X G a_Book⟩
  have FE1 := fun_mk (st := s_eRule) l_eNoRule c_eNoRule k_eNoRule
  have FE2 := fun_mk (st := s_eDoor) l_eNoDoor c_eNoDoor k_eNoDoor
  have FI : FunD K "__init__" "Book.__init__" (defArgs s_init) (defBody s_init) (defScope s_init) [.ref A_d0, .ref A_d1, .ref A_d2, .ref A_d3, .ref A_d4, .ref A_d5] [] f_init _ := ⟨⟨_, _, _, _, _, _, _, _, _, _, rfl, l_init, c_init, .inr ⟨(fun z => by cases z), _, _, [.ref A_d0, .ref A_d1, .ref A_d2, .ref A_d3, .ref A_d4, .ref A_d5], _, rfl, l_d, rfl, (.cons rfl (.cons rfl (.cons rfl (.cons rfl (.cons rfl (.cons rfl .nil))))))⟩, .inl rfl⟩, k_init⟩
  have F_brule := fun_mk (st := s_brule) l_brule c_brule k_brule
  have F_brules := fun_mk (st := s_brules) l_brules c_brules k_brules
  have F_bwith := fun_mk (st := s_with) l_bwith c_bwith k_bwith
  have F_bask := fun_mk (st := s_ask) l_bask c_bask k_bask
  have F_beq := fun_mk (st := s_eq) l_beq c_beq k_beq
  have F_is_action := fun_mk (st := s_isact) l_is_action c_is_action k_is_action
  have F_is_rule := fun_mk (st := s_isrule) l_is_rule c_is_rule k_is_rule
  have F_is_door := fun_mk (st := s_isdoor) l_is_door c_is_door k_is_door
  have F_are_distinct_doors := fun_mk (st := s_dist) l_are_distinct_doors c_are_distinct_doors k_are_distinct_doors
  have F__law_jar := fun_mk (st := s_jar) l__law_jar c__law_jar k__law_jar
  have F__law_draw := fun_mk (st := s_draw) l__law_draw c__law_draw k__law_draw
  have F__law_rule := fun_mk (st := s_rule) l__law_rule c__law_rule k__law_rule
  have F__law_six := fun_mk (st := s_six) l__law_six c__law_six k__law_six
  have F__law_near := fun_mk (st := s_near) l__law_near c__law_near k__law_near
  have F__law_equal := fun_mk (st := s_equal) l__law_equal c__law_equal k__law_equal
  have F__law_right := fun_mk (st := s_right) l__law_right c__law_right k__law_right
  have F_law := fun_mk (st := s_law) l_law c_law k_law
  have bE1 := FE1.binds (ps := ["self", "door"]) fun _ _ _ _ _ _ us hl => match us, hl with | [_, _], _ => rfl
  have bE2 := FE2.binds (ps := ["self", "door"]) fun _ _ _ _ _ _ us hl => match us, hl with | [_, _], _ => rfl
  have bR := F_brule.binds (ps := ["self", "door"]) fun _ _ _ _ _ _ us hl => match us, hl with | [_, _], _ => rfl
  have bRs := F_brules.binds (ps := ["self"]) fun _ _ _ _ _ _ us hl => match us, hl with | [_], _ => rfl
  have bAct := F_is_action.binds (ps := ["value"]) fun _ _ _ _ _ _ us hl => match us, hl with | [_], _ => rfl
  have bRule := F_is_rule.binds (ps := ["value"]) fun _ _ _ _ _ _ us hl => match us, hl with | [_], _ => rfl
  have bDoor := F_is_door.binds (ps := ["value"]) fun _ _ _ _ _ _ us hl => match us, hl with | [_], _ => rfl
  have bWith := F_bwith.binds (ps := ["self", "door", "rule"]) fun _ _ _ _ _ _ us hl => match us, hl with | [_, _, _], _ => rfl
  have bAsk := F_bask.binds (ps := ["self", "doors"]) fun _ _ _ _ _ _ us hl => match us, hl with | [_, _], _ => rfl
  have bDist := F_are_distinct_doors.binds (ps := ["value"]) fun _ _ _ _ _ _ us hl => match us, hl with | [_], _ => rfl
  have bEq := F_beq.binds (ps := ["self", "other"]) fun _ _ _ _ _ _ us hl => match us, hl with | [_, _], _ => rfl
  have bJ := F__law_jar.binds (ps := ["script", "k"]) fun _ _ _ _ _ _ us hl => match us, hl with | [_, _], _ => rfl
  have bD := F__law_draw.binds (ps := ["jar", "many"]) fun _ _ _ _ _ _ us hl => match us, hl with | [_, _], _ => rfl
  have bRu := F__law_rule.binds (ps := ["jar", "most"]) fun _ _ _ _ _ _ us hl => match us, hl with | [_, _], _ => rfl
  have bS := F__law_six.binds (ps := ["jar"]) fun _ _ _ _ _ _ us hl => match us, hl with | [_], _ => rfl
  have bNr := F__law_near.binds (ps := ["jar", "six"]) fun _ _ _ _ _ _ us hl => match us, hl with | [_, _], _ => rfl
  have bQ := F__law_equal.binds (ps := ["one", "other", "due"]) fun _ _ _ _ _ _ us hl => match us, hl with | [_, _, _], _ => rfl
  have bRi := F__law_right.binds (ps := ["jar"]) fun _ _ _ _ _ _ us hl => match us, hl with | [_], _ => rfl
  obtain ⟨ds6, v6, b6⟩ := init_b6 FI
  cases v6
  refine ⟨PySem.W.fnOf "law" "law" (defArgs s_law) (defBody s_law) (defScope s_law) .none kV_law dc_law pm_law an_law cd_law ct_law, fun s v => .of_eq rfl, fun base _ _ => ?_⟩
  have GI := ok_init (P := l.prog) (w := w) (base := base) FI B TK TB (PySem.W.mg_of X G a_is_action) F_is_action bAct (PySem.W.mg_of X G a_is_rule) F_is_rule bRule TE1 FE1 bE1
  have GR := ok_brule (P := l.prog) (w := w) (base := base) F_brule B TK TB (PySem.W.mg_of X G a_is_door) F_is_door bDoor TE2 FE2 bE2
  have GRs := ok_brules (P := l.prog) (w := w) (base := base) F_brules TB
  have MK : Mk K C_Book f_init := ⟨mk_Book, a_init, i_init, kc_Book⟩
  have M : MkB l.prog w K mg base C_Book C_NoRule f_init _ (.ref A_d0) (.ref A_d1) (.ref A_d2) (.ref A_d3) (.ref A_d4) (.ref A_d5) := ⟨MK, GI, fun H => .cons (empty_at l_d0) (.cons (empty_at l_d1) (.cons (empty_at l_d2) (.cons (empty_at l_d3) (.cons (empty_at l_d4) (.cons (empty_at l_d5) .nil)))))⟩
  have mR : Meth K C_Book "rule" f_brule := ⟨a_brule, i_brule, k_brule⟩
  have mRs : Meth K C_Book "rules" f_brules := ⟨a_brules, i_brules, k_brules⟩
  have GW := ok_with (P := l.prog) (w := w) (base := base) F_bwith B TK TB (PySem.W.mg_of X G a_is_door) F_is_door bDoor TE2 FE2 bE2 MK GI b6
  have mW : Meth K C_Book "with_rule" f_bwith := ⟨a_bwith, i_bwith, k_bwith⟩
  have ON : OwnTxt K mg "NoDoors" C_NoDoors := ⟨xP_NoDoors, PySem.W.mg_of X G a_NoDoors, kc_NoDoors, ec_NoDoors, tc_NoDoors⟩
  have GDi := ok_dist (P := l.prog) (w := w) (base := base) F_are_distinct_doors B (PySem.W.mg_none_of X G z_set) TK (PySem.W.mg_of X G a_is_door) F_is_door bDoor
  have GA := ok_ask (P := l.prog) (w := w) (base := base) F_bask B TK TB ON (PySem.W.mg_of X G a_are_distinct_doors) k_are_distinct_doors bDist GDi MK GI b6
  have mA : Meth K C_Book "asking" f_bask := ⟨a_bask, i_bask, k_bask⟩
  have TI : InsTxt K C_Book := ⟨ha_Book, hn_Book, ht_Book, hm_Book, kit_self⟩
  have NT : NeTxt K C_Book f_beq := ⟨a_beq, i_beq, ne_Book, hm_Book, hd_Book, tc_Book, s_Book_NoneType, s_Book_bool, s_Book_int, s_Book_str, s_Book_list, s_Book_tuple⟩
  have GE := ok_eqA (P := l.prog) (w := w) (base := base) F_beq B TB TI NT
  have GJ := ok_jar (P := l.prog) (w := w) (base := base) F__law_jar B
  have GD := ok_draw (P := l.prog) (w := w) (base := base) (K := K) F__law_draw B
  have GRu := ok_rule (P := l.prog) (w := w) (base := base) (K := K) F__law_rule B (PySem.W.mg_of X G a__law_draw) F__law_draw bD
  have GS := ok_six (P := l.prog) (w := w) (base := base) F__law_six B (PySem.W.mg_of X G a__law_draw) F__law_draw bD (PySem.W.mg_of X G a__law_rule) F__law_rule bRu
  have GNr := ok_near (P := l.prog) (w := w) (base := base) F__law_near B (PySem.W.mg_none_of X G z_list) (PySem.W.mg_of X G a__law_draw) k__law_draw bD GD (PySem.W.mg_of X G a__law_rule) k__law_rule bRu GRu (PySem.W.mg_of X G a__law_six) k__law_six bS GS
  have GQ := ok_equal (P := l.prog) (w := w) (base := base) F__law_equal B (PySem.W.mg_none_of X G z_bool) GE NT bEq
  have GRi := ok_right (P := l.prog) (w := w) (base := base) F__law_right B TB (PySem.W.mg_none_of X G z_list) (PySem.W.mg_of X G a__law_draw) k__law_draw bD GD (PySem.W.mg_of X G a__law_six) k__law_six bS GS (PySem.W.mg_of X G a__law_near) k__law_near bNr GNr (PySem.W.mg_of X G a__law_equal) k__law_equal bQ GQ M b6 GW mW bWith GA mA bAsk mRs bRs GRs
  exact ok_law F_law B (PySem.W.mg_none_of X G z_min) (PySem.W.mg_of X G a__law_jar) k__law_jar bJ GJ (PySem.W.mg_of X G a__law_right) k__law_right bRi GRi

theorem walk {l : PySem.W.OpenLaw} {q : Program} {loose : List Str} {XP : (Str → Option Value) → Heap → Prop} {YP : World → Heap → Prop} {d : DefRec} {K : Params → PySem.W.Frag} (hn : l.most = some 63) (hdf : d.params.defaults = [])
    (hY : ∀ (w : World) (h : Heap), YP w h → (K w.params).In h)
    (F : ∀ (w : World) (mg : Str → Option Value) (fa : Addr) (h : Heap), (K w.params).In h → h.Ns mainGlobals mg → mg d.name = some (.ref fa) →
      ∃ fd : FuncData, (∀ (s : Shared) (u : Value), BindsTo s fd ⟨[u], []⟩ [("script", u)]) ∧ ∀ base : Heap, (K w.params).In base → base.Ns mainGlobals mg → FnOk l.prog w (K w.params) mg base CX0 9 fa fd ["script"] (spLaw (K w.params))) :
    PySem.W.WalkO q loose XP YP l.row.toRowW d [] (fun f vs => PySem.call f vs) :=
  L2.walk_of (n := 63) (k := 9) (x := "script") (CX := fun _ => CX0) (sp := fun w => spLaw (K w.params)) hn (by decide) hdf ⟨rfl, by decide, by decide⟩ hY F (fun _ _ a ns hl _ hS => ⟨a, ns, rfl, hS, hl, fun _ => rfl⟩) fun _ _ _ _ _ z => z
end Sh

open PySem PySem.W PyProof.Rows
set_option maxRecDepth 100000 in
set_option maxHeartbeats 0 in
theorem PySem.Challenge.cw_lastshown_k04_equal_books_holds : PySem.Challenge.rw_lastshown_k04_equal_books.Holds := by
  w_on; o_law; k_head; (case hw => w_witness2)
  k_fill
  refine Sh.walk (l := PySem.Challenge.rw_lastshown_k04_equal_books) rfl rfl (fun w h Y => PySem.W.kIn_of Y) ?F
  case F =>
    intro w mg fa h KX G hmg
    refine' Sh.all_mk KX G hmg ?z_int ?z_len ?z_abs ?z_max ?z_range ?z_tuple ?z_str ?z_isinstance ?z_all ?z_zip ?z_min ?z_list ?z_set ?z_bool ?a_ACTIONS ?l_ACTIONS ?z_ACTIONS ?v_ACTIONS ?a_DOORS ?l_DOORS ?z_DOORS ?v_DOORS ?a_MOST_ACTIONS ?a_NoRule ?x_NoRule ?r_NoRule ?sa_NoRule ?no_NoRule ?a_eNoRule ?t_eNoRule ?l_eNoRule ?c_eNoRule ?k_eNoRule ?kc_NoRule ?ec_NoRule ?tc_NoRule ?a_NoDoor ?x_NoDoor ?r_NoDoor ?sa_NoDoor ?no_NoDoor ?a_eNoDoor ?t_eNoDoor ?l_eNoDoor ?c_eNoDoor ?k_eNoDoor ?kc_NoDoor ?ec_NoDoor ?tc_NoDoor ?a_Book ?pg_Book ?hd_Book ?po_Book ?sa_Book ?mk_Book ?kc_Book ?n_Book__rules ?a_init ?i_init ?l_init ?c_init ?k_init ?l_d ?l_d0 ?l_d1 ?l_d2 ?l_d3 ?l_d4 ?l_d5 ?a_brule ?i_brule ?l_brule ?c_brule ?k_brule ?a_brules ?i_brules ?l_brules ?c_brules ?k_brules ?a_bwith ?i_bwith ?l_bwith ?c_bwith ?k_bwith ?a_bask ?i_bask ?l_bask ?c_bask ?k_bask ?a_NoDoors ?xP_NoDoors ?kc_NoDoors ?ec_NoDoors ?tc_NoDoors ?a_beq ?i_beq ?l_beq ?c_beq ?k_beq ?ha_Book ?hn_Book ?ht_Book ?hm_Book ?ne_Book ?tc_Book ?s_Book_NoneType ?s_Book_bool ?s_Book_int ?s_Book_str ?s_Book_list ?s_Book_tuple ?a_is_action ?l_is_action ?c_is_action ?k_is_action ?a_is_rule ?l_is_rule ?c_is_rule ?k_is_rule ?a_is_door ?l_is_door ?c_is_door ?k_is_door ?a_are_distinct_doors ?l_are_distinct_doors ?c_are_distinct_doors ?k_are_distinct_doors ?a__law_jar ?l__law_jar ?c__law_jar ?k__law_jar ?a__law_draw ?l__law_draw ?c__law_draw ?k__law_draw ?a__law_rule ?l__law_rule ?c__law_rule ?k__law_rule ?a__law_six ?l__law_six ?c__law_six ?k__law_six ?a__law_near ?l__law_near ?c__law_near ?k__law_near ?a__law_equal ?l__law_equal ?c__law_equal ?k__law_equal ?a__law_right ?l__law_right ?c__law_right ?k__law_right ?a_law ?l_law ?c_law ?k_law
    (case z_int => k_is)
    (case z_len => k_is)
    (case z_abs => k_is)
    (case z_max => k_is)
    (case z_range => k_is)
    (case z_tuple => k_is)
    (case z_str => k_is)
    (case z_isinstance => k_is)
    (case z_all => k_is)
    (case z_zip => k_is)
    (case z_min => k_is)
    (case z_list => k_is)
    (case z_set => k_is)
    (case z_bool => k_is)
    (case a_ACTIONS => k_is)
    (case l_ACTIONS => k_is)
    (case z_ACTIONS => decide +kernel)
    (case v_ACTIONS => exact (.cons ⟨_, rfl⟩ (.cons ⟨_, rfl⟩ (.cons ⟨_, rfl⟩ (.cons ⟨_, rfl⟩ (.cons ⟨_, rfl⟩ .nil))))))
    (case a_DOORS => k_is)
    (case l_DOORS => k_is)
    (case z_DOORS => decide +kernel)
    (case v_DOORS => exact (.cons ⟨_, rfl⟩ (.cons ⟨_, rfl⟩ (.cons ⟨_, rfl⟩ (.cons ⟨_, rfl⟩ (.cons ⟨_, rfl⟩ (.cons ⟨_, rfl⟩ .nil)))))))
    (case a_MOST_ACTIONS => k_is)
    (case a_NoRule => k_is)
    (case x_NoRule => k_is)
    (case r_NoRule => first | rfl | decide +kernel)
    (case sa_NoRule => k_is)
    (case no_NoRule => k_is)
    (case a_eNoRule => k_is)
    (case t_eNoRule => k_is)
    (case l_eNoRule => k_is)
    (case c_eNoRule => k_is)
    (case k_eNoRule => k_is)
    (case kc_NoRule => k_is)
    (case ec_NoRule => k_is)
    (case tc_NoRule => k_is)
    (case a_NoDoor => k_is)
    (case x_NoDoor => k_is)
    (case r_NoDoor => first | rfl | decide +kernel)
    (case sa_NoDoor => k_is)
    (case no_NoDoor => k_is)
    (case a_eNoDoor => k_is)
    (case t_eNoDoor => k_is)
    (case l_eNoDoor => k_is)
    (case c_eNoDoor => k_is)
    (case k_eNoDoor => k_is)
    (case kc_NoDoor => k_is)
    (case ec_NoDoor => k_is)
    (case tc_NoDoor => k_is)
    (case a_Book => k_is)
    (case pg_Book => k_is)
    (case hd_Book => k_is)
    (case po_Book => k_is)
    (case sa_Book => k_is)
    (case mk_Book => k_is)
    (case kc_Book => k_is)
    (case n_Book__rules => k_is)
    (case a_init => k_is)
    (case i_init => k_is)
    (case l_init => k_is)
    (case c_init => k_is)
    (case k_init => k_is)
    (case l_d => k_is)
    (case l_d0 => k_is)
    (case l_d1 => k_is)
    (case l_d2 => k_is)
    (case l_d3 => k_is)
    (case l_d4 => k_is)
    (case l_d5 => k_is)
    (case a_brule => k_is)
    (case i_brule => k_is)
    (case l_brule => k_is)
    (case c_brule => k_is)
    (case k_brule => k_is)
    (case a_brules => k_is)
    (case i_brules => k_is)
    (case l_brules => k_is)
    (case c_brules => k_is)
    (case k_brules => k_is)
    (case a_bwith => k_is)
    (case i_bwith => k_is)
    (case l_bwith => k_is)
    (case c_bwith => k_is)
    (case k_bwith => k_is)
    (case a_bask => k_is)
    (case i_bask => k_is)
    (case l_bask => k_is)
    (case c_bask => k_is)
    (case k_bask => k_is)
    (case a_NoDoors => k_is)
    (case xP_NoDoors => k_exc)
    (case kc_NoDoors => k_is)
    (case ec_NoDoors => k_is)
    (case tc_NoDoors => k_is)
    (case a_beq => k_is)
    (case i_beq => k_is)
    (case l_beq => k_is)
    (case c_beq => k_is)
    (case k_beq => k_is)
    (case ha_Book => k_is)
    (case hn_Book => k_is)
    (case ht_Book => k_is)
    (case hm_Book => k_is)
    (case ne_Book => k_is)
    (case tc_Book => k_is)
    (case s_Book_NoneType => k_is)
    (case s_Book_bool => k_is)
    (case s_Book_int => k_is)
    (case s_Book_str => k_is)
    (case s_Book_list => k_is)
    (case s_Book_tuple => k_is)
    (case a_is_action => k_is)
    (case l_is_action => k_is)
    (case c_is_action => k_is)
    (case k_is_action => k_is)
    (case a_is_rule => k_is)
    (case l_is_rule => k_is)
    (case c_is_rule => k_is)
    (case k_is_rule => k_is)
    (case a_is_door => k_is)
    (case l_is_door => k_is)
    (case c_is_door => k_is)
    (case k_is_door => k_is)
    (case a_are_distinct_doors => k_is)
    (case l_are_distinct_doors => k_is)
    (case c_are_distinct_doors => k_is)
    (case k_are_distinct_doors => k_is)
    (case a__law_jar => k_is)
    (case l__law_jar => k_is)
    (case c__law_jar => k_is)
    (case k__law_jar => k_is)
    (case a__law_draw => k_is)
    (case l__law_draw => k_is)
    (case c__law_draw => k_is)
    (case k__law_draw => k_is)
    (case a__law_rule => k_is)
    (case l__law_rule => k_is)
    (case c__law_rule => k_is)
    (case k__law_rule => k_is)
    (case a__law_six => k_is)
    (case l__law_six => k_is)
    (case c__law_six => k_is)
    (case k__law_six => k_is)
    (case a__law_near => k_is)
    (case l__law_near => k_is)
    (case c__law_near => k_is)
    (case k__law_near => k_is)
    (case a__law_equal => k_is)
    (case l__law_equal => k_is)
    (case c__law_equal => k_is)
    (case k__law_equal => k_is)
    (case a__law_right => k_is)
    (case l__law_right => k_is)
    (case c__law_right => k_is)
    (case k__law_right => k_is)
    (case a_law => k_is)
    (case l_law => k_is)
    (case c_law => k_is)
    (case k_law => k_is)

