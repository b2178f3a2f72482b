import PyProof.Rows.All
import Wide.All
import OpenK.AllK
import Wide.FinOn
import PyProof.EqAt
import PyProof.EqKinds
import PyProof.TupleCall
import HandS.ForMost
import HandS.Exc
import HandS.TryOnly
import HandS.ExcOwn
import HandS.WordsExc
import HandS.Wide
import HandS.Flow
import HandS.IsInst
import HandS.Strs
import HandS.Zip
import HandS.TupAny
import HandS.Defaults
import HandS.MakeKw
import HandS.MakeKwOnly
import HandS.ExcInit
import PySem.Challenge.RW_lastshown_k00_errors
import KE.KIsAll
import KE.KTryMore
import KE.KExcIs
import HandS.Base
import HandS.Call
import HandS.ExcIs
import HandS.ExcField
import HandS.ExcValue
import HandS.Text
import KE.DataEq
set_option Elab.async false
set_option linter.all false
set_option maxRecDepth 100000
set_option maxHeartbeats 4000000
namespace Sh
open PySem L2
def top (i : Nat) : Stmt := PySem.Challenge.pw_lastshown_k00_errors.main.body.getD i (.Pass ⟨0, 0, 0, 0⟩)
/-! ### powers of any base -/
def CPowW (i j : Int) : Prop := 0 ≤ j ∧ j ≤ 1000 ∧ i.natAbs < 2 ^ 1000
theorem bits_le (i : Int) (n : Nat) (h : i.natAbs < 2 ^ n) : Builtin.Int.intBits i ≤ n + 1 := by
  unfold Builtin.Int.intBits
  split
  · omega
  · have : i.natAbs.log2 < n ∨ n = 0 := by
      rcases Nat.eq_zero_or_pos n with h0 | h0
      · exact .inr h0
      · exact .inl (PySem.Flt.log2_lt_of h0 h)
    rcases this with q | q
    · omega
    · subst q
      have : i.natAbs = 0 := by omega
      rw [this]
      decide
theorem op_powW {X : Cx} : OpR X (binaryOp .Pow) (rI CPowW fun i j => .int (i ^ j.toNat)) := opI fun i j _ _ _ _ _ hc q => by
  have h := bits_le i 1000 hc.2.2
  have h0 : 0 ≤ j := hc.1
  have h1 : j ≤ 1000 := hc.2.1
  refine PyProof.Rows.pow_int hc.1 ?_ q
  have z : (Builtin.Int.intBits i : Int) * j ≤ 1001 * 1000 := Int.mul_le_mul (by omega) h1 h0 (by decide)
  exact Int.le_trans z (by decide)
/-! ### the jar -/
def JarAt (H : Hp) (j : Addr) (n : Nat) : Prop := ∃ a b c : Int, H j = some (.lst [.int a, .int b, .int c]) ∧ 0 ≤ a ∧ 0 ≤ b ∧ b < 2 ^ 200 ∧ 0 ≤ c ∧ c ≤ n
/-- all that was tracked, but what stands at j, is as it was -/
def Kp (j : Addr) (H H' : Hp) : Prop := ∀ b o, b ≠ j → H b = some o → H' b = some o
def spDraw : Sp := fun vs H Q _ => ∃ (j : Addr) (m : Int) (n : Nat), vs = [.ref j, .int m] ∧ JarAt H j n ∧ 0 < m ∧ m < 2 ^ 200 ∧ n ≤ 2 ^ 100 ∧ ∀ (r : Int) (H' : Hp), 0 ≤ r → r < m → JarAt H' j (n + 1) → Kp j H H' → Q (.int r) H'
def spJar (K : PySem.W.Frag) : Sp := fun vs H Q _ => ∃ (a : Addr) (ns : List Int) (k : Int), vs = [.ref a, .int k] ∧ SqL K H a (ns.map V.int) ∧ 0 ≤ k ∧ k < 1000 ∧ ∀ (j : Addr) (H' : Hp), JarAt H' j 0 → H j = none → Same H H' → Q (.ref j) H'
theorem stir_lt (x : Int) {c : Int} (hc : 0 ≤ c) (hn : c ≤ 2 ^ 101) : (x % ((10 : Int) ^ (Int.toNat 42) + 63) + 32452867 * (c + 1)).natAbs < 2 ^ 1000 := by
  have e : (10 : Int) ^ (Int.toNat 42) + 63 = 1000000000000000000000000000000000000000063 := by decide
  rw [e]
  have h1 := Int.emod_nonneg x (b := 1000000000000000000000000000000000000000063) (by decide)
  have h2 := Int.emod_lt_of_pos x (b := 1000000000000000000000000000000000000000063) (by decide)
  exact Nat.lt_of_lt_of_le (show _ < 2 ^ 200 by omega) (by decide)
structure TxtB (mg : Str → Option Value) : Prop where
  b_int : mg "int" = none
  b_len : mg "len" = none
  b_abs : mg "abs" = none
  b_max : mg "max" = none
  b_range : mg "range" = none
  b_tuple : mg "tuple" = none
  b_str : mg "str" = none
  b_isinstance : mg "isinstance" = none
  b_all : mg "all" = none
  b_zip : mg "zip" = none
section
variable {P : Program} {w : World} {K : PySem.W.Frag} {mg : Str → Option Value} {base : Heap}
abbrev s_draw : Stmt := top 15
theorem sc_draw : FnScope ["jar", "many", "found", "stirred"] ["jar", "many"] (defScope s_draw) := ⟨rfl, rfl, rfl, by decide +kernel, rfl, by decide +kernel, by decide +kernel⟩
theorem ok_draw {f : Addr} {fd : FuncData} (F : Fun K "_law_draw" "_law_draw" s_draw f fd) (T : TxtB mg) : FnOk P w K mg base CX0 1 f fd ["jar", "many"] spDraw := by
  refine F.ok sc_draw (fun vs H Q E h => ?_) (fun cdv A outer s H vs Q E hr h => ?_)
  · obtain ⟨j, m, n, rfl, _⟩ := h
    rfl
  · obtain ⟨j, m, n, rfl, ⟨a, b, c, hj, ha, hb, hb2, hc, hcn⟩, hm, hm2, hn, k⟩ := h
    refine ⟨_, (pss_cons (ps_if (pt_cmpR op_gt (pe_ix ix_list (pv 0) pe_int (fun _ _ => rfl)) pe_int (nomark _)) (pss_cons (ps_set (i := 2) sc_draw.nd rfl (Or.inl rfl) (pe_op op_mod (pe_callTy call_int1 (by rfl) T.b_int (by decide +kernel) (pa_cons (pe_ix ix_list (pv 0) pe_int (fun _ _ => rfl)) pa_nil)) (pv 1)))
  (pss_cons (ps_asg (pe_op op_fdivW (pe_ix ix_list (pv 0) pe_int (fun _ _ => rfl)) (pv 1)) (pg_sub (pv 0) pe_int set_list))
  (pss_one (ps_ret (pv 2))))) pss_nil)
  (pss_cons (ps_asg (pe_op op_add (pe_ix ix_list (pv 0) pe_int (fun _ _ => rfl)) pe_int) (pg_sub (pv 0) pe_int set_list))
  (pss_cons (ps_set (i := 3) sc_draw.nd rfl (Or.inl rfl) (pe_op op_mod (pe_callTy call_int1 (by rfl) T.b_int (by decide +kernel) (pa_cons (pe_op op_add (pe_op op_powW (pe_op op_add (pe_ix ix_list (pv 0) pe_int (fun _ _ => rfl)) (pe_op op_mul pe_int (pe_ix ix_list (pv 0) pe_int (fun _ _ => rfl)))) pe_int) (pe_op op_mul pe_int (pe_ix ix_list (pv 0) pe_int (fun _ _ => rfl)))) pa_nil)) (pe_op op_add (pe_op op_powW pe_int pe_int) pe_int)))
  (pss_cons (ps_set (i := 3) sc_draw.nd rfl (Or.inl rfl) (pe_op op_mod (pe_callTy call_int1 (by rfl) T.b_int (by decide +kernel) (pa_cons (pe_op op_powW (pe_op op_add (pv 3) (pe_op op_mul pe_int (pe_ix ix_list (pv 0) pe_int (fun _ _ => rfl)))) pe_int) pa_nil)) (pe_op op_add (pe_op op_powW pe_int pe_int) pe_int)))
  (pss_one (ps_ret (pe_op op_mod (pe_callTy call_int1 (by rfl) T.b_int (by decide +kernel) (pa_cons (pe_op op_fdivW (pv 3) (pe_op op_powW pe_int pe_int)) pa_nil)) (pv 1)))))))), ?_⟩
    refine ⟨_, rfl, j, _, 0, _, rfl, rfl, SqL.of hj, rfl, ?_⟩
    refine ⟨_, _, rfl, rfl, _, rfl, ?_⟩
    refine ite2 (fun h0 => ?_) (fun h0 => ?_)
    · refine ⟨_, rfl, j, _, 0, _, rfl, rfl, SqL.of hj, rfl, ?_⟩
      refine .inl ⟨_, rfl, ?_⟩
      refine ⟨_, rfl, _, _, rfl, rfl, hm, ?_⟩
      refine ⟨_, rfl, j, _, 0, _, rfl, rfl, SqL.of hj, rfl, ?_⟩
      refine ⟨_, rfl, _, _, rfl, rfl, wide_div hm (b := 200) (by omega) (by decide) (by decide), ?_⟩
      refine ⟨_, rfl, j, _, 0, 0, rfl, rfl, hj, rfl, ?_⟩
      refine ⟨_, rfl, ?_⟩
      refine k _ _ (Int.emod_nonneg _ (by omega)) (Int.emod_lt_of_pos _ hm) ⟨_, _, _, upd_same, Int.ediv_nonneg ha (by omega), hb, hb2, hc, by omega⟩ fun b' o hb' e => by rw [upd_ne hb']; exact e
    · refine ⟨_, rfl, j, _, 2, _, rfl, rfl, SqL.of hj, rfl, ?_⟩
      refine ⟨_, _, rfl, rfl, ?_⟩
      refine ⟨_, rfl, j, _, 2, 2, rfl, rfl, hj, rfl, ?_⟩
      have hj1 : upd H j (.lst [.int a, .int b, .int (c + 1)]) j = some (.lst [.int a, .int b, .int (c + 1)]) := upd_same
      refine ⟨_, rfl, j, _, 1, _, rfl, rfl, SqL.of hj1, rfl, ?_⟩
      refine ⟨_, rfl, j, _, 2, _, rfl, rfl, SqL.of hj1, rfl, ?_⟩
      refine ⟨_, _, rfl, rfl, .inl ⟨by decide, by decide⟩, ?_⟩
      refine ⟨_, _, rfl, rfl, ?_⟩
      refine ⟨_, _, rfl, rfl, ⟨by decide, by decide, ?_⟩, ?_⟩
      · show (b + 15485867 * (c + 1)).natAbs < 2 ^ 1000
        exact Nat.lt_of_lt_of_le (show (b + 15485867 * (c + 1)).natAbs < 2 ^ 201 by omega) (by decide)
      refine ⟨_, rfl, j, _, 2, _, rfl, rfl, SqL.of hj1, rfl, ?_⟩
      refine ⟨_, _, rfl, rfl, .inl ⟨by decide, by decide⟩, ?_⟩
      refine ⟨_, _, rfl, rfl, ?_⟩
      refine .inl ⟨_, rfl, ?_⟩
      refine ⟨_, _, rfl, rfl, ⟨by decide, by decide, by decide⟩, ?_⟩
      refine ⟨_, _, rfl, rfl, ?_⟩
      refine ⟨_, _, rfl, rfl, (by show (0 : Int) < _; decide), ?_⟩
      refine ⟨_, rfl, ?_⟩
      refine ⟨_, rfl, j, _, 2, _, rfl, rfl, SqL.of hj1, rfl, ?_⟩
      refine ⟨_, _, rfl, rfl, .inl ⟨by decide, by decide⟩, ?_⟩
      refine ⟨_, _, rfl, rfl, ?_⟩
      refine ⟨_, _, rfl, rfl, ⟨by decide, by decide, ?_⟩, ?_⟩
      · exact stir_lt _ hc (by omega)
      refine .inl ⟨_, rfl, ?_⟩
      refine ⟨_, _, rfl, rfl, ⟨by decide, by decide, by decide⟩, ?_⟩
      refine ⟨_, _, rfl, rfl, ?_⟩
      refine ⟨_, _, rfl, rfl, (by show (0 : Int) < _; decide), ?_⟩
      refine ⟨_, rfl, ?_⟩
      refine ⟨_, _, rfl, rfl, ⟨by decide, by decide, by decide⟩, ?_⟩
      refine ⟨_, _, rfl, rfl, wide_div (b := 200) (by decide) (by decide) (by decide) (by decide), ?_⟩
      refine .inl ⟨_, rfl, ?_⟩
      refine ⟨_, rfl, ?_⟩
      refine ⟨_, _, rfl, rfl, hm, ?_⟩
      exact k _ _ (Int.emod_nonneg _ (by omega)) (Int.emod_lt_of_pos _ hm) ⟨_, _, _, hj1, ha, hb, hb2, by omega, by omega⟩ fun b' o hb' e => by rw [upd_ne hb']; exact e

/-- one way on behind a conditional expression -/
theorem tIf_via {t : TT} {ta tb : TE} {σ : L2.St} {H : Hp} {Q : VK} (R : V → Hp → Prop) (h : (∀ v H', R v H' → Q v H') → tIf t ta tb σ H Q) (k : ∀ v H', R v H' → Q v H') : tIf t ta tb σ H Q := h k
abbrev s_jar : Stmt := top 14
theorem sc_jar : FnScope ["script", "k", "cell"] ["script", "k"] (defScope s_jar) := ⟨rfl, rfl, rfl, by decide +kernel, rfl, by decide +kernel, by decide +kernel⟩
theorem ok_jar {f : Addr} {fd : FuncData} (F : Fun K "_law_jar" "_law_jar" s_jar f fd) (T : TxtB mg) : FnOk P w K mg base CX0 1 f fd ["script", "k"] (spJar K) := by
  refine F.ok sc_jar (fun vs H Q E h => ?_) (fun cdv A outer s H vs Q E hr h => ?_)
  · obtain ⟨j, m, n, rfl, _⟩ := h
    rfl
  · obtain ⟨a, ns, k, rfl, hS, hk, hk2, q⟩ := h
    refine ⟨_, (pss_cons (ps_set (i := 2) sc_jar.nd rfl (Or.inl rfl) (pe_ifExp (pt_cmpR op_lt (pv 1) (pe_callB call_len_seq (by rfl) T.b_len (by decide +kernel) (pa_cons (pv 0) pa_nil)) (nomark _)) (pe_callB call_abs (by rfl) T.b_abs (by decide +kernel) (pa_cons (pe_callTy call_int1 (by rfl) T.b_int (by decide +kernel) (pa_cons (pe_ix ix_list (pv 0) (pv 1) (fun _ _ => rfl)) pa_nil)) pa_nil)) pe_int))
  (pss_one (ps_ret (pe_lst (pa_cons (pe_callB (call_max2 rfl) (by rfl) T.b_max (by decide +kernel) (pa_cons pe_int (pa_cons (pe_op op_sub (pv 2) (pe_op op_powW pe_int pe_int)) pa_nil))) (pa_cons (pe_op op_add (pe_op op_mod (pe_callTy call_int1 (by rfl) T.b_int (by decide +kernel) (pa_cons (pv 2) pa_nil)) (pe_op op_add (pe_op op_powW pe_int pe_int) pe_int)) (pe_op op_mul pe_int (pv 1))) (pa_cons pe_int pa_nil))))))), ?_⟩
    refine tIf_via (fun v H' => ∃ c : Int, v = .int c ∧ H' = H) (fun key => ?_) ?_
    · refine ⟨_, rfl, _, rfl, a, _, rfl, .inl hS, _, _, rfl, rfl, _, rfl, ?_⟩
      refine ite2 (fun h1 => ?_) (fun h1 => ?_)
      · have h2 : k.toNat < ns.length := by
          have z := of_decide_eq_true h1
          rw [List.length_map] at z
          omega
        refine ⟨_, rfl, _, rfl, a, _, k, .int ns[k.toNat], rfl, rfl, hS, at_of (j := k.toNat) (by omega) (by rw [List.getElem?_map, List.getElem?_eq_getElem h2]; rfl), ?_⟩
        refine .inl ⟨_, rfl, _, rfl, ?_⟩
        exact key _ _ ⟨_, rfl, rfl⟩
      · exact key _ _ ⟨0, rfl, rfl⟩
    · rintro v H' ⟨c, rfl, rfl⟩
      refine ⟨_, rfl, ?_⟩
      refine ⟨_, _, rfl, rfl, ⟨by decide, by decide, by decide⟩, ?_⟩
      refine ⟨_, _, rfl, rfl, ?_⟩
      refine ⟨_, _, rfl, ?_⟩
      refine ⟨_, rfl, ?_⟩
      refine .inl ⟨_, rfl, ?_⟩
      refine ⟨_, _, rfl, rfl, ⟨by decide, by decide, by decide⟩, ?_⟩
      refine ⟨_, _, rfl, rfl, ?_⟩
      refine ⟨_, _, rfl, rfl, (by show (0 : Int) < _; decide), ?_⟩
      refine ⟨_, rfl, ?_⟩
      refine ⟨_, _, rfl, rfl, .inl ⟨by decide, by decide⟩, ?_⟩
      refine ⟨_, _, rfl, rfl, ?_⟩
      refine ⟨by show 3 ≤ sizeLine; decide, fun p hp => ?_⟩
      have e : (10 : Int) ^ (Int.toNat 36) + 67 = 1000000000000000000000000000000000067 := by decide
      have h1 := Int.emod_nonneg c (b := (10 : Int) ^ (Int.toNat 36) + 67) (by decide)
      have h2 := Int.emod_lt_of_pos c (b := (10 : Int) ^ (Int.toNat 36) + 67) (by decide)
      refine q p _ ⟨_, _, _, upd_same, ?_, ?_, ?_, by decide, by decide⟩ hp fun b o e => ?_
      · split <;> omega
      · omega
      · omega
      · rw [upd_ne (ne_of_none e hp)]
        exact e
end
end Sh

/-! Own errors as values: made with an own __init__, by position or by keywords, asked for their class and their fields -/
namespace Sh
open PySem L2
section
open PySem.W PySem.HandSPX
variable {pr : Program} {wd : World} {W : Around} {E : Value → Shared → Prop} {R : Result → Shared → Prop} {hp : Heap} {gs : Array GenState} {dr : Drawn} {tt : Nat} {oz : OsState}
variable {n1 n2 : Str} {C N fI : Addr} {b1 b2 b3 : List Value} {hd : Bool} {sn : List Str} {sb : List Value} {ab : Bool} {co : Option Bool} {de : Option Addr} {k0 k1 k2 k3 k5 : Option Value} {B nI iI : String}
/-- what __new__ leaves: the arguments' tuple, then the error -/
abbrev bornAt (hp : Heap) (C : Addr) (us : List Value) : Heap := (hp.push (kdv_tup us)).push (excO C hp.objs.size)
theorem born_keeps {us : List Value} {b : Addr} {o : Obj} (q : hp.get? b = some o) : (bornAt hp C us).get? b = some o := Heap.get?_push_of_some _ (Heap.get?_push_of_some _ q)
theorem born_get {us : List Value} : (bornAt hp C us).get? (hp.objs.size + 1) = some (excO C hp.objs.size) := by heap_get
theorem ckNew (F : ExcBaseFacts B nI iI b3) (same : ∀ Y : String, b2.contains (.type Y) = b3.contains (.type Y)) {us : List Value} {kw : List (Str × Value)} {Q : Unit → Shared → Prop}
    (cls : hp.get? C = some (excClassObj n1 n2 C N b1 b2 hd sn sb ab co de k0 k1 k2 k3 k5 nI)) (q : Q () ⟨hp, gs, dr, tt, oz⟩) :
    wpAny (model pr wd) W (checkBuiltinCall nI ⟨.ref C :: us, kw⟩) Q E ⟨hp, gs, dr, tt, oz⟩ := by
  have inB : (Value.ref C :: b2).contains (.type B) = true := by
    rw [List.contains_cons, same, F.hasB, Bool.or_true]
  have nst := F.noStar
  simp only [checkBuiltinCall, F.newSplit, F.newKind, F.newRow]
  repeat (first
    | refine wpAny_loadPart_at cls ?_
    | (refine wpAny_isSubtype_exc cls ?_; rw [inB])
    | refine wpAny_staticBase_exc cls ?_
    | refine wpAny_madeBy_exc cls ?_
    | simp only [bne_self_eq_false, Bool.false_eq_true, if_false]
    | wp_step)
  exact q
theorem newKw (F : ExcBaseFacts B nI iI b3) (same : ∀ Y : String, b2.contains (.type Y) = b3.contains (.type Y)) {us : List Value} {kw : List (Str × Value)}
    (cls : hp.get? C = some (excClassObj n1 n2 C N b1 b2 hd sn sb ab co de k0 k1 k2 k3 k5 nI)) (len : us.length ≤ sizeLine)
    (q : R (.ok (.ret (.ref (hp.objs.size + 1)))) ⟨bornAt hp C us, gs, dr, tt, oz⟩) :
    codeAny (model pr wd) W (.builtin nI ⟨.ref C :: us, kw⟩) R ⟨hp, gs, dr, tt, oz⟩ := by
  have fin := F.ends
  have inB : (Value.ref C :: b2).contains (.type B) = true := by
    rw [List.contains_cons, same, F.hasB, Bool.or_true]
  have noA : (Value.ref C :: b2).contains (.type "AttributeError") = false := by
    rw [List.contains_cons, same, F.noAttr]
    rfl
  have noN : (Value.ref C :: b2).contains (.type "NameError") = false := by
    rw [List.contains_cons, same, F.noName]
    rfl
  refine codeAny_builtinAt F.entry ?_
  unfold Builtin.«BaseException.__new__»
  refine wpAt_bind ?_
  show wpAt _ _ _ (stack >>= _) _ _ _
  refine wpAt_bind (wpAt_stack fun _ _ => wpAt_of_wpAny ?_)
  wp_walk
  refine wpAt_of_wpAny ?_
  rw [F.owner]
  repeat (first
    | with_reducible refine wpAny_madeHere_exc F.canon cls ?_
    | with_reducible refine wpAny_loadPart_at cls ?_
    | (with_reducible refine wpAny_isSubtype_exc cls ?_; first | rw [inB] | rw [noA] | rw [noN])
    | wp_step)
  show R _ _
  rw [Heap.size_push]
  exact q
theorem tcKw (F : ExcBaseFacts B nI iI b3) (same : ∀ Y : String, b2.contains (.type Y) = b3.contains (.type Y)) {us : List Value} {kw : List (Str × Value)} {Q : Fin → Shared → Prop}
    (cls : hp.get? C = some (excClassObj n1 n2 C N b1 b2 hd sn sb ab co de k0 k1 k2 k3 k5 nI))
    (ini : Looks (model pr wd) hp (typeLookup (.ref C) "__init__") (some (.ref fI))) (bnd : ∀ v, Looks (model pr wd) hp (bindSpecial (.ref fI) v) (.ref fI, [v])) (len : us.length ≤ sizeLine)
    (q : codeAny (model pr wd) W (.call (.ref fI) ⟨.ref (hp.objs.size + 1) :: us, kw⟩)
      (fun r z => match r with | .ok (.ret v) => v = .none ∧ Q (.done (.ret (.ref (hp.objs.size + 1)))) z | .ok _ => False | .error e => E e z) ⟨bornAt hp C us, gs, dr, tt, oz⟩) :
    wpAny (model pr wd) W (Builtin.«type.__call__» ⟨.ref C :: us, kw⟩) Q E ⟨hp, gs, dr, tt, oz⟩ := by
  repeat (first
    | with_reducible refine wpAny_loadPart_at cls ?_
    | with_reducible refine wpAny_madeBy_exc cls ?_
    | wp_step)
  refine codeAny_call_builtin_code (Code.quiet_builtin _ F.quiet) (ckNew F same cls ?_)
  refine newKw F same cls len ?_
  show wpAny _ _ _ _ _ _
  have cls' := born_keeps (C := C) (us := us) cls
  have me := born_get (hp := hp) (C := C) (us := us)
  have self : (Value.ref C :: b2).contains (.ref C) = true := by simp
  have i1 := ini.keeps fun b o e => born_keeps (C := C) (us := us) e
  have b1' := (bnd (.ref (hp.objs.size + 1))).keeps fun b o e => born_keeps (C := C) (us := us) e
  unfold isInstance
  repeat (first
    | with_reducible refine wpAny_loadPart_at me ?_
    | (with_reducible refine wpAny_isSubtype_exc cls' ?_; rw [self])
    | wp_step)
  show wpAny _ _ (typeLookup (.ref C) _) _ _ _
  refine i1.at ?_
  refine wpAny_holding (wpAny_bind (b1'.at ?_))
  refine wpAny_bind (wpAny_call (codeAny_mono q fun r z hz => ?_))
  rcases r with e | (v | _ | _ | _) <;> first | exact hz | exact hz.elim | skip
  obtain ⟨rfl, hz⟩ := hz
  first
    | exact wpAny_pure (wpAny_pure hz)
    | (wp_walk; exact hz)
theorem callKw (F : ExcBaseFacts B nI iI b3) (same : ∀ Y : String, b2.contains (.type Y) = b3.contains (.type Y)) {us : List Value} {kw : List (Str × Value)}
    (cls : hp.get? C = some (excClassObj n1 n2 C N b1 b2 hd sn sb ab co de k0 k1 k2 k3 k5 nI))
    (ini : Looks (model pr wd) hp (typeLookup (.ref C) "__init__") (some (.ref fI))) (bnd : ∀ v, Looks (model pr wd) hp (bindSpecial (.ref fI) v) (.ref fI, [v])) (len : us.length ≤ sizeLine)
    (q : codeAny (model pr wd) (W.under (.builtin "type.__call__" ⟨.ref C :: us, kw⟩)) (.call (.ref fI) ⟨.ref (hp.objs.size + 1) :: us, kw⟩) (InitBack (hp.objs.size + 1) R) ⟨bornAt hp C us, gs, dr, tt, oz⟩) :
    codeAny (model pr wd) W (.call (.ref C) ⟨us, kw⟩) R ⟨hp, gs, dr, tt, oz⟩ := by
  have l1 := tc_lookup
  have l2 := tc_bind (.ref C)
  have ty : (⟨hp, gs, dr, tt, oz⟩ : Shared).TypeIs (.ref C) "type" := ⟨_, cls, rfl⟩
  refine codeAny_of_tree ?_
  show wpAny _ _ (callAny (.ref C) _) _ _ _
  repeat (any_goals (first
    | assumption
    | with_reducible refine wpAny_loadPart_at cls ?_
    | wp_step))
  refine ⟨rfl, ?_⟩
  refine codeAny_call_builtin_at (Code.quiet_builtin _ (by decide +kernel)) entry_typeCall (wpAny_check_type_call_sub cls (tcKw F same cls ini bnd len ?_))
  refine codeAny_mono q fun r z hz => ?_
  rcases r with e | (v | _ | _ | _) <;> exact hz
end
end Sh

/-! isinstance(e, c), e the caught error of an own class, with fields or without -/
namespace Sh
open PySem L2
theorem kitx_any {K : PySem.W.Frag} {x D : Addr} {ox : Obj} (C : ExcC K D) : PySem.W.KitX K (.ref x) (.ref D) (fun h => ∃ od, PySem.W.InstAt h x ox D od) where
  ty := fun _ _ _ ⟨_, I⟩ => I.type
  it := fun _ _ X0 _ => by
    obtain ⟨cd0, hcd0, _⟩ := PySem.W.any_some C.hd
    unfold PySem.W.clsIn at hcd0
    split at hcd0
    · rename_i e0
      exact fun A0 Q0 E0 s0 k0 q0 => by
        unfold isType loadHead
        exact wpAny_bind (wpAny_loadPart (k0 _ _ (X0 _ _ e0)) (wpAny_pure q0))
    · cases hcd0
  ne := (PySem.W.handS_kitx_exc (x := x) (ox := ox) C.hg C.hk C.hs C.hd C.ha C.hn C.ht C.hm).ne
  ca := fun X ⟨_, I⟩ k => PySem.W.kx_classE X I C.hg C.hk C.hs (PySem.W.findObj_dataE (by obtain ⟨cd, hc, _⟩ := PySem.W.any_some C.hd; rw [hc]; rfl) C.ha C.hn C.ht) C.hm k
/-- a caught error's own dict, as it is tracked -/
def DctAt (H : Hp) : Option Addr → Prop
  | none => True
  | some d => ∃ fs, H d = some (.xd fs)
def rIsX (K : PySem.W.Frag) (D a : Addr) (d : Option Addr) : List V → Hp → VK → Prop := fun xs H Q => ∃ (c : V) (cv : Value) (b : Bool), xs = [.ref a, c] ∧ (∀ u, RelV c u → u = cv) ∧ DctAt H d ∧ PySem.W.kitOne K (.ref D) cv = some b ∧ Q (.bl b) H
theorem call_isX {X : Cx} {a D : Addr} {d : Option Addr} {oe : Obj} {pn : List (Addr × Obj)} (C : ExcC X.K D) (hz : Zc (.ref D) d oe) (hf : ∃ vs, oe.data = .fields vs) : CallR (X.suite a ((a, oe) :: pn)) (.builtin "isinstance") (rIsX X.K D a d) := by
  intro pins s σ H xs us Q I r h
  obtain ⟨c, cv, b, rfl, hcv, hd, e, q⟩ := h
  obtain ⟨u, w, rfl, ru, rw'⟩ : ∃ u w, us = [u, w] ∧ RelV (.ref a) u ∧ RelV c w := by
    cases r with | cons h1 r => cases r with | cons h2 r => cases r; exact ⟨_, _, rfl, h1, h2⟩
  cases ru
  rw [hcv _ rw'] at *
  obtain ⟨ha, _⟩ := I.pin (a, oe) (List.mem_append_left _ List.mem_cons_self)
  obtain ⟨vs, hv⟩ := hf
  have J : ∃ od, PySem.W.InstAt s.heap a oe D od := by
    cases d with
    | none => exact ⟨none, ha, hz.1, by unfold PySem.W.notCls; rw [hv] <;> rfl, by rw [hz.2]; trivial⟩
    | some dd =>
      obtain ⟨fs, hx⟩ := hd
      obtain ⟨mA, hns, _⟩ := (show ObjOk X.prog X.w H s.heap dd (.xd fs) from I.hok dd _ hx)
      obtain ⟨od, ho, _⟩ := lookIn_ns hns
      exact ⟨some od, ha, hz.1, by unfold PySem.W.notCls; rw [hv] <;> rfl, by rw [hz.2]; exact ho⟩
  exact PySem.W.kia_one (kitx_any C) I.kIn J e (fun z => nomatch z) fun tk => ⟨.bl b, H, I.kept (t' := tk) fun _ _ z => z, rfl, q⟩
end Sh

namespace Sh
open PySem L2
/-- C(e, ..) or C(k = e, ..), C an own error class whose __init__ keeps sp: a new error at a -/
def tNewE (C : Addr) (sp : Sp) (gV : List V → List V) (ta : TA) : TE := fun σ H Q => ta σ H fun zs H1 => zs.length = 1 ∧ ∀ a, H1 a = none → sp (gV (.ref a :: zs)) (upd H1 a (exo a C none)) (fun v H2 => v = .non ∧ Q (.ref a) H2) (fun _ _ _ => False)
section
variable {X : Cx} {CX : CXT} {k : Nat} {C fI : Addr} {fd : FuncData} {ps ks : List Str} {sp : Sp} {x : Str} {p pos : Pos} {e : Expr} {kws : List Keyword} {ta : TA}
theorem run_newE {pins : List (Addr × Obj)} {σ : L2.St} {H : Hp} {s : Shared} {Q : VK} {us : List Value} {kw : List (Str × Value)} {bs : List Value} {vs : List V} (T : OexC X.K C) (iC : PySem.W.findIn X.K (.ref C) "__init__" = some (some (.ref fI)))
    (tI : PySem.W.typeIn X.K (.ref fI) = some (.type "function")) (F1 : FnOk X.prog X.w X.K X.mg X.base CX k fI fd ps sp) (hr : Room (k + 1) X.A) (hx : Passes CX X (fun _ _ _ => False)) (I : Inv X pins σ H s) (hus : us.length ≤ sizeLine)
    (hb : ∀ (a : Addr) (s' : Shared), X.K.In s'.heap → BindsTo s' fd ⟨.ref a :: us, kw⟩ (ps.zip (.ref a :: bs))) (r : Vals vs bs)
    (h : ∀ a, H a = none → sp (.ref a :: vs) (upd H a (exo a C none)) (fun v H2 => v = .non ∧ Q (.ref a) H2) (fun _ _ _ => False)) :
    wpAny (model X.prog X.w) X.A (call (.ref C) us kw) (EP X pins σ Q) X.xe s := by
  obtain ⟨n1, n2, N, b1, b2, sn, sb, ab, co, de, k0, k1, k2, k3, k5, hC, hbm⟩ := T.cls
  obtain ⟨hp, gs, dr, tt, oz⟩ := s
  have up : hp.objs.size ≤ hp.objs.size + 1 := Nat.le_succ _
  have hn : H (hp.objs.size + 1) = none := I.hok.fresh up
  have hq := h (hp.objs.size + 1) hn
  have I2 : Inv X pins σ (upd H (hp.objs.size + 1) (exo (hp.objs.size + 1) C none)) ⟨bornAt hp C us, gs, dr, tt, oz⟩ :=
    I.laid (t' := tt) (a := hp.objs.size + 1) (o := exo (hp.objs.size + 1) C none) (h' := bornAt hp C us) (fun _ _ z => born_keeps z) up (exo_ok born_get)
  refine wpAny_call (callKw PySem.F.excBase_ValueError (fun Y => PySem.HandSPX.refsVE_contains Y b2 hbm) (I.kIn _ _ hC) (PySem.W.looks_findIn I.kIn iC) (fun v => PySem.W.bind_fn I.kIn v tI) hus
    (codeAny_mono (F1.run _ X.stack _ _ ⟨.ref (hp.objs.size + 1) :: us, kw⟩ (.ref (hp.objs.size + 1) :: bs) _ _ (fun _ _ _ => False) (hr.make C us kw) (I2.env0.make C us kw) (hb _ _ I2.kIn) (Paired.cons (a := V.ref (hp.objs.size + 1)) rfl r) hq) fun r z hz => ?_))
  cases r with
  | error er => exact hx pins σ _ _ er z I2 hz
  | ok fl =>
    cases fl with
    | ret u =>
      obtain ⟨v, H3, I3, rv, ev, q3⟩ := I2.after hz
      subst ev
      exact ⟨rv, ⟨V.ref (hp.objs.size + 1), H3, I3, rfl, q3⟩⟩
    | next => exact False.elim hz
    | brk => exact False.elim hz
    | cont => exact False.elim hz
/-- C(e) -/
theorem pe_newE {te : TE} (T : OexC X.K C) (iC : PySem.W.findIn X.K (.ref C) "__init__" = some (some (.ref fI))) (tI : PySem.W.typeIn X.K (.ref fI) = some (.type "function")) (F1 : FnOk X.prog X.w X.K X.mg X.base CX k fI fd ps sp) (hr : Room (k + 1) X.A)
    (hb : Binds X.K fd ps []) (hp2 : ps.length = 2) (hx : Passes CX X (fun _ _ _ => False)) (hg : Gl X x) (hm : X.mg x = some (.ref C)) (he1 : PE X e te) (hdb : (x == ("__debug__" : Str)) = false := by decide)
    (he : starEach [e] X.env = (false, eval e X.env) :: starEach [] X.env := by rfl) (hpl : (backTo pos (starEach [] X.env)).any (·.1) = false := by rfl) :
    PE X (.Call (.Name x p) [e] [] pos) (tNewE C sp id (tCons te tNil)) := by
  refine ⟨fun pins s σ H Q I h => ?_⟩
  refine wpAny_Call_Name_kw (ld_glob I hg hm ?_ hdb)
  refine PySem.W.callWith_K (h₀ := X.base) I.ok.mod.kin T.kC (thn ((pa_cons he1 pa_nil he).run pos pins s σ H _ I h) fun us s1 ⟨vs, H1, I1, r, hl, q⟩ => ⟨I1.kIn, ?_⟩) he hpl
  show wpAny _ _ (call (.ref C) us) _ _ _
  have h1 : us.length = 1 := r.length.symm.trans hl
  refine run_newE (bs := us) T iC tI F1 hr hx I1 (by rw [h1, sizeLine_eq]; omega) (fun a s' X' => ?_) r q
  have z := hb s' (.ref a :: us) X' (by rw [List.append_nil, List.length_cons, h1, hp2])
  rw [List.append_nil] at z
  exact z
/-- C(k = e) -/
theorem pe_newEK {g : List Value → List Value → List Value} {gV : List V → List V → List V} (T : OexC X.K C) (iC : PySem.W.findIn X.K (.ref C) "__init__" = some (some (.ref fI))) (tI : PySem.W.typeIn X.K (.ref fI) = some (.type "function"))
    (F1 : FnOk X.prog X.w X.K X.mg X.base CX k fI fd ps sp) (hr : Room (k + 1) X.A) (hb : KBn X.K fd ps 1 ks g gV) (hgs : ∀ a ws, ws.length = 1 → g [a] ws = a :: ws) (hk1 : ks.length = 1) (hx : Passes CX X (fun _ _ _ => False)) (hg : Gl X x) (hm : X.mg x = some (.ref C)) (hkw : PK X kws ta)
    (hall : (backToKw pos (keywordEach kws X.env)).all (·.1.isSome) = true := by rfl) (hks : (backToKw pos (keywordEach kws X.env)).filterMap (·.1) = ks := by rfl) (hdb : (x == ("__debug__" : Str)) = false := by decide)
    (hpl : ((backTo pos (starEach [] X.env)).any (·.1) || (backToKw pos (keywordEach kws X.env)).any (·.1.isNone)) = false := by rfl) :
    PE X (.Call (.Name x p) [] kws pos) (tNewE C sp id ta) := by
  refine ⟨fun pins s σ H Q I h => ?_⟩
  refine wpAny_Call_Name_kw (ld_glob I hg hm ?_ hdb)
  refine PySem.W.callWith_KW0 (h₀ := X.base) I.ok.mod.kin T.kC hall ?_ hpl
  refine thn (hkw.run pos pins s σ H _ I h) fun ws s2 ⟨zs, H2, I2, rz, l1, q2⟩ => ⟨I2.kIn, ?_⟩
  rw [hks]
  have h1 : ws.length = 1 := rz.length.symm.trans l1
  refine run_newE (us := []) (bs := ws) T iC tI F1 hr hx I2 (Nat.zero_le _) (fun a s' X' => ?_) rz q2
  have z := hb.to s' [.ref a] ws X' rfl (h1.trans hk1.symm)
  rw [hgs _ _ h1] at z
  exact z
end

/-! ### what such a value is -/
/-- an error of the class C, as __new__ leaves it -/
def Bare (H : Hp) (a C : Addr) : Prop := H a = some (ExO (.ref C) a)
/-- an error of the class C with the one field f -/
def Fld (H : Hp) (a C : Addr) (f : Str) (v : V) : Prop := ∃ d, H a = some (exo a C (some d)) ∧ H d = some (exd d [(f, v)])
def ErrAt (H : Hp) (a C : Addr) : Prop := Bare H a C ∨ ∃ f v, Fld H a C f v
theorem err_inst {X : Cx} {pins : List (Addr × Obj)} {σ : L2.St} {H : Hp} {s : Shared} {a C : Addr} (I : Inv X pins σ H s) (h : ErrAt H a C) : ∃ ox od, PySem.W.InstAt s.heap a ox C od := by
  rcases h with h | ⟨f, v, d, h, hd⟩
  · obtain ⟨⟨oe, vs, ho, hz, hv, _⟩, _⟩ := I.hok a _ h
    exact ⟨oe, none, ho, hz.1, by unfold PySem.W.notCls; rw [hv] <;> rfl, by rw [hz.2]; trivial⟩
  · obtain ⟨t1, ho⟩ := exo_at I.hok h
    obtain ⟨mA, hn, _⟩ := exd_at I.hok hd
    obtain ⟨o, es, ep, hd', _⟩ := hn
    exact ⟨_, some o, ho, rfl, rfl, hd'⟩
/-- isinstance(v, c), v an own error -/
def rIsV (K : PySem.W.Frag) : List V → Hp → VK → Prop := fun xs H Q => ∃ (a D : Addr) (c : V) (cv : Value) (b : Bool), xs = [.ref a, c] ∧ ErrAt H a D ∧ ExcC K D ∧ (∀ u, RelV c u → u = cv) ∧ PySem.W.kitOne K (.ref D) cv = some b ∧ Q (.bl b) H
theorem call_isV {X : Cx} : CallR X (.builtin "isinstance") (rIsV X.K) := by
  intro pins s σ H xs us Q I r h
  obtain ⟨a, D, c, cv, b, rfl, he, C, hcv, e, q⟩ := h
  obtain ⟨u, w, rfl, ru, rw'⟩ : ∃ u w, us = [u, w] ∧ RelV (.ref a) u ∧ RelV c w := by
    cases r with | cons h1 r => cases r with | cons h2 r => cases r; exact ⟨_, _, rfl, h1, h2⟩
  cases ru
  rw [hcv _ rw'] at *
  obtain ⟨ox, J⟩ := err_inst I he
  exact PySem.W.kia_one (kitx_any C) I.kIn J e (fun z => nomatch z) fun tk => ⟨.bl b, H, I.kept (t' := tk) fun _ _ z => z, rfl, q⟩
/-- v.f, v an own error -/
def tFld (K : PySem.W.Frag) (f : Str) (te : TE) : TE := fun σ H Q => te σ H fun x H1 => ∃ (a D : Addr) (v : V), x = .ref a ∧ XfC K D ∧ PySem.W.findIn K (.ref D) f = some none ∧ Fld H1 a D f v ∧ Q v H1
theorem pe_fld {X : Cx} {e : Expr} {te : TE} {n : Str} {pos : Pos} (he : PE X e te) (hb : attributeBase e n X.env (eval e X.env) = eval e X.env := by rfl) : PE X (.Attribute e n pos) (tFld X.K n te) := by
  refine ⟨fun pins s σ H Q I h => ?_⟩
  refine attr_of hb (thn (he.run pins s σ H _ I h) fun u s1 hh => ?_)
  obtain ⟨x, H1, I1, rx, a, D, v, ex, T, hno, ⟨d, ea, ed⟩, q⟩ := hh
  subst ex
  obtain rfl : u = Value.ref a := rx
  obtain ⟨t1, ho⟩ := exo_at I1.hok ea
  obtain ⟨mA, hns, hr⟩ := exd_at I1.hok ed
  obtain ⟨od, hod, hl⟩ := lookIn_ns hns
  obtain ⟨u, hu, ru⟩ := RelO.some_of (v := v) (o := mA n) (by have z := hr n; rwa [lookup_put, if_pos rfl] at z)
  have J : PySem.W.InstAt s1.heap a _ D (some od) := ⟨ho, rfl, rfl, hod⟩
  exact PySem.HandSPX.exc_get I1.kIn J T.ga T.gg T.exC (PySem.W.findObj_own T.hdC hno rfl (by rw [hl, hu])) (handed_of ru) ⟨v, H1, I1.tok _, ru, q⟩
end Sh

namespace Sh
open PySem L2
/-! ### what stays -/
/-- all but lists stays -/
def KT (H H' : Hp) : Prop := ∀ b o, (∀ xs, o ≠ HO.lst xs) → H b = some o → H' b = some o
theorem KT.refl (H : Hp) : KT H H := fun _ _ _ h => h
theorem KT.trans {H H1 H2 : Hp} (a : KT H H1) (b : KT H1 H2) : KT H H2 := fun c o z h => b c o z (a c o z h)
theorem _root_.L2.Same.kt {H H' : Hp} (s : Same H H') : KT H H' := fun b o _ h => s b o h
theorem Kp.kt {j : Addr} {H H' : Hp} {xs : List V} (hj : H j = some (.lst xs)) (k : Kp j H H') : KT H H' := fun b o z h => by
  refine k b o (fun e => ?_) h
  subst e
  rw [hj] at h
  exact z xs (Option.some.inj h).symm
theorem JarAt.kt {j : Addr} {H H' : Hp} {n : Nat} (J : JarAt H j n) (k : Kp j H H') : KT H H' := by
  obtain ⟨a, b, c, hj, _⟩ := J
  exact k.kt hj
theorem Kp.refl (j : Addr) (H : Hp) : Kp j H H := fun _ _ _ h => h
theorem Kp.trans {j : Addr} {H H1 H2 : Hp} (a : Kp j H H1) (b : Kp j H1 H2) : Kp j H H2 := fun c o z h => b c o z (a c o z h)
theorem _root_.L2.Same.kp {H H' : Hp} (j : Addr) (s : Same H H') : Kp j H H' := fun b o _ h => s b o h
theorem kp_fresh {j D : Addr} {H H2 H4 : Hp} {o : HO} (a : Kp j H H2) (hD : H2 D = none) (b : Kp j H H4) : Kp j H (upd H4 D o) := fun c u hc e => by
  rw [upd_ne (ne_of_none (a c u hc e) hD)]
  exact b c u hc e
theorem same_new {H : Hp} {p : Addr} {o : HO} (hp : H p = none) : Same H (upd H p o) := fun b u e => by
  rw [upd_ne (ne_of_none e hp)]
  exact e
theorem kt_lst {H : Hp} {p : Addr} {xs : List V} {o : HO} (hp : H p = some (.lst xs)) : KT H (upd H p o) := fun b u z e => by
  have hb : b ≠ p := fun q => by
    rw [q, hp] at e
    exact z xs (Option.some.inj e).symm
  rw [upd_ne hb]
  exact e
theorem KT.rd {H H' : Hp} (k : KT H H') {a : Addr} {xs : List V} (h : Rd H a (.tup xs)) : Rd H' a (.tup xs) := by
  rcases h with h | ⟨o, h⟩
  · exact .inl (k _ _ (fun _ z => by cases z) h)
  · exact .inr ⟨o, k _ _ (fun _ z => by cases z) h⟩
theorem KT.sqT {K : PySem.W.Frag} {H H' : Hp} (k : KT H H') {a : Addr} {xs : List V} (h : SqT K H a xs) : SqT K H' a xs := by
  rcases h with h | h
  · exact .inl (k.rd h)
  · exact .inr h
theorem JarAt.keep {H H' : Hp} {j : Addr} {n : Nat} (J : JarAt H j n) (h : ∀ o, H j = some o → H' j = some o) : JarAt H' j n := by
  obtain ⟨a, b, c, hj, q⟩ := J
  exact ⟨a, b, c, h _ hj, q⟩
theorem JarAt.same {H H' : Hp} {j : Addr} {n : Nat} (J : JarAt H j n) (h : Same H H') : JarAt H' j n := J.keep (h j)
theorem JarAt.mono {H : Hp} {j : Addr} {n m : Nat} (J : JarAt H j n) (h : n ≤ m) : JarAt H j m := by
  obtain ⟨a, b, c, hj, q1, q2, q3, q4, q5⟩ := J
  exact ⟨a, b, c, hj, q1, q2, q3, q4, by omega⟩
theorem JarAt.ne {H : Hp} {j p : Addr} {n : Nat} (J : JarAt H j n) (h : H p = none) : p ≠ j := by
  obtain ⟨a, b, c, hj, _⟩ := J
  exact (ne_of_none hj h).symm
theorem JarAt.neT {H : Hp} {j p : Addr} {n : Nat} {o : HO} (J : JarAt H j n) (h : H p = some o) (z : ∀ xs, o ≠ .lst xs) : p ≠ j := by
  obtain ⟨a, b, c, hj, _⟩ := J
  exact ne_of h hj (z _)/-! ### one way on behind an if -/
theorem tIfS_via {c : TT} {t u : TS} {D : Ends} {σ : L2.St} {H : Hp} (R : L2.St → Hp → Prop) (h : (∀ σ' H', R σ' H' → D.nx σ' H') → tIfS c t u D σ H) (k : ∀ σ' H', R σ' H' → D.nx σ' H') : tIfS c t u D σ H := h k
/-! ### == of data without dicts -/
section
variable {X : Cx}
def rEqP (K : PySem.W.Frag) : R2 := fun x y H Q => ∃ d e, Dp K H x d ∧ Dp K H y e ∧ d.plain = true ∧ e.plain = true ∧ d.depth ≤ 64 ∧ Q (.bl (PyData.eqv d e)) H
def rNeP (K : PySem.W.Frag) : R2 := fun x y H Q => ∃ d e, Dp K H x d ∧ Dp K H y e ∧ d.plain = true ∧ e.plain = true ∧ d.depth ≤ 64 ∧ Q (.bl (!PyData.eqv d e)) H
theorem op_eqP (hu : X.A.units + 64 < cLine) : OpR X (compareOp .Eq) (rEqP X.K) := by
  intro pins s σ H x y v u Q I rx ry h
  obtain ⟨d, e, hd, he, sd, se, dd, q⟩ := h
  obtain ⟨as, r1⟩ := Dp.reads I d x v hd rx
  obtain ⟨bs, r2⟩ := Dp.reads I e y u he ry
  exact SeqAt.eq_plain r1 r2 sd se (by omega) ⟨.bl _, H, I, rfl, q⟩
theorem op_neP (hu : X.A.units + 64 < cLine) : OpR X (compareOp .NotEq) (rNeP X.K) := by
  intro pins s σ H x y v u Q I rx ry h
  obtain ⟨d, e, hd, he, sd, se, dd, q⟩ := h
  obtain ⟨as, r1⟩ := Dp.reads I d x v hd rx
  obtain ⟨bs, r2⟩ := Dp.reads I e y u he ry
  exact SeqAt.ne_plain r1 r2 sd se (by omega) ⟨.bl _, H, I, rfl, q⟩
end
/-! ### a value of some kind -/
section
variable {K : PySem.W.Frag} {H H' : Hp}
inductive ThAt (K : PySem.W.Frag) (H : Hp) : V → Prop
  | int (i : Int) : ThAt K H (.int i)
  | bl (b : Bool) : ThAt K H (.bl b)
  | str (z : Str) : ThAt K H (.str z)
  | non : ThAt K H .non
  | tup {a : Addr} (i : Int) (z : Str) (h : SqT K H a [.int i, .str z]) : ThAt K H (.ref a)
theorem KT.th (k : KT H H') {v : V} (h : ThAt K H v) : ThAt K H' v := by
  cases h with
  | int i => exact .int i
  | bl b => exact .bl b
  | str z => exact .str z
  | non => exact .non
  | tup i z h => exact .tup i z (k.sqT h)
/-- as data -/
theorem ThAt.dp {v : V} (h : ThAt K H v) : ∃ d, Dp K H v d ∧ d.plain = true ∧ d.depth ≤ 64 ∧ PyData.eqv d d = true := by
  cases h with
  | int i => exact ⟨_, .int i, rfl, Nat.zero_le _, by simp [PyData.eqv]⟩
  | bl b => exact ⟨_, .bl b, rfl, Nat.zero_le _, by simp [PyData.eqv]⟩
  | str z => exact ⟨_, .str z, rfl, Nat.zero_le _, by simp [PyData.eqv]⟩
  | non => exact ⟨_, .non, rfl, Nat.zero_le _, by simp [PyData.eqv]⟩
  | tup i z h => exact ⟨_, .tup h (.cons (.int i) (.cons (.str z) .nil)), rfl, by simp [PyData.depth, PyData.depthAll], by simp [PyData.eqv, PyData.eqvAll]⟩
/-- what isinstance says of it -/
theorem ThAt.isi {v : V} (h : ThAt K H v) : ∃ t bb bi, TyX K H v t ∧ PySem.W.kitOne K t (.type "bool") = some bb ∧ PySem.W.kitOne K t (.type "int") = some bi := by
  cases h with
  | int i => exact ⟨_, false, true, .base (.int i), kit_ty (by decide +kernel), kit_ty (by decide +kernel)⟩
  | bl b => exact ⟨_, true, true, .base (.bl b), kit_ty (by decide +kernel), kit_ty (by decide +kernel)⟩
  | str z => exact ⟨_, false, false, .base (.str z), kit_ty (by decide +kernel), kit_ty (by decide +kernel)⟩
  | non => exact ⟨_, false, false, .base .non, kit_ty (by decide +kernel), kit_ty (by decide +kernel)⟩
  | tup i z h =>
    rcases h with (h | ⟨o, h⟩) | h
    · exact ⟨_, false, false, .base (.tup h), kit_ty (by decide +kernel), kit_ty (by decide +kernel)⟩
    · exact ⟨_, false, false, .fTuple h, kit_ty (by decide +kernel), kit_ty (by decide +kernel)⟩
    · obtain ⟨o, _, _, e, c, _⟩ := h
      exact ⟨_, false, false, .kTuple e c, kit_ty (by decide +kernel), kit_ty (by decide +kernel)⟩
end
end Sh

namespace Sh
open PySem L2
section
variable {P : Program} {w : World} {K : PySem.W.Frag} {mg : Str → Option Value} {base : Heap}
/-! ### texts of single letters -/
def Ones (r : List Str) : Prop := ∀ x ∈ r, x.length = 1
theorem ones_sum : ∀ {r : List Str}, Ones r → (r.map (·.length)).sum = r.length
  | [], _ => rfl
  | x :: r, h => by
    rw [List.map_cons, List.sum_cons, List.length_cons, h x List.mem_cons_self, ones_sum (fun y hy => h y (List.mem_cons_of_mem _ hy))]
    omega
theorem ones_snoc {r : List Str} {c : Nat} (h : Ones r) : Ones (r ++ [(⟨#[c]⟩ : Str)]) := fun x hx => by
  rcases List.mem_append.mp hx with hx | hx
  · exact h x hx
  · rw [List.mem_singleton.mp hx]
    rfl
theorem ix_letter {z : Str} {k c : Int} (hk : z.cps.toList.length = k.toNat) (h0 : 0 ≤ c) (h1 : c < k) : ∃ x : Nat, atI z.cps.toList c = some x := by
  have lt : c.toNat < z.cps.toList.length := by omega
  refine ⟨z.cps.toList[c.toNat], ?_⟩
  have e := atI_nat (List.getElem?_eq_getElem lt)
  rwa [Int.toNat_of_nonneg h0] at e
def spThing (K : PySem.W.Frag) : Sp := fun vs H Q _ => ∃ (j : Addr) (n : Nat), vs = [.ref j] ∧ JarAt H j n ∧ n ≤ 2 ^ 80 ∧ ∀ (v : V) (H' : Hp), ThAt K H' v → JarAt H' j (n + 40) → Kp j H H' → Q v H'
abbrev s_thing : Stmt := top 16
theorem sc_thing : FnScope ["jar", "number", "word", "k"] ["jar"] (defScope s_thing) := ⟨rfl, rfl, rfl, by decide +kernel, rfl, by decide +kernel, by decide +kernel⟩
theorem ok_thing {f fD : Addr} {fd fdD : FuncData} (F : Fun K "_law_thing" "_law_thing" s_thing f fd) (T : TxtB mg) (gD : mg "_law_draw" = some (.ref fD)) (FD : Fun K "_law_draw" "_law_draw" s_draw fD fdD) (bD : Binds K fdD ["jar", "many"] []) : FnOk P w K mg base CX0 2 f fd ["jar"] (spThing K) := by
  have GD : FnOk P w K mg base CX0 1 fD fdD ["jar", "many"] spDraw := ok_draw FD T
  refine F.ok sc_thing (fun vs H Q E h => ?_) (fun cdv A outer s H vs Q E hr h => ?_)
  · obtain ⟨j, n, rfl, _⟩ := h
    rfl
  · obtain ⟨j, n, rfl, J, hn, q⟩ := h
    refine ⟨_, (pss_cons (ps_set (i := 1) sc_thing.nd rfl (Or.inl rfl) (pe_op op_sub (pe_call GD hr (by rfl) gD FD.kp bD .nil pass0 (pa_cons (pv 0) (pa_cons (pe_op op_powW pe_int pe_int) pa_nil))) (pe_op op_mulW (pe_call GD hr (by rfl) gD FD.kp bD .nil pass0 (pa_cons (pv 0) (pa_cons pe_int pa_nil))) (pe_op op_powW pe_int pe_int))))
  (pss_cons (ps_set (i := 2) sc_thing.nd rfl (Or.inl rfl) (pe_join pe_str (pe_lc (own := [("k", 3)]) (g := (gName 3)) (by rfl) sc_thing.nd (pi_range1 (by rfl) T.b_range (pa_cons (pe_call GD hr (by rfl) gD FD.kp bD .nil pass0 (pa_cons (pv 0) (pa_cons pe_int pa_nil))) pa_nil)) (blkOk_by (own := [("k", 3)]) (N := ["jar", "number", "word", "k"]) (sc := defScope s_thing) (by decide +kernel)) (fun _ _ _ _ _ => (pg_name (i := 3) sc_thing.nd rfl (Or.inl rfl))) (fun _ _ _ _ _ => pts_nil) (fun _ _ _ _ _ => (pe_ix (r := rIxS) ix_str pe_str (pe_call GD hr (by rfl) gD FD.kp bD .nil pass0 (pa_cons (pv 0) (pa_cons pe_int pa_nil))) (fun _ _ => rfl))))))
  (pss_one (ps_ret (pe_ix (r := rIxL K) ix_list (pe_lst (pa_cons (pv 1) (pa_cons (pv 1) (pa_cons (pe_cmpR op_eq (pe_call GD hr (by rfl) gD FD.kp bD .nil pass0 (pa_cons (pv 0) (pa_cons pe_int pa_nil))) pe_int (nomark _)) (pa_cons (pv 2) (pa_cons pe_non (pa_cons (pe_tup (pa_cons (pv 1) (pa_cons (pv 2) pa_nil))) (pa_cons (pe_call GD hr (by rfl) gD FD.kp bD .nil pass0 (pa_cons (pv 0) (pa_cons pe_int pa_nil))) pa_nil)))))))) (pe_call GD hr (by rfl) gD FD.kp bD .nil pass0 (pa_cons (pv 0) (pa_cons pe_int pa_nil))) (fun _ _ => rfl)))))), ?_⟩
    refine ⟨_, rfl, ?_⟩
    refine ⟨_, _, rfl, rfl, ⟨by decide, by decide, by decide⟩, ?_⟩
    refine ⟨j, _, n, rfl, J, by decide, by decide, by omega, fun r1 H1 _ _ J1 k1 => ?_⟩
    refine ⟨_, rfl, ?_⟩
    refine ⟨j, 2, n + 1, rfl, J1, by decide, by decide, by omega, fun r2 H2 h20 h21 J2 k2 => ?_⟩
    refine ⟨_, _, rfl, rfl, ⟨by decide, by decide, by decide⟩, ?_⟩
    refine ⟨_, _, rfl, rfl, wide_mul (a := 2) (b := 200) (by omega) (by decide) (by decide) (by decide) (by decide), ?_⟩
    refine ⟨_, _, rfl, rfl, ?_⟩
    refine ⟨⟨_, rfl⟩, ?_⟩
    refine ⟨_, rfl, ?_⟩
    refine ⟨j, 9, n + 1 + 1, rfl, J2, by decide, by decide, by omega, fun m H3 hm0 hm1 J3 k3 => ?_⟩
    refine ⟨m, rfl, by omega, by omega, fun D hD => ?_⟩
    have njD : D ≠ j := J3.ne hD
    refine lc_range (lo := 0) (n := m.toNat) (fun i H' => ∃ r : List Str, H' D = some (.lst (r.map V.str)) ∧ r.length = i ∧ Ones r ∧ JarAt H' j (n + 3 + i) ∧ Kp j H H') ?_ ?_ ?_
    · exact ⟨[], upd_same, rfl, (by intro x hx; cases hx), J3.same (same_new hD), (k1.trans k2).trans (k3.trans ((same_new hD).kp j))⟩
    · rintro i H4 hi ⟨r, hr4, hl4, ho4, J4, k4⟩
      refine ⟨rfl, ?_⟩
      refine ⟨_, rfl, ?_⟩
      refine ⟨j, 13, n + 3 + i, rfl, J4, by decide, by decide, by omega, fun c H5 hc0 hc1 J5 k5 => ?_⟩
      obtain ⟨x, hx⟩ := ix_letter (z := "abcXYZ 019-;,") (k := 13) (by decide) hc0 hc1
      refine ⟨_, c, x, rfl, rfl, by decide, hx, ?_⟩
      refine ⟨_, k5 _ _ njD hr4, by rw [List.length_map, hl4]; exact small1000 (by omega), r ++ [⟨#[x]⟩], ?_, ?_, ones_snoc ho4, ?_, ?_⟩
      · rw [upd_same, List.map_append]
        rfl
      · rw [List.length_append, hl4]
        rfl
      · exact (J5.keep fun o e => by rw [upd_ne njD.symm]; exact e).mono (by omega)
      · exact kp_fresh (fun b o hb e => k3 b o hb (k2 b o hb (k1 b o hb e))) hD (k4.trans k5)
    · rintro H4 ⟨r, hr4, hl4, ho4, J4, k4⟩
      refine ⟨_, D, r, rfl, rfl, .inl (SqL.of hr4), by rw [ones_sum ho4, hl4, show (Str.ofString "").length = 0 from by decide]; omega, ?_⟩
      generalize hw : Txt.join _ r = word
      refine ⟨_, rfl, _, rfl, _, rfl, ?_⟩
      refine ⟨j, 2, n + 3 + m.toNat, rfl, J4, by decide, by decide, by omega, fun r3 H5 _ _ J5 k5 => ?_⟩
      refine ⟨rfl, ?_⟩
      refine ⟨_, rfl, ?_⟩
      refine ⟨_, rfl, _, rfl, (by show 2 ≤ sizeLine; decide), fun p hp => ?_⟩
      refine ⟨_, rfl, ?_⟩
      refine ⟨j, 20, n + 3 + m.toNat + 1, rfl, J5.same (same_new hp), by decide, by decide, by omega, fun r4 H6 _ _ J6 k6 => ?_⟩
      refine ⟨(by show 7 ≤ sizeLine; decide), fun l hl => ?_⟩
      refine ⟨_, rfl, ?_⟩
      refine ⟨j, 7, n + 3 + m.toNat + 1 + 1, rfl, J6.same (same_new hl), by decide, by decide, by omega, fun r5 H7 h70 h71 J7 k7 => ?_⟩
      have npj : p ≠ j := J5.ne hp
      have nlj : l ≠ j := J6.ne hl
      have hp6 : H6 p = some (.tup [.int (r1 - r2 * 10 ^ Int.toNat 39), .str word]) := k6 _ _ npj upd_same
      have hp7 : H7 p = some (.tup [.int (r1 - r2 * 10 ^ Int.toNat 39), .str word]) := k7 _ _ npj (same_new hl _ _ hp6)
      have kAll : Kp j H H7 := (k4.trans k5).trans ((((same_new hp).kp j).trans k6).trans (((same_new hl).kp j).trans k7))
      have JAll : JarAt H7 j (n + 40) := J7.mono (by omega)
      have hi : r5.toNat < 7 := by omega
      have key : ∀ v, ThAt K H7 v → Q v H7 := fun v hv => q v H7 hv JAll kAll
      obtain ⟨v, hv, hq⟩ : ∃ v, ([.int (r1 - r2 * 10 ^ Int.toNat 39), .int (r1 - r2 * 10 ^ Int.toNat 39), .bl (decide (V.int r3 = V.int 1)), .str word, .non, .ref p, .int r4] : List V)[r5.toNat]? = some v ∧ ThAt K H7 v := by
        generalize r5.toNat = u at hi
        match u, hi with
        | 0, _ => exact ⟨_, rfl, .int _⟩
        | 1, _ => exact ⟨_, rfl, .int _⟩
        | 2, _ => exact ⟨_, rfl, .bl _⟩
        | 3, _ => exact ⟨_, rfl, .str _⟩
        | 4, _ => exact ⟨_, rfl, .non⟩
        | 5, _ => exact ⟨_, rfl, .tup _ word (.inl (.inl hp7))⟩
        | 6, _ => exact ⟨_, rfl, .int _⟩
        | k + 7, h => exact absurd h (by omega)
      exact ⟨l, _, r5, v, rfl, rfl, SqL.of (k7 _ _ nlj upd_same), at_of (j := r5.toNat) (by omega) hv, key v hq⟩
/-! ### whether a value is the due one -/
def spSame (K : PySem.W.Frag) : Sp := fun vs H Q _ => ∃ v, vs = [v, v] ∧ ThAt K H v ∧ Q (.bl true) H
abbrev s_same : Stmt := top 17
theorem sc_same : FnScope ["found", "due"] ["found", "due"] (defScope s_same) := ⟨rfl, rfl, rfl, by decide +kernel, rfl, by decide +kernel, by decide +kernel⟩
theorem ok_same {f : Addr} {fd : FuncData} (F : Fun K "_law_same" "_law_same" s_same f fd) (T : TxtB mg) (bbool : mg "bool" = none) : FnOk P w K mg base CX0 1 f fd ["found", "due"] (spSame K) := by
  refine F.ok sc_same (fun vs H Q E h => ?_) (fun cdv A outer s H vs Q E hr h => ?_)
  · obtain ⟨v, rfl, _⟩ := h
    rfl
  · obtain ⟨v, rfl, hv, q⟩ := h
    refine ⟨_, (pss_cons (ps_if (PW.pt (pw_or (pt_cmpR op_ne (pe_callB (id := "isinstance") (r := rIsi K) call_isi (by rfl) T.b_isinstance (by decide +kernel) (pa_cons (pv 0) (pa_cons (pe_bltn (v := .ty "bool") (by rfl) bbool (by decide +kernel) rfl) pa_nil))) (pe_callB (id := "isinstance") (r := rIsi K) call_isi (by rfl) T.b_isinstance (by decide +kernel) (pa_cons (pv 1) (pa_cons (pe_bltn (v := .ty "bool") (by rfl) bbool (by decide +kernel) rfl) pa_nil))) (nomark _)) (pw_or1 (pt_cmpR op_ne (pe_callB (id := "isinstance") (r := rIsi K) call_isi (by rfl) T.b_isinstance (by decide +kernel) (pa_cons (pv 0) (pa_cons (pe_bltn (v := .ty "int") (by rfl) T.b_int (by decide +kernel) rfl) pa_nil))) (pe_callB (id := "isinstance") (r := rIsi K) call_isi (by rfl) T.b_isinstance (by decide +kernel) (pa_cons (pv 1) (pa_cons (pe_bltn (v := .ty "int") (by rfl) T.b_int (by decide +kernel) rfl) pa_nil))) (nomark _))))) (pss_one (ps_ret pe_bl)) pss_nil)
  (pss_one (ps_ret (pe_cmpR (op_eqP hr.units) (pv 0) (pv 1) (nomark _))))), ?_⟩
    obtain ⟨t, bb, bi, ty, kb, ki⟩ := hv.isi
    obtain ⟨d, hd, pl, dep, ev⟩ := hv.dp
    refine ⟨_, rfl, ?_⟩
    refine ⟨_, _, _, _, bb, rfl, .ty "bool", ty, kb, ?_⟩
    refine ⟨_, rfl, ?_⟩
    refine ⟨_, _, _, _, bb, rfl, .ty "bool", ty, kb, ?_⟩
    refine ⟨rfl, _, rfl, ?_⟩
    refine ite2 (fun h1 => absurd h1 (by simp)) (fun _ => ?_)
    refine ⟨_, rfl, ?_⟩
    refine ⟨_, _, _, _, bi, rfl, .ty "int", ty, ki, ?_⟩
    refine ⟨_, rfl, ?_⟩
    refine ⟨_, _, _, _, bi, rfl, .ty "int", ty, ki, ?_⟩
    refine ⟨rfl, _, rfl, ?_⟩
    refine ite2 (fun h1 => absurd h1 (by simp)) (fun _ => ?_)
    refine ⟨_, rfl, _, rfl, d, d, hd, hd, pl, pl, dep, ?_⟩
    rw [ev]
    exact q
end
end Sh

namespace Sh
open PySem L2
/-! ### the classes of errors -/
section
variable {K : PySem.W.Frag} {H H' : Hp} {a C S D : Addr} {Cs : List Addr}
def excB (K : PySem.W.Frag) (D : Addr) : Bool := xfB K D && (decide (PySem.W.findIn K (.ref D) "__class__" = some (some (.builtin "object.__class__"))) && (decide (PySem.W.specialIn K (.builtin "object.__class__") "__get__" = some (some (.builtin "getset_descriptor.__get__"))) &&
  (decide (PySem.W.takesIn K (.builtin "object.__class__") = some true) && decide (PySem.W.mroIn K D (.type "object") = some true))))
theorem excB_ok (h : excB K D = true) : ExcC K D := by
  obtain ⟨h1, h⟩ := Bool.and_eq_true_iff.mp h
  obtain ⟨h2, h⟩ := Bool.and_eq_true_iff.mp h
  obtain ⟨h3, h⟩ := Bool.and_eq_true_iff.mp h
  obtain ⟨h4, h5⟩ := Bool.and_eq_true_iff.mp h
  have x := xfB_ok h1
  exact ⟨x.ga, x.gg, x.exC, x.hdC, of_decide_eq_true h2, of_decide_eq_true h3, of_decide_eq_true h4, of_decide_eq_true h5⟩
/-- each of the classes is below S and ValueError, and none is below another -/
def kinB (K : PySem.W.Frag) (S : Addr) (Cs : List Addr) : Bool := (S :: Cs).all fun C => decide (PySem.W.kitOne K (.ref C) (.ref S) = some true) && (decide (PySem.W.kitOne K (.ref C) (.type "ValueError") = some true) &&
  (Cs.all (fun D => decide (PySem.W.kitOne K (.ref C) (.ref D) = some (decide (C = D)))) && excB K C))
structure Kin (K : PySem.W.Frag) (S : Addr) (Cs : List Addr) (C : Addr) : Prop where
  up : PySem.W.kitOne K (.ref C) (.ref S) = some true
  ve : PySem.W.kitOne K (.ref C) (.type "ValueError") = some true
  at_ : ∀ D ∈ Cs, PySem.W.kitOne K (.ref C) (.ref D) = some (decide (C = D))
  ex : ExcC K C
theorem kinB_ok (h : kinB K S Cs = true) (hc : C ∈ S :: Cs) : Kin K S Cs C := by
  obtain ⟨h1, h⟩ := Bool.and_eq_true_iff.mp (List.all_eq_true.mp h C hc)
  obtain ⟨h2, h⟩ := Bool.and_eq_true_iff.mp h
  obtain ⟨h3, h4⟩ := Bool.and_eq_true_iff.mp h
  exact ⟨of_decide_eq_true h1, of_decide_eq_true h2, fun D hd => of_decide_eq_true (List.all_eq_true.mp h3 D hd), excB_ok h4⟩
theorem ErrAt.same (s : Same H H') (h : ErrAt H a C) : ErrAt H' a C := by
  rcases h with h | ⟨f, v, d, h, hd⟩
  · exact .inl (s _ _ h)
  · exact .inr ⟨f, v, d, s _ _ h, s _ _ hd⟩
theorem isv_ref {b : Bool} {Q : VK} (h : ErrAt H a D) (x : ExcC K D) (k : PySem.W.kitOne K (.ref D) (.ref C) = some b) (q : Q (.bl b) H) : rIsV K [.ref a, .ref C] H Q := ⟨a, D, _, _, b, rfl, h, x, fun _ z => z, k, q⟩
theorem isv_ty {b : Bool} {T : String} {Q : VK} (h : ErrAt H a D) (x : ExcC K D) (k : PySem.W.kitOne K (.ref D) (.type T) = some b) (q : Q (.bl b) H) : rIsV K [.ref a, .ty T] H Q := ⟨a, D, _, _, b, rfl, h, x, fun _ z => z, k, q⟩
def clsV (D : Addr) (Cs : List Addr) : List V := .bl true :: .bl true :: Cs.map fun C => V.bl (decide (D = C))
def spClasses (K : PySem.W.Frag) (S : Addr) (Cs : List Addr) : Sp := fun vs H Q _ => ∃ a D, vs = [.ref a] ∧ ErrAt H a D ∧ D ∈ S :: Cs ∧ ∀ (l : Addr) (H' : Hp), H' l = some (.lst (clsV D Cs)) → H l = none → Same H H' → Q (.ref l) H'
end
structure Names (mg : Str → Option Value) (S c1 c2 c3 c4 c5 c6 c7 c8 c9 c10 c11 : Addr) : Prop where
  g_ShownError : mg "ShownError" = some (.ref S)
  g_NoPrices : mg "NoPrices" = some (.ref c1)
  g_NoDoors : mg "NoDoors" = some (.ref c2)
  g_NotRight : mg "NotRight" = some (.ref c3)
  g_NothingToUndo : mg "NothingToUndo" = some (.ref c4)
  g_NoRule : mg "NoRule" = some (.ref c5)
  g_NoDoor : mg "NoDoor" = some (.ref c6)
  g_NoDeed : mg "NoDeed" = some (.ref c7)
  g_NoItem : mg "NoItem" = some (.ref c8)
  g_NoLine : mg "NoLine" = some (.ref c9)
  g_Missing : mg "Missing" = some (.ref c10)
  g_NoText : mg "NoText" = some (.ref c11)
section
variable {P : Program} {w : World} {K : PySem.W.Frag} {mg : Str → Option Value} {base : Heap} {S c1 c2 c3 c4 c5 c6 c7 c8 c9 c10 c11 : Addr}
abbrev s_classes : Stmt := top 18
theorem sc_classes : FnScope ["error", "found"] ["error"] (defScope s_classes) := ⟨rfl, rfl, rfl, by decide +kernel, rfl, by decide +kernel, by decide +kernel⟩
theorem ok_classes {f : Addr} {fd : FuncData} (F : Fun K "_law_classes" "_law_classes" s_classes f fd) (T : TxtB mg) (bVE : mg "ValueError" = none) (NM : Names mg S c1 c2 c3 c4 c5 c6 c7 c8 c9 c10 c11) (hk : kinB K S [c1, c2, c3, c4, c5, c6, c7, c8, c9, c10, c11] = true) : FnOk P w K mg base CX0 1 f fd ["error"] (spClasses K S [c1, c2, c3, c4, c5, c6, c7, c8, c9, c10, c11]) := by
  refine F.ok sc_classes (fun vs H Q E h => ?_) (fun cdv A outer s H vs Q E hr h => ?_)
  · obtain ⟨a, D, rfl, _⟩ := h
    rfl
  · obtain ⟨a, D, rfl, he, hD, q⟩ := h
    have N := kinB_ok hk hD
    have X := N.ex
    refine ⟨_, (pss_cons (ps_set (i := 1) sc_classes.nd rfl (Or.inl rfl) (pe_lst (pa_cons (pe_callB (id := "isinstance") (r := rIsV K) call_isV (by rfl) T.b_isinstance (by decide +kernel) (pa_cons (pv 0) (pa_cons (pe_glob (v := .ref S) (by rfl) NM.g_ShownError rfl) pa_nil))) (pa_cons (pe_callB (id := "isinstance") (r := rIsV K) call_isV (by rfl) T.b_isinstance (by decide +kernel) (pa_cons (pv 0) (pa_cons (pe_bltn (v := .ty "ValueError") (by rfl) bVE (by decide +kernel) rfl) pa_nil))) (pa_cons (pe_callB (id := "isinstance") (r := rIsV K) call_isV (by rfl) T.b_isinstance (by decide +kernel) (pa_cons (pv 0) (pa_cons (pe_glob (v := .ref c1) (by rfl) NM.g_NoPrices rfl) pa_nil))) pa_nil)))))
  (pss_cons (ps_set (i := 1) sc_classes.nd rfl (Or.inl rfl) (pe_op op_cat (pv 1) (pe_lst (pa_cons (pe_callB (id := "isinstance") (r := rIsV K) call_isV (by rfl) T.b_isinstance (by decide +kernel) (pa_cons (pv 0) (pa_cons (pe_glob (v := .ref c2) (by rfl) NM.g_NoDoors rfl) pa_nil))) (pa_cons (pe_callB (id := "isinstance") (r := rIsV K) call_isV (by rfl) T.b_isinstance (by decide +kernel) (pa_cons (pv 0) (pa_cons (pe_glob (v := .ref c3) (by rfl) NM.g_NotRight rfl) pa_nil))) (pa_cons (pe_callB (id := "isinstance") (r := rIsV K) call_isV (by rfl) T.b_isinstance (by decide +kernel) (pa_cons (pv 0) (pa_cons (pe_glob (v := .ref c4) (by rfl) NM.g_NothingToUndo rfl) pa_nil))) pa_nil))))))
  (pss_cons (ps_set (i := 1) sc_classes.nd rfl (Or.inl rfl) (pe_op op_cat (pv 1) (pe_lst (pa_cons (pe_callB (id := "isinstance") (r := rIsV K) call_isV (by rfl) T.b_isinstance (by decide +kernel) (pa_cons (pv 0) (pa_cons (pe_glob (v := .ref c5) (by rfl) NM.g_NoRule rfl) pa_nil))) (pa_cons (pe_callB (id := "isinstance") (r := rIsV K) call_isV (by rfl) T.b_isinstance (by decide +kernel) (pa_cons (pv 0) (pa_cons (pe_glob (v := .ref c6) (by rfl) NM.g_NoDoor rfl) pa_nil))) (pa_cons (pe_callB (id := "isinstance") (r := rIsV K) call_isV (by rfl) T.b_isinstance (by decide +kernel) (pa_cons (pv 0) (pa_cons (pe_glob (v := .ref c7) (by rfl) NM.g_NoDeed rfl) pa_nil))) pa_nil))))))
  (pss_cons (ps_set (i := 1) sc_classes.nd rfl (Or.inl rfl) (pe_op op_cat (pv 1) (pe_lst (pa_cons (pe_callB (id := "isinstance") (r := rIsV K) call_isV (by rfl) T.b_isinstance (by decide +kernel) (pa_cons (pv 0) (pa_cons (pe_glob (v := .ref c8) (by rfl) NM.g_NoItem rfl) pa_nil))) (pa_cons (pe_callB (id := "isinstance") (r := rIsV K) call_isV (by rfl) T.b_isinstance (by decide +kernel) (pa_cons (pv 0) (pa_cons (pe_glob (v := .ref c9) (by rfl) NM.g_NoLine rfl) pa_nil))) (pa_cons (pe_callB (id := "isinstance") (r := rIsV K) call_isV (by rfl) T.b_isinstance (by decide +kernel) (pa_cons (pv 0) (pa_cons (pe_glob (v := .ref c10) (by rfl) NM.g_Missing rfl) pa_nil))) pa_nil))))))
  (pss_one (ps_ret (pe_op op_cat (pv 1) (pe_lst (pa_cons (pe_callB (id := "isinstance") (r := rIsV K) call_isV (by rfl) T.b_isinstance (by decide +kernel) (pa_cons (pv 0) (pa_cons (pe_glob (v := .ref c11) (by rfl) NM.g_NoText rfl) pa_nil))) pa_nil))))))))), ?_⟩
    refine ⟨_, rfl, ?_⟩
    refine ⟨a, D, _, _, true, rfl, he, X, (fun _ z => z), N.up, ?_⟩
    refine ⟨_, rfl, ?_⟩
    refine ⟨a, D, _, _, true, rfl, he, X, (fun _ z => z), N.ve, ?_⟩
    refine ⟨_, rfl, ?_⟩
    refine ⟨a, D, _, _, _, rfl, he, X, (fun _ z => z), (N.at_ c1 (by simp)), ?_⟩
    refine ⟨(by show 3 ≤ sizeLine; decide), fun p0 hp0 => ?_⟩
    refine ⟨_, rfl, ?_⟩
    refine ⟨_, rfl, ?_⟩
    refine ⟨a, D, _, _, _, rfl, (he.same (same_new hp0)), X, (fun _ z => z), (N.at_ c2 (by simp)), ?_⟩
    refine ⟨_, rfl, ?_⟩
    refine ⟨a, D, _, _, _, rfl, (he.same (same_new hp0)), X, (fun _ z => z), (N.at_ c3 (by simp)), ?_⟩
    refine ⟨_, rfl, ?_⟩
    refine ⟨a, D, _, _, _, rfl, (he.same (same_new hp0)), X, (fun _ z => z), (N.at_ c4 (by simp)), ?_⟩
    refine ⟨(by show 3 ≤ sizeLine; decide), fun m1 hm1 => ?_⟩
    refine ⟨p0, m1, _, _, rfl, rfl, same_new hm1 _ _ upd_same, upd_same, (by show 3 + 3 ≤ sizeLine; decide), fun p1 hp1 => ?_⟩
    refine ⟨_, rfl, ?_⟩
    refine ⟨_, rfl, ?_⟩
    refine ⟨a, D, _, _, _, rfl, (he.same (Same.trans (Same.trans (same_new hp0) (same_new hm1)) (same_new hp1))), X, (fun _ z => z), (N.at_ c5 (by simp)), ?_⟩
    refine ⟨_, rfl, ?_⟩
    refine ⟨a, D, _, _, _, rfl, (he.same (Same.trans (Same.trans (same_new hp0) (same_new hm1)) (same_new hp1))), X, (fun _ z => z), (N.at_ c6 (by simp)), ?_⟩
    refine ⟨_, rfl, ?_⟩
    refine ⟨a, D, _, _, _, rfl, (he.same (Same.trans (Same.trans (same_new hp0) (same_new hm1)) (same_new hp1))), X, (fun _ z => z), (N.at_ c7 (by simp)), ?_⟩
    refine ⟨(by show 3 ≤ sizeLine; decide), fun m2 hm2 => ?_⟩
    refine ⟨p1, m2, _, _, rfl, rfl, same_new hm2 _ _ upd_same, upd_same, (by show 6 + 3 ≤ sizeLine; decide), fun p2 hp2 => ?_⟩
    refine ⟨_, rfl, ?_⟩
    refine ⟨_, rfl, ?_⟩
    refine ⟨a, D, _, _, _, rfl, (he.same (Same.trans (Same.trans (Same.trans (Same.trans (same_new hp0) (same_new hm1)) (same_new hp1)) (same_new hm2)) (same_new hp2))), X, (fun _ z => z), (N.at_ c8 (by simp)), ?_⟩
    refine ⟨_, rfl, ?_⟩
    refine ⟨a, D, _, _, _, rfl, (he.same (Same.trans (Same.trans (Same.trans (Same.trans (same_new hp0) (same_new hm1)) (same_new hp1)) (same_new hm2)) (same_new hp2))), X, (fun _ z => z), (N.at_ c9 (by simp)), ?_⟩
    refine ⟨_, rfl, ?_⟩
    refine ⟨a, D, _, _, _, rfl, (he.same (Same.trans (Same.trans (Same.trans (Same.trans (same_new hp0) (same_new hm1)) (same_new hp1)) (same_new hm2)) (same_new hp2))), X, (fun _ z => z), (N.at_ c10 (by simp)), ?_⟩
    refine ⟨(by show 3 ≤ sizeLine; decide), fun m3 hm3 => ?_⟩
    refine ⟨p2, m3, _, _, rfl, rfl, same_new hm3 _ _ upd_same, upd_same, (by show 9 + 3 ≤ sizeLine; decide), fun p3 hp3 => ?_⟩
    refine ⟨_, rfl, ?_⟩
    refine ⟨_, rfl, ?_⟩
    refine ⟨a, D, _, _, _, rfl, (he.same (Same.trans (Same.trans (Same.trans (Same.trans (Same.trans (Same.trans (same_new hp0) (same_new hm1)) (same_new hp1)) (same_new hm2)) (same_new hp2)) (same_new hm3)) (same_new hp3))), X, (fun _ z => z), (N.at_ c11 (by simp)), ?_⟩
    refine ⟨(by show 1 ≤ sizeLine; decide), fun m4 hm4 => ?_⟩
    refine ⟨p3, m4, _, _, rfl, rfl, same_new hm4 _ _ upd_same, upd_same, (by show 12 + 1 ≤ sizeLine; decide), fun p4 hp4 => ?_⟩
    exact q p4 _ upd_same (Same.free (Same.trans (Same.trans (Same.trans (Same.trans (Same.trans (Same.trans (same_new hp0) (same_new hm1)) (same_new hp1)) (same_new hm2)) (same_new hp2)) (same_new hm3)) (same_new hp3)) (Same.free (same_new hm4) hp4)) (Same.trans (Same.trans (Same.trans (Same.trans (Same.trans (Same.trans (Same.trans (Same.trans (same_new hp0) (same_new hm1)) (same_new hp1)) (same_new hm2)) (same_new hp2)) (same_new hm3)) (same_new hp3)) (same_new hm4)) (same_new hp4))
end
end Sh

namespace Sh
open PySem L2
/-- the items at these places -/
def pick {α : Type} (ix : List Nat) (l : List α) : List α := ix.filterMap fun i => l[i]?
theorem pick_vals {xs : List V} {us : List Value} (r : Vals xs us) : ∀ ix : List Nat, Vals (pick ix xs) (pick ix us)
  | [] => .nil
  | i :: ix => by
    have h := pick_vals r ix
    show Vals (List.filterMap (fun i => xs[i]?) (i :: ix)) (List.filterMap (fun i => us[i]?) (i :: ix))
    cases e : xs[i]? with
    | none =>
      rw [List.filterMap_cons_none e, List.filterMap_cons_none (r.none_of e)]
      exact h
    | some x =>
      obtain ⟨u, eu, ru⟩ := r.get e
      rw [List.filterMap_cons_some e, List.filterMap_cons_some eu]
      exact .cons ru h
section
variable {K : PySem.W.Frag}
/-- a def without defaults, called with keywords -/
theorem kbn_of {x qual : Str} {st : Stmt} {f : Addr} {fd : FuncData} {ps ks : List Str} (F : Fun K x qual st f fd) (n : Nat) (ix : List Nat)
    (h : ∀ (kV doc pm : Value) (an : Option Addr) (cdv ct : Value) (us ws : List Value), us.length = n → ws.length = ks.length → bindArgs (PySem.W.fnOf x qual (defArgs st) (defBody st) (defScope st) .none kV doc pm an cdv ct) ⟨us, ks.zip ws⟩ = pure (ps.zip (pick ix (us ++ ws)))) :
    KBn K fd ps n ks (fun us ws => pick ix (us ++ ws)) (fun us ws => pick ix (us ++ ws)) := by
  obtain ⟨oc, od, kV, doc, pm, an, cdv, ct, osl, rfl, lk, hcd⟩ := F.ex
  exact ⟨fun s us ws _ h1 h2 => .of_eq (h kV doc pm an cdv ct us ws h1 h2), fun r1 r2 => pick_vals (r1.append r2) ix⟩
end

/-! ### making the errors -/
section
variable {P : Program} {w : World} {K : PySem.W.Frag} {mg : Str → Option Value} {base : Heap}
/-- an error class with one field: what the written part says, and its __init__ -/
structure ErrTxt (K : PySem.W.Frag) (mg : Str → Option Value) (x f : Str) (C fI : Addr) : Prop where
  oex : OexC K C
  no : PySem.W.findIn K (.ref C) f = some none
  iC : PySem.W.findIn K (.ref C) "__init__" = some (some (.ref fI))
  tI : PySem.W.typeIn K (.ref fI) = some (.type "function")
  g : mg x = some (.ref C)
def spErr (C : Addr) (f : Str) : Sp := fun vs H Q _ => ∃ (a : Addr) (v : V), vs = [.ref a, v] ∧ H a = some (exo a C none) ∧ ∀ d, H d = none → d ≠ a → Q .non (upd (upd H d (exd d [(f, v)])) a (exo a C (some d)))
structure ErrCl (P : Program) (w : World) (K : PySem.W.Frag) (mg : Str → Option Value) (base : Heap) (x f : Str) (C fI : Addr) (fd : FuncData) : Prop where
  T : ErrTxt K mg x f C fI
  G : FnOk P w K mg base CX0 1 fI fd ["self", f] (spErr C f)
  b : Binds K fd ["self", f] []
  kb : KBn K fd ["self", f] 1 [f] (fun us ws => pick [0, 1] (us ++ ws)) (fun us ws => pick [0, 1] (us ++ ws))
structure PlCl (K : PySem.W.Frag) (mg : Str → Option Value) (x : Str) (C : Addr) : Prop where
  q : PySem.W.excIn K C [.type "ValueError", .type "Exception", .type "BaseException", .type "object"] "ValueError.__new__" = true
  kC : PySem.W.keepIn K (.ref C) = true
  g : mg x = some (.ref C)
theorem pick2 (a : Value) (ws : List Value) (h : ws.length = 1) : pick [0, 1] ([a] ++ ws) = a :: ws := by
  match ws, h with
  | [x], _ => rfl
theorem fld_new {H : Hp} {a d C : Addr} {f : Str} {v : V} (ha : H a = none) (hd : upd H a (exo a C none) d = none) (nd : d ≠ a) :
    Fld (upd (upd (upd H a (exo a C none)) d (exd d [(f, v)])) a (exo a C (some d))) a C f v ∧ Same H (upd (upd (upd H a (exo a C none)) d (exd d [(f, v)])) a (exo a C (some d))) := by
  rw [upd_ne nd] at hd
  refine ⟨⟨d, upd_same, by rw [upd_ne nd, upd_same]⟩, fun b o e => ?_⟩
  have hb : b ≠ d := ne_of_none e hd
  have hba : b ≠ a := ne_of_none e ha
  rw [upd_ne hba, upd_ne hb, upd_ne hba]
  exact e
theorem bare_new {H : Hp} {a C : Addr} (ha : H a = none) : Bare (upd H a (ExO (.ref C) a)) a C ∧ Same H (upd H a (ExO (.ref C) a)) := ⟨upd_same, same_new ha⟩
theorem Bare.same {H H' : Hp} {a C : Addr} (s : Same H H') (h : Bare H a C) : Bare H' a C := s _ _ h
theorem Fld.same {H H' : Hp} {a C : Addr} {f : Str} {v : V} (s : Same H H') (h : Fld H a C f v) : Fld H' a C f v := by
  obtain ⟨d, h, hd⟩ := h
  exact ⟨d, s _ _ h, s _ _ hd⟩
theorem Bare.kt {H H' : Hp} {a C : Addr} (s : KT H H') (h : Bare H a C) : Bare H' a C := s _ _ (fun xs z => by have z' : HO.ext _ = HO.lst xs := z; cases z') h
theorem Fld.kt {H H' : Hp} {a C : Addr} {f : Str} {v : V} (s : KT H H') (h : Fld H a C f v) : Fld H' a C f v := by
  obtain ⟨d, h, hd⟩ := h
  exact ⟨d, s _ _ (fun xs z => by have z' : HO.ext _ = HO.lst xs := z; cases z') h, s _ _ (fun xs z => by have z' : HO.ext _ = HO.lst xs := z; cases z') hd⟩
abbrev s_eNoRule : Stmt := inClass (top 6) 0
theorem sc_eNoRule : FnScope ["self", "door"] ["self", "door"] (defScope s_eNoRule) := ⟨rfl, rfl, rfl, by decide +kernel, rfl, by decide +kernel, by decide +kernel⟩
theorem ok_eNoRule {f C : Addr} {fd : FuncData} (F : Fun K "__init__" "NoRule.__init__" s_eNoRule f fd) (T : ErrTxt K mg "NoRule" "door" C f) : FnOk P w K mg base CX0 1 f fd ["self", "door"] (spErr C "door") := by
  refine F.ok sc_eNoRule (fun vs H Q E h => ?_) (fun cdv A outer s H vs Q E hr h => ?_)
  · obtain ⟨a, v, rfl, _⟩ := h
    rfl
  · obtain ⟨a, v, rfl, ha, k⟩ := h
    refine ⟨_, pss_one (ps_ost (pv 0) (pv 1) rfl), ?_⟩
    refine ⟨_, rfl, _, rfl, a, C, rfl, T.oex, T.no, .inl ⟨ha, fun d hd nd => ?_⟩⟩
    exact k d hd nd
abbrev s_eNoDoor : Stmt := inClass (top 7) 0
theorem sc_eNoDoor : FnScope ["self", "door"] ["self", "door"] (defScope s_eNoDoor) := ⟨rfl, rfl, rfl, by decide +kernel, rfl, by decide +kernel, by decide +kernel⟩
theorem ok_eNoDoor {f C : Addr} {fd : FuncData} (F : Fun K "__init__" "NoDoor.__init__" s_eNoDoor f fd) (T : ErrTxt K mg "NoDoor" "door" C f) : FnOk P w K mg base CX0 1 f fd ["self", "door"] (spErr C "door") := by
  refine F.ok sc_eNoDoor (fun vs H Q E h => ?_) (fun cdv A outer s H vs Q E hr h => ?_)
  · obtain ⟨a, v, rfl, _⟩ := h
    rfl
  · obtain ⟨a, v, rfl, ha, k⟩ := h
    refine ⟨_, pss_one (ps_ost (pv 0) (pv 1) rfl), ?_⟩
    refine ⟨_, rfl, _, rfl, a, C, rfl, T.oex, T.no, .inl ⟨ha, fun d hd nd => ?_⟩⟩
    exact k d hd nd
abbrev s_eNoDeed : Stmt := inClass (top 8) 0
theorem sc_eNoDeed : FnScope ["self", "index"] ["self", "index"] (defScope s_eNoDeed) := ⟨rfl, rfl, rfl, by decide +kernel, rfl, by decide +kernel, by decide +kernel⟩
theorem ok_eNoDeed {f C : Addr} {fd : FuncData} (F : Fun K "__init__" "NoDeed.__init__" s_eNoDeed f fd) (T : ErrTxt K mg "NoDeed" "index" C f) : FnOk P w K mg base CX0 1 f fd ["self", "index"] (spErr C "index") := by
  refine F.ok sc_eNoDeed (fun vs H Q E h => ?_) (fun cdv A outer s H vs Q E hr h => ?_)
  · obtain ⟨a, v, rfl, _⟩ := h
    rfl
  · obtain ⟨a, v, rfl, ha, k⟩ := h
    refine ⟨_, pss_one (ps_ost (pv 0) (pv 1) rfl), ?_⟩
    refine ⟨_, rfl, _, rfl, a, C, rfl, T.oex, T.no, .inl ⟨ha, fun d hd nd => ?_⟩⟩
    exact k d hd nd
abbrev s_eNoItem : Stmt := inClass (top 9) 0
theorem sc_eNoItem : FnScope ["self", "index"] ["self", "index"] (defScope s_eNoItem) := ⟨rfl, rfl, rfl, by decide +kernel, rfl, by decide +kernel, by decide +kernel⟩
theorem ok_eNoItem {f C : Addr} {fd : FuncData} (F : Fun K "__init__" "NoItem.__init__" s_eNoItem f fd) (T : ErrTxt K mg "NoItem" "index" C f) : FnOk P w K mg base CX0 1 f fd ["self", "index"] (spErr C "index") := by
  refine F.ok sc_eNoItem (fun vs H Q E h => ?_) (fun cdv A outer s H vs Q E hr h => ?_)
  · obtain ⟨a, v, rfl, _⟩ := h
    rfl
  · obtain ⟨a, v, rfl, ha, k⟩ := h
    refine ⟨_, pss_one (ps_ost (pv 0) (pv 1) rfl), ?_⟩
    refine ⟨_, rfl, _, rfl, a, C, rfl, T.oex, T.no, .inl ⟨ha, fun d hd nd => ?_⟩⟩
    exact k d hd nd
abbrev s_eNoLine : Stmt := inClass (top 10) 0
theorem sc_eNoLine : FnScope ["self", "index"] ["self", "index"] (defScope s_eNoLine) := ⟨rfl, rfl, rfl, by decide +kernel, rfl, by decide +kernel, by decide +kernel⟩
theorem ok_eNoLine {f C : Addr} {fd : FuncData} (F : Fun K "__init__" "NoLine.__init__" s_eNoLine f fd) (T : ErrTxt K mg "NoLine" "index" C f) : FnOk P w K mg base CX0 1 f fd ["self", "index"] (spErr C "index") := by
  refine F.ok sc_eNoLine (fun vs H Q E h => ?_) (fun cdv A outer s H vs Q E hr h => ?_)
  · obtain ⟨a, v, rfl, _⟩ := h
    rfl
  · obtain ⟨a, v, rfl, ha, k⟩ := h
    refine ⟨_, pss_one (ps_ost (pv 0) (pv 1) rfl), ?_⟩
    refine ⟨_, rfl, _, rfl, a, C, rfl, T.oex, T.no, .inl ⟨ha, fun d hd nd => ?_⟩⟩
    exact k d hd nd
abbrev s_eMissing : Stmt := inClass (top 11) 0
theorem sc_eMissing : FnScope ["self", "item"] ["self", "item"] (defScope s_eMissing) := ⟨rfl, rfl, rfl, by decide +kernel, rfl, by decide +kernel, by decide +kernel⟩
theorem ok_eMissing {f C : Addr} {fd : FuncData} (F : Fun K "__init__" "Missing.__init__" s_eMissing f fd) (T : ErrTxt K mg "Missing" "item" C f) : FnOk P w K mg base CX0 1 f fd ["self", "item"] (spErr C "item") := by
  refine F.ok sc_eMissing (fun vs H Q E h => ?_) (fun cdv A outer s H vs Q E hr h => ?_)
  · obtain ⟨a, v, rfl, _⟩ := h
    rfl
  · obtain ⟨a, v, rfl, ha, k⟩ := h
    refine ⟨_, pss_one (ps_ost (pv 0) (pv 1) rfl), ?_⟩
    refine ⟨_, rfl, _, rfl, a, C, rfl, T.oex, T.no, .inl ⟨ha, fun d hd nd => ?_⟩⟩
    exact k d hd nd
abbrev s_eNoText : Stmt := inClass (top 12) 0
theorem sc_eNoText : FnScope ["self", "line"] ["self", "line"] (defScope s_eNoText) := ⟨rfl, rfl, rfl, by decide +kernel, rfl, by decide +kernel, by decide +kernel⟩
theorem ok_eNoText {f C : Addr} {fd : FuncData} (F : Fun K "__init__" "NoText.__init__" s_eNoText f fd) (T : ErrTxt K mg "NoText" "line" C f) : FnOk P w K mg base CX0 1 f fd ["self", "line"] (spErr C "line") := by
  refine F.ok sc_eNoText (fun vs H Q E h => ?_) (fun cdv A outer s H vs Q E hr h => ?_)
  · obtain ⟨a, v, rfl, _⟩ := h
    rfl
  · obtain ⟨a, v, rfl, ha, k⟩ := h
    refine ⟨_, pss_one (ps_ost (pv 0) (pv 1) rfl), ?_⟩
    refine ⟨_, rfl, _, rfl, a, C, rfl, T.oex, T.no, .inl ⟨ha, fun d hd nd => ?_⟩⟩
    exact k d hd nd
end
end Sh

namespace Sh
open PySem L2
/-- one error of each class -/
def ErrsAt (H : Hp) (c1 c2 c3 c4 c5 c6 c7 c8 c9 c10 c11 : Addr) (v : V) (as : List V) : Prop := ∃ a1 a2 a3 a4 a5 a6 a7 a8 a9 a10 a11, as = [.ref a1, .ref a2, .ref a3, .ref a4, .ref a5, .ref a6, .ref a7, .ref a8, .ref a9, .ref a10, .ref a11] ∧ Bare H a1 c1 ∧ Bare H a2 c2 ∧ Bare H a3 c3 ∧ Bare H a4 c4 ∧ Fld H a5 c5 "door" v ∧ Fld H a6 c6 "door" v ∧ Fld H a7 c7 "index" v ∧ Fld H a8 c8 "index" v ∧ Fld H a9 c9 "index" v ∧ Fld H a10 c10 "item" v ∧ Fld H a11 c11 "line" v
section
variable {H H' : Hp} {c1 c2 c3 c4 c5 c6 c7 c8 c9 c10 c11 : Addr} {v : V} {as : List V}
theorem ErrsAt.kt (s : KT H H') (h : ErrsAt H c1 c2 c3 c4 c5 c6 c7 c8 c9 c10 c11 v as) : ErrsAt H' c1 c2 c3 c4 c5 c6 c7 c8 c9 c10 c11 v as := by
  obtain ⟨a1, a2, a3, a4, a5, a6, a7, a8, a9, a10, a11, e, h1, h2, h3, h4, h5, h6, h7, h8, h9, h10, h11⟩ := h
  exact ⟨a1, a2, a3, a4, a5, a6, a7, a8, a9, a10, a11, e, h1.kt s, h2.kt s, h3.kt s, h4.kt s, h5.kt s, h6.kt s, h7.kt s, h8.kt s, h9.kt s, h10.kt s, h11.kt s⟩
theorem ErrsAt.get (h : ErrsAt H c1 c2 c3 c4 c5 c6 c7 c8 c9 c10 c11 v as) {i : Nat} (hi : i < 11) : ∃ a C, as[i]? = some (.ref a) ∧ [c1, c2, c3, c4, c5, c6, c7, c8, c9, c10, c11][i]? = some C ∧ ErrAt H a C := by
  obtain ⟨a1, a2, a3, a4, a5, a6, a7, a8, a9, a10, a11, rfl, h1, h2, h3, h4, h5, h6, h7, h8, h9, h10, h11⟩ := h
  match i, hi with
  | 0, _ => exact ⟨_, _, rfl, rfl, .inl h1⟩
  | 1, _ => exact ⟨_, _, rfl, rfl, .inl h2⟩
  | 2, _ => exact ⟨_, _, rfl, rfl, .inl h3⟩
  | 3, _ => exact ⟨_, _, rfl, rfl, .inl h4⟩
  | 4, _ => exact ⟨_, _, rfl, rfl, .inr ⟨_, _, h5⟩⟩
  | 5, _ => exact ⟨_, _, rfl, rfl, .inr ⟨_, _, h6⟩⟩
  | 6, _ => exact ⟨_, _, rfl, rfl, .inr ⟨_, _, h7⟩⟩
  | 7, _ => exact ⟨_, _, rfl, rfl, .inr ⟨_, _, h8⟩⟩
  | 8, _ => exact ⟨_, _, rfl, rfl, .inr ⟨_, _, h9⟩⟩
  | 9, _ => exact ⟨_, _, rfl, rfl, .inr ⟨_, _, h10⟩⟩
  | 10, _ => exact ⟨_, _, rfl, rfl, .inr ⟨_, _, h11⟩⟩
  | k + 11, h => exact absurd h (by omega)
end
section
variable {P : Program} {w : World} {K : PySem.W.Frag} {mg : Str → Option Value} {base : Heap} {c1 c2 c3 c4 c5 c6 c7 c8 c9 c10 c11 f5 f6 f7 f8 f9 f10 f11 : Addr} {fd5 fd6 fd7 fd8 fd9 fd10 fd11 : FuncData}
def spErrors (K : PySem.W.Frag) (c1 c2 c3 c4 c5 c6 c7 c8 c9 c10 c11 : Addr) : Sp := fun vs H Q _ => ∃ (z : Str) (v : V) (b : Bool), vs = [.str z, v, .bl b] ∧ ∀ (l : Addr) (as : List V) (H' : Hp), H' l = some (.lst as) → ErrsAt H' c1 c2 c3 c4 c5 c6 c7 c8 c9 c10 c11 v as → H l = none → Same H H' → Q (.ref l) H'
abbrev s_errors : Stmt := top 19
theorem sc_errors : FnScope ["word", "thing", "by_name", "plain"] ["word", "thing", "by_name"] (defScope s_errors) := ⟨rfl, rfl, rfl, by decide +kernel, rfl, by decide +kernel, by decide +kernel⟩
theorem ok_errors {f : Addr} {fd : FuncData} (F : Fun K "_law_errors" "_law_errors" s_errors f fd) (E1 : PlCl K mg "NoPrices" c1) (E2 : PlCl K mg "NoDoors" c2) (E3 : PlCl K mg "NotRight" c3) (E4 : PlCl K mg "NothingToUndo" c4) (E5 : ErrCl P w K mg base "NoRule" "door" c5 f5 fd5) (E6 : ErrCl P w K mg base "NoDoor" "door" c6 f6 fd6) (E7 : ErrCl P w K mg base "NoDeed" "index" c7 f7 fd7) (E8 : ErrCl P w K mg base "NoItem" "index" c8 f8 fd8) (E9 : ErrCl P w K mg base "NoLine" "index" c9 f9 fd9) (E10 : ErrCl P w K mg base "Missing" "item" c10 f10 fd10) (E11 : ErrCl P w K mg base "NoText" "line" c11 f11 fd11) : FnOk P w K mg base CX0 3 f fd ["word", "thing", "by_name"] (spErrors K c1 c2 c3 c4 c5 c6 c7 c8 c9 c10 c11) := by
  refine F.ok sc_errors (fun vs H Q E h => ?_) (fun cdv A outer s H vs Q E hr h => ?_)
  · obtain ⟨z, v, b, rfl, _⟩ := h
    rfl
  · obtain ⟨z, v, b, rfl, q⟩ := h
    refine ⟨_, (pss_cons (ps_set (i := 3) sc_errors.nd rfl (Or.inl rfl) (pe_lst (pa_cons (pe_exc1 PySem.F.excBase_ValueError E1.q E1.g E1.kC (by rfl) (pv 0)) (pa_cons (pe_exc1 PySem.F.excBase_ValueError E2.q E2.g E2.kC (by rfl) (pv 0)) (pa_cons (pe_exc1 PySem.F.excBase_ValueError E3.q E3.g E3.kC (by rfl) (pv 0)) (pa_cons (pe_exc1 PySem.F.excBase_ValueError E4.q E4.g E4.kC (by rfl) (pv 0)) pa_nil))))))
  (pss_cons (ps_if (pt_truth (pv 2) (by intro _; rfl)) (pss_cons (ps_set (i := 3) sc_errors.nd rfl (Or.inl rfl) (pe_op op_cat (pv 3) (pe_lst (pa_cons (pe_newEK E5.T.oex E5.T.iC E5.T.tI E5.G hr E5.kb pick2 rfl pass0 (by rfl) E5.T.g (pk_cons (pv 1) pk_nil)) (pa_cons (pe_newEK E6.T.oex E6.T.iC E6.T.tI E6.G hr E6.kb pick2 rfl pass0 (by rfl) E6.T.g (pk_cons (pv 1) pk_nil)) (pa_cons (pe_newEK E7.T.oex E7.T.iC E7.T.tI E7.G hr E7.kb pick2 rfl pass0 (by rfl) E7.T.g (pk_cons (pv 1) pk_nil)) (pa_cons (pe_newEK E8.T.oex E8.T.iC E8.T.tI E8.G hr E8.kb pick2 rfl pass0 (by rfl) E8.T.g (pk_cons (pv 1) pk_nil)) pa_nil)))))))
  (pss_one (ps_ret (pe_op op_cat (pv 3) (pe_lst (pa_cons (pe_newEK E9.T.oex E9.T.iC E9.T.tI E9.G hr E9.kb pick2 rfl pass0 (by rfl) E9.T.g (pk_cons (pv 1) pk_nil)) (pa_cons (pe_newEK E10.T.oex E10.T.iC E10.T.tI E10.G hr E10.kb pick2 rfl pass0 (by rfl) E10.T.g (pk_cons (pv 1) pk_nil)) (pa_cons (pe_newEK E11.T.oex E11.T.iC E11.T.tI E11.G hr E11.kb pick2 rfl pass0 (by rfl) E11.T.g (pk_cons (pv 1) pk_nil)) pa_nil)))))))) pss_nil)
  (pss_cons (ps_set (i := 3) sc_errors.nd rfl (Or.inl rfl) (pe_op op_cat (pv 3) (pe_lst (pa_cons (pe_newE E5.T.oex E5.T.iC E5.T.tI E5.G hr E5.b rfl pass0 (by rfl) E5.T.g (pv 1)) (pa_cons (pe_newE E6.T.oex E6.T.iC E6.T.tI E6.G hr E6.b rfl pass0 (by rfl) E6.T.g (pv 1)) (pa_cons (pe_newE E7.T.oex E7.T.iC E7.T.tI E7.G hr E7.b rfl pass0 (by rfl) E7.T.g (pv 1)) (pa_cons (pe_newE E8.T.oex E8.T.iC E8.T.tI E8.G hr E8.b rfl pass0 (by rfl) E8.T.g (pv 1)) (pa_cons (pe_newE E9.T.oex E9.T.iC E9.T.tI E9.G hr E9.b rfl pass0 (by rfl) E9.T.g (pv 1)) pa_nil))))))))
  (pss_one (ps_ret (pe_op op_cat (pv 3) (pe_lst (pa_cons (pe_newE E10.T.oex E10.T.iC E10.T.tI E10.G hr E10.b rfl pass0 (by rfl) E10.T.g (pv 1)) (pa_cons (pe_newE E11.T.oex E11.T.iC E11.T.tI E11.G hr E11.b rfl pass0 (by rfl) E11.T.g (pv 1)) pa_nil))))))))), ?_⟩
    refine ⟨_, rfl, fun a1 x1 => ?_⟩
    obtain ⟨e1, s1⟩ := bare_new (C := c1) x1
    generalize upd H a1 (ExO (.ref c1) a1) = G1 at e1 s1 ⊢
    refine ⟨_, rfl, fun a2 x2 => ?_⟩
    obtain ⟨e2, s2⟩ := bare_new (C := c2) x2
    generalize upd G1 a2 (ExO (.ref c2) a2) = G2 at e2 s2 ⊢
    refine ⟨_, rfl, fun a3 x3 => ?_⟩
    obtain ⟨e3, s3⟩ := bare_new (C := c3) x3
    generalize upd G2 a3 (ExO (.ref c3) a3) = G3 at e3 s3 ⊢
    refine ⟨_, rfl, fun a4 x4 => ?_⟩
    obtain ⟨e4, s4⟩ := bare_new (C := c4) x4
    generalize upd G3 a4 (ExO (.ref c4) a4) = G4 at e4 s4 ⊢
    refine ⟨(by show 4 ≤ sizeLine; decide), fun l5 x5 => ?_⟩
    have s5 := same_new (o := .lst [.ref a1, .ref a2, .ref a3, .ref a4]) x5
    have u5 : upd G4 l5 (.lst [.ref a1, .ref a2, .ref a3, .ref a4]) l5 = some (.lst [.ref a1, .ref a2, .ref a3, .ref a4]) := upd_same
    generalize upd G4 l5 (.lst [.ref a1, .ref a2, .ref a3, .ref a4]) = G5 at s5 u5 ⊢
    refine ⟨_, rfl, b, rfl, ite2 (fun h1 => ?_) (fun h1 => ?_)⟩
    · refine ⟨_, rfl, ?_⟩
      refine ⟨_, rfl, rfl, fun a5 x6 => ⟨a5, v, rfl, upd_same, fun d5 y6 w6 => ⟨rfl, ?_⟩⟩⟩
      obtain ⟨e5, s6⟩ := fld_new (f := "door") (v := v) x6 y6 w6
      generalize upd (upd (upd G5 a5 (exo a5 c5 none)) d5 (exd d5 [("door", v)])) a5 (exo a5 c5 (some d5)) = G6 at e5 s6 ⊢
      refine ⟨_, rfl, rfl, fun a6 x7 => ⟨a6, v, rfl, upd_same, fun d6 y7 w7 => ⟨rfl, ?_⟩⟩⟩
      obtain ⟨e6, s7⟩ := fld_new (f := "door") (v := v) x7 y7 w7
      generalize upd (upd (upd G6 a6 (exo a6 c6 none)) d6 (exd d6 [("door", v)])) a6 (exo a6 c6 (some d6)) = G7 at e6 s7 ⊢
      refine ⟨_, rfl, rfl, fun a7 x8 => ⟨a7, v, rfl, upd_same, fun d7 y8 w8 => ⟨rfl, ?_⟩⟩⟩
      obtain ⟨e7, s8⟩ := fld_new (f := "index") (v := v) x8 y8 w8
      generalize upd (upd (upd G7 a7 (exo a7 c7 none)) d7 (exd d7 [("index", v)])) a7 (exo a7 c7 (some d7)) = G8 at e7 s8 ⊢
      refine ⟨_, rfl, rfl, fun a8 x9 => ⟨a8, v, rfl, upd_same, fun d8 y9 w9 => ⟨rfl, ?_⟩⟩⟩
      obtain ⟨e8, s9⟩ := fld_new (f := "index") (v := v) x9 y9 w9
      generalize upd (upd (upd G8 a8 (exo a8 c8 none)) d8 (exd d8 [("index", v)])) a8 (exo a8 c8 (some d8)) = G9 at e8 s9 ⊢
      refine ⟨(by show 4 ≤ sizeLine; decide), fun l10 x10 => ?_⟩
      have s10 := same_new (o := .lst [.ref a5, .ref a6, .ref a7, .ref a8]) x10
      have u10 : upd G9 l10 (.lst [.ref a5, .ref a6, .ref a7, .ref a8]) l10 = some (.lst [.ref a5, .ref a6, .ref a7, .ref a8]) := upd_same
      generalize upd G9 l10 (.lst [.ref a5, .ref a6, .ref a7, .ref a8]) = G10 at s10 u10 ⊢
      refine ⟨l5, l10, _, _, rfl, rfl, (s10 _ _ (s9 _ _ (s8 _ _ (s7 _ _ (s6 _ _ u5))))), u10, (by show 4 + 4 ≤ sizeLine; decide), fun l11 x11 => ?_⟩
      have s11 := same_new (o := .lst ([.ref a1, .ref a2, .ref a3, .ref a4] ++ [.ref a5, .ref a6, .ref a7, .ref a8])) x11
      have u11 : upd G10 l11 (.lst ([.ref a1, .ref a2, .ref a3, .ref a4] ++ [.ref a5, .ref a6, .ref a7, .ref a8])) l11 = some (.lst [.ref a1, .ref a2, .ref a3, .ref a4, .ref a5, .ref a6, .ref a7, .ref a8]) := upd_same
      generalize upd G10 l11 (.lst ([.ref a1, .ref a2, .ref a3, .ref a4] ++ [.ref a5, .ref a6, .ref a7, .ref a8])) = G11 at s11 u11 ⊢
      refine ⟨_, rfl, ?_⟩
      refine ⟨_, rfl, rfl, fun a9 x12 => ⟨a9, v, rfl, upd_same, fun d9 y12 w12 => ⟨rfl, ?_⟩⟩⟩
      obtain ⟨e9, s12⟩ := fld_new (f := "index") (v := v) x12 y12 w12
      generalize upd (upd (upd G11 a9 (exo a9 c9 none)) d9 (exd d9 [("index", v)])) a9 (exo a9 c9 (some d9)) = G12 at e9 s12 ⊢
      refine ⟨_, rfl, rfl, fun a10 x13 => ⟨a10, v, rfl, upd_same, fun d10 y13 w13 => ⟨rfl, ?_⟩⟩⟩
      obtain ⟨e10, s13⟩ := fld_new (f := "item") (v := v) x13 y13 w13
      generalize upd (upd (upd G12 a10 (exo a10 c10 none)) d10 (exd d10 [("item", v)])) a10 (exo a10 c10 (some d10)) = G13 at e10 s13 ⊢
      refine ⟨_, rfl, rfl, fun a11 x14 => ⟨a11, v, rfl, upd_same, fun d11 y14 w14 => ⟨rfl, ?_⟩⟩⟩
      obtain ⟨e11, s14⟩ := fld_new (f := "line") (v := v) x14 y14 w14
      generalize upd (upd (upd G13 a11 (exo a11 c11 none)) d11 (exd d11 [("line", v)])) a11 (exo a11 c11 (some d11)) = G14 at e11 s14 ⊢
      refine ⟨(by show 3 ≤ sizeLine; decide), fun l15 x15 => ?_⟩
      have s15 := same_new (o := .lst [.ref a9, .ref a10, .ref a11]) x15
      have u15 : upd G14 l15 (.lst [.ref a9, .ref a10, .ref a11]) l15 = some (.lst [.ref a9, .ref a10, .ref a11]) := upd_same
      generalize upd G14 l15 (.lst [.ref a9, .ref a10, .ref a11]) = G15 at s15 u15 ⊢
      refine ⟨l11, l15, _, _, rfl, rfl, (s15 _ _ (s14 _ _ (s13 _ _ (s12 _ _ u11)))), u15, (by show 8 + 3 ≤ sizeLine; decide), fun l16 x16 => ?_⟩
      have s16 := same_new (o := .lst ([.ref a1, .ref a2, .ref a3, .ref a4, .ref a5, .ref a6, .ref a7, .ref a8] ++ [.ref a9, .ref a10, .ref a11])) x16
      have u16 : upd G15 l16 (.lst ([.ref a1, .ref a2, .ref a3, .ref a4, .ref a5, .ref a6, .ref a7, .ref a8] ++ [.ref a9, .ref a10, .ref a11])) l16 = some (.lst [.ref a1, .ref a2, .ref a3, .ref a4, .ref a5, .ref a6, .ref a7, .ref a8, .ref a9, .ref a10, .ref a11]) := upd_same
      generalize upd G15 l16 (.lst ([.ref a1, .ref a2, .ref a3, .ref a4, .ref a5, .ref a6, .ref a7, .ref a8] ++ [.ref a9, .ref a10, .ref a11])) = G16 at s16 u16 ⊢
      have z16 : Same G16 G16 := fun _ _ e => e
      have z15 := s16.trans z16
      have z14 := s15.trans z15
      have z13 := s14.trans z14
      have z12 := s13.trans z13
      have z11 := s12.trans z12
      have z10 := s11.trans z11
      have z9 := s10.trans z10
      have z8 := s9.trans z9
      have z7 := s8.trans z8
      have z6 := s7.trans z7
      have z5 := s6.trans z6
      have z4 := s5.trans z5
      have z3 := s4.trans z4
      have z2 := s3.trans z3
      have z1 := s2.trans z2
      have z0 := s1.trans z1
      have y0 : Same H H := fun _ _ e => e
      have y1 := y0.trans s1
      have y2 := y1.trans s2
      have y3 := y2.trans s3
      have y4 := y3.trans s4
      have y5 := y4.trans s5
      have y6 := y5.trans s6
      have y7 := y6.trans s7
      have y8 := y7.trans s8
      have y9 := y8.trans s9
      have y10 := y9.trans s10
      have y11 := y10.trans s11
      have y12 := y11.trans s12
      have y13 := y12.trans s13
      have y14 := y13.trans s14
      have y15 := y14.trans s15
      exact q l16 _ G16 u16 ⟨a1, a2, a3, a4, a5, a6, a7, a8, a9, a10, a11, rfl, e1.same z1, e2.same z2, e3.same z3, e4.same z4, e5.same z6, e6.same z7, e7.same z8, e8.same z9, e9.same z12, e10.same z13, e11.same z14⟩ (Same.free y15 x16) z0
    · refine ⟨_, rfl, ?_⟩
      refine ⟨_, rfl, rfl, fun a5 x6 => ⟨a5, v, rfl, upd_same, fun d5 y6 w6 => ⟨rfl, ?_⟩⟩⟩
      obtain ⟨e5, s6⟩ := fld_new (f := "door") (v := v) x6 y6 w6
      generalize upd (upd (upd G5 a5 (exo a5 c5 none)) d5 (exd d5 [("door", v)])) a5 (exo a5 c5 (some d5)) = G6 at e5 s6 ⊢
      refine ⟨_, rfl, rfl, fun a6 x7 => ⟨a6, v, rfl, upd_same, fun d6 y7 w7 => ⟨rfl, ?_⟩⟩⟩
      obtain ⟨e6, s7⟩ := fld_new (f := "door") (v := v) x7 y7 w7
      generalize upd (upd (upd G6 a6 (exo a6 c6 none)) d6 (exd d6 [("door", v)])) a6 (exo a6 c6 (some d6)) = G7 at e6 s7 ⊢
      refine ⟨_, rfl, rfl, fun a7 x8 => ⟨a7, v, rfl, upd_same, fun d7 y8 w8 => ⟨rfl, ?_⟩⟩⟩
      obtain ⟨e7, s8⟩ := fld_new (f := "index") (v := v) x8 y8 w8
      generalize upd (upd (upd G7 a7 (exo a7 c7 none)) d7 (exd d7 [("index", v)])) a7 (exo a7 c7 (some d7)) = G8 at e7 s8 ⊢
      refine ⟨_, rfl, rfl, fun a8 x9 => ⟨a8, v, rfl, upd_same, fun d8 y9 w9 => ⟨rfl, ?_⟩⟩⟩
      obtain ⟨e8, s9⟩ := fld_new (f := "index") (v := v) x9 y9 w9
      generalize upd (upd (upd G8 a8 (exo a8 c8 none)) d8 (exd d8 [("index", v)])) a8 (exo a8 c8 (some d8)) = G9 at e8 s9 ⊢
      refine ⟨_, rfl, rfl, fun a9 x10 => ⟨a9, v, rfl, upd_same, fun d9 y10 w10 => ⟨rfl, ?_⟩⟩⟩
      obtain ⟨e9, s10⟩ := fld_new (f := "index") (v := v) x10 y10 w10
      generalize upd (upd (upd G9 a9 (exo a9 c9 none)) d9 (exd d9 [("index", v)])) a9 (exo a9 c9 (some d9)) = G10 at e9 s10 ⊢
      refine ⟨(by show 5 ≤ sizeLine; decide), fun l11 x11 => ?_⟩
      have s11 := same_new (o := .lst [.ref a5, .ref a6, .ref a7, .ref a8, .ref a9]) x11
      have u11 : upd G10 l11 (.lst [.ref a5, .ref a6, .ref a7, .ref a8, .ref a9]) l11 = some (.lst [.ref a5, .ref a6, .ref a7, .ref a8, .ref a9]) := upd_same
      generalize upd G10 l11 (.lst [.ref a5, .ref a6, .ref a7, .ref a8, .ref a9]) = G11 at s11 u11 ⊢
      refine ⟨l5, l11, _, _, rfl, rfl, (s11 _ _ (s10 _ _ (s9 _ _ (s8 _ _ (s7 _ _ (s6 _ _ u5)))))), u11, (by show 4 + 5 ≤ sizeLine; decide), fun l12 x12 => ?_⟩
      have s12 := same_new (o := .lst ([.ref a1, .ref a2, .ref a3, .ref a4] ++ [.ref a5, .ref a6, .ref a7, .ref a8, .ref a9])) x12
      have u12 : upd G11 l12 (.lst ([.ref a1, .ref a2, .ref a3, .ref a4] ++ [.ref a5, .ref a6, .ref a7, .ref a8, .ref a9])) l12 = some (.lst [.ref a1, .ref a2, .ref a3, .ref a4, .ref a5, .ref a6, .ref a7, .ref a8, .ref a9]) := upd_same
      generalize upd G11 l12 (.lst ([.ref a1, .ref a2, .ref a3, .ref a4] ++ [.ref a5, .ref a6, .ref a7, .ref a8, .ref a9])) = G12 at s12 u12 ⊢
      refine ⟨_, rfl, ?_⟩
      refine ⟨_, rfl, rfl, fun a10 x13 => ⟨a10, v, rfl, upd_same, fun d10 y13 w13 => ⟨rfl, ?_⟩⟩⟩
      obtain ⟨e10, s13⟩ := fld_new (f := "item") (v := v) x13 y13 w13
      generalize upd (upd (upd G12 a10 (exo a10 c10 none)) d10 (exd d10 [("item", v)])) a10 (exo a10 c10 (some d10)) = G13 at e10 s13 ⊢
      refine ⟨_, rfl, rfl, fun a11 x14 => ⟨a11, v, rfl, upd_same, fun d11 y14 w14 => ⟨rfl, ?_⟩⟩⟩
      obtain ⟨e11, s14⟩ := fld_new (f := "line") (v := v) x14 y14 w14
      generalize upd (upd (upd G13 a11 (exo a11 c11 none)) d11 (exd d11 [("line", v)])) a11 (exo a11 c11 (some d11)) = G14 at e11 s14 ⊢
      refine ⟨(by show 2 ≤ sizeLine; decide), fun l15 x15 => ?_⟩
      have s15 := same_new (o := .lst [.ref a10, .ref a11]) x15
      have u15 : upd G14 l15 (.lst [.ref a10, .ref a11]) l15 = some (.lst [.ref a10, .ref a11]) := upd_same
      generalize upd G14 l15 (.lst [.ref a10, .ref a11]) = G15 at s15 u15 ⊢
      refine ⟨l12, l15, _, _, rfl, rfl, (s15 _ _ (s14 _ _ (s13 _ _ u12))), u15, (by show 9 + 2 ≤ sizeLine; decide), fun l16 x16 => ?_⟩
      have s16 := same_new (o := .lst ([.ref a1, .ref a2, .ref a3, .ref a4, .ref a5, .ref a6, .ref a7, .ref a8, .ref a9] ++ [.ref a10, .ref a11])) x16
      have u16 : upd G15 l16 (.lst ([.ref a1, .ref a2, .ref a3, .ref a4, .ref a5, .ref a6, .ref a7, .ref a8, .ref a9] ++ [.ref a10, .ref a11])) l16 = some (.lst [.ref a1, .ref a2, .ref a3, .ref a4, .ref a5, .ref a6, .ref a7, .ref a8, .ref a9, .ref a10, .ref a11]) := upd_same
      generalize upd G15 l16 (.lst ([.ref a1, .ref a2, .ref a3, .ref a4, .ref a5, .ref a6, .ref a7, .ref a8, .ref a9] ++ [.ref a10, .ref a11])) = G16 at s16 u16 ⊢
      have z16 : Same G16 G16 := fun _ _ e => e
      have z15 := s16.trans z16
      have z14 := s15.trans z15
      have z13 := s14.trans z14
      have z12 := s13.trans z13
      have z11 := s12.trans z12
      have z10 := s11.trans z11
      have z9 := s10.trans z10
      have z8 := s9.trans z9
      have z7 := s8.trans z8
      have z6 := s7.trans z7
      have z5 := s6.trans z6
      have z4 := s5.trans z5
      have z3 := s4.trans z4
      have z2 := s3.trans z3
      have z1 := s2.trans z2
      have z0 := s1.trans z1
      have y0 : Same H H := fun _ _ e => e
      have y1 := y0.trans s1
      have y2 := y1.trans s2
      have y3 := y2.trans s3
      have y4 := y3.trans s4
      have y5 := y4.trans s5
      have y6 := y5.trans s6
      have y7 := y6.trans s7
      have y8 := y7.trans s8
      have y9 := y8.trans s9
      have y10 := y9.trans s10
      have y11 := y10.trans s11
      have y12 := y11.trans s12
      have y13 := y12.trans s13
      have y14 := y13.trans s14
      have y15 := y14.trans s15
      exact q l16 _ G16 u16 ⟨a1, a2, a3, a4, a5, a6, a7, a8, a9, a10, a11, rfl, e1.same z1, e2.same z2, e3.same z3, e4.same z4, e5.same z6, e6.same z7, e7.same z8, e8.same z9, e9.same z10, e10.same z13, e11.same z14⟩ (Same.free y15 x16) z0
end
end Sh

namespace Sh
open PySem L2
/-! ### lists of truths -/
theorem same_upd {j : Addr} {H H1 : Hp} {o : HO} (s : Same H H1) (hj : H j = none) : Same H (upd H1 j o) := fun b u e => by
  rw [upd_ne (ne_of_none e hj)]
  exact s b u e
theorem cls_bools {Cs : List Addr} (nd : Cs.Nodup) {i : Nat} {D : Addr} (h : Cs[i]? = some D) : Cs.map (fun C => decide (D = C)) = (List.range Cs.length).map (fun k => decide (k = i)) := by
  obtain ⟨lt, rfl⟩ := List.getElem?_eq_some_iff.mp h
  refine List.ext_getElem (by simp) fun k h1 h2 => ?_
  have hk : k < Cs.length := by simpa using h1
  rw [List.getElem_map, List.getElem_map, List.getElem_range, Bool.eq_iff_iff, decide_eq_true_iff, decide_eq_true_iff]
  constructor
  · intro e
    rcases Nat.lt_trichotomy i k with l | l | l
    · exact absurd e (List.pairwise_iff_getElem.mp nd i k lt hk l)
    · exact l.symm
    · exact absurd e.symm (List.pairwise_iff_getElem.mp nd k i hk lt l)
  · intro e
    subst e
    rfl
section
variable {K : PySem.W.Frag} {H : Hp}
theorem dp_bls : ∀ r : List Bool, DpAll K H (r.map V.bl) (r.map PyData.bool)
  | [] => .nil
  | x :: r => .cons (.bl x) (dp_bls r)
theorem plain_bls : ∀ r : List Bool, PyData.plainAll (r.map PyData.bool) = true
  | [] => rfl
  | x :: r => by
    rw [List.map_cons]
    show (PyData.plain (.bool x) && PyData.plainAll (r.map PyData.bool)) = true
    rw [plain_bls r]
    rfl
theorem depth_bls : ∀ r : List Bool, PyData.depthAll (r.map PyData.bool) = 0
  | [] => rfl
  | x :: r => by
    rw [List.map_cons]
    show max (PyData.depth (.bool x)) (PyData.depthAll (r.map PyData.bool)) = 0
    rw [depth_bls r]
    rfl
theorem eqv_bls : ∀ r : List Bool, PyData.eqvAll (r.map PyData.bool) (r.map PyData.bool) = true
  | [] => by simp [PyData.eqvAll]
  | x :: r => by
    rw [List.map_cons]
    simp only [PyData.eqvAll, eqv_bls r, Bool.and_true]
    simp [PyData.eqv]
/-- two lists of the same truths are equal -/
theorem bls_data {a b : Addr} {xs ys : List V} (r : List Bool) (ha : H a = some (.lst xs)) (hb : H b = some (.lst ys)) (ex : xs = r.map V.bl) (ey : ys = r.map V.bl) :
    ∃ d e, Dp K H (.ref a) d ∧ Dp K H (.ref b) e ∧ d.plain = true ∧ e.plain = true ∧ d.depth ≤ 64 ∧ PyData.eqv d e = true := by
  subst ex ey
  refine ⟨.list (r.map PyData.bool), .list (r.map PyData.bool), .lst (SqL.of ha) (dp_bls r), .lst (SqL.of hb) (dp_bls r), plain_bls r, plain_bls r, ?_, ?_⟩
  · show PyData.depthAll (r.map PyData.bool) + 1 ≤ 64
    rw [depth_bls]
    decide
  · have e : PyData.eqv (.list (r.map PyData.bool)) (.list (r.map PyData.bool)) = PyData.eqvAll (r.map PyData.bool) (r.map PyData.bool) := by simp only [PyData.eqv]
    rw [e, eqv_bls]
end
theorem xf_of {K : PySem.W.Frag} {C : Addr} (x : ExcC K C) : XfC K C := ⟨x.hg, x.hk, x.hs, x.hd⟩
section
variable {P : Program} {w : World} {K : PySem.W.Frag} {mg : Str → Option Value} {base : Heap} {S c1 c2 c3 c4 c5 c6 c7 c8 c9 c10 c11 f5 f6 f7 f8 f9 f10 f11 : Addr} {fd5 fd6 fd7 fd8 fd9 fd10 fd11 : FuncData}
def spHolds (K : PySem.W.Frag) (c1 c2 c3 c4 c5 c6 c7 c8 c9 c10 c11 : Addr) : Sp := fun vs H Q _ => ∃ (l : Addr) (v : V) (as : List V), vs = [.ref l, v] ∧ H l = some (.lst as) ∧ ErrsAt H c1 c2 c3 c4 c5 c6 c7 c8 c9 c10 c11 v as ∧ ThAt K H v ∧ ∀ H', Same H H' → Q (.bl true) H'
abbrev s_holds : Stmt := top 20
abbrev nHolds : List Str := ["errors", "thing", "at", "k", "fields", "field"]
theorem sc_holds : FnScope nHolds ["errors", "thing"] (defScope s_holds) := ⟨rfl, rfl, rfl, by decide +kernel, rfl, by decide +kernel, by decide +kernel⟩
theorem ok_holds {f fC fS : Addr} {fd fdC fdS : FuncData} (F : Fun K "_law_holds" "_law_holds" s_holds f fd) (T : TxtB mg) (hk : kinB K S [c1, c2, c3, c4, c5, c6, c7, c8, c9, c10, c11] = true) (hnd : [c1, c2, c3, c4, c5, c6, c7, c8, c9, c10, c11].Nodup)
    (gC : mg "_law_classes" = some (.ref fC)) (kC : PySem.W.keepIn K (.ref fC) = true) (bC : Binds K fdC ["error"] []) (GC : FnOk P w K mg base CX0 1 fC fdC ["error"] (spClasses K S [c1, c2, c3, c4, c5, c6, c7, c8, c9, c10, c11]))
    (gS : mg "_law_same" = some (.ref fS)) (kS : PySem.W.keepIn K (.ref fS) = true) (bS : Binds K fdS ["found", "due"] []) (GS : FnOk P w K mg base CX0 1 fS fdS ["found", "due"] (spSame K)) (n5 : PySem.W.findIn K (.ref c5) "door" = some none) (n6 : PySem.W.findIn K (.ref c6) "door" = some none) (n7 : PySem.W.findIn K (.ref c7) "index" = some none) (n8 : PySem.W.findIn K (.ref c8) "index" = some none) (n9 : PySem.W.findIn K (.ref c9) "index" = some none) (n10 : PySem.W.findIn K (.ref c10) "item" = some none) (n11 : PySem.W.findIn K (.ref c11) "line" = some none) : FnOk P w K mg base CX0 2 f fd ["errors", "thing"] (spHolds K c1 c2 c3 c4 c5 c6 c7 c8 c9 c10 c11) := by
  refine F.ok sc_holds (fun vs H Q E h => ?_) (fun cdv A outer s H vs Q E hr h => ?_)
  · obtain ⟨l, v, as, rfl, _⟩ := h
    rfl
  · obtain ⟨l, v, as, rfl, hl, hE, hv, q⟩ := h
    refine ⟨_, (pss_cons (ps_for PassesOwn.never rfl (pi_range1 (by rfl) T.b_range (pa_cons pe_int pa_nil)) (pg_name (i := 2) sc_holds.nd rfl (Or.inr rfl)) (pss_one (ps_if (pt_cmpR (op_neP hr.units) (pe_call GC hr (by rfl) gC kC bC .nil pass0 (pa_cons (pe_ix (r := rIxL K) ix_list (pv 0) (pv 2) (fun _ _ => rfl)) pa_nil)) (pe_op op_cat (pe_lst (pa_cons pe_bl (pa_cons pe_bl pa_nil))) (pe_lc (own := [("k", 3)]) (g := (gName 3)) (by rfl) sc_holds.nd (pi_range1 (by rfl) T.b_range (pa_cons pe_int pa_nil)) (blkOk_by (own := [("k", 3)]) (N := nHolds) (sc := defScope s_holds) (by decide +kernel)) (fun _ _ _ _ _ => (pg_name (i := 3) sc_holds.nd rfl (Or.inl rfl))) (fun _ _ _ _ _ => pts_nil) (fun _ _ _ _ _ => (pe_cmpR op_eq (pv 3) (pv 2) (nomark _))))) (nomark _)) (pss_one (ps_ret pe_bl)) pss_nil)))
  (pss_cons (ps_set (i := 4) sc_holds.nd rfl (Or.inl rfl) (pe_lst (pa_cons (pe_fld (n := "door") (pe_ix (r := rIxL K) ix_list (pv 0) pe_int (fun _ _ => rfl)) rfl) (pa_cons (pe_fld (n := "door") (pe_ix (r := rIxL K) ix_list (pv 0) pe_int (fun _ _ => rfl)) rfl) (pa_cons (pe_fld (n := "index") (pe_ix (r := rIxL K) ix_list (pv 0) pe_int (fun _ _ => rfl)) rfl) (pa_cons (pe_fld (n := "index") (pe_ix (r := rIxL K) ix_list (pv 0) pe_int (fun _ _ => rfl)) rfl) (pa_cons (pe_fld (n := "index") (pe_ix (r := rIxL K) ix_list (pv 0) pe_int (fun _ _ => rfl)) rfl) pa_nil)))))))
  (pss_cons (ps_set (i := 4) sc_holds.nd rfl (Or.inl rfl) (pe_op op_cat (pv 4) (pe_lst (pa_cons (pe_fld (n := "item") (pe_ix (r := rIxL K) ix_list (pv 0) pe_int (fun _ _ => rfl)) rfl) (pa_cons (pe_fld (n := "line") (pe_ix (r := rIxL K) ix_list (pv 0) pe_int (fun _ _ => rfl)) rfl) pa_nil)))))
  (pss_one (ps_ret (pe_cmpR (op_eqP hr.units) (pe_lc (own := [("field", 5)]) (g := (gName 5)) (by rfl) sc_holds.nd (pi_list (pv 4)) (blkOk_by (own := [("field", 5)]) (N := nHolds) (sc := defScope s_holds) (by decide +kernel)) (fun _ _ _ _ _ => (pg_name (i := 5) sc_holds.nd rfl (Or.inl rfl))) (fun _ _ _ _ _ => (pts_one (pt_not (pt_val (pe_call GS hr (by rfl) gS kS bS .nil pass0 (pa_cons (pv 5) (pa_cons (pv 1) pa_nil))))))) (fun _ _ _ _ _ => (pv 5))) (pe_lst pa_nil) (nomark _))))))), ?_⟩
    refine ⟨11, rfl, by decide, by decide, for_range (lo := 0) (n := 11) (fun i σ H' => ∃ v2 v3 v4 v5, σ = [some (.ref l), some v, v2, v3, v4, v5] ∧ Same H H') ?_ ?_ ?_⟩
    · exact ⟨_, _, _, _, rfl, fun _ _ e => e⟩
    · rintro i σ H1 hi ⟨v2, v3, v4, v5, rfl, s1⟩
      obtain ⟨a, D, ha, hD, he⟩ := (hE.kt s1.kt).get hi
      refine ⟨_, rfl, _, rfl, l, as, _, _, rfl, rfl, SqL.of (s1 _ _ hl), at_of (j := i) (by omega) ha, ?_⟩
      refine ⟨a, D, rfl, he, List.mem_cons_of_mem _ (List.mem_of_getElem? hD), fun m H2 hm nm s2 => ?_⟩
      refine ⟨(by show 2 ≤ sizeLine; decide), fun p hp => ?_⟩
      have s3 := same_new (o := .lst [.bl true, .bl true]) hp
      have hp3 : upd H2 p (.lst [.bl true, .bl true]) p = some (.lst [.bl true, .bl true]) := upd_same
      generalize upd H2 p (.lst [.bl true, .bl true]) = H3 at s3 hp3 ⊢
      refine ⟨11, rfl, by decide, by decide, fun B hB => ?_⟩
      refine lc_range (lo := 0) (n := 11) (fun k H' => H' B = some (.lst (((List.range k).map fun k => decide (k = i)).map V.bl)) ∧ Same H3 H') ?_ ?_ ?_
      · exact ⟨upd_same, same_new hB⟩
      · rintro k H4 hk4 ⟨hB4, s4⟩
        refine ⟨rfl, ?_⟩
        refine ⟨_, rfl, _, rfl, rfl, ?_⟩
        refine ⟨_, hB4, by rw [List.length_map, List.length_map, List.length_range]; exact small1000 (by omega), ?_, same_upd s4 hB⟩
        rw [upd_same, List.range_succ, List.map_append, List.map_append]
        have e : decide (V.int (0 + (k : Int)) = V.int (0 + (i : Int))) = decide (k = i) := by
          rw [Bool.eq_iff_iff, decide_eq_true_iff, decide_eq_true_iff]
          constructor
          · intro e
            have := V.int.inj e
            omega
          · intro e
            subst e
            rfl
        rw [e]
        rfl
      · rintro H4 ⟨hB4, s4⟩
        refine ⟨p, B, _, _, rfl, rfl, s4 _ _ hp3, hB4, by rw [List.length_map, List.length_map, List.length_range]; show 2 + 11 ≤ sizeLine; decide, fun r hr' => ?_⟩
        have s5 := same_new (o := .lst ([.bl true, .bl true] ++ ((List.range 11).map fun k => decide (k = i)).map V.bl)) hr'
        have s25 := (s3.trans s4).trans s5
        obtain ⟨d, e, dd, de, pd, pe, dep, ev⟩ := bls_data (K := K) (true :: true :: (List.range 11).map fun k => decide (k = i)) (s25 _ _ hm) (b := r) upd_same (by
          have := cls_bools hnd hD
          show .bl true :: .bl true :: [c1, c2, c3, c4, c5, c6, c7, c8, c9, c10, c11].map (fun C => V.bl (decide (D = C))) = _
          rw [← show List.map (fun k => decide (k = i)) (List.range [c1, c2, c3, c4, c5, c6, c7, c8, c9, c10, c11].length) = List.map (fun k => decide (k = i)) (List.range 11) from rfl, ← this]
          rfl) rfl
        refine ⟨d, e, dd, de, pd, pe, dep, ?_⟩
        rw [ev]
        refine ⟨_, rfl, ?_⟩
        refine ite2 (fun c => by cases c) (fun _ => ?_)
        exact ⟨_, _, _, _, rfl, (s1.trans s2).trans s25⟩
    · rintro σ H1 ⟨v2, v3, v4, v5, rfl, s1⟩
      have hl1 := s1 _ _ hl
      have hE1 := hE.kt s1.kt
      have hv1 := s1.kt.th hv
      obtain ⟨a1, a2, a3, a4, a5, a6, a7, a8, a9, a10, a11, rfl, h1, h2, h3, h4, h5, h6, h7, h8, h9, h10, h11⟩ := hE1
      refine ⟨_, rfl, l, _, 4, .ref a5, rfl, rfl, SqL.of hl1, rfl, ?_⟩
      refine ⟨a5, c5, v, rfl, xf_of (kinB_ok hk (by simp)).ex, n5, h5, ?_⟩
      refine ⟨_, rfl, l, _, 5, .ref a6, rfl, rfl, SqL.of hl1, rfl, ?_⟩
      refine ⟨a6, c6, v, rfl, xf_of (kinB_ok hk (by simp)).ex, n6, h6, ?_⟩
      refine ⟨_, rfl, l, _, 6, .ref a7, rfl, rfl, SqL.of hl1, rfl, ?_⟩
      refine ⟨a7, c7, v, rfl, xf_of (kinB_ok hk (by simp)).ex, n7, h7, ?_⟩
      refine ⟨_, rfl, l, _, 7, .ref a8, rfl, rfl, SqL.of hl1, rfl, ?_⟩
      refine ⟨a8, c8, v, rfl, xf_of (kinB_ok hk (by simp)).ex, n8, h8, ?_⟩
      refine ⟨_, rfl, l, _, 8, .ref a9, rfl, rfl, SqL.of hl1, rfl, ?_⟩
      refine ⟨a9, c9, v, rfl, xf_of (kinB_ok hk (by simp)).ex, n9, h9, ?_⟩
      refine ⟨(by show 5 ≤ sizeLine; decide), fun p hp => ?_⟩
      have s2 := same_new (o := .lst [v, v, v, v, v]) hp
      have hp2 : upd H1 p (.lst [v, v, v, v, v]) p = some (.lst [v, v, v, v, v]) := upd_same
      generalize upd H1 p (.lst [v, v, v, v, v]) = H2 at s2 hp2 ⊢
      refine ⟨_, rfl, ?_⟩
      refine ⟨_, rfl, l, _, 9, .ref a10, rfl, rfl, SqL.of (s2 _ _ hl1), rfl, ?_⟩
      refine ⟨a10, c10, v, rfl, xf_of (kinB_ok hk (by simp)).ex, n10, h10.same s2, ?_⟩
      refine ⟨_, rfl, l, _, 10, .ref a11, rfl, rfl, SqL.of (s2 _ _ hl1), rfl, ?_⟩
      refine ⟨a11, c11, v, rfl, xf_of (kinB_ok hk (by simp)).ex, n11, h11.same s2, ?_⟩
      refine ⟨(by show 2 ≤ sizeLine; decide), fun p2 hq2 => ?_⟩
      have s3 := same_new (o := .lst [v, v]) hq2
      refine ⟨p, p2, _, _, rfl, rfl, s3 _ _ hp2, upd_same, (by show 5 + 2 ≤ sizeLine; decide), fun p3 hp3 => ?_⟩
      have s4 := same_new (o := .lst ([v, v, v, v, v] ++ [v, v])) hp3
      have h4 : upd (upd H2 p2 (.lst [v, v])) p3 (.lst ([v, v, v, v, v] ++ [v, v])) p3 = some (.lst [v, v, v, v, v, v, v]) := upd_same
      generalize upd (upd H2 p2 (.lst [v, v])) p3 (.lst ([v, v, v, v, v] ++ [v, v])) = H4 at s4 h4 ⊢
      have s14 := (s2.trans s3).trans s4
      have hv4 := s14.kt.th hv1
      refine ⟨_, rfl, p3, rfl, ⟨_, SqL.of h4⟩, fun B hB => ?_⟩
      refine lc_list (K := K) (a := p3) (xs := [v, v, v, v, v, v, v]) (fun i H' => H' B = some (.lst []) ∧ Same H4 H') ?_ ?_ ?_ ?_
      · exact ⟨upd_same, same_new hB⟩
      · rintro i H5 _ ⟨_, s5⟩
        exact SqL.of (s5 _ _ h4)
      · rintro i y H5 hy ⟨hB5, s5⟩
        have ey : y = v := by
          have := List.mem_of_getElem? hy
          simpa using this
        subst ey
        refine ⟨rfl, ?_⟩
        refine ⟨_, rfl, _, rfl, y, rfl, s5.kt.th hv4, ?_⟩
        refine ⟨_, rfl, ?_⟩
        refine ite2 (fun c => by cases c) (fun _ => ?_)
        exact ⟨hB5, s5⟩
      · rintro H5 ⟨hB5, s5⟩
        refine ⟨(by show 0 ≤ sizeLine; decide), fun r hr' => ?_⟩
        have s6 := same_new (o := .lst []) hr'
        obtain ⟨d, e, dd, de, pd, pe, dep, ev⟩ := bls_data (K := K) [] (s6 _ _ hB5) (b := r) upd_same rfl rfl
        refine ⟨d, e, dd, de, pd, pe, dep, ?_⟩
        rw [ev]
        exact q _ (((s1.trans s14).trans s5).trans s6)
end
end Sh

namespace Sh
open PySem L2
theorem clsV_none {S : Addr} {Cs : List Addr} (h : S ∉ Cs) (hl : Cs.length = 11 := by rfl) : clsV S Cs = (true :: true :: List.replicate 11 false).map V.bl := by
  unfold clsV
  have : Cs.map (fun C => V.bl (decide (S = C))) = (List.replicate 11 false).map V.bl := by
    rw [← hl, ← List.map_const', List.map_map]
    refine List.map_congr_left fun C hC => ?_
    have : S ≠ C := fun e => h (e ▸ hC)
    show V.bl (decide (S = C)) = V.bl false
    rw [decide_eq_false this]
  rw [this]
  rfl
end Sh
namespace Sh
open PySem L2
section
variable {P : Program} {w : World} {K : PySem.W.Frag} {mg : Str → Option Value} {base : Heap} {S c1 c2 c3 c4 c5 c6 c7 c8 c9 c10 c11 : Addr}
def spLaw (K : PySem.W.Frag) : Sp := fun vs H Q _ => ∃ (a : Addr) (ns : List Int), vs = [.ref a] ∧ SqL K H a (ns.map V.int) ∧ ns.length ≤ 63 ∧ ∀ H', Q (.bl true) H'
theorem rng_le (c n : Nat) (hc : 1 ≤ c) : 0 ≤ (if (if (n : Int) < (c : Int) then (n : Int) else c) > 1 then (if (n : Int) < (c : Int) then (n : Int) else c) else 1) ∧ (if (if (n : Int) < (c : Int) then (n : Int) else c) > 1 then (if (n : Int) < (c : Int) then (n : Int) else c) else 1) ≤ (c : Int) := by
  split <;> split <;> omega
theorem same_kp {j : Addr} {H0 H H' : Hp} (s : Same H0 H) (hj : H0 j = none) (k : Kp j H H') : Same H0 H' := fun b u e => k b u (ne_of_none e hj) (s b u e)
/-- what was made at one turn -/
def HeldAt (K : PySem.W.Frag) (c1 c2 c3 c4 c5 c6 c7 c8 c9 c10 c11 : Addr) (h : Addr) (H : Hp) (x : V) : Prop := ∃ t l v as, x = .ref t ∧ l ≠ h ∧ H t = some (.tup [.ref l, v]) ∧ H l = some (.lst as) ∧ ErrsAt H c1 c2 c3 c4 c5 c6 c7 c8 c9 c10 c11 v as ∧ ThAt K H v
theorem HeldAt.same {h : Addr} {H H' : Hp} {x : V} (s : Same H H') (q : HeldAt K c1 c2 c3 c4 c5 c6 c7 c8 c9 c10 c11 h H x) : HeldAt K c1 c2 c3 c4 c5 c6 c7 c8 c9 c10 c11 h H' x := by
  obtain ⟨t, l, v, as, e, n, ht, hl, he, hv⟩ := q
  exact ⟨t, l, v, as, e, n, s _ _ ht, s _ _ hl, he.kt s.kt, s.kt.th hv⟩
theorem HeldAt.upd {h : Addr} {H : Hp} {x : V} {xs : List V} {o : HO} (hh : H h = some (.lst xs)) (q : HeldAt K c1 c2 c3 c4 c5 c6 c7 c8 c9 c10 c11 h H x) : HeldAt K c1 c2 c3 c4 c5 c6 c7 c8 c9 c10 c11 h (upd H h o) x := by
  obtain ⟨t, l, v, as, e, n, ht, hl, he, hv⟩ := q
  have k := kt_lst (o := o) hh
  exact ⟨t, l, v, as, e, n, k _ _ (fun _ z => by cases z) ht, by rw [upd_ne n]; exact hl, he.kt k, k.th hv⟩
structure LawSt (K : PySem.W.Frag) (c1 c2 c3 c4 c5 c6 c7 c8 c9 c10 c11 : Addr) (H0 H : Hp) (h : Addr) (n : Nat) : Prop where
  s : Same H0 H
  l : ∃ es, H h = some (.lst es) ∧ (∀ e ∈ es, HeldAt K c1 c2 c3 c4 c5 c6 c7 c8 c9 c10 c11 h H e) ∧ es.length ≤ n
abbrev nLaw : List Str := ["script", "held", "k", "jar", "word", "j", "thing", "errors", "due"]
abbrev s_law : Stmt := top 21
theorem sc_law : FnScope nLaw ["script"] (defScope s_law) := ⟨rfl, rfl, rfl, by decide +kernel, rfl, by decide +kernel, by decide +kernel⟩
theorem ok_law {f fJ fD fC fT fE fH : Addr} {fd fdJ fdD fdC fdT fdE fdH : FuncData} (F : Fun K "law" "law" s_law f fd) (B : TxtB mg) (bmin : mg "min" = none) (E0 : PlCl K mg "ShownError" S) (nS : S ∉ [c1, c2, c3, c4, c5, c6, c7, c8, c9, c10, c11]) (hk : kinB K S [c1, c2, c3, c4, c5, c6, c7, c8, c9, c10, c11] = true)
    (gJ : mg "_law_jar" = some (.ref fJ)) (kJ : PySem.W.keepIn K (.ref fJ) = true) (bJ : Binds K fdJ ["script", "k"] []) (GJ : FnOk P w K mg base CX0 1 fJ fdJ ["script", "k"] (spJar K))
    (gD : mg "_law_draw" = some (.ref fD)) (kD : PySem.W.keepIn K (.ref fD) = true) (bD : Binds K fdD ["jar", "many"] []) (GD : FnOk P w K mg base CX0 1 fD fdD ["jar", "many"] spDraw)
    (gC : mg "_law_classes" = some (.ref fC)) (kC : PySem.W.keepIn K (.ref fC) = true) (bC : Binds K fdC ["error"] []) (GC : FnOk P w K mg base CX0 1 fC fdC ["error"] (spClasses K S [c1, c2, c3, c4, c5, c6, c7, c8, c9, c10, c11]))
    (gT : mg "_law_thing" = some (.ref fT)) (kT : PySem.W.keepIn K (.ref fT) = true) (bT : Binds K fdT ["jar"] []) (GT : FnOk P w K mg base CX0 2 fT fdT ["jar"] (spThing K))
    (gE : mg "_law_errors" = some (.ref fE)) (kE : PySem.W.keepIn K (.ref fE) = true) (bE : Binds K fdE ["word", "thing", "by_name"] []) (GE : FnOk P w K mg base CX0 3 fE fdE ["word", "thing", "by_name"] (spErrors K c1 c2 c3 c4 c5 c6 c7 c8 c9 c10 c11))
    (gH : mg "_law_holds" = some (.ref fH)) (kH : PySem.W.keepIn K (.ref fH) = true) (bH : Binds K fdH ["errors", "thing"] []) (GH : FnOk P w K mg base CX0 2 fH fdH ["errors", "thing"] (spHolds K c1 c2 c3 c4 c5 c6 c7 c8 c9 c10 c11)) : FnOk P w K mg base CX0 4 f fd ["script"] (spLaw K) := by
  refine F.ok sc_law (fun vs H Q E h => ?_) (fun cdv A outer s H vs Q E hr h => ?_)
  · obtain ⟨a, ns, rfl, _⟩ := h
    rfl
  · obtain ⟨a, ns, rfl, hS, hlen, q⟩ := h
    have r1 : Room 1 _ := hr.mono (by decide)
    have r2 : Room 2 _ := hr.mono (by decide)
    have r3 : Room 3 _ := hr.mono (by decide)
    refine ⟨_, (pss_cons (ps_set (i := 1) sc_law.nd rfl (Or.inl rfl) (pe_lst pa_nil))
  (pss_cons (ps_for PassesOwn.never rfl (pi_range1 (by rfl) B.b_range (pa_cons (pe_callB (call_max2 rfl) (by rfl) B.b_max (by decide +kernel) (pa_cons pe_int (pa_cons (pe_callB (call_min2 rfl) (by rfl) bmin (by decide +kernel) (pa_cons pe_int (pa_cons (pe_callB call_len_seq (by rfl) B.b_len (by decide +kernel) (pa_cons (pv 0) pa_nil)) pa_nil))) pa_nil))) pa_nil)) (pg_name (i := 2) sc_law.nd rfl (Or.inl rfl)) (pss_cons (ps_set (i := 3) sc_law.nd rfl (Or.inr rfl) (pe_call GJ r1 (by rfl) gJ kJ bJ .nil pass0 (pa_cons (pv 0) (pa_cons (pv 2) pa_nil))))
  (pss_cons (ps_set (i := 4) sc_law.nd rfl (Or.inl rfl) (pe_join pe_str (pe_lc (own := [("j", 5)]) (g := (gName 5)) (by rfl) sc_law.nd (pi_range1 (by rfl) B.b_range (pa_cons (pe_call GD r1 (by rfl) gD kD bD .nil pass0 (pa_cons (pv 3) (pa_cons pe_int pa_nil))) pa_nil)) (blkOk_by (own := [("j", 5)]) (N := nLaw) (sc := defScope s_law) (by decide +kernel)) (fun _ _ _ _ _ => (pg_name (i := 5) sc_law.nd rfl (Or.inl rfl))) (fun _ _ _ _ _ => pts_nil) (fun _ _ _ _ _ => (pe_ix (r := rIxS) ix_str pe_str (pe_call GD r1 (by rfl) gD kD bD .nil pass0 (pa_cons (pv 3) (pa_cons pe_int pa_nil))) (fun _ _ => rfl))))))
  (pss_cons (ps_if (pt_cmpR (op_neP hr.units) (pe_call GC r1 (by rfl) gC kC bC .nil pass0 (pa_cons (pe_exc1 PySem.F.excBase_ValueError E0.q E0.g E0.kC (by rfl) (pv 4)) pa_nil)) (pe_op op_cat (pe_lst (pa_cons pe_bl (pa_cons pe_bl pa_nil))) (pe_op op_rep (pe_lst (pa_cons pe_bl pa_nil)) pe_int)) (nomark _)) (pss_one (ps_ret pe_bl)) pss_nil)
  (pss_cons (ps_set (i := 6) sc_law.nd rfl (Or.inl rfl) (pe_call GT r2 (by rfl) gT kT bT .nil pass0 (pa_cons (pv 3) pa_nil)))
  (pss_cons (ps_expr (pe_bm PySem.F.plainAttrs_list PySem.F.slot_list_append PySem.F.type_list_append mt_append (pv 1) (pa_cons (pe_tup (pa_cons (pe_call GE r3 (by rfl) gE kE bE .nil pass0 (pa_cons (pv 4) (pa_cons (pv 6) (pa_cons (pe_cmpR op_eq (pe_call GD r1 (by rfl) gD kD bD .nil pass0 (pa_cons (pv 3) (pa_cons pe_int pa_nil))) pe_int (nomark _)) pa_nil)))) (pa_cons (pv 6) pa_nil))) pa_nil)))
  (pss_one (ps_for PassesOwn.never rfl (pi_list (pv 1)) (pg_tup (by rfl) (pgs_cons (pg_name (i := 7) sc_law.nd rfl (Or.inl rfl)) (pgs_cons (pg_name (i := 8) sc_law.nd rfl (Or.inl rfl)) pgs_nil))) (pss_one (ps_if (pt_not (pt_val (pe_call GH r2 (by rfl) gH kH bH .nil pass0 (pa_cons (pv 7) (pa_cons (pv 8) pa_nil))))) (pss_one (ps_ret pe_bl)) pss_nil))))))))))
  (pss_one (ps_ret pe_bl)))), ?_⟩
    refine ⟨Nat.zero_le _, fun h hh => ?_⟩
    have hS1 : SqL K (upd H h (.lst [])) a (ns.map V.int) := (same_new hh).seq hS
    refine ⟨_, rfl, a, _, rfl, .inl hS1, _, _, rfl, _, _, rfl, ?_⟩
    have hN := rng_le 8 (ns.map V.int).length (by decide)
    refine ⟨_, rfl, by omega, by omega, for_range (lo := 0) (n := _) (fun i σ H' => ∃ v2 v3 v4 v5 v6 v7 v8, σ = [some (.ref a), some (.ref h), v2, v3, v4, v5, v6, v7, v8] ∧ LawSt K c1 c2 c3 c4 c5 c6 c7 c8 c9 c10 c11 H H' h i) ?_ ?_ ?_⟩
    · exact ⟨_, _, _, _, _, _, _, rfl, same_new hh, [], upd_same, (fun e he => by cases he), Nat.le_refl _⟩
    · rintro i σ H1 hi ⟨v2, v3, v4, v5, v6, v7, v8, rfl, S1⟩
      have hi8 : i < 8 := by omega
      obtain ⟨es, hes, alle, hle⟩ := S1.l
      refine ⟨_, rfl, _, rfl, a, ns, _, rfl, S1.s.seq hS, by omega, by omega, fun j H2 J2 nj s2 => ?_⟩
      refine ⟨⟨_, rfl⟩, ?_⟩
      refine ⟨_, rfl, ?_⟩
      refine ⟨j, 12, 0, rfl, J2, by decide, by decide, by omega, fun m H3 hm0 hm1 J3 k3 => ?_⟩
      have s3 := same_kp s2 nj k3
      refine ⟨m, rfl, by omega, by omega, fun D hD => ?_⟩
      have njD : D ≠ j := J3.ne hD
      refine lc_range (lo := 0) (n := m.toNat) (fun i H' => ∃ r : List Str, H' D = some (.lst (r.map V.str)) ∧ r.length = i ∧ Ones r ∧ JarAt H' j (1 + i) ∧ Same H1 H') ?_ ?_ ?_
      · exact ⟨[], upd_same, rfl, (by intro x hx; cases hx), J3.same (same_new hD), s3.trans (same_new hD)⟩
      · rintro i H4 hi ⟨r, hr4, hl4, ho4, J4, s4⟩
        refine ⟨rfl, ?_⟩
        refine ⟨_, rfl, ?_⟩
        refine ⟨j, 8, 1 + i, rfl, J4, by decide, by decide, by omega, fun c H5 hc0 hc1 J5 k5 => ?_⟩
        obtain ⟨x, hx⟩ := ix_letter (z := "abc .XYZ") (k := 8) (by decide) hc0 hc1
        refine ⟨_, c, x, rfl, rfl, by decide, hx, ?_⟩
        refine ⟨_, k5 _ _ njD hr4, by rw [List.length_map, hl4]; exact small1000 (by omega), r ++ [⟨#[x]⟩], ?_, ?_, ones_snoc ho4, ?_, ?_⟩
        · rw [upd_same, List.map_append]
          rfl
        · rw [List.length_append, hl4]
          rfl
        · exact (J5.keep fun o e => by rw [upd_ne njD.symm]; exact e).mono (by omega)
        · exact same_upd (same_kp s4 nj k5) (s3.free hD)
      · rintro H4 ⟨r, hr4, hl4, ho4, J4, s4⟩
        refine ⟨_, D, r, rfl, rfl, .inl (SqL.of hr4), by rw [ones_sum ho4, hl4, show (Str.ofString "").length = 0 from by decide]; omega, ?_⟩
        generalize hw : Txt.join _ r = word
        refine ⟨_, rfl, fun e he => ?_⟩
        obtain ⟨e0, t0⟩ := bare_new (C := S) he
        refine ⟨e, S, rfl, .inl e0, List.mem_cons_self, fun l H5 hl nl s5 => ?_⟩
        have s15 := (s4.trans t0).trans s5
        have J5 := (J4.same t0).same s5
        refine ⟨(by show 2 ≤ sizeLine; decide), fun p hp => ?_⟩
        have tp := same_new (o := .lst [.bl true, .bl true]) hp
        have up : upd H5 p (.lst [.bl true, .bl true]) p = some (.lst [.bl true, .bl true]) := upd_same
        generalize upd H5 p (.lst [.bl true, .bl true]) = H6 at tp up ⊢
        refine ⟨(by show 1 ≤ sizeLine; decide), fun p2 hp2 => ?_⟩
        have tp2 := same_new (o := .lst [.bl false]) hp2
        have up2 : upd H6 p2 (.lst [.bl false]) p2 = some (.lst [.bl false]) := upd_same
        generalize upd H6 p2 (.lst [.bl false]) = H7 at tp2 up2 ⊢
        refine ⟨p2, 11, _, rfl, rfl, up2, by decide, by decide, (by show 1 * 11 ≤ sizeLine; decide), fun p3 hp3 => ?_⟩
        have tp3 := same_new (o := .lst (List.replicate (Int.toNat 11) [V.bl false]).flatten) hp3
        have up3 : upd H7 p3 (.lst (List.replicate (Int.toNat 11) [V.bl false]).flatten) p3 = some (.lst (List.replicate 11 (V.bl false))) := upd_same
        generalize upd H7 p3 (.lst (List.replicate (Int.toNat 11) [V.bl false]).flatten) = H8 at tp3 up3 ⊢
        refine ⟨p, p3, [.bl true, .bl true], List.replicate 11 (V.bl false), rfl, rfl, tp3 _ _ (tp2 _ _ up), up3, (by show 2 + 11 ≤ sizeLine; decide), fun p4 hp4 => ?_⟩
        have tp4 := same_new (o := .lst ([.bl true, .bl true] ++ List.replicate 11 (V.bl false))) hp4
        have t58 := ((tp.trans tp2).trans tp3).trans tp4
        have e := clsV_none (Cs := [c1, c2, c3, c4, c5, c6, c7, c8, c9, c10, c11]) nS
        obtain ⟨d, d', dd, de, pd, pe, dep, ev⟩ := bls_data (K := K) (true :: true :: List.replicate 11 false) (t58 _ _ hl) (b := p4) upd_same e rfl
        refine ⟨d, d', dd, de, pd, pe, dep, ?_⟩
        rw [ev]
        refine ⟨_, rfl, ?_⟩
        refine ite2 (fun c => by cases c) (fun _ => ?_)
        have s18 := s15.trans t58
        have J8 := J5.same t58
        generalize upd H8 p4 (.lst ([.bl true, .bl true] ++ List.replicate 11 (V.bl false))) = H9 at s18 J8 ⊢
        refine ⟨_, rfl, ?_⟩
        refine ⟨j, 1 + m.toNat, rfl, J8, by omega, fun v H10 hv J10 k10 => ?_⟩
        have s10 := same_kp s18 nj k10
        refine ⟨_, rfl, .inl ⟨rfl, _, .inl (.inl (s10 _ _ hes))⟩, ?_⟩
        refine ⟨_, rfl, _, rfl, _, rfl, ?_⟩
        refine ⟨j, 2, 1 + m.toNat + 40, rfl, J10, by decide, by decide, by omega, fun r3 H11 _ _ J11 k11 => ?_⟩
        have s11 := same_kp s10 nj k11
        have hv11 := (J10.kt k11).th hv
        refine ⟨rfl, ?_⟩
        refine ⟨word, v, _, rfl, fun l2 as H12 hl2 hE nl2 s12 => ?_⟩
        have s112 := s11.trans s12
        have nl2h : l2 ≠ h := (ne_of_none (s11 _ _ hes) nl2).symm
        refine ⟨_, rfl, (by show 2 ≤ sizeLine; decide), fun t ht => ?_⟩
        have st := same_new (o := .tup [.ref l2, v]) ht
        have ut : upd H12 t (.tup [.ref l2, v]) t = some (.tup [.ref l2, v]) := upd_same
        generalize upd H12 t (.tup [.ref l2, v]) = H13 at st ut ⊢
        have s13 := s112.trans st
        have hv13 := (s12.trans st).kt.th hv11
        refine ⟨h, es, .ref t, rfl, rfl, s13 _ _ hes, small1000 (by omega), ?_⟩
        have hnew : HeldAt K c1 c2 c3 c4 c5 c6 c7 c8 c9 c10 c11 h H13 (.ref t) := ⟨t, l2, v, as, rfl, nl2h, ut, st _ _ hl2, hE.kt st.kt, hv13⟩
        have S14 : LawSt K c1 c2 c3 c4 c5 c6 c7 c8 c9 c10 c11 H (upd H13 h (.lst (es ++ [.ref t]))) h (i + 1) := by
          refine ⟨same_upd (S1.s.trans s13) hh, _, upd_same, fun y hy => ?_, ?_⟩
          · rcases List.mem_append.mp hy with hy | hy
            · exact ((alle y hy).same s13).upd (s13 _ _ hes)
            · rw [List.mem_singleton.mp hy]
              exact hnew.upd (s13 _ _ hes)
          · rw [List.length_append]
            show es.length + 1 ≤ _
            omega
        generalize upd H13 h (.lst (es ++ [.ref t])) = H14 at S14 ⊢
        obtain ⟨es2, hes2, alle2, hle2⟩ := S14.l
        refine ⟨_, rfl, h, rfl, ⟨_, SqL.of hes2⟩, for_list (K := K) (a := h) (xs := es2) (fun m' σ H' => ∃ w7 w8, σ = [some (.ref a), some (.ref h), some (.int (0 + i)), some (.ref j), some (.str word), v5, some v, w7, w8] ∧ Same H14 H') ?_ ?_ ?_ ?_⟩
        · exact ⟨_, _, rfl, fun _ _ e => e⟩
        · rintro m' σ H' _ ⟨_, _, _, s'⟩
          exact SqL.of (s' _ _ hes2)
        · rintro m' x σ H15 hx ⟨w7, w8, rfl, s15⟩
          obtain ⟨t', l', v', as', rfl, _, ht', hl', hE', hv'⟩ := (alle2 x (List.mem_of_getElem? hx)).same s15
          refine ⟨t', _, rfl, SqT.of ht', rfl, .ref l', _, rfl, v', _, rfl, rfl, ?_⟩
          refine ⟨_, rfl, _, rfl, l', v', as', rfl, hl', hE', hv', fun H16 s16 => ⟨_, rfl, ?_⟩⟩
          exact ⟨_, _, rfl, s15.trans s16⟩
        · rintro σ H15 ⟨w7, w8, rfl, s15⟩
          exact ⟨_, _, _, _, _, _, _, rfl, S14.s.trans s15, es2, s15 _ _ hes2, fun y hy => (alle2 y hy).same s15, hle2⟩
    · rintro σ H1 ⟨v2, v3, v4, v5, v6, v7, v8, rfl, S1⟩
      exact q _
end
end Sh

namespace Sh
open PySem L2
theorem all_mk {l : PySem.W.OpenLaw} {w : World} {K : PySem.W.Frag} {h : Heap} {mg : Str → Option Value} {fa C_ShownError C_NoPrices C_NoDoors C_NotRight C_NothingToUndo C_NoRule f_eNoRule N_NoRule C_NoDoor f_eNoDoor N_NoDoor C_NoDeed f_eNoDeed N_NoDeed C_NoItem f_eNoItem N_NoItem C_NoLine f_eNoLine N_NoLine C_Missing f_eMissing N_Missing C_NoText f_eNoText N_NoText f__law_jar f__law_draw f__law_thing f__law_same f__law_classes f__law_errors f__law_holds f_law : Addr} (X : K.In h) (G : h.Ns mainGlobals mg) (hfa : mg "law" = some (.ref fa))
    {nm_NoRule q_NoRule : Str} {bs_NoRule bm_NoRule : List Value} {sn_NoRule : List Str} {sub_NoRule : List Value} {ab_NoRule : Bool} {col_NoRule : Option Bool} {dd_NoRule : Option Addr} {m0_NoRule m1_NoRule m2_NoRule m3_NoRule m5_NoRule : Option Value}
    {od_eNoRule an_eNoRule : Option Addr} {sl_eNoRule : Array (Option Value)} {oc_eNoRule kV_eNoRule dc_eNoRule pm_eNoRule cd_eNoRule ct_eNoRule : Value}
    {nm_NoDoor q_NoDoor : Str} {bs_NoDoor bm_NoDoor : List Value} {sn_NoDoor : List Str} {sub_NoDoor : List Value} {ab_NoDoor : Bool} {col_NoDoor : Option Bool} {dd_NoDoor : Option Addr} {m0_NoDoor m1_NoDoor m2_NoDoor m3_NoDoor m5_NoDoor : Option Value}
    {od_eNoDoor an_eNoDoor : Option Addr} {sl_eNoDoor : Array (Option Value)} {oc_eNoDoor kV_eNoDoor dc_eNoDoor pm_eNoDoor cd_eNoDoor ct_eNoDoor : Value}
    {nm_NoDeed q_NoDeed : Str} {bs_NoDeed bm_NoDeed : List Value} {sn_NoDeed : List Str} {sub_NoDeed : List Value} {ab_NoDeed : Bool} {col_NoDeed : Option Bool} {dd_NoDeed : Option Addr} {m0_NoDeed m1_NoDeed m2_NoDeed m3_NoDeed m5_NoDeed : Option Value}
    {od_eNoDeed an_eNoDeed : Option Addr} {sl_eNoDeed : Array (Option Value)} {oc_eNoDeed kV_eNoDeed dc_eNoDeed pm_eNoDeed cd_eNoDeed ct_eNoDeed : Value}
    {nm_NoItem q_NoItem : Str} {bs_NoItem bm_NoItem : List Value} {sn_NoItem : List Str} {sub_NoItem : List Value} {ab_NoItem : Bool} {col_NoItem : Option Bool} {dd_NoItem : Option Addr} {m0_NoItem m1_NoItem m2_NoItem m3_NoItem m5_NoItem : Option Value}
    {od_eNoItem an_eNoItem : Option Addr} {sl_eNoItem : Array (Option Value)} {oc_eNoItem kV_eNoItem dc_eNoItem pm_eNoItem cd_eNoItem ct_eNoItem : Value}
    {nm_NoLine q_NoLine : Str} {bs_NoLine bm_NoLine : List Value} {sn_NoLine : List Str} {sub_NoLine : List Value} {ab_NoLine : Bool} {col_NoLine : Option Bool} {dd_NoLine : Option Addr} {m0_NoLine m1_NoLine m2_NoLine m3_NoLine m5_NoLine : Option Value}
    {od_eNoLine an_eNoLine : Option Addr} {sl_eNoLine : Array (Option Value)} {oc_eNoLine kV_eNoLine dc_eNoLine pm_eNoLine cd_eNoLine ct_eNoLine : Value}
    {nm_Missing q_Missing : Str} {bs_Missing bm_Missing : List Value} {sn_Missing : List Str} {sub_Missing : List Value} {ab_Missing : Bool} {col_Missing : Option Bool} {dd_Missing : Option Addr} {m0_Missing m1_Missing m2_Missing m3_Missing m5_Missing : Option Value}
    {od_eMissing an_eMissing : Option Addr} {sl_eMissing : Array (Option Value)} {oc_eMissing kV_eMissing dc_eMissing pm_eMissing cd_eMissing ct_eMissing : Value}
    {nm_NoText q_NoText : Str} {bs_NoText bm_NoText : List Value} {sn_NoText : List Str} {sub_NoText : List Value} {ab_NoText : Bool} {col_NoText : Option Bool} {dd_NoText : Option Addr} {m0_NoText m1_NoText m2_NoText m3_NoText m5_NoText : Option Value}
    {od_eNoText an_eNoText : Option Addr} {sl_eNoText : Array (Option Value)} {oc_eNoText kV_eNoText dc_eNoText pm_eNoText cd_eNoText ct_eNoText : Value}
    {od__law_jar an__law_jar : Option Addr} {sl__law_jar : Array (Option Value)} {oc__law_jar kV__law_jar dc__law_jar pm__law_jar cd__law_jar ct__law_jar : Value}
    {od__law_draw an__law_draw : Option Addr} {sl__law_draw : Array (Option Value)} {oc__law_draw kV__law_draw dc__law_draw pm__law_draw cd__law_draw ct__law_draw : Value}
    {od__law_thing an__law_thing : Option Addr} {sl__law_thing : Array (Option Value)} {oc__law_thing kV__law_thing dc__law_thing pm__law_thing cd__law_thing ct__law_thing : Value}
    {od__law_same an__law_same : Option Addr} {sl__law_same : Array (Option Value)} {oc__law_same kV__law_same dc__law_same pm__law_same cd__law_same ct__law_same : Value}
    {od__law_classes an__law_classes : Option Addr} {sl__law_classes : Array (Option Value)} {oc__law_classes kV__law_classes dc__law_classes pm__law_classes cd__law_classes ct__law_classes : Value}
    {od__law_errors an__law_errors : Option Addr} {sl__law_errors : Array (Option Value)} {oc__law_errors kV__law_errors dc__law_errors pm__law_errors cd__law_errors ct__law_errors : Value}
    {od__law_holds an__law_holds : Option Addr} {sl__law_holds : Array (Option Value)} {oc__law_holds kV__law_holds dc__law_holds pm__law_holds cd__law_holds ct__law_holds : Value}
    {od_law an_law : Option Addr} {sl_law : Array (Option Value)} {oc_law kV_law dc_law pm_law cd_law ct_law : Value}
    (z_int : PySem.W.nsIn K mainGlobals "int" = some none)
    (z_len : PySem.W.nsIn K mainGlobals "len" = some none)
    (z_abs : PySem.W.nsIn K mainGlobals "abs" = some none)
    (z_max : PySem.W.nsIn K mainGlobals "max" = some none)
    (z_min : PySem.W.nsIn K mainGlobals "min" = some none)
    (z_range : PySem.W.nsIn K mainGlobals "range" = some none)
    (z_tuple : PySem.W.nsIn K mainGlobals "tuple" = some none)
    (z_str : PySem.W.nsIn K mainGlobals "str" = some none)
    (z_isinstance : PySem.W.nsIn K mainGlobals "isinstance" = some none)
    (z_all : PySem.W.nsIn K mainGlobals "all" = some none)
    (z_zip : PySem.W.nsIn K mainGlobals "zip" = some none)
    (z_bool : PySem.W.nsIn K mainGlobals "bool" = some none)
    (z_ValueError : PySem.W.nsIn K mainGlobals "ValueError" = some none)
    (a_ShownError : PySem.W.nsIn K mainGlobals "ShownError" = some (some (.ref C_ShownError)))
    (xP_ShownError : PySem.W.excIn K C_ShownError [.type "ValueError", .type "Exception", .type "BaseException", .type "object"] "ValueError.__new__" = true)
    (kc_ShownError : PySem.W.keepIn K (.ref C_ShownError) = true)
    (a_NoPrices : PySem.W.nsIn K mainGlobals "NoPrices" = some (some (.ref C_NoPrices)))
    (xP_NoPrices : PySem.W.excIn K C_NoPrices [.type "ValueError", .type "Exception", .type "BaseException", .type "object"] "ValueError.__new__" = true)
    (kc_NoPrices : PySem.W.keepIn K (.ref C_NoPrices) = true)
    (a_NoDoors : PySem.W.nsIn K mainGlobals "NoDoors" = some (some (.ref C_NoDoors)))
    (xP_NoDoors : PySem.W.excIn K C_NoDoors [.type "ValueError", .type "Exception", .type "BaseException", .type "object"] "ValueError.__new__" = true)
    (kc_NoDoors : PySem.W.keepIn K (.ref C_NoDoors) = true)
    (a_NotRight : PySem.W.nsIn K mainGlobals "NotRight" = some (some (.ref C_NotRight)))
    (xP_NotRight : PySem.W.excIn K C_NotRight [.type "ValueError", .type "Exception", .type "BaseException", .type "object"] "ValueError.__new__" = true)
    (kc_NotRight : PySem.W.keepIn K (.ref C_NotRight) = true)
    (a_NothingToUndo : PySem.W.nsIn K mainGlobals "NothingToUndo" = some (some (.ref C_NothingToUndo)))
    (xP_NothingToUndo : PySem.W.excIn K C_NothingToUndo [.type "ValueError", .type "Exception", .type "BaseException", .type "object"] "ValueError.__new__" = true)
    (kc_NothingToUndo : PySem.W.keepIn K (.ref C_NothingToUndo) = true)
    (a_NoRule : PySem.W.nsIn K mainGlobals "NoRule" = some (some (.ref C_NoRule)))
    (x_NoRule : K.lookup C_NoRule = some (PySem.excClassObj nm_NoRule q_NoRule C_NoRule N_NoRule bs_NoRule bm_NoRule true sn_NoRule sub_NoRule ab_NoRule col_NoRule dd_NoRule m0_NoRule m1_NoRule m2_NoRule m3_NoRule m5_NoRule "ValueError.__new__"))
    (r_NoRule : PySem.HandSPX.refsVE bm_NoRule = true)
    (sa_NoRule : PySem.W.findIn K (.ref C_NoRule) "__setattr__" = some (some (.builtin "object.__setattr__")))
    (no_NoRule : PySem.W.findIn K (.ref C_NoRule) "door" = some none)
    (a_eNoRule : PySem.W.findIn K (.ref C_NoRule) "__init__" = some (some (.ref f_eNoRule)))
    (t_eNoRule : PySem.W.typeIn K (.ref f_eNoRule) = some (.type "function"))
    (l_eNoRule : K.lookup f_eNoRule = some ⟨oc_eNoRule, od_eNoRule, .func (PySem.W.fnOf "__init__" "NoRule.__init__" (defArgs Sh.s_eNoRule) (defBody Sh.s_eNoRule) (defScope Sh.s_eNoRule) .none kV_eNoRule dc_eNoRule pm_eNoRule an_eNoRule cd_eNoRule ct_eNoRule), sl_eNoRule⟩)
    (c_eNoRule : PySem.W.codeIn K cd_eNoRule "NoRule.__init__" = true)
    (k_eNoRule : PySem.W.keepIn K (.ref f_eNoRule) = true)
    (kc_NoRule : PySem.W.keepIn K (.ref C_NoRule) = true)
    (ec_NoRule : PySem.W.subIn K (.ref C_NoRule) (.type "BaseException") = some true)
    (tc_NoRule : PySem.W.typeIn K (.ref C_NoRule) = some (.type "type"))
    (a_NoDoor : PySem.W.nsIn K mainGlobals "NoDoor" = some (some (.ref C_NoDoor)))
    (x_NoDoor : K.lookup C_NoDoor = some (PySem.excClassObj nm_NoDoor q_NoDoor C_NoDoor N_NoDoor bs_NoDoor bm_NoDoor true sn_NoDoor sub_NoDoor ab_NoDoor col_NoDoor dd_NoDoor m0_NoDoor m1_NoDoor m2_NoDoor m3_NoDoor m5_NoDoor "ValueError.__new__"))
    (r_NoDoor : PySem.HandSPX.refsVE bm_NoDoor = true)
    (sa_NoDoor : PySem.W.findIn K (.ref C_NoDoor) "__setattr__" = some (some (.builtin "object.__setattr__")))
    (no_NoDoor : PySem.W.findIn K (.ref C_NoDoor) "door" = some none)
    (a_eNoDoor : PySem.W.findIn K (.ref C_NoDoor) "__init__" = some (some (.ref f_eNoDoor)))
    (t_eNoDoor : PySem.W.typeIn K (.ref f_eNoDoor) = some (.type "function"))
    (l_eNoDoor : K.lookup f_eNoDoor = some ⟨oc_eNoDoor, od_eNoDoor, .func (PySem.W.fnOf "__init__" "NoDoor.__init__" (defArgs Sh.s_eNoDoor) (defBody Sh.s_eNoDoor) (defScope Sh.s_eNoDoor) .none kV_eNoDoor dc_eNoDoor pm_eNoDoor an_eNoDoor cd_eNoDoor ct_eNoDoor), sl_eNoDoor⟩)
    (c_eNoDoor : PySem.W.codeIn K cd_eNoDoor "NoDoor.__init__" = true)
    (k_eNoDoor : PySem.W.keepIn K (.ref f_eNoDoor) = true)
    (kc_NoDoor : PySem.W.keepIn K (.ref C_NoDoor) = true)
    (ec_NoDoor : PySem.W.subIn K (.ref C_NoDoor) (.type "BaseException") = some true)
    (tc_NoDoor : PySem.W.typeIn K (.ref C_NoDoor) = some (.type "type"))
    (a_NoDeed : PySem.W.nsIn K mainGlobals "NoDeed" = some (some (.ref C_NoDeed)))
    (x_NoDeed : K.lookup C_NoDeed = some (PySem.excClassObj nm_NoDeed q_NoDeed C_NoDeed N_NoDeed bs_NoDeed bm_NoDeed true sn_NoDeed sub_NoDeed ab_NoDeed col_NoDeed dd_NoDeed m0_NoDeed m1_NoDeed m2_NoDeed m3_NoDeed m5_NoDeed "ValueError.__new__"))
    (r_NoDeed : PySem.HandSPX.refsVE bm_NoDeed = true)
    (sa_NoDeed : PySem.W.findIn K (.ref C_NoDeed) "__setattr__" = some (some (.builtin "object.__setattr__")))
    (no_NoDeed : PySem.W.findIn K (.ref C_NoDeed) "index" = some none)
    (a_eNoDeed : PySem.W.findIn K (.ref C_NoDeed) "__init__" = some (some (.ref f_eNoDeed)))
    (t_eNoDeed : PySem.W.typeIn K (.ref f_eNoDeed) = some (.type "function"))
    (l_eNoDeed : K.lookup f_eNoDeed = some ⟨oc_eNoDeed, od_eNoDeed, .func (PySem.W.fnOf "__init__" "NoDeed.__init__" (defArgs Sh.s_eNoDeed) (defBody Sh.s_eNoDeed) (defScope Sh.s_eNoDeed) .none kV_eNoDeed dc_eNoDeed pm_eNoDeed an_eNoDeed cd_eNoDeed ct_eNoDeed), sl_eNoDeed⟩)
    (c_eNoDeed : PySem.W.codeIn K cd_eNoDeed "NoDeed.__init__" = true)
    (k_eNoDeed : PySem.W.keepIn K (.ref f_eNoDeed) = true)
    (kc_NoDeed : PySem.W.keepIn K (.ref C_NoDeed) = true)
    (ec_NoDeed : PySem.W.subIn K (.ref C_NoDeed) (.type "BaseException") = some true)
    (tc_NoDeed : PySem.W.typeIn K (.ref C_NoDeed) = some (.type "type"))
    (a_NoItem : PySem.W.nsIn K mainGlobals "NoItem" = some (some (.ref C_NoItem)))
    (x_NoItem : K.lookup C_NoItem = some (PySem.excClassObj nm_NoItem q_NoItem C_NoItem N_NoItem bs_NoItem bm_NoItem true sn_NoItem sub_NoItem ab_NoItem col_NoItem dd_NoItem m0_NoItem m1_NoItem m2_NoItem m3_NoItem m5_NoItem "ValueError.__new__"))
    (r_NoItem : PySem.HandSPX.refsVE bm_NoItem = true)
    (sa_NoItem : PySem.W.findIn K (.ref C_NoItem) "__setattr__" = some (some (.builtin "object.__setattr__")))
    (no_NoItem : PySem.W.findIn K (.ref C_NoItem) "index" = some none)
    (a_eNoItem : PySem.W.findIn K (.ref C_NoItem) "__init__" = some (some (.ref f_eNoItem)))
    (t_eNoItem : PySem.W.typeIn K (.ref f_eNoItem) = some (.type "function"))
    (l_eNoItem : K.lookup f_eNoItem = some ⟨oc_eNoItem, od_eNoItem, .func (PySem.W.fnOf "__init__" "NoItem.__init__" (defArgs Sh.s_eNoItem) (defBody Sh.s_eNoItem) (defScope Sh.s_eNoItem) .none kV_eNoItem dc_eNoItem pm_eNoItem an_eNoItem cd_eNoItem ct_eNoItem), sl_eNoItem⟩)
    (c_eNoItem : PySem.W.codeIn K cd_eNoItem "NoItem.__init__" = true)
    (k_eNoItem : PySem.W.keepIn K (.ref f_eNoItem) = true)
    (kc_NoItem : PySem.W.keepIn K (.ref C_NoItem) = true)
    (ec_NoItem : PySem.W.subIn K (.ref C_NoItem) (.type "BaseException") = some true)
    (tc_NoItem : PySem.W.typeIn K (.ref C_NoItem) = some (.type "type"))
    (a_NoLine : PySem.W.nsIn K mainGlobals "NoLine" = some (some (.ref C_NoLine)))
    (x_NoLine : K.lookup C_NoLine = some (PySem.excClassObj nm_NoLine q_NoLine C_NoLine N_NoLine bs_NoLine bm_NoLine true sn_NoLine sub_NoLine ab_NoLine col_NoLine dd_NoLine m0_NoLine m1_NoLine m2_NoLine m3_NoLine m5_NoLine "ValueError.__new__"))
    (r_NoLine : PySem.HandSPX.refsVE bm_NoLine = true)
    (sa_NoLine : PySem.W.findIn K (.ref C_NoLine) "__setattr__" = some (some (.builtin "object.__setattr__")))
    (no_NoLine : PySem.W.findIn K (.ref C_NoLine) "index" = some none)
    (a_eNoLine : PySem.W.findIn K (.ref C_NoLine) "__init__" = some (some (.ref f_eNoLine)))
    (t_eNoLine : PySem.W.typeIn K (.ref f_eNoLine) = some (.type "function"))
    (l_eNoLine : K.lookup f_eNoLine = some ⟨oc_eNoLine, od_eNoLine, .func (PySem.W.fnOf "__init__" "NoLine.__init__" (defArgs Sh.s_eNoLine) (defBody Sh.s_eNoLine) (defScope Sh.s_eNoLine) .none kV_eNoLine dc_eNoLine pm_eNoLine an_eNoLine cd_eNoLine ct_eNoLine), sl_eNoLine⟩)
    (c_eNoLine : PySem.W.codeIn K cd_eNoLine "NoLine.__init__" = true)
    (k_eNoLine : PySem.W.keepIn K (.ref f_eNoLine) = true)
    (kc_NoLine : PySem.W.keepIn K (.ref C_NoLine) = true)
    (ec_NoLine : PySem.W.subIn K (.ref C_NoLine) (.type "BaseException") = some true)
    (tc_NoLine : PySem.W.typeIn K (.ref C_NoLine) = some (.type "type"))
    (a_Missing : PySem.W.nsIn K mainGlobals "Missing" = some (some (.ref C_Missing)))
    (x_Missing : K.lookup C_Missing = some (PySem.excClassObj nm_Missing q_Missing C_Missing N_Missing bs_Missing bm_Missing true sn_Missing sub_Missing ab_Missing col_Missing dd_Missing m0_Missing m1_Missing m2_Missing m3_Missing m5_Missing "ValueError.__new__"))
    (r_Missing : PySem.HandSPX.refsVE bm_Missing = true)
    (sa_Missing : PySem.W.findIn K (.ref C_Missing) "__setattr__" = some (some (.builtin "object.__setattr__")))
    (no_Missing : PySem.W.findIn K (.ref C_Missing) "item" = some none)
    (a_eMissing : PySem.W.findIn K (.ref C_Missing) "__init__" = some (some (.ref f_eMissing)))
    (t_eMissing : PySem.W.typeIn K (.ref f_eMissing) = some (.type "function"))
    (l_eMissing : K.lookup f_eMissing = some ⟨oc_eMissing, od_eMissing, .func (PySem.W.fnOf "__init__" "Missing.__init__" (defArgs Sh.s_eMissing) (defBody Sh.s_eMissing) (defScope Sh.s_eMissing) .none kV_eMissing dc_eMissing pm_eMissing an_eMissing cd_eMissing ct_eMissing), sl_eMissing⟩)
    (c_eMissing : PySem.W.codeIn K cd_eMissing "Missing.__init__" = true)
    (k_eMissing : PySem.W.keepIn K (.ref f_eMissing) = true)
    (kc_Missing : PySem.W.keepIn K (.ref C_Missing) = true)
    (ec_Missing : PySem.W.subIn K (.ref C_Missing) (.type "BaseException") = some true)
    (tc_Missing : PySem.W.typeIn K (.ref C_Missing) = some (.type "type"))
    (a_NoText : PySem.W.nsIn K mainGlobals "NoText" = some (some (.ref C_NoText)))
    (x_NoText : K.lookup C_NoText = some (PySem.excClassObj nm_NoText q_NoText C_NoText N_NoText bs_NoText bm_NoText true sn_NoText sub_NoText ab_NoText col_NoText dd_NoText m0_NoText m1_NoText m2_NoText m3_NoText m5_NoText "ValueError.__new__"))
    (r_NoText : PySem.HandSPX.refsVE bm_NoText = true)
    (sa_NoText : PySem.W.findIn K (.ref C_NoText) "__setattr__" = some (some (.builtin "object.__setattr__")))
    (no_NoText : PySem.W.findIn K (.ref C_NoText) "line" = some none)
    (a_eNoText : PySem.W.findIn K (.ref C_NoText) "__init__" = some (some (.ref f_eNoText)))
    (t_eNoText : PySem.W.typeIn K (.ref f_eNoText) = some (.type "function"))
    (l_eNoText : K.lookup f_eNoText = some ⟨oc_eNoText, od_eNoText, .func (PySem.W.fnOf "__init__" "NoText.__init__" (defArgs Sh.s_eNoText) (defBody Sh.s_eNoText) (defScope Sh.s_eNoText) .none kV_eNoText dc_eNoText pm_eNoText an_eNoText cd_eNoText ct_eNoText), sl_eNoText⟩)
    (c_eNoText : PySem.W.codeIn K cd_eNoText "NoText.__init__" = true)
    (k_eNoText : PySem.W.keepIn K (.ref f_eNoText) = true)
    (kc_NoText : PySem.W.keepIn K (.ref C_NoText) = true)
    (ec_NoText : PySem.W.subIn K (.ref C_NoText) (.type "BaseException") = some true)
    (tc_NoText : PySem.W.typeIn K (.ref C_NoText) = some (.type "type"))
    (a__law_jar : PySem.W.nsIn K mainGlobals "_law_jar" = some (some (.ref f__law_jar)))
    (l__law_jar : K.lookup f__law_jar = some ⟨oc__law_jar, od__law_jar, .func (PySem.W.fnOf "_law_jar" "_law_jar" (defArgs Sh.s_jar) (defBody Sh.s_jar) (defScope Sh.s_jar) .none kV__law_jar dc__law_jar pm__law_jar an__law_jar cd__law_jar ct__law_jar), sl__law_jar⟩)
    (c__law_jar : PySem.W.codeIn K cd__law_jar "_law_jar" = true)
    (k__law_jar : PySem.W.keepIn K (.ref f__law_jar) = true)
    (a__law_draw : PySem.W.nsIn K mainGlobals "_law_draw" = some (some (.ref f__law_draw)))
    (l__law_draw : K.lookup f__law_draw = some ⟨oc__law_draw, od__law_draw, .func (PySem.W.fnOf "_law_draw" "_law_draw" (defArgs Sh.s_draw) (defBody Sh.s_draw) (defScope Sh.s_draw) .none kV__law_draw dc__law_draw pm__law_draw an__law_draw cd__law_draw ct__law_draw), sl__law_draw⟩)
    (c__law_draw : PySem.W.codeIn K cd__law_draw "_law_draw" = true)
    (k__law_draw : PySem.W.keepIn K (.ref f__law_draw) = true)
    (a__law_thing : PySem.W.nsIn K mainGlobals "_law_thing" = some (some (.ref f__law_thing)))
    (l__law_thing : K.lookup f__law_thing = some ⟨oc__law_thing, od__law_thing, .func (PySem.W.fnOf "_law_thing" "_law_thing" (defArgs Sh.s_thing) (defBody Sh.s_thing) (defScope Sh.s_thing) .none kV__law_thing dc__law_thing pm__law_thing an__law_thing cd__law_thing ct__law_thing), sl__law_thing⟩)
    (c__law_thing : PySem.W.codeIn K cd__law_thing "_law_thing" = true)
    (k__law_thing : PySem.W.keepIn K (.ref f__law_thing) = true)
    (a__law_same : PySem.W.nsIn K mainGlobals "_law_same" = some (some (.ref f__law_same)))
    (l__law_same : K.lookup f__law_same = some ⟨oc__law_same, od__law_same, .func (PySem.W.fnOf "_law_same" "_law_same" (defArgs Sh.s_same) (defBody Sh.s_same) (defScope Sh.s_same) .none kV__law_same dc__law_same pm__law_same an__law_same cd__law_same ct__law_same), sl__law_same⟩)
    (c__law_same : PySem.W.codeIn K cd__law_same "_law_same" = true)
    (k__law_same : PySem.W.keepIn K (.ref f__law_same) = true)
    (a__law_classes : PySem.W.nsIn K mainGlobals "_law_classes" = some (some (.ref f__law_classes)))
    (l__law_classes : K.lookup f__law_classes = some ⟨oc__law_classes, od__law_classes, .func (PySem.W.fnOf "_law_classes" "_law_classes" (defArgs Sh.s_classes) (defBody Sh.s_classes) (defScope Sh.s_classes) .none kV__law_classes dc__law_classes pm__law_classes an__law_classes cd__law_classes ct__law_classes), sl__law_classes⟩)
    (c__law_classes : PySem.W.codeIn K cd__law_classes "_law_classes" = true)
    (k__law_classes : PySem.W.keepIn K (.ref f__law_classes) = true)
    (a__law_errors : PySem.W.nsIn K mainGlobals "_law_errors" = some (some (.ref f__law_errors)))
    (l__law_errors : K.lookup f__law_errors = some ⟨oc__law_errors, od__law_errors, .func (PySem.W.fnOf "_law_errors" "_law_errors" (defArgs Sh.s_errors) (defBody Sh.s_errors) (defScope Sh.s_errors) .none kV__law_errors dc__law_errors pm__law_errors an__law_errors cd__law_errors ct__law_errors), sl__law_errors⟩)
    (c__law_errors : PySem.W.codeIn K cd__law_errors "_law_errors" = true)
    (k__law_errors : PySem.W.keepIn K (.ref f__law_errors) = true)
    (a__law_holds : PySem.W.nsIn K mainGlobals "_law_holds" = some (some (.ref f__law_holds)))
    (l__law_holds : K.lookup f__law_holds = some ⟨oc__law_holds, od__law_holds, .func (PySem.W.fnOf "_law_holds" "_law_holds" (defArgs Sh.s_holds) (defBody Sh.s_holds) (defScope Sh.s_holds) .none kV__law_holds dc__law_holds pm__law_holds an__law_holds cd__law_holds ct__law_holds), sl__law_holds⟩)
    (c__law_holds : PySem.W.codeIn K cd__law_holds "_law_holds" = true)
    (k__law_holds : PySem.W.keepIn K (.ref f__law_holds) = true)
    (a_law : PySem.W.nsIn K mainGlobals "law" = some (some (.ref f_law)))
    (l_law : K.lookup f_law = some ⟨oc_law, od_law, .func (PySem.W.fnOf "law" "law" (defArgs Sh.s_law) (defBody Sh.s_law) (defScope Sh.s_law) .none kV_law dc_law pm_law an_law cd_law ct_law), sl_law⟩)
    (c_law : PySem.W.codeIn K cd_law "law" = true)
    (k_law : PySem.W.keepIn K (.ref f_law) = true)
    (hk : kinB K C_ShownError [C_NoPrices, C_NoDoors, C_NotRight, C_NothingToUndo, C_NoRule, C_NoDoor, C_NoDeed, C_NoItem, C_NoLine, C_Missing, C_NoText] = true)
    (hnd : ([C_NoPrices, C_NoDoors, C_NotRight, C_NothingToUndo, C_NoRule, C_NoDoor, C_NoDeed, C_NoItem, C_NoLine, C_Missing, C_NoText] : List Addr).Nodup)
    (nS : C_ShownError ∉ ([C_NoPrices, C_NoDoors, C_NotRight, C_NothingToUndo, C_NoRule, C_NoDoor, C_NoDeed, C_NoItem, C_NoLine, C_Missing, C_NoText] : List Addr)) :
    ∃ fd : FuncData, (∀ (s : Shared) (v : Value), BindsTo s fd ⟨[v], []⟩ [("script", v)]) ∧ ∀ base : Heap, K.In base → base.Ns mainGlobals mg → FnOk l.prog w K mg base CX0 4 fa fd ["script"] (spLaw K) := by
  have e := hfa.symm.trans (PySem.W.mg_of X G a_law)
  cases e
  have B : TxtB mg := ⟨(PySem.W.mg_none_of X G z_int), (PySem.W.mg_none_of X G z_len), (PySem.W.mg_none_of X G z_abs), (PySem.W.mg_none_of X G z_max), (PySem.W.mg_none_of X G z_range), (PySem.W.mg_none_of X G z_tuple), (PySem.W.mg_none_of X G z_str), (PySem.W.mg_none_of X G z_isinstance), (PySem.W.mg_none_of X G z_all), (PySem.W.mg_none_of X G z_zip)⟩
  have T_NoRule : ErrTxt K mg "NoRule" "door" C_NoRule f_eNoRule := ⟨⟨⟨_, _, _, _, _, _, _, _, _, _, _, _, _, _, _, x_NoRule, r_NoRule⟩, sa_NoRule, ec_NoRule, tc_NoRule, kc_NoRule⟩, no_NoRule, a_eNoRule, t_eNoRule, (PySem.W.mg_of X G a_NoRule)⟩
  have FE_NoRule := fun_mk (st := s_eNoRule) l_eNoRule c_eNoRule k_eNoRule
  have bE_NoRule := FE_NoRule.binds (ps := ["self", "door"]) fun _ _ _ _ _ _ us hl => match us, hl with | [_, _], _ => rfl
  have kb_NoRule := kbn_of (ps := ["self", "door"]) (ks := ["door"]) FE_NoRule 1 [0, 1] fun _ _ _ _ _ _ us ws h1 h2 => match us, ws, h1, h2 with | [_], [_], _, _ => rfl
  have T_NoDoor : ErrTxt K mg "NoDoor" "door" C_NoDoor f_eNoDoor := ⟨⟨⟨_, _, _, _, _, _, _, _, _, _, _, _, _, _, _, x_NoDoor, r_NoDoor⟩, sa_NoDoor, ec_NoDoor, tc_NoDoor, kc_NoDoor⟩, no_NoDoor, a_eNoDoor, t_eNoDoor, (PySem.W.mg_of X G a_NoDoor)⟩
  have FE_NoDoor := fun_mk (st := s_eNoDoor) l_eNoDoor c_eNoDoor k_eNoDoor
  have bE_NoDoor := FE_NoDoor.binds (ps := ["self", "door"]) fun _ _ _ _ _ _ us hl => match us, hl with | [_, _], _ => rfl
  have kb_NoDoor := kbn_of (ps := ["self", "door"]) (ks := ["door"]) FE_NoDoor 1 [0, 1] fun _ _ _ _ _ _ us ws h1 h2 => match us, ws, h1, h2 with | [_], [_], _, _ => rfl
  have T_NoDeed : ErrTxt K mg "NoDeed" "index" C_NoDeed f_eNoDeed := ⟨⟨⟨_, _, _, _, _, _, _, _, _, _, _, _, _, _, _, x_NoDeed, r_NoDeed⟩, sa_NoDeed, ec_NoDeed, tc_NoDeed, kc_NoDeed⟩, no_NoDeed, a_eNoDeed, t_eNoDeed, (PySem.W.mg_of X G a_NoDeed)⟩
  have FE_NoDeed := fun_mk (st := s_eNoDeed) l_eNoDeed c_eNoDeed k_eNoDeed
  have bE_NoDeed := FE_NoDeed.binds (ps := ["self", "index"]) fun _ _ _ _ _ _ us hl => match us, hl with | [_, _], _ => rfl
  have kb_NoDeed := kbn_of (ps := ["self", "index"]) (ks := ["index"]) FE_NoDeed 1 [0, 1] fun _ _ _ _ _ _ us ws h1 h2 => match us, ws, h1, h2 with | [_], [_], _, _ => rfl
  have T_NoItem : ErrTxt K mg "NoItem" "index" C_NoItem f_eNoItem := ⟨⟨⟨_, _, _, _, _, _, _, _, _, _, _, _, _, _, _, x_NoItem, r_NoItem⟩, sa_NoItem, ec_NoItem, tc_NoItem, kc_NoItem⟩, no_NoItem, a_eNoItem, t_eNoItem, (PySem.W.mg_of X G a_NoItem)⟩
  have FE_NoItem := fun_mk (st := s_eNoItem) l_eNoItem c_eNoItem k_eNoItem
  have bE_NoItem := FE_NoItem.binds (ps := ["self", "index"]) fun _ _ _ _ _ _ us hl => match us, hl with | [_, _], _ => rfl
  have kb_NoItem := kbn_of (ps := ["self", "index"]) (ks := ["index"]) FE_NoItem 1 [0, 1] fun _ _ _ _ _ _ us ws h1 h2 => match us, ws, h1, h2 with | [_], [_], _, _ => rfl
  have T_NoLine : ErrTxt K mg "NoLine" "index" C_NoLine f_eNoLine := ⟨⟨⟨_, _, _, _, _, _, _, _, _, _, _, _, _, _, _, x_NoLine, r_NoLine⟩, sa_NoLine, ec_NoLine, tc_NoLine, kc_NoLine⟩, no_NoLine, a_eNoLine, t_eNoLine, (PySem.W.mg_of X G a_NoLine)⟩
  have FE_NoLine := fun_mk (st := s_eNoLine) l_eNoLine c_eNoLine k_eNoLine
  have bE_NoLine := FE_NoLine.binds (ps := ["self", "index"]) fun _ _ _ _ _ _ us hl => match us, hl with | [_, _], _ => rfl
  have kb_NoLine := kbn_of (ps := ["self", "index"]) (ks := ["index"]) FE_NoLine 1 [0, 1] fun _ _ _ _ _ _ us ws h1 h2 => match us, ws, h1, h2 with | [_], [_], _, _ => rfl
  have T_Missing : ErrTxt K mg "Missing" "item" C_Missing f_eMissing := ⟨⟨⟨_, _, _, _, _, _, _, _, _, _, _, _, _, _, _, x_Missing, r_Missing⟩, sa_Missing, ec_Missing, tc_Missing, kc_Missing⟩, no_Missing, a_eMissing, t_eMissing, (PySem.W.mg_of X G a_Missing)⟩
  have FE_Missing := fun_mk (st := s_eMissing) l_eMissing c_eMissing k_eMissing
  have bE_Missing := FE_Missing.binds (ps := ["self", "item"]) fun _ _ _ _ _ _ us hl => match us, hl with | [_, _], _ => rfl
  have kb_Missing := kbn_of (ps := ["self", "item"]) (ks := ["item"]) FE_Missing 1 [0, 1] fun _ _ _ _ _ _ us ws h1 h2 => match us, ws, h1, h2 with | [_], [_], _, _ => rfl
  have T_NoText : ErrTxt K mg "NoText" "line" C_NoText f_eNoText := ⟨⟨⟨_, _, _, _, _, _, _, _, _, _, _, _, _, _, _, x_NoText, r_NoText⟩, sa_NoText, ec_NoText, tc_NoText, kc_NoText⟩, no_NoText, a_eNoText, t_eNoText, (PySem.W.mg_of X G a_NoText)⟩
  have FE_NoText := fun_mk (st := s_eNoText) l_eNoText c_eNoText k_eNoText
  have bE_NoText := FE_NoText.binds (ps := ["self", "line"]) fun _ _ _ _ _ _ us hl => match us, hl with | [_, _], _ => rfl
  have kb_NoText := kbn_of (ps := ["self", "line"]) (ks := ["line"]) FE_NoText 1 [0, 1] fun _ _ _ _ _ _ us ws h1 h2 => match us, ws, h1, h2 with | [_], [_], _, _ => rfl
  have F__law_jar := fun_mk (st := s_jar) l__law_jar c__law_jar k__law_jar
  have bJ := F__law_jar.binds (ps := ["script", "k"]) fun _ _ _ _ _ _ us hl => match us, hl with | [_, _], _ => rfl
  have F__law_draw := fun_mk (st := s_draw) l__law_draw c__law_draw k__law_draw
  have bD := F__law_draw.binds (ps := ["jar", "many"]) fun _ _ _ _ _ _ us hl => match us, hl with | [_, _], _ => rfl
  have F__law_thing := fun_mk (st := s_thing) l__law_thing c__law_thing k__law_thing
  have bT := F__law_thing.binds (ps := ["jar"]) fun _ _ _ _ _ _ us hl => match us, hl with | [_], _ => rfl
  have F__law_same := fun_mk (st := s_same) l__law_same c__law_same k__law_same
  have bS := F__law_same.binds (ps := ["found", "due"]) fun _ _ _ _ _ _ us hl => match us, hl with | [_, _], _ => rfl
  have F__law_classes := fun_mk (st := s_classes) l__law_classes c__law_classes k__law_classes
  have bC := F__law_classes.binds (ps := ["error"]) fun _ _ _ _ _ _ us hl => match us, hl with | [_], _ => rfl
  have F__law_errors := fun_mk (st := s_errors) l__law_errors c__law_errors k__law_errors
  have bE := F__law_errors.binds (ps := ["word", "thing", "by_name"]) fun _ _ _ _ _ _ us hl => match us, hl with | [_, _, _], _ => rfl
  have F__law_holds := fun_mk (st := s_holds) l__law_holds c__law_holds k__law_holds
  have bH := F__law_holds.binds (ps := ["errors", "thing"]) fun _ _ _ _ _ _ us hl => match us, hl with | [_, _], _ => rfl
  have F_law := fun_mk (st := s_law) l_law c_law k_law
  have P_ShownError : PlCl K mg "ShownError" C_ShownError := ⟨xP_ShownError, kc_ShownError, (PySem.W.mg_of X G a_ShownError)⟩
  have P_NoPrices : PlCl K mg "NoPrices" C_NoPrices := ⟨xP_NoPrices, kc_NoPrices, (PySem.W.mg_of X G a_NoPrices)⟩
  have P_NoDoors : PlCl K mg "NoDoors" C_NoDoors := ⟨xP_NoDoors, kc_NoDoors, (PySem.W.mg_of X G a_NoDoors)⟩
  have P_NotRight : PlCl K mg "NotRight" C_NotRight := ⟨xP_NotRight, kc_NotRight, (PySem.W.mg_of X G a_NotRight)⟩
  have P_NothingToUndo : PlCl K mg "NothingToUndo" C_NothingToUndo := ⟨xP_NothingToUndo, kc_NothingToUndo, (PySem.W.mg_of X G a_NothingToUndo)⟩
  refine ⟨PySem.W.fnOf "law" "law" (defArgs s_law) (defBody s_law) (defScope s_law) .none kV_law dc_law pm_law an_law cd_law ct_law, fun s v => .of_eq rfl, fun base _ _ => ?_⟩
  have GJ := ok_jar (P := l.prog) (w := w) (base := base) F__law_jar B
  have GD := ok_draw (P := l.prog) (w := w) (base := base) (K := K) F__law_draw B
  have GT := ok_thing (P := l.prog) (w := w) (base := base) F__law_thing B (PySem.W.mg_of X G a__law_draw) F__law_draw bD
  have GS := ok_same (P := l.prog) (w := w) (base := base) F__law_same B (PySem.W.mg_none_of X G z_bool)
  have NM : Names mg C_ShownError C_NoPrices C_NoDoors C_NotRight C_NothingToUndo C_NoRule C_NoDoor C_NoDeed C_NoItem C_NoLine C_Missing C_NoText := ⟨(PySem.W.mg_of X G a_ShownError), (PySem.W.mg_of X G a_NoPrices), (PySem.W.mg_of X G a_NoDoors), (PySem.W.mg_of X G a_NotRight), (PySem.W.mg_of X G a_NothingToUndo), (PySem.W.mg_of X G a_NoRule), (PySem.W.mg_of X G a_NoDoor), (PySem.W.mg_of X G a_NoDeed), (PySem.W.mg_of X G a_NoItem), (PySem.W.mg_of X G a_NoLine), (PySem.W.mg_of X G a_Missing), (PySem.W.mg_of X G a_NoText)⟩
  have GC := ok_classes (P := l.prog) (w := w) (base := base) F__law_classes B (PySem.W.mg_none_of X G z_ValueError) NM hk
  have E_NoRule : ErrCl l.prog w K mg base "NoRule" "door" C_NoRule f_eNoRule _ := ⟨T_NoRule, ok_eNoRule FE_NoRule T_NoRule, bE_NoRule, kb_NoRule⟩
  have E_NoDoor : ErrCl l.prog w K mg base "NoDoor" "door" C_NoDoor f_eNoDoor _ := ⟨T_NoDoor, ok_eNoDoor FE_NoDoor T_NoDoor, bE_NoDoor, kb_NoDoor⟩
  have E_NoDeed : ErrCl l.prog w K mg base "NoDeed" "index" C_NoDeed f_eNoDeed _ := ⟨T_NoDeed, ok_eNoDeed FE_NoDeed T_NoDeed, bE_NoDeed, kb_NoDeed⟩
  have E_NoItem : ErrCl l.prog w K mg base "NoItem" "index" C_NoItem f_eNoItem _ := ⟨T_NoItem, ok_eNoItem FE_NoItem T_NoItem, bE_NoItem, kb_NoItem⟩
  have E_NoLine : ErrCl l.prog w K mg base "NoLine" "index" C_NoLine f_eNoLine _ := ⟨T_NoLine, ok_eNoLine FE_NoLine T_NoLine, bE_NoLine, kb_NoLine⟩
  have E_Missing : ErrCl l.prog w K mg base "Missing" "item" C_Missing f_eMissing _ := ⟨T_Missing, ok_eMissing FE_Missing T_Missing, bE_Missing, kb_Missing⟩
  have E_NoText : ErrCl l.prog w K mg base "NoText" "line" C_NoText f_eNoText _ := ⟨T_NoText, ok_eNoText FE_NoText T_NoText, bE_NoText, kb_NoText⟩
  have GE := ok_errors (P := l.prog) (w := w) (base := base) F__law_errors P_NoPrices P_NoDoors P_NotRight P_NothingToUndo E_NoRule E_NoDoor E_NoDeed E_NoItem E_NoLine E_Missing E_NoText
  have GH := ok_holds (P := l.prog) (w := w) (base := base) F__law_holds B hk hnd (PySem.W.mg_of X G a__law_classes) k__law_classes bC GC (PySem.W.mg_of X G a__law_same) k__law_same bS GS no_NoRule no_NoDoor no_NoDeed no_NoItem no_NoLine no_Missing no_NoText
  exact ok_law F_law B (PySem.W.mg_none_of X G z_min) P_ShownError nS hk (PySem.W.mg_of X G a__law_jar) k__law_jar bJ GJ (PySem.W.mg_of X G a__law_draw) k__law_draw bD GD (PySem.W.mg_of X G a__law_classes) k__law_classes bC GC (PySem.W.mg_of X G a__law_thing) k__law_thing bT GT (PySem.W.mg_of X G a__law_errors) k__law_errors bE GE (PySem.W.mg_of X G a__law_holds) k__law_holds bH GH

theorem walk {l : PySem.W.OpenLaw} {q : Program} {loose : List Str} {XP : (Str → Option Value) → Heap → Prop} {YP : World → Heap → Prop} {d : DefRec} {K : Params → PySem.W.Frag} (hn : l.most = some 63) (hdf : d.params.defaults = [])
    (hY : ∀ (w : World) (h : Heap), YP w h → (K w.params).In h)
    (F : ∀ (w : World) (mg : Str → Option Value) (fa : Addr) (h : Heap), (K w.params).In h → h.Ns mainGlobals mg → mg d.name = some (.ref fa) →
      ∃ fd : FuncData, (∀ (s : Shared) (u : Value), BindsTo s fd ⟨[u], []⟩ [("script", u)]) ∧ ∀ base : Heap, (K w.params).In base → base.Ns mainGlobals mg → FnOk l.prog w (K w.params) mg base CX0 4 fa fd ["script"] (spLaw (K w.params))) :
    PySem.W.WalkO q loose XP YP l.row.toRowW d [] (fun f vs => PySem.call f vs) :=
  L2.walk_of (n := 63) (k := 4) (x := "script") (CX := fun _ => CX0) (sp := fun w => spLaw (K w.params)) hn (by decide) hdf ⟨rfl, by decide, by decide⟩ hY F (fun _ _ a ns hl _ hS => ⟨a, ns, rfl, hS, hl, fun _ => rfl⟩) fun _ _ _ _ _ z => z
end Sh

open PySem PySem.W PyProof.Rows
set_option maxRecDepth 100000 in
set_option maxHeartbeats 0 in
theorem PySem.Challenge.cw_lastshown_k00_errors_holds : PySem.Challenge.rw_lastshown_k00_errors.Holds := by
  w_on; o_law; k_head; (case hw => w_witness2)
  k_fill
  refine Sh.walk (l := PySem.Challenge.rw_lastshown_k00_errors) rfl rfl (fun w h Y => PySem.W.kIn_of Y) ?F
  case F =>
    intro w mg fa h KX G hmg
    refine' Sh.all_mk KX G hmg ?z_int ?z_len ?z_abs ?z_max ?z_min ?z_range ?z_tuple ?z_str ?z_isinstance ?z_all ?z_zip ?z_bool ?z_ValueError ?a_ShownError ?xP_ShownError ?kc_ShownError ?a_NoPrices ?xP_NoPrices ?kc_NoPrices ?a_NoDoors ?xP_NoDoors ?kc_NoDoors ?a_NotRight ?xP_NotRight ?kc_NotRight ?a_NothingToUndo ?xP_NothingToUndo ?kc_NothingToUndo ?a_NoRule ?x_NoRule ?r_NoRule ?sa_NoRule ?no_NoRule ?a_eNoRule ?t_eNoRule ?l_eNoRule ?c_eNoRule ?k_eNoRule ?kc_NoRule ?ec_NoRule ?tc_NoRule ?a_NoDoor ?x_NoDoor ?r_NoDoor ?sa_NoDoor ?no_NoDoor ?a_eNoDoor ?t_eNoDoor ?l_eNoDoor ?c_eNoDoor ?k_eNoDoor ?kc_NoDoor ?ec_NoDoor ?tc_NoDoor ?a_NoDeed ?x_NoDeed ?r_NoDeed ?sa_NoDeed ?no_NoDeed ?a_eNoDeed ?t_eNoDeed ?l_eNoDeed ?c_eNoDeed ?k_eNoDeed ?kc_NoDeed ?ec_NoDeed ?tc_NoDeed ?a_NoItem ?x_NoItem ?r_NoItem ?sa_NoItem ?no_NoItem ?a_eNoItem ?t_eNoItem ?l_eNoItem ?c_eNoItem ?k_eNoItem ?kc_NoItem ?ec_NoItem ?tc_NoItem ?a_NoLine ?x_NoLine ?r_NoLine ?sa_NoLine ?no_NoLine ?a_eNoLine ?t_eNoLine ?l_eNoLine ?c_eNoLine ?k_eNoLine ?kc_NoLine ?ec_NoLine ?tc_NoLine ?a_Missing ?x_Missing ?r_Missing ?sa_Missing ?no_Missing ?a_eMissing ?t_eMissing ?l_eMissing ?c_eMissing ?k_eMissing ?kc_Missing ?ec_Missing ?tc_Missing ?a_NoText ?x_NoText ?r_NoText ?sa_NoText ?no_NoText ?a_eNoText ?t_eNoText ?l_eNoText ?c_eNoText ?k_eNoText ?kc_NoText ?ec_NoText ?tc_NoText ?a__law_jar ?l__law_jar ?c__law_jar ?k__law_jar ?a__law_draw ?l__law_draw ?c__law_draw ?k__law_draw ?a__law_thing ?l__law_thing ?c__law_thing ?k__law_thing ?a__law_same ?l__law_same ?c__law_same ?k__law_same ?a__law_classes ?l__law_classes ?c__law_classes ?k__law_classes ?a__law_errors ?l__law_errors ?c__law_errors ?k__law_errors ?a__law_holds ?l__law_holds ?c__law_holds ?k__law_holds ?a_law ?l_law ?c_law ?k_law ?hk ?hnd ?nS
    (case z_int => k_is)
    (case z_len => k_is)
    (case z_abs => k_is)
    (case z_max => k_is)
    (case z_min => k_is)
    (case z_range => k_is)
    (case z_tuple => k_is)
    (case z_str => k_is)
    (case z_isinstance => k_is)
    (case z_all => k_is)
    (case z_zip => k_is)
    (case z_bool => k_is)
    (case z_ValueError => k_is)
    (case a_ShownError => k_is)
    (case xP_ShownError => k_exc)
    (case kc_ShownError => k_is)
    (case a_NoPrices => k_is)
    (case xP_NoPrices => k_exc)
    (case kc_NoPrices => k_is)
    (case a_NoDoors => k_is)
    (case xP_NoDoors => k_exc)
    (case kc_NoDoors => k_is)
    (case a_NotRight => k_is)
    (case xP_NotRight => k_exc)
    (case kc_NotRight => k_is)
    (case a_NothingToUndo => k_is)
    (case xP_NothingToUndo => k_exc)
    (case kc_NothingToUndo => k_is)
    (case a_NoRule => k_is)
    (case x_NoRule => k_is)
    (case r_NoRule => first | rfl | decide +kernel)
    (case sa_NoRule => k_is)
    (case no_NoRule => k_is)
    (case a_eNoRule => k_is)
    (case t_eNoRule => k_is)
    (case l_eNoRule => k_is)
    (case c_eNoRule => k_is)
    (case k_eNoRule => k_is)
    (case kc_NoRule => k_is)
    (case ec_NoRule => k_is)
    (case tc_NoRule => k_is)
    (case a_NoDoor => k_is)
    (case x_NoDoor => k_is)
    (case r_NoDoor => first | rfl | decide +kernel)
    (case sa_NoDoor => k_is)
    (case no_NoDoor => k_is)
    (case a_eNoDoor => k_is)
    (case t_eNoDoor => k_is)
    (case l_eNoDoor => k_is)
    (case c_eNoDoor => k_is)
    (case k_eNoDoor => k_is)
    (case kc_NoDoor => k_is)
    (case ec_NoDoor => k_is)
    (case tc_NoDoor => k_is)
    (case a_NoDeed => k_is)
    (case x_NoDeed => k_is)
    (case r_NoDeed => first | rfl | decide +kernel)
    (case sa_NoDeed => k_is)
    (case no_NoDeed => k_is)
    (case a_eNoDeed => k_is)
    (case t_eNoDeed => k_is)
    (case l_eNoDeed => k_is)
    (case c_eNoDeed => k_is)
    (case k_eNoDeed => k_is)
    (case kc_NoDeed => k_is)
    (case ec_NoDeed => k_is)
    (case tc_NoDeed => k_is)
    (case a_NoItem => k_is)
    (case x_NoItem => k_is)
    (case r_NoItem => first | rfl | decide +kernel)
    (case sa_NoItem => k_is)
    (case no_NoItem => k_is)
    (case a_eNoItem => k_is)
    (case t_eNoItem => k_is)
    (case l_eNoItem => k_is)
    (case c_eNoItem => k_is)
    (case k_eNoItem => k_is)
    (case kc_NoItem => k_is)
    (case ec_NoItem => k_is)
    (case tc_NoItem => k_is)
    (case a_NoLine => k_is)
    (case x_NoLine => k_is)
    (case r_NoLine => first | rfl | decide +kernel)
    (case sa_NoLine => k_is)
    (case no_NoLine => k_is)
    (case a_eNoLine => k_is)
    (case t_eNoLine => k_is)
    (case l_eNoLine => k_is)
    (case c_eNoLine => k_is)
    (case k_eNoLine => k_is)
    (case kc_NoLine => k_is)
    (case ec_NoLine => k_is)
    (case tc_NoLine => k_is)
    (case a_Missing => k_is)
    (case x_Missing => k_is)
    (case r_Missing => first | rfl | decide +kernel)
    (case sa_Missing => k_is)
    (case no_Missing => k_is)
    (case a_eMissing => k_is)
    (case t_eMissing => k_is)
    (case l_eMissing => k_is)
    (case c_eMissing => k_is)
    (case k_eMissing => k_is)
    (case kc_Missing => k_is)
    (case ec_Missing => k_is)
    (case tc_Missing => k_is)
    (case a_NoText => k_is)
    (case x_NoText => k_is)
    (case r_NoText => first | rfl | decide +kernel)
    (case sa_NoText => k_is)
    (case no_NoText => k_is)
    (case a_eNoText => k_is)
    (case t_eNoText => k_is)
    (case l_eNoText => k_is)
    (case c_eNoText => k_is)
    (case k_eNoText => k_is)
    (case kc_NoText => k_is)
    (case ec_NoText => k_is)
    (case tc_NoText => k_is)
    (case a__law_jar => k_is)
    (case l__law_jar => k_is)
    (case c__law_jar => k_is)
    (case k__law_jar => k_is)
    (case a__law_draw => k_is)
    (case l__law_draw => k_is)
    (case c__law_draw => k_is)
    (case k__law_draw => k_is)
    (case a__law_thing => k_is)
    (case l__law_thing => k_is)
    (case c__law_thing => k_is)
    (case k__law_thing => k_is)
    (case a__law_same => k_is)
    (case l__law_same => k_is)
    (case c__law_same => k_is)
    (case k__law_same => k_is)
    (case a__law_classes => k_is)
    (case l__law_classes => k_is)
    (case c__law_classes => k_is)
    (case k__law_classes => k_is)
    (case a__law_errors => k_is)
    (case l__law_errors => k_is)
    (case c__law_errors => k_is)
    (case k__law_errors => k_is)
    (case a__law_holds => k_is)
    (case l__law_holds => k_is)
    (case c__law_holds => k_is)
    (case k__law_holds => k_is)
    (case a_law => k_is)
    (case l_law => k_is)
    (case c_law => k_is)
    (case k_law => k_is)
    (case hk => first | k_is | rfl)
    (case hnd => decide +kernel)
    (case nS => decide +kernel)

