import PyProof.Rows.All
import Wide.All
import OpenK.AllK
import Wide.FinOn
import HandS.ForMost
import HandS.Wide
import HandS.WideBits
import HandS.IsInst
import HandS.ExcInit
import HandS.Defaults
import HandS.ExcValue
import HandS.ExcField
import HandS.MakeKw
import HandS.Evl
import KE.KExcIs
import PySem.Challenge.RW_hushedasks_k01_errors
set_option Elab.async false
set_option linter.all false
set_option maxRecDepth 100000
namespace Gen
open PySem PySem.Spec PyProof.Rows L2
abbrev VInt (l : List Int) : List V := l.map V.int
def top (i : Nat) : Stmt := PySem.Challenge.pw_hushedasks_k01_errors.main.body.getD i (.Pass ⟨0, 0, 0, 0⟩)
abbrev sCell : Stmt := top 15
abbrev sHash : Stmt := top 16
abbrev sGen : Stmt := top 17
abbrev sRand : Stmt := top 18
/-! ### numbers -/
theorem op_powW {X : Cx} : OpR X (binaryOp .Pow) (rI (fun i j => 0 ≤ j ∧ (Builtin.Int.intBits i : Int) * j ≤ 2 ^ 27) fun i j => .int (i ^ j.toNat)) := opI fun _ _ _ _ _ _ _ hc q => pow_int hc.1 hc.2 q
theorem nab_lt {z : Int} {n : Nat} (h0 : 0 ≤ z) (h : z < ((2 ^ n : Nat) : Int)) : z.natAbs < 2 ^ n := by omega
theorem bits_le {z : Int} {n : Nat} (hn : 0 < n) (h : z.natAbs < 2 ^ n) : Builtin.Int.intBits z ≤ n := by
  unfold Builtin.Int.intBits
  split
  · omega
  · have := PySem.Flt.log2_lt_of hn h
    omega
theorem mod31 {x m : Int} (h0 : 0 < m) (h1 : m ≤ 2147483648) : (x % m).natAbs < 2 ^ 31 := nab_lt (Int.emod_nonneg _ (by omega)) (by have := Int.emod_lt_of_pos x h0; omega)
theorem upd_self {H : Hp} {p : Addr} {o : HO} (h : H p = some o) : upd H p o = H := by
  funext b
  by_cases e : b = p
  · rw [e, upd_same, h]
  · rw [upd_ne e]
/-! ### the promises -/
def spCell (K : PySem.W.Frag) : Sp := fun vs H Q _ => ∃ (a : Addr) (ns : List Int) (i : Nat), vs = [.ref a, .int (i : Int)] ∧ SqL K H a (VInt ns) ∧ ns.length ≤ 63 ∧ ∀ z : Int, Q (.int z) H
def spHash : Sp := fun vs H Q _ => ∃ s i : Int, vs = [.int s, .int i] ∧ 0 ≤ s ∧ s < 2147483647 ∧ 0 ≤ i ∧ i < 1099511627776 ∧ ∀ z : Int, 0 ≤ z → z < 2147483587 → Q (.int z) H
/-- a generator's list: at most n drawn -/
def GenL (n : Int) (g : List V) : Prop := ∃ a b c : Int, g = VInt [a, b, c] ∧ 0 ≤ a ∧ a < 10 ^ 600 ∧ 0 ≤ b ∧ b < 2147483647 ∧ 0 ≤ c ∧ c ≤ n
theorem GenL.mono {n m : Int} {g : List V} (h : GenL n g) (hm : n ≤ m) : GenL m g := by
  obtain ⟨a, b, c, e, h1, h2, h3, h4, h5, h6⟩ := h
  exact ⟨a, b, c, e, h1, h2, h3, h4, h5, by omega⟩
def spGen (K : PySem.W.Frag) : Sp := fun vs H Q _ => ∃ (a : Addr) (ns : List Int) (i : Nat), vs = [.ref a, .int (i : Int)] ∧ SqL K H a (VInt ns) ∧ ns.length ≤ 63 ∧ i ≤ 1000 ∧ ∀ p g, H p = none → GenL (1000 * i) g → Q (.ref p) (upd H p (.lst g))
def spRand : Sp := fun vs H Q _ => ∃ (p : Addr) (b n : Int) (g : List V), vs = [.ref p, .int b] ∧ 1 ≤ b ∧ b < 1152921504606846976 ∧ H p = some (.lst g) ∧ GenL n g ∧ n ≤ 1000000000 ∧
  ∀ (z : Int) (g' : List V), 0 ≤ z → z < b → GenL (n + 3) g' → Q (.int z) (upd H p (.lst g'))
structure GTxt (mg : Str → Option Value) (K : PySem.W.Frag) (fC fH fG fR : Addr) : Prop where
  len : mg "len" = none
  int : mg "int" = none
  max : mg "max" = none
  range : mg "range" = none
  gC : mg "_law_cell" = some (.ref fC)
  gH : mg "_law_hash" = some (.ref fH)
  gG : mg "_law_generator" = some (.ref fG)
  gR : mg "_law_random" = some (.ref fR)
  kC : PySem.W.keepIn K (.ref fC) = true
  kH : PySem.W.keepIn K (.ref fH) = true
  kG : PySem.W.keepIn K (.ref fG) = true
  kR : PySem.W.keepIn K (.ref fR) = true
section
variable {P : Program} {w : World} {K : PySem.W.Frag} {mg : Str → Option Value} {base : Heap} {fC fH fG fR : Addr}
theorem scC : FnScope ["_law_script", "_law_index"] ["_law_script", "_law_index"] (defScope sCell) := ⟨rfl, rfl, rfl, by decide +kernel, rfl, by decide +kernel, by decide +kernel⟩
theorem ok_cell {f : Addr} {fd : FuncData} (F : Fun K "_law_cell" "_law_cell" sCell f fd) (T : GTxt mg K fC fH fG fR) : FnOk P w K mg base CX0 1 f fd ["_law_script", "_law_index"] (spCell K) := by
  refine F.ok scC (fun vs H Q E h => ?_) (fun cdv A outer s H vs Q E hr h => ?_)
  · obtain ⟨a, ns, i, rfl, _⟩ := h
    rfl
  · obtain ⟨a, ns, i, rfl, hS, hl, k⟩ := h
    refine ⟨_, pss_cons (ps_if (pt_cmpR op_lt (pv 1) (pe_callB call_len_seq (by rfl) T.len PySem.boot_len (pa_cons (pv 0) pa_nil)) (nomark _))
      (pss_one (ps_ret (pe_ix ix_list (pv 0) (pv 1) (fun _ _ => rfl)))) pss_nil) (pss_one (ps_ret pe_int)), ?_⟩
    refine ⟨_, rfl, _, rfl, a, _, rfl, .inl hS, _, _, rfl, rfl, _, rfl, ?_⟩
    refine ite2 (fun c => ?_) (fun _ => k 0)
    have c' : i < ns.length := by
      have := of_decide_eq_true c
      rw [List.length_map] at this
      omega
    refine ⟨_, rfl, _, rfl, a, _, _, V.int ns[i], rfl, rfl, hS, atI_nat ?_, k _⟩
    rw [List.getElem?_map, List.getElem?_eq_getElem c']
    rfl

theorem scH : FnScope ["_law_seed", "_law_index", "_law_mixed"] ["_law_seed", "_law_index"] (defScope sHash) := ⟨rfl, rfl, rfl, by decide +kernel, rfl, by decide +kernel, by decide +kernel⟩
theorem ok_hash {f : Addr} {fd : FuncData} (F : Fun K "_law_hash" "_law_hash" sHash f fd) (T : GTxt mg K fC fH fG fR) : FnOk P w K mg base CX0 1 f fd ["_law_seed", "_law_index"] spHash := by
  refine F.ok scH (fun vs H Q E h => ?_) (fun cdv A outer s H vs Q E hr h => ?_)
  · obtain ⟨a, i, rfl, _⟩ := h
    rfl
  · obtain ⟨a, i, rfl, ha0, ha1, hi0, hi1, k⟩ := h
    refine ⟨_, pss_cons (ps_set (i := 2) scH.nd rfl (Or.inl rfl) (pe_op op_mod
        (pe_callTy call_int1 (by rfl) T.int (by decide +kernel) (pa_cons (pe_op op_add (pe_op op_add (pe_op op_add (pe_op op_mulX (pv 0) pe_int) (pe_op op_mulX (pe_op op_mulX pe_int (pv 1)) (pv 1))) (pv 1)) pe_int) pa_nil)) pe_int))
      (pss_cons (ps_set (i := 2) scH.nd rfl (Or.inl rfl) (pe_op op_mod (pe_callTy call_int1 (by rfl) T.int (by decide +kernel) (pa_cons (pe_op op_add (pe_op op_mulX (pv 2) (pv 2)) pe_int) pa_nil)) pe_int))
      (pss_one (ps_ret (pe_op op_mod (pe_callTy call_int1 (by rfl) T.int (by decide +kernel) (pa_cons (pe_op op_mulX (pv 2) pe_int) pa_nil)) pe_int)))), ?_⟩
    have b1 : a.natAbs < 2 ^ 31 := nab_lt ha0 (by omega)
    have b2 : i.natAbs < 2 ^ 40 := nab_lt hi0 (by omega)
    have b3 : (7919 * i : Int).natAbs < 2 ^ 60 := nab_lt (by omega) (by omega)
    refine ⟨_, rfl, _, _, rfl, rfl, mulx_ok b1 (b := 31) (by decide) (by decide), _, rfl, _, _, rfl, rfl, mulx_ok (a := 13) (by decide) b2 (by decide), _, rfl, _, _, rfl, rfl, mulx_ok b3 b2 (by decide), _, _, rfl, rfl, _, rfl, _, _, rfl, rfl, _, _, rfl, rfl, .inl ⟨_, rfl, ?_⟩⟩
    refine ⟨_, _, rfl, rfl, (by show (0 : Int) < 2147483647; decide), ?_⟩
    refine ⟨_, rfl, _, rfl, _, _, rfl, rfl, mulx_ok (a := 31) (b := 31) (mod31 (by decide) (by decide)) (mod31 (by decide) (by decide)) (by decide), _, _, rfl, rfl, .inl ⟨_, rfl, _, _, rfl, rfl, (by show (0 : Int) < 2147483629; decide), ?_⟩⟩
    refine ⟨_, rfl, _, _, rfl, rfl, mulx_ok (a := 31) (b := 31) (mod31 (by decide) (by decide)) (by decide) (by decide), .inl ⟨_, rfl, _, _, rfl, rfl, (by show (0 : Int) < 2147483587; decide), ?_⟩⟩
    exact k _ (Int.emod_nonneg _ (by decide)) (Int.emod_lt_of_pos _ (by decide))
theorem scG : FnScope ["_law_script", "_law_index", "_law_seed"] ["_law_script", "_law_index"] (defScope sGen) := ⟨rfl, rfl, rfl, by decide +kernel, rfl, by decide +kernel, by decide +kernel⟩
theorem ok_gen {f : Addr} {fd fdC : FuncData} (F : Fun K "_law_generator" "_law_generator" sGen f fd) (T : GTxt mg K fC fH fG fR) (FC : Fun K "_law_cell" "_law_cell" sCell fC fdC) (bC : Binds K fdC ["_law_script", "_law_index"] []) :
    FnOk P w K mg base CX0 2 f fd ["_law_script", "_law_index"] (spGen K) := by
  have GC : FnOk P w K mg base CX0 1 fC fdC ["_law_script", "_law_index"] (spCell K) := ok_cell FC T
  refine F.ok scG (fun vs H Q E h => ?_) (fun cdv A outer s H vs Q E hr h => ?_)
  · obtain ⟨a, ns, i, rfl, _⟩ := h
    rfl
  · obtain ⟨a, ns, i, rfl, hS, hl, hi, k⟩ := h
    refine ⟨_, pss_cons (ps_set (i := 2) scG.nd rfl (Or.inl rfl) (pe_call GC hr rfl T.gC T.kC bC .nil pass0 (pa_cons (pv 0) (pa_cons (pv 1) pa_nil))))
      (pss_one (ps_ret (pe_lst (pa_cons (pe_op op_mod (pe_callTy call_int1 (by rfl) T.int (by decide +kernel) (pa_cons (pe_callB (call_max2 rfl) (by rfl) T.max (by decide +kernel) (pa_cons (pe_op op_sub (pv 2) (pe_op op_pow pe_int pe_int)) (pa_cons pe_int pa_nil))) pa_nil)) (pe_op op_powW (pe_op op_pow pe_int pe_int) pe_int))
        (pa_cons (pe_op op_mod (pe_callTy call_int1 (by rfl) T.int (by decide +kernel) (pa_cons (pv 2) pa_nil)) pe_int) (pa_cons (pe_op op_mulX pe_int (pv 1)) pa_nil)))))), ?_⟩
    refine ⟨_, rfl, _, rfl, a, ns, i, rfl, hS, hl, fun z => ?_⟩
    refine ⟨_, rfl, _, _, rfl, rfl, ?_, _, _, rfl, rfl, _, _, rfl, .inl ⟨_, rfl, ?_⟩⟩
    · exact ⟨by decide, by decide, by decide⟩
    refine ⟨_, _, rfl, rfl, ?_, ?_⟩
    · exact ⟨by decide, by decide, by decide⟩
    refine ⟨_, _, rfl, rfl, ⟨by decide, ?_⟩, _, _, rfl, rfl, ?_, ?_⟩
    · decide +kernel
    · show (0 : Int) < (10 ^ 60) ^ 10
      decide +kernel
    refine ⟨_, rfl, .inl ⟨_, rfl, _, _, rfl, rfl, (by show (0 : Int) < 2147483647; decide), ?_⟩⟩
    refine ⟨_, rfl, _, _, rfl, rfl, mulx_ok (a := 10) (b := 10) (by decide) (by omega) (by decide), ?_⟩
    refine ⟨by show 3 ≤ sizeLine; decide, fun p hp => ?_⟩
    refine k p _ hp ⟨_, _, _, rfl, Int.emod_nonneg _ (by decide +kernel), ?_, Int.emod_nonneg _ (by decide), Int.emod_lt_of_pos _ (by decide), by omega, Int.le_refl _⟩
    refine Int.lt_of_lt_of_le (Int.emod_lt_of_pos _ (by decide +kernel)) ?_
    decide +kernel

theorem lt_pow3 {d : Int} {i : Nat} (h0 : 0 ≤ d) (hi : i ≤ 3) (h : d < (4294967296 : Int) ^ i) : d.natAbs < 2 ^ 100 := by
  refine nab_lt h0 (Int.lt_of_lt_of_le h ?_)
  match i, hi with
  | 0, _ => decide
  | 1, _ => decide
  | 2, _ => decide
  | 3, _ => decide
  | (n + 4), h => omega
theorem step_pow {d h : Int} {i : Nat} (h0 : 0 ≤ d) (hd : d < (4294967296 : Int) ^ i) (g0 : 0 ≤ h) (g1 : h < 2147483587) : d * 2147483587 + h < (4294967296 : Int) ^ (i + 1) := by
  rw [Int.pow_succ]
  generalize (4294967296 : Int) ^ i = M at *
  omega
theorem scR : FnScope ["_law_generator_here", "_law_bound", "_law_drawn", "_law_turn"] ["_law_generator_here", "_law_bound"] (defScope sRand) := ⟨rfl, rfl, rfl, by decide +kernel, rfl, by decide +kernel, by decide +kernel⟩
theorem ok_rand {f : Addr} {fd fdH : FuncData} (F : Fun K "_law_random" "_law_random" sRand f fd) (T : GTxt mg K fC fH fG fR) (FH : Fun K "_law_hash" "_law_hash" sHash fH fdH) (bH : Binds K fdH ["_law_seed", "_law_index"] []) :
    FnOk P w K mg base CX0 2 f fd ["_law_generator_here", "_law_bound"] spRand := by
  have GH : FnOk P w K mg base CX0 1 fH fdH ["_law_seed", "_law_index"] spHash := ok_hash FH T
  refine F.ok scR (fun vs H Q E h => ?_) (fun cdv A outer s H vs Q E hr h => ?_)
  · obtain ⟨p, b, n, g, rfl, _⟩ := h
    rfl
  · obtain ⟨p, b, n, g, rfl, hb1, hb2, hp, ⟨g0, g1, g2, rfl, ha0, ha1, hs0, hs1, hc0, hc1⟩, hn, k⟩ := h
    refine ⟨_, pss_cons (ps_if (pt_cmpR op_gt (pe_ix ix_list (pv 0) pe_int (fun _ _ => rfl)) pe_int (nomark _))
      (pss_cons (ps_set (i := 2) scR.nd rfl (Or.inl rfl) (pe_op op_mod (pe_callTy call_int1 (by rfl) T.int (by decide +kernel) (pa_cons (pe_ix ix_list (pv 0) pe_int (fun _ _ => rfl)) pa_nil)) (pv 1)))
        (pss_cons (ps_asg (pe_op op_fdivW (pe_ix ix_list (pv 0) pe_int (fun _ _ => rfl)) (pv 1)) (pg_sub (pv 0) pe_int set_list))
        (pss_one (ps_ret (pv 2))))) pss_nil)
      (pss_cons (ps_set (i := 2) scR.nd rfl (Or.inl rfl) pe_int)
      (pss_cons (ps_for PassesOwn.never rfl (pi_range1 rfl T.range (pa_cons (pe_op op_add pe_int (pe_op op_fdiv (pe_bits (pv 1)) pe_int)) pa_nil)) (pg_name (i := 3) scR.nd rfl (Or.inl rfl))
        (pss_cons (ps_asg (pe_op op_add (pe_ix ix_list (pv 0) pe_int (fun _ _ => rfl)) pe_int) (pg_sub (pv 0) pe_int set_list))
        (pss_one (ps_set (i := 2) scR.nd rfl (Or.inl rfl) (pe_op op_add (pe_op op_mulX (pv 2) pe_int) (pe_call GH hr rfl T.gH T.kH bH .nil pass0 (pa_cons (pe_ix ix_list (pv 0) pe_int (fun _ _ => rfl)) (pa_cons (pe_ix ix_list (pv 0) pe_int (fun _ _ => rfl)) pa_nil))))))))
      (pss_one (ps_ret (pe_op op_mod (pe_callTy call_int1 (by rfl) T.int (by decide +kernel) (pa_cons (pv 2) pa_nil)) (pv 1)))))), ?_⟩
    refine ⟨_, rfl, p, _, _, V.int g0, rfl, rfl, SqL.of hp, atI_nat (j := 0) rfl, _, _, rfl, rfl, _, rfl, ?_⟩
    refine ite2 (fun c => ?_) (fun _ => ?_)
    · have c' : 0 < g0 := of_decide_eq_true c
      refine ⟨_, rfl, p, _, _, V.int g0, rfl, rfl, SqL.of hp, atI_nat (j := 0) rfl, .inl ⟨_, rfl, ?_⟩⟩
      refine ⟨_, rfl, _, _, rfl, rfl, (by show 0 < b; omega), ?_⟩
      refine ⟨_, rfl, p, _, _, V.int g0, rfl, rfl, SqL.of hp, atI_nat (j := 0) rfl, _, rfl, _, _, rfl, rfl, wide_div (b := 60) (by omega) (nab_lt (by omega) (by omega)) (by decide) (by decide), ?_⟩
      refine ⟨_, rfl, p, _, _, 0, rfl, rfl, hp, rfl, ?_⟩
      refine ⟨_, rfl, ?_⟩
      refine k _ _ (Int.emod_nonneg _ (by omega)) (Int.emod_lt_of_pos _ (by omega)) ⟨g0 / b, g1, g2, rfl, Int.ediv_nonneg (by omega) (by omega), Int.lt_of_le_of_lt (Int.ediv_le_self _ (by omega)) ha1, hs0, hs1, hc0, by omega⟩
    · have hbits : Builtin.Int.intBits b ≤ 60 := bits_le (by decide) (nab_lt (by omega) (by omega))
      have hm : (1 + ((Builtin.Int.intBits b : Nat) : Int) / 30) = ((1 + Builtin.Int.intBits b / 30 : Nat) : Int) := by omega
      have hm3 : 1 + Builtin.Int.intBits b / 30 ≤ 3 := by omega
      refine ⟨_, rfl, _, rfl, _, _, rfl, rfl, ⟨by decide, by decide⟩, _, _, rfl, rfl, ?_⟩
      refine ⟨_, rfl, by omega, by omega, ?_⟩
      have e : (1 + ((Builtin.Int.intBits b : Nat) : Int) / 30).toNat = 1 + Builtin.Int.intBits b / 30 := by omega
      refine for_range (lo := 0) (n := (1 + ((Builtin.Int.intBits b : Nat) : Int) / 30 - 0).toNat) (fun i σ H' => ∃ (d c : Int) (v : Option V), σ = [some (.ref p), some (.int b), some (.int d), v] ∧ H' = upd H p (.lst (VInt [g0, g1, c])) ∧ 0 ≤ d ∧ d < (4294967296 : Int) ^ i ∧ g2 ≤ c ∧ c ≤ g2 + i) ?_ ?_ ?_
      · exact ⟨0, g2, none, rfl, (upd_self hp).symm, Int.le_refl _, by decide, Int.le_refl _, by omega⟩
      · rintro i σ H' hi ⟨d, c, v, rfl, rfl, hd0, hd1, hcl, hcu⟩
        have hi3 : i < 3 := by omega
        refine ⟨_, rfl, p, _, _, V.int c, rfl, rfl, SqL.of upd_same, atI_nat (j := 2) rfl, _, _, rfl, rfl, ?_⟩
        refine ⟨_, rfl, p, _, _, 2, rfl, rfl, upd_same, rfl, ?_⟩
        rw [upd_upd]
        refine ⟨_, rfl, _, _, rfl, rfl, mulx_ok (a := 100) (b := 31) (lt_pow3 hd0 (by omega) hd1) (by decide) (by decide), ?_⟩
        refine ⟨_, rfl, p, _, _, V.int g1, rfl, rfl, SqL.of upd_same, atI_nat (j := 1) rfl, ?_⟩
        refine ⟨_, rfl, p, _, _, V.int (c + 1), rfl, rfl, SqL.of upd_same, atI_nat (j := 2) rfl, ?_⟩
        refine ⟨_, _, rfl, hs0, hs1, by omega, by omega, fun z hz0 hz1 => ⟨_, _, rfl, rfl, ?_⟩⟩
        refine ⟨_, _, _, rfl, rfl, by omega, step_pow hd0 hd1 hz0 hz1, by omega, by omega⟩
      · rintro σ H' ⟨d, c, v, rfl, rfl, hd0, hd1, hcl, hcu⟩
        refine ⟨_, rfl, .inl ⟨_, rfl, _, rfl, _, _, rfl, rfl, (by show 0 < b; omega), ?_⟩⟩
        refine k _ _ (Int.emod_nonneg _ (by omega)) (Int.emod_lt_of_pos _ (by omega)) ⟨g0, g1, c, rfl, ha0, ha1, hs0, hs1, by omega, by omega⟩
end
end Gen
/-! ### a call of an own exception class with keywords too -/
namespace PySem
namespace KwX
open PySem.W PySem.Calls PyProof.Rows PySem.HandSPX Builtin Builtin.ObjectAttr
section
variable {M : Model} {A : Around} {E : Value → Shared → Prop} {hp : Heap} {ge : Array GenState} {dr : Drawn} {tk : Nat} {oz : OsState}
variable {cn cq : Str} {C nsA : Addr} {bl ml ml0 : List Value} {hd : Bool} {slo : List Str} {subs : List Value} {abst : Bool} {cl : Option Bool} {di : Option Addr} {s0 s1 s2 s3 s5 : Option Value} {nB nI iI : String}
theorem kw_check_new (F : ExcBaseFacts nB nI iI ml0) (hT : ∀ T : String, ml.contains (.type T) = ml0.contains (.type T)) {us : List Value} {kv : List (Str × Value)} {Q : Unit → Shared → Prop}
    (gC : hp.get? C = some (excClassObj cn cq C nsA bl ml hd slo subs abst cl di s0 s1 s2 s3 s5 nI)) (hq : Q () ⟨hp, ge, dr, tk, oz⟩) :
    wpAny M A (checkBuiltinCall nI ⟨.ref C :: us, kv⟩) Q E ⟨hp, ge, dr, tk, oz⟩ := by
  have c1 : (Value.ref C :: ml).contains (.type nB) = true := by
    rw [List.contains_cons, hT, F.hasB, Bool.or_true]
  have _st := F.noStar
  simp only [checkBuiltinCall, F.newKind, F.newRow, F.newSplit]
  repeat (first
    | refine wpAny_loadPart_at gC ?_
    | (refine wpAny_isSubtype_exc gC ?_; rw [c1])
    | refine wpAny_staticBase_exc gC ?_
    | refine wpAny_madeBy_exc gC ?_
    | simp only [bne_self_eq_false, Bool.false_eq_true, if_false]
    | wp_step)
  exact hq
end
section
variable {prog : Program} {w : World} {A : Around} {E : Value → Shared → Prop} {R : Result → Shared → Prop} {hp : Heap} {ge : Array GenState} {dr : Drawn} {tk : Nat} {oz : OsState}
variable {cn cq : Str} {C nsA : Addr} {bl ml ml0 : List Value} {hd : Bool} {slo : List Str} {subs : List Value} {abst : Bool} {cl : Option Bool} {di : Option Addr} {s0 s1 s2 s3 s5 : Option Value} {nB nI iI : String}
theorem kw_new (F : ExcBaseFacts nB nI iI ml0) (hT : ∀ T : String, ml.contains (.type T) = ml0.contains (.type T)) {us : List Value} {kv : List (Str × Value)}
    (gC : hp.get? C = some (excClassObj cn cq C nsA bl ml hd slo subs abst cl di s0 s1 s2 s3 s5 nI)) (hz : us.length ≤ sizeLine)
    (hq : R (.ok (.ret (.ref (hp.objs.size + 1)))) ⟨(hp.push (W.kdv_tup us)).push (excO C hp.objs.size), ge, dr, tk, oz⟩) :
    codeAny (model prog w) A (.builtin nI ⟨.ref C :: us, kv⟩) R ⟨hp, ge, dr, tk, oz⟩ := by
  have e1 := F.ends
  have c1 : (Value.ref C :: ml).contains (.type nB) = true := by
    rw [List.contains_cons, hT, F.hasB, Bool.or_true]
  have c2 : (Value.ref C :: ml).contains (.type "AttributeError") = false := by
    rw [List.contains_cons, hT, F.noAttr]
    rfl
  have c3 : (Value.ref C :: ml).contains (.type "NameError") = false := by
    rw [List.contains_cons, hT, F.noName]
    rfl
  refine codeAny_builtinAt F.entry ?_
  unfold Builtin.«BaseException.__new__»
  refine wpAt_bind ?_
  show wpAt _ _ _ (stack >>= _) _ _ _
  refine wpAt_bind (wpAt_stack fun _ _ => wpAt_of_wpAny ?_)
  wp_walk
  refine wpAt_of_wpAny ?_
  rw [F.owner]
  repeat (first
    | with_reducible refine wpAny_madeHere_exc F.canon gC ?_
    | with_reducible refine wpAny_loadPart_at gC ?_
    | (with_reducible refine wpAny_isSubtype_exc gC ?_; first | rw [c1] | rw [c2] | rw [c3])
    | wp_step)
  show R _ _
  rw [Heap.size_push]
  exact hq
theorem kw_tcall (F : ExcBaseFacts nB nI iI ml0) (hT : ∀ T : String, ml.contains (.type T) = ml0.contains (.type T)) {us : List Value} {kv : List (Str × Value)} {fI : Addr} {Q : Fin → Shared → Prop}
    (gC : hp.get? C = some (excClassObj cn cq C nsA bl ml hd slo subs abst cl di s0 s1 s2 s3 s5 nI)) (hz : us.length ≤ sizeLine)
    (li : W.Looks (model prog w) hp (typeLookup (.ref C) "__init__") (some (.ref fI))) (lb : ∀ self, W.Looks (model prog w) hp (bindSpecial (.ref fI) self) (.ref fI, [self]))
    (hq : codeAny (model prog w) A (.call (.ref fI) ⟨.ref (hp.objs.size + 1) :: us, kv⟩)
      (fun r s' => match r with
        | .ok (.ret v) => v = .none ∧ Q (.done (.ret (.ref (hp.objs.size + 1)))) s'
        | .ok _ => False
        | .error e => E e s') ⟨(hp.push (W.kdv_tup us)).push (excO C hp.objs.size), ge, dr, tk, oz⟩) :
    wpAny (model prog w) A (Builtin.«type.__call__» ⟨.ref C :: us, kv⟩) Q E ⟨hp, ge, dr, tk, oz⟩ := by
  repeat (first
    | with_reducible refine wpAny_loadPart_at gC ?_
    | with_reducible refine wpAny_madeBy_exc gC ?_
    | wp_step)
  refine codeAny_call_builtin_code (Code.quiet_builtin _ F.quiet) (kw_check_new F hT gC ?_)
  refine kw_new F hT gC hz ?_
  show wpAny _ _ _ _ _ _
  have kk : ∀ b o, hp.get? b = some o → ((hp.push (W.kdv_tup us)).push (excO C hp.objs.size)).get? b = some o :=
    fun b o z => Heap.get?_push_of_some _ (Heap.get?_push_of_some _ z)
  have gC2 := kk _ _ gC
  have gx : ((hp.push (W.kdv_tup us)).push (excO C hp.objs.size)).get? (hp.objs.size + 1) = some (excO C hp.objs.size) := by heap_get
  have c4 : (Value.ref C :: ml).contains (.ref C) = true := by simp
  have l1 := li.keeps kk
  have l2 := (lb (.ref (hp.objs.size + 1))).keeps kk
  unfold isInstance
  repeat (first
    | with_reducible refine wpAny_loadPart_at gx ?_
    | (with_reducible refine wpAny_isSubtype_exc gC2 ?_; rw [c4])
    | wp_step)
  show wpAny _ _ (typeLookup (.ref C) _) _ _ _
  refine l1.at ?_
  refine wpAny_holding (wpAny_bind (l2.at ?_))
  refine wpAny_bind (wpAny_call (codeAny_mono hq fun r s' z => ?_))
  rcases r with er | (v | _ | _ | _)
  all_goals first
    | exact z
    | exact False.elim z
    | (obtain ⟨rfl, z'⟩ := z; exact wpAny_pure (wpAny_pure z'))
    | (obtain ⟨rfl, z'⟩ := z; wp_walk; exact z')
    | (obtain ⟨rfl, z'⟩ := z; wp_walk)
theorem kw_own (F : ExcBaseFacts nB nI iI ml0) (hT : ∀ T : String, ml.contains (.type T) = ml0.contains (.type T)) {us : List Value} {kv : List (Str × Value)} {fI : Addr}
    (gC : hp.get? C = some (excClassObj cn cq C nsA bl ml hd slo subs abst cl di s0 s1 s2 s3 s5 nI)) (hz : us.length ≤ sizeLine)
    (li : W.Looks (model prog w) hp (typeLookup (.ref C) "__init__") (some (.ref fI))) (lb : ∀ self, W.Looks (model prog w) hp (bindSpecial (.ref fI) self) (.ref fI, [self]))
    (hq : codeAny (model prog w) (A.under (.builtin "type.__call__" ⟨.ref C :: us, kv⟩)) (.call (.ref fI) ⟨.ref (hp.objs.size + 1) :: us, kv⟩) (W.InitBack (hp.objs.size + 1) R)
      ⟨(hp.push (W.kdv_tup us)).push (excO C hp.objs.size), ge, dr, tk, oz⟩) :
    codeAny (model prog w) A (.call (.ref C) ⟨us, kv⟩) R ⟨hp, ge, dr, tk, oz⟩ := by
  have _t1 := tc_lookup
  have _t2 := tc_bind (.ref C)
  have _t3 := tc_sub
  have ty : (⟨hp, ge, dr, tk, oz⟩ : Shared).TypeIs (.ref C) "type" := ⟨_, gC, rfl⟩
  refine codeAny_of_tree ?_
  show wpAny _ _ (callAny (.ref C) _) _ _ _
  repeat (any_goals (first
    | assumption
    | with_reducible refine wpAny_loadPart_at gC ?_
    | wp_step))
  refine ⟨rfl, ?_⟩
  have ck : ∀ {Q : Unit → Shared → Prop} {A' : Around} {E' : Value → Shared → Prop}, Q () ⟨hp, ge, dr, tk, oz⟩ → wpAny (model prog w) A' (checkBuiltinCall "type.__call__" ⟨.ref C :: us, kv⟩) Q E' ⟨hp, ge, dr, tk, oz⟩ := by
    intro Q A' E' q
    simp only [checkBuiltinCall, tc_kind, tc_split]
    repeat (any_goals (first
      | assumption
      | with_reducible refine wpAny_loadPart_at gC ?_
      | with_reducible refine wpAny_onRaise ?_
      | with_reducible refine wpAny_map ?_
      | wp_step))
  refine codeAny_call_builtin_at (Code.quiet_builtin _ (by decide +kernel)) entry_typeCall (ck (kw_tcall F hT gC hz li lb ?_))
  refine codeAny_mono hq fun r s' z => ?_
  rcases r with e | (v | _ | _ | _) <;> exact z
end
end KwX
end PySem
/-! ### errors of own classes as values -/
namespace ExV
open PySem PySem.Spec PyProof.Rows L2 Evl
/-- at a: an error of the class at C; its field -/
def ErrAt (H : Hp) (a C : Addr) (f : Str) (y : V) : Prop := ∃ dx, H a = some (exo a C (some dx)) ∧ H dx = some (exd dx [(f, y)])
theorem ErrAt.ex {H H' : Hp} {a C : Addr} {f : Str} {y : V} (e : Ex H H') (h : ErrAt H a C f y) : ErrAt H' a C f y := by
  obtain ⟨dx, h1, h2⟩ := h
  exact ⟨dx, e _ _ h1, e _ _ h2⟩
/-- what the written part says of a class with its own __init__ -/
structure Own (K : PySem.W.Frag) (C fI : Addr) : Prop where
  ox : OexC K C
  iC : PySem.W.findIn K (.ref C) "__init__" = some (some (.ref fI))
  tI : PySem.W.typeIn K (.ref fI) = some (.type "function")
def spInitE (C : Addr) (f : Str) : Sp := fun vs H Q _ => ∃ a y, vs = [.ref a, y] ∧ H a = some (exo a C none) ∧ ∀ dx, H dx = none → dx ≠ a → Q .non (upd (upd H dx (exd dx [(f, y)])) a (exo a C (some dx)))
section
variable {X : Cx} {k : Nat} {fI C : Addr} {fd : FuncData} {f : Str} {x : Str} {p pos apos : Pos} {e : Expr}
theorem run_err {pins : List (Addr × Obj)} {σ : L2.St} {H : Hp} {s : Shared} {Q : VK} {us : List Value} {kv : List (Str × Value)} {y : V} {u : Value} (O : Own X.K C fI) (F1 : FnOk X.prog X.w X.K X.mg X.base CX0 k fI fd ["self", f] (spInitE C f)) (hr : Room (k + 1) X.A)
    (I : Inv X pins σ H s) (r : RelV y u) (hz : us.length ≤ sizeLine) (hb : ∀ (s : Shared) (self : Value), X.K.In s.heap → BindsTo s fd ⟨self :: us, kv⟩ ((["self", f] : List Str).zip [self, u]))
    (h : ∀ a H2, H a = none → Ex H H2 → ErrAt H2 a C f y → Q (.ref a) H2) : wpAny (model X.prog X.w) X.A (call (.ref C) us kv) (EP X pins σ Q) X.xe s := by
  obtain ⟨nm, q, N, bs, bm, sn, sub, ab, col, dd, k0, k1, k2, k3, k5, hC, hbm⟩ := O.ox.cls
  obtain ⟨hp, g, dr, tk, os⟩ := s
  have hsz : hp.objs.size ≤ hp.objs.size + 1 := Nat.le_succ _
  have hn : H (hp.objs.size + 1) = none := I.hok.fresh hsz
  have hsp : spInitE C f [.ref (hp.objs.size + 1), y] (upd H (hp.objs.size + 1) (exo (hp.objs.size + 1) C none)) (fun v H2 => v = .non ∧ Q (.ref (hp.objs.size + 1)) H2) E0 := by
    refine ⟨_, y, rfl, upd_same, fun dx hd ne => ⟨rfl, ?_⟩⟩
    have hd' : H dx = none := by
      rw [upd_ne ne] at hd
      exact hd
    refine h _ _ hn (fun b o z => ?_) ⟨dx, upd_same, ?_⟩
    · have n1 : b ≠ hp.objs.size + 1 := ne_of_none z hn
      have n2 : b ≠ dx := ne_of_none z hd'
      rw [upd_ne n1, upd_ne n2, upd_ne n1]
      exact z
    · rw [upd_ne ne, upd_same]
  have kk : ∀ b o, hp.get? b = some o → ((hp.push (PySem.W.kdv_tup us)).push (PySem.HandSPX.excO C hp.objs.size)).get? b = some o :=
    fun b o z => Heap.get?_push_of_some _ (Heap.get?_push_of_some _ z)
  have gx : ((hp.push (PySem.W.kdv_tup us)).push (PySem.HandSPX.excO C hp.objs.size)).get? (hp.objs.size + 1) = some (PySem.HandSPX.excO C hp.objs.size) := by heap_get
  have I2 : Inv X pins σ (upd H (hp.objs.size + 1) (exo (hp.objs.size + 1) C none)) ⟨(hp.push (PySem.W.kdv_tup us)).push (PySem.HandSPX.excO C hp.objs.size), g, dr, tk, os⟩ :=
    I.laid (t' := tk) (a := hp.objs.size + 1) (o := exo (hp.objs.size + 1) C none) (h' := (hp.push (PySem.W.kdv_tup us)).push (PySem.HandSPX.excO C hp.objs.size)) kk hsz (exo_ok gx)
  have r2 : Vals [V.ref (hp.objs.size + 1), y] [Value.ref (hp.objs.size + 1), u] := .cons rfl (.cons r .nil)
  refine wpAny_call (PySem.KwX.kw_own F.excBase_ValueError (fun Y => PySem.HandSPX.refsVE_contains Y bm hbm) (I.kIn _ _ hC) hz (PySem.W.looks_findIn I.kIn O.iC) (fun self => PySem.W.bind_fn I.kIn self O.tI)
    (codeAny_mono (F1.run _ X.stack _ _ ⟨Value.ref (hp.objs.size + 1) :: us, kv⟩ [Value.ref (hp.objs.size + 1), u] [V.ref (hp.objs.size + 1), y] _ E0 (hr.make C us kv) (I2.env0.make C us kv) (hb _ _ I2.kIn) r2 hsp) fun r s' hq' => ?_))
  cases r with
  | error er => exact False.elim hq'
  | ok fl =>
    cases fl with
    | ret u' =>
      obtain ⟨v, H', I3, rv, ev, q3⟩ := I2.after hq'
      subst ev
      exact ⟨rv, ⟨V.ref (hp.objs.size + 1), H', I3, rfl, q3⟩⟩
    | next => exact False.elim hq'
    | brk => exact False.elim hq'
    | cont => exact False.elim hq'
/-- C(e) | C(f = e) | C() -/
def tErr (C : Addr) (f : Str) (ta : TA) : TE := fun σ H Q => ta σ H fun vs H1 => ∃ y, vs = [y] ∧ ∀ a H2, H1 a = none → Ex H1 H2 → ErrAt H2 a C f y → Q (.ref a) H2
def tErr0 (C : Addr) (f : Str) : TE := fun _ H Q => ∀ a H2, H a = none → Ex H H2 → ErrAt H2 a C f .non → Q (.ref a) H2
theorem pe_err (O : Own X.K C fI) (F1 : FnOk X.prog X.w X.K X.mg X.base CX0 k fI fd ["self", f] (spInitE C f)) (hr : Room (k + 1) X.A) (hm : X.mg x = some (.ref C)) (hg : Gl X x) {ta : TA} (ha : PA X [e] ta)
    (hb : ∀ (s : Shared) (self u : Value), X.K.In s.heap → BindsTo s fd ⟨[self, u], []⟩ ((["self", f] : List Str).zip [self, u])) (hdb : (x == ("__debug__" : Str)) = false := by decide)
    (he : starEach (e :: []) X.env = (false, eval e X.env) :: starEach [] X.env := by rfl) (hpl : (backTo pos (starEach [] X.env)).any (·.1) = false := by rfl) :
    PE X (.Call (.Name x p) [e] [] pos) (tErr C f ta) := by
  refine ⟨fun pins s σ H Q I h => ?_⟩
  refine wpAny_Call_Name_kw (ld_glob I hg hm ?_ hdb)
  refine PySem.W.callWith_K (h₀ := X.base) I.ok.mod.kin O.ox.kC (thn (ha.run pos pins s σ H _ I h) fun us s1 ⟨vs, H1, I1, r, y, ev, q⟩ => ⟨I1.kIn, ?_⟩) he hpl
  subst ev
  cases r with
  | cons ry rn =>
    cases rn
    exact run_err O F1 hr I1 ry (by show 1 ≤ sizeLine; decide) (fun s self kin => hb s self _ kin) q
theorem pe_errK (O : Own X.K C fI) (F1 : FnOk X.prog X.w X.K X.mg X.base CX0 k fI fd ["self", f] (spInitE C f)) (hr : Room (k + 1) X.A) (hm : X.mg x = some (.ref C)) (hg : Gl X x) {kws : List Keyword} {tk : TA} (hk : PK X kws tk)
    (hb : ∀ (s : Shared) (self u : Value), X.K.In s.heap → BindsTo s fd ⟨[self], [(f, u)]⟩ ((["self", f] : List Str).zip [self, u])) (hdb : (x == ("__debug__" : Str)) = false := by decide)
    (hall : (backToKw pos (keywordEach kws X.env)).all (·.1.isSome) = true := by rfl) (hks : (backToKw pos (keywordEach kws X.env)).filterMap (·.1) = [f] := by rfl)
    (hpl : ((backTo pos (starEach [] X.env)).any (·.1) || (backToKw pos (keywordEach kws X.env)).any (·.1.isNone)) = false := by rfl) :
    PE X (.Call (.Name x p) [] kws pos) (tErr C f tk) := by
  refine ⟨fun pins s σ H Q I h => ?_⟩
  refine wpAny_Call_Name_kw (ld_glob I hg hm ?_ hdb)
  refine PySem.W.callWith_KW0 (h₀ := X.base) I.ok.mod.kin O.ox.kC hall ?_ hpl
  refine thn (hk.run pos pins s σ H _ I h) fun ws s1 ⟨vs, H1, I1, r, y, ev, q⟩ => ⟨I1.kIn, ?_⟩
  subst ev
  rw [hks]
  cases r with
  | cons ry rn =>
    cases rn
    exact run_err (us := []) O F1 hr I1 ry (Nat.zero_le _) (fun s self kin => hb s self _ kin) q
theorem pe_err0 (O : Own X.K C fI) (F1 : FnOk X.prog X.w X.K X.mg X.base CX0 k fI fd ["self", f] (spInitE C f)) (hr : Room (k + 1) X.A) (hm : X.mg x = some (.ref C)) (hg : Gl X x)
    (hb : ∀ (s : Shared) (self : Value), X.K.In s.heap → BindsTo s fd ⟨[self], []⟩ ((["self", f] : List Str).zip [self, .none])) (hdb : (x == ("__debug__" : Str)) = false := by decide) :
    PE X (.Call (.Name x p) [] [] pos) (tErr0 C f) := by
  refine ⟨fun pins s σ H Q I h => ?_⟩
  refine wpAny_Call_Name_kw (ld_glob I hg hm ?_ hdb)
  exact PySem.W.callWith_K0 I.kIn O.ox.kC (run_err (us := []) (kv := []) (y := .non) (u := .none) O F1 hr I rfl (Nat.zero_le _) hb h)
end

/-! ### their fields, isinstance -/
/-- e.f -/
def tErrF (K : PySem.W.Frag) (f : Str) (te : TE) : TE := fun σ H Q => te σ H fun x H1 => ∃ a C y, x = .ref a ∧ ErrAt H1 a C f y ∧ XfC K C ∧ PySem.W.findIn K (.ref C) f = some none ∧ Q y H1
theorem instAt_err {X : Cx} {pins : List (Addr × Obj)} {σ : L2.St} {H : Hp} {s : Shared} {a C dx : Addr} {fs : List (Str × V)} (I : Inv X pins σ H s) (h1 : H a = some (exo a C (some dx))) (h2 : H dx = some (exd dx fs)) :
    ∃ (oe od : Obj) (mA : Str → Option Value), PySem.W.InstAt s.heap a oe C (some od) ∧ (∀ g, PySem.W.lookIn g od = some (mA g)) ∧ ∀ g, RelO (fs.lookup g) (mA g) := by
  obtain ⟨t1, ho⟩ := exo_at I.hok h1
  obtain ⟨mA, hns, rel⟩ := exd_at I.hok h2
  obtain ⟨od, hod, hl⟩ := lookIn_ns hns
  exact ⟨_, od, mA, ⟨ho, rfl, rfl, hod⟩, hl, rel⟩
theorem pe_errF {X : Cx} {f : Str} {e : Expr} {te : TE} {pos : Pos} (he : PE X e te) (hb : attributeBase e f X.env (eval e X.env) = eval e X.env := by rfl) : PE X (.Attribute e f pos) (tErrF X.K f te) := by
  refine ⟨fun pins s σ H Q I h => ?_⟩
  refine attr_of hb (thn (he.run pins s σ H _ I h) fun u s1 hh => ?_)
  obtain ⟨x, H1, I1, rx, a, C, y, ex, ⟨dx, h1, h2⟩, T, hno, q⟩ := hh
  subst ex
  obtain rfl : u = Value.ref a := rx
  obtain ⟨oe, od, mA, J, hl, rel⟩ := instAt_err I1 h1 h2
  obtain ⟨v, hv, rv⟩ := RelO.some_of (v := y) (o := mA f) (by have r := rel f; simp [List.lookup] at r; exact r)
  exact HandSPX.exc_get I1.kIn J T.ga T.gg T.exC (PySem.W.findObj_own T.hdC hno rfl (by rw [hl, hv])) (handed_of rv) ⟨y, H1, I1.tok _, rv, q⟩
/-- an error stands at a: its class, its dict or none -/
def ErrIs (H : Hp) (a C : Addr) : Prop := H a = some (exo a C none) ∨ ∃ dx fs, H a = some (exo a C (some dx)) ∧ H dx = some (exd dx fs)
theorem ErrAt.is {H : Hp} {a C : Addr} {f : Str} {y : V} (h : ErrAt H a C f y) : ErrIs H a C := by
  obtain ⟨dx, h1, h2⟩ := h
  exact .inr ⟨dx, _, h1, h2⟩
theorem ErrIs.ex {H H' : Hp} {a C : Addr} (e : Ex H H') (h : ErrIs H a C) : ErrIs H' a C := by
  rcases h with h | ⟨dx, fs, h1, h2⟩
  · exact .inl (e _ _ h)
  · exact .inr ⟨dx, fs, e _ _ h1, e _ _ h2⟩
structure IsC (K : PySem.W.Frag) (C : Addr) : Prop where
  cl : (PySem.W.clsIn K C).isSome = true
  xf : XfC K C
  ha : PySem.W.findIn K (.ref C) "__class__" = some (some (.builtin "object.__class__"))
  hn : PySem.W.specialIn K (.builtin "object.__class__") "__get__" = some (some (.builtin "getset_descriptor.__get__"))
  ht : PySem.W.takesIn K (.builtin "object.__class__") = some true
  hm : PySem.W.mroIn K C (.type "object") = some true
def rErrIs (K : PySem.W.Frag) : List V → Hp → VK → Prop := fun xs H Q => ∃ a C c u b, xs = [.ref a, c] ∧ ErrIs H a C ∧ IsC K C ∧ ClsV c u ∧ PySem.W.kitOne K (.ref C) u = some b ∧ Q (.bl b) H
theorem call_errIs {X : Cx} : CallR X (.builtin "isinstance") (rErrIs X.K) := by
  intro pins s σ H xs us Q I r h
  obtain ⟨a, C, c, u, b, rfl, he, T, k, e, q⟩ := h
  obtain ⟨u1, u2, rfl, r1, r2⟩ := vals2 r
  obtain rfl := k.eq r2
  obtain rfl : u1 = Value.ref a := r1
  rcases he with h1 | ⟨dx, fs, h1, h2⟩
  · obtain ⟨t1, ho⟩ := exo_at I.hok h1
    have J : PySem.W.InstAt s.heap a _ C none := ⟨ho, rfl, rfl, trivial⟩
    exact PySem.W.kia_one (PySem.W.kitx_exc T.cl T.xf.ga T.xf.gg T.xf.exC T.ha T.hn T.ht T.hm) I.kIn J e (fun z => nomatch z) fun tk => ⟨.bl b, H, I.tok tk, rfl, q⟩
  · obtain ⟨oe, od, mA, J, _, _⟩ := instAt_err I h1 h2
    exact PySem.W.kia_one (PySem.W.kitx_exc T.cl T.xf.ga T.xf.gg T.xf.exC T.ha T.hn T.ht T.hm) I.kIn J e (fun z => nomatch z) fun tk => ⟨.bl b, H, I.tok tk, rfl, q⟩
/-! ### C(), C without an own __init__ -/
def tBare (C : Addr) : TE := fun _ H Q => ∀ a H2, H a = none → Ex H H2 → ErrIs H2 a C → Q (.ref a) H2
theorem pe_bare {X : Cx} {C : Addr} {bmB : List Value} {B newId initId : String} {x : Str} {p pos : Pos} (F : ExcBaseFacts B newId initId bmB) (q : PySem.W.excIn X.K C bmB newId = true) (gC : X.mg x = some (.ref C)) (kC : PySem.W.keepIn X.K (.ref C) = true) (hg : Gl X x)
    (hdb : (x == ("__debug__" : Str)) = false := by decide) : PE X (.Call (.Name x p) [] [] pos) (tBare C) := by
  refine ⟨fun pins s σ H Q I h => ?_⟩
  refine wpAny_Call_Name_kw (ld_glob I hg gC ?_ hdb)
  refine PySem.W.callWith_K0 I.kIn kC ?_
  show wpAny _ _ (call (.ref C) []) _ _ _
  obtain ⟨bm, N, nm, qn, bs, hdct, sn, sub, ab, col, dd, k0, k1, k2, k3, k5, mN, hC, hN, hni, T⟩ := exc_obj I.kIn q
  obtain ⟨hp, g, d, t, os⟩ := s
  refine wpAny_call_exc_subT F T hC hN hni (fun h' a hm => ?_) (by show 0 ≤ sizeLine; omega)
  have hn : H a = none := I.hok.gone hm.new
  obtain ⟨t1, ht, _, _⟩ := hm.there
  exact ⟨.ref a, upd H a (exo a C none), I.laidN hm.keeps hm.new hn (exo_ok ht), rfl, h a _ hn (Ex.new hn) (.inl upd_same)⟩
end ExV
/-! ### the classes of the errors -/
namespace Kls
open PySem PySem.Spec PyProof.Rows L2 Evl ExV Gen
def cname : Nat → Str
  | 0 => "InvalidList"
  | 1 => "InvalidItem"
  | 2 => "InvalidBook"
  | 3 => "InvalidLot"
  | 4 => "InvalidRun"
  | 5 => "InvalidGoal"
  | 6 => "InvalidNumber"
  | 7 => "InvalidText"
  | 8 => "InvalidName"
  | 9 => "TakenName"
  | 10 => "UnknownName"
  | _ => "NothingToUndo"
def fname : Nat → Str
  | 0 => "value"
  | 1 => "value"
  | 2 => "value"
  | 3 => "value"
  | 4 => "value"
  | 5 => "value"
  | 6 => "value"
  | 7 => "value"
  | _ => "name"
/-- how an error's __init__ takes its arguments -/
structure Bi (K : PySem.W.Frag) (fd : FuncData) (f : Str) : Prop where
  b1 : ∀ (s : Shared) (self u : Value), K.In s.heap → BindsTo s fd ⟨[self, u], []⟩ ((["self", f] : List Str).zip [self, u])
  bk : ∀ (s : Shared) (self u : Value), K.In s.heap → BindsTo s fd ⟨[self], [(f, u)]⟩ ((["self", f] : List Str).zip [self, u])
  b0 : ∀ (s : Shared) (self : Value), K.In s.heap → BindsTo s fd ⟨[self], []⟩ ((["self", f] : List Str).zip [self, .none])
section
variable {P : Program} {w : World} {K : PySem.W.Frag} {mg : Str → Option Value} {base : Heap}
theorem scI0 : FnScope ["self", "value"] ["self", "value"] (defScope (inClass (top 2) 0)) := ⟨rfl, rfl, rfl, by decide +kernel, rfl, by decide +kernel, by decide +kernel⟩
theorem ok_init0 {f C : Addr} {fd : FuncData} (F : FunD K "__init__" "InvalidList.__init__" (defArgs (inClass (top 2) 0)) (defBody (inClass (top 2) 0)) (defScope (inClass (top 2) 0)) [V.non] [] f fd) (O : Own K C f) (no : PySem.W.findIn K (.ref C) "value" = some none) : FnOk P w K mg base CX0 1 f fd ["self", "value"] (spInitE C "value") := by
  refine F.ok scI0 (fun vs H Q E h => ?_) (fun cdv A outer s H vs Q E hr h => ?_)
  · obtain ⟨a, y, rfl, _⟩ := h
    rfl
  · obtain ⟨a, y, rfl, ha, k⟩ := h
    refine ⟨_, pss_one (ps_ost (pv 0) (pv 1)), ?_⟩
    exact ⟨_, rfl, _, rfl, a, C, rfl, O.ox, no, .inl ⟨ha, k⟩⟩
theorem bi0 {f : Addr} {fd : FuncData} (F : FunD K "__init__" "InvalidList.__init__" (defArgs (inClass (top 2) 0)) (defBody (inClass (top 2) 0)) (defScope (inClass (top 2) 0)) [V.non] [] f fd) : Bi K fd "value" := by
  obtain ⟨d1, r1, B1⟩ := F.binds1 (ps := ["self", "value"]) 2 1 (by simp) rfl (fun T kV doc pm an cdv ct us its h1 h2 => match us, its, h1, h2 with | [_, _], [_], _, _ => ⟨_, rfl, rfl⟩)
  obtain ⟨d0, r0, B0⟩ := F.binds1 (ps := ["self", "value"]) 1 0 (by simp) rfl (fun T kV doc pm an cdv ct us its h1 h2 => match us, its, h1, h2 with | [_], [_], _, _ => ⟨_, rfl, rfl⟩)
  obtain ⟨its, BK⟩ := F.kbindsD (ps := ["self", "value"]) 1 ["value"] (fun us _ ws => us ++ ws) (by simp) (fun a _ c => a.append c) (fun T kV doc pm an cdv ct us its ws h1 h2 h3 => match us, its, ws, h1, h2, h3 with | [_], [_], [_], _, _, _ => ⟨_, rfl, rfl⟩)
  cases r1
  cases r0 with
  | cons e0 n0 =>
    cases n0
    obtain rfl := (show _ = Value.none from e0)
    exact ⟨fun s self u kin => B1 s [self, u] kin rfl, fun s self u kin => BK.to s [self] [u] kin rfl rfl, fun s self kin => B0 s [self] kin rfl⟩
theorem scI1 : FnScope ["self", "value"] ["self", "value"] (defScope (inClass (top 3) 0)) := ⟨rfl, rfl, rfl, by decide +kernel, rfl, by decide +kernel, by decide +kernel⟩
theorem ok_init1 {f C : Addr} {fd : FuncData} (F : FunD K "__init__" "InvalidItem.__init__" (defArgs (inClass (top 3) 0)) (defBody (inClass (top 3) 0)) (defScope (inClass (top 3) 0)) [V.non] [] f fd) (O : Own K C f) (no : PySem.W.findIn K (.ref C) "value" = some none) : FnOk P w K mg base CX0 1 f fd ["self", "value"] (spInitE C "value") := by
  refine F.ok scI1 (fun vs H Q E h => ?_) (fun cdv A outer s H vs Q E hr h => ?_)
  · obtain ⟨a, y, rfl, _⟩ := h
    rfl
  · obtain ⟨a, y, rfl, ha, k⟩ := h
    refine ⟨_, pss_one (ps_ost (pv 0) (pv 1)), ?_⟩
    exact ⟨_, rfl, _, rfl, a, C, rfl, O.ox, no, .inl ⟨ha, k⟩⟩
theorem bi1 {f : Addr} {fd : FuncData} (F : FunD K "__init__" "InvalidItem.__init__" (defArgs (inClass (top 3) 0)) (defBody (inClass (top 3) 0)) (defScope (inClass (top 3) 0)) [V.non] [] f fd) : Bi K fd "value" := by
  obtain ⟨d1, r1, B1⟩ := F.binds1 (ps := ["self", "value"]) 2 1 (by simp) rfl (fun T kV doc pm an cdv ct us its h1 h2 => match us, its, h1, h2 with | [_, _], [_], _, _ => ⟨_, rfl, rfl⟩)
  obtain ⟨d0, r0, B0⟩ := F.binds1 (ps := ["self", "value"]) 1 0 (by simp) rfl (fun T kV doc pm an cdv ct us its h1 h2 => match us, its, h1, h2 with | [_], [_], _, _ => ⟨_, rfl, rfl⟩)
  obtain ⟨its, BK⟩ := F.kbindsD (ps := ["self", "value"]) 1 ["value"] (fun us _ ws => us ++ ws) (by simp) (fun a _ c => a.append c) (fun T kV doc pm an cdv ct us its ws h1 h2 h3 => match us, its, ws, h1, h2, h3 with | [_], [_], [_], _, _, _ => ⟨_, rfl, rfl⟩)
  cases r1
  cases r0 with
  | cons e0 n0 =>
    cases n0
    obtain rfl := (show _ = Value.none from e0)
    exact ⟨fun s self u kin => B1 s [self, u] kin rfl, fun s self u kin => BK.to s [self] [u] kin rfl rfl, fun s self kin => B0 s [self] kin rfl⟩
theorem scI2 : FnScope ["self", "value"] ["self", "value"] (defScope (inClass (top 4) 0)) := ⟨rfl, rfl, rfl, by decide +kernel, rfl, by decide +kernel, by decide +kernel⟩
theorem ok_init2 {f C : Addr} {fd : FuncData} (F : FunD K "__init__" "InvalidBook.__init__" (defArgs (inClass (top 4) 0)) (defBody (inClass (top 4) 0)) (defScope (inClass (top 4) 0)) [V.non] [] f fd) (O : Own K C f) (no : PySem.W.findIn K (.ref C) "value" = some none) : FnOk P w K mg base CX0 1 f fd ["self", "value"] (spInitE C "value") := by
  refine F.ok scI2 (fun vs H Q E h => ?_) (fun cdv A outer s H vs Q E hr h => ?_)
  · obtain ⟨a, y, rfl, _⟩ := h
    rfl
  · obtain ⟨a, y, rfl, ha, k⟩ := h
    refine ⟨_, pss_one (ps_ost (pv 0) (pv 1)), ?_⟩
    exact ⟨_, rfl, _, rfl, a, C, rfl, O.ox, no, .inl ⟨ha, k⟩⟩
theorem bi2 {f : Addr} {fd : FuncData} (F : FunD K "__init__" "InvalidBook.__init__" (defArgs (inClass (top 4) 0)) (defBody (inClass (top 4) 0)) (defScope (inClass (top 4) 0)) [V.non] [] f fd) : Bi K fd "value" := by
  obtain ⟨d1, r1, B1⟩ := F.binds1 (ps := ["self", "value"]) 2 1 (by simp) rfl (fun T kV doc pm an cdv ct us its h1 h2 => match us, its, h1, h2 with | [_, _], [_], _, _ => ⟨_, rfl, rfl⟩)
  obtain ⟨d0, r0, B0⟩ := F.binds1 (ps := ["self", "value"]) 1 0 (by simp) rfl (fun T kV doc pm an cdv ct us its h1 h2 => match us, its, h1, h2 with | [_], [_], _, _ => ⟨_, rfl, rfl⟩)
  obtain ⟨its, BK⟩ := F.kbindsD (ps := ["self", "value"]) 1 ["value"] (fun us _ ws => us ++ ws) (by simp) (fun a _ c => a.append c) (fun T kV doc pm an cdv ct us its ws h1 h2 h3 => match us, its, ws, h1, h2, h3 with | [_], [_], [_], _, _, _ => ⟨_, rfl, rfl⟩)
  cases r1
  cases r0 with
  | cons e0 n0 =>
    cases n0
    obtain rfl := (show _ = Value.none from e0)
    exact ⟨fun s self u kin => B1 s [self, u] kin rfl, fun s self u kin => BK.to s [self] [u] kin rfl rfl, fun s self kin => B0 s [self] kin rfl⟩
theorem scI3 : FnScope ["self", "value"] ["self", "value"] (defScope (inClass (top 5) 0)) := ⟨rfl, rfl, rfl, by decide +kernel, rfl, by decide +kernel, by decide +kernel⟩
theorem ok_init3 {f C : Addr} {fd : FuncData} (F : FunD K "__init__" "InvalidLot.__init__" (defArgs (inClass (top 5) 0)) (defBody (inClass (top 5) 0)) (defScope (inClass (top 5) 0)) [V.non] [] f fd) (O : Own K C f) (no : PySem.W.findIn K (.ref C) "value" = some none) : FnOk P w K mg base CX0 1 f fd ["self", "value"] (spInitE C "value") := by
  refine F.ok scI3 (fun vs H Q E h => ?_) (fun cdv A outer s H vs Q E hr h => ?_)
  · obtain ⟨a, y, rfl, _⟩ := h
    rfl
  · obtain ⟨a, y, rfl, ha, k⟩ := h
    refine ⟨_, pss_one (ps_ost (pv 0) (pv 1)), ?_⟩
    exact ⟨_, rfl, _, rfl, a, C, rfl, O.ox, no, .inl ⟨ha, k⟩⟩
theorem bi3 {f : Addr} {fd : FuncData} (F : FunD K "__init__" "InvalidLot.__init__" (defArgs (inClass (top 5) 0)) (defBody (inClass (top 5) 0)) (defScope (inClass (top 5) 0)) [V.non] [] f fd) : Bi K fd "value" := by
  obtain ⟨d1, r1, B1⟩ := F.binds1 (ps := ["self", "value"]) 2 1 (by simp) rfl (fun T kV doc pm an cdv ct us its h1 h2 => match us, its, h1, h2 with | [_, _], [_], _, _ => ⟨_, rfl, rfl⟩)
  obtain ⟨d0, r0, B0⟩ := F.binds1 (ps := ["self", "value"]) 1 0 (by simp) rfl (fun T kV doc pm an cdv ct us its h1 h2 => match us, its, h1, h2 with | [_], [_], _, _ => ⟨_, rfl, rfl⟩)
  obtain ⟨its, BK⟩ := F.kbindsD (ps := ["self", "value"]) 1 ["value"] (fun us _ ws => us ++ ws) (by simp) (fun a _ c => a.append c) (fun T kV doc pm an cdv ct us its ws h1 h2 h3 => match us, its, ws, h1, h2, h3 with | [_], [_], [_], _, _, _ => ⟨_, rfl, rfl⟩)
  cases r1
  cases r0 with
  | cons e0 n0 =>
    cases n0
    obtain rfl := (show _ = Value.none from e0)
    exact ⟨fun s self u kin => B1 s [self, u] kin rfl, fun s self u kin => BK.to s [self] [u] kin rfl rfl, fun s self kin => B0 s [self] kin rfl⟩
theorem scI4 : FnScope ["self", "value"] ["self", "value"] (defScope (inClass (top 6) 0)) := ⟨rfl, rfl, rfl, by decide +kernel, rfl, by decide +kernel, by decide +kernel⟩
theorem ok_init4 {f C : Addr} {fd : FuncData} (F : FunD K "__init__" "InvalidRun.__init__" (defArgs (inClass (top 6) 0)) (defBody (inClass (top 6) 0)) (defScope (inClass (top 6) 0)) [V.non] [] f fd) (O : Own K C f) (no : PySem.W.findIn K (.ref C) "value" = some none) : FnOk P w K mg base CX0 1 f fd ["self", "value"] (spInitE C "value") := by
  refine F.ok scI4 (fun vs H Q E h => ?_) (fun cdv A outer s H vs Q E hr h => ?_)
  · obtain ⟨a, y, rfl, _⟩ := h
    rfl
  · obtain ⟨a, y, rfl, ha, k⟩ := h
    refine ⟨_, pss_one (ps_ost (pv 0) (pv 1)), ?_⟩
    exact ⟨_, rfl, _, rfl, a, C, rfl, O.ox, no, .inl ⟨ha, k⟩⟩
theorem bi4 {f : Addr} {fd : FuncData} (F : FunD K "__init__" "InvalidRun.__init__" (defArgs (inClass (top 6) 0)) (defBody (inClass (top 6) 0)) (defScope (inClass (top 6) 0)) [V.non] [] f fd) : Bi K fd "value" := by
  obtain ⟨d1, r1, B1⟩ := F.binds1 (ps := ["self", "value"]) 2 1 (by simp) rfl (fun T kV doc pm an cdv ct us its h1 h2 => match us, its, h1, h2 with | [_, _], [_], _, _ => ⟨_, rfl, rfl⟩)
  obtain ⟨d0, r0, B0⟩ := F.binds1 (ps := ["self", "value"]) 1 0 (by simp) rfl (fun T kV doc pm an cdv ct us its h1 h2 => match us, its, h1, h2 with | [_], [_], _, _ => ⟨_, rfl, rfl⟩)
  obtain ⟨its, BK⟩ := F.kbindsD (ps := ["self", "value"]) 1 ["value"] (fun us _ ws => us ++ ws) (by simp) (fun a _ c => a.append c) (fun T kV doc pm an cdv ct us its ws h1 h2 h3 => match us, its, ws, h1, h2, h3 with | [_], [_], [_], _, _, _ => ⟨_, rfl, rfl⟩)
  cases r1
  cases r0 with
  | cons e0 n0 =>
    cases n0
    obtain rfl := (show _ = Value.none from e0)
    exact ⟨fun s self u kin => B1 s [self, u] kin rfl, fun s self u kin => BK.to s [self] [u] kin rfl rfl, fun s self kin => B0 s [self] kin rfl⟩
theorem scI5 : FnScope ["self", "value"] ["self", "value"] (defScope (inClass (top 7) 0)) := ⟨rfl, rfl, rfl, by decide +kernel, rfl, by decide +kernel, by decide +kernel⟩
theorem ok_init5 {f C : Addr} {fd : FuncData} (F : FunD K "__init__" "InvalidGoal.__init__" (defArgs (inClass (top 7) 0)) (defBody (inClass (top 7) 0)) (defScope (inClass (top 7) 0)) [V.non] [] f fd) (O : Own K C f) (no : PySem.W.findIn K (.ref C) "value" = some none) : FnOk P w K mg base CX0 1 f fd ["self", "value"] (spInitE C "value") := by
  refine F.ok scI5 (fun vs H Q E h => ?_) (fun cdv A outer s H vs Q E hr h => ?_)
  · obtain ⟨a, y, rfl, _⟩ := h
    rfl
  · obtain ⟨a, y, rfl, ha, k⟩ := h
    refine ⟨_, pss_one (ps_ost (pv 0) (pv 1)), ?_⟩
    exact ⟨_, rfl, _, rfl, a, C, rfl, O.ox, no, .inl ⟨ha, k⟩⟩
theorem bi5 {f : Addr} {fd : FuncData} (F : FunD K "__init__" "InvalidGoal.__init__" (defArgs (inClass (top 7) 0)) (defBody (inClass (top 7) 0)) (defScope (inClass (top 7) 0)) [V.non] [] f fd) : Bi K fd "value" := by
  obtain ⟨d1, r1, B1⟩ := F.binds1 (ps := ["self", "value"]) 2 1 (by simp) rfl (fun T kV doc pm an cdv ct us its h1 h2 => match us, its, h1, h2 with | [_, _], [_], _, _ => ⟨_, rfl, rfl⟩)
  obtain ⟨d0, r0, B0⟩ := F.binds1 (ps := ["self", "value"]) 1 0 (by simp) rfl (fun T kV doc pm an cdv ct us its h1 h2 => match us, its, h1, h2 with | [_], [_], _, _ => ⟨_, rfl, rfl⟩)
  obtain ⟨its, BK⟩ := F.kbindsD (ps := ["self", "value"]) 1 ["value"] (fun us _ ws => us ++ ws) (by simp) (fun a _ c => a.append c) (fun T kV doc pm an cdv ct us its ws h1 h2 h3 => match us, its, ws, h1, h2, h3 with | [_], [_], [_], _, _, _ => ⟨_, rfl, rfl⟩)
  cases r1
  cases r0 with
  | cons e0 n0 =>
    cases n0
    obtain rfl := (show _ = Value.none from e0)
    exact ⟨fun s self u kin => B1 s [self, u] kin rfl, fun s self u kin => BK.to s [self] [u] kin rfl rfl, fun s self kin => B0 s [self] kin rfl⟩
theorem scI6 : FnScope ["self", "value"] ["self", "value"] (defScope (inClass (top 8) 0)) := ⟨rfl, rfl, rfl, by decide +kernel, rfl, by decide +kernel, by decide +kernel⟩
theorem ok_init6 {f C : Addr} {fd : FuncData} (F : FunD K "__init__" "InvalidNumber.__init__" (defArgs (inClass (top 8) 0)) (defBody (inClass (top 8) 0)) (defScope (inClass (top 8) 0)) [V.non] [] f fd) (O : Own K C f) (no : PySem.W.findIn K (.ref C) "value" = some none) : FnOk P w K mg base CX0 1 f fd ["self", "value"] (spInitE C "value") := by
  refine F.ok scI6 (fun vs H Q E h => ?_) (fun cdv A outer s H vs Q E hr h => ?_)
  · obtain ⟨a, y, rfl, _⟩ := h
    rfl
  · obtain ⟨a, y, rfl, ha, k⟩ := h
    refine ⟨_, pss_one (ps_ost (pv 0) (pv 1)), ?_⟩
    exact ⟨_, rfl, _, rfl, a, C, rfl, O.ox, no, .inl ⟨ha, k⟩⟩
theorem bi6 {f : Addr} {fd : FuncData} (F : FunD K "__init__" "InvalidNumber.__init__" (defArgs (inClass (top 8) 0)) (defBody (inClass (top 8) 0)) (defScope (inClass (top 8) 0)) [V.non] [] f fd) : Bi K fd "value" := by
  obtain ⟨d1, r1, B1⟩ := F.binds1 (ps := ["self", "value"]) 2 1 (by simp) rfl (fun T kV doc pm an cdv ct us its h1 h2 => match us, its, h1, h2 with | [_, _], [_], _, _ => ⟨_, rfl, rfl⟩)
  obtain ⟨d0, r0, B0⟩ := F.binds1 (ps := ["self", "value"]) 1 0 (by simp) rfl (fun T kV doc pm an cdv ct us its h1 h2 => match us, its, h1, h2 with | [_], [_], _, _ => ⟨_, rfl, rfl⟩)
  obtain ⟨its, BK⟩ := F.kbindsD (ps := ["self", "value"]) 1 ["value"] (fun us _ ws => us ++ ws) (by simp) (fun a _ c => a.append c) (fun T kV doc pm an cdv ct us its ws h1 h2 h3 => match us, its, ws, h1, h2, h3 with | [_], [_], [_], _, _, _ => ⟨_, rfl, rfl⟩)
  cases r1
  cases r0 with
  | cons e0 n0 =>
    cases n0
    obtain rfl := (show _ = Value.none from e0)
    exact ⟨fun s self u kin => B1 s [self, u] kin rfl, fun s self u kin => BK.to s [self] [u] kin rfl rfl, fun s self kin => B0 s [self] kin rfl⟩
theorem scI7 : FnScope ["self", "value"] ["self", "value"] (defScope (inClass (top 9) 0)) := ⟨rfl, rfl, rfl, by decide +kernel, rfl, by decide +kernel, by decide +kernel⟩
theorem ok_init7 {f C : Addr} {fd : FuncData} (F : FunD K "__init__" "InvalidText.__init__" (defArgs (inClass (top 9) 0)) (defBody (inClass (top 9) 0)) (defScope (inClass (top 9) 0)) [V.non] [] f fd) (O : Own K C f) (no : PySem.W.findIn K (.ref C) "value" = some none) : FnOk P w K mg base CX0 1 f fd ["self", "value"] (spInitE C "value") := by
  refine F.ok scI7 (fun vs H Q E h => ?_) (fun cdv A outer s H vs Q E hr h => ?_)
  · obtain ⟨a, y, rfl, _⟩ := h
    rfl
  · obtain ⟨a, y, rfl, ha, k⟩ := h
    refine ⟨_, pss_one (ps_ost (pv 0) (pv 1)), ?_⟩
    exact ⟨_, rfl, _, rfl, a, C, rfl, O.ox, no, .inl ⟨ha, k⟩⟩
theorem bi7 {f : Addr} {fd : FuncData} (F : FunD K "__init__" "InvalidText.__init__" (defArgs (inClass (top 9) 0)) (defBody (inClass (top 9) 0)) (defScope (inClass (top 9) 0)) [V.non] [] f fd) : Bi K fd "value" := by
  obtain ⟨d1, r1, B1⟩ := F.binds1 (ps := ["self", "value"]) 2 1 (by simp) rfl (fun T kV doc pm an cdv ct us its h1 h2 => match us, its, h1, h2 with | [_, _], [_], _, _ => ⟨_, rfl, rfl⟩)
  obtain ⟨d0, r0, B0⟩ := F.binds1 (ps := ["self", "value"]) 1 0 (by simp) rfl (fun T kV doc pm an cdv ct us its h1 h2 => match us, its, h1, h2 with | [_], [_], _, _ => ⟨_, rfl, rfl⟩)
  obtain ⟨its, BK⟩ := F.kbindsD (ps := ["self", "value"]) 1 ["value"] (fun us _ ws => us ++ ws) (by simp) (fun a _ c => a.append c) (fun T kV doc pm an cdv ct us its ws h1 h2 h3 => match us, its, ws, h1, h2, h3 with | [_], [_], [_], _, _, _ => ⟨_, rfl, rfl⟩)
  cases r1
  cases r0 with
  | cons e0 n0 =>
    cases n0
    obtain rfl := (show _ = Value.none from e0)
    exact ⟨fun s self u kin => B1 s [self, u] kin rfl, fun s self u kin => BK.to s [self] [u] kin rfl rfl, fun s self kin => B0 s [self] kin rfl⟩
theorem scI8 : FnScope ["self", "name"] ["self", "name"] (defScope (inClass (top 10) 0)) := ⟨rfl, rfl, rfl, by decide +kernel, rfl, by decide +kernel, by decide +kernel⟩
theorem ok_init8 {f C : Addr} {fd : FuncData} (F : FunD K "__init__" "InvalidName.__init__" (defArgs (inClass (top 10) 0)) (defBody (inClass (top 10) 0)) (defScope (inClass (top 10) 0)) [V.non] [] f fd) (O : Own K C f) (no : PySem.W.findIn K (.ref C) "name" = some none) : FnOk P w K mg base CX0 1 f fd ["self", "name"] (spInitE C "name") := by
  refine F.ok scI8 (fun vs H Q E h => ?_) (fun cdv A outer s H vs Q E hr h => ?_)
  · obtain ⟨a, y, rfl, _⟩ := h
    rfl
  · obtain ⟨a, y, rfl, ha, k⟩ := h
    refine ⟨_, pss_one (ps_ost (pv 0) (pv 1)), ?_⟩
    exact ⟨_, rfl, _, rfl, a, C, rfl, O.ox, no, .inl ⟨ha, k⟩⟩
theorem bi8 {f : Addr} {fd : FuncData} (F : FunD K "__init__" "InvalidName.__init__" (defArgs (inClass (top 10) 0)) (defBody (inClass (top 10) 0)) (defScope (inClass (top 10) 0)) [V.non] [] f fd) : Bi K fd "name" := by
  obtain ⟨d1, r1, B1⟩ := F.binds1 (ps := ["self", "name"]) 2 1 (by simp) rfl (fun T kV doc pm an cdv ct us its h1 h2 => match us, its, h1, h2 with | [_, _], [_], _, _ => ⟨_, rfl, rfl⟩)
  obtain ⟨d0, r0, B0⟩ := F.binds1 (ps := ["self", "name"]) 1 0 (by simp) rfl (fun T kV doc pm an cdv ct us its h1 h2 => match us, its, h1, h2 with | [_], [_], _, _ => ⟨_, rfl, rfl⟩)
  obtain ⟨its, BK⟩ := F.kbindsD (ps := ["self", "name"]) 1 ["name"] (fun us _ ws => us ++ ws) (by simp) (fun a _ c => a.append c) (fun T kV doc pm an cdv ct us its ws h1 h2 h3 => match us, its, ws, h1, h2, h3 with | [_], [_], [_], _, _, _ => ⟨_, rfl, rfl⟩)
  cases r1
  cases r0 with
  | cons e0 n0 =>
    cases n0
    obtain rfl := (show _ = Value.none from e0)
    exact ⟨fun s self u kin => B1 s [self, u] kin rfl, fun s self u kin => BK.to s [self] [u] kin rfl rfl, fun s self kin => B0 s [self] kin rfl⟩
theorem scI9 : FnScope ["self", "name"] ["self", "name"] (defScope (inClass (top 11) 0)) := ⟨rfl, rfl, rfl, by decide +kernel, rfl, by decide +kernel, by decide +kernel⟩
theorem ok_init9 {f C : Addr} {fd : FuncData} (F : FunD K "__init__" "TakenName.__init__" (defArgs (inClass (top 11) 0)) (defBody (inClass (top 11) 0)) (defScope (inClass (top 11) 0)) [V.non] [] f fd) (O : Own K C f) (no : PySem.W.findIn K (.ref C) "name" = some none) : FnOk P w K mg base CX0 1 f fd ["self", "name"] (spInitE C "name") := by
  refine F.ok scI9 (fun vs H Q E h => ?_) (fun cdv A outer s H vs Q E hr h => ?_)
  · obtain ⟨a, y, rfl, _⟩ := h
    rfl
  · obtain ⟨a, y, rfl, ha, k⟩ := h
    refine ⟨_, pss_one (ps_ost (pv 0) (pv 1)), ?_⟩
    exact ⟨_, rfl, _, rfl, a, C, rfl, O.ox, no, .inl ⟨ha, k⟩⟩
theorem bi9 {f : Addr} {fd : FuncData} (F : FunD K "__init__" "TakenName.__init__" (defArgs (inClass (top 11) 0)) (defBody (inClass (top 11) 0)) (defScope (inClass (top 11) 0)) [V.non] [] f fd) : Bi K fd "name" := by
  obtain ⟨d1, r1, B1⟩ := F.binds1 (ps := ["self", "name"]) 2 1 (by simp) rfl (fun T kV doc pm an cdv ct us its h1 h2 => match us, its, h1, h2 with | [_, _], [_], _, _ => ⟨_, rfl, rfl⟩)
  obtain ⟨d0, r0, B0⟩ := F.binds1 (ps := ["self", "name"]) 1 0 (by simp) rfl (fun T kV doc pm an cdv ct us its h1 h2 => match us, its, h1, h2 with | [_], [_], _, _ => ⟨_, rfl, rfl⟩)
  obtain ⟨its, BK⟩ := F.kbindsD (ps := ["self", "name"]) 1 ["name"] (fun us _ ws => us ++ ws) (by simp) (fun a _ c => a.append c) (fun T kV doc pm an cdv ct us its ws h1 h2 h3 => match us, its, ws, h1, h2, h3 with | [_], [_], [_], _, _, _ => ⟨_, rfl, rfl⟩)
  cases r1
  cases r0 with
  | cons e0 n0 =>
    cases n0
    obtain rfl := (show _ = Value.none from e0)
    exact ⟨fun s self u kin => B1 s [self, u] kin rfl, fun s self u kin => BK.to s [self] [u] kin rfl rfl, fun s self kin => B0 s [self] kin rfl⟩
theorem scI10 : FnScope ["self", "name"] ["self", "name"] (defScope (inClass (top 12) 0)) := ⟨rfl, rfl, rfl, by decide +kernel, rfl, by decide +kernel, by decide +kernel⟩
theorem ok_init10 {f C : Addr} {fd : FuncData} (F : FunD K "__init__" "UnknownName.__init__" (defArgs (inClass (top 12) 0)) (defBody (inClass (top 12) 0)) (defScope (inClass (top 12) 0)) [V.non] [] f fd) (O : Own K C f) (no : PySem.W.findIn K (.ref C) "name" = some none) : FnOk P w K mg base CX0 1 f fd ["self", "name"] (spInitE C "name") := by
  refine F.ok scI10 (fun vs H Q E h => ?_) (fun cdv A outer s H vs Q E hr h => ?_)
  · obtain ⟨a, y, rfl, _⟩ := h
    rfl
  · obtain ⟨a, y, rfl, ha, k⟩ := h
    refine ⟨_, pss_one (ps_ost (pv 0) (pv 1)), ?_⟩
    exact ⟨_, rfl, _, rfl, a, C, rfl, O.ox, no, .inl ⟨ha, k⟩⟩
theorem bi10 {f : Addr} {fd : FuncData} (F : FunD K "__init__" "UnknownName.__init__" (defArgs (inClass (top 12) 0)) (defBody (inClass (top 12) 0)) (defScope (inClass (top 12) 0)) [V.non] [] f fd) : Bi K fd "name" := by
  obtain ⟨d1, r1, B1⟩ := F.binds1 (ps := ["self", "name"]) 2 1 (by simp) rfl (fun T kV doc pm an cdv ct us its h1 h2 => match us, its, h1, h2 with | [_, _], [_], _, _ => ⟨_, rfl, rfl⟩)
  obtain ⟨d0, r0, B0⟩ := F.binds1 (ps := ["self", "name"]) 1 0 (by simp) rfl (fun T kV doc pm an cdv ct us its h1 h2 => match us, its, h1, h2 with | [_], [_], _, _ => ⟨_, rfl, rfl⟩)
  obtain ⟨its, BK⟩ := F.kbindsD (ps := ["self", "name"]) 1 ["name"] (fun us _ ws => us ++ ws) (by simp) (fun a _ c => a.append c) (fun T kV doc pm an cdv ct us its ws h1 h2 h3 => match us, its, ws, h1, h2, h3 with | [_], [_], [_], _, _, _ => ⟨_, rfl, rfl⟩)
  cases r1
  cases r0 with
  | cons e0 n0 =>
    cases n0
    obtain rfl := (show _ = Value.none from e0)
    exact ⟨fun s self u kin => B1 s [self, u] kin rfl, fun s self u kin => BK.to s [self] [u] kin rfl rfl, fun s self kin => B0 s [self] kin rfl⟩
end
end Kls
/-! ### repr of data that stand in the heap: nested lists, tuples, dicts -/
namespace Rep
open PySem PySem.Spec PyProof.Rows L2 Evl
def keyD : Key → PyData
  | .inl i => .int i
  | .inr x => .str x
mutual
inductive Sw (K : PySem.W.Frag) (H : Hp) : V → PyData → Prop
  | non : Sw K H .non .none
  | bl (b : Bool) : Sw K H (.bl b) (.bool b)
  | int (i : Int) : Sw K H (.int i) (.int i)
  | str (x : Str) : Sw K H (.str x) (.str x)
  | lst {a : Addr} {xs : List V} {ds : List PyData} : SqL K H a xs → SwAll K H xs ds → Sw K H (.ref a) (.list ds)
  | tup {a : Addr} {xs : List V} {ds : List PyData} : SqT K H a xs → SwAll K H xs ds → Sw K H (.ref a) (.tuple ds)
  | dct {a : Addr} {kvs : List (Key × V)} {ds : List (PyData × PyData)} : H a = some (.dK kvs) → SwKv K H kvs ds → Sw K H (.ref a) (.dict ds)
inductive SwAll (K : PySem.W.Frag) (H : Hp) : List V → List PyData → Prop
  | nil : SwAll K H [] []
  | cons {v : V} {vs : List V} {d : PyData} {ds : List PyData} : Sw K H v d → SwAll K H vs ds → SwAll K H (v :: vs) (d :: ds)
inductive SwKv (K : PySem.W.Frag) (H : Hp) : List (Key × V) → List (PyData × PyData) → Prop
  | nil : SwKv K H [] []
  | cons {k : Key} {v : V} {kvs : List (Key × V)} {d : PyData} {ds : List (PyData × PyData)} : Sw K H v d → SwKv K H kvs ds → SwKv K H ((k, v) :: kvs) ((keyD k, d) :: ds)
end
theorem SwAll.rep {K : PySem.W.Frag} {H : Hp} {v : V} {d : PyData} (h : Sw K H v d) : ∀ n : Nat, SwAll K H (List.replicate n v) (List.replicate n d)
  | 0 => .nil
  | n + 1 => .cons h (SwAll.rep h n)
mutual
theorem Sw.ex {K : PySem.W.Frag} {H H' : Hp} (e : Ex H H') : ∀ (d : PyData) (v : V), Sw K H v d → Sw K H' v d
  | .none, _, h => by cases h; exact .non
  | .bool b, _, h => by cases h; exact .bl b
  | .int i, _, h => by cases h; exact .int i
  | .str x, _, h => by cases h; exact .str x
  | .list ds, _, h => by
    cases h with
    | lst hs ha => exact .lst (ex_l e hs) (SwAll.ex e ds _ ha)
  | .tuple ds, _, h => by
    cases h with
    | tup hs ha => exact .tup (ex_t e hs) (SwAll.ex e ds _ ha)
  | .dict ds, _, h => by
    cases h with
    | dct hs ha => exact .dct (e _ _ hs) (SwKv.ex e ds _ ha)
theorem SwAll.ex {K : PySem.W.Frag} {H H' : Hp} (e : Ex H H') : ∀ (ds : List PyData) (vs : List V), SwAll K H vs ds → SwAll K H' vs ds
  | [], _, h => by cases h; exact .nil
  | d :: ds, _, h => by
    cases h with
    | cons h1 h2 => exact .cons (Sw.ex e d _ h1) (SwAll.ex e ds _ h2)
theorem SwKv.ex {K : PySem.W.Frag} {H H' : Hp} (e : Ex H H') : ∀ (ds : List (PyData × PyData)) (kvs : List (Key × V)), SwKv K H kvs ds → SwKv K H' kvs ds
  | [], _, h => by cases h; exact .nil
  | (_, d) :: ds, _, h => by
    cases h with
    | cons h1 h2 => exact .cons (Sw.ex e d _ h1) (SwKv.ex e ds _ h2)
end
theorem more_ent {P : Program} {w : World} {as as' : List Addr} {h : Heap} {d d' : Nat} (hs : ∀ b ∈ as, b ∈ as') (hd : d ≤ d') : ∀ {es : List DictEntry} {ps : List Str}, ReprEntriesK P w as h d es ps → ReprEntriesK P w as' h d' es ps
  | _, _, .nil => .nil
  | _, _, .cons a b c => .cons ((a.more hs).level_le hd) ((b.more hs).level_le hd) (more_ent hs hd c)
def Shows (P : Program) (w : World) (h : Heap) (u : Value) (d : PyData) : Prop := (∃ as, Reads h u d as) ∧ ∃ bs, ReadAtMost h d.depth bs ∧ ReprK P w bs h d.depth u d.shown
def ShowsAll (P : Program) (w : World) (h : Heap) (us : List Value) (ds : List PyData) : Prop := (∃ as, ReadsAll h us ds as) ∧ ∃ bs, ReadAtMost h (PyData.depthAll ds) bs ∧ ReprAllK P w bs h (PyData.depthAll ds) us (PyData.shownAll ds)
section
variable {X : Cx} {pins : List (Addr × Obj)} {σ : L2.St} {H : Hp} {s : Shared}
theorem key_shows {k : Key} {u : Value} (hk : keyIs k u = true) (hz : (keyD k).shown.length ≤ sizeLine) (hs : (keyD k).showable = true) : Shows X.prog X.w s.heap u (keyD k) := by
  rcases keyIs_shape hk with ⟨i, t, rfl, rfl⟩ | ⟨x, t, rfl, rfl⟩
  · exact ⟨⟨_, Reads.int i t⟩, [], (fun _ h => nomatch h), by simp only [keyD, PyData.shown]; exact .of_is (ReprIs.int t (by simpa [keyD, PyData.showable] using hs)) _ _ _⟩
  · exact ⟨⟨_, Reads.str x t⟩, [], (fun _ h => nomatch h), by simp only [keyD, PyData.shown]; exact .of_is (ReprIs.str x t (by simpa only [keyD, PyData.shown] using hz)) _ _ _⟩
theorem depth_key (k : Key) : (keyD k).depth = 0 := by cases k <;> simp only [keyD, PyData.depth]
mutual
theorem sw_shows (I : Inv X pins σ H s) : ∀ (d : PyData) (v : V) (u : Value), Sw X.K H v d → RelV v u → d.showable = true → d.shown.length ≤ sizeLine → Shows X.prog X.w s.heap u d
  | .none, _, _, h, r, _, _ => by
    cases h
    cases r
    exact ⟨⟨_, Reads.none⟩, [], (fun _ h => nomatch h), by simp only [PyData.shown]; exact .of_is ReprIs.none _ _ _⟩
  | .bool b, _, _, h, r, _, _ => by
    cases h
    cases r
    exact ⟨⟨_, Reads.bool b⟩, [], (fun _ h => nomatch h), by simp only [PyData.shown]; exact .of_is (ReprIs.bool b) _ _ _⟩
  | .int i, _, _, h, r, hs, _ => by
    cases h
    obtain ⟨t, rfl⟩ := r
    exact ⟨⟨_, Reads.int i t⟩, [], (fun _ h => nomatch h), by simp only [PyData.shown]; exact .of_is (ReprIs.int t (by simpa [PyData.showable] using hs)) _ _ _⟩
  | .str x, _, _, h, r, _, hz => by
    cases h
    obtain ⟨t, rfl⟩ := r
    exact ⟨⟨_, Reads.str x t⟩, [], (fun _ h => nomatch h), by simp only [PyData.shown]; exact .of_is (ReprIs.str x t (by simpa only [PyData.shown] using hz)) _ _ _⟩
  | .list ds, _, _, h, r, hs, hz => by
    cases h with
    | lst hq ha =>
      cases r
      obtain ⟨its, rv, ⟨o, n, h1, h2, _, h3⟩, _⟩ := I.list hq
      have hz' : (listText (PyData.shownAll ds)).length ≤ sizeLine := by simpa only [PyData.shown] using hz
      obtain ⟨⟨as, hr⟩, bs, hb, hk⟩ := sw_showsAll I ds _ its ha rv (by simpa [PyData.showable] using hs) (fun t ht => Nat.le_trans (listText_mem_le ht) hz')
      have rr := Reads.list h1 h2 h3 hr
      have na : _ ∉ bs := not_mem_of_deeper rr (by simp only [PyData.depth]; omega) hb
      refine ⟨⟨_, rr⟩, _ :: bs, ReadAtMost.cons rr (by simp only [PyData.depth]; omega) hb, ?_⟩
      simp only [PyData.depth, PyData.shown]
      cases its with
      | nil =>
        have hr' : ReadsAll s.heap [] ds as := hr
        cases hr'
        simp only [PyData.shownAll, listText_nil]
        exact ReprK.listEmpty h1 h2 h3
      | cons y l => exact ReprK.list h1 h2 h3 na (by simpa using hk.length_eq) fun i z e => hk.item i z (by simpa using e)
  | .tuple ds, _, _, h, r, hs, hz => by
    cases h with
    | tup hq ha =>
      cases r
      obtain ⟨its, rv, ⟨o, h1, h2, n, h3⟩, _⟩ := I.tuple hq
      have hz' : (tupleText (PyData.shownAll ds)).length ≤ sizeLine := by simpa only [PyData.shown] using hz
      obtain ⟨⟨as, hr⟩, bs, hb, hk⟩ := sw_showsAll I ds _ its ha rv (by simpa [PyData.showable] using hs) (fun t ht => Nat.le_trans (tupleText_mem_le ht) hz')
      have rr := Reads.tuple h1 h2 h3 hr
      have na : _ ∉ bs := not_mem_of_deeper rr (by simp only [PyData.depth]; omega) hb
      refine ⟨⟨_, rr⟩, _ :: bs, ReadAtMost.cons rr (by simp only [PyData.depth]; omega) hb, ?_⟩
      simp only [PyData.depth, PyData.shown]
      exact ReprK.tuple h1 h2 h3 na hk
  | .dict ds, _, _, h, r, hs, hz => by
    cases h with
    | dct hq ha =>
      cases r
      obtain ⟨_, hsys, vs, rv, o, es, ep, h1, h2, h3, _, hp, _⟩ := dk_of I.hok hq
      have hz' : (dictText (PyData.shownKv ds)).length ≤ sizeLine := by simpa only [PyData.shown] using hz
      obtain ⟨⟨as1, r1⟩, ⟨as2, r2⟩, bs, hb, hk⟩ := sw_showsKv I ds _ vs es.toList ha rv hp (by simpa [PyData.showable] using hs) (fun t ht => Nat.le_trans (dictText_mem_le ht) hz')
      have rr := Reads.dict h1 h2.1 h3 r1 r2
      have na : _ ∉ bs := not_mem_of_deeper rr (by simp only [PyData.depth]; omega) hb
      refine ⟨⟨_, rr⟩, _ :: bs, ReadAtMost.cons rr (by simp only [PyData.depth]; omega) hb, ?_⟩
      simp only [PyData.depth, PyData.shown]
      exact ReprK.dict h1 h2.1 h3 hsys na hk
theorem sw_showsAll (I : Inv X pins σ H s) : ∀ (ds : List PyData) (vs : List V) (us : List Value), SwAll X.K H vs ds → Vals vs us → PyData.showableAll ds = true → (∀ t ∈ PyData.shownAll ds, t.length ≤ sizeLine) → ShowsAll X.prog X.w s.heap us ds
  | [], _, _, h, r, _, _ => by
    cases h
    cases r
    exact ⟨⟨_, ReadsAll.nil⟩, [], (fun _ h => nomatch h), by simp only [PyData.shownAll]; exact .nil⟩
  | d :: ds, _, _, h, r, hs, hz => by
    cases h with
    | cons h1 h2 =>
      cases r with
      | cons r1 r2 =>
        have hs' : d.showable = true ∧ PyData.showableAll ds = true := by simpa [PyData.showableAll] using hs
        obtain ⟨⟨a1, q1⟩, b1, g1, k1⟩ := sw_shows I d _ _ h1 r1 hs'.1 (hz _ (by simp only [PyData.shownAll]; exact List.mem_cons_self ..))
        obtain ⟨⟨a2, q2⟩, b2, g2, k2⟩ := sw_showsAll I ds _ _ h2 r2 hs'.2 (fun t ht => hz t (by simp only [PyData.shownAll]; exact List.mem_cons_of_mem _ ht))
        refine ⟨⟨_, ReadsAll.cons q1 q2⟩, b1 ++ b2, ?_, ?_⟩
        · simp only [PyData.depthAll]
          exact (g1.mono (Nat.le_max_left _ _)).append (g2.mono (Nat.le_max_right _ _))
        · simp only [PyData.depthAll, PyData.shownAll]
          exact .cons ((k1.more fun b z => List.mem_append_left _ z).level_le (Nat.le_max_left _ _)) (k2.more_le (fun b z => List.mem_append_right _ z) (Nat.le_max_right _ _))
theorem sw_showsKv (I : Inv X pins σ H s) : ∀ (ds : List (PyData × PyData)) (kvs : List (Key × V)) (vs : List (Key × Value)) (es : List DictEntry), SwKv X.K H kvs ds → KV kvs vs → Pairs (mixKind X.prog X.w) es vs → PyData.showableKv ds = true → (∀ t ∈ PyData.shownKv ds, t.length ≤ sizeLine) →
    (∃ as, ReadsAll s.heap (es.map (·.key)) (ds.map (·.1)) as) ∧ (∃ as, ReadsAll s.heap (es.map (·.val)) (ds.map (·.2)) as) ∧ ∃ bs, ReadAtMost s.heap (PyData.depthKv ds) bs ∧ ReprEntriesK X.prog X.w bs s.heap (PyData.depthKv ds) es (PyData.shownKv ds)
  | [], _, _, _, h, r, p, _, _ => by
    cases h
    cases r
    cases p
    exact ⟨⟨_, ReadsAll.nil⟩, ⟨_, ReadsAll.nil⟩, [], (fun _ h => nomatch h), by simp only [PyData.shownKv]; exact .nil⟩
  | (kd, d) :: ds, _, _, _, h, r, p, hs, hz => by
    cases h with
    | cons h1 h2 =>
      cases r with
      | cons r1 r2 =>
        cases p with
        | cons p1 p2 p3 =>
          rename_i k v kvs q vs e es
          obtain ⟨qk, qv⟩ := q
          obtain ⟨e1, rv⟩ := r1
          dsimp only at e1 p1 p2 rv
          subst e1
          have hs' : ((keyD k).showable = true ∧ d.showable = true) ∧ PyData.showableKv ds = true := by simpa [PyData.showableKv] using hs
          have ht : ((keyD k).shown ++ ": " ++ d.shown).length ≤ sizeLine := hz _ (by simp only [PyData.shownKv]; exact List.mem_cons_self ..)
          have l1 : (keyD k).shown.length ≤ ((keyD k).shown ++ ": " ++ d.shown).length := by simp only [Str.length_append]; omega
          have l2 : d.shown.length ≤ ((keyD k).shown ++ ": " ++ d.shown).length := by simp only [Str.length_append]; omega
          obtain ⟨⟨a0, q0⟩, b0, g0, k0⟩ := key_shows (X := X) (s := s) p1 (Nat.le_trans l1 ht) hs'.1.1
          obtain ⟨⟨a1, q1⟩, b1, g1, k1⟩ := sw_shows I d v e.val h1 (by rw [p2]; exact rv) hs'.1.2 (Nat.le_trans l2 ht)
          obtain ⟨⟨a2, q2⟩, ⟨a3, q3⟩, b2, g2, k2⟩ := sw_showsKv I ds _ _ _ h2 r2 p3 hs'.2 (fun t m => hz t (by simp only [PyData.shownKv]; exact List.mem_cons_of_mem _ m))
          have m0 : (keyD k).depth ≤ max (max (keyD k).depth d.depth) (PyData.depthKv ds) := Nat.le_trans (Nat.le_max_left _ _) (Nat.le_max_left _ _)
          have m1 : d.depth ≤ max (max (keyD k).depth d.depth) (PyData.depthKv ds) := Nat.le_trans (Nat.le_max_right _ _) (Nat.le_max_left _ _)
          have m2 : PyData.depthKv ds ≤ max (max (keyD k).depth d.depth) (PyData.depthKv ds) := Nat.le_max_right _ _
          refine ⟨⟨_, ReadsAll.cons q0 q2⟩, ⟨_, ReadsAll.cons q1 q3⟩, b0 ++ (b1 ++ b2), ?_, ?_⟩
          · simp only [PyData.depthKv]
            exact (g0.mono m0).append ((g1.mono m1).append (g2.mono m2))
          · simp only [PyData.depthKv, PyData.shownKv]
            refine .cons ((k0.more fun b z => List.mem_append_left _ z).level_le m0) ((k1.more fun b z => List.mem_append_right _ (List.mem_append_left _ z)).level_le m1) ?_
            exact more_ent (fun b z => List.mem_append_right _ (List.mem_append_right _ z)) m2 k2
end
theorem sw_by (I : Inv X pins σ H s) {a : Addr} {d : PyData} (h : Sw X.K H (.ref a) d) (hs : d.showable = true) (hz : d.shown.length ≤ sizeLine) : ∃ T idr, ShowsBy X.prog X.w s.heap a d T idr := by
  cases h with
  | lst hq ha =>
    rename_i xs ds
    obtain ⟨its, rv, ⟨o, n, h1, h2, _, h3⟩, _⟩ := I.list hq
    have hz' : (listText (PyData.shownAll ds)).length ≤ sizeLine := by simpa only [PyData.shown] using hz
    obtain ⟨⟨as, hr⟩, bs, hb, hk⟩ := sw_showsAll I ds _ its ha rv (by simpa [PyData.showable] using hs) (fun t ht => Nat.le_trans (listText_mem_le ht) hz')
    have na : a ∉ bs := not_mem_of_deeper (Reads.list h1 h2 h3 hr) (by simp only [PyData.depth]; omega) hb
    refine ⟨"list", "list.__repr__", F.slot_list_repr.toG, F.slot_list_str, F.slot_list_format, fun s' kp => ⟨o, kp _ _ h1, h2⟩, fun A E s' Q gd hu kp hQ => ?_⟩
    simp only [PyData.depth] at hu
    simp only [PyData.shown] at hQ
    cases its with
    | nil =>
      have hr' : ReadsAll s.heap [] ds as := hr
      cases hr'
      simp only [PyData.shownAll, listText_nil] at hQ
      exact call_list_repr_empty ⟨o, kp _ _ h1, h2⟩ (kp _ _ h1) h3 (hQ s'.heap _ _ fun _ _ z => z)
    | cons y l => exact call_list_reprK h1 h2 h3 na (by simpa using hk.length_eq) (fun i z e => hk.item i z (by simpa using e)) gd (fun b _ => Clear.nil b) hu kp hQ hz'
  | tup hq ha =>
    rename_i xs ds
    obtain ⟨its, rv, ⟨o, h1, h2, n, h3⟩, _⟩ := I.tuple hq
    have hz' : (tupleText (PyData.shownAll ds)).length ≤ sizeLine := by simpa only [PyData.shown] using hz
    obtain ⟨⟨as, hr⟩, bs, hb, hk⟩ := sw_showsAll I ds _ its ha rv (by simpa [PyData.showable] using hs) (fun t ht => Nat.le_trans (tupleText_mem_le ht) hz')
    have na : a ∉ bs := not_mem_of_deeper (Reads.tuple h1 h2 h3 hr) (by simp only [PyData.depth]; omega) hb
    refine ⟨"tuple", "tuple.__repr__", F.slot_tuple_repr, F.slot_tuple_str, F.slot_tuple_format, fun s' kp => ⟨o, kp _ _ h1, h2⟩, fun A E s' Q gd hu kp hQ => ?_⟩
    simp only [PyData.depth] at hu
    simp only [PyData.shown] at hQ
    exact call_tuple_reprK h1 h2 h3 na hk gd (fun b _ => Clear.nil b) hu kp hQ hz'
  | dct hq ha =>
    rename_i kvs ds
    obtain ⟨_, hsys, vs, rv, o, es, ep, h1, h2, h3, _, hp, _⟩ := dk_of I.hok hq
    have hz' : (dictText (PyData.shownKv ds)).length ≤ sizeLine := by simpa only [PyData.shown] using hz
    obtain ⟨⟨as1, r1⟩, ⟨as2, r2⟩, bs, hb, hk⟩ := sw_showsKv I ds _ vs es.toList ha rv hp (by simpa [PyData.showable] using hs) (fun t ht => Nat.le_trans (dictText_mem_le ht) hz')
    have na : a ∉ bs := not_mem_of_deeper (Reads.dict h1 h2.1 h3 r1 r2) (by simp only [PyData.depth]; omega) hb
    refine ⟨"dict", "dict.__repr__", F.slot_dict_repr, F.slot_dict_str, F.slot_dict_format, fun s' kp => ⟨o, kp _ _ h1, h2.1⟩, fun A E s' Q gd hu kp hQ => ?_⟩
    simp only [PyData.depth] at hu
    simp only [PyData.shown] at hQ
    exact call_dict_reprK h1 h2.1 h3 hsys na hk gd (fun b _ => Clear.nil b) hu kp hQ hz'
/-- repr(x), no container being shown yet -/
def rRepr (K : PySem.W.Frag) : List V → Hp → VK → Prop := fun xs H Q => ∃ v d, xs = [v] ∧ Sw K H v d ∧ d.showable = true ∧ d.shown.length ≤ sizeLine ∧ d.depth ≤ 60 ∧ Q (.str d.shown) H
theorem call_repr (gd : X.A.guards = some []) (hu : X.A.units + 64 < cLine) : CallR X (.builtin "repr") (rRepr X.K) := by
  intro pins s σ H xs us Q I r h
  obtain ⟨v, d, rfl, hsw, hs, hz, hd, q⟩ := h
  obtain ⟨u, rfl, rv⟩ := vals1 r
  have fin : ∀ (h' : Heap) (tk : Nat) (t : Tok), (∀ b o, s.heap.get? b = some o → h'.get? b = some o) → EP X pins σ Q (.str d.shown t) { s with heap := h', toks := tk } := fun h' tk t kp => ⟨.str d.shown, H, I.kept kp, ⟨_, rfl⟩, q⟩
  cases v with
  | non =>
    cases hsw
    cases rv
    simp only [PyData.shown] at fin
    exact PySem.P.repr_of_none (fin _ _ _ fun _ _ z => z)
  | bl b =>
    cases hsw
    cases rv
    simp only [PyData.shown] at fin
    exact PySem.P.repr_of_bool (fin _ _ _ fun _ _ z => z)
  | int i =>
    cases hsw
    obtain ⟨t, rfl⟩ := rv
    simp only [PyData.shown] at fin
    exact PySem.P.repr_of_int (by simpa [PyData.showable] using hs) (fin _ _ _ fun _ _ z => z)
  | str x =>
    cases hsw
    obtain ⟨t, rfl⟩ := rv
    simp only [PyData.shown] at fin hz
    exact PySem.P.repr_of_str (fin _ _ _ fun _ _ z => z) hz
  | ref a =>
    cases rv
    obtain ⟨T, idr, S⟩ := sw_by I hsw hs hz
    exact call_repr_slot (by omega) (S.typeIs s fun _ _ z => z) S.slotRepr (S.call X.A.in1 _ s _ gd (by show X.A.units + 1 + d.depth < cLine; omega) (fun _ _ z => z) fun h' u tk kp => ⟨_, _, rfl, fin h' tk u kp⟩)
  | byt b => cases hsw
  | flt b => cases hsw
  | ty n => cases hsw
end
end Rep
/-! ### defs that ask who else is being shown (repr): promises where no container is being shown yet -/
namespace Gu
open PySem PySem.Spec PyProof.Rows L2
structure FnG (P : Program) (w : World) (K : PySem.W.Frag) (mg : Str → Option Value) (base : Heap) (k : Nat) (f : Addr) (fd : FuncData) (ps : List Str) (sp : Sp) : Prop where
  len : ∀ vs H Q E, sp vs H Q E → vs.length = ps.length
  run : ∀ (A : Around) (outer : List Env) (s : Shared) (H : Hp) (args : Args) (us : List Value) (vs : List V) (Q : VK) (E : XK), A.guards = some [] → Room k A → Env0 P w K mg base A outer s H → BindsTo s fd args (ps.zip us) → Vals vs us → sp vs H Q E →
    codeAny (model P w) A (.call (.ref f) args) (CR CX0 outer P w H s Q E) s
theorem FnG.of {P : Program} {w : World} {K : PySem.W.Frag} {mg : Str → Option Value} {base : Heap} {k : Nat} {f : Addr} {fd : FuncData} {ps : List Str} {sp : Sp} (F : FnOk P w K mg base CX0 k f fd ps sp) : FnG P w K mg base k f fd ps sp :=
  ⟨F.len, fun A outer s H args us vs Q E _ => F.run A outer s H args us vs Q E⟩
theorem FnG.mono {P : Program} {w : World} {K : PySem.W.Frag} {mg : Str → Option Value} {base : Heap} {j k : Nat} {f : Addr} {fd : FuncData} {ps : List Str} {sp : Sp} (F : FnG P w K mg base j f fd ps sp) (h : j ≤ k) : FnG P w K mg base k f fd ps sp :=
  ⟨F.len, fun A outer s H args us vs Q E g hr => F.run A outer s H args us vs Q E g (hr.mono h)⟩
section
variable {P : Program} {w : World} {K : PySem.W.Frag} {mg : Str → Option Value} {base : Heap}
theorem fng_of {k : Nat} {f : Addr} {nm qual : Str} {params : Arguments} {body : List Stmt} {scope : Scope} {dV kV doc pm cdv ct oc : Value} {an od : Option Addr} {osl : Array (Option Value)} {N ps : List Str} {sp : Sp}
    (lk : K.lookup f = some ⟨oc, od, .func (PySem.W.fnOf nm qual params body scope dV kV doc pm an cdv ct), osl⟩) (cr : PySem.W.codeIn K cdv qual = true) (S : FnScope N ps scope) (len : ∀ vs H Q E, sp vs H Q E → vs.length = ps.length)
    (bd : ∀ (A : Around) (outer : List Env) (s : Shared) (H : Hp) (vs : List V) (Q : VK) (E : XK), A.guards = some [] → Room k (A.deeper (envOfC qual scope s.heap.objs.size f cdv)) → sp vs H Q E →
      ∃ t, PSs (cxOf CX0 P w K mg base N qual scope f cdv A outer s H E) body t ∧ t { nx := fun _ H' => Q .non H', rt := Q } (start N vs) H) :
    FnG P w K mg base (k + 1) f (PySem.W.fnOf nm qual params body scope dV kV doc pm an cdv ct) ps sp := by
  refine ⟨len, fun A outer s H args us vs Q E gd hr e0 hb rv hsp => ?_⟩
  have hl := len _ _ _ _ hsp
  have kin : K.In s.heap := e0.mod.kin.keeps fun b o z => (e0.bs b o z).1
  have lim : s.heap.NoLimit := e0.mod.nolimit.keeps fun b o z => (e0.bs b o z).1
  have kinds : ∀ y ∈ ps.zip us, scope.names.lookup y.1 = some .local ∨ (scope.names.lookup y.1 = some .cell ∧ ((cellsFrom (s.heap.objs.size + 1) scope.names []).lookup y.1).isSome = true) := by
    rintro ⟨n, v⟩ hy
    rcases S.par n (List.of_mem_zip hy).1 with q | q
    · exact .inl q
    · exact .inr ⟨q, PySem.W.cellsFrom_some _ _ _ (.inl q)⟩
  refine codeAny_call_function hr.depth (kin _ _ lk) rfl S.co S.gen rfl (PySem.W.codeRec_of kin cr) (hb _ _ _ _ ?_)
  refine wpAny_newFunctionEnv_cells S.kind kinds fun env he s1 ic => ?_
  subst he
  refine ⟨lim.keeps ic.toInCall.keep, codeAny_func ?_⟩
  obtain ⟨t, ht, hq⟩ := bd A outer s H vs Q E gd (hr.deeper _) hsp
  have I : Inv (cxOf CX0 P w K mg base N qual scope f cdv A outer s H E) [] (start N vs) H s1 := inv_start S hr.hd e0 hl rv ic
  refine wpAny_mono (ht.run [] s1 (start N vs) H _ I hq) (fun fl s' hs => ?_) fun e s' hs => hs
  cases fl with
  | ret u =>
    obtain ⟨v, σ', H', J, r', q⟩ := hs
    exact ⟨v, H', J.os, J.bare, J.base, J.hok, r', q⟩
  | next =>
    obtain ⟨σ', H', J, q⟩ := hs
    exact ⟨V.non, H', J.os, J.bare, J.base, J.hok, rfl, q⟩
  | brk => exact False.elim hs.choose_spec.choose_spec.2
  | cont => exact False.elim hs.choose_spec.choose_spec.2
theorem fun_okG {x qual : Str} {st : Stmt} {f : Addr} {fd : FuncData} {N ps : List Str} {k : Nat} {sp : Sp} (F : Fun K x qual st f fd) (S : FnScope N ps (defScope st)) (len : ∀ vs H Q E, sp vs H Q E → vs.length = ps.length)
    (bd : ∀ (cdv : Value) (A : Around) (outer : List Env) (s : Shared) (H : Hp) (vs : List V) (Q : VK) (E : XK), A.guards = some [] → Room k (A.deeper (envOfC qual (defScope st) s.heap.objs.size f cdv)) → sp vs H Q E →
      ∃ t, PSs (cxOf CX0 P w K mg base N qual (defScope st) f cdv A outer s H E).nox (defBody st) t ∧ t { nx := fun _ H' => Q .non H', rt := Q } (start N vs) H) : FnG P w K mg base (k + 1) f fd ps sp := by
  obtain ⟨oc, od, kV, doc, pm, an, cdv, ct, osl, rfl, lk, cr⟩ := F.ex
  refine fng_of lk cr S len fun A outer s H vs Q E gd hr hsp => ?_
  obtain ⟨t, h, q⟩ := bd cdv A outer s H vs Q E gd hr hsp
  exact ⟨t, h.nox, q⟩
end
section
variable {X : Cx} {k : Nat} {f : Addr} {fd : FuncData} {ps : List Str} {sp : Sp} {dvs : List V} {ds : List Value} {E : XK} {x : Str} {p pos : Pos} {e : Expr} {es : List Expr} {t : TA}
theorem pe_callG (F : FnG X.prog X.w X.K X.mg X.base k f fd ps sp) (gd : X.A.guards = some []) (hr : Room k X.A) (hg : Gl X x) (hm : X.mg x = some (.ref f)) (hk : PySem.W.keepIn X.K (.ref f) = true) (hb : Binds X.K fd ps ds) (hd : Vals dvs ds)
    (ha : PA X (e :: es) t) (hdb : (x == ("__debug__" : Str)) = false := by decide) (he : starEach (e :: es) X.env = (false, eval e X.env) :: starEach es X.env := by rfl) (hpl : (backTo pos (starEach es X.env)).any (·.1) = false := by rfl) :
    PE X (.Call (.Name x p) (e :: es) [] pos) (tCall sp dvs E0 t) := by
  refine ⟨fun pins s σ H Q I h => ?_⟩
  refine wpAny_Call_Name_kw (ld_glob I hg hm ?_ hdb)
  refine PySem.W.callWith_K (h₀ := X.base) I.ok.mod.kin hk (thn (ha.run pos pins s σ H _ I h) fun us s1 ⟨vs, H1, I1, rv, q⟩ => ⟨I1.kIn, ?_⟩) he hpl
  show wpAny _ _ (call (.ref f) us) _ _ _
  have r2 : Vals (vs ++ dvs) (us ++ ds) := rv.append hd
  have hl : (us ++ ds).length = ps.length := by
    rw [← r2.length]
    exact F.len _ _ _ _ q
  refine wpAny_call (codeAny_mono (F.run X.A X.stack s1 H1 ⟨us, []⟩ (us ++ ds) (vs ++ dvs) Q E0 gd hr I1.env0 (hb s1 us I1.kIn hl) r2 q) fun r s' hq => ?_)
  cases r with
  | error er => exact False.elim hq
  | ok fl =>
    cases fl with
    | ret u => exact I1.after hq
    | next => exact False.elim hq
    | brk => exact False.elim hq
    | cont => exact False.elim hq
end
theorem law_callG {P : Program} {w : World} {K : PySem.W.Frag} {mg mb : Str → Option Value} {k : Nat} {fa a : Addr} {fd : FuncData} {x : Str} {sp : Sp} {s1 : Shared} {vs : List Value} {ns : List Int} (kin : K.In s1.heap) (hns : s1.heap.Ns mainGlobals mg)
    (hb : s1.heap.Ns builtinsNs mb) (hbb : ∀ x : Str, x ≠ "__name__" → mb x = bootBuiltins x) (hlim : s1.heap.NoLimit) (hg : s1.gens = #[]) (ha : s1.heap.get? a = some { cls := .type "list", data := .seq vs.toArray }) (hi : IntsAre vs ns) (hl : ns.length ≤ sizeLine)
    (hr : Room k callerA) (F : ∀ base : Heap, K.In base → base.Ns mainGlobals mg → FnG P w K mg base k fa fd [x] sp) (hbind : ∀ (s : Shared) (u : Value), BindsTo s fd ⟨[u], []⟩ [(x, u)])
    (hsp : ∀ H : Hp, Only H → SqL K H a (ns.map V.int) → sp [.ref a] H (fun v _ => v = .bl true) fun _ _ _ => False) :
    codeAny (model P w) callerA (.call (.ref fa) ⟨[.ref a], []⟩) (fun r s' => r = .ok (.ret (.bool true)) ∧ OldK s1.heap s'.heap ∧ s'.os = s1.os ∧ AllBare s'.gens) s1 := by
  have rv := vals_ints hi
  have lv := hi.length
  have main : ∀ H : Hp, Only H → SqL K H a (ns.map V.int) → HOk P w H s1.heap → (∀ b, H b ≠ none → b = a) → (H a ≠ none → K.lookup a = none) →
      codeAny (model P w) callerA (.call (.ref fa) ⟨[.ref a], []⟩) (fun r s' => r = .ok (.ret (.bool true)) ∧ OldK s1.heap s'.heap ∧ s'.os = s1.os ∧ AllBare s'.gens) s1 := by
    intro H hO hS hok hA hK
    have keep1 : ∀ {b : Addr} {o : Obj} {es : Array DictEntry} {ep : Nat}, s1.heap.get? b = some o → o.data = .dict es ep → H b = none := by
      intro b o es ep z d
      cases q : H b with
      | none => rfl
      | some u =>
        obtain rfl : b = a := hA b (by rw [q]; simp)
        rw [ha] at z
        cases z
        have d' : Data.seq vs.toArray _ = Data.dict es ep := d
        cases d'
    have nsK : ∀ {b : Addr} {m : Str → Option Value}, s1.heap.Ns b m → (hidT s1.heap H).Ns b m := fun {b m} ⟨o, es, ep, z, d, r⟩ => ⟨o, es, ep, hidT_get z (keep1 z d), d, r⟩
    have kb : K.In (hidT s1.heap H) := by
      intro b o z
      refine hidT_get (kin b o z) ?_
      cases q : H b with
      | none => rfl
      | some u =>
        obtain rfl : b = a := hA b (by rw [q]; simp)
        rw [hK (by rw [q]; simp)] at z
        cases z
    have hM : Mod K mg (hidT s1.heap H) := ⟨kb, nsK hns, ⟨mb, nsK hb, hbb⟩, let ⟨mc, h1, h2⟩ := hlim; ⟨mc, nsK h1, h2⟩⟩
    have e0 : Env0 P w K mg (hidT s1.heap H) callerA [] s1 H := ⟨rfl, hM, fun b o z => of_hidT z, Nat.le_of_eq (hidT_size _ _), trivial, fun b z => absurd (show b ∈ ([] : List Addr) from z) (by simp), hok, .of_eq hg⟩
    refine codeAny_mono ((F _ kb (nsK hns)).run callerA [] s1 H ⟨[.ref a], []⟩ [.ref a] [.ref a] _ _ rfl hr e0 (hbind s1 (.ref a)) (.cons rfl .nil) (hsp H hO hS)) fun r s' h => ?_
    cases r with
    | error er => exact False.elim h
    | ok fl =>
      cases fl with
      | next => exact False.elim h
      | brk => exact False.elim h
      | cont => exact False.elim h
      | ret u =>
        obtain ⟨v, H', os, bare, un, hok', r', q⟩ := h
        obtain rfl : v = .bl true := q
        obtain rfl : u = Value.bool true := r'
        refine ⟨rfl, OldK.of_keep fun b o z => ?_, os, bare⟩
        cases q : H b with
        | none => exact un.keep b o z q (fun y => absurd (show b ∈ ([] : List Addr) from y) (by simp)) (by simp)
        | some u =>
          rcases hO b with y | ⟨ob, xs, y⟩
          · rw [q] at y
            cases y
          · have y2 := un.frzs b ob _ y
            obtain ⟨e1, _⟩ := hok b _ y
            obtain ⟨e2, _⟩ := hok' b _ y2
            rw [z] at e1
            cases e1
            exact e2
  cases hk : K.lookup a with
  | some o =>
    have z := kin a o hk
    rw [ha] at z
    cases z
    exact main (fun _ => none) (fun _ => .inl rfl) (.inr ⟨_, vs.toArray, _, hk, rfl, rfl, rfl, by rw [List.size_toArray, lv]; exact hl, by simpa using rv⟩) (fun b u z => by cases (show (none : Option HO) = some u from z)) (fun b z => absurd rfl z) fun z => absurd rfl z
  | none =>
    refine main (fun b => if b = a then some (.frz { cls := .type "list", data := .seq vs.toArray } (.lst (ns.map V.int))) else none) (fun b => ?_) (.inl (.inr ⟨{ cls := .type "list", data := .seq vs.toArray }, if_pos rfl⟩)) (fun b u z => ?_) (fun b z => ?_) fun _ => hk
    · by_cases hq : b = a
      · exact .inr ⟨_, _, if_pos hq⟩
      · exact .inl (if_neg hq)
    · by_cases hq : b = a
      · cases (if_pos hq).symm.trans z
        subst hq
        exact ⟨ha, by rw [List.length_map]; exact hl, vs, _, rv, ha⟩
      · cases (if_neg hq).symm.trans z
    · by_cases hq : b = a
      · exact hq
      · exact absurd (if_neg hq) z
theorem walkG {l : PySem.W.OpenLaw} {n k : Nat} {q : Program} {loose : List Str} {XP : (Str → Option Value) → Heap → Prop} {YP : World → Heap → Prop} {d : DefRec} {K : Params → PySem.W.Frag} {sp : PySem.W.Frag → Sp} {x : Str}
    (hn : l.most = some n) (hn2 : n ≤ sizeLine) (hdf : d.params.defaults = []) (hr : Room k callerA) (hY : ∀ (w : World) (h : Heap), YP w h → (K w.params).In h)
    (F : ∀ (w : World) (mg : Str → Option Value) (fa : Addr) (h : Heap), (K w.params).In h → h.Ns mainGlobals mg → mg d.name = some (.ref fa) →
      ∃ fd : FuncData, (∀ (s : Shared) (u : Value), BindsTo s fd ⟨[u], []⟩ [(x, u)]) ∧ ∀ base : Heap, (K w.params).In base → base.Ns mainGlobals mg → FnG l.prog w (K w.params) mg base k fa fd [x] (sp (K w.params)))
    (hsp : ∀ (K : PySem.W.Frag) (H : Hp) (a : Addr) (ns : List Int), ns.length ≤ n → SqL K H a (ns.map V.int) → sp K [.ref a] H (fun v _ => v = .bl true) fun _ _ _ => False) :
    PySem.W.WalkO q loose XP YP l.row.toRowW d [] (fun f vs => PySem.call f vs) := by
  refine Att.attach_call hn hdf fun w s₀ s1 mg mb fa o pm cd doc a vs ns G Y ho hd hcd hmg hobj hints hlen hg => ?_
  have kin := hY w _ Y
  obtain ⟨fd, hb, hF⟩ := F w mg fa _ kin G.T.g hmg
  exact law_callG kin G.T.g G.T.b G.T.builtins G.T.nolimit hg hobj hints (Nat.le_trans hlen hn2) hr hF hb fun H _ hS => hsp _ H a ns hlen hS
end Gu
/-! ### the law's own defs -/
namespace Fn1
open PySem PySem.Spec PyProof.Rows L2 Evl ExV Gen Kls Rep Gu
abbrev sKinds : Stmt := top 19
abbrev sRight : Stmt := top 20
abbrev sPlaced : Stmt := top 21
abbrev sNamed : Stmt := top 22
abbrev sUnset : Stmt := top 23
/-! words over Evl -/
section
variable {K : PySem.W.Frag} {σ : L2.St} {H H' : Hp} {ta tb te : TE} {v : V}
theorem el_cat {a : Addr} {xs ys : List V} (ha : Ev ta σ H (.ref a)) (hp : H a = some (.lst xs)) (hb : EvL tb σ H ys) (hz : xs.length + ys.length ≤ 100000) : EvL (tOp rCat ta tb) σ H (xs ++ ys) := fun H1 e Q q =>
  ha H1 e _ fun H2 e2 => hb H2 (e.trans e2) _ fun p H3 _ e3 hl => ⟨a, p, xs, ys, rfl, rfl, e3 _ _ (e2 _ _ (e _ _ hp)), hl, sz_of hz, fun r hr => q r _ (fresh_back (e2.trans e3) hr) ((e2.trans e3).trans (Ex.new hr)) upd_same⟩
theorem el_catL {xs ys : List V} (ha : EvL ta σ H xs) (hb : EvL tb σ H ys) (hz : xs.length + ys.length ≤ 100000) : EvL (tOp rCat ta tb) σ H (xs ++ ys) := fun H1 e Q q =>
  ha H1 e _ fun p1 H2 _ e2 h2 => hb H2 (e.trans e2) _ fun p H3 _ e3 hl => ⟨p1, p, xs, ys, rfl, rfl, e3 _ _ h2, hl, sz_of hz, fun r hr => q r _ (fresh_back (e2.trans e3) hr) ((e2.trans e3).trans (Ex.new hr)) upd_same⟩
theorem el_rep {xs : List V} {n : Nat} (ha : EvL ta σ H xs) (hn : n ≤ 1000) (hz : xs.length * n ≤ 100000) : EvL (tOp rRep ta (tC (.int (n : Int)))) σ H (List.replicate n xs).flatten := fun H1 e Q q =>
  ha H1 e _ fun p1 H2 _ e2 h2 => ⟨p1, (n : Int), xs, rfl, rfl, h2, by omega, by omega, by rw [Int.toNat_natCast]; exact sz_of hz, fun r hr => q r _ (fresh_back e2 hr) (e2.trans (Ex.new hr)) (by rw [Int.toNat_natCast]; exact upd_same)⟩
theorem ev_cbL {r : List V → Hp → VK → Prop} {xs : List V} {z : V} (ha : EvL ta σ H xs) (hr : ∀ p H1, H1 p = some (.lst xs) → Ex H H1 → RC r [.ref p] H1 z) : Ev (tCB r (tCons ta tNil)) σ H z := fun H1 e Q q =>
  ha H1 e _ fun p H2 _ e2 h2 => hr p H2 h2 (e.trans e2) H2 (Ex.refl _) Q fun H3 e3 => q H3 (e2.trans e3)
theorem rc_repr {d : PyData} (h : Sw K H v d) (hs : d.showable = true) (hz : d.shown.length ≤ sizeLine) (hd : d.depth ≤ 60) : RC (rRepr K) [v] H (.str d.shown) := fun H1 e Q q =>
  ⟨v, d, rfl, Sw.ex e _ _ h, hs, hz, hd, q H1 (Ex.refl _)⟩
theorem rc_errIs {a C : Addr} {c : V} {u : Value} {b : Bool} (h : ErrIs H a C) (T : IsC K C) (k : ClsV c u) (e0 : PySem.W.kitOne K (.ref C) u = some b) : RC (rErrIs K) [.ref a, c] H (.bl b) := fun H1 e Q q =>
  ⟨a, C, c, u, b, rfl, h.ex e, T, k, e0, q H1 (Ex.refl _)⟩
theorem ev_errF {a C : Addr} {f : Str} {y : V} (ha : Ev te σ H (.ref a)) (h : ErrAt H a C f y) (T : XfC K C) (no : PySem.W.findIn K (.ref C) f = some none) : Ev (tErrF K f te) σ H y := fun H1 e Q q =>
  ha H1 e _ fun H2 e2 => ⟨a, C, y, rfl, h.ex (e.trans e2), T, no, q H2 e2⟩
end
/-- what the top has written -/
structure Txt (K : PySem.W.Frag) (mg : Str → Option Value) (C fI : Nat → Addr) (CH : Addr) : Prop where
  m : ∀ i, i < 12 → mg (cname i) = some (.ref (C i))
  own : ∀ i, i < 11 → Own K (C i) (fI i)
  isc : ∀ i, i < 12 → IsC K (C i)
  no : ∀ i, i < 11 → PySem.W.findIn K (.ref (C i)) (fname i) = some none
  kit : ∀ i j, i < 12 → j < 12 → PySem.W.kitOne K (.ref (C i)) (.ref (C j)) = some (decide (i = j))
  kitH : ∀ i, i < 12 → PySem.W.kitOne K (.ref (C i)) (.ref CH) = some true
  kitV : ∀ i, i < 12 → PySem.W.kitOne K (.ref (C i)) (.type "ValueError") = some true
  mH : mg "HushError" = some (.ref CH)
  iscH : IsC K CH
  kHV : PySem.W.kitOne K (.ref CH) (.type "ValueError") = some true
  xN : PySem.W.excIn K (C 11) [.type "ValueError", .type "Exception", .type "BaseException", .type "object"] "ValueError.__new__" = true
  xH : PySem.W.excIn K CH [.type "ValueError", .type "Exception", .type "BaseException", .type "object"] "ValueError.__new__" = true
  kN : PySem.W.keepIn K (.ref (C 11)) = true
  kH : PySem.W.keepIn K (.ref CH) = true
  VE : mg "ValueError" = none
  isi : mg "isinstance" = none
  rpr : mg "repr" = none
  lst : mg "list" = none
  dct : mg "dict" = none
  range : mg "range" = none
/-! `_law_kinds` -/
def spKinds (C : Nat → Addr) : Sp := fun vs H Q _ => ∃ a k, k < 12 ∧ vs = [.ref a] ∧ ErrIs H a (C k) ∧ ∀ p H2, H p = none → Ex H H2 → H2 p = some (.lst [.int ((k : Nat) : Int)]) → Q (.ref p) H2
def bits (k : Nat) : List V := [.bl (decide (k = 0)), .bl (decide (k = 1)), .bl (decide (k = 2)), .bl (decide (k = 3)), .bl (decide (k = 4)), .bl (decide (k = 5)), .bl (decide (k = 6)), .bl (decide (k = 7)), .bl (decide (k = 8)), .bl (decide (k = 9)), .bl (decide (k = 10)), .bl (decide (k = 11))]
theorem bits_at (k : Nat) : ∀ i, i < 12 → (bits k)[i]? = some (.bl (decide (k = i)))
  | 0, _ => rfl
  | 1, _ => rfl
  | 2, _ => rfl
  | 3, _ => rfl
  | 4, _ => rfl
  | 5, _ => rfl
  | 6, _ => rfl
  | 7, _ => rfl
  | 8, _ => rfl
  | 9, _ => rfl
  | 10, _ => rfl
  | 11, _ => rfl
  | n + 12, h => by omega
theorem given_one : ∀ k, k < 12 → given 12 (fun i => decide (k = i)) (fun i => V.int (i : Int)) = [V.int (k : Int)]
  | 0, _ => rfl
  | 1, _ => rfl
  | 2, _ => rfl
  | 3, _ => rfl
  | 4, _ => rfl
  | 5, _ => rfl
  | 6, _ => rfl
  | 7, _ => rfl
  | 8, _ => rfl
  | 9, _ => rfl
  | 10, _ => rfl
  | 11, _ => rfl
  | n + 12, h => by omega
section
variable {P : Program} {w : World} {K : PySem.W.Frag} {mg : Str → Option Value} {base : Heap} {C fI : Nat → Addr} {CH : Addr}
theorem scK : FnScope ["_law_error", "_law_classes", "_law_at"] ["_law_error"] (defScope sKinds) := ⟨rfl, rfl, rfl, by decide +kernel, rfl, by decide +kernel, by decide +kernel⟩
theorem ok_kinds {f : Addr} {fd : FuncData} (F : Fun K "_law_kinds" "_law_kinds" sKinds f fd) (T : Txt K mg C fI CH) : FnOk P w K mg base CX0 1 f fd ["_law_error"] (spKinds C) := by
  refine F.ok scK (fun vs H Q E h => ?_) (fun cdv A outer s H vs Q E hr h => ?_)
  · obtain ⟨a, k, _, rfl, _⟩ := h
    rfl
  · obtain ⟨a, k, hk, rfl, hE, kq⟩ := h
    have isV : ∀ i, i < 12 → ∀ (σ' : L2.St) (H' : Hp), Ex H H' → σ'[0]? = some (some (.ref a)) → Ev (tCB (rErrIs K) (tCons (tVar 0) (tCons (tC (.ref (C i))) tNil))) σ' H' (.bl (decide (k = i))) := fun i hi σ' H' e hv =>
      ev_cb (ea_cons (ev_var hv) (ea_cons ev_c ea_nil)) (rc_errIs (hE.ex e) (T.isc k hk) (.own _) (T.kit k i hk hi))
    refine ⟨_, (pss_cons (ps_set (i := 1) scK.nd rfl (Or.inr rfl) (pe_lst (pa_cons (pe_callB (id := "isinstance") (r := rErrIs K) call_errIs (by rfl) T.isi (by decide +kernel) (pa_cons (pv 0) (pa_cons (pe_glob (v := V.ref (C 0)) (by rfl) (T.m 0 (by decide)) rfl) pa_nil))) (pa_cons (pe_callB (id := "isinstance") (r := rErrIs K) call_errIs (by rfl) T.isi (by decide +kernel) (pa_cons (pv 0) (pa_cons (pe_glob (v := V.ref (C 1)) (by rfl) (T.m 1 (by decide)) rfl) pa_nil))) (pa_cons (pe_callB (id := "isinstance") (r := rErrIs K) call_errIs (by rfl) T.isi (by decide +kernel) (pa_cons (pv 0) (pa_cons (pe_glob (v := V.ref (C 2)) (by rfl) (T.m 2 (by decide)) rfl) pa_nil))) pa_nil)))))
      (pss_cons (ps_set (i := 1) scK.nd rfl (Or.inr rfl) (pe_op op_cat (pv 1) (pe_lst (pa_cons (pe_callB (id := "isinstance") (r := rErrIs K) call_errIs (by rfl) T.isi (by decide +kernel) (pa_cons (pv 0) (pa_cons (pe_glob (v := V.ref (C 3)) (by rfl) (T.m 3 (by decide)) rfl) pa_nil))) (pa_cons (pe_callB (id := "isinstance") (r := rErrIs K) call_errIs (by rfl) T.isi (by decide +kernel) (pa_cons (pv 0) (pa_cons (pe_glob (v := V.ref (C 4)) (by rfl) (T.m 4 (by decide)) rfl) pa_nil))) pa_nil)))))
      (pss_cons (ps_set (i := 1) scK.nd rfl (Or.inr rfl) (pe_op op_cat (pv 1) (pe_lst (pa_cons (pe_callB (id := "isinstance") (r := rErrIs K) call_errIs (by rfl) T.isi (by decide +kernel) (pa_cons (pv 0) (pa_cons (pe_glob (v := V.ref (C 5)) (by rfl) (T.m 5 (by decide)) rfl) pa_nil))) (pa_cons (pe_callB (id := "isinstance") (r := rErrIs K) call_errIs (by rfl) T.isi (by decide +kernel) (pa_cons (pv 0) (pa_cons (pe_glob (v := V.ref (C 6)) (by rfl) (T.m 6 (by decide)) rfl) pa_nil))) pa_nil)))))
      (pss_cons (ps_set (i := 1) scK.nd rfl (Or.inr rfl) (pe_op op_cat (pv 1) (pe_lst (pa_cons (pe_callB (id := "isinstance") (r := rErrIs K) call_errIs (by rfl) T.isi (by decide +kernel) (pa_cons (pv 0) (pa_cons (pe_glob (v := V.ref (C 7)) (by rfl) (T.m 7 (by decide)) rfl) pa_nil))) (pa_cons (pe_callB (id := "isinstance") (r := rErrIs K) call_errIs (by rfl) T.isi (by decide +kernel) (pa_cons (pv 0) (pa_cons (pe_glob (v := V.ref (C 8)) (by rfl) (T.m 8 (by decide)) rfl) pa_nil))) pa_nil)))))
      (pss_cons (ps_set (i := 1) scK.nd rfl (Or.inr rfl) (pe_op op_cat (pv 1) (pe_lst (pa_cons (pe_callB (id := "isinstance") (r := rErrIs K) call_errIs (by rfl) T.isi (by decide +kernel) (pa_cons (pv 0) (pa_cons (pe_glob (v := V.ref (C 9)) (by rfl) (T.m 9 (by decide)) rfl) pa_nil))) (pa_cons (pe_callB (id := "isinstance") (r := rErrIs K) call_errIs (by rfl) T.isi (by decide +kernel) (pa_cons (pv 0) (pa_cons (pe_glob (v := V.ref (C 10)) (by rfl) (T.m 10 (by decide)) rfl) pa_nil))) pa_nil)))))
      (pss_cons (ps_if (PW.pt (pw_or (pt_not (pt_val (pe_callB (id := "isinstance") (r := rErrIs K) call_errIs (by rfl) T.isi (by decide +kernel) (pa_cons (pv 0) (pa_cons (pe_glob (v := V.ref CH) (by rfl) T.mH rfl) pa_nil))))) (pw_or1 (pt_not (pt_val (pe_callB (id := "isinstance") (r := rErrIs K) call_errIs (by rfl) T.isi (by decide +kernel) (pa_cons (pv 0) (pa_cons (pe_bltn (v := V.ty "ValueError") (by rfl) T.VE (by decide +kernel) rfl) pa_nil)))))))) (pss_one (ps_ret (pe_lst pa_nil))) pss_nil)
      (pss_one (ps_ret (pe_lc (own := [("_law_at", 2)]) (g := gName 2) rfl scK.nd (pi_range1 rfl T.range (pa_cons pe_int pa_nil)) (blkOk_by (N := ["_law_error", "_law_classes", "_law_at"]) (sc := defScope sKinds) (by decide +kernel)) (fun _ _ _ _ _ => pg_name (i := 2) scK.nd rfl (Or.inl rfl)) (fun _ _ _ _ _ => pts_one (pt_val (pe_ix (r := rIxL K) ix_list (pe_op op_cat (pv 1) (pe_lst (pa_cons (pe_callB (id := "isinstance") (r := rErrIs K) call_errIs (by rfl) T.isi (by decide +kernel) (pa_cons (pv 0) (pa_cons (pe_glob (v := V.ref (C 11)) (by rfl) (T.m 11 (by decide)) rfl) pa_nil))) pa_nil))) (pv 2) (fun _ _ => rfl)))) (fun _ _ _ _ _ => pv 2)))))))))), ?_⟩
    refine q_asgL (el_lst (ea_cons (isV 0 (by decide) _ _ (Ex.refl _) rfl) (ea_cons (isV 1 (by decide) _ _ (Ex.refl _) rfl) (ea_cons (isV 2 (by decide) _ _ (Ex.refl _) rfl) ea_nil))) (by simp)) fun p1 H1 _ e1 h1 => ?_
    refine q_asgL (el_cat (ev_var rfl) h1 (el_lst (ea_cons (isV 3 (by decide) _ _ e1 rfl) (ea_cons (isV 4 (by decide) _ _ e1 rfl) ea_nil)) (by simp)) (by simp)) fun p2 H2 _ e2' h2 => ?_
    have e2 := e1.trans e2'
    refine q_asgL (el_cat (ev_var rfl) h2 (el_lst (ea_cons (isV 5 (by decide) _ _ e2 rfl) (ea_cons (isV 6 (by decide) _ _ e2 rfl) ea_nil)) (by simp)) (by simp)) fun p3 H3 _ e3' h3 => ?_
    have e3 := e2.trans e3'
    refine q_asgL (el_cat (ev_var rfl) h3 (el_lst (ea_cons (isV 7 (by decide) _ _ e3 rfl) (ea_cons (isV 8 (by decide) _ _ e3 rfl) ea_nil)) (by simp)) (by simp)) fun p4 H4 _ e4' h4 => ?_
    have e4 := e3.trans e4'
    refine q_asgL (el_cat (ev_var rfl) h4 (el_lst (ea_cons (isV 9 (by decide) _ _ e4 rfl) (ea_cons (isV 10 (by decide) _ _ e4 rfl) ea_nil)) (by simp)) (by simp)) fun p5 H5 _ e5' h5 => ?_
    have e5 := e4.trans e5'
    refine q_when (b := false) (et_is (et_or (et_not (et_B (ev_cb (ea_cons (ev_var rfl) (ea_cons ev_c ea_nil)) (rc_errIs (hE.ex e5) (T.isc k hk) (.own _) (T.kitH k hk)))))
      (fun _ => et_not (et_B (ev_cb (ea_cons (ev_var rfl) (ea_cons ev_c ea_nil)) (rc_errIs (hE.ex e5) (T.isc k hk) (.ty _) (T.kitV k hk)))))) rfl) (fun z => by cases z) fun _ H6 e6' => ?_
    have e6 := e5.trans e6'
    have h6 := e6' _ _ h5
    refine s_retL (el_lcR1 (n := 12) (fun i => decide (k = i)) (fun i => V.int (i : Int)) (ea_cons ev_c ea_nil) (by decide) (fun _ => rfl) (fun i H7 e7 hi => ?_) (fun i H7 e7 hi _ => ev_var rfl)) fun p H8 np e8 h8 => ?_
    · have hi' : i < 12 := by omega
      refine et_B (ev_opL1 (xs := bits k) (el_cat (ev_var rfl) (e7 _ _ h6) (el_lst (ea_cons (isV 11 (by decide) _ _ (e6.trans e7) rfl) ea_nil) (by simp)) (by simp)) (fun _ _ => ev_var rfl) fun q H9 hq _ => rv_ixL (sq_of hq) (atI_nat (bits_at k i hi')))
    · have g1 : given (12 : Int).toNat (fun i => decide (k = i)) (fun i => V.int (i : Int)) = [V.int (k : Int)] := given_one k hk
      rw [g1] at h8
      exact kq p H8 (fresh_back e6 np) (e6.trans e8) h8
end
end Fn1

/-! `_law_right` -/
namespace Fn2
open PySem PySem.Spec PyProof.Rows L2 Evl ExV Gen Kls Rep Gu Fn1
/-- a list of n lists: [0], [1], .. -/
def Sing (H : Hp) (p : Addr) (n : Nat) : Prop := ∃ R : List Addr, R.length = n ∧ H p = some (.lst (R.map V.ref)) ∧ ∀ (j : Nat) (a : Addr), R[j]? = some a → H a = some (.lst [.int ((j : Nat) : Int)])
theorem Sing.ex {H H' : Hp} {p : Addr} {n : Nat} (e : Ex H H') (h : Sing H p n) : Sing H' p n := by
  obtain ⟨R, h1, h2, h3⟩ := h
  exact ⟨R, h1, e _ _ h2, fun j a z => e _ _ (h3 j a z)⟩
/-- one more -/
theorem Sing.snoc {H H4 : Hp} {D p : Addr} {n : Nat} (h : Sing H D n) (e : Ex H H4) (hp : H4 p = some (.lst [.int ((n : Nat) : Int)])) : ∃ acc, H4 D = some (.lst acc) ∧ acc.length = n ∧ Sing (upd H4 D (.lst (acc ++ [V.ref p]))) D (n + 1) := by
  obtain ⟨R, h1, h2, h3⟩ := h
  have apart : ∀ {a : Addr} {z : Int}, H4 a = some (.lst [.int z]) → a ≠ D := by
    intro a z ha q
    subst q
    rw [e _ _ h2] at ha
    have e2 := HO.lst.inj (Option.some.inj ha)
    cases R with
    | nil => cases e2
    | cons r R => cases e2
  refine ⟨R.map V.ref, e _ _ h2, by rw [List.length_map, h1], R ++ [p], by rw [List.length_append, h1]; rfl, by rw [upd_same, List.map_append]; rfl, fun j a z => ?_⟩
  by_cases hj : j < n
  · rw [List.getElem?_append_left (by omega)] at z
    have g := e _ _ (h3 j a z)
    rw [upd_ne (apart g)]
    exact g
  · by_cases hj2 : j = n
    · subst hj2
      rw [List.getElem?_append_right (by omega)] at z
      rw [show j - R.length = 0 by omega] at z
      have za : p = a := Option.some.inj z
      subst za
      rw [upd_ne (apart hp)]
      exact hp
    · have : (R ++ [p])[j]? = none := List.getElem?_eq_none (by rw [List.length_append, h1]; show n + 1 ≤ j; omega)
      rw [this] at z
      cases z
theorem dpAll_sing {K : PySem.W.Frag} {H : Hp} : ∀ (R : List Addr) (b : Nat), (∀ (j : Nat) (a : Addr), R[j]? = some a → H a = some (.lst [.int ((b + j : Nat) : Int)])) → DpAll K H (R.map V.ref) ((List.range' b R.length).map fun j => PyData.list [.int ((j : Nat) : Int)])
  | [], _, _ => .nil
  | r :: R, b, h => by
    refine .cons (.lst (SqL.of (h 0 r rfl)) (.cons (.int _) .nil)) ?_
    have := dpAll_sing (K := K) (H := H) R (b + 1) fun j a z => by
      have q := h (j + 1) a z
      rw [show b + (j + 1) = b + 1 + j by omega] at q
      exact q
    exact this
theorem Sing.dp {K : PySem.W.Frag} {H : Hp} {p : Addr} {n : Nat} (h : Sing H p n) : Dp K H (.ref p) (.list ((List.range' 0 n).map fun j => PyData.list [.int ((j : Nat) : Int)])) := by
  obtain ⟨R, h1, h2, h3⟩ := h
  have q := dpAll_sing (K := K) (H := H) R 0 fun j a z => by
    rw [Nat.zero_add]
    exact h3 j a z
  rw [h1] at q
  exact .lst (SqL.of h2) q
theorem et_yes {σ : L2.St} {H : Hp} : EvT tYes σ H true := fun H1 _ _ q => q H1 (Ex.refl H1)
theorem given_all (n : Nat) (g : V) : given n (fun _ => true) (fun _ => g) = List.replicate n g := by
  unfold given
  induction n with
  | zero => rfl
  | succ n ih =>
    rw [List.range_succ, List.filter_append, List.map_append, ih, List.replicate_succ']
    rfl
theorem at_map {L : List Addr} {i : Nat} {x : V} (h : (L.map V.ref)[i]? = some x) : ∃ a, L[i]? = some a ∧ x = V.ref a := by
  rw [List.getElem?_map] at h
  cases e : L[i]? with
  | none =>
    rw [e] at h
    cases h
  | some a =>
    rw [e] at h
    exact ⟨a, rfl, (Option.some.inj h).symm⟩
/-- the eleven errors stand -/
structure Errs (C : Nat → Addr) (H : Hp) (p : Addr) (g : V) (L : List Addr) : Prop where
  len : L.length = 11
  at_ : H p = some (.lst (L.map V.ref))
  each : ∀ (i : Nat) (a : Addr), L[i]? = some a → ErrAt H a (C i) (fname i) g
theorem Errs.ex {C : Nat → Addr} {H H' : Hp} {p : Addr} {g : V} {L : List Addr} (e : Ex H H') (h : Errs C H p g L) : Errs C H' p g L := ⟨h.len, e _ _ h.at_, fun i a z => (h.each i a z).ex e⟩
theorem fname_lo : ∀ i, i < 8 → fname i = "value"
  | 0, _ => rfl
  | 1, _ => rfl
  | 2, _ => rfl
  | 3, _ => rfl
  | 4, _ => rfl
  | 5, _ => rfl
  | 6, _ => rfl
  | 7, _ => rfl
  | n + 8, h => by omega
theorem fname_hi (i : Nat) : fname (8 + i) = "name" := by
  rw [Nat.add_comm]
  rfl
/-- a value whose showing eleven times fits -/
structure Fit (K : PySem.W.Frag) (H : Hp) (g : V) (d : PyData) : Prop where
  sw : Sw K H g d
  s : (PyData.list (List.replicate 11 d)).showable = true
  z : (PyData.list (List.replicate 11 d)).shown.length ≤ sizeLine
  d : (PyData.list (List.replicate 11 d)).depth ≤ 60
theorem Fit.ex {K : PySem.W.Frag} {H H' : Hp} {g : V} {d : PyData} (e : Ex H H') (h : Fit K H g d) : Fit K H' g d := ⟨Sw.ex e _ _ h.sw, h.s, h.z, h.d⟩
def spRight (K : PySem.W.Frag) (C : Nat → Addr) : Sp := fun vs H Q _ => ∃ es L g d, vs = [.ref es, g] ∧ Errs C H es g L ∧ Fit K H g d ∧ ∀ H2, Ex H H2 → Q (.bl true) H2
section
variable {P : Program} {w : World} {K : PySem.W.Frag} {mg : Str → Option Value} {base : Heap} {C fI : Nat → Addr} {CH fK : Addr} {fdK : FuncData}
theorem scR2 : FnScope ["_law_errors", "_law_given", "_law_fields", "_law_error", "_law_at"] ["_law_errors", "_law_given"] (defScope sRight) := ⟨rfl, rfl, rfl, by decide +kernel, rfl, by decide +kernel, by decide +kernel⟩
theorem ok_right {f : Addr} {fd : FuncData} (F : Fun K "_law_right" "_law_right" sRight f fd) (T : Txt K mg C fI CH) (GK : FnOk P w K mg base CX0 1 fK fdK ["_law_error"] (spKinds C)) (mK : mg "_law_kinds" = some (.ref fK)) (kK : PySem.W.keepIn K (.ref fK) = true) (bK : Binds K fdK ["_law_error"] []) :
    FnG P w K mg base 2 f fd ["_law_errors", "_law_given"] (spRight K C) := by
  refine fun_okG F scR2 (fun vs H Q E h => ?_) (fun cdv A outer s H vs Q E gd hr h => ?_)
  · obtain ⟨es, L, g, d, rfl, _⟩ := h
    rfl
  · obtain ⟨es, L, g, d, rfl, hE, hF, kq⟩ := h
    have hr1 : Room 1 _ := hr
    refine ⟨_, (pss_cons (ps_if (pt_cmpR (op_neD hr.units) (pe_lc (own := [("_law_error", 3)]) (g := gName 3) (tt := tYes) rfl scR2.nd (pi_list (pv 0)) (blkOk_by (N := ["_law_errors", "_law_given", "_law_fields", "_law_error", "_law_at"]) (sc := defScope sRight) (by decide +kernel)) (fun _ _ _ _ _ => pg_name (i := 3) scR2.nd rfl (Or.inl rfl)) (fun _ _ _ _ _ => pts_nil) (fun _ _ _ _ _ => (pe_call GK hr1 rfl mK kK bK .nil pass0 (pa_cons (pv 3) pa_nil)))) (pe_lc (own := [("_law_at", 4)]) (g := gName 4) (tt := tYes) rfl scR2.nd (pi_range1 rfl T.range (pa_cons pe_int pa_nil)) (blkOk_by (N := ["_law_errors", "_law_given", "_law_fields", "_law_error", "_law_at"]) (sc := defScope sRight) (by decide +kernel)) (fun _ _ _ _ _ => pg_name (i := 4) scR2.nd rfl (Or.inl rfl)) (fun _ _ _ _ _ => pts_nil) (fun _ _ _ _ _ => pe_lst (pa_cons (pv 4) pa_nil))) (nomark _)) (pss_one (ps_ret pe_bl)) pss_nil)
      (pss_cons (ps_set (i := 2) scR2.nd rfl (Or.inl rfl) (pe_op op_cat (pe_lc (own := [("_law_error", 3)]) (g := gName 3) (tt := tYes) (te := tErrF K "value" (tVar 3)) rfl scR2.nd (pi_list (pe_slice sl_list (pv 0) po_none (po_some pe_int))) (blkOk_by (N := ["_law_errors", "_law_given", "_law_fields", "_law_error", "_law_at"]) (sc := defScope sRight) (by decide +kernel)) (fun _ _ _ _ _ => pg_name (i := 3) scR2.nd rfl (Or.inl rfl)) (fun _ _ _ _ _ => pts_nil) (fun _ _ _ _ _ => pe_errF (pv 3))) (pe_lc (own := [("_law_error", 3)]) (g := gName 3) (tt := tYes) (te := tErrF K "name" (tVar 3)) rfl scR2.nd (pi_list (pe_slice sl_list (pv 0) (po_some pe_int) po_none)) (blkOk_by (N := ["_law_errors", "_law_given", "_law_fields", "_law_error", "_law_at"]) (sc := defScope sRight) (by decide +kernel)) (fun _ _ _ _ _ => pg_name (i := 3) scR2.nd rfl (Or.inl rfl)) (fun _ _ _ _ _ => pts_nil) (fun _ _ _ _ _ => pe_errF (pv 3)))))
      (pss_one (ps_ret (pe_cmpR op_eq (pe_callB (id := "repr") (r := rRepr K) (call_repr gd hr.units) (by rfl) T.rpr (by decide +kernel) (pa_cons (pv 2) pa_nil)) (pe_callB (id := "repr") (r := rRepr K) (call_repr gd hr.units) (by rfl) T.rpr (by decide +kernel) (pa_cons (pe_op op_rep (pe_lst (pa_cons (pv 1) pa_nil)) pe_int) pa_nil)) (nomark _)))))), ?_⟩
    -- the kinds of all errors
    refine ⟨_, rfl, es, rfl, ⟨_, SqL.of hE.at_⟩, fun D nD => lc_list (K := K) (a := es) (xs := L.map V.ref) (fun i H' => Ex H H' ∧ Sing H' D i) ⟨Ex.new nD, [], rfl, upd_same, fun j a z => by cases z⟩ (fun i H' _ p => SqL.of (p.1 _ _ hE.at_)) (fun i x H' hx p => ?_) fun H' p => ?_⟩
    · rw [List.getElem?_map] at hx
      cases ha : L[i]? with
      | none =>
        rw [ha] at hx
        cases hx
      | some a =>
        rw [ha] at hx
        obtain rfl : V.ref a = x := Option.some.inj hx
        have hi : i < 11 := by
          have := (List.getElem?_eq_some_iff.mp ha).1
          have := hE.len
          omega
        refine ⟨rfl, iteT (B := Ex H H' ∧ Sing H' D (i + 1)) ?_⟩
        refine ⟨_, rfl, a, i, by omega, rfl, ((hE.each i a ha).ex p.1).is, fun q H4 nq e4 h4 => ?_⟩
        obtain ⟨acc, g1, g2, g3⟩ := p.2.snoc e4 h4
        exact ⟨acc, g1, by rw [g2]; exact sz_lt (by omega), (p.1.trans e4).mut nD, g3⟩
    -- [[0], [1], ..]
    obtain ⟨e1, S1⟩ := p
    rw [List.length_map, hE.len] at S1
    refine ⟨11, rfl, by decide, by decide, fun D2 nD2 => lc_range (lo := 0) (n := (11 : Int).toNat) (fun i H2 => Ex H' H2 ∧ Sing H2 D2 i) ⟨Ex.new nD2, [], rfl, upd_same, fun j a z => by cases z⟩ (fun i H2 hi p2 => ?_) fun H2 p2 => ?_⟩
    · refine ⟨rfl, iteT (B := Ex H' H2 ∧ Sing H2 D2 (i + 1)) ?_⟩
      refine ⟨_, rfl, by show 1 ≤ sizeLine; decide, fun q nq => ?_⟩
      have h4 : (upd H2 q (.lst [.int ((0 : Int) + (i : Int))])) q = some (.lst [.int ((i : Nat) : Int)]) := by
        rw [upd_same, Int.zero_add]
      obtain ⟨acc, g1, g2, g3⟩ := p2.2.snoc (Ex.new nq) h4
      exact ⟨acc, g1, by rw [g2]; exact sz_lt (by omega), (p2.1.trans (Ex.new nq)).mut nD2, g3⟩
    obtain ⟨e2, S2⟩ := p2
    refine ⟨_, _, (S1.ex e2).dp, S2.dp, by decide +kernel, by decide +kernel, _, rfl, ?_⟩
    have eq1 : PyData.eqv (.list ((List.range' 0 11).map fun j => PyData.list [.int ((j : Nat) : Int)])) (.list ((List.range' 0 11).map fun j => PyData.list [.int ((j : Nat) : Int)])) = true := by decide +kernel
    have eq2 : (!PyData.eqv (.list ((List.range' 0 11).map fun j => PyData.list [.int ((j : Nat) : Int)])) (.list ((List.range' 0 11).map fun j => PyData.list [.int ((j : Nat) : Int)]))) = false := by rw [eq1]; rfl
    show if (!PyData.eqv _ _) = true then _ else _
    rw [if_neg (by rw [show (!PyData.eqv (.list ((List.range' 0 11).map fun j => PyData.list [.int ((j : Nat) : Int)])) (.list ((List.range' 0 (11 : Int).toNat).map fun j => PyData.list [.int ((j : Nat) : Int)]))) = false from eq2]; exact Bool.false_ne_true)]
    have e12 := e1.trans e2
    have hE2 := hE.ex e12
    have hF2 := hF.ex e12
    -- the fields
    have c1 : cutV (L.map V.ref) none (some 8) = (L.take 8).map V.ref := match L, hE.len with | [_, _, _, _, _, _, _, _, _, _, _], _ => rfl
    have c2 : cutV (L.map V.ref) (some 8) none = (L.drop 8).map V.ref := match L, hE.len with | [_, _, _, _, _, _, _, _, _, _, _], _ => rfl
    have l8 : ((L.take 8).map V.ref).length = 8 := by rw [List.length_map, List.length_take, hE.len]; rfl
    have l3 : ((L.drop 8).map V.ref).length = 3 := by rw [List.length_map, List.length_drop, hE.len]
    have s1 : EvL (tSl (rSlL K) (tVar 0) tNoPart (tPart (tC (.int 8)))) (start ["_law_errors", "_law_given", "_law_fields", "_law_error", "_law_at"] [V.ref es, g]) H2 ((L.take 8).map V.ref) := by
      rw [← c1]
      exact el_sl (ev_var rfl) eo_none (eo_some ev_c) (SqL.of hE2.at_)
    have s2 : EvL (tSl (rSlL K) (tVar 0) (tPart (tC (.int 8))) tNoPart) (start ["_law_errors", "_law_given", "_law_fields", "_law_error", "_law_at"] [V.ref es, g]) H2 ((L.drop 8).map V.ref) := by
      rw [← c2]
      exact el_sl (ev_var rfl) (eo_some ev_c) eo_none (SqL.of hE2.at_)
    show tSeq _ _ _ _ _
    refine q_asgL (xs := List.replicate 8 g ++ List.replicate 3 g) (el_catL (by
      have q := el_lcNL (K := K) (j := 3) (t := tYes) (te := tErrF K "value" (tVar 3)) (vs := [3]) (fun _ => true) (fun _ => g) s1 (by rw [l8]; decide) (fun _ => rfl) (fun _ _ _ _ _ => et_yes) (fun i x H3 e3 hx _ => by
        obtain ⟨a, hi, rfl⟩ := at_map hx
        have hi8 : i < 8 := by
          have := (List.getElem?_eq_some_iff.mp hx).1
          omega
        rw [List.getElem?_take_of_lt hi8] at hi
        have er := (hE2.each i a hi).ex e3
        have nf := T.no i (by omega)
        rw [fname_lo i hi8] at er nf
        exact ev_errF (ev_var rfl) er (T.isc i (by omega)).xf nf)
      rw [l8, given_all] at q
      exact q) (by
      have q := el_lcNL (K := K) (j := 3) (t := tYes) (te := tErrF K "name" (tVar 3)) (vs := [3]) (fun _ => true) (fun _ => g) s2 (by rw [l3]; decide) (fun _ => rfl) (fun _ _ _ _ _ => et_yes) (fun i x H3 e3 hx _ => by
        obtain ⟨a, hi, rfl⟩ := at_map hx
        have hi3 : i < 3 := by
          have := (List.getElem?_eq_some_iff.mp hx).1
          omega
        rw [List.getElem?_drop] at hi
        have er := (hE2.each (8 + i) a hi).ex e3
        have nf := T.no (8 + i) (by omega)
        rw [fname_hi] at er nf
        exact ev_errF (ev_var rfl) er (T.isc (8 + i) (by omega)).xf nf)
      rw [l3, given_all] at q
      exact q) (by simp)) fun p3 H3 _ e3 h3 => ?_
    have hF3 := hF2.ex e3
    refine s_ret (v := .bl true) (ev_is (ev_op (ev_cb (ea_cons (ev_var rfl) ea_nil) (rc_repr (d := .list (List.replicate 11 d)) (.lst (SqL.of h3) (SwAll.rep hF3.sw 11)) hF.s hF.z hF.d))
      (ev_cbL (el_rep (n := 11) (el_lst (ea_cons (ev_var rfl) ea_nil) (by show 1 ≤ 100000; decide)) (by decide) (by show 1 * 11 ≤ 100000; decide)) fun p4 H4 h4 e4 => rc_repr (d := .list (List.replicate 11 d)) (.lst (SqL.of h4) (SwAll.rep (hF3.ex e4).sw 11)) hF.s hF.z hF.d)
      (rv_eq rfl)) (by rw [decide_eq_true rfl])) fun H4 e4 => kq H4 ((e12.trans e3).trans e4)
end
end Fn2

/-! the three that make all errors -/
namespace Fn3
open PySem PySem.Spec PyProof.Rows L2 Evl ExV Gen Kls Rep Gu Fn1 Fn2
def tRow (te : Nat → TE) : List Nat → TA
  | [] => tNil
  | i :: l => tCons (te i) (tRow te l)
def Row (C : Nat → Addr) (H : Hp) (b : Nat) (g : V) (L : List Addr) : Prop := ∀ (i : Nat) (a : Addr), L[i]? = some a → ErrAt H a (C (b + i)) (fname (b + i)) g
theorem Row.ex {C : Nat → Addr} {H H' : Hp} {b : Nat} {g : V} {L : List Addr} (e : Ex H H') (h : Row C H b g L) : Row C H' b g L := fun i a z => (h i a z).ex e
/-- n errors stand in a list -/
def Rw (C : Nat → Addr) (H : Hp) (p : Addr) (n : Nat) (g : V) (L : List Addr) : Prop := L.length = n ∧ H p = some (.lst (L.map V.ref)) ∧ Row C H 0 g L
/-- what the making of the i-th error does -/
def Makes (C : Nat → Addr) (te : Nat → TE) (σ : L2.St) (g : V) : Prop := ∀ (i : Nat) (H : Hp) (Q : VK), (∀ a H2, H a = none → Ex H H2 → ErrAt H2 a (C i) (fname i) g → Q (.ref a) H2) → te i σ H Q
section
variable {C : Nat → Addr} {te : Nat → TE} {σ : L2.St} {g : V}
theorem row_run (hm : Makes C te σ g) : ∀ (n b : Nat) (H : Hp) (Q : List V → Hp → Prop), (∀ L H2, L.length = n → Ex H H2 → Row C H2 b g L → Q (L.map V.ref) H2) → tRow te (List.range' b n) σ H Q
  | 0, b, H, Q, k => k [] H rfl (Ex.refl H) (fun i a z => by cases z)
  | n + 1, b, H, Q, k => hm b H _ fun a H2 _ e2 E2 => row_run hm n (b + 1) H2 _ fun L H3 hl e3 R3 => k (a :: L) H3 (by rw [List.length_cons, hl]) (e2.trans e3) fun i x z => by
      cases i with
      | zero =>
        obtain rfl : a = x := Option.some.inj z
        exact E2.ex e3
      | succ i =>
        have q := R3 i x z
        rw [show b + 1 + i = b + (i + 1) by omega] at q
        exact q
theorem lst_row {H : Hp} {n : Nat} {Q : VK} (hm : Makes C te σ g) (k : ∀ p L H2, H p = none → Ex H H2 → Rw C H2 p n g L → Q (.ref p) H2) (hn : n ≤ 1000 := by decide) : tLst (tRow te (List.range' 0 n)) σ H Q :=
  row_run hm n 0 H _ fun L H2 hl e2 R2 => ⟨by rw [List.length_map, hl]; exact sz_of (by omega), fun p np => k p L _ (fresh_back e2 np) (e2.trans (Ex.new np)) ⟨hl, upd_same, R2.ex (Ex.new np)⟩⟩
theorem cat_row {H : Hp} {n n1 s : Nat} {p1 : Addr} {L1 : List Addr} {Q : VK} (hm : Makes C te σ g) (hs : σ[s]? = some (some (.ref p1))) (h1 : Rw C H p1 n1 g L1) (k : ∀ p L H2, H p = none → Ex H H2 → Rw C H2 p (n1 + n) g L → Q (.ref p) H2) (hn : n1 + n ≤ 1000 := by decide) :
    tOp rCat (tVar s) (tLst (tRow te (List.range' n1 n))) σ H Q :=
  ⟨_, hs, row_run hm n n1 H _ fun L H2 hl e2 R2 => ⟨by rw [List.length_map, hl]; exact sz_of (by omega), fun q nq => by
    have e3 : Ex H (upd H2 q (.lst (L.map V.ref))) := e2.trans (Ex.new nq)
    refine ⟨p1, q, L1.map V.ref, L.map V.ref, rfl, rfl, e3 _ _ h1.2.1, upd_same, by rw [List.length_map, List.length_map, h1.1, hl]; exact sz_of (by omega), fun r nr => k r (L1 ++ L) _ (fresh_back e3 nr) (e3.trans (Ex.new nr)) ⟨by rw [List.length_append, h1.1, hl], by rw [upd_same, List.map_append], fun i a z => ?_⟩⟩
    by_cases hi : i < n1
    · rw [List.getElem?_append_left (by rw [h1.1]; exact hi)] at z
      exact (h1.2.2 i a z).ex (e3.trans (Ex.new nr))
    · rw [List.getElem?_append_right (by rw [h1.1]; omega), h1.1] at z
      have q2 := (R2 (i - n1) a z).ex (Ex.new (o := .lst (L.map V.ref)) nq)
      rw [show n1 + (i - n1) = 0 + i by omega] at q2
      exact q2.ex (Ex.new nr)⟩⟩
end
section
variable {C : Nat → Addr} {te : Nat → TE} {σ : L2.St} {g : V} {D : Ends} {tz : TS}
theorem q_lstRow {H : Hp} {n s : Nat} (hm : Makes C te σ g) (k : ∀ p L H2, H p = none → Ex H H2 → Rw C H2 p n g L → tz D (σ.set s (some (.ref p))) H2) (hn : n ≤ 1000 := by decide) : tSeq (tAsg (tLst (tRow te (List.range' 0 n))) (gName s)) tz D σ H := lst_row (H := H) (Q := fun v H2 => tz D (σ.set s (some v)) H2) hm k hn
theorem q_catRow {H : Hp} {n n1 s : Nat} {p1 : Addr} {L1 : List Addr} (hm : Makes C te σ g) (hs : σ[s]? = some (some (.ref p1))) (h1 : Rw C H p1 n1 g L1) (k : ∀ p L H2, H p = none → Ex H H2 → Rw C H2 p (n1 + n) g L → tz D (σ.set s (some (.ref p))) H2) (hn : n1 + n ≤ 1000 := by decide) :
    tSeq (tAsg (tOp rCat (tVar s) (tLst (tRow te (List.range' n1 n)))) (gName s)) tz D σ H := cat_row (H := H) (Q := fun v H2 => tz D (σ.set s (some v)) H2) hm hs h1 k hn
theorem s_catRow {H : Hp} {n n1 s : Nat} {p1 : Addr} {L1 : List Addr} (hm : Makes C te σ g) (hs : σ[s]? = some (some (.ref p1))) (h1 : Rw C H p1 n1 g L1) (k : ∀ p L H2, H p = none → Ex H H2 → Rw C H2 p (n1 + n) g L → D.rt (.ref p) H2) (hn : n1 + n ≤ 1000 := by decide) :
    tRet (tOp rCat (tVar s) (tLst (tRow te (List.range' n1 n)))) D σ H := cat_row (H := H) (Q := fun v H2 => D.rt v H2) hm hs h1 k hn
end
def spMake (C : Nat → Addr) : Sp := fun vs H Q _ => ∃ g, vs = [g] ∧ ∀ p L H2, H p = none → Ex H H2 → Errs C H2 p g L → Q (.ref p) H2
def spUnset (C : Nat → Addr) : Sp := fun vs H Q _ => vs = [] ∧ ∀ p L H2, H p = none → Ex H H2 → Errs C H2 p .non L → Q (.ref p) H2
section
variable {P : Program} {w : World} {K : PySem.W.Frag} {mg : Str → Option Value} {base : Heap} {C fI : Nat → Addr} {CH : Addr} {fd : Nat → FuncData}
theorem scP : FnScope ["_law_given", "_law_found"] ["_law_given"] (defScope sPlaced) := ⟨rfl, rfl, rfl, by decide +kernel, rfl, by decide +kernel, by decide +kernel⟩
set_option maxHeartbeats 4000000 in
theorem ok_placed {f : Addr} {fd0 : FuncData} (F : Fun K "_law_placed" "_law_placed" sPlaced f fd0) (T : Txt K mg C fI CH) (G : ∀ i, i < 11 → FnOk P w K mg base CX0 1 (fI i) (fd i) ["self", fname i] (spInitE (C i) (fname i))) (B : ∀ i, i < 11 → Bi K (fd i) (fname i)) :
    FnOk P w K mg base CX0 3 f fd0 ["_law_given"] (spMake C) := by
  refine F.ok scP (fun vs H Q E h => ?_) (fun cdv A outer s H vs Q E hr0 h => ?_)
  · obtain ⟨g, rfl, _⟩ := h
    rfl
  · obtain ⟨g, rfl, kq⟩ := h
    have hr : Room (1 + 1) _ := hr0
    refine ⟨_, (pss_cons (ps_set (i := 1) scP.nd rfl (Or.inl rfl) (pe_lst (pa_cons (pe_err (f := fname 0) (T.own 0 (by decide)) (G 0 (by decide)) hr (T.m 0 (by decide)) (by rfl) (pa_cons (pv 0) pa_nil) (B 0 (by decide)).b1) (pa_cons (pe_err (f := fname 1) (T.own 1 (by decide)) (G 1 (by decide)) hr (T.m 1 (by decide)) (by rfl) (pa_cons (pv 0) pa_nil) (B 1 (by decide)).b1) (pa_cons (pe_err (f := fname 2) (T.own 2 (by decide)) (G 2 (by decide)) hr (T.m 2 (by decide)) (by rfl) (pa_cons (pv 0) pa_nil) (B 2 (by decide)).b1) (pa_cons (pe_err (f := fname 3) (T.own 3 (by decide)) (G 3 (by decide)) hr (T.m 3 (by decide)) (by rfl) (pa_cons (pv 0) pa_nil) (B 3 (by decide)).b1) (pa_cons (pe_err (f := fname 4) (T.own 4 (by decide)) (G 4 (by decide)) hr (T.m 4 (by decide)) (by rfl) (pa_cons (pv 0) pa_nil) (B 4 (by decide)).b1) pa_nil)))))))
      (pss_cons (ps_set (i := 1) scP.nd rfl (Or.inl rfl) (pe_op op_cat (pv 1) (pe_lst (pa_cons (pe_err (f := fname 5) (T.own 5 (by decide)) (G 5 (by decide)) hr (T.m 5 (by decide)) (by rfl) (pa_cons (pv 0) pa_nil) (B 5 (by decide)).b1) (pa_cons (pe_err (f := fname 6) (T.own 6 (by decide)) (G 6 (by decide)) hr (T.m 6 (by decide)) (by rfl) (pa_cons (pv 0) pa_nil) (B 6 (by decide)).b1) (pa_cons (pe_err (f := fname 7) (T.own 7 (by decide)) (G 7 (by decide)) hr (T.m 7 (by decide)) (by rfl) (pa_cons (pv 0) pa_nil) (B 7 (by decide)).b1) pa_nil))))))
      (pss_one (ps_ret (pe_op op_cat (pv 1) (pe_lst (pa_cons (pe_err (f := fname 8) (T.own 8 (by decide)) (G 8 (by decide)) hr (T.m 8 (by decide)) (by rfl) (pa_cons (pv 0) pa_nil) (B 8 (by decide)).b1) (pa_cons (pe_err (f := fname 9) (T.own 9 (by decide)) (G 9 (by decide)) hr (T.m 9 (by decide)) (by rfl) (pa_cons (pv 0) pa_nil) (B 9 (by decide)).b1) (pa_cons (pe_err (f := fname 10) (T.own 10 (by decide)) (G 10 (by decide)) hr (T.m 10 (by decide)) (by rfl) (pa_cons (pv 0) pa_nil) (B 10 (by decide)).b1) pa_nil))))))))), ?_⟩
    refine q_lstRow (te := fun i => tErr (C i) (fname i) (tCons (tVar 0) tNil)) (n := 5) (fun i H Q q => ⟨_, rfl, _, rfl, q⟩) fun p1 L1 H1 n1 e1 R1 => ?_
    refine q_catRow (te := fun i => tErr (C i) (fname i) (tCons (tVar 0) tNil)) (s := 1) (n := 3) (fun i H Q q => ⟨_, rfl, _, rfl, q⟩) rfl R1 fun p2 L2 H2 n2 e2' R2 => ?_
    have e2 := e1.trans e2'
    exact s_catRow (te := fun i => tErr (C i) (fname i) (tCons (tVar 0) tNil)) (s := 1) (n := 3) (fun i H Q q => ⟨_, rfl, _, rfl, q⟩) rfl R2 fun p L Hz np ez Rz => kq p L Hz (fresh_back e2 np) (e2.trans ez) ⟨Rz.1, Rz.2.1, fun i a z => by have q := Rz.2.2 i a z; rw [Nat.zero_add] at q; exact q⟩

theorem scN : FnScope ["_law_given", "_law_found"] ["_law_given"] (defScope sNamed) := ⟨rfl, rfl, rfl, by decide +kernel, rfl, by decide +kernel, by decide +kernel⟩
set_option maxHeartbeats 4000000 in
theorem ok_named {f : Addr} {fd0 : FuncData} (F : Fun K "_law_named" "_law_named" sNamed f fd0) (T : Txt K mg C fI CH) (G : ∀ i, i < 11 → FnOk P w K mg base CX0 1 (fI i) (fd i) ["self", fname i] (spInitE (C i) (fname i))) (B : ∀ i, i < 11 → Bi K (fd i) (fname i)) :
    FnOk P w K mg base CX0 3 f fd0 ["_law_given"] (spMake C) := by
  refine F.ok scN (fun vs H Q E h => ?_) (fun cdv A outer s H vs Q E hr0 h => ?_)
  · obtain ⟨g, rfl, _⟩ := h
    rfl
  · obtain ⟨g, rfl, kq⟩ := h
    have hr : Room (1 + 1) _ := hr0
    refine ⟨_, (pss_cons (ps_set (i := 1) scN.nd rfl (Or.inl rfl) (pe_lst (pa_cons (pe_errK (f := fname 0) (T.own 0 (by decide)) (G 0 (by decide)) hr (T.m 0 (by decide)) (by rfl) (pk_cons (pv 0) pk_nil) (B 0 (by decide)).bk) (pa_cons (pe_errK (f := fname 1) (T.own 1 (by decide)) (G 1 (by decide)) hr (T.m 1 (by decide)) (by rfl) (pk_cons (pv 0) pk_nil) (B 1 (by decide)).bk) (pa_cons (pe_errK (f := fname 2) (T.own 2 (by decide)) (G 2 (by decide)) hr (T.m 2 (by decide)) (by rfl) (pk_cons (pv 0) pk_nil) (B 2 (by decide)).bk) pa_nil)))))
      (pss_cons (ps_set (i := 1) scN.nd rfl (Or.inl rfl) (pe_op op_cat (pv 1) (pe_lst (pa_cons (pe_errK (f := fname 3) (T.own 3 (by decide)) (G 3 (by decide)) hr (T.m 3 (by decide)) (by rfl) (pk_cons (pv 0) pk_nil) (B 3 (by decide)).bk) (pa_cons (pe_errK (f := fname 4) (T.own 4 (by decide)) (G 4 (by decide)) hr (T.m 4 (by decide)) (by rfl) (pk_cons (pv 0) pk_nil) (B 4 (by decide)).bk) (pa_cons (pe_errK (f := fname 5) (T.own 5 (by decide)) (G 5 (by decide)) hr (T.m 5 (by decide)) (by rfl) (pk_cons (pv 0) pk_nil) (B 5 (by decide)).bk) pa_nil))))))
      (pss_cons (ps_set (i := 1) scN.nd rfl (Or.inl rfl) (pe_op op_cat (pv 1) (pe_lst (pa_cons (pe_errK (f := fname 6) (T.own 6 (by decide)) (G 6 (by decide)) hr (T.m 6 (by decide)) (by rfl) (pk_cons (pv 0) pk_nil) (B 6 (by decide)).bk) (pa_cons (pe_errK (f := fname 7) (T.own 7 (by decide)) (G 7 (by decide)) hr (T.m 7 (by decide)) (by rfl) (pk_cons (pv 0) pk_nil) (B 7 (by decide)).bk) pa_nil)))))
      (pss_one (ps_ret (pe_op op_cat (pv 1) (pe_lst (pa_cons (pe_errK (f := fname 8) (T.own 8 (by decide)) (G 8 (by decide)) hr (T.m 8 (by decide)) (by rfl) (pk_cons (pv 0) pk_nil) (B 8 (by decide)).bk) (pa_cons (pe_errK (f := fname 9) (T.own 9 (by decide)) (G 9 (by decide)) hr (T.m 9 (by decide)) (by rfl) (pk_cons (pv 0) pk_nil) (B 9 (by decide)).bk) (pa_cons (pe_errK (f := fname 10) (T.own 10 (by decide)) (G 10 (by decide)) hr (T.m 10 (by decide)) (by rfl) (pk_cons (pv 0) pk_nil) (B 10 (by decide)).bk) pa_nil)))))))))), ?_⟩
    refine q_lstRow (te := fun i => tErr (C i) (fname i) (tCons (tVar 0) tNil)) (n := 3) (fun i H Q q => ⟨_, rfl, _, rfl, q⟩) fun p1 L1 H1 n1 e1 R1 => ?_
    refine q_catRow (te := fun i => tErr (C i) (fname i) (tCons (tVar 0) tNil)) (s := 1) (n := 3) (fun i H Q q => ⟨_, rfl, _, rfl, q⟩) rfl R1 fun p2 L2 H2 n2 e2' R2 => ?_
    have e2 := e1.trans e2'
    refine q_catRow (te := fun i => tErr (C i) (fname i) (tCons (tVar 0) tNil)) (s := 1) (n := 2) (fun i H Q q => ⟨_, rfl, _, rfl, q⟩) rfl R2 fun p3 L3 H3 n3 e3' R3 => ?_
    have e3 := e2.trans e3'
    exact s_catRow (te := fun i => tErr (C i) (fname i) (tCons (tVar 0) tNil)) (s := 1) (n := 3) (fun i H Q q => ⟨_, rfl, _, rfl, q⟩) rfl R3 fun p L Hz np ez Rz => kq p L Hz (fresh_back e3 np) (e3.trans ez) ⟨Rz.1, Rz.2.1, fun i a z => by have q := Rz.2.2 i a z; rw [Nat.zero_add] at q; exact q⟩

theorem scU : FnScope ["_law_found"] [] (defScope sUnset) := ⟨rfl, rfl, rfl, by decide +kernel, rfl, by decide +kernel, by decide +kernel⟩
set_option maxHeartbeats 4000000 in
theorem ok_unset {f : Addr} {fd0 : FuncData} (F : Fun K "_law_unset" "_law_unset" sUnset f fd0) (T : Txt K mg C fI CH) (G : ∀ i, i < 11 → FnOk P w K mg base CX0 1 (fI i) (fd i) ["self", fname i] (spInitE (C i) (fname i))) (B : ∀ i, i < 11 → Bi K (fd i) (fname i)) :
    FnOk P w K mg base CX0 3 f fd0 [] (spUnset C) := by
  refine F.ok scU (fun vs H Q E h => ?_) (fun cdv A outer s H vs Q E hr0 h => ?_)
  · obtain ⟨rfl, _⟩ := h
    rfl
  · obtain ⟨rfl, kq⟩ := h
    have hr : Room (1 + 1) _ := hr0
    refine ⟨_, (pss_cons (ps_set (i := 0) scU.nd rfl (Or.inl rfl) (pe_lst (pa_cons (pe_err0 (f := fname 0) (T.own 0 (by decide)) (G 0 (by decide)) hr (T.m 0 (by decide)) (by rfl) (B 0 (by decide)).b0) (pa_cons (pe_err0 (f := fname 1) (T.own 1 (by decide)) (G 1 (by decide)) hr (T.m 1 (by decide)) (by rfl) (B 1 (by decide)).b0) (pa_cons (pe_err0 (f := fname 2) (T.own 2 (by decide)) (G 2 (by decide)) hr (T.m 2 (by decide)) (by rfl) (B 2 (by decide)).b0) (pa_cons (pe_err0 (f := fname 3) (T.own 3 (by decide)) (G 3 (by decide)) hr (T.m 3 (by decide)) (by rfl) (B 3 (by decide)).b0) (pa_cons (pe_err0 (f := fname 4) (T.own 4 (by decide)) (G 4 (by decide)) hr (T.m 4 (by decide)) (by rfl) (B 4 (by decide)).b0) (pa_cons (pe_err0 (f := fname 5) (T.own 5 (by decide)) (G 5 (by decide)) hr (T.m 5 (by decide)) (by rfl) (B 5 (by decide)).b0) pa_nil))))))))
      (pss_one (ps_ret (pe_op op_cat (pv 0) (pe_lst (pa_cons (pe_err0 (f := fname 6) (T.own 6 (by decide)) (G 6 (by decide)) hr (T.m 6 (by decide)) (by rfl) (B 6 (by decide)).b0) (pa_cons (pe_err0 (f := fname 7) (T.own 7 (by decide)) (G 7 (by decide)) hr (T.m 7 (by decide)) (by rfl) (B 7 (by decide)).b0) (pa_cons (pe_err0 (f := fname 8) (T.own 8 (by decide)) (G 8 (by decide)) hr (T.m 8 (by decide)) (by rfl) (B 8 (by decide)).b0) (pa_cons (pe_err0 (f := fname 9) (T.own 9 (by decide)) (G 9 (by decide)) hr (T.m 9 (by decide)) (by rfl) (B 9 (by decide)).b0) (pa_cons (pe_err0 (f := fname 10) (T.own 10 (by decide)) (G 10 (by decide)) hr (T.m 10 (by decide)) (by rfl) (B 10 (by decide)).b0) pa_nil)))))))))), ?_⟩
    refine q_lstRow (te := fun i => tErr0 (C i) (fname i)) (n := 6) (fun i H Q q => q) fun p1 L1 H1 n1 e1 R1 => ?_
    exact s_catRow (te := fun i => tErr0 (C i) (fname i)) (s := 0) (n := 5) (fun i H Q q => q) rfl R1 fun p L Hz np ez Rz => kq p L Hz (fresh_back e1 np) (e1.trans ez) ⟨Rz.1, Rz.2.1, fun i a z => by have q := Rz.2.2 i a z; rw [Nat.zero_add] at q; exact q⟩

end
end Fn3
/-! sizes of what is shown -/
namespace Siz
open PySem PySem.Spec PyProof.Rows L2 Evl Rep Fn1 Fn2
theorem list11 (t : Str) : (listText (List.replicate 11 t)).length = 11 * t.length + 22 := by
  have h1 : (Str.ofString "[").length = 1 := by decide
  have h2 : (Str.ofString "]").length = 1 := by decide
  have h3 : (Str.ofString ", ").length = 2 := by decide
  have h4 : (Str.ofString "").length = 0 := by decide
  simp [listText, textFrom, Str.length_append, h1, h2, h3, h4, List.replicate]
  omega
theorem list1 (t : Str) : (listText [t]).length = t.length + 2 := by
  have h1 : (Str.ofString "[").length = 1 := by decide
  have h2 : (Str.ofString "]").length = 1 := by decide
  have h4 : (Str.ofString "").length = 0 := by decide
  simp [listText, textFrom, Str.length_append, h1, h2, h4]
  omega
theorem shown11 (d : PyData) : PyData.shownAll (List.replicate 11 d) = List.replicate 11 d.shown := by
  simp [List.replicate, PyData.shownAll]
theorem showable11 {d : PyData} (h : d.showable = true) : (PyData.list (List.replicate 11 d)).showable = true := by
  simp [List.replicate, PyData.showable, PyData.showableAll, h]
theorem depth11 (d : PyData) : (PyData.list (List.replicate 11 d)).depth = d.depth + 1 := by
  simp [List.replicate, PyData.depth, PyData.depthAll]
theorem fit {K : PySem.W.Frag} {H : Hp} {g : V} {d : PyData} (sw : Sw K H g d) (hs : d.showable = true) (hz : d.shown.length ≤ 1000) (hd : d.depth ≤ 50) : Fit K H g d := by
  refine ⟨sw, showable11 hs, ?_, by rw [depth11]; omega⟩
  simp only [PyData.shown, shown11, list11]
  have : sizeLine = 16777216 := sizeLine_eq
  omega
theorem int_len {m : Int} (h : m.natAbs < 10 ^ 13) : (PyData.int m).shown.length ≤ 14 := by
  have e := int_text_length_le10 (k := 13) (by decide) h
  simp only [PyData.shown]
  rw [PySem.ofString_length]
  exact e
theorem int_show {m : Int} (h : m.natAbs < 10 ^ 13) : (PyData.int m).showable = true := by
  simp only [PyData.showable]
  refine decide_eq_true ?_
  have h1 : m.natAbs < 2 ^ 50 := Nat.lt_of_lt_of_le h (by decide)
  exact Nat.lt_of_lt_of_le (PySem.Flt.log2_lt_of (by decide) h1) (by decide)
end Siz
/-! the law's loop: one turn -/
namespace Turn
open PySem PySem.Spec PyProof.Rows L2 Evl ExV Gen Kls Rep Gu Fn1 Fn2 Fn3 Siz
/-- all but what stands at l is as it was -/
def Mv (l : Addr) (H H' : Hp) : Prop := ∀ b o, b ≠ l → H b = some o → H' b = some o
theorem Mv.of {l : Addr} {H H' : Hp} (e : Ex H H') : Mv l H H' := fun b o _ z => e b o z
theorem Mv.trans {l : Addr} {H H1 H2 : Hp} (a : Mv l H H1) (b : Mv l H1 H2) : Mv l H H2 := fun c o n z => b c o n (a c o n z)
theorem Mv.upd {l : Addr} {H : Hp} {o : HO} : Mv l H (upd H l o) := fun b u n z => by
  rw [upd_ne n]
  exact z
/-- neither a list of eleven nor an error nor its dict -/
structure Odd (o : HO) : Prop where
  l : ∀ L : List Addr, L.length = 11 → HO.lst (L.map V.ref) ≠ o
  e : ∀ a C d, exo a C d ≠ o
  d : ∀ a fs, exd a fs ≠ o
theorem Odd.lst {xs : List V} (h : xs.length ≠ 11) : Odd (.lst xs) := by
  refine ⟨fun L hl z => ?_, fun a C d z => ?_, fun a fs z => ?_⟩
  · have q := HO.lst.inj z
    rw [← q, List.length_map] at h
    exact h hl
  · have z' : HO.ext _ = HO.lst xs := z
    cases z'
  · have z' : HO.ext _ = HO.lst xs := z
    cases z'
theorem Odd.dK {kvs : List (Key × V)} : Odd (.dK kvs) := by
  refine ⟨fun L hl z => ?_, fun a C d z => ?_, fun a fs z => ?_⟩
  · cases z
  · have z' : HO.ext _ = HO.dK kvs := z
    cases z'
  · have z' : HO.ext _ = HO.dK kvs := z
    cases z'
theorem errs_mv {C : Nat → Addr} {H H' : Hp} {p l : Addr} {g : V} {L : List Addr} {o : HO} (h : Errs C H p g L) (hl : H l = some o) (ho : Odd o) (m : Mv l H H') : Errs C H' p g L :=
  ⟨h.len, m _ _ (ne_of h.at_ hl (ho.l L h.len)) h.at_, fun i a z => by
    obtain ⟨dx, h1, h2⟩ := h.each i a z
    exact ⟨dx, m _ _ (ne_of h1 hl (ho.e _ _ _)) h1, m _ _ (ne_of h2 hl (ho.d _ _)) h2⟩⟩
abbrev tR (K : PySem.W.Frag) (C : Nat → Addr) (te tg : TE) : TT := tNot (tB (tCall (spRight K C) [] E0 (tCons te (tCons tg tNil))))
abbrev tTwo (K : PySem.W.Frag) (C : Nat → Addr) : TS := tIfS (tOr (tR K C (tVar 4) (tVar 3)) (tR K C (tVar 5) (tVar 3))) (tRet (tC (.bl false))) tNext
abbrev tIs (K : PySem.W.Frag) (n : String) : TT := tB (tCB (rIsi K) (tCons (tVar 3) (tCons (tC (.ty n)) tNil)))
def tBody (K : PySem.W.Frag) (C : Nat → Addr) : TS := tSeq (tPar 4 5 (tCons (tCall (spMake C) [] E0 (tCons (tVar 3) tNil)) (tCons (tCall (spMake C) [] E0 (tCons (tVar 3) tNil)) tNil)))
  (tSeq (tTwo K C)
  (tSeq (tIfS (tIs K "list") (tDrop (tBM K "list" rAppend (tVar 3) (tCons (tC (.str "more")) tNil))) tNext)
  (tSeq (tIfS (tIs K "dict") (sDPut (tVar 3) (tC (.str "more")) (tLst (tCons (tC (.int 1)) tNil))) tNext)
  (tTwo K C))))
section
variable {K : PySem.W.Frag} {C : Nat → Addr} {σ : L2.St} {H : Hp} {g : V}
theorem et_right {te tg : TE} {p : Addr} {L : List Addr} {d : PyData} (h1 : Ev te σ H (.ref p)) (h2 : Ev tg σ H g) (hE : Errs C H p g L) (hF : Fit K H g d) : EvT (tR K C te tg) σ H false :=
  et_is (et_not (et_B (b := true) (ev_call (ea_cons h1 (ea_cons h2 ea_nil)) fun H1 e Q q E => ⟨p, L, g, d, rfl, hE.ex e, hF.ex e, fun H2 e2 => q H2 e2⟩))) rfl
theorem et_two {p q : Addr} {L M : List Addr} {d : PyData} (h3 : σ[3]? = some (some g)) (h4 : σ[4]? = some (some (.ref p))) (h5 : σ[5]? = some (some (.ref q))) (hE : Errs C H p g L) (hG : Errs C H q g M) (hF : Fit K H g d) :
    EvT (tOr (tR K C (tVar 4) (tVar 3)) (tR K C (tVar 5) (tVar 3))) σ H false :=
  et_is (et_or (et_right (ev_var h4) (ev_var h3) hE hF) fun _ => et_right (ev_var h5) (ev_var h3) hG hF) rfl
theorem et_isi {n : String} {t : Value} {b : Bool} (h3 : σ[3]? = some (some g)) (ty : ∀ H1, Ex H H1 → TyX K H1 g t) (kb : PySem.W.kitOne K t (.type n) = some b) : EvT (tIs K n) σ H b :=
  et_B (ev_cb (ea_cons (ev_var h3) (ea_cons ev_c ea_nil)) fun H1 e Q q => ⟨g, .ty n, t, .type n, b, rfl, .ty n, ty H1 e, kb, q H1 (Ex.refl _)⟩)
/-- the two lists made, and looked at -/
theorem start2 {D : Ends} {tz : TS} {s0 s1 s2 v4 v5 : Option V} (d : PyData) (hF : Fit K H g d)
    (k : ∀ p q L M H', Ex H H' → Errs C H' p g L → Errs C H' q g M → tz D [s0, s1, s2, some g, some (.ref p), some (.ref q)] H') :
    tSeq (tPar 4 5 (tCons (tCall (spMake C) [] E0 (tCons (tVar 3) tNil)) (tCons (tCall (spMake C) [] E0 (tCons (tVar 3) tNil)) tNil))) (tSeq (tTwo K C) tz) D [s0, s1, s2, some g, v4, v5] H := by
  refine ⟨_, rfl, g, rfl, fun p L H1 n1 e1 E1 => ⟨_, rfl, g, rfl, fun q M H2 n2 e2 E2 => ⟨_, _, rfl, ?_⟩⟩⟩
  show tSeq (tTwo K C) tz D [s0, s1, s2, some g, some (.ref p), some (.ref q)] H2
  refine q_when (b := false) (et_two rfl rfl rfl (E1.ex e2) E2 (hF.ex (e1.trans e2))) (fun z => by cases z) fun _ H3 e3 => ?_
  exact k p q L M H3 ((e1.trans e2).trans e3) ((E1.ex e2).ex e3) (E2.ex e3)
theorem end2 {D : Ends} {s0 s1 s2 : Option V} {p q : Addr} {L M : List Addr} {d : PyData} (hE : Errs C H p g L) (hG : Errs C H q g M) (hF : Fit K H g d) (k : ∀ H', Ex H H' → D.nx [s0, s1, s2, some g, some (.ref p), some (.ref q)] H') :
    tTwo K C D [s0, s1, s2, some g, some (.ref p), some (.ref q)] H :=
  s_when (b := false) (et_two rfl rfl rfl hE hG hF) (fun z => by cases z) fun _ H3 e3 => k H3 e3
/-- a value that is neither a list nor a dict -/
theorem turnA {D : Ends} {s0 s1 s2 v4 v5 : Option V} {d : PyData} {t : Value} (hF : Fit K H g d) (ty : ∀ H1, Ex H H1 → TyX K H1 g t) (k1 : PySem.W.kitOne K t (.type "list") = some false) (k2 : PySem.W.kitOne K t (.type "dict") = some false)
    (k : ∀ p q H', Ex H H' → D.nx [s0, s1, s2, some g, some (.ref p), some (.ref q)] H') : tBody K C D [s0, s1, s2, some g, v4, v5] H := by
  refine start2 d hF fun p q L M H1 e1 E1 E2 => ?_
  refine q_when (b := false) (et_isi rfl (fun H' e => ty H' (e1.trans e)) k1) (fun z => by cases z) fun _ H2 e2 => ?_
  refine q_when (b := false) (et_isi rfl (fun H' e => ty H' ((e1.trans e2).trans e)) k2) (fun z => by cases z) fun _ H3 e3 => ?_
  exact end2 (E1.ex (e2.trans e3)) (E2.ex (e2.trans e3)) (hF.ex ((e1.trans e2).trans e3)) fun H' e => k p q H' (((e1.trans e2).trans e3).trans e)
/-- a list -/
theorem turnL {D : Ends} {s0 s1 s2 v4 v5 : Option V} {d d' : PyData} {l : Addr} {xs : List V} (hF : Fit K H (.ref l) d) (hl : H l = some (.lst xs)) (hx : xs.length ≤ 10) (hF' : ∀ H', Mv l H H' → H' l = some (.lst (xs ++ [.str "more"])) → Fit K H' (.ref l) d')
    (k : ∀ p q H', Mv l H H' → D.nx [s0, s1, s2, some (.ref l), some (.ref p), some (.ref q)] H') : tBody K C D [s0, s1, s2, some (.ref l), v4, v5] H := by
  refine start2 d hF fun p q L M H1 e1 E1 E2 => ?_
  refine s_if (D := { D with nx := _ }) (b := true) (et_isi rfl (t := .type "list") (fun H' e => .base (.lst (e _ _ (e1 _ _ hl)))) (kit_ty (by decide +kernel))) (fun _ H2 e2 => ?_) (fun z => by cases z)
  have h2 := e2 _ _ (e1 _ _ hl)
  refine s_app h2 (ev_var rfl) ev_c (by omega) fun H3 e3 => ?_
  have m3 : Mv l H (upd H3 l (.lst (xs ++ [.str "more"]))) := (Mv.of ((e1.trans e2).trans e3)).trans Mv.upd
  have x1 : Errs C (upd H3 l (.lst (xs ++ [.str "more"]))) p (.ref l) L := errs_mv (E1.ex (e2.trans e3)) (e3 _ _ h2) (.lst (by omega)) Mv.upd
  have x2 : Errs C (upd H3 l (.lst (xs ++ [.str "more"]))) q (.ref l) M := errs_mv (E2.ex (e2.trans e3)) (e3 _ _ h2) (.lst (by omega)) Mv.upd
  refine q_when (b := false) (et_isi rfl (t := .type "list") (fun H' e => .base (.lst (e _ _ upd_same))) (kit_ty (by decide +kernel))) (fun z => by cases z) fun _ H4 e4 => ?_
  exact end2 (x1.ex e4) (x2.ex e4) (hF' H4 (m3.trans (Mv.of e4)) (e4 _ _ upd_same)) fun H' e => k p q H' ((m3.trans (Mv.of e4)).trans (Mv.of e))
/-- a dict -/
theorem turnD {D : Ends} {s0 s1 s2 v4 v5 : Option V} {d d' : PyData} {l : Addr} {kvs : List (Key × V)} (hF : Fit K H (.ref l) d) (hl : H l = some (.dK kvs)) (hx : kvs.length ≤ 10)
    (hF' : ∀ H' q, Mv l H H' → H' l = some (.dK (putK kvs (Sum.inr "more") (.ref q))) → H' q = some (.lst [.int 1]) → Fit K H' (.ref l) d')
    (k : ∀ p q H', Mv l H H' → D.nx [s0, s1, s2, some (.ref l), some (.ref p), some (.ref q)] H') : tBody K C D [s0, s1, s2, some (.ref l), v4, v5] H := by
  refine start2 d hF fun p q L M H1 e1 E1 E2 => ?_
  refine q_when (b := false) (et_isi rfl (t := .type "dict") (fun H' e => .base (.dK (e _ _ (e1 _ _ hl)))) (kit_ty (by decide +kernel))) (fun z => by cases z) fun _ H2 e2 => ?_
  have h2 := e2 _ _ (e1 _ _ hl)
  refine s_if (D := { D with nx := _ }) (b := true) (et_isi rfl (t := .type "dict") (fun H' e => .base (.dK (e _ _ h2))) (kit_ty (by decide +kernel))) (fun _ H3 e3 => ?_) (fun z => by cases z)
  have h3 := e3 _ _ h2
  refine ⟨by show 1 ≤ sizeLine; decide, fun r nr => ?_⟩
  have e4 : Ex H3 (upd H3 r (.lst [.int 1])) := Ex.new nr
  have h4 := e4 _ _ h3
  refine ⟨_, rfl, l, _, rfl, DPut.k (k := Sum.inr "more") h4 (sz_lt (by omega)), ?_⟩
  have rl : r ≠ l := (ne_of_none h3 nr).symm
  have m4 : Mv l H (upd (upd H3 r (.lst [.int 1])) l (.dK (putK kvs (Sum.inr "more") (.ref r)))) := (Mv.of (((e1.trans e2).trans e3).trans e4)).trans Mv.upd
  have x1 : Errs C (upd (upd H3 r (.lst [.int 1])) l (.dK (putK kvs (Sum.inr "more") (.ref r)))) p (.ref l) L := errs_mv (E1.ex ((e2.trans e3).trans e4)) h4 .dK Mv.upd
  have x2 : Errs C (upd (upd H3 r (.lst [.int 1])) l (.dK (putK kvs (Sum.inr "more") (.ref r)))) q (.ref l) M := errs_mv (E2.ex ((e2.trans e3).trans e4)) h4 .dK Mv.upd
  exact end2 x1 x2 (hF' _ r m4 upd_same (by rw [upd_ne rl, upd_same])) fun H' e => k p q H' (m4.trans (Mv.of e))
end
end Turn
/-! the law -/
namespace Lw
open PySem PySem.Spec PyProof.Rows L2 Evl ExV Gen Kls Rep Gu Fn1 Fn2 Fn3 Siz Turn
abbrev sLaw : Stmt := top 24
theorem tc_step {ta : TE} {tr : TA} {σ : L2.St} {H : Hp} {Q : List V → Hp → Prop} (h : ta σ H fun x H1 => tr σ H1 fun xs H2 => Q (x :: xs) H2) : tCons ta tr σ H Q := h
theorem tn_step {σ : L2.St} {H : Hp} {Q : List V → Hp → Prop} (h : Q [] H) : tNil σ H Q := h
theorem tl_step {ta : TA} {σ : L2.St} {H : Hp} {Q : VK} (h : ta σ H fun xs H1 => xs.length ≤ sizeLine ∧ ∀ p, H1 p = none → Q (.ref p) (upd H1 p (.lst xs))) : tLst ta σ H Q := h
theorem new_step {H : Hp} {o : HO} {Q : V → Hp → Prop} (k : ∀ p H2, H p = none → Ex H H2 → H2 p = some o → Q (.ref p) H2) : ∀ p, H p = none → Q (.ref p) (upd H p o) := fun p np => k p _ np (Ex.new np) upd_same
theorem c_step {v : V} {σ : L2.St} {H : Hp} {Q : VK} (h : Q v H) : tC v σ H Q := h
theorem v_step {v : V} {i : Nat} {σ : L2.St} {H : Hp} {Q : VK} (hv : σ[i]? = some (some v)) (h : Q v H) : tVar i σ H Q := ⟨v, hv, h⟩
theorem lst_step {ta : TA} {vs : List V} {σ : L2.St} {H : Hp} {Q : VK} (ha : EvA ta σ H vs) (hz : vs.length ≤ 100000) (k : ∀ p H2, H p = none → Ex H H2 → H2 p = some (.lst vs) → Q (.ref p) H2) : tLst ta σ H Q := el_lst ha hz H (Ex.refl H) Q k
theorem tup_step {ta : TA} {vs : List V} {σ : L2.St} {H : Hp} {Q : VK} (ha : EvA ta σ H vs) (hz : vs.length ≤ 100000) (k : ∀ p H2, H p = none → Ex H H2 → H2 p = some (.tup vs) → Q (.ref p) H2) : tTup ta σ H Q := eu_tup ha hz H (Ex.refl H) Q k
theorem dnew_step {σ : L2.St} {H : Hp} {Q : VK} (k : ∀ p H2, H p = none → Ex H H2 → H2 p = some (.dK []) → Q (.ref p) H2) : tDNewK σ H Q := fun p np => k p _ np (Ex.new np) upd_same
/-- {"a": [m]} -/
theorem disp_step {m : Int} {σ : L2.St} {H : Hp} {Q : VK} (hv : σ[1]? = some (some (.int m))) (k : ∀ d lm H2, H d = none → H lm = none → Ex H H2 → H2 d = some (.dK [(Sum.inr "a", .ref lm)]) → H2 lm = some (.lst [.int m]) → Q (.ref d) H2) :
    tDisp [(tC (.str "a"), tLst (tCons (tVar 1) tNil))] σ H Q := by
  intro d nd
  refine ⟨_, hv, by show 1 ≤ sizeLine; decide, fun lm nlm => ?_⟩
  have n2 : lm ≠ d := (ne_of_none upd_same nlm).symm
  have nl : H lm = none := by
    rw [upd_ne n2] at nlm
    exact nlm
  refine ⟨by rw [upd_ne n2.symm, upd_same], [(Sum.inr "a", .ref lm)], rfl, by show 1 ≤ 15; decide, k d lm _ nd nl (fun b o z => ?_) upd_same (by rw [upd_ne n2, upd_same])⟩
  rw [upd_ne (ne_of_none z nd), upd_ne (ne_of_none z nl), upd_ne (ne_of_none z nd)]
  exact z
theorem op_step {f : Int → Int → V} {i j : Int} {ta tb : TE} {σ : L2.St} {H : Hp} {Q : VK} (ha : Ev ta σ H (.int i)) (hb : Ev tb σ H (.int j)) (k : ∀ H2, Ex H H2 → Q (f i j) H2) : tOp (rI0 f) ta tb σ H Q := ev_op ha hb rv_I0 H (Ex.refl H) Q k
/-- ("idle", [1]) -/
theorem pair_step {σ : L2.St} {H : Hp} {Q : VK} (k : ∀ t l H2, H t = none → H l = none → Ex H H2 → H2 t = some (.tup [.str "idle", .ref l]) → H2 l = some (.lst [.int 1]) → Q (.ref t) H2) :
    tTup (tCons (tC (.str "idle")) (tCons (tLst (tCons (tC (.int 1)) tNil)) tNil)) σ H Q := by
  refine ⟨by show 1 ≤ sizeLine; decide, fun l nl => ⟨by show 2 ≤ sizeLine; decide, fun t nt => ?_⟩⟩
  have e1 : Ex H (upd H l (.lst [.int 1])) := Ex.new nl
  refine k t l _ (fresh_back e1 nt) nl (e1.trans (Ex.new nt)) upd_same ?_
  rw [upd_ne (ne_of_none upd_same nt), upd_same]
theorem g_step {i : Nat} {v : V} {σ : L2.St} {H : Hp} {k : L2.St → Hp → Prop} (h : k (σ.set i (some v)) H) : gName i v σ H k := h
theorem sq_step {t u : TS} {D : Ends} {σ : L2.St} {H : Hp} (h : t { D with nx := u D } σ H) : tSeq t u D σ H := h
theorem for_step {K : PySem.W.Frag} {tl : TE} {g : TG} {tb : TS} {D : Ends} {σ : L2.St} {H : Hp} (h : tl σ H fun x G => ∃ a, x = .ref a ∧ (∃ xs, SqL K G a xs) ∧ ∃ W : Nat → Nat → L2.St → Hp → Prop, (∃ m, W 0 m σ G) ∧ ∀ i m σ H, W i m σ H →
    ((Itl K a).stop i H ∧ D.nx σ H) ∨ ((Itl K a).go i H ∧ ∃ N : L2.St → Hp → Prop, (∀ σ' H', N σ' H' → ∃ m', m' < m ∧ W (i + 1) m' σ' H') ∧ ∀ x H', (Itl K a).yld i H x H' → g x σ H' fun σ2 H2 => tb { D with nx := N, ct := N, bk := D.nx } σ2 H2)) : tFor (iList K tl) g tb D σ H := h
def its (m : Int) (t1 t2 l1 l2 d1 d2 t3 : Addr) : List V := [.int m, .int (0 - m), .ref t1, .ref t2, .ref l1, .ref l2, .ref d1, .ref d2, .str "a b", .str "", .bl true, .non, .ref t3]
structure Ready (m : Int) (t1 t2 l1 l2 d1 d2 t3 lm l4 : Addr) (i : Nat) (H : Hp) : Prop where
  a1 : i ≤ 2 → H t1 = some (.tup [.int 1, .int 2])
  a2 : i ≤ 3 → H t2 = some (.tup [])
  a3 : i ≤ 4 → H l1 = some (.lst [.int 1])
  a4 : i ≤ 5 → H l2 = some (.lst [])
  a5 : i ≤ 6 → H d1 = some (.dK [])
  a6 : i ≤ 7 → H d2 = some (.dK [(Sum.inr "a", .ref lm)])
  a7 : i ≤ 7 → H lm = some (.lst [.int m])
  a8 : H t3 = some (.tup [.str "idle", .ref l4])
  a9 : H l4 = some (.lst [.int 1])
structure Base (C : Nat → Addr) (m : Int) (xs : List V) (p0 el e0 e1 : Addr) (L0 L1 : List Addr) (H : Hp) : Prop where
  p : H p0 = some (.lst xs)
  l : H el = some (.lst [.ref e0, .ref e1])
  E0 : Errs C H e0 (.int m) L0
  E1 : Errs C H e1 (.str "elder") L1
section
variable {C : Nat → Addr} {m : Int} {t1 t2 l1 l2 d1 d2 t3 lm l4 p0 el e0 e1 : Addr} {L0 L1 : List Addr} {xs : List V} {i : Nat} {H H' : Hp}
theorem Ready.ex (h : Ready m t1 t2 l1 l2 d1 d2 t3 lm l4 i H) (e : Ex H H') : Ready m t1 t2 l1 l2 d1 d2 t3 lm l4 (i + 1) H' :=
  ⟨fun z => e _ _ (h.a1 (by omega)), fun z => e _ _ (h.a2 (by omega)), fun z => e _ _ (h.a3 (by omega)), fun z => e _ _ (h.a4 (by omega)), fun z => e _ _ (h.a5 (by omega)), fun z => e _ _ (h.a6 (by omega)), fun z => e _ _ (h.a7 (by omega)), e _ _ h.a8, e _ _ h.a9⟩
/-- behind a turn that changed l -/
theorem Ready.mv {l : Addr} (h : Ready m t1 t2 l1 l2 d1 d2 t3 lm l4 i H) (e : Mv l H H') (i4 : 4 ≤ i) (n4 : i < 5 → l2 ≠ l) (n5 : i < 6 → d1 ≠ l) (n6 : i < 7 → d2 ≠ l ∧ lm ≠ l) (n8 : t3 ≠ l ∧ l4 ≠ l) :
    Ready m t1 t2 l1 l2 d1 d2 t3 lm l4 (i + 1) H' :=
  ⟨fun z => by omega, fun z => by omega, fun z => by omega, fun z => e _ _ (n4 (by omega)) (h.a4 (by omega)), fun z => e _ _ (n5 (by omega)) (h.a5 (by omega)), fun z => e _ _ (n6 (by omega)).1 (h.a6 (by omega)), fun z => e _ _ (n6 (by omega)).2 (h.a7 (by omega)), e _ _ n8.1 h.a8, e _ _ n8.2 h.a9⟩
theorem Base.ex (h : Base C m xs p0 el e0 e1 L0 L1 H) (e : Ex H H') : Base C m xs p0 el e0 e1 L0 L1 H' := ⟨e _ _ h.p, e _ _ h.l, h.E0.ex e, h.E1.ex e⟩
theorem Base.mv {l : Addr} {o : HO} (h : Base C m xs p0 el e0 e1 L0 L1 H) (hl : H l = some o) (ho : Odd o) (n1 : HO.lst xs ≠ o) (n2 : HO.lst [.ref e0, .ref e1] ≠ o) (e : Mv l H H') : Base C m xs p0 el e0 e1 L0 L1 H' :=
  ⟨e _ _ (ne_of h.p hl n1) h.p, e _ _ (ne_of h.l hl n2) h.l, errs_mv h.E0 hl ho e, errs_mv h.E1 hl ho e⟩
end
theorem fit_int {K : PySem.W.Frag} {H : Hp} {z : Int} (hz : z.natAbs < 10 ^ 13) : Fit K H (.int z) (.int z) := fit (.int z) (int_show hz) (Nat.le_trans (int_len hz) (by decide)) (by simp [PyData.depth])
theorem fit_str {K : PySem.W.Frag} {H : Hp} {x : Str} (hz : (PyData.str x).shown.length ≤ 1000) : Fit K H (.str x) (.str x) := fit (.str x) rfl hz (by simp [PyData.depth])
theorem fit_non {K : PySem.W.Frag} {H : Hp} : Fit K H .non .none := fit .non rfl (by decide +kernel) (by simp [PyData.depth])
theorem fit_bl {K : PySem.W.Frag} {H : Hp} {b : Bool} : Fit K H (.bl b) (.bool b) := fit (.bl b) rfl (by cases b <;> decide +kernel) (by simp [PyData.depth])
theorem dict_len1 {m : Int} (hm : m.natAbs < 10 ^ 13) : (PyData.dict [(.str "a", .list [.int m])]).shown.length ≤ 1000 := by
  have h1 := int_len hm
  have h2 : (PyData.str "a").shown.length = 3 := by decide +kernel
  have h3 : (Str.ofString ": ").length = 2 := by decide
  have h4 : (Str.ofString "{").length = 1 := by decide
  have h5 : (Str.ofString "}").length = 1 := by decide
  have e : (PyData.dict [(.str "a", .list [.int m])]).shown = Str.ofString "{" ++ ((PyData.str "a").shown ++ Str.ofString ": " ++ listText [(PyData.int m).shown]) ++ Str.ofString "}" := by
    simp only [PyData.shown, PyData.shownKv, PyData.shownAll]
    rfl
  rw [e, Str.length_append, Str.length_append, Str.length_append, Str.length_append, list1, h2, h3, h4, h5]
  omega
theorem dict_len2 {m : Int} (hm : m.natAbs < 10 ^ 13) : (PyData.dict [(.str "a", .list [.int m]), (.str "more", .list [.int 1])]).shown.length ≤ 1000 := by
  have h1 := int_len hm
  have h2 : (PyData.str "a").shown.length = 3 := by decide +kernel
  have h3 : (Str.ofString ": ").length = 2 := by decide
  have h4 : (Str.ofString "{").length = 1 := by decide
  have h5 : (Str.ofString "}").length = 1 := by decide
  have h6 : (Str.ofString ", ").length = 2 := by decide
  have h7 : ((PyData.str "more").shown ++ Str.ofString ": " ++ (PyData.list [.int 1]).shown).length = 11 := by decide +kernel
  have e : (PyData.dict [(.str "a", .list [.int m]), (.str "more", .list [.int 1])]).shown = Str.ofString "{" ++ ((PyData.str "a").shown ++ Str.ofString ": " ++ listText [(PyData.int m).shown] ++ Str.ofString ", " ++ ((PyData.str "more").shown ++ Str.ofString ": " ++ (PyData.list [.int 1]).shown)) ++ Str.ofString "}" := by
    simp only [PyData.shown, PyData.shownKv, PyData.shownAll]
    rfl
  rw [e, Str.length_append, Str.length_append, Str.length_append, Str.length_append, Str.length_append, Str.length_append, list1, h2, h3, h4, h5, h6, h7]
  omega
theorem dict_show {m : Int} (hm : m.natAbs < 10 ^ 13) : (PyData.dict [(.str "a", .list [.int m]), (.str "more", .list [.int 1])]).showable = true ∧ (PyData.dict [(.str "a", .list [.int m])]).showable = true := by
  have h : decide (m.natAbs.log2 < 1920) = true := by simpa only [PyData.showable] using int_show hm
  have h1 : decide ((Int.natAbs 1).log2 < 1920) = true := by decide +kernel
  constructor
  · simp only [PyData.showable, PyData.showableKv, PyData.showableAll]
    rw [h, h1]
    rfl
  · simp only [PyData.showable, PyData.showableKv, PyData.showableAll]
    rw [h]
    rfl
theorem put_a {x y : V} : putK [((Sum.inr "a" : Key), x)] (Sum.inr "more") y = ([(Sum.inr "a", x), (Sum.inr "more", y)] : List (Key × V)) := by
  have ne : ¬ ((Sum.inr "a" : Key) = (Sum.inr "more" : Key)) := by decide
  simp [putK, ne]
section
variable {K : PySem.W.Frag} {C : Nat → Addr} {m : Int} {t1 t2 l1 l2 d1 d2 t3 lm l4 p0 el e0 e1 : Addr} {L0 L1 : List Addr}
theorem its_len : (its m t1 t2 l1 l2 d1 d2 t3).length = 13 := rfl
theorem ne_its {xs : List V} (h : xs.length ≠ 13) : HO.lst (its m t1 t2 l1 l2 d1 d2 t3) ≠ .lst xs := fun z => h (by rw [← HO.lst.inj z]; rfl)
theorem ne_two {x y : V} {xs : List V} (h : xs.length ≠ 2) : HO.lst [x, y] ≠ .lst xs := fun z => h (by rw [← HO.lst.inj z]; rfl)
theorem turns {D : Ends} {s0 s1 s2 v4 v5 : Option V} {G : Hp} (i : Nat) (x : V) (hx : (its m t1 t2 l1 l2 d1 d2 t3)[i]? = some x) (hm : m.natAbs < 10 ^ 13) (ne1 : lm ≠ l1) (ne2 : l4 ≠ l1) (ne3 : l4 ≠ l2) (ne4 : lm ≠ l2)
    (B : Base C m (its m t1 t2 l1 l2 d1 d2 t3) p0 el e0 e1 L0 L1 G) (R : Ready m t1 t2 l1 l2 d1 d2 t3 lm l4 i G)
    (k : ∀ v4 v5 G', Base C m (its m t1 t2 l1 l2 d1 d2 t3) p0 el e0 e1 L0 L1 G' → Ready m t1 t2 l1 l2 d1 d2 t3 lm l4 (i + 1) G' → D.nx [s0, s1, s2, some x, v4, v5] G') : tBody K C D [s0, s1, s2, some x, v4, v5] G := by
  match i, hx, R, k with
  | 0, hx, R, k =>
    obtain rfl : V.int m = x := Option.some.inj hx
    exact turnA (t := .type "int") (fit_int hm) (fun _ _ => .base (.int _)) (kit_ty (by decide +kernel)) (kit_ty (by decide +kernel)) fun p q H' e => k _ _ H' (B.ex e) (R.ex e)
  | 1, hx, R, k =>
    obtain rfl : V.int (0 - m) = x := Option.some.inj hx
    exact turnA (t := .type "int") (fit_int (by omega)) (fun _ _ => .base (.int _)) (kit_ty (by decide +kernel)) (kit_ty (by decide +kernel)) fun p q H' e => k _ _ H' (B.ex e) (R.ex e)
  | 2, hx, R, k =>
    obtain rfl : V.ref t1 = x := Option.some.inj hx
    have h := R.a1 (by decide)
    exact turnA (t := .type "tuple") (fit (d := .tuple [.int 1, .int 2]) (.tup (SqT.of h) (.cons (.int 1) (.cons (.int 2) .nil))) (by decide +kernel) (by decide +kernel) (by decide +kernel)) (fun _ e => .base (.tup (e _ _ h))) (kit_ty (by decide +kernel)) (kit_ty (by decide +kernel)) fun p q H' e => k _ _ H' (B.ex e) (R.ex e)
  | 3, hx, R, k =>
    obtain rfl : V.ref t2 = x := Option.some.inj hx
    have h := R.a2 (by decide)
    exact turnA (t := .type "tuple") (fit (d := .tuple []) (.tup (SqT.of h) .nil) (by decide +kernel) (by decide +kernel) (by decide +kernel)) (fun _ e => .base (.tup (e _ _ h))) (kit_ty (by decide +kernel)) (kit_ty (by decide +kernel)) fun p q H' e => k _ _ H' (B.ex e) (R.ex e)
  | 4, hx, R, k =>
    obtain rfl : V.ref l1 = x := Option.some.inj hx
    have h := R.a3 (by decide)
    exact turnL (d := .list [.int 1]) (d' := .list [.int 1, .str "more"]) (fit (.lst (SqL.of h) (.cons (.int 1) .nil)) (by decide +kernel) (by decide +kernel) (by decide +kernel)) h (by decide)
      (fun H' _ h' => fit (.lst (SqL.of h') (.cons (.int 1) (.cons (.str "more") .nil))) (by decide +kernel) (by decide +kernel) (by decide +kernel))
      fun p q H' mv => k _ _ H' (B.mv h (.lst (by decide)) (ne_its (by decide)) (ne_two (by decide)) mv)
        (R.mv mv (by decide) (fun _ => ne_of (R.a4 (by decide)) h (by intro z; cases z)) (fun _ => ne_of (R.a5 (by decide)) h (by intro z; cases z)) (fun _ => ⟨ne_of (R.a6 (by decide)) h (by intro z; cases z), ne1⟩) ⟨ne_of R.a8 h (by intro z; cases z), ne2⟩)
  | 5, hx, R, k =>
    obtain rfl : V.ref l2 = x := Option.some.inj hx
    have h := R.a4 (by decide)
    exact turnL (d := .list []) (d' := .list [.str "more"]) (fit (.lst (SqL.of h) .nil) (by decide +kernel) (by decide +kernel) (by decide +kernel)) h (by decide)
      (fun H' _ h' => fit (.lst (SqL.of h') (.cons (.str "more") .nil)) (by decide +kernel) (by decide +kernel) (by decide +kernel))
      fun p q H' mv => k _ _ H' (B.mv h (.lst (by decide)) (ne_its (by decide)) (ne_two (by decide)) mv)
        (R.mv mv (by decide) (fun z => by omega) (fun _ => ne_of (R.a5 (by decide)) h (by intro z; cases z)) (fun _ => ⟨ne_of (R.a6 (by decide)) h (by intro z; cases z), ne4⟩) ⟨ne_of R.a8 h (by intro z; cases z), ne3⟩)
  | 6, hx, R, k =>
    obtain rfl : V.ref d1 = x := Option.some.inj hx
    have h := R.a5 (by decide)
    exact turnD (d := .dict []) (d' := .dict [(.str "more", .list [.int 1])]) (fit (.dct h .nil) (by decide +kernel) (by decide +kernel) (by decide +kernel)) h (by decide)
      (fun H' q _ h' hq => fit (.dct (kvs := [(Sum.inr "more", .ref q)]) h' (.cons (.lst (SqL.of hq) (.cons (.int 1) .nil)) .nil)) (by decide +kernel) (by decide +kernel) (by decide +kernel))
      fun p q H' mv => k _ _ H' (B.mv h .dK (by intro z; cases z) (by intro z; cases z) mv)
        (R.mv mv (by decide) (fun z => by omega) (fun z => by omega) (fun _ => ⟨ne_of (R.a6 (by decide)) h (by intro z; cases z), ne_of (R.a7 (by decide)) h (by intro z; cases z)⟩) ⟨ne_of R.a8 h (by intro z; cases z), ne_of R.a9 h (by intro z; cases z)⟩)
  | 7, hx, R, k =>
    obtain rfl : V.ref d2 = x := Option.some.inj hx
    have h := R.a6 (by decide)
    have hl := R.a7 (by decide)
    have nl : lm ≠ d2 := ne_of hl h (by intro z; cases z)
    exact turnD (d := .dict [(.str "a", .list [.int m])]) (d' := .dict [(.str "a", .list [.int m]), (.str "more", .list [.int 1])])
      (fit (.dct h (.cons (.lst (SqL.of hl) (.cons (.int m) .nil)) .nil)) (dict_show hm).2 (dict_len1 hm) (by simp [PyData.depth, PyData.depthKv, PyData.depthAll])) h (by simp)
      (fun H' q mv h' hq => fit (.dct (kvs := [(Sum.inr "a", .ref lm), (Sum.inr "more", .ref q)]) (by rw [put_a] at h'; exact h') (.cons (.lst (SqL.of (mv _ _ nl hl)) (.cons (.int m) .nil)) (.cons (.lst (SqL.of hq) (.cons (.int 1) .nil)) .nil))) (dict_show hm).1 (dict_len2 hm) (by simp [PyData.depth, PyData.depthKv, PyData.depthAll]))
      fun p q H' mv => k _ _ H' (B.mv h .dK (by intro z; cases z) (by intro z; cases z) mv)
        (R.mv mv (by decide) (fun z => by omega) (fun z => by omega) (fun z => by omega) ⟨ne_of R.a8 h (by intro z; cases z), ne_of R.a9 h (by intro z; cases z)⟩)
  | 8, hx, R, k =>
    obtain rfl : V.str "a b" = x := Option.some.inj hx
    exact turnA (t := .type "str") (fit_str (by decide +kernel)) (fun _ _ => .base (.str _)) (kit_ty (by decide +kernel)) (kit_ty (by decide +kernel)) fun p q H' e => k _ _ H' (B.ex e) (R.ex e)
  | 9, hx, R, k =>
    obtain rfl : V.str "" = x := Option.some.inj hx
    exact turnA (t := .type "str") (fit_str (by decide +kernel)) (fun _ _ => .base (.str _)) (kit_ty (by decide +kernel)) (kit_ty (by decide +kernel)) fun p q H' e => k _ _ H' (B.ex e) (R.ex e)
  | 10, hx, R, k =>
    obtain rfl : V.bl true = x := Option.some.inj hx
    exact turnA (t := .type "bool") fit_bl (fun _ _ => .base (.bl _)) (kit_ty (by decide +kernel)) (kit_ty (by decide +kernel)) fun p q H' e => k _ _ H' (B.ex e) (R.ex e)
  | 11, hx, R, k =>
    obtain rfl : V.non = x := Option.some.inj hx
    exact turnA (t := .type "NoneType") fit_non (fun _ _ => .base .non) (kit_ty (by decide +kernel)) (kit_ty (by decide +kernel)) fun p q H' e => k _ _ H' (B.ex e) (R.ex e)
  | 12, hx, R, k =>
    obtain rfl : V.ref t3 = x := Option.some.inj hx
    exact turnA (t := .type "tuple") (fit (d := .tuple [.str "idle", .list [.int 1]]) (.tup (SqT.of R.a8) (.cons (.str "idle") (.cons (.lst (SqL.of R.a9) (.cons (.int 1) .nil)) .nil))) (by decide +kernel) (by decide +kernel) (by decide +kernel)) (fun _ e => .base (.tup (e _ _ R.a8))) (kit_ty (by decide +kernel)) (kit_ty (by decide +kernel)) fun p q H' e => k _ _ H' (B.ex e) (R.ex e)
  | n + 13, hx, R, k =>
    have : (its m t1 t2 l1 l2 d1 d2 t3)[n + 13]? = none := List.getElem?_eq_none (by rw [its_len]; omega)
    rw [this] at hx
    cases hx
end
def spLaw (K : PySem.W.Frag) : Sp := fun vs H Q _ => ∃ a ns, vs = [.ref a] ∧ SqL K H a (VInt ns) ∧ ns.length ≤ 63 ∧ ∀ H', Q (.bl true) H'
section
variable {P : Program} {w : World} {K : PySem.W.Frag} {mg : Str → Option Value} {base : Heap} {C fI : Nat → Addr} {CH fC fH fG fR fK fRi fP fN fU : Addr} {fdR fdG fdK fdRi fdP fdN fdU : FuncData}
theorem scL : FnScope ["_law_script", "_law_mark", "_law_elder", "_law_given", "_law_first", "_law_second"] ["_law_script"] (defScope sLaw) := ⟨rfl, rfl, rfl, by decide +kernel, rfl, by decide +kernel, by decide +kernel⟩
set_option maxHeartbeats 4000000 in
theorem ok_law {f : Addr} {fd : FuncData} (F : Fun K "law" "law" sLaw f fd) (T : Txt K mg C fI CH) (TG : GTxt mg K fC fH fG fR)
    (GRa : FnOk P w K mg base CX0 2 fR fdR ["_law_generator_here", "_law_bound"] spRand) (bRa : Binds K fdR ["_law_generator_here", "_law_bound"] [])
    (GGe : FnOk P w K mg base CX0 2 fG fdG ["_law_script", "_law_index"] (spGen K)) (bGe : Binds K fdG ["_law_script", "_law_index"] [])
    (GK : FnOk P w K mg base CX0 1 fK fdK ["_law_error"] (spKinds C)) (mK : mg "_law_kinds" = some (.ref fK)) (kK : PySem.W.keepIn K (.ref fK) = true) (bK : Binds K fdK ["_law_error"] [])
    (GR : FnG P w K mg base 2 fRi fdRi ["_law_errors", "_law_given"] (spRight K C)) (mR : mg "_law_right" = some (.ref fRi)) (kR : PySem.W.keepIn K (.ref fRi) = true) (bR : Binds K fdRi ["_law_errors", "_law_given"] [])
    (GP : FnOk P w K mg base CX0 3 fP fdP ["_law_given"] (spMake C)) (mP : mg "_law_placed" = some (.ref fP)) (kP : PySem.W.keepIn K (.ref fP) = true) (bP : Binds K fdP ["_law_given"] [])
    (GN : FnOk P w K mg base CX0 3 fN fdN ["_law_given"] (spMake C)) (mN : mg "_law_named" = some (.ref fN)) (kN : PySem.W.keepIn K (.ref fN) = true) (bN : Binds K fdN ["_law_given"] [])
    (GU : FnOk P w K mg base CX0 3 fU fdU [] (spUnset C)) (mU : mg "_law_unset" = some (.ref fU)) (kU : PySem.W.keepIn K (.ref fU) = true) (bU : Binds K fdU [] []) :
    FnG P w K mg base 4 f fd ["_law_script"] (spLaw K) := by
  refine fun_okG F scL (fun vs H Q E h => ?_) (fun cdv A outer s H vs Q E gd hr3 h => ?_)
  · obtain ⟨a, ns, rfl, _⟩ := h
    rfl
  · obtain ⟨a, ns, rfl, hS, hl, kq⟩ := h
    refine ⟨_, (pss_cons (ps_set (i := 1) scL.nd rfl (Or.inl rfl) (pe_call GRa (hr3.mono (by decide)) (by rfl) TG.gR TG.kR bRa .nil pass0 (pa_cons (pe_call GGe (hr3.mono (by decide)) (by rfl) TG.gG TG.kG bGe .nil pass0 (pa_cons (pv 0) (pa_cons pe_int pa_nil))) (pa_cons (pe_op op_pow pe_int pe_int) pa_nil))))
      (pss_cons (ps_set (i := 2) scL.nd rfl (Or.inl rfl) (pe_lst (pa_cons (pe_call GP hr3 (by rfl) mP kP bP .nil pass0 (pa_cons (pv 1) pa_nil)) (pa_cons (pe_call GN hr3 (by rfl) mN kN bN .nil pass0 (pa_cons pe_str pa_nil)) pa_nil))))
      (pss_cons (ps_for PassesOwn.never rfl (pi_list (pe_lst (pa_cons (pv 1) (pa_cons (pe_op op_sub pe_int (pv 1)) (pa_cons (pe_tup (pa_cons pe_int (pa_cons pe_int pa_nil))) (pa_cons (pe_tup pa_nil) (pa_cons (pe_lst (pa_cons pe_int pa_nil)) (pa_cons (pe_lst pa_nil) (pa_cons pe_dnewK (pa_cons (pe_disp (pps_cons pe_str (pe_lst (pa_cons (pv 1) pa_nil)) pps_nil) (by rfl) (by rfl) (fun z => by cases z) (by decide)) (pa_cons pe_str (pa_cons pe_str (pa_cons pe_bl (pa_cons pe_non (pa_cons (pe_tup (pa_cons pe_str (pa_cons (pe_lst (pa_cons pe_int pa_nil)) pa_nil))) pa_nil))))))))))))))) (pg_name (i := 3) scL.nd rfl (Or.inl rfl)) (pss_cons (ps_par (i := 4) (j := 5) rfl scL.nd rfl rfl (by decide) rfl rfl (pa_cons (pe_call GP hr3 (by rfl) mP kP bP .nil pass0 (pa_cons (pv 3) pa_nil)) (pa_cons (pe_call GN hr3 (by rfl) mN kN bN .nil pass0 (pa_cons (pv 3) pa_nil)) pa_nil)) (by rfl))
      (pss_cons (ps_if (PW.pt (pw_or (pt_not (pt_val (pe_callG GR gd (hr3.mono (by decide)) (by rfl) mR kR bR .nil (pa_cons (pv 4) (pa_cons (pv 3) pa_nil))))) (pw_or1 (pt_not (pt_val (pe_callG GR gd (hr3.mono (by decide)) (by rfl) mR kR bR .nil (pa_cons (pv 5) (pa_cons (pv 3) pa_nil)))))))) (pss_one (ps_ret pe_bl)) pss_nil)
      (pss_cons (ps_if (pt_val (pe_callB call_isi (by rfl) T.isi (by decide +kernel) (pa_cons (pv 3) (pa_cons (pe_bltn (v := V.ty "list") (by rfl) T.lst (by decide +kernel) rfl) pa_nil)))) (pss_one (ps_expr (pe_bm PySem.F.plainAttrs_list PySem.F.slot_list_append PySem.F.type_list_append mt_append (pv 3) (pa_cons pe_str pa_nil)))) pss_nil)
      (pss_cons (ps_if (pt_val (pe_callB call_isi (by rfl) T.isi (by decide +kernel) (pa_cons (pv 3) (pa_cons (pe_bltn (v := V.ty "dict") (by rfl) T.dct (by decide +kernel) rfl) pa_nil)))) (pss_one (ps_dput (hu_of hr3) (pv 3) pe_str (pe_lst (pa_cons pe_int pa_nil)) rfl)) pss_nil)
      (pss_one (ps_if (PW.pt (pw_or (pt_not (pt_val (pe_callG GR gd (hr3.mono (by decide)) (by rfl) mR kR bR .nil (pa_cons (pv 4) (pa_cons (pv 3) pa_nil))))) (pw_or1 (pt_not (pt_val (pe_callG GR gd (hr3.mono (by decide)) (by rfl) mR kR bR .nil (pa_cons (pv 5) (pa_cons (pv 3) pa_nil)))))))) (pss_one (ps_ret pe_bl)) pss_nil)))))))
      (pss_cons (ps_if (PW.pt (pw_or (pt_not (pt_val (pe_callG GR gd (hr3.mono (by decide)) (by rfl) mR kR bR .nil (pa_cons (pe_ix ix_list (pv 2) pe_int (fun _ _ => rfl)) (pa_cons (pv 1) pa_nil))))) (pw_or (pt_not (pt_val (pe_callG GR gd (hr3.mono (by decide)) (by rfl) mR kR bR .nil (pa_cons (pe_ix ix_list (pv 2) pe_int (fun _ _ => rfl)) (pa_cons pe_str pa_nil))))) (pw_or1 (pt_not (pt_val (pe_callG GR gd (hr3.mono (by decide)) (by rfl) mR kR bR .nil (pa_cons (pe_call0 GU hr3 (by rfl) mU kU bU .nil pass0) (pa_cons pe_non pa_nil))))))))) (pss_one (ps_ret pe_bl)) pss_nil)
      (pss_one (ps_ret (pe_and (pe_cmpR (op_eqD hr3.units) (pe_call GK (hr3.mono (by decide)) (by rfl) mK kK bK .nil pass0 (pa_cons (pe_bare PySem.F.excBase_ValueError T.xN (T.m 11 (by decide)) T.kN (by rfl)) pa_nil)) (pe_lst (pa_cons pe_int pa_nil)) (nomark _)) (pe_one (pe_callB call_errIs (by rfl) T.isi (by decide +kernel) (pa_cons (pe_bare PySem.F.excBase_ValueError T.xH T.mH T.kH (by rfl)) (pa_cons (pe_bltn (v := V.ty "ValueError") (by rfl) T.VE (by decide +kernel) rfl) pa_nil))))))))))), ?_⟩
    -- the mark
    refine ⟨_, rfl, a, ns, 0, rfl, hS, hl, by decide, fun p g np gl => ⟨_, _, rfl, rfl, ⟨by decide, by decide, by decide⟩, p, _, _, g, rfl, by decide, by decide, upd_same, gl, by decide, fun m g' m0 m1 _ => ?_⟩⟩
    have hm : m.natAbs < 10 ^ 13 := by
      have : (10 : Int) ^ (12 : Int).toNat = 1000000000000 := by decide
      rw [this] at m1
      omega
    generalize upd (upd H p (HO.lst g)) p (HO.lst g') = G0
    -- the elder ones
    refine ⟨_, rfl, .int m, rfl, fun e0 L0 G1 _ x1 E0 => ⟨.str "elder", rfl, fun e1 L1 G2 _ x2 E1 => ⟨by show 2 ≤ sizeLine; decide, fun el nel => ?_⟩⟩⟩
    have x3 : Ex G2 (upd G2 el (HO.lst [V.ref e0, V.ref e1])) := Ex.new nel
    have hel : (upd G2 el (HO.lst [V.ref e0, V.ref e1])) el = some (HO.lst [V.ref e0, V.ref e1]) := upd_same
    generalize upd G2 el (HO.lst [V.ref e0, V.ref e1]) = G3 at x3 hel ⊢
    have E0' := (E0.ex x2).ex x3
    have E1' := E1.ex x3
    -- the values
    refine g_step ?_
    dsimp only
    refine sq_step ?_
    refine for_step ?_
    refine tl_step ?_
    refine tc_step ?_
    refine v_step (v := .int m) rfl ?_
    refine tc_step ?_
    refine op_step ev_c (ev_var (v := .int m) rfl) fun G4 x4 => ?_
    refine tc_step ?_
    refine tup_step (ea_cons ev_c (ea_cons ev_c ea_nil)) (by simp) fun t1 G5 _ x5 ht1 => ?_
    refine tc_step ?_
    refine tup_step ea_nil (by simp) fun t2 G6 _ x6 ht2 => ?_
    refine tc_step ?_
    refine lst_step (ea_cons ev_c ea_nil) (by simp) fun l1 G7 _ x7 hl1 => ?_
    refine tc_step ?_
    refine lst_step ea_nil (by simp) fun l2 G8 _ x8 hl2 => ?_
    refine tc_step ?_
    refine dnew_step fun d1 G9 _ x9 hd1 => ?_
    refine tc_step ?_
    refine disp_step (m := m) rfl fun d2 lm G10 _ nlm x10 hd2 hlm => ?_
    refine tc_step ?_
    refine c_step ?_
    refine tc_step ?_
    refine c_step ?_
    refine tc_step ?_
    refine c_step ?_
    refine tc_step ?_
    refine c_step ?_
    refine tc_step ?_
    refine pair_step fun t3 l4 G11 _ nl4 x11 ht3 hl4 => ?_
    refine tn_step ?_
    refine ⟨by show 13 ≤ sizeLine; decide, fun p0 np0 => ⟨p0, rfl, ⟨_, SqL.of upd_same⟩, ?_⟩⟩
    have x12 : Ex G11 (upd G11 p0 (HO.lst (its m t1 t2 l1 l2 d1 d2 t3))) := Ex.new np0
    have hp0 : (upd G11 p0 (HO.lst (its m t1 t2 l1 l2 d1 d2 t3))) p0 = some (HO.lst (its m t1 t2 l1 l2 d1 d2 t3)) := upd_same
    have y7 : Ex G7 G10 := (x8.trans x9).trans x10
    have ne1 : lm ≠ l1 := (ne_of_none (x9 _ _ (x8 _ _ hl1)) nlm).symm
    have ne2 : l4 ≠ l1 := (ne_of_none (y7 _ _ hl1) nl4).symm
    have ne3 : l4 ≠ l2 := (ne_of_none (x10 _ _ (x9 _ _ hl2)) nl4).symm
    have ne4 : lm ≠ l2 := (ne_of_none (x9 _ _ hl2) nlm).symm
    have R0 : Ready m t1 t2 l1 l2 d1 d2 t3 lm l4 0 G11 := by
      have z11 := x11
      have z10 := x10.trans z11
      have z9 := x9.trans z10
      have z8 := x8.trans z9
      have z7 := x7.trans z8
      have z6 := x6.trans z7
      exact ⟨fun _ => z6 _ _ ht1, fun _ => z7 _ _ ht2, fun _ => z8 _ _ hl1, fun _ => z9 _ _ hl2, fun _ => z10 _ _ hd1, fun _ => z11 _ _ hd2, fun _ => z11 _ _ hlm, ht3, hl4⟩
    have x311 : Ex G3 G11 := (((((((x4.trans x5).trans x6).trans x7).trans x8).trans x9).trans x10).trans x11)
    have B0 : Base C m (its m t1 t2 l1 l2 d1 d2 t3) p0 el e0 e1 L0 L1 (upd G11 p0 (HO.lst (its m t1 t2 l1 l2 d1 d2 t3))) := ⟨hp0, x12 _ _ (x311 _ _ hel), (E0'.ex x311).ex x12, (E1'.ex x311).ex x12⟩
    have R0' : Ready m t1 t2 l1 l2 d1 d2 t3 lm l4 0 (upd G11 p0 (HO.lst (its m t1 t2 l1 l2 d1 d2 t3))) := ⟨fun z => x12 _ _ (R0.a1 z), fun z => x12 _ _ (R0.a2 z), fun z => x12 _ _ (R0.a3 z), fun z => x12 _ _ (R0.a4 z), fun z => x12 _ _ (R0.a5 z), fun z => x12 _ _ (R0.a6 z), fun z => x12 _ _ (R0.a7 z), x12 _ _ R0.a8, x12 _ _ R0.a9⟩
    refine for_list (K := K) (a := p0) (xs := its m t1 t2 l1 l2 d1 d2 t3) (fun i σ G => ∃ v3 v4 v5, σ = [some (.ref a), some (.int m), some (.ref el), v3, v4, v5] ∧ Base C m (its m t1 t2 l1 l2 d1 d2 t3) p0 el e0 e1 L0 L1 G ∧ Ready m t1 t2 l1 l2 d1 d2 t3 lm l4 i G)
      ⟨none, none, none, rfl, B0, R0'⟩ (fun i σ G _ ⟨_, _, _, _, B, _⟩ => SqL.of B.p) (fun i x σ G hx hPv => ?_) (fun σ G hPv => ?_)
    · obtain ⟨v3, v4, v5, rfl, B, R⟩ := hPv
      exact turns (K := K) i x hx hm ne1 ne2 ne3 ne4 B R fun w4 w5 G' B' R' => ⟨_, _, _, rfl, B', R'⟩
    · obtain ⟨v3, v4, v5, rfl, B, R⟩ := hPv
      dsimp only
      have un : EvT (tNot (tB (tCall (spRight K C) [] L2.E0 (tCons (tCall (spUnset C) [] L2.E0 tNil) (tCons (tC .non) tNil))))) [some (.ref a), some (.int m), some (.ref el), v3, v4, v5] G false := fun H1 e Q q =>
        ⟨rfl, fun p L H2 np e2 E2 => ⟨p, L, .non, .none, rfl, E2, fit_non, fun H3 e3 => ⟨true, rfl, q H3 (e2.trans e3)⟩⟩⟩
      refine q_when (b := false) (et_is (et_or (et_right (ev_op (ev_var rfl) ev_c (rv_ixL (SqL.of B.l) (atI_nat (j := 0) rfl))) (ev_var rfl) B.E0 (fit_int hm)) fun _ =>
        et_or (et_right (ev_op (ev_var rfl) ev_c (rv_ixL (SqL.of B.l) (atI_nat (j := 1) rfl))) ev_c B.E1 (fit_str (by decide +kernel))) fun _ => un) rfl) (fun z => by cases z) fun _ G1 x1 => ?_
      refine fun b H2 nb f2 I2 => ⟨b, 11, by decide, rfl, I2, fun p H3 np f3 hp => ⟨by show 1 ≤ sizeLine; decide, fun r nr => ?_⟩⟩
      have rp := (Ex.new (o := .lst [.int 11]) nr) _ _ hp
      refine ⟨.list [.int 11], .list [.int 11], .lst (SqL.of rp) (.cons (.int 11) .nil), .lst (SqL.of upd_same) (.cons (.int 11) .nil), by decide +kernel, by decide +kernel, true, by rw [show PyData.eqv (.list [.int 11]) (.list [.int 11]) = true by decide +kernel], iteT ?_⟩
      exact fun c H5 nc f5 I5 => ⟨c, CH, _, _, true, rfl, I5, T.iscH, .ty _, T.kHV, kq H5⟩
end
end Lw
/-! what the top has left -/
namespace Fi
open PySem PySem.Spec PyProof.Rows L2 Evl ExV Gen Kls Rep Gu Fn1 Fn2 Fn3 Siz Turn Lw
def sel (a0 a1 a2 a3 a4 a5 a6 a7 a8 a9 a10 a11 : Addr) : Nat → Addr
  | 0 => a0 | 1 => a1 | 2 => a2 | 3 => a3 | 4 => a4 | 5 => a5 | 6 => a6 | 7 => a7 | 8 => a8 | 9 => a9 | 10 => a10 | _ => a11
def selF (a0 a1 a2 a3 a4 a5 a6 a7 a8 a9 a10 : FuncData) : Nat → FuncData
  | 0 => a0 | 1 => a1 | 2 => a2 | 3 => a3 | 4 => a4 | 5 => a5 | 6 => a6 | 7 => a7 | 8 => a8 | 9 => a9 | _ => a10
theorem mro_of {K : PySem.W.Frag} {C N : Addr} {nm q : Str} {bs bm : List Value} {sn : List Str} {sb : List Value} {ab hd : Bool} {co : Option Bool} {dd : Option Addr} {ka kb kc kd ke : Option Value} {n : String}
    (xL : K.lookup C = some (excClassObj nm q C N bs bm hd sn sb ab co dd ka kb kc kd ke n)) (b : Value) : PySem.W.mroIn K C b = some ((Value.ref C :: bm).contains b) := by
  have hc : PySem.W.clsIn K C = some { name := nm, bases := bs, mro := .ref C :: bm, ns := N, qualname := q, hasDict := hd, slotNames := sn, subclasses := sb, abstract := ab, collection := co, hasDel := false } := by
    unfold PySem.W.clsIn
    rw [xL] <;> rfl
  unfold PySem.W.mroIn
  rw [hc, Option.bind_some]
  rfl
theorem kit_of2 {K : PySem.W.Frag} {C D : Addr} {b : Bool} (hc : PySem.W.isClsIn K D = true) (ht : PySem.W.typeIn K (.ref D) = some (.type "type")) (hs : PySem.W.mroIn K C (.ref D) = some b) (he : C = D → b = true) : PySem.W.kitOne K (.ref C) (.ref D) = some b := by
  unfold PySem.W.kitOne
  by_cases e : C = D
  · subst e
    rw [he rfl]
    rw [if_pos (by simp)]
  · rw [if_neg (by simpa using e)]
    have h2 : ((PySem.W.clsIn K D).isSome && PySem.W.typeIn K (.ref D) == some (.type "type")) = true := by
      have h3 : (PySem.W.clsIn K D).isSome = true := hc
      rw [h3, ht]
      rfl
    show (if ((PySem.W.clsIn K D).isSome && PySem.W.typeIn K (.ref D) == some (.type "type")) = true then PySem.W.subIn K (.ref C) (.ref D) else none) = some b
    rw [if_pos h2]
    exact hs
theorem kit_of3 {K : PySem.W.Frag} {C : Addr} {b : Bool} (hs : PySem.W.mroIn K C (.type "ValueError") = some b) : PySem.W.kitOne K (.ref C) (.type "ValueError") = some b := by
  unfold PySem.W.kitOne
  rw [if_neg (by simp)]
  show (if PySem.W.kitMeta "ValueError" = true then PySem.W.subIn K (.ref C) (.type "ValueError") else none) = some b
  rw [if_pos (by decide +kernel)]
  exact hs
set_option maxHeartbeats 8000000 in
theorem all_mk {l : PySem.W.OpenLaw} {w : World} {K : PySem.W.Frag} {h : Heap} {mg : Str → Option Value} {fa : Addr} (X : K.In h) (G : h.Ns mainGlobals mg) (hfa : mg "law" = some (.ref fa))
    {CH NH : Addr} {nmH qH : Str} {bsH : List Value} {snH : List Str} {sbH : List Value} {abH : Bool} {coH : Option Bool} {ddH : Option Addr} {kaH kbH kcH kdH keH : Option Value}
    {C0 N0 : Addr} {nm0 q0 : Str} {bs0 : List Value} {sn0 : List Str} {sb0 : List Value} {ab0 : Bool} {co0 : Option Bool} {dd0 : Option Addr} {ka0 kb0 kc0 kd0 ke0 : Option Value}
    {T0 : Addr} {to0 : Value} {td0 : Option Addr} {tn0 : Nat} {ts0 : Array (Option Value)}
    {fI0 : Addr} {odI0 anI0 : Option Addr} {slI0 : Array (Option Value)} {ocI0 kVI0 dcI0 pmI0 cdI0 ctI0 : Value}
    {C1 N1 : Addr} {nm1 q1 : Str} {bs1 : List Value} {sn1 : List Str} {sb1 : List Value} {ab1 : Bool} {co1 : Option Bool} {dd1 : Option Addr} {ka1 kb1 kc1 kd1 ke1 : Option Value}
    {T1 : Addr} {to1 : Value} {td1 : Option Addr} {tn1 : Nat} {ts1 : Array (Option Value)}
    {fI1 : Addr} {odI1 anI1 : Option Addr} {slI1 : Array (Option Value)} {ocI1 kVI1 dcI1 pmI1 cdI1 ctI1 : Value}
    {C2 N2 : Addr} {nm2 q2 : Str} {bs2 : List Value} {sn2 : List Str} {sb2 : List Value} {ab2 : Bool} {co2 : Option Bool} {dd2 : Option Addr} {ka2 kb2 kc2 kd2 ke2 : Option Value}
    {T2 : Addr} {to2 : Value} {td2 : Option Addr} {tn2 : Nat} {ts2 : Array (Option Value)}
    {fI2 : Addr} {odI2 anI2 : Option Addr} {slI2 : Array (Option Value)} {ocI2 kVI2 dcI2 pmI2 cdI2 ctI2 : Value}
    {C3 N3 : Addr} {nm3 q3 : Str} {bs3 : List Value} {sn3 : List Str} {sb3 : List Value} {ab3 : Bool} {co3 : Option Bool} {dd3 : Option Addr} {ka3 kb3 kc3 kd3 ke3 : Option Value}
    {T3 : Addr} {to3 : Value} {td3 : Option Addr} {tn3 : Nat} {ts3 : Array (Option Value)}
    {fI3 : Addr} {odI3 anI3 : Option Addr} {slI3 : Array (Option Value)} {ocI3 kVI3 dcI3 pmI3 cdI3 ctI3 : Value}
    {C4 N4 : Addr} {nm4 q4 : Str} {bs4 : List Value} {sn4 : List Str} {sb4 : List Value} {ab4 : Bool} {co4 : Option Bool} {dd4 : Option Addr} {ka4 kb4 kc4 kd4 ke4 : Option Value}
    {T4 : Addr} {to4 : Value} {td4 : Option Addr} {tn4 : Nat} {ts4 : Array (Option Value)}
    {fI4 : Addr} {odI4 anI4 : Option Addr} {slI4 : Array (Option Value)} {ocI4 kVI4 dcI4 pmI4 cdI4 ctI4 : Value}
    {C5 N5 : Addr} {nm5 q5 : Str} {bs5 : List Value} {sn5 : List Str} {sb5 : List Value} {ab5 : Bool} {co5 : Option Bool} {dd5 : Option Addr} {ka5 kb5 kc5 kd5 ke5 : Option Value}
    {T5 : Addr} {to5 : Value} {td5 : Option Addr} {tn5 : Nat} {ts5 : Array (Option Value)}
    {fI5 : Addr} {odI5 anI5 : Option Addr} {slI5 : Array (Option Value)} {ocI5 kVI5 dcI5 pmI5 cdI5 ctI5 : Value}
    {C6 N6 : Addr} {nm6 q6 : Str} {bs6 : List Value} {sn6 : List Str} {sb6 : List Value} {ab6 : Bool} {co6 : Option Bool} {dd6 : Option Addr} {ka6 kb6 kc6 kd6 ke6 : Option Value}
    {T6 : Addr} {to6 : Value} {td6 : Option Addr} {tn6 : Nat} {ts6 : Array (Option Value)}
    {fI6 : Addr} {odI6 anI6 : Option Addr} {slI6 : Array (Option Value)} {ocI6 kVI6 dcI6 pmI6 cdI6 ctI6 : Value}
    {C7 N7 : Addr} {nm7 q7 : Str} {bs7 : List Value} {sn7 : List Str} {sb7 : List Value} {ab7 : Bool} {co7 : Option Bool} {dd7 : Option Addr} {ka7 kb7 kc7 kd7 ke7 : Option Value}
    {T7 : Addr} {to7 : Value} {td7 : Option Addr} {tn7 : Nat} {ts7 : Array (Option Value)}
    {fI7 : Addr} {odI7 anI7 : Option Addr} {slI7 : Array (Option Value)} {ocI7 kVI7 dcI7 pmI7 cdI7 ctI7 : Value}
    {C8 N8 : Addr} {nm8 q8 : Str} {bs8 : List Value} {sn8 : List Str} {sb8 : List Value} {ab8 : Bool} {co8 : Option Bool} {dd8 : Option Addr} {ka8 kb8 kc8 kd8 ke8 : Option Value}
    {T8 : Addr} {to8 : Value} {td8 : Option Addr} {tn8 : Nat} {ts8 : Array (Option Value)}
    {fI8 : Addr} {odI8 anI8 : Option Addr} {slI8 : Array (Option Value)} {ocI8 kVI8 dcI8 pmI8 cdI8 ctI8 : Value}
    {C9 N9 : Addr} {nm9 q9 : Str} {bs9 : List Value} {sn9 : List Str} {sb9 : List Value} {ab9 : Bool} {co9 : Option Bool} {dd9 : Option Addr} {ka9 kb9 kc9 kd9 ke9 : Option Value}
    {T9 : Addr} {to9 : Value} {td9 : Option Addr} {tn9 : Nat} {ts9 : Array (Option Value)}
    {fI9 : Addr} {odI9 anI9 : Option Addr} {slI9 : Array (Option Value)} {ocI9 kVI9 dcI9 pmI9 cdI9 ctI9 : Value}
    {C10 N10 : Addr} {nm10 q10 : Str} {bs10 : List Value} {sn10 : List Str} {sb10 : List Value} {ab10 : Bool} {co10 : Option Bool} {dd10 : Option Addr} {ka10 kb10 kc10 kd10 ke10 : Option Value}
    {T10 : Addr} {to10 : Value} {td10 : Option Addr} {tn10 : Nat} {ts10 : Array (Option Value)}
    {fI10 : Addr} {odI10 anI10 : Option Addr} {slI10 : Array (Option Value)} {ocI10 kVI10 dcI10 pmI10 cdI10 ctI10 : Value}
    {C11 N11 : Addr} {nm11 q11 : Str} {bs11 : List Value} {sn11 : List Str} {sb11 : List Value} {ab11 : Bool} {co11 : Option Bool} {dd11 : Option Addr} {ka11 kb11 kc11 kd11 ke11 : Option Value}
    {fCe : Addr} {odCe anCe : Option Addr} {slCe : Array (Option Value)} {ocCe kVCe dcCe pmCe cdCe ctCe : Value}
    {fHa : Addr} {odHa anHa : Option Addr} {slHa : Array (Option Value)} {ocHa kVHa dcHa pmHa cdHa ctHa : Value}
    {fGe : Addr} {odGe anGe : Option Addr} {slGe : Array (Option Value)} {ocGe kVGe dcGe pmGe cdGe ctGe : Value}
    {fRa : Addr} {odRa anRa : Option Addr} {slRa : Array (Option Value)} {ocRa kVRa dcRa pmRa cdRa ctRa : Value}
    {fKi : Addr} {odKi anKi : Option Addr} {slKi : Array (Option Value)} {ocKi kVKi dcKi pmKi cdKi ctKi : Value}
    {fRi : Addr} {odRi anRi : Option Addr} {slRi : Array (Option Value)} {ocRi kVRi dcRi pmRi cdRi ctRi : Value}
    {fPl : Addr} {odPl anPl : Option Addr} {slPl : Array (Option Value)} {ocPl kVPl dcPl pmPl cdPl ctPl : Value}
    {fNa : Addr} {odNa anNa : Option Addr} {slNa : Array (Option Value)} {ocNa kVNa dcNa pmNa cdNa ctNa : Value}
    {fUn : Addr} {odUn anUn : Option Addr} {slUn : Array (Option Value)} {ocUn kVUn dcUn pmUn cdUn ctUn : Value}
    {fLa : Addr} {odLa anLa : Option Addr} {slLa : Array (Option Value)} {ocLa kVLa dcLa pmLa cdLa ctLa : Value}
    (aCH : PySem.W.nsIn K mainGlobals "HushError" = some (some (.ref CH)))
    (xLH : K.lookup CH = some (excClassObj nmH qH CH NH bsH [.type "ValueError", .type "Exception", .type "BaseException", .type "object"] true snH sbH abH coH ddH kaH kbH kcH kdH keH "ValueError.__new__"))
    (gaH : PySem.W.findIn K (.ref CH) "__getattribute__" = some (some (.builtin "BaseException.__getattribute__")))
    (ggH : PySem.W.findIn K (.ref CH) "__getattr__" = some none)
    (haH : PySem.W.findIn K (.ref CH) "__class__" = some (some (.builtin "object.__class__")))
    (kCH : PySem.W.keepIn K (.ref CH) = true)
    (exH : PySem.W.subIn K (.ref CH) (.type "BaseException") = some true)
    (tyH : PySem.W.typeIn K (.ref CH) = some (.type "type"))
    (hdH : PySem.W.hasDictIn K CH = true)
    (icH : PySem.W.isClsIn K CH = true)
    (aC0 : PySem.W.nsIn K mainGlobals "InvalidList" = some (some (.ref C0)))
    (xL0 : K.lookup C0 = some (excClassObj nm0 q0 C0 N0 bs0 [.ref CH, .type "ValueError", .type "Exception", .type "BaseException", .type "object"] true sn0 sb0 ab0 co0 dd0 ka0 kb0 kc0 kd0 ke0 "ValueError.__new__"))
    (ga0 : PySem.W.findIn K (.ref C0) "__getattribute__" = some (some (.builtin "BaseException.__getattribute__")))
    (gg0 : PySem.W.findIn K (.ref C0) "__getattr__" = some none)
    (ha0 : PySem.W.findIn K (.ref C0) "__class__" = some (some (.builtin "object.__class__")))
    (kC0 : PySem.W.keepIn K (.ref C0) = true)
    (ex0 : PySem.W.subIn K (.ref C0) (.type "BaseException") = some true)
    (ty0 : PySem.W.typeIn K (.ref C0) = some (.type "type"))
    (hd0 : PySem.W.hasDictIn K C0 = true)
    (ic0 : PySem.W.isClsIn K C0 = true)
    (sa0 : PySem.W.findIn K (.ref C0) "__setattr__" = some (some (.builtin "object.__setattr__")))
    (iC0 : PySem.W.findIn K (.ref C0) "__init__" = some (some (.ref fI0)))
    (tI0 : PySem.W.typeIn K (.ref fI0) = some (.type "function"))
    (no0 : PySem.W.findIn K (.ref C0) "value" = some none)
    (lI0 : K.lookup fI0 = some ⟨ocI0, odI0, .func (PySem.W.fnOf "__init__" "InvalidList.__init__" (defArgs (inClass (top 2) 0)) (defBody (inClass (top 2) 0)) (defScope (inClass (top 2) 0)) (.ref T0) kVI0 dcI0 pmI0 anI0 cdI0 ctI0), slI0⟩)
    (cI0 : PySem.W.codeIn K cdI0 "InvalidList.__init__" = true)
    (kI0 : PySem.W.keepIn K (.ref fI0) = true)
    (lT0 : K.lookup T0 = some ⟨to0, td0, .seq #[.none] tn0, ts0⟩)
    (aC1 : PySem.W.nsIn K mainGlobals "InvalidItem" = some (some (.ref C1)))
    (xL1 : K.lookup C1 = some (excClassObj nm1 q1 C1 N1 bs1 [.ref CH, .type "ValueError", .type "Exception", .type "BaseException", .type "object"] true sn1 sb1 ab1 co1 dd1 ka1 kb1 kc1 kd1 ke1 "ValueError.__new__"))
    (ga1 : PySem.W.findIn K (.ref C1) "__getattribute__" = some (some (.builtin "BaseException.__getattribute__")))
    (gg1 : PySem.W.findIn K (.ref C1) "__getattr__" = some none)
    (ha1 : PySem.W.findIn K (.ref C1) "__class__" = some (some (.builtin "object.__class__")))
    (kC1 : PySem.W.keepIn K (.ref C1) = true)
    (ex1 : PySem.W.subIn K (.ref C1) (.type "BaseException") = some true)
    (ty1 : PySem.W.typeIn K (.ref C1) = some (.type "type"))
    (hd1 : PySem.W.hasDictIn K C1 = true)
    (ic1 : PySem.W.isClsIn K C1 = true)
    (sa1 : PySem.W.findIn K (.ref C1) "__setattr__" = some (some (.builtin "object.__setattr__")))
    (iC1 : PySem.W.findIn K (.ref C1) "__init__" = some (some (.ref fI1)))
    (tI1 : PySem.W.typeIn K (.ref fI1) = some (.type "function"))
    (no1 : PySem.W.findIn K (.ref C1) "value" = some none)
    (lI1 : K.lookup fI1 = some ⟨ocI1, odI1, .func (PySem.W.fnOf "__init__" "InvalidItem.__init__" (defArgs (inClass (top 3) 0)) (defBody (inClass (top 3) 0)) (defScope (inClass (top 3) 0)) (.ref T1) kVI1 dcI1 pmI1 anI1 cdI1 ctI1), slI1⟩)
    (cI1 : PySem.W.codeIn K cdI1 "InvalidItem.__init__" = true)
    (kI1 : PySem.W.keepIn K (.ref fI1) = true)
    (lT1 : K.lookup T1 = some ⟨to1, td1, .seq #[.none] tn1, ts1⟩)
    (aC2 : PySem.W.nsIn K mainGlobals "InvalidBook" = some (some (.ref C2)))
    (xL2 : K.lookup C2 = some (excClassObj nm2 q2 C2 N2 bs2 [.ref CH, .type "ValueError", .type "Exception", .type "BaseException", .type "object"] true sn2 sb2 ab2 co2 dd2 ka2 kb2 kc2 kd2 ke2 "ValueError.__new__"))
    (ga2 : PySem.W.findIn K (.ref C2) "__getattribute__" = some (some (.builtin "BaseException.__getattribute__")))
    (gg2 : PySem.W.findIn K (.ref C2) "__getattr__" = some none)
    (ha2 : PySem.W.findIn K (.ref C2) "__class__" = some (some (.builtin "object.__class__")))
    (kC2 : PySem.W.keepIn K (.ref C2) = true)
    (ex2 : PySem.W.subIn K (.ref C2) (.type "BaseException") = some true)
    (ty2 : PySem.W.typeIn K (.ref C2) = some (.type "type"))
    (hd2 : PySem.W.hasDictIn K C2 = true)
    (ic2 : PySem.W.isClsIn K C2 = true)
    (sa2 : PySem.W.findIn K (.ref C2) "__setattr__" = some (some (.builtin "object.__setattr__")))
    (iC2 : PySem.W.findIn K (.ref C2) "__init__" = some (some (.ref fI2)))
    (tI2 : PySem.W.typeIn K (.ref fI2) = some (.type "function"))
    (no2 : PySem.W.findIn K (.ref C2) "value" = some none)
    (lI2 : K.lookup fI2 = some ⟨ocI2, odI2, .func (PySem.W.fnOf "__init__" "InvalidBook.__init__" (defArgs (inClass (top 4) 0)) (defBody (inClass (top 4) 0)) (defScope (inClass (top 4) 0)) (.ref T2) kVI2 dcI2 pmI2 anI2 cdI2 ctI2), slI2⟩)
    (cI2 : PySem.W.codeIn K cdI2 "InvalidBook.__init__" = true)
    (kI2 : PySem.W.keepIn K (.ref fI2) = true)
    (lT2 : K.lookup T2 = some ⟨to2, td2, .seq #[.none] tn2, ts2⟩)
    (aC3 : PySem.W.nsIn K mainGlobals "InvalidLot" = some (some (.ref C3)))
    (xL3 : K.lookup C3 = some (excClassObj nm3 q3 C3 N3 bs3 [.ref CH, .type "ValueError", .type "Exception", .type "BaseException", .type "object"] true sn3 sb3 ab3 co3 dd3 ka3 kb3 kc3 kd3 ke3 "ValueError.__new__"))
    (ga3 : PySem.W.findIn K (.ref C3) "__getattribute__" = some (some (.builtin "BaseException.__getattribute__")))
    (gg3 : PySem.W.findIn K (.ref C3) "__getattr__" = some none)
    (ha3 : PySem.W.findIn K (.ref C3) "__class__" = some (some (.builtin "object.__class__")))
    (kC3 : PySem.W.keepIn K (.ref C3) = true)
    (ex3 : PySem.W.subIn K (.ref C3) (.type "BaseException") = some true)
    (ty3 : PySem.W.typeIn K (.ref C3) = some (.type "type"))
    (hd3 : PySem.W.hasDictIn K C3 = true)
    (ic3 : PySem.W.isClsIn K C3 = true)
    (sa3 : PySem.W.findIn K (.ref C3) "__setattr__" = some (some (.builtin "object.__setattr__")))
    (iC3 : PySem.W.findIn K (.ref C3) "__init__" = some (some (.ref fI3)))
    (tI3 : PySem.W.typeIn K (.ref fI3) = some (.type "function"))
    (no3 : PySem.W.findIn K (.ref C3) "value" = some none)
    (lI3 : K.lookup fI3 = some ⟨ocI3, odI3, .func (PySem.W.fnOf "__init__" "InvalidLot.__init__" (defArgs (inClass (top 5) 0)) (defBody (inClass (top 5) 0)) (defScope (inClass (top 5) 0)) (.ref T3) kVI3 dcI3 pmI3 anI3 cdI3 ctI3), slI3⟩)
    (cI3 : PySem.W.codeIn K cdI3 "InvalidLot.__init__" = true)
    (kI3 : PySem.W.keepIn K (.ref fI3) = true)
    (lT3 : K.lookup T3 = some ⟨to3, td3, .seq #[.none] tn3, ts3⟩)
    (aC4 : PySem.W.nsIn K mainGlobals "InvalidRun" = some (some (.ref C4)))
    (xL4 : K.lookup C4 = some (excClassObj nm4 q4 C4 N4 bs4 [.ref CH, .type "ValueError", .type "Exception", .type "BaseException", .type "object"] true sn4 sb4 ab4 co4 dd4 ka4 kb4 kc4 kd4 ke4 "ValueError.__new__"))
    (ga4 : PySem.W.findIn K (.ref C4) "__getattribute__" = some (some (.builtin "BaseException.__getattribute__")))
    (gg4 : PySem.W.findIn K (.ref C4) "__getattr__" = some none)
    (ha4 : PySem.W.findIn K (.ref C4) "__class__" = some (some (.builtin "object.__class__")))
    (kC4 : PySem.W.keepIn K (.ref C4) = true)
    (ex4 : PySem.W.subIn K (.ref C4) (.type "BaseException") = some true)
    (ty4 : PySem.W.typeIn K (.ref C4) = some (.type "type"))
    (hd4 : PySem.W.hasDictIn K C4 = true)
    (ic4 : PySem.W.isClsIn K C4 = true)
    (sa4 : PySem.W.findIn K (.ref C4) "__setattr__" = some (some (.builtin "object.__setattr__")))
    (iC4 : PySem.W.findIn K (.ref C4) "__init__" = some (some (.ref fI4)))
    (tI4 : PySem.W.typeIn K (.ref fI4) = some (.type "function"))
    (no4 : PySem.W.findIn K (.ref C4) "value" = some none)
    (lI4 : K.lookup fI4 = some ⟨ocI4, odI4, .func (PySem.W.fnOf "__init__" "InvalidRun.__init__" (defArgs (inClass (top 6) 0)) (defBody (inClass (top 6) 0)) (defScope (inClass (top 6) 0)) (.ref T4) kVI4 dcI4 pmI4 anI4 cdI4 ctI4), slI4⟩)
    (cI4 : PySem.W.codeIn K cdI4 "InvalidRun.__init__" = true)
    (kI4 : PySem.W.keepIn K (.ref fI4) = true)
    (lT4 : K.lookup T4 = some ⟨to4, td4, .seq #[.none] tn4, ts4⟩)
    (aC5 : PySem.W.nsIn K mainGlobals "InvalidGoal" = some (some (.ref C5)))
    (xL5 : K.lookup C5 = some (excClassObj nm5 q5 C5 N5 bs5 [.ref CH, .type "ValueError", .type "Exception", .type "BaseException", .type "object"] true sn5 sb5 ab5 co5 dd5 ka5 kb5 kc5 kd5 ke5 "ValueError.__new__"))
    (ga5 : PySem.W.findIn K (.ref C5) "__getattribute__" = some (some (.builtin "BaseException.__getattribute__")))
    (gg5 : PySem.W.findIn K (.ref C5) "__getattr__" = some none)
    (ha5 : PySem.W.findIn K (.ref C5) "__class__" = some (some (.builtin "object.__class__")))
    (kC5 : PySem.W.keepIn K (.ref C5) = true)
    (ex5 : PySem.W.subIn K (.ref C5) (.type "BaseException") = some true)
    (ty5 : PySem.W.typeIn K (.ref C5) = some (.type "type"))
    (hd5 : PySem.W.hasDictIn K C5 = true)
    (ic5 : PySem.W.isClsIn K C5 = true)
    (sa5 : PySem.W.findIn K (.ref C5) "__setattr__" = some (some (.builtin "object.__setattr__")))
    (iC5 : PySem.W.findIn K (.ref C5) "__init__" = some (some (.ref fI5)))
    (tI5 : PySem.W.typeIn K (.ref fI5) = some (.type "function"))
    (no5 : PySem.W.findIn K (.ref C5) "value" = some none)
    (lI5 : K.lookup fI5 = some ⟨ocI5, odI5, .func (PySem.W.fnOf "__init__" "InvalidGoal.__init__" (defArgs (inClass (top 7) 0)) (defBody (inClass (top 7) 0)) (defScope (inClass (top 7) 0)) (.ref T5) kVI5 dcI5 pmI5 anI5 cdI5 ctI5), slI5⟩)
    (cI5 : PySem.W.codeIn K cdI5 "InvalidGoal.__init__" = true)
    (kI5 : PySem.W.keepIn K (.ref fI5) = true)
    (lT5 : K.lookup T5 = some ⟨to5, td5, .seq #[.none] tn5, ts5⟩)
    (aC6 : PySem.W.nsIn K mainGlobals "InvalidNumber" = some (some (.ref C6)))
    (xL6 : K.lookup C6 = some (excClassObj nm6 q6 C6 N6 bs6 [.ref CH, .type "ValueError", .type "Exception", .type "BaseException", .type "object"] true sn6 sb6 ab6 co6 dd6 ka6 kb6 kc6 kd6 ke6 "ValueError.__new__"))
    (ga6 : PySem.W.findIn K (.ref C6) "__getattribute__" = some (some (.builtin "BaseException.__getattribute__")))
    (gg6 : PySem.W.findIn K (.ref C6) "__getattr__" = some none)
    (ha6 : PySem.W.findIn K (.ref C6) "__class__" = some (some (.builtin "object.__class__")))
    (kC6 : PySem.W.keepIn K (.ref C6) = true)
    (ex6 : PySem.W.subIn K (.ref C6) (.type "BaseException") = some true)
    (ty6 : PySem.W.typeIn K (.ref C6) = some (.type "type"))
    (hd6 : PySem.W.hasDictIn K C6 = true)
    (ic6 : PySem.W.isClsIn K C6 = true)
    (sa6 : PySem.W.findIn K (.ref C6) "__setattr__" = some (some (.builtin "object.__setattr__")))
    (iC6 : PySem.W.findIn K (.ref C6) "__init__" = some (some (.ref fI6)))
    (tI6 : PySem.W.typeIn K (.ref fI6) = some (.type "function"))
    (no6 : PySem.W.findIn K (.ref C6) "value" = some none)
    (lI6 : K.lookup fI6 = some ⟨ocI6, odI6, .func (PySem.W.fnOf "__init__" "InvalidNumber.__init__" (defArgs (inClass (top 8) 0)) (defBody (inClass (top 8) 0)) (defScope (inClass (top 8) 0)) (.ref T6) kVI6 dcI6 pmI6 anI6 cdI6 ctI6), slI6⟩)
    (cI6 : PySem.W.codeIn K cdI6 "InvalidNumber.__init__" = true)
    (kI6 : PySem.W.keepIn K (.ref fI6) = true)
    (lT6 : K.lookup T6 = some ⟨to6, td6, .seq #[.none] tn6, ts6⟩)
    (aC7 : PySem.W.nsIn K mainGlobals "InvalidText" = some (some (.ref C7)))
    (xL7 : K.lookup C7 = some (excClassObj nm7 q7 C7 N7 bs7 [.ref CH, .type "ValueError", .type "Exception", .type "BaseException", .type "object"] true sn7 sb7 ab7 co7 dd7 ka7 kb7 kc7 kd7 ke7 "ValueError.__new__"))
    (ga7 : PySem.W.findIn K (.ref C7) "__getattribute__" = some (some (.builtin "BaseException.__getattribute__")))
    (gg7 : PySem.W.findIn K (.ref C7) "__getattr__" = some none)
    (ha7 : PySem.W.findIn K (.ref C7) "__class__" = some (some (.builtin "object.__class__")))
    (kC7 : PySem.W.keepIn K (.ref C7) = true)
    (ex7 : PySem.W.subIn K (.ref C7) (.type "BaseException") = some true)
    (ty7 : PySem.W.typeIn K (.ref C7) = some (.type "type"))
    (hd7 : PySem.W.hasDictIn K C7 = true)
    (ic7 : PySem.W.isClsIn K C7 = true)
    (sa7 : PySem.W.findIn K (.ref C7) "__setattr__" = some (some (.builtin "object.__setattr__")))
    (iC7 : PySem.W.findIn K (.ref C7) "__init__" = some (some (.ref fI7)))
    (tI7 : PySem.W.typeIn K (.ref fI7) = some (.type "function"))
    (no7 : PySem.W.findIn K (.ref C7) "value" = some none)
    (lI7 : K.lookup fI7 = some ⟨ocI7, odI7, .func (PySem.W.fnOf "__init__" "InvalidText.__init__" (defArgs (inClass (top 9) 0)) (defBody (inClass (top 9) 0)) (defScope (inClass (top 9) 0)) (.ref T7) kVI7 dcI7 pmI7 anI7 cdI7 ctI7), slI7⟩)
    (cI7 : PySem.W.codeIn K cdI7 "InvalidText.__init__" = true)
    (kI7 : PySem.W.keepIn K (.ref fI7) = true)
    (lT7 : K.lookup T7 = some ⟨to7, td7, .seq #[.none] tn7, ts7⟩)
    (aC8 : PySem.W.nsIn K mainGlobals "InvalidName" = some (some (.ref C8)))
    (xL8 : K.lookup C8 = some (excClassObj nm8 q8 C8 N8 bs8 [.ref CH, .type "ValueError", .type "Exception", .type "BaseException", .type "object"] true sn8 sb8 ab8 co8 dd8 ka8 kb8 kc8 kd8 ke8 "ValueError.__new__"))
    (ga8 : PySem.W.findIn K (.ref C8) "__getattribute__" = some (some (.builtin "BaseException.__getattribute__")))
    (gg8 : PySem.W.findIn K (.ref C8) "__getattr__" = some none)
    (ha8 : PySem.W.findIn K (.ref C8) "__class__" = some (some (.builtin "object.__class__")))
    (kC8 : PySem.W.keepIn K (.ref C8) = true)
    (ex8 : PySem.W.subIn K (.ref C8) (.type "BaseException") = some true)
    (ty8 : PySem.W.typeIn K (.ref C8) = some (.type "type"))
    (hd8 : PySem.W.hasDictIn K C8 = true)
    (ic8 : PySem.W.isClsIn K C8 = true)
    (sa8 : PySem.W.findIn K (.ref C8) "__setattr__" = some (some (.builtin "object.__setattr__")))
    (iC8 : PySem.W.findIn K (.ref C8) "__init__" = some (some (.ref fI8)))
    (tI8 : PySem.W.typeIn K (.ref fI8) = some (.type "function"))
    (no8 : PySem.W.findIn K (.ref C8) "name" = some none)
    (lI8 : K.lookup fI8 = some ⟨ocI8, odI8, .func (PySem.W.fnOf "__init__" "InvalidName.__init__" (defArgs (inClass (top 10) 0)) (defBody (inClass (top 10) 0)) (defScope (inClass (top 10) 0)) (.ref T8) kVI8 dcI8 pmI8 anI8 cdI8 ctI8), slI8⟩)
    (cI8 : PySem.W.codeIn K cdI8 "InvalidName.__init__" = true)
    (kI8 : PySem.W.keepIn K (.ref fI8) = true)
    (lT8 : K.lookup T8 = some ⟨to8, td8, .seq #[.none] tn8, ts8⟩)
    (aC9 : PySem.W.nsIn K mainGlobals "TakenName" = some (some (.ref C9)))
    (xL9 : K.lookup C9 = some (excClassObj nm9 q9 C9 N9 bs9 [.ref CH, .type "ValueError", .type "Exception", .type "BaseException", .type "object"] true sn9 sb9 ab9 co9 dd9 ka9 kb9 kc9 kd9 ke9 "ValueError.__new__"))
    (ga9 : PySem.W.findIn K (.ref C9) "__getattribute__" = some (some (.builtin "BaseException.__getattribute__")))
    (gg9 : PySem.W.findIn K (.ref C9) "__getattr__" = some none)
    (ha9 : PySem.W.findIn K (.ref C9) "__class__" = some (some (.builtin "object.__class__")))
    (kC9 : PySem.W.keepIn K (.ref C9) = true)
    (ex9 : PySem.W.subIn K (.ref C9) (.type "BaseException") = some true)
    (ty9 : PySem.W.typeIn K (.ref C9) = some (.type "type"))
    (hd9 : PySem.W.hasDictIn K C9 = true)
    (ic9 : PySem.W.isClsIn K C9 = true)
    (sa9 : PySem.W.findIn K (.ref C9) "__setattr__" = some (some (.builtin "object.__setattr__")))
    (iC9 : PySem.W.findIn K (.ref C9) "__init__" = some (some (.ref fI9)))
    (tI9 : PySem.W.typeIn K (.ref fI9) = some (.type "function"))
    (no9 : PySem.W.findIn K (.ref C9) "name" = some none)
    (lI9 : K.lookup fI9 = some ⟨ocI9, odI9, .func (PySem.W.fnOf "__init__" "TakenName.__init__" (defArgs (inClass (top 11) 0)) (defBody (inClass (top 11) 0)) (defScope (inClass (top 11) 0)) (.ref T9) kVI9 dcI9 pmI9 anI9 cdI9 ctI9), slI9⟩)
    (cI9 : PySem.W.codeIn K cdI9 "TakenName.__init__" = true)
    (kI9 : PySem.W.keepIn K (.ref fI9) = true)
    (lT9 : K.lookup T9 = some ⟨to9, td9, .seq #[.none] tn9, ts9⟩)
    (aC10 : PySem.W.nsIn K mainGlobals "UnknownName" = some (some (.ref C10)))
    (xL10 : K.lookup C10 = some (excClassObj nm10 q10 C10 N10 bs10 [.ref CH, .type "ValueError", .type "Exception", .type "BaseException", .type "object"] true sn10 sb10 ab10 co10 dd10 ka10 kb10 kc10 kd10 ke10 "ValueError.__new__"))
    (ga10 : PySem.W.findIn K (.ref C10) "__getattribute__" = some (some (.builtin "BaseException.__getattribute__")))
    (gg10 : PySem.W.findIn K (.ref C10) "__getattr__" = some none)
    (ha10 : PySem.W.findIn K (.ref C10) "__class__" = some (some (.builtin "object.__class__")))
    (kC10 : PySem.W.keepIn K (.ref C10) = true)
    (ex10 : PySem.W.subIn K (.ref C10) (.type "BaseException") = some true)
    (ty10 : PySem.W.typeIn K (.ref C10) = some (.type "type"))
    (hd10 : PySem.W.hasDictIn K C10 = true)
    (ic10 : PySem.W.isClsIn K C10 = true)
    (sa10 : PySem.W.findIn K (.ref C10) "__setattr__" = some (some (.builtin "object.__setattr__")))
    (iC10 : PySem.W.findIn K (.ref C10) "__init__" = some (some (.ref fI10)))
    (tI10 : PySem.W.typeIn K (.ref fI10) = some (.type "function"))
    (no10 : PySem.W.findIn K (.ref C10) "name" = some none)
    (lI10 : K.lookup fI10 = some ⟨ocI10, odI10, .func (PySem.W.fnOf "__init__" "UnknownName.__init__" (defArgs (inClass (top 12) 0)) (defBody (inClass (top 12) 0)) (defScope (inClass (top 12) 0)) (.ref T10) kVI10 dcI10 pmI10 anI10 cdI10 ctI10), slI10⟩)
    (cI10 : PySem.W.codeIn K cdI10 "UnknownName.__init__" = true)
    (kI10 : PySem.W.keepIn K (.ref fI10) = true)
    (lT10 : K.lookup T10 = some ⟨to10, td10, .seq #[.none] tn10, ts10⟩)
    (aC11 : PySem.W.nsIn K mainGlobals "NothingToUndo" = some (some (.ref C11)))
    (xL11 : K.lookup C11 = some (excClassObj nm11 q11 C11 N11 bs11 [.ref CH, .type "ValueError", .type "Exception", .type "BaseException", .type "object"] true sn11 sb11 ab11 co11 dd11 ka11 kb11 kc11 kd11 ke11 "ValueError.__new__"))
    (ga11 : PySem.W.findIn K (.ref C11) "__getattribute__" = some (some (.builtin "BaseException.__getattribute__")))
    (gg11 : PySem.W.findIn K (.ref C11) "__getattr__" = some none)
    (ha11 : PySem.W.findIn K (.ref C11) "__class__" = some (some (.builtin "object.__class__")))
    (kC11 : PySem.W.keepIn K (.ref C11) = true)
    (ex11 : PySem.W.subIn K (.ref C11) (.type "BaseException") = some true)
    (ty11 : PySem.W.typeIn K (.ref C11) = some (.type "type"))
    (hd11 : PySem.W.hasDictIn K C11 = true)
    (ic11 : PySem.W.isClsIn K C11 = true)
    (xN : PySem.W.excIn K C11 [.type "ValueError", .type "Exception", .type "BaseException", .type "object"] "ValueError.__new__" = true)
    (xH : PySem.W.excIn K CH [.type "ValueError", .type "Exception", .type "BaseException", .type "object"] "ValueError.__new__" = true)
    (hn : PySem.W.specialIn K (.builtin "object.__class__") "__get__" = some (some (.builtin "getset_descriptor.__get__")))
    (ht : PySem.W.takesIn K (.builtin "object.__class__") = some true)
    (aCe : PySem.W.nsIn K mainGlobals "_law_cell" = some (some (.ref fCe)))
    (lCe : K.lookup fCe = some ⟨ocCe, odCe, .func (PySem.W.fnOf "_law_cell" "_law_cell" (defArgs sCell) (defBody sCell) (defScope sCell) .none kVCe dcCe pmCe anCe cdCe ctCe), slCe⟩)
    (cCe : PySem.W.codeIn K cdCe "_law_cell" = true)
    (kCe : PySem.W.keepIn K (.ref fCe) = true)
    (aHa : PySem.W.nsIn K mainGlobals "_law_hash" = some (some (.ref fHa)))
    (lHa : K.lookup fHa = some ⟨ocHa, odHa, .func (PySem.W.fnOf "_law_hash" "_law_hash" (defArgs sHash) (defBody sHash) (defScope sHash) .none kVHa dcHa pmHa anHa cdHa ctHa), slHa⟩)
    (cHa : PySem.W.codeIn K cdHa "_law_hash" = true)
    (kHa : PySem.W.keepIn K (.ref fHa) = true)
    (aGe : PySem.W.nsIn K mainGlobals "_law_generator" = some (some (.ref fGe)))
    (lGe : K.lookup fGe = some ⟨ocGe, odGe, .func (PySem.W.fnOf "_law_generator" "_law_generator" (defArgs sGen) (defBody sGen) (defScope sGen) .none kVGe dcGe pmGe anGe cdGe ctGe), slGe⟩)
    (cGe : PySem.W.codeIn K cdGe "_law_generator" = true)
    (kGe : PySem.W.keepIn K (.ref fGe) = true)
    (aRa : PySem.W.nsIn K mainGlobals "_law_random" = some (some (.ref fRa)))
    (lRa : K.lookup fRa = some ⟨ocRa, odRa, .func (PySem.W.fnOf "_law_random" "_law_random" (defArgs sRand) (defBody sRand) (defScope sRand) .none kVRa dcRa pmRa anRa cdRa ctRa), slRa⟩)
    (cRa : PySem.W.codeIn K cdRa "_law_random" = true)
    (kRa : PySem.W.keepIn K (.ref fRa) = true)
    (aKi : PySem.W.nsIn K mainGlobals "_law_kinds" = some (some (.ref fKi)))
    (lKi : K.lookup fKi = some ⟨ocKi, odKi, .func (PySem.W.fnOf "_law_kinds" "_law_kinds" (defArgs sKinds) (defBody sKinds) (defScope sKinds) .none kVKi dcKi pmKi anKi cdKi ctKi), slKi⟩)
    (cKi : PySem.W.codeIn K cdKi "_law_kinds" = true)
    (kKi : PySem.W.keepIn K (.ref fKi) = true)
    (aRi : PySem.W.nsIn K mainGlobals "_law_right" = some (some (.ref fRi)))
    (lRi : K.lookup fRi = some ⟨ocRi, odRi, .func (PySem.W.fnOf "_law_right" "_law_right" (defArgs sRight) (defBody sRight) (defScope sRight) .none kVRi dcRi pmRi anRi cdRi ctRi), slRi⟩)
    (cRi : PySem.W.codeIn K cdRi "_law_right" = true)
    (kRi : PySem.W.keepIn K (.ref fRi) = true)
    (aPl : PySem.W.nsIn K mainGlobals "_law_placed" = some (some (.ref fPl)))
    (lPl : K.lookup fPl = some ⟨ocPl, odPl, .func (PySem.W.fnOf "_law_placed" "_law_placed" (defArgs sPlaced) (defBody sPlaced) (defScope sPlaced) .none kVPl dcPl pmPl anPl cdPl ctPl), slPl⟩)
    (cPl : PySem.W.codeIn K cdPl "_law_placed" = true)
    (kPl : PySem.W.keepIn K (.ref fPl) = true)
    (aNa : PySem.W.nsIn K mainGlobals "_law_named" = some (some (.ref fNa)))
    (lNa : K.lookup fNa = some ⟨ocNa, odNa, .func (PySem.W.fnOf "_law_named" "_law_named" (defArgs sNamed) (defBody sNamed) (defScope sNamed) .none kVNa dcNa pmNa anNa cdNa ctNa), slNa⟩)
    (cNa : PySem.W.codeIn K cdNa "_law_named" = true)
    (kNa : PySem.W.keepIn K (.ref fNa) = true)
    (aUn : PySem.W.nsIn K mainGlobals "_law_unset" = some (some (.ref fUn)))
    (lUn : K.lookup fUn = some ⟨ocUn, odUn, .func (PySem.W.fnOf "_law_unset" "_law_unset" (defArgs sUnset) (defBody sUnset) (defScope sUnset) .none kVUn dcUn pmUn anUn cdUn ctUn), slUn⟩)
    (cUn : PySem.W.codeIn K cdUn "_law_unset" = true)
    (kUn : PySem.W.keepIn K (.ref fUn) = true)
    (aLa : PySem.W.nsIn K mainGlobals "law" = some (some (.ref fLa)))
    (lLa : K.lookup fLa = some ⟨ocLa, odLa, .func (PySem.W.fnOf "law" "law" (defArgs sLaw) (defBody sLaw) (defScope sLaw) .none kVLa dcLa pmLa anLa cdLa ctLa), slLa⟩)
    (cLa : PySem.W.codeIn K cdLa "law" = true)
    (kLa : PySem.W.keepIn K (.ref fLa) = true)
    (z_len : PySem.W.nsIn K mainGlobals "len" = some none)
    (z_int : PySem.W.nsIn K mainGlobals "int" = some none)
    (z_max : PySem.W.nsIn K mainGlobals "max" = some none)
    (z_range : PySem.W.nsIn K mainGlobals "range" = some none)
    (z_isinstance : PySem.W.nsIn K mainGlobals "isinstance" = some none)
    (z_repr : PySem.W.nsIn K mainGlobals "repr" = some none)
    (z_list : PySem.W.nsIn K mainGlobals "list" = some none)
    (z_dict : PySem.W.nsIn K mainGlobals "dict" = some none)
    (z_ValueError : PySem.W.nsIn K mainGlobals "ValueError" = some none)
    (nd : [CH, C0, C1, C2, C3, C4, C5, C6, C7, C8, C9, C10, C11].Nodup)
    : ∃ fd : FuncData, (∀ (s : Shared) (v : Value), BindsTo s fd ⟨[v], []⟩ [("_law_script", v)]) ∧ ∀ base : Heap, K.In base → base.Ns mainGlobals mg → FnG l.prog w K mg base 4 fa fd ["_law_script"] (spLaw K) := by
  have e := hfa.symm.trans (PySem.W.mg_of X G aLa)
  cases e
  have O0 : Own K C0 fI0 := ⟨⟨⟨_, _, _, _, _, _, _, _, _, _, _, _, _, _, _, xL0, by show PySem.HandSPX.refsVE PySem.HandSPX.veTail = true; decide +kernel⟩, sa0, ex0, ty0, kC0⟩, iC0, tI0⟩
  have FD0 : FunD K "__init__" "InvalidList.__init__" (defArgs (inClass (top 2) 0)) (defBody (inClass (top 2) 0)) (defScope (inClass (top 2) 0)) [V.non] [] fI0 _ := ⟨⟨ocI0, odI0, _, kVI0, dcI0, pmI0, anI0, cdI0, ctI0, slI0, rfl, lI0, cI0, .inr ⟨by simp, T0, _, [.none], tn0, rfl, lT0, rfl, .cons rfl .nil⟩, .inl rfl⟩, kI0⟩
  have O1 : Own K C1 fI1 := ⟨⟨⟨_, _, _, _, _, _, _, _, _, _, _, _, _, _, _, xL1, by show PySem.HandSPX.refsVE PySem.HandSPX.veTail = true; decide +kernel⟩, sa1, ex1, ty1, kC1⟩, iC1, tI1⟩
  have FD1 : FunD K "__init__" "InvalidItem.__init__" (defArgs (inClass (top 3) 0)) (defBody (inClass (top 3) 0)) (defScope (inClass (top 3) 0)) [V.non] [] fI1 _ := ⟨⟨ocI1, odI1, _, kVI1, dcI1, pmI1, anI1, cdI1, ctI1, slI1, rfl, lI1, cI1, .inr ⟨by simp, T1, _, [.none], tn1, rfl, lT1, rfl, .cons rfl .nil⟩, .inl rfl⟩, kI1⟩
  have O2 : Own K C2 fI2 := ⟨⟨⟨_, _, _, _, _, _, _, _, _, _, _, _, _, _, _, xL2, by show PySem.HandSPX.refsVE PySem.HandSPX.veTail = true; decide +kernel⟩, sa2, ex2, ty2, kC2⟩, iC2, tI2⟩
  have FD2 : FunD K "__init__" "InvalidBook.__init__" (defArgs (inClass (top 4) 0)) (defBody (inClass (top 4) 0)) (defScope (inClass (top 4) 0)) [V.non] [] fI2 _ := ⟨⟨ocI2, odI2, _, kVI2, dcI2, pmI2, anI2, cdI2, ctI2, slI2, rfl, lI2, cI2, .inr ⟨by simp, T2, _, [.none], tn2, rfl, lT2, rfl, .cons rfl .nil⟩, .inl rfl⟩, kI2⟩
  have O3 : Own K C3 fI3 := ⟨⟨⟨_, _, _, _, _, _, _, _, _, _, _, _, _, _, _, xL3, by show PySem.HandSPX.refsVE PySem.HandSPX.veTail = true; decide +kernel⟩, sa3, ex3, ty3, kC3⟩, iC3, tI3⟩
  have FD3 : FunD K "__init__" "InvalidLot.__init__" (defArgs (inClass (top 5) 0)) (defBody (inClass (top 5) 0)) (defScope (inClass (top 5) 0)) [V.non] [] fI3 _ := ⟨⟨ocI3, odI3, _, kVI3, dcI3, pmI3, anI3, cdI3, ctI3, slI3, rfl, lI3, cI3, .inr ⟨by simp, T3, _, [.none], tn3, rfl, lT3, rfl, .cons rfl .nil⟩, .inl rfl⟩, kI3⟩
  have O4 : Own K C4 fI4 := ⟨⟨⟨_, _, _, _, _, _, _, _, _, _, _, _, _, _, _, xL4, by show PySem.HandSPX.refsVE PySem.HandSPX.veTail = true; decide +kernel⟩, sa4, ex4, ty4, kC4⟩, iC4, tI4⟩
  have FD4 : FunD K "__init__" "InvalidRun.__init__" (defArgs (inClass (top 6) 0)) (defBody (inClass (top 6) 0)) (defScope (inClass (top 6) 0)) [V.non] [] fI4 _ := ⟨⟨ocI4, odI4, _, kVI4, dcI4, pmI4, anI4, cdI4, ctI4, slI4, rfl, lI4, cI4, .inr ⟨by simp, T4, _, [.none], tn4, rfl, lT4, rfl, .cons rfl .nil⟩, .inl rfl⟩, kI4⟩
  have O5 : Own K C5 fI5 := ⟨⟨⟨_, _, _, _, _, _, _, _, _, _, _, _, _, _, _, xL5, by show PySem.HandSPX.refsVE PySem.HandSPX.veTail = true; decide +kernel⟩, sa5, ex5, ty5, kC5⟩, iC5, tI5⟩
  have FD5 : FunD K "__init__" "InvalidGoal.__init__" (defArgs (inClass (top 7) 0)) (defBody (inClass (top 7) 0)) (defScope (inClass (top 7) 0)) [V.non] [] fI5 _ := ⟨⟨ocI5, odI5, _, kVI5, dcI5, pmI5, anI5, cdI5, ctI5, slI5, rfl, lI5, cI5, .inr ⟨by simp, T5, _, [.none], tn5, rfl, lT5, rfl, .cons rfl .nil⟩, .inl rfl⟩, kI5⟩
  have O6 : Own K C6 fI6 := ⟨⟨⟨_, _, _, _, _, _, _, _, _, _, _, _, _, _, _, xL6, by show PySem.HandSPX.refsVE PySem.HandSPX.veTail = true; decide +kernel⟩, sa6, ex6, ty6, kC6⟩, iC6, tI6⟩
  have FD6 : FunD K "__init__" "InvalidNumber.__init__" (defArgs (inClass (top 8) 0)) (defBody (inClass (top 8) 0)) (defScope (inClass (top 8) 0)) [V.non] [] fI6 _ := ⟨⟨ocI6, odI6, _, kVI6, dcI6, pmI6, anI6, cdI6, ctI6, slI6, rfl, lI6, cI6, .inr ⟨by simp, T6, _, [.none], tn6, rfl, lT6, rfl, .cons rfl .nil⟩, .inl rfl⟩, kI6⟩
  have O7 : Own K C7 fI7 := ⟨⟨⟨_, _, _, _, _, _, _, _, _, _, _, _, _, _, _, xL7, by show PySem.HandSPX.refsVE PySem.HandSPX.veTail = true; decide +kernel⟩, sa7, ex7, ty7, kC7⟩, iC7, tI7⟩
  have FD7 : FunD K "__init__" "InvalidText.__init__" (defArgs (inClass (top 9) 0)) (defBody (inClass (top 9) 0)) (defScope (inClass (top 9) 0)) [V.non] [] fI7 _ := ⟨⟨ocI7, odI7, _, kVI7, dcI7, pmI7, anI7, cdI7, ctI7, slI7, rfl, lI7, cI7, .inr ⟨by simp, T7, _, [.none], tn7, rfl, lT7, rfl, .cons rfl .nil⟩, .inl rfl⟩, kI7⟩
  have O8 : Own K C8 fI8 := ⟨⟨⟨_, _, _, _, _, _, _, _, _, _, _, _, _, _, _, xL8, by show PySem.HandSPX.refsVE PySem.HandSPX.veTail = true; decide +kernel⟩, sa8, ex8, ty8, kC8⟩, iC8, tI8⟩
  have FD8 : FunD K "__init__" "InvalidName.__init__" (defArgs (inClass (top 10) 0)) (defBody (inClass (top 10) 0)) (defScope (inClass (top 10) 0)) [V.non] [] fI8 _ := ⟨⟨ocI8, odI8, _, kVI8, dcI8, pmI8, anI8, cdI8, ctI8, slI8, rfl, lI8, cI8, .inr ⟨by simp, T8, _, [.none], tn8, rfl, lT8, rfl, .cons rfl .nil⟩, .inl rfl⟩, kI8⟩
  have O9 : Own K C9 fI9 := ⟨⟨⟨_, _, _, _, _, _, _, _, _, _, _, _, _, _, _, xL9, by show PySem.HandSPX.refsVE PySem.HandSPX.veTail = true; decide +kernel⟩, sa9, ex9, ty9, kC9⟩, iC9, tI9⟩
  have FD9 : FunD K "__init__" "TakenName.__init__" (defArgs (inClass (top 11) 0)) (defBody (inClass (top 11) 0)) (defScope (inClass (top 11) 0)) [V.non] [] fI9 _ := ⟨⟨ocI9, odI9, _, kVI9, dcI9, pmI9, anI9, cdI9, ctI9, slI9, rfl, lI9, cI9, .inr ⟨by simp, T9, _, [.none], tn9, rfl, lT9, rfl, .cons rfl .nil⟩, .inl rfl⟩, kI9⟩
  have O10 : Own K C10 fI10 := ⟨⟨⟨_, _, _, _, _, _, _, _, _, _, _, _, _, _, _, xL10, by show PySem.HandSPX.refsVE PySem.HandSPX.veTail = true; decide +kernel⟩, sa10, ex10, ty10, kC10⟩, iC10, tI10⟩
  have FD10 : FunD K "__init__" "UnknownName.__init__" (defArgs (inClass (top 12) 0)) (defBody (inClass (top 12) 0)) (defScope (inClass (top 12) 0)) [V.non] [] fI10 _ := ⟨⟨ocI10, odI10, _, kVI10, dcI10, pmI10, anI10, cdI10, ctI10, slI10, rfl, lI10, cI10, .inr ⟨by simp, T10, _, [.none], tn10, rfl, lT10, rfl, .cons rfl .nil⟩, .inl rfl⟩, kI10⟩
  have ISH : IsC K CH := ⟨icH, ⟨gaH, ggH, exH, hdH⟩, haH, hn, ht, by rw [mro_of xLH]; rfl⟩
  have IS0 : IsC K C0 := ⟨ic0, ⟨ga0, gg0, ex0, hd0⟩, ha0, hn, ht, by rw [mro_of xL0]; rfl⟩
  have IS1 : IsC K C1 := ⟨ic1, ⟨ga1, gg1, ex1, hd1⟩, ha1, hn, ht, by rw [mro_of xL1]; rfl⟩
  have IS2 : IsC K C2 := ⟨ic2, ⟨ga2, gg2, ex2, hd2⟩, ha2, hn, ht, by rw [mro_of xL2]; rfl⟩
  have IS3 : IsC K C3 := ⟨ic3, ⟨ga3, gg3, ex3, hd3⟩, ha3, hn, ht, by rw [mro_of xL3]; rfl⟩
  have IS4 : IsC K C4 := ⟨ic4, ⟨ga4, gg4, ex4, hd4⟩, ha4, hn, ht, by rw [mro_of xL4]; rfl⟩
  have IS5 : IsC K C5 := ⟨ic5, ⟨ga5, gg5, ex5, hd5⟩, ha5, hn, ht, by rw [mro_of xL5]; rfl⟩
  have IS6 : IsC K C6 := ⟨ic6, ⟨ga6, gg6, ex6, hd6⟩, ha6, hn, ht, by rw [mro_of xL6]; rfl⟩
  have IS7 : IsC K C7 := ⟨ic7, ⟨ga7, gg7, ex7, hd7⟩, ha7, hn, ht, by rw [mro_of xL7]; rfl⟩
  have IS8 : IsC K C8 := ⟨ic8, ⟨ga8, gg8, ex8, hd8⟩, ha8, hn, ht, by rw [mro_of xL8]; rfl⟩
  have IS9 : IsC K C9 := ⟨ic9, ⟨ga9, gg9, ex9, hd9⟩, ha9, hn, ht, by rw [mro_of xL9]; rfl⟩
  have IS10 : IsC K C10 := ⟨ic10, ⟨ga10, gg10, ex10, hd10⟩, ha10, hn, ht, by rw [mro_of xL10]; rfl⟩
  have IS11 : IsC K C11 := ⟨ic11, ⟨ga11, gg11, ex11, hd11⟩, ha11, hn, ht, by rw [mro_of xL11]; rfl⟩
  have nd0 := nd
  simp only [List.nodup_cons, List.mem_cons, List.not_mem_nil, not_or, or_false, not_false_eq_true, List.nodup_nil, and_true] at nd0
  have T : Txt K mg (sel C0 C1 C2 C3 C4 C5 C6 C7 C8 C9 C10 C11) (sel fI0 fI1 fI2 fI3 fI4 fI5 fI6 fI7 fI8 fI9 fI10 fI10) CH := by
    refine ⟨fun i hi => ?_, fun i hi => ?_, fun i hi => ?_, fun i hi => ?_, fun i j hi hj => ?_, fun i hi => ?_, fun i hi => ?_, PySem.W.mg_of X G aCH, ISH, kit_of3 (by rw [mro_of xLH]; rfl), xN, xH, kC11, kCH, PySem.W.mg_none_of X G z_ValueError, PySem.W.mg_none_of X G z_isinstance, PySem.W.mg_none_of X G z_repr, PySem.W.mg_none_of X G z_list, PySem.W.mg_none_of X G z_dict, PySem.W.mg_none_of X G z_range⟩
    · exact match i, hi with
      | 0, _ => PySem.W.mg_of X G aC0
      | 1, _ => PySem.W.mg_of X G aC1
      | 2, _ => PySem.W.mg_of X G aC2
      | 3, _ => PySem.W.mg_of X G aC3
      | 4, _ => PySem.W.mg_of X G aC4
      | 5, _ => PySem.W.mg_of X G aC5
      | 6, _ => PySem.W.mg_of X G aC6
      | 7, _ => PySem.W.mg_of X G aC7
      | 8, _ => PySem.W.mg_of X G aC8
      | 9, _ => PySem.W.mg_of X G aC9
      | 10, _ => PySem.W.mg_of X G aC10
      | 11, _ => PySem.W.mg_of X G aC11
      | n + 12, h => by omega
    · exact match i, hi with
      | 0, _ => O0
      | 1, _ => O1
      | 2, _ => O2
      | 3, _ => O3
      | 4, _ => O4
      | 5, _ => O5
      | 6, _ => O6
      | 7, _ => O7
      | 8, _ => O8
      | 9, _ => O9
      | 10, _ => O10
      | n + 11, h => by omega
    · exact match i, hi with
      | 0, _ => IS0
      | 1, _ => IS1
      | 2, _ => IS2
      | 3, _ => IS3
      | 4, _ => IS4
      | 5, _ => IS5
      | 6, _ => IS6
      | 7, _ => IS7
      | 8, _ => IS8
      | 9, _ => IS9
      | 10, _ => IS10
      | 11, _ => IS11
      | n + 12, h => by omega
    · exact match i, hi with
      | 0, _ => no0
      | 1, _ => no1
      | 2, _ => no2
      | 3, _ => no3
      | 4, _ => no4
      | 5, _ => no5
      | 6, _ => no6
      | 7, _ => no7
      | 8, _ => no8
      | 9, _ => no9
      | 10, _ => no10
      | n + 11, h => by omega
    · have inj : ∀ i j, i < 12 → j < 12 → sel C0 C1 C2 C3 C4 C5 C6 C7 C8 C9 C10 C11 i = sel C0 C1 C2 C3 C4 C5 C6 C7 C8 C9 C10 C11 j → i = j := by
        intro i j hi hj e
        have g : ∀ i, i < 12 → [CH, C0, C1, C2, C3, C4, C5, C6, C7, C8, C9, C10, C11][i + 1]? = some (sel C0 C1 C2 C3 C4 C5 C6 C7 C8 C9 C10 C11 i) := fun i hi => match i, hi with
          | 0, _ => rfl
          | 1, _ => rfl
          | 2, _ => rfl
          | 3, _ => rfl
          | 4, _ => rfl
          | 5, _ => rfl
          | 6, _ => rfl
          | 7, _ => rfl
          | 8, _ => rfl
          | 9, _ => rfl
          | 10, _ => rfl
          | 11, _ => rfl
          | n + 12, h => by omega
        have q := ((List.getElem?_inj (by show i + 1 < 13; omega) nd).mp ((g i hi).trans ((congrArg some e).trans (g j hj).symm)))
        omega
      have nH : ∀ j, j < 12 → CH ≠ sel C0 C1 C2 C3 C4 C5 C6 C7 C8 C9 C10 C11 j := by
        intro j hj e
        have g : [CH, C0, C1, C2, C3, C4, C5, C6, C7, C8, C9, C10, C11][j + 1]? = some (sel C0 C1 C2 C3 C4 C5 C6 C7 C8 C9 C10 C11 j) := match j, hj with
          | 0, _ => rfl
          | 1, _ => rfl
          | 2, _ => rfl
          | 3, _ => rfl
          | 4, _ => rfl
          | 5, _ => rfl
          | 6, _ => rfl
          | 7, _ => rfl
          | 8, _ => rfl
          | 9, _ => rfl
          | 10, _ => rfl
          | 11, _ => rfl
          | n + 12, h => by omega
        have q := ((List.getElem?_inj (by show 0 < 13; omega) nd).mp (show [CH, C0, C1, C2, C3, C4, C5, C6, C7, C8, C9, C10, C11][0]? = [CH, C0, C1, C2, C3, C4, C5, C6, C7, C8, C9, C10, C11][j + 1]? from (congrArg some e).trans g.symm))
        omega
      have mr : PySem.W.mroIn K (sel C0 C1 C2 C3 C4 C5 C6 C7 C8 C9 C10 C11 i) (.ref (sel C0 C1 C2 C3 C4 C5 C6 C7 C8 C9 C10 C11 j)) = some ((Value.ref (sel C0 C1 C2 C3 C4 C5 C6 C7 C8 C9 C10 C11 i) :: [.ref CH, .type "ValueError", .type "Exception", .type "BaseException", .type "object"]).contains (.ref (sel C0 C1 C2 C3 C4 C5 C6 C7 C8 C9 C10 C11 j))) := match i, hi with
        | 0, _ => mro_of xL0 _
        | 1, _ => mro_of xL1 _
        | 2, _ => mro_of xL2 _
        | 3, _ => mro_of xL3 _
        | 4, _ => mro_of xL4 _
        | 5, _ => mro_of xL5 _
        | 6, _ => mro_of xL6 _
        | 7, _ => mro_of xL7 _
        | 8, _ => mro_of xL8 _
        | 9, _ => mro_of xL9 _
        | 10, _ => mro_of xL10 _
        | 11, _ => mro_of xL11 _
        | n + 12, h => by omega
      have hb : (Value.ref (sel C0 C1 C2 C3 C4 C5 C6 C7 C8 C9 C10 C11 i) :: [.ref CH, .type "ValueError", .type "Exception", .type "BaseException", .type "object"]).contains (.ref (sel C0 C1 C2 C3 C4 C5 C6 C7 C8 C9 C10 C11 j)) = decide (i = j) := by
        by_cases e : i = j
        · subst e
          simp
        · have n1 : sel C0 C1 C2 C3 C4 C5 C6 C7 C8 C9 C10 C11 j ≠ sel C0 C1 C2 C3 C4 C5 C6 C7 C8 C9 C10 C11 i := fun z => e (inj j i hj hi z).symm
          have n2 := nH j hj
          simp [e, n1, n2.symm]
      rw [hb] at mr
      exact kit_of2 (match j, hj with
        | 0, _ => ic0
        | 1, _ => ic1
        | 2, _ => ic2
        | 3, _ => ic3
        | 4, _ => ic4
        | 5, _ => ic5
        | 6, _ => ic6
        | 7, _ => ic7
        | 8, _ => ic8
        | 9, _ => ic9
        | 10, _ => ic10
        | 11, _ => ic11
        | n + 12, h => by omega) (match j, hj with
        | 0, _ => ty0
        | 1, _ => ty1
        | 2, _ => ty2
        | 3, _ => ty3
        | 4, _ => ty4
        | 5, _ => ty5
        | 6, _ => ty6
        | 7, _ => ty7
        | 8, _ => ty8
        | 9, _ => ty9
        | 10, _ => ty10
        | 11, _ => ty11
        | n + 12, h => by omega) mr (fun e => decide_eq_true (inj i j hi hj e))
    · exact match i, hi with
      | 0, _ => kit_of2 icH tyH ((mro_of xL0 _).trans (by simp)) (fun _ => rfl)
      | 1, _ => kit_of2 icH tyH ((mro_of xL1 _).trans (by simp)) (fun _ => rfl)
      | 2, _ => kit_of2 icH tyH ((mro_of xL2 _).trans (by simp)) (fun _ => rfl)
      | 3, _ => kit_of2 icH tyH ((mro_of xL3 _).trans (by simp)) (fun _ => rfl)
      | 4, _ => kit_of2 icH tyH ((mro_of xL4 _).trans (by simp)) (fun _ => rfl)
      | 5, _ => kit_of2 icH tyH ((mro_of xL5 _).trans (by simp)) (fun _ => rfl)
      | 6, _ => kit_of2 icH tyH ((mro_of xL6 _).trans (by simp)) (fun _ => rfl)
      | 7, _ => kit_of2 icH tyH ((mro_of xL7 _).trans (by simp)) (fun _ => rfl)
      | 8, _ => kit_of2 icH tyH ((mro_of xL8 _).trans (by simp)) (fun _ => rfl)
      | 9, _ => kit_of2 icH tyH ((mro_of xL9 _).trans (by simp)) (fun _ => rfl)
      | 10, _ => kit_of2 icH tyH ((mro_of xL10 _).trans (by simp)) (fun _ => rfl)
      | 11, _ => kit_of2 icH tyH ((mro_of xL11 _).trans (by simp)) (fun _ => rfl)
      | n + 12, h => by omega
    · exact match i, hi with
      | 0, _ => kit_of3 ((mro_of xL0 _).trans rfl)
      | 1, _ => kit_of3 ((mro_of xL1 _).trans rfl)
      | 2, _ => kit_of3 ((mro_of xL2 _).trans rfl)
      | 3, _ => kit_of3 ((mro_of xL3 _).trans rfl)
      | 4, _ => kit_of3 ((mro_of xL4 _).trans rfl)
      | 5, _ => kit_of3 ((mro_of xL5 _).trans rfl)
      | 6, _ => kit_of3 ((mro_of xL6 _).trans rfl)
      | 7, _ => kit_of3 ((mro_of xL7 _).trans rfl)
      | 8, _ => kit_of3 ((mro_of xL8 _).trans rfl)
      | 9, _ => kit_of3 ((mro_of xL9 _).trans rfl)
      | 10, _ => kit_of3 ((mro_of xL10 _).trans rfl)
      | 11, _ => kit_of3 ((mro_of xL11 _).trans rfl)
      | n + 12, h => by omega
  have FCe := fun_mk (st := sCell) lCe cCe kCe
  have bCe := FCe.binds (ps := ["_law_script", "_law_index"]) fun _ _ _ _ _ _ us hl => match us, hl with | [_, _], _ => rfl
  have FHa := fun_mk (st := sHash) lHa cHa kHa
  have bHa := FHa.binds (ps := ["_law_seed", "_law_index"]) fun _ _ _ _ _ _ us hl => match us, hl with | [_, _], _ => rfl
  have FGe := fun_mk (st := sGen) lGe cGe kGe
  have bGe := FGe.binds (ps := ["_law_script", "_law_index"]) fun _ _ _ _ _ _ us hl => match us, hl with | [_, _], _ => rfl
  have FRa := fun_mk (st := sRand) lRa cRa kRa
  have bRa := FRa.binds (ps := ["_law_generator_here", "_law_bound"]) fun _ _ _ _ _ _ us hl => match us, hl with | [_, _], _ => rfl
  have FKi := fun_mk (st := sKinds) lKi cKi kKi
  have bKi := FKi.binds (ps := ["_law_error"]) fun _ _ _ _ _ _ us hl => match us, hl with | [_], _ => rfl
  have FRi := fun_mk (st := sRight) lRi cRi kRi
  have bRi := FRi.binds (ps := ["_law_errors", "_law_given"]) fun _ _ _ _ _ _ us hl => match us, hl with | [_, _], _ => rfl
  have FPl := fun_mk (st := sPlaced) lPl cPl kPl
  have bPl := FPl.binds (ps := ["_law_given"]) fun _ _ _ _ _ _ us hl => match us, hl with | [_], _ => rfl
  have FNa := fun_mk (st := sNamed) lNa cNa kNa
  have bNa := FNa.binds (ps := ["_law_given"]) fun _ _ _ _ _ _ us hl => match us, hl with | [_], _ => rfl
  have FUn := fun_mk (st := sUnset) lUn cUn kUn
  have bUn := FUn.binds (ps := []) fun _ _ _ _ _ _ us hl => match us, hl with | [], _ => rfl
  have FLa := fun_mk (st := sLaw) lLa cLa kLa
  have TG : GTxt mg K fCe fHa fGe fRa := ⟨PySem.W.mg_none_of X G z_len, PySem.W.mg_none_of X G z_int, PySem.W.mg_none_of X G z_max, PySem.W.mg_none_of X G z_range, PySem.W.mg_of X G aCe, PySem.W.mg_of X G aHa, PySem.W.mg_of X G aGe, PySem.W.mg_of X G aRa, kCe, kHa, kGe, kRa⟩
  refine ⟨PySem.W.fnOf "law" "law" (defArgs sLaw) (defBody sLaw) (defScope sLaw) .none kVLa dcLa pmLa anLa cdLa ctLa, fun s v => .of_eq rfl, fun base _ _ => ?_⟩
  have GI : ∀ i, i < 11 → FnOk l.prog w K mg base CX0 1 ((sel fI0 fI1 fI2 fI3 fI4 fI5 fI6 fI7 fI8 fI9 fI10 fI10) i) ((selF _ _ _ _ _ _ _ _ _ _ _) i) ["self", fname i] (spInitE ((sel C0 C1 C2 C3 C4 C5 C6 C7 C8 C9 C10 C11) i) (fname i)) := fun i hi => match i, hi with
    | 0, _ => ok_init0 FD0 O0 no0
    | 1, _ => ok_init1 FD1 O1 no1
    | 2, _ => ok_init2 FD2 O2 no2
    | 3, _ => ok_init3 FD3 O3 no3
    | 4, _ => ok_init4 FD4 O4 no4
    | 5, _ => ok_init5 FD5 O5 no5
    | 6, _ => ok_init6 FD6 O6 no6
    | 7, _ => ok_init7 FD7 O7 no7
    | 8, _ => ok_init8 FD8 O8 no8
    | 9, _ => ok_init9 FD9 O9 no9
    | 10, _ => ok_init10 FD10 O10 no10
    | n + 11, h => by omega
  have BI : ∀ i, i < 11 → Bi K ((selF _ _ _ _ _ _ _ _ _ _ _) i) (fname i) := fun i hi => match i, hi with
    | 0, _ => bi0 FD0
    | 1, _ => bi1 FD1
    | 2, _ => bi2 FD2
    | 3, _ => bi3 FD3
    | 4, _ => bi4 FD4
    | 5, _ => bi5 FD5
    | 6, _ => bi6 FD6
    | 7, _ => bi7 FD7
    | 8, _ => bi8 FD8
    | 9, _ => bi9 FD9
    | 10, _ => bi10 FD10
    | n + 11, h => by omega
  have GKi := ok_kinds (P := l.prog) (w := w) (base := base) FKi T
  exact ok_law FLa T TG (ok_rand FRa TG FHa bHa) bRa (ok_gen FGe TG FCe bCe) bGe GKi (PySem.W.mg_of X G aKi) kKi bKi (ok_right FRi T GKi (PySem.W.mg_of X G aKi) kKi bKi) (PySem.W.mg_of X G aRi) kRi bRi
    (ok_placed FPl T GI BI) (PySem.W.mg_of X G aPl) kPl bPl (ok_named FNa T GI BI) (PySem.W.mg_of X G aNa) kNa bNa (ok_unset FUn T GI BI) (PySem.W.mg_of X G aUn) kUn bUn
end Fi
open PySem PySem.W PyProof.Rows
set_option maxRecDepth 100000 in
set_option maxHeartbeats 0 in
theorem PySem.Challenge.cw_hushedasks_k01_errors_holds : PySem.Challenge.rw_hushedasks_k01_errors.Holds := by
  w_on; o_law; k_head; (case hw => w_witness2)
  k_fill
  refine Gu.walkG (l := PySem.Challenge.rw_hushedasks_k01_errors) (n := 63) (k := 4) (x := "_law_script") (sp := Lw.spLaw) rfl (by decide) rfl ⟨rfl, by decide, by decide⟩ (fun w h Y => PySem.W.kIn_of Y) ?F ?S
  case F =>
    intro w mg fa h KX G hmg
    refine' Fi.all_mk KX G hmg ?aCH ?xLH ?gaH ?ggH ?haH ?kCH ?exH ?tyH ?hdH ?icH ?aC0 ?xL0 ?ga0 ?gg0 ?ha0 ?kC0 ?ex0 ?ty0 ?hd0 ?ic0 ?sa0 ?iC0 ?tI0 ?no0 ?lI0 ?cI0 ?kI0 ?lT0 ?aC1 ?xL1 ?ga1 ?gg1 ?ha1 ?kC1 ?ex1 ?ty1 ?hd1 ?ic1 ?sa1 ?iC1 ?tI1 ?no1 ?lI1 ?cI1 ?kI1 ?lT1 ?aC2 ?xL2 ?ga2 ?gg2 ?ha2 ?kC2 ?ex2 ?ty2 ?hd2 ?ic2 ?sa2 ?iC2 ?tI2 ?no2 ?lI2 ?cI2 ?kI2 ?lT2 ?aC3 ?xL3 ?ga3 ?gg3 ?ha3 ?kC3 ?ex3 ?ty3 ?hd3 ?ic3 ?sa3 ?iC3 ?tI3 ?no3 ?lI3 ?cI3 ?kI3 ?lT3 ?aC4 ?xL4 ?ga4 ?gg4 ?ha4 ?kC4 ?ex4 ?ty4 ?hd4 ?ic4 ?sa4 ?iC4 ?tI4 ?no4 ?lI4 ?cI4 ?kI4 ?lT4 ?aC5 ?xL5 ?ga5 ?gg5 ?ha5 ?kC5 ?ex5 ?ty5 ?hd5 ?ic5 ?sa5 ?iC5 ?tI5 ?no5 ?lI5 ?cI5 ?kI5 ?lT5 ?aC6 ?xL6 ?ga6 ?gg6 ?ha6 ?kC6 ?ex6 ?ty6 ?hd6 ?ic6 ?sa6 ?iC6 ?tI6 ?no6 ?lI6 ?cI6 ?kI6 ?lT6 ?aC7 ?xL7 ?ga7 ?gg7 ?ha7 ?kC7 ?ex7 ?ty7 ?hd7 ?ic7 ?sa7 ?iC7 ?tI7 ?no7 ?lI7 ?cI7 ?kI7 ?lT7 ?aC8 ?xL8 ?ga8 ?gg8 ?ha8 ?kC8 ?ex8 ?ty8 ?hd8 ?ic8 ?sa8 ?iC8 ?tI8 ?no8 ?lI8 ?cI8 ?kI8 ?lT8 ?aC9 ?xL9 ?ga9 ?gg9 ?ha9 ?kC9 ?ex9 ?ty9 ?hd9 ?ic9 ?sa9 ?iC9 ?tI9 ?no9 ?lI9 ?cI9 ?kI9 ?lT9 ?aC10 ?xL10 ?ga10 ?gg10 ?ha10 ?kC10 ?ex10 ?ty10 ?hd10 ?ic10 ?sa10 ?iC10 ?tI10 ?no10 ?lI10 ?cI10 ?kI10 ?lT10 ?aC11 ?xL11 ?ga11 ?gg11 ?ha11 ?kC11 ?ex11 ?ty11 ?hd11 ?ic11 ?xN ?xH ?hn ?ht ?aCe ?lCe ?cCe ?kCe ?aHa ?lHa ?cHa ?kHa ?aGe ?lGe ?cGe ?kGe ?aRa ?lRa ?cRa ?kRa ?aKi ?lKi ?cKi ?kKi ?aRi ?lRi ?cRi ?kRi ?aPl ?lPl ?cPl ?kPl ?aNa ?lNa ?cNa ?kNa ?aUn ?lUn ?cUn ?kUn ?aLa ?lLa ?cLa ?kLa ?z_len ?z_int ?z_max ?z_range ?z_isinstance ?z_repr ?z_list ?z_dict ?z_ValueError ?nd
    (case aCH => k_is)
    (case xLH => k_is)
    (case gaH => k_is)
    (case ggH => k_is)
    (case haH => k_is)
    (case kCH => k_is)
    (case exH => k_is)
    (case tyH => k_is)
    (case hdH => k_is)
    (case icH => k_is)
    (case aC0 => k_is)
    (case xL0 => k_is)
    (case ga0 => k_is)
    (case gg0 => k_is)
    (case ha0 => k_is)
    (case kC0 => k_is)
    (case ex0 => k_is)
    (case ty0 => k_is)
    (case hd0 => k_is)
    (case ic0 => k_is)
    (case sa0 => k_is)
    (case iC0 => k_is)
    (case tI0 => k_is)
    (case no0 => k_is)
    (case lI0 => k_is)
    (case cI0 => k_is)
    (case kI0 => k_is)
    (case lT0 => k_is)
    (case aC1 => k_is)
    (case xL1 => k_is)
    (case ga1 => k_is)
    (case gg1 => k_is)
    (case ha1 => k_is)
    (case kC1 => k_is)
    (case ex1 => k_is)
    (case ty1 => k_is)
    (case hd1 => k_is)
    (case ic1 => k_is)
    (case sa1 => k_is)
    (case iC1 => k_is)
    (case tI1 => k_is)
    (case no1 => k_is)
    (case lI1 => k_is)
    (case cI1 => k_is)
    (case kI1 => k_is)
    (case lT1 => k_is)
    (case aC2 => k_is)
    (case xL2 => k_is)
    (case ga2 => k_is)
    (case gg2 => k_is)
    (case ha2 => k_is)
    (case kC2 => k_is)
    (case ex2 => k_is)
    (case ty2 => k_is)
    (case hd2 => k_is)
    (case ic2 => k_is)
    (case sa2 => k_is)
    (case iC2 => k_is)
    (case tI2 => k_is)
    (case no2 => k_is)
    (case lI2 => k_is)
    (case cI2 => k_is)
    (case kI2 => k_is)
    (case lT2 => k_is)
    (case aC3 => k_is)
    (case xL3 => k_is)
    (case ga3 => k_is)
    (case gg3 => k_is)
    (case ha3 => k_is)
    (case kC3 => k_is)
    (case ex3 => k_is)
    (case ty3 => k_is)
    (case hd3 => k_is)
    (case ic3 => k_is)
    (case sa3 => k_is)
    (case iC3 => k_is)
    (case tI3 => k_is)
    (case no3 => k_is)
    (case lI3 => k_is)
    (case cI3 => k_is)
    (case kI3 => k_is)
    (case lT3 => k_is)
    (case aC4 => k_is)
    (case xL4 => k_is)
    (case ga4 => k_is)
    (case gg4 => k_is)
    (case ha4 => k_is)
    (case kC4 => k_is)
    (case ex4 => k_is)
    (case ty4 => k_is)
    (case hd4 => k_is)
    (case ic4 => k_is)
    (case sa4 => k_is)
    (case iC4 => k_is)
    (case tI4 => k_is)
    (case no4 => k_is)
    (case lI4 => k_is)
    (case cI4 => k_is)
    (case kI4 => k_is)
    (case lT4 => k_is)
    (case aC5 => k_is)
    (case xL5 => k_is)
    (case ga5 => k_is)
    (case gg5 => k_is)
    (case ha5 => k_is)
    (case kC5 => k_is)
    (case ex5 => k_is)
    (case ty5 => k_is)
    (case hd5 => k_is)
    (case ic5 => k_is)
    (case sa5 => k_is)
    (case iC5 => k_is)
    (case tI5 => k_is)
    (case no5 => k_is)
    (case lI5 => k_is)
    (case cI5 => k_is)
    (case kI5 => k_is)
    (case lT5 => k_is)
    (case aC6 => k_is)
    (case xL6 => k_is)
    (case ga6 => k_is)
    (case gg6 => k_is)
    (case ha6 => k_is)
    (case kC6 => k_is)
    (case ex6 => k_is)
    (case ty6 => k_is)
    (case hd6 => k_is)
    (case ic6 => k_is)
    (case sa6 => k_is)
    (case iC6 => k_is)
    (case tI6 => k_is)
    (case no6 => k_is)
    (case lI6 => k_is)
    (case cI6 => k_is)
    (case kI6 => k_is)
    (case lT6 => k_is)
    (case aC7 => k_is)
    (case xL7 => k_is)
    (case ga7 => k_is)
    (case gg7 => k_is)
    (case ha7 => k_is)
    (case kC7 => k_is)
    (case ex7 => k_is)
    (case ty7 => k_is)
    (case hd7 => k_is)
    (case ic7 => k_is)
    (case sa7 => k_is)
    (case iC7 => k_is)
    (case tI7 => k_is)
    (case no7 => k_is)
    (case lI7 => k_is)
    (case cI7 => k_is)
    (case kI7 => k_is)
    (case lT7 => k_is)
    (case aC8 => k_is)
    (case xL8 => k_is)
    (case ga8 => k_is)
    (case gg8 => k_is)
    (case ha8 => k_is)
    (case kC8 => k_is)
    (case ex8 => k_is)
    (case ty8 => k_is)
    (case hd8 => k_is)
    (case ic8 => k_is)
    (case sa8 => k_is)
    (case iC8 => k_is)
    (case tI8 => k_is)
    (case no8 => k_is)
    (case lI8 => k_is)
    (case cI8 => k_is)
    (case kI8 => k_is)
    (case lT8 => k_is)
    (case aC9 => k_is)
    (case xL9 => k_is)
    (case ga9 => k_is)
    (case gg9 => k_is)
    (case ha9 => k_is)
    (case kC9 => k_is)
    (case ex9 => k_is)
    (case ty9 => k_is)
    (case hd9 => k_is)
    (case ic9 => k_is)
    (case sa9 => k_is)
    (case iC9 => k_is)
    (case tI9 => k_is)
    (case no9 => k_is)
    (case lI9 => k_is)
    (case cI9 => k_is)
    (case kI9 => k_is)
    (case lT9 => k_is)
    (case aC10 => k_is)
    (case xL10 => k_is)
    (case ga10 => k_is)
    (case gg10 => k_is)
    (case ha10 => k_is)
    (case kC10 => k_is)
    (case ex10 => k_is)
    (case ty10 => k_is)
    (case hd10 => k_is)
    (case ic10 => k_is)
    (case sa10 => k_is)
    (case iC10 => k_is)
    (case tI10 => k_is)
    (case no10 => k_is)
    (case lI10 => k_is)
    (case cI10 => k_is)
    (case kI10 => k_is)
    (case lT10 => k_is)
    (case aC11 => k_is)
    (case xL11 => k_is)
    (case ga11 => k_is)
    (case gg11 => k_is)
    (case ha11 => k_is)
    (case kC11 => k_is)
    (case ex11 => k_is)
    (case ty11 => k_is)
    (case hd11 => k_is)
    (case ic11 => k_is)
    (case xN => k_exc)
    (case xH => k_exc)
    (case hn => k_is)
    (case ht => k_is)
    (case aCe => k_is)
    (case lCe => k_is)
    (case cCe => k_is)
    (case kCe => k_is)
    (case aHa => k_is)
    (case lHa => k_is)
    (case cHa => k_is)
    (case kHa => k_is)
    (case aGe => k_is)
    (case lGe => k_is)
    (case cGe => k_is)
    (case kGe => k_is)
    (case aRa => k_is)
    (case lRa => k_is)
    (case cRa => k_is)
    (case kRa => k_is)
    (case aKi => k_is)
    (case lKi => k_is)
    (case cKi => k_is)
    (case kKi => k_is)
    (case aRi => k_is)
    (case lRi => k_is)
    (case cRi => k_is)
    (case kRi => k_is)
    (case aPl => k_is)
    (case lPl => k_is)
    (case cPl => k_is)
    (case kPl => k_is)
    (case aNa => k_is)
    (case lNa => k_is)
    (case cNa => k_is)
    (case kNa => k_is)
    (case aUn => k_is)
    (case lUn => k_is)
    (case cUn => k_is)
    (case kUn => k_is)
    (case aLa => k_is)
    (case lLa => k_is)
    (case cLa => k_is)
    (case kLa => k_is)
    (case z_len => k_is)
    (case z_int => k_is)
    (case z_max => k_is)
    (case z_range => k_is)
    (case z_isinstance => k_is)
    (case z_repr => k_is)
    (case z_list => k_is)
    (case z_dict => k_is)
    (case z_ValueError => k_is)
    (case nd => decide)
  case S =>
    intro K H a ns hl hS
    exact ⟨a, ns, rfl, hS, hl, fun _ => rfl⟩
