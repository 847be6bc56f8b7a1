import PyProof.Rows.All
import Wide.All
import OpenK.AllK
import Wide.FinOn
import HandS.ForMost
import HandS.Wide
import HandS.WideBits
import HandS.IsInst
import HandS.ExcInit
import HandS.Defaults
import HandS.ExcValue
import HandS.ExcField
import HandS.MakeKw
import HandS.Evl
import HandS.Style
import HandS.Deep
import HandS.Flow
import HandS.Walk
import HandS.Set
import HandS.SetTxt0
import HandS.SetBool
import HandS.Strs
import PyProof.Rows.SortStr
import HandS.WordsExc
import HandS.OwnEq
import KE.KExcIs
import KE.DataCmp
import KE.DataEq
import KE.DataEq
import KE.KTupSum
import KE.KTupTabMore
import KE.KDictKeyed
import KE.KDictPairs
import HandS.DictComp
import HandS.Zip
import HandS.NoneIn
import HandS.ExcOwn
import PySem.Challenge.RW_hushedasks_k16_lots_behind_runs
set_option Elab.async false
set_option linter.all false
set_option maxRecDepth 100000
namespace Gen
open PySem PySem.Spec PyProof.Rows L2
abbrev VInt (l : List Int) : List V := l.map V.int
def top (i : Nat) : Stmt := PySem.Challenge.pw_hushedasks_k16_lots_behind_runs.main.body.getD i (.Pass ⟨0, 0, 0, 0⟩)
abbrev sCell : Stmt := top 31
abbrev sHash : Stmt := top 32
abbrev sGen : Stmt := top 33
abbrev sRand : Stmt := top 34
/-! ### numbers -/
theorem op_powW {X : Cx} : OpR X (binaryOp .Pow) (rI (fun i j => 0 ≤ j ∧ (Builtin.Int.intBits i : Int) * j ≤ 2 ^ 27) fun i j => .int (i ^ j.toNat)) := opI fun _ _ _ _ _ _ _ hc q => pow_int hc.1 hc.2 q
theorem nab_lt {z : Int} {n : Nat} (h0 : 0 ≤ z) (h : z < ((2 ^ n : Nat) : Int)) : z.natAbs < 2 ^ n := by omega
theorem bits_le {z : Int} {n : Nat} (hn : 0 < n) (h : z.natAbs < 2 ^ n) : Builtin.Int.intBits z ≤ n := by
  unfold Builtin.Int.intBits
  split
  · omega
  · have := PySem.Flt.log2_lt_of hn h
    omega
theorem mod31 {x m : Int} (h0 : 0 < m) (h1 : m ≤ 2147483648) : (x % m).natAbs < 2 ^ 31 := nab_lt (Int.emod_nonneg _ (by omega)) (by have := Int.emod_lt_of_pos x h0; omega)
theorem upd_self {H : Hp} {p : Addr} {o : HO} (h : H p = some o) : upd H p o = H := by
  funext b
  by_cases e : b = p
  · rw [e, upd_same, h]
  · rw [upd_ne e]
/-! ### the promises -/
def spCell (K : PySem.W.Frag) : Sp := fun vs H Q _ => ∃ (a : Addr) (ns : List Int) (i : Nat), vs = [.ref a, .int (i : Int)] ∧ SqL K H a (VInt ns) ∧ ns.length ≤ 63 ∧ ∀ z : Int, Q (.int z) H
def spHash : Sp := fun vs H Q _ => ∃ s i : Int, vs = [.int s, .int i] ∧ 0 ≤ s ∧ s < 2147483647 ∧ 0 ≤ i ∧ i < 1099511627776 ∧ ∀ z : Int, 0 ≤ z → z < 2147483587 → Q (.int z) H
/-- a generator's list: at most n drawn -/
def GenL (n : Int) (g : List V) : Prop := ∃ a b c : Int, g = VInt [a, b, c] ∧ 0 ≤ a ∧ a < 10 ^ 600 ∧ 0 ≤ b ∧ b < 2147483647 ∧ 0 ≤ c ∧ c ≤ n
theorem GenL.mono {n m : Int} {g : List V} (h : GenL n g) (hm : n ≤ m) : GenL m g := by
  obtain ⟨a, b, c, e, h1, h2, h3, h4, h5, h6⟩ := h
  exact ⟨a, b, c, e, h1, h2, h3, h4, h5, by omega⟩
def spGen (K : PySem.W.Frag) : Sp := fun vs H Q _ => ∃ (a : Addr) (ns : List Int) (i : Nat), vs = [.ref a, .int (i : Int)] ∧ SqL K H a (VInt ns) ∧ ns.length ≤ 63 ∧ i ≤ 1000 ∧ ∀ p g, H p = none → GenL (1000 * i) g → Q (.ref p) (upd H p (.lst g))
def spRand : Sp := fun vs H Q _ => ∃ (p : Addr) (b n : Int) (g : List V), vs = [.ref p, .int b] ∧ 1 ≤ b ∧ b < 1152921504606846976 ∧ H p = some (.lst g) ∧ GenL n g ∧ n ≤ 1000000000 ∧
  ∀ (z : Int) (g' : List V), 0 ≤ z → z < b → GenL (n + 3) g' → Q (.int z) (upd H p (.lst g'))
structure GTxt (mg : Str → Option Value) (K : PySem.W.Frag) (fC fH fG fR : Addr) : Prop where
  len : mg "len" = none
  int : mg "int" = none
  max : mg "max" = none
  range : mg "range" = none
  gC : mg "_law_cell" = some (.ref fC)
  gH : mg "_law_hash" = some (.ref fH)
  gG : mg "_law_generator" = some (.ref fG)
  gR : mg "_law_random" = some (.ref fR)
  kC : PySem.W.keepIn K (.ref fC) = true
  kH : PySem.W.keepIn K (.ref fH) = true
  kG : PySem.W.keepIn K (.ref fG) = true
  kR : PySem.W.keepIn K (.ref fR) = true
section
variable {P : Program} {w : World} {K : PySem.W.Frag} {mg : Str → Option Value} {base : Heap} {fC fH fG fR : Addr}
theorem scC : FnScope ["_law_script", "_law_index"] ["_law_script", "_law_index"] (defScope sCell) := ⟨rfl, rfl, rfl, by decide +kernel, rfl, by decide +kernel, by decide +kernel⟩
theorem ok_cell {f : Addr} {fd : FuncData} (F : Fun K "_law_cell" "_law_cell" sCell f fd) (T : GTxt mg K fC fH fG fR) : FnOk P w K mg base CX0 1 f fd ["_law_script", "_law_index"] (spCell K) := by
  refine F.ok scC (fun vs H Q E h => ?_) (fun cdv A outer s H vs Q E hr h => ?_)
  · obtain ⟨a, ns, i, rfl, _⟩ := h
    rfl
  · obtain ⟨a, ns, i, rfl, hS, hl, k⟩ := h
    refine ⟨_, pss_cons (ps_if (pt_cmpR op_lt (pv 1) (pe_callB call_len_seq (by rfl) T.len PySem.boot_len (pa_cons (pv 0) pa_nil)) (nomark _))
      (pss_one (ps_ret (pe_ix ix_list (pv 0) (pv 1) (fun _ _ => rfl)))) pss_nil) (pss_one (ps_ret pe_int)), ?_⟩
    refine ⟨_, rfl, _, rfl, a, _, rfl, .inl hS, _, _, rfl, rfl, _, rfl, ?_⟩
    refine ite2 (fun c => ?_) (fun _ => k 0)
    have c' : i < ns.length := by
      have := of_decide_eq_true c
      rw [List.length_map] at this
      omega
    refine ⟨_, rfl, _, rfl, a, _, _, V.int ns[i], rfl, rfl, hS, atI_nat ?_, k _⟩
    rw [List.getElem?_map, List.getElem?_eq_getElem c']
    rfl

theorem scH : FnScope ["_law_seed", "_law_index", "_law_mixed"] ["_law_seed", "_law_index"] (defScope sHash) := ⟨rfl, rfl, rfl, by decide +kernel, rfl, by decide +kernel, by decide +kernel⟩
theorem ok_hash {f : Addr} {fd : FuncData} (F : Fun K "_law_hash" "_law_hash" sHash f fd) (T : GTxt mg K fC fH fG fR) : FnOk P w K mg base CX0 1 f fd ["_law_seed", "_law_index"] spHash := by
  refine F.ok scH (fun vs H Q E h => ?_) (fun cdv A outer s H vs Q E hr h => ?_)
  · obtain ⟨a, i, rfl, _⟩ := h
    rfl
  · obtain ⟨a, i, rfl, ha0, ha1, hi0, hi1, k⟩ := h
    refine ⟨_, pss_cons (ps_set (i := 2) scH.nd rfl (Or.inl rfl) (pe_op op_mod
        (pe_callTy call_int1 (by rfl) T.int (by decide +kernel) (pa_cons (pe_op op_add (pe_op op_add (pe_op op_add (pe_op op_mulX (pv 0) pe_int) (pe_op op_mulX (pe_op op_mulX pe_int (pv 1)) (pv 1))) (pv 1)) pe_int) pa_nil)) pe_int))
      (pss_cons (ps_set (i := 2) scH.nd rfl (Or.inl rfl) (pe_op op_mod (pe_callTy call_int1 (by rfl) T.int (by decide +kernel) (pa_cons (pe_op op_add (pe_op op_mulX (pv 2) (pv 2)) pe_int) pa_nil)) pe_int))
      (pss_one (ps_ret (pe_op op_mod (pe_callTy call_int1 (by rfl) T.int (by decide +kernel) (pa_cons (pe_op op_mulX (pv 2) pe_int) pa_nil)) pe_int)))), ?_⟩
    have b1 : a.natAbs < 2 ^ 31 := nab_lt ha0 (by omega)
    have b2 : i.natAbs < 2 ^ 40 := nab_lt hi0 (by omega)
    have b3 : (7919 * i : Int).natAbs < 2 ^ 60 := nab_lt (by omega) (by omega)
    refine ⟨_, rfl, _, _, rfl, rfl, mulx_ok b1 (b := 31) (by decide) (by decide), _, rfl, _, _, rfl, rfl, mulx_ok (a := 13) (by decide) b2 (by decide), _, rfl, _, _, rfl, rfl, mulx_ok b3 b2 (by decide), _, _, rfl, rfl, _, rfl, _, _, rfl, rfl, _, _, rfl, rfl, .inl ⟨_, rfl, ?_⟩⟩
    refine ⟨_, _, rfl, rfl, (by show (0 : Int) < 2147483647; decide), ?_⟩
    refine ⟨_, rfl, _, rfl, _, _, rfl, rfl, mulx_ok (a := 31) (b := 31) (mod31 (by decide) (by decide)) (mod31 (by decide) (by decide)) (by decide), _, _, rfl, rfl, .inl ⟨_, rfl, _, _, rfl, rfl, (by show (0 : Int) < 2147483629; decide), ?_⟩⟩
    refine ⟨_, rfl, _, _, rfl, rfl, mulx_ok (a := 31) (b := 31) (mod31 (by decide) (by decide)) (by decide) (by decide), .inl ⟨_, rfl, _, _, rfl, rfl, (by show (0 : Int) < 2147483587; decide), ?_⟩⟩
    exact k _ (Int.emod_nonneg _ (by decide)) (Int.emod_lt_of_pos _ (by decide))
theorem scG : FnScope ["_law_script", "_law_index", "_law_seed"] ["_law_script", "_law_index"] (defScope sGen) := ⟨rfl, rfl, rfl, by decide +kernel, rfl, by decide +kernel, by decide +kernel⟩
theorem ok_gen {f : Addr} {fd fdC : FuncData} (F : Fun K "_law_generator" "_law_generator" sGen f fd) (T : GTxt mg K fC fH fG fR) (FC : Fun K "_law_cell" "_law_cell" sCell fC fdC) (bC : Binds K fdC ["_law_script", "_law_index"] []) :
    FnOk P w K mg base CX0 2 f fd ["_law_script", "_law_index"] (spGen K) := by
  have GC : FnOk P w K mg base CX0 1 fC fdC ["_law_script", "_law_index"] (spCell K) := ok_cell FC T
  refine F.ok scG (fun vs H Q E h => ?_) (fun cdv A outer s H vs Q E hr h => ?_)
  · obtain ⟨a, ns, i, rfl, _⟩ := h
    rfl
  · obtain ⟨a, ns, i, rfl, hS, hl, hi, k⟩ := h
    refine ⟨_, pss_cons (ps_set (i := 2) scG.nd rfl (Or.inl rfl) (pe_call GC hr rfl T.gC T.kC bC .nil pass0 (pa_cons (pv 0) (pa_cons (pv 1) pa_nil))))
      (pss_one (ps_ret (pe_lst (pa_cons (pe_op op_mod (pe_callTy call_int1 (by rfl) T.int (by decide +kernel) (pa_cons (pe_callB (call_max2 rfl) (by rfl) T.max (by decide +kernel) (pa_cons (pe_op op_sub (pv 2) (pe_op op_pow pe_int pe_int)) (pa_cons pe_int pa_nil))) pa_nil)) (pe_op op_powW (pe_op op_pow pe_int pe_int) pe_int))
        (pa_cons (pe_op op_mod (pe_callTy call_int1 (by rfl) T.int (by decide +kernel) (pa_cons (pv 2) pa_nil)) pe_int) (pa_cons (pe_op op_mulX pe_int (pv 1)) pa_nil)))))), ?_⟩
    refine ⟨_, rfl, _, rfl, a, ns, i, rfl, hS, hl, fun z => ?_⟩
    refine ⟨_, rfl, _, _, rfl, rfl, ?_, _, _, rfl, rfl, _, _, rfl, .inl ⟨_, rfl, ?_⟩⟩
    · exact ⟨by decide, by decide, by decide⟩
    refine ⟨_, _, rfl, rfl, ?_, ?_⟩
    · exact ⟨by decide, by decide, by decide⟩
    refine ⟨_, _, rfl, rfl, ⟨by decide, ?_⟩, _, _, rfl, rfl, ?_, ?_⟩
    · decide +kernel
    · show (0 : Int) < (10 ^ 60) ^ 10
      decide +kernel
    refine ⟨_, rfl, .inl ⟨_, rfl, _, _, rfl, rfl, (by show (0 : Int) < 2147483647; decide), ?_⟩⟩
    refine ⟨_, rfl, _, _, rfl, rfl, mulx_ok (a := 10) (b := 10) (by decide) (by omega) (by decide), ?_⟩
    refine ⟨by show 3 ≤ sizeLine; decide, fun p hp => ?_⟩
    refine k p _ hp ⟨_, _, _, rfl, Int.emod_nonneg _ (by decide +kernel), ?_, Int.emod_nonneg _ (by decide), Int.emod_lt_of_pos _ (by decide), by omega, Int.le_refl _⟩
    refine Int.lt_of_lt_of_le (Int.emod_lt_of_pos _ (by decide +kernel)) ?_
    decide +kernel

theorem lt_pow3 {d : Int} {i : Nat} (h0 : 0 ≤ d) (hi : i ≤ 3) (h : d < (4294967296 : Int) ^ i) : d.natAbs < 2 ^ 100 := by
  refine nab_lt h0 (Int.lt_of_lt_of_le h ?_)
  match i, hi with
  | 0, _ => decide
  | 1, _ => decide
  | 2, _ => decide
  | 3, _ => decide
  | (n + 4), h => omega
theorem step_pow {d h : Int} {i : Nat} (h0 : 0 ≤ d) (hd : d < (4294967296 : Int) ^ i) (g0 : 0 ≤ h) (g1 : h < 2147483587) : d * 2147483587 + h < (4294967296 : Int) ^ (i + 1) := by
  rw [Int.pow_succ]
  generalize (4294967296 : Int) ^ i = M at *
  omega
theorem scR : FnScope ["_law_generator_here", "_law_bound", "_law_drawn", "_law_turn"] ["_law_generator_here", "_law_bound"] (defScope sRand) := ⟨rfl, rfl, rfl, by decide +kernel, rfl, by decide +kernel, by decide +kernel⟩
theorem ok_rand {f : Addr} {fd fdH : FuncData} (F : Fun K "_law_random" "_law_random" sRand f fd) (T : GTxt mg K fC fH fG fR) (FH : Fun K "_law_hash" "_law_hash" sHash fH fdH) (bH : Binds K fdH ["_law_seed", "_law_index"] []) :
    FnOk P w K mg base CX0 2 f fd ["_law_generator_here", "_law_bound"] spRand := by
  have GH : FnOk P w K mg base CX0 1 fH fdH ["_law_seed", "_law_index"] spHash := ok_hash FH T
  refine F.ok scR (fun vs H Q E h => ?_) (fun cdv A outer s H vs Q E hr h => ?_)
  · obtain ⟨p, b, n, g, rfl, _⟩ := h
    rfl
  · obtain ⟨p, b, n, g, rfl, hb1, hb2, hp, ⟨g0, g1, g2, rfl, ha0, ha1, hs0, hs1, hc0, hc1⟩, hn, k⟩ := h
    refine ⟨_, pss_cons (ps_if (pt_cmpR op_gt (pe_ix ix_list (pv 0) pe_int (fun _ _ => rfl)) pe_int (nomark _))
      (pss_cons (ps_set (i := 2) scR.nd rfl (Or.inl rfl) (pe_op op_mod (pe_callTy call_int1 (by rfl) T.int (by decide +kernel) (pa_cons (pe_ix ix_list (pv 0) pe_int (fun _ _ => rfl)) pa_nil)) (pv 1)))
        (pss_cons (ps_asg (pe_op op_fdivW (pe_ix ix_list (pv 0) pe_int (fun _ _ => rfl)) (pv 1)) (pg_sub (pv 0) pe_int set_list))
        (pss_one (ps_ret (pv 2))))) pss_nil)
      (pss_cons (ps_set (i := 2) scR.nd rfl (Or.inl rfl) pe_int)
      (pss_cons (ps_for PassesOwn.never rfl (pi_range1 rfl T.range (pa_cons (pe_op op_add pe_int (pe_op op_fdiv (pe_bits (pv 1)) pe_int)) pa_nil)) (pg_name (i := 3) scR.nd rfl (Or.inl rfl))
        (pss_cons (ps_asg (pe_op op_add (pe_ix ix_list (pv 0) pe_int (fun _ _ => rfl)) pe_int) (pg_sub (pv 0) pe_int set_list))
        (pss_one (ps_set (i := 2) scR.nd rfl (Or.inl rfl) (pe_op op_add (pe_op op_mulX (pv 2) pe_int) (pe_call GH hr rfl T.gH T.kH bH .nil pass0 (pa_cons (pe_ix ix_list (pv 0) pe_int (fun _ _ => rfl)) (pa_cons (pe_ix ix_list (pv 0) pe_int (fun _ _ => rfl)) pa_nil))))))))
      (pss_one (ps_ret (pe_op op_mod (pe_callTy call_int1 (by rfl) T.int (by decide +kernel) (pa_cons (pv 2) pa_nil)) (pv 1)))))), ?_⟩
    refine ⟨_, rfl, p, _, _, V.int g0, rfl, rfl, SqL.of hp, atI_nat (j := 0) rfl, _, _, rfl, rfl, _, rfl, ?_⟩
    refine ite2 (fun c => ?_) (fun _ => ?_)
    · have c' : 0 < g0 := of_decide_eq_true c
      refine ⟨_, rfl, p, _, _, V.int g0, rfl, rfl, SqL.of hp, atI_nat (j := 0) rfl, .inl ⟨_, rfl, ?_⟩⟩
      refine ⟨_, rfl, _, _, rfl, rfl, (by show 0 < b; omega), ?_⟩
      refine ⟨_, rfl, p, _, _, V.int g0, rfl, rfl, SqL.of hp, atI_nat (j := 0) rfl, _, rfl, _, _, rfl, rfl, wide_div (b := 60) (by omega) (nab_lt (by omega) (by omega)) (by decide) (by decide), ?_⟩
      refine ⟨_, rfl, p, _, _, 0, rfl, rfl, hp, rfl, ?_⟩
      refine ⟨_, rfl, ?_⟩
      refine k _ _ (Int.emod_nonneg _ (by omega)) (Int.emod_lt_of_pos _ (by omega)) ⟨g0 / b, g1, g2, rfl, Int.ediv_nonneg (by omega) (by omega), Int.lt_of_le_of_lt (Int.ediv_le_self _ (by omega)) ha1, hs0, hs1, hc0, by omega⟩
    · have hbits : Builtin.Int.intBits b ≤ 60 := bits_le (by decide) (nab_lt (by omega) (by omega))
      have hm : (1 + ((Builtin.Int.intBits b : Nat) : Int) / 30) = ((1 + Builtin.Int.intBits b / 30 : Nat) : Int) := by omega
      have hm3 : 1 + Builtin.Int.intBits b / 30 ≤ 3 := by omega
      refine ⟨_, rfl, _, rfl, _, _, rfl, rfl, ⟨by decide, by decide⟩, _, _, rfl, rfl, ?_⟩
      refine ⟨_, rfl, by omega, by omega, ?_⟩
      have e : (1 + ((Builtin.Int.intBits b : Nat) : Int) / 30).toNat = 1 + Builtin.Int.intBits b / 30 := by omega
      refine for_range (lo := 0) (n := (1 + ((Builtin.Int.intBits b : Nat) : Int) / 30 - 0).toNat) (fun i σ H' => ∃ (d c : Int) (v : Option V), σ = [some (.ref p), some (.int b), some (.int d), v] ∧ H' = upd H p (.lst (VInt [g0, g1, c])) ∧ 0 ≤ d ∧ d < (4294967296 : Int) ^ i ∧ g2 ≤ c ∧ c ≤ g2 + i) ?_ ?_ ?_
      · exact ⟨0, g2, none, rfl, (upd_self hp).symm, Int.le_refl _, by decide, Int.le_refl _, by omega⟩
      · rintro i σ H' hi ⟨d, c, v, rfl, rfl, hd0, hd1, hcl, hcu⟩
        have hi3 : i < 3 := by omega
        refine ⟨_, rfl, p, _, _, V.int c, rfl, rfl, SqL.of upd_same, atI_nat (j := 2) rfl, _, _, rfl, rfl, ?_⟩
        refine ⟨_, rfl, p, _, _, 2, rfl, rfl, upd_same, rfl, ?_⟩
        rw [upd_upd]
        refine ⟨_, rfl, _, _, rfl, rfl, mulx_ok (a := 100) (b := 31) (lt_pow3 hd0 (by omega) hd1) (by decide) (by decide), ?_⟩
        refine ⟨_, rfl, p, _, _, V.int g1, rfl, rfl, SqL.of upd_same, atI_nat (j := 1) rfl, ?_⟩
        refine ⟨_, rfl, p, _, _, V.int (c + 1), rfl, rfl, SqL.of upd_same, atI_nat (j := 2) rfl, ?_⟩
        refine ⟨_, _, rfl, hs0, hs1, by omega, by omega, fun z hz0 hz1 => ⟨_, _, rfl, rfl, ?_⟩⟩
        refine ⟨_, _, _, rfl, rfl, by omega, step_pow hd0 hd1 hz0 hz1, by omega, by omega⟩
      · rintro σ H' ⟨d, c, v, rfl, rfl, hd0, hd1, hcl, hcu⟩
        refine ⟨_, rfl, .inl ⟨_, rfl, _, rfl, _, _, rfl, rfl, (by show 0 < b; omega), ?_⟩⟩
        refine k _ _ (Int.emod_nonneg _ (by omega)) (Int.emod_lt_of_pos _ (by omega)) ⟨g0, g1, c, rfl, ha0, ha1, hs0, hs1, by omega, by omega⟩
end
end Gen

/-! drawing an entry of a book -/
namespace Ent
open PySem PySem.Spec PyProof.Rows L2 Evl Gen
abbrev sEntry : Stmt := top 35
/-- all but what stands at l is as it was -/
def Mv (l : Addr) (H H' : Hp) : Prop := ∀ b o, b ≠ l → H b = some o → H' b = some o
theorem Mv.of {l : Addr} {H H' : Hp} (e : Ex H H') : Mv l H H' := fun b o _ z => e b o z
theorem Mv.trans {l : Addr} {H H1 H2 : Hp} (a : Mv l H H1) (b : Mv l H1 H2) : Mv l H H2 := fun c o n z => b c o n (a c o n z)
theorem Mv.upd {l : Addr} {H : Hp} {o : HO} : Mv l H (upd H l o) := fun b u n z => by
  rw [upd_ne n]
  exact z
theorem at_any {xs : List V} {z : Int} (h0 : 0 ≤ z) (h1 : z < (xs.length : Int)) : ∃ v, v ∈ xs ∧ atI xs z = some v := by
  have hj : z.toNat < xs.length := by omega
  refine ⟨xs[z.toNat], List.getElem_mem hj, ?_⟩
  have q := atI_nat (xs := xs) (j := z.toNat) (List.getElem?_eq_getElem hj)
  rw [show ((z.toNat : Nat) : Int) = z by omega] at q
  exact q
theorem at_str {l : List Str} {z : Int} (h0 : 0 ≤ z) (h1 : z < ((l.map V.str).length : Int)) : ∃ s, s ∈ l ∧ atI (l.map V.str) z = some (.str s) := by
  obtain ⟨v, hv, ha⟩ := at_any h0 h1
  obtain ⟨s, hs, rfl⟩ := List.mem_map.mp hv
  exact ⟨s, hs, ha⟩
/-- a generator stands at g -/
def GenAt (H : Hp) (g : Addr) (n : Int) : Prop := ∃ G, H g = some (.lst G) ∧ GenL n G
theorem GenAt.mono {H : Hp} {g : Addr} {n m : Int} (h : GenAt H g n) (hm : n ≤ m) : GenAt H g m := by
  obtain ⟨G, h1, h2⟩ := h
  exact ⟨G, h1, h2.mono hm⟩
def spEntry : Sp := fun vs H Q _ => ∃ (g hs ss ws : Addr) (n : Int) (hl sl : List Str) (wl : List V), vs = [.ref g, .ref hs, .ref ss, .ref ws] ∧ GenAt H g n ∧ n ≤ 100000000 ∧ H hs = some (.lst (hl.map V.str)) ∧ H ss = some (.lst (sl.map V.str)) ∧ H ws = some (.lst wl) ∧
  (hs ≠ g ∧ ss ≠ g ∧ ws ≠ g) ∧ (1 ≤ hl.length ∧ hl.length ≤ 10) ∧ (1 ≤ sl.length ∧ sl.length ≤ 10) ∧ (1 ≤ wl.length ∧ wl.length ≤ 10) ∧
  ∀ p H' place w other, H p = none → Mv g H H' → GenAt H' g (n + 12) → H' p = some (.tup [.str place, w, .str other]) → w ∈ wl → ((place ∈ hl ∧ other ∈ hl) ∨ (place ∈ sl ∧ other ∈ sl)) → Q (.ref p) H'
section
variable {P : Program} {w : World} {K : PySem.W.Frag} {mg : Str → Option Value} {base : Heap} {fC fH fG fR : Addr} {fdR : FuncData}
theorem scE : FnScope ["_law_generator_here", "_law_houses", "_law_stands", "_law_sounds", "_law_names", "_law_place", "_law_other"] ["_law_generator_here", "_law_houses", "_law_stands", "_law_sounds"] (defScope sEntry) := ⟨rfl, rfl, rfl, by decide +kernel, rfl, by decide +kernel, by decide +kernel⟩
set_option maxHeartbeats 1000000 in
theorem ok_entry {f : Addr} {fd : FuncData} (F : Fun K "_law_entry_drawn" "_law_entry_drawn" sEntry f fd) (TG : GTxt mg K fC fH fG fR) (GR : FnOk P w K mg base CX0 2 fR fdR ["_law_generator_here", "_law_bound"] spRand) (bR : Binds K fdR ["_law_generator_here", "_law_bound"] []) :
    FnOk P w K mg base CX0 3 f fd ["_law_generator_here", "_law_houses", "_law_stands", "_law_sounds"] spEntry := by
  refine F.ok scE (fun vs H Q E h => ?_) (fun cdv A outer s H vs Q E hr h => ?_)
  · obtain ⟨g, hs, ss, ws, n, hl, sl, wl, rfl, _⟩ := h
    rfl
  · obtain ⟨g, hs, ss, ws, n, hl, sl, wl, rfl, ⟨G0, hG, gl0⟩, hn, hhs, hss, hws, ⟨ng1, ng2, ng3⟩, l1, l2, ⟨b0, b1⟩, kq⟩ := h
    refine ⟨_, (pss_cons (ps_set (i := 4) scE.nd rfl (Or.inl rfl) (pe_ifExp (pt_cmpR op_eq (pe_call GR hr (by rfl) TG.gR TG.kR bR .nil pass0 (pa_cons (pv 0) (pa_cons pe_int pa_nil))) pe_int (nomark _)) (pv 1) (pv 2)))
      (pss_cons (ps_par (i := 5) (j := 6) rfl scE.nd rfl rfl (by decide) rfl rfl (pa_cons (pe_ix ix_list (pv 4) (pe_call GR hr (by rfl) TG.gR TG.kR bR .nil pass0 (pa_cons (pv 0) (pa_cons (pe_callB call_len_seq (by rfl) TG.len PySem.boot_len (pa_cons (pv 4) pa_nil)) pa_nil))) (fun _ _ => rfl)) (pa_cons (pe_ix ix_list (pv 4) (pe_call GR hr (by rfl) TG.gR TG.kR bR .nil pass0 (pa_cons (pv 0) (pa_cons (pe_callB call_len_seq (by rfl) TG.len PySem.boot_len (pa_cons (pv 4) pa_nil)) pa_nil))) (fun _ _ => rfl)) pa_nil)) (by rfl))
      (pss_one (ps_ret (pe_tup (pa_cons (pv 5) (pa_cons (pe_ix ix_list (pv 3) (pe_call GR hr (by rfl) TG.gR TG.kR bR .nil pass0 (pa_cons (pv 0) (pa_cons (pe_callB call_len_seq (by rfl) TG.len PySem.boot_len (pa_cons (pv 3) pa_nil)) pa_nil))) (fun _ _ => rfl)) (pa_cons (pv 6) pa_nil)))))))), ?_⟩
    refine ⟨_, rfl, g, _, _, G0, rfl, by decide, by decide, hG, gl0, by omega, fun z1 G1 x0 x1 gl1 => ⟨rfl, _, rfl, ?_⟩⟩
    have m1 : Mv g H (upd H g (.lst G1)) := Mv.upd
    refine ite2 (fun _ => ?_) (fun _ => ?_)
    · -- hs
      have n1 := m1 _ _ ng1 hhs
      obtain ⟨a0, a1⟩ := l1
      refine ⟨_, rfl, ?_⟩
      refine ⟨_, rfl, _, rfl, _, rfl, hs, _, rfl, .inl (SqL.of n1), g, _, _, G1, rfl, by rw [List.length_map]; omega, by rw [List.length_map]; omega, upd_same, gl1, by omega, fun z2 G2 y0 y1 gl2 => ?_⟩
      rw [upd_upd]
      have m2 : Mv g H (upd H g (.lst G2)) := Mv.upd
      have n2 := m2 _ _ ng1 hhs
      obtain ⟨place, ip, ap⟩ := at_str y0 y1
      refine ⟨hs, _, _, _, rfl, rfl, SqL.of n2, ap, ?_⟩
      refine ⟨_, rfl, _, rfl, _, rfl, hs, _, rfl, .inl (SqL.of n2), g, _, _, G2, rfl, by rw [List.length_map]; omega, by rw [List.length_map]; omega, upd_same, gl2, by omega, fun z3 G3 w0 w1 gl3 => ?_⟩
      rw [upd_upd]
      have m3 : Mv g H (upd H g (.lst G3)) := Mv.upd
      have n3 := m3 _ _ ng1 hhs
      obtain ⟨other, io, ao⟩ := at_str w0 w1
      refine ⟨hs, _, _, _, rfl, rfl, SqL.of n3, ao, _, _, rfl, ?_⟩
      have s3 := m3 _ _ ng3 hws
      refine ⟨_, rfl, _, rfl, _, rfl, _, rfl, ws, _, rfl, .inl (SqL.of s3), g, _, _, G3, rfl, by omega, by omega, upd_same, gl3, by omega, fun z4 G4 u0 u1 gl4 => ?_⟩
      rw [upd_upd]
      have m4 : Mv g H (upd H g (.lst G4)) := Mv.upd
      have s4 := m4 _ _ ng3 hws
      obtain ⟨w, iw, aw⟩ := at_any u0 u1
      refine ⟨ws, _, _, _, rfl, rfl, SqL.of s4, aw, _, rfl, by show 3 ≤ sizeLine; decide, fun p np => ?_⟩
      have pg : p ≠ g := (ne_of_none upd_same np).symm
      have np0 : H p = none := by
        rw [upd_ne pg] at np
        exact np
      exact kq p _ place w other np0 (m4.trans (Mv.of (Ex.new np))) ⟨G4, by rw [upd_ne pg.symm, upd_same], gl4.mono (by omega)⟩ upd_same iw (.inl ⟨ip, io⟩)
    · -- ss
      have n1 := m1 _ _ ng2 hss
      obtain ⟨a0, a1⟩ := l2
      refine ⟨_, rfl, ?_⟩
      refine ⟨_, rfl, _, rfl, _, rfl, ss, _, rfl, .inl (SqL.of n1), g, _, _, G1, rfl, by rw [List.length_map]; omega, by rw [List.length_map]; omega, upd_same, gl1, by omega, fun z2 G2 y0 y1 gl2 => ?_⟩
      rw [upd_upd]
      have m2 : Mv g H (upd H g (.lst G2)) := Mv.upd
      have n2 := m2 _ _ ng2 hss
      obtain ⟨place, ip, ap⟩ := at_str y0 y1
      refine ⟨ss, _, _, _, rfl, rfl, SqL.of n2, ap, ?_⟩
      refine ⟨_, rfl, _, rfl, _, rfl, ss, _, rfl, .inl (SqL.of n2), g, _, _, G2, rfl, by rw [List.length_map]; omega, by rw [List.length_map]; omega, upd_same, gl2, by omega, fun z3 G3 w0 w1 gl3 => ?_⟩
      rw [upd_upd]
      have m3 : Mv g H (upd H g (.lst G3)) := Mv.upd
      have n3 := m3 _ _ ng2 hss
      obtain ⟨other, io, ao⟩ := at_str w0 w1
      refine ⟨ss, _, _, _, rfl, rfl, SqL.of n3, ao, _, _, rfl, ?_⟩
      have s3 := m3 _ _ ng3 hws
      refine ⟨_, rfl, _, rfl, _, rfl, _, rfl, ws, _, rfl, .inl (SqL.of s3), g, _, _, G3, rfl, by omega, by omega, upd_same, gl3, by omega, fun z4 G4 u0 u1 gl4 => ?_⟩
      rw [upd_upd]
      have m4 : Mv g H (upd H g (.lst G4)) := Mv.upd
      have s4 := m4 _ _ ng3 hws
      obtain ⟨w, iw, aw⟩ := at_any u0 u1
      refine ⟨ws, _, _, _, rfl, rfl, SqL.of s4, aw, _, rfl, by show 3 ≤ sizeLine; decide, fun p np => ?_⟩
      have pg : p ≠ g := (ne_of_none upd_same np).symm
      have np0 : H p = none := by
        rw [upd_ne pg] at np
        exact np
      exact kq p _ place w other np0 (m4.trans (Mv.of (Ex.new np))) ⟨G4, by rw [upd_ne pg.symm, upd_same], gl4.mono (by omega)⟩ upd_same iw (.inr ⟨ip, io⟩)
end
end Ent
/-! the drawn parts of a book -/
namespace Pts
open PySem PySem.Spec PyProof.Rows L2 Evl Gen Ent
abbrev sParts : Stmt := top 36
abbrev En := Str × Option Str × Str
def sv : Option Str → V
  | none => .non
  | some s => .str s
def enV (e : En) : List V := [.str e.1, sv e.2.1, .str e.2.2]
/-- tuples stand, one for each row of values -/
def Tups (H : Hp) : List Addr → List (List V) → Prop := Paired fun t xs => H t = some (.tup xs)
theorem Tups.mv {H H' : Hp} {l : Addr} {ys : List V} (hl : H l = some (.lst ys)) (m : Mv l H H') : ∀ {R : List Addr} {X : List (List V)}, Tups H R X → Tups H' R X
  | _, _, .nil => .nil
  | _, _, .cons h t => .cons (m _ _ (ne_of h hl (by intro z; cases z)) h) (Tups.mv hl m t)
theorem Tups.ex {H H' : Hp} (e : Ex H H') : ∀ {R : List Addr} {X : List (List V)}, Tups H R X → Tups H' R X
  | _, _, .nil => .nil
  | _, _, .cons h t => .cons (e _ _ h) (Tups.ex e t)
theorem _root_.Ent.Mv.mut {g d : Addr} {H H' : Hp} {o : HO} (m : Mv g H H') (hd : H d = none) : Mv g H (upd H' d o) := fun b u n z => by
  rw [upd_ne (ne_of_none z hd)]
  exact m b u n z
theorem _root_.Ent.GenAt.mv {H H' : Hp} {g l : Addr} {n : Int} (h : GenAt H g n) (ng : g ≠ l) (m : Mv l H H') : GenAt H' g n := by
  obtain ⟨G, h1, h2⟩ := h
  exact ⟨G, m _ _ ng h1, h2⟩
theorem _root_.Ent.GenAt.ex {H H' : Hp} {g : Addr} {n : Int} (h : GenAt H g n) (e : Ex H H') : GenAt H' g n := by
  obtain ⟨G, h1, h2⟩ := h
  exact ⟨G, e _ _ h1, h2⟩
def allH : List Str := ["idle", "mends", "done"]
def allS : List Str := ["lacks", "waits", "has", "off"]
def allL : List (List Str) := [[], ["mend"], ["ask"], ["mend", "ask"], ["none"]]
structure PartsD where
  hs : List Str
  ss : List Str
  ds : List En
  rs : List En
  ls : List Str
def InOne (D : PartsD) (e : En) : Prop := (e.1 ∈ D.hs ∧ e.2.2 ∈ D.hs) ∨ (e.1 ∈ D.ss ∧ e.2.2 ∈ D.ss)
structure PartsOk (w h : Nat) (D : PartsD) : Prop where
  hs : ∃ k, 1 ≤ k ∧ k ≤ w ∧ D.hs = allH.take k
  ss : ∃ k, 1 ≤ k ∧ k ≤ h ∧ D.ss = allS.take k
  d1 : 1 ≤ D.ds.length ∧ D.ds.length ≤ 5
  ds : ∀ e ∈ D.ds, (e.2.1 = none ∨ e.2.1 = some "ask" ∨ e.2.1 = some "mend") ∧ InOne D e
  r1 : D.rs.length ≤ 7
  rs : ∀ e ∈ D.rs, (e.2.1 = some "ask" ∨ e.2.1 = some "mend") ∧ InOne D e
  nd : (D.rs.map fun e => (e.1, e.2.1)).Nodup
  ls : D.ls ∈ allL
structure PartsAt (H : Hp) (p : Addr) (D : PartsD) (a0 a1 a2 a3 a4 : Addr) (R2 R3 : List Addr) : Prop where
  p : H p = some (.lst [.ref a0, .ref a1, .ref a2, .ref a3, .ref a4])
  h0 : H a0 = some (.lst (D.hs.map V.str))
  h1 : H a1 = some (.lst (D.ss.map V.str))
  h2 : H a2 = some (.lst (R2.map V.ref))
  t2 : Tups H R2 (D.ds.map enV)
  h3 : H a3 = some (.lst (R3.map V.ref))
  t3 : Tups H R3 (D.rs.map enV)
  h4 : H a4 = some (.lst (D.ls.map V.str))
theorem cut_str {l : List Str} {n : Nat} : cutV (l.map V.str) none (some ((n : Nat) : Int)) = (l.take n).map V.str := by
  unfold cutV
  rw [HT.sIx_none, HT.sIx_nat, List.drop_zero, Nat.sub_zero, List.map_take]
  by_cases h : n ≤ (l.map V.str).length
  · rw [Nat.min_eq_left h]
  · rw [Nat.min_eq_right (by omega), List.take_of_length_le (Nat.le_refl _), List.take_of_length_le (by omega)]
/-- what is known so far: pairs of texts -/
def Kn (ks : List (Str × Option Str)) : List (List V) := ks.map fun k => [.str k.1, sv k.2]
def knD (k : Str × Option Str) : PyData := .tuple [.str k.1, match k.2 with | none => .none | some s => .str s]
theorem kn_dp {K : PySem.W.Frag} {H : Hp} : ∀ {R : List Addr} {ks : List (Str × Option Str)}, Tups H R (Kn ks) → DpAll K H (R.map V.ref) (ks.map knD)
  | _, [], .nil => .nil
  | _, k :: ks, .cons h t => by
    refine .cons (.tup (SqT.of h) (.cons (.str _) (.cons ?_ .nil))) (kn_dp t)
    obtain ⟨a, b⟩ := k
    cases b with
    | none => exact .non
    | some s => exact .str s
theorem kn_depth (k : Str × Option Str) : (knD k).depth = 1 := by
  obtain ⟨a, b⟩ := k
  cases b <;> simp [knD, PyData.depth, PyData.depthAll]
theorem un65 {k : Nat} {A : Around} (hr : Room k A) : A.units + 65 < cLine := by
  have := hr.un
  omega
/-- a pair that can be laid -/
def KnOk (k : Str × Option Str) : Prop := PyData.strOk k.1 = true ∧ ∀ s, k.2 = some s → PyData.strOk s = true
theorem kn_lay (k : Str × Option Str) (h : KnOk k) : (knD k).canLay0 = true := by
  obtain ⟨a, b⟩ := k
  obtain ⟨h1, h2⟩ := h
  dsimp only at h1 h2
  cases b with
  | none => simp [knD, PyData.canLay0, PyData.canLayAll0, h1]
  | some s => simp [knD, PyData.canLay0, PyData.canLayAll0, h1, h2 s rfl]
theorem kn_shaped (k : Str × Option Str) (h : KnOk k) : SeqAt.shaped (knD k) = true := by
  show ((knD k).canLay0 && decide ((knD k).depth ≤ 64)) = true
  rw [kn_lay k h, kn_depth]
  rfl
theorem kns_lay : ∀ ks : List (Str × Option Str), (∀ k ∈ ks, KnOk k) → PyData.canLayAll0 (ks.map knD) = true
  | [], _ => by simp [PyData.canLayAll0]
  | k :: ks, h => by
    simp only [List.map_cons, PyData.canLayAll0, kn_lay k (h k (List.mem_cons_self ..)), kns_lay ks (fun z m => h z (List.mem_cons_of_mem _ m))]
    rfl
theorem kns_depth : ∀ ks : List (Str × Option Str), PyData.depthAll (ks.map knD) ≤ 1
  | [] => by simp [PyData.depthAll]
  | k :: ks => by
    have h1 := kns_depth ks
    have h2 := kn_depth k
    simp only [List.map_cons, PyData.depthAll]
    omega
theorem kns_shaped (ks : List (Str × Option Str)) (h : ∀ k ∈ ks, KnOk k) : SeqAt.shaped (.list (ks.map knD)) = true := by
  have h1 := kns_depth ks
  have h2 : PyData.depth (.list (ks.map knD)) ≤ 64 := by
    simp only [PyData.depth]
    omega
  show (PyData.canLay0 (.list (ks.map knD)) && decide (PyData.depth (.list (ks.map knD)) ≤ 64)) = true
  rw [Bool.and_eq_true]
  exact ⟨by simp only [PyData.canLay0]; exact kns_lay ks h, decide_eq_true h2⟩
theorem str_beq (a c : Str) : (a == c) = decide (a = c) := by
  by_cases h : a = c
  · subst h
    simp
  · simp [h]
theorem kn_eqv (k l : Str × Option Str) : PyData.eqv (knD k) (knD l) = decide (k = l) := by
  obtain ⟨a, b⟩ := k
  obtain ⟨c, d⟩ := l
  cases b <;> cases d <;> simp [knD, PyData.eqv, PyData.eqvAll, Prod.mk.injEq, str_beq]
theorem kn_any (ks : List (Str × Option Str)) (k : Str × Option Str) : ((ks.map knD).any fun z => PyData.eqv z (knD k)) = decide (k ∈ ks) := by
  induction ks with
  | nil => simp
  | cons l ks ih =>
    rw [List.map_cons, List.any_cons, ih, kn_eqv]
    by_cases e : l = k
    · subst e
      simp
    · have e' : ¬ k = l := fun z => e z.symm
      simp [e, e']
theorem strs_ok : ∀ s ∈ allH ++ allS ++ (["ask", "mend"] : List Str), PyData.strOk s = true := by decide +kernel
/-- a drawn number, told over any heap behind -/
theorem drew {H : Hp} {g : Addr} {n b : Int} {Q : VK} {E : XK} (hG : GenAt H g n) (hn : n ≤ 1000000000) (h1 : 1 ≤ b) (h2 : b < 1000) (k : ∀ z H', 0 ≤ z → z < b → Mv g H H' → GenAt H' g (n + 3) → Q (.int z) H') : spRand [.ref g, .int b] H Q E := by
  obtain ⟨G, hg, gl⟩ := hG
  exact ⟨g, b, n, G, rfl, h1, by omega, hg, gl, hn, fun z G' z0 z1 gl' => k z _ z0 z1 Mv.upd ⟨G', upd_same, gl'⟩⟩
theorem _root_.Ent.Mv.back {g p : Addr} {H H' : Hp} {n : Int} (m : Mv g H H') (hg : GenAt H' g n) (np : H' p = none) : H p = none := by
  obtain ⟨G, h1, _⟩ := hg
  cases h : H p with
  | none => rfl
  | some o =>
    have := m p o (fun e => by rw [e, h1] at np; cases np) h
    rw [this] at np
    cases np
def key (e : En) : Str × Option Str := (e.1, e.2.1)
/-- what stands while the parts are drawn -/
structure PI (H0 H : Hp) (g a0 a1 a2 a3 a4 : Addr) (n : Int) (hs ss : List Str) (ds rs : List En) (ks : List (Str × Option Str)) : Prop where
  mv : Mv g H0 H
  gen : GenAt H g n
  h0 : H a0 = some (.lst (hs.map V.str))
  h1 : H a1 = some (.lst (ss.map V.str))
  h2 : ∃ R, H a2 = some (.lst (R.map V.ref)) ∧ Tups H R (ds.map enV)
  h3 : ∃ R, H a3 = some (.lst (R.map V.ref)) ∧ Tups H R (rs.map enV)
  h4 : ∃ R, H a4 = some (.lst (R.map V.ref)) ∧ Tups H R (Kn ks)
  nd : [g, a0, a1, a2, a3, a4].Nodup
  fr : ∀ a ∈ [a0, a1, a2, a3, a4], H0 a = none
section
variable {H0 H H' : Hp} {g a0 a1 a2 a3 a4 p : Addr} {n m : Int} {hs ss : List Str} {ds rs : List En} {ks : List (Str × Option Str)} {e : En} {k : Str × Option Str}
theorem PI.move (P : PI H0 H g a0 a1 a2 a3 a4 n hs ss ds rs ks) (v : Mv g H H') (hg : GenAt H' g m) : PI H0 H' g a0 a1 a2 a3 a4 m hs ss ds rs ks := by
  obtain ⟨G, hG, _⟩ := P.gen
  have nd := P.nd
  simp only [List.nodup_cons, List.mem_cons, List.not_mem_nil, not_or, or_false] at nd
  obtain ⟨⟨n0, n1, n2, n3, n4⟩, _⟩ := nd
  obtain ⟨R2, x2, y2⟩ := P.h2
  obtain ⟨R3, x3, y3⟩ := P.h3
  obtain ⟨R4, x4, y4⟩ := P.h4
  exact ⟨P.mv.trans v, hg, v _ _ (Ne.symm n0) P.h0, v _ _ (Ne.symm n1) P.h1, ⟨R2, v _ _ (Ne.symm n2) x2, y2.mv hG v⟩, ⟨R3, v _ _ (Ne.symm n3) x3, y3.mv hG v⟩, ⟨R4, v _ _ (Ne.symm n4) x4, y4.mv hG v⟩, P.nd, P.fr⟩
theorem PI.ex (P : PI H0 H g a0 a1 a2 a3 a4 n hs ss ds rs ks) (v : Ex H H') : PI H0 H' g a0 a1 a2 a3 a4 n hs ss ds rs ks := P.move (Mv.of v) (P.gen.ex v)
theorem PI.le (P : PI H0 H g a0 a1 a2 a3 a4 n hs ss ds rs ks) (h : n ≤ m) : PI H0 H g a0 a1 a2 a3 a4 m hs ss ds rs ks := P.move (Mv.of (Ex.refl H)) (P.gen.mono h)
theorem tups_upd {l : Addr} {ys zs : List V} (hl : H l = some (.lst ys)) {R : List Addr} {Y : List (List V)} (t : Tups H R Y) : Tups (upd H l (.lst zs)) R Y := t.mv hl Mv.upd
theorem tups_app {q : Addr} {xs : List V} {R : List Addr} {Y : List (List V)} (t : Tups H R Y) (h : H q = some (.tup xs)) : Tups H (R ++ [q]) (Y ++ [xs]) := by
  induction t with
  | nil => exact .cons h .nil
  | cons a _ ih => exact .cons a ih
theorem _root_.Pts.Tups.len {R : List Addr} {Y : List (List V)} (t : Tups H R Y) : R.length = Y.length := by
  induction t with
  | nil => rfl
  | cons _ _ ih => simp [ih]
theorem PI.app2 (P : PI H0 H g a0 a1 a2 a3 a4 n hs ss ds rs ks) (hp : H p = some (.tup (enV e))) {R : List Addr} (h2 : H a2 = some (.lst (R.map V.ref))) (t2 : Tups H R (ds.map enV)) :
    PI H0 (upd H a2 (.lst (R.map V.ref ++ [.ref p]))) g a0 a1 a2 a3 a4 n hs ss (ds ++ [e]) rs ks := by
  obtain ⟨G, hG, gl⟩ := P.gen
  have nd := P.nd
  have f2 := P.fr a2 (by simp)
  simp only [List.nodup_cons, List.mem_cons, List.not_mem_nil, not_or, or_false] at nd
  obtain ⟨⟨n0, n1, n2, n3, n4⟩, ⟨m1, m2, m3, m4⟩, ⟨l2, l3, l4⟩, ⟨k3, k4⟩, _⟩ := nd
  obtain ⟨R3, x3, y3⟩ := P.h3
  obtain ⟨R4, x4, y4⟩ := P.h4
  refine ⟨P.mv.mut f2, ⟨G, by rw [upd_ne n2]; exact hG, gl⟩, by rw [upd_ne m2]; exact P.h0, by rw [upd_ne l2]; exact P.h1, ⟨R ++ [p], by rw [upd_same, List.map_append] <;> rfl, ?_⟩, ⟨R3, by rw [upd_ne (Ne.symm k3)]; exact x3, tups_upd h2 y3⟩, ⟨R4, by rw [upd_ne (Ne.symm k4)]; exact x4, tups_upd h2 y4⟩, P.nd, P.fr⟩
  rw [List.map_append]
  exact tups_upd h2 (tups_app t2 hp)
theorem PI.app3 (P : PI H0 H g a0 a1 a2 a3 a4 n hs ss ds rs ks) (hp : H p = some (.tup (enV e))) {R : List Addr} (h3 : H a3 = some (.lst (R.map V.ref))) (t3 : Tups H R (rs.map enV)) :
    PI H0 (upd H a3 (.lst (R.map V.ref ++ [.ref p]))) g a0 a1 a2 a3 a4 n hs ss ds (rs ++ [e]) ks := by
  obtain ⟨G, hG, gl⟩ := P.gen
  have nd := P.nd
  have f3 := P.fr a3 (by simp)
  simp only [List.nodup_cons, List.mem_cons, List.not_mem_nil, not_or, or_false] at nd
  obtain ⟨⟨n0, n1, n2, n3, n4⟩, ⟨m1, m2, m3, m4⟩, ⟨l2, l3, l4⟩, ⟨k3, k4⟩, j4, _⟩ := nd
  obtain ⟨R2, x2, y2⟩ := P.h2
  obtain ⟨R4, x4, y4⟩ := P.h4
  refine ⟨P.mv.mut f3, ⟨G, by rw [upd_ne n3]; exact hG, gl⟩, by rw [upd_ne m3]; exact P.h0, by rw [upd_ne l3]; exact P.h1, ⟨R2, by rw [upd_ne k3]; exact x2, tups_upd h3 y2⟩,
    ⟨R ++ [p], by rw [upd_same, List.map_append] <;> rfl, ?_⟩, ⟨R4, by rw [upd_ne (Ne.symm j4)]; exact x4, tups_upd h3 y4⟩, P.nd, P.fr⟩
  rw [List.map_append]
  exact tups_upd h3 (tups_app t3 hp)
theorem PI.app4 {q : Addr} (P : PI H0 H g a0 a1 a2 a3 a4 n hs ss ds rs ks) (hq : H q = some (.tup [.str k.1, sv k.2])) {S : List Addr} (h4 : H a4 = some (.lst (S.map V.ref))) (t4 : Tups H S (Kn ks)) :
    PI H0 (upd H a4 (.lst (S.map V.ref ++ [.ref q]))) g a0 a1 a2 a3 a4 n hs ss ds rs (ks ++ [k]) := by
  obtain ⟨G, hG, gl⟩ := P.gen
  have nd := P.nd
  have f4 := P.fr a4 (by simp)
  simp only [List.nodup_cons, List.mem_cons, List.not_mem_nil, not_or, or_false] at nd
  obtain ⟨⟨n0, n1, n2, n3, n4⟩, ⟨m1, m2, m3, m4⟩, ⟨l2, l3, l4⟩, ⟨k3, k4⟩, j4, _⟩ := nd
  obtain ⟨R2, x2, y2⟩ := P.h2
  obtain ⟨R3, x3, y3⟩ := P.h3
  refine ⟨P.mv.mut f4, ⟨G, by rw [upd_ne n4]; exact hG, gl⟩, by rw [upd_ne m4]; exact P.h0, by rw [upd_ne l4]; exact P.h1, ⟨R2, by rw [upd_ne k4]; exact x2, tups_upd h4 y2⟩,
    ⟨R3, by rw [upd_ne j4]; exact x3, tups_upd h4 y3⟩, ⟨S ++ [q], by rw [upd_same, List.map_append] <;> rfl, ?_⟩, P.nd, P.fr⟩
  unfold Kn
  rw [List.map_append]
  exact tups_upd h4 (tups_app t4 hq)
end
def spParts : Sp := fun vs H Q _ => ∃ (g : Addr) (w h : Nat) (n : Int), vs = [.ref g, .int (w : Int), .int (h : Int)] ∧ GenAt H g n ∧ n ≤ 1000000 ∧ (1 ≤ w ∧ w ≤ 3) ∧ (1 ≤ h ∧ h ≤ 4) ∧
  ∀ p H' D a0 a1 a2 a3 a4 R2 R3, Mv g H H' → GenAt H' g (n + 400) → PartsAt H' p D a0 a1 a2 a3 a4 R2 R3 → PartsOk w h D → (∀ a ∈ [p, a0, a1, a2, a3, a4], H a = none) → Q (.ref p) H'
abbrev NPa : List Str := ["_law_generator_here", "_law_wide", "_law_high", "_law_houses", "_law_stands", "_law_deeds", "_law_hearings", "_law_known", "_law_turn", "_law_place", "_law_sound", "_law_other", "_law_lost"]
theorem scPa : FnScope NPa ["_law_generator_here", "_law_wide", "_law_high"] (defScope sParts) := ⟨rfl, rfl, rfl, by decide +kernel, rfl, by decide +kernel, by decide +kernel⟩
theorem step3 {H : Hp} {g l a : Addr} {n m : Int} {o1 o2 : HO} {G1 : List V} (hG : GenAt H g n) (nl : H l = none) (gl : GenL m G1) (na : upd (upd H l o1) g (.lst G1) a = none) :
    l ≠ g ∧ Mv g H (upd (upd (upd H l o1) g (.lst G1)) a o2) ∧ GenAt (upd (upd (upd H l o1) g (.lst G1)) a o2) g m ∧ H a = none ∧ a ≠ g := by
  obtain ⟨G0, hg, _⟩ := hG
  have n1 : l ≠ g := (ne_of_none hg nl).symm
  have n2 : a ≠ g := (ne_of_none upd_same na).symm
  have m1 : Mv g H (upd (upd H l o1) g (.lst G1)) := (Mv.of (Ex.new nl)).trans Mv.upd
  refine ⟨n1, m1.trans (Mv.of (Ex.new na)), ⟨G1, by rw [upd_ne n2.symm, upd_same], gl⟩, ?_, n2⟩
  exact m1.back ⟨G1, upd_same, gl⟩ na
theorem cut_all {l : List Str} {z : Int} (h : 0 ≤ z) : cutV (l.map V.str) none (some (1 + z)) = (l.take (1 + z).toNat).map V.str := by
  have e : (1 + z) = (((1 + z).toNat : Nat) : Int) := by omega
  rw [e, cut_str]
  have e2 : (((1 + z).toNat : Nat) : Int).toNat = (1 + z).toNat := by omega
  rw [e2]
def sd : V → Option Str
  | .str s => some s
  | _ => none
def okD (hs ss : List Str) (e : En) : Prop := (e.2.1 = none ∨ e.2.1 = some "ask" ∨ e.2.1 = some "mend") ∧ ((e.1 ∈ hs ∧ e.2.2 ∈ hs) ∨ (e.1 ∈ ss ∧ e.2.2 ∈ ss))
def okR (hs ss : List Str) (e : En) : Prop := (e.2.1 = some "ask" ∨ e.2.1 = some "mend") ∧ ((e.1 ∈ hs ∧ e.2.2 ∈ hs) ∨ (e.1 ∈ ss ∧ e.2.2 ∈ ss))
theorem okR_kn {hs ss : List Str} {e : En} (h1 : ∀ s ∈ hs, s ∈ allH) (h2 : ∀ s ∈ ss, s ∈ allS) (h : okR hs ss e) : KnOk (key e) := by
  obtain ⟨a, b⟩ := h
  have q := strs_ok
  refine ⟨?_, fun s hs => ?_⟩
  · rcases b with ⟨x, _⟩ | ⟨x, _⟩
    · exact q _ (List.mem_append_left _ (List.mem_append_left _ (h1 _ x)))
    · exact q _ (List.mem_append_left _ (List.mem_append_right _ (h2 _ x)))
  · have hs' : e.2.1 = some s := hs
    rcases a with x | x <;> rw [x] at hs' <;> cases hs' <;> decide +kernel
theorem q_drawSl {K : PySem.W.Frag} {D : Ends} {tz : TS} {σ : L2.St} {H : Hp} {g : Addr} {i j : Nat} {n b : Int} {l : List Str} {tl : TE} (hG : GenAt H g n) (hn : n ≤ 1000100) (hb : 1 ≤ b ∧ b < 1000) (s0 : σ[0]? = some (some (.ref g))) (si : σ[i]? = some (some (.int b)))
    (hl : EvL tl σ H (l.map V.str)) (k : ∀ a H1 (z : Int), H a = none → Mv g H H1 → GenAt H1 g (n + 3) → H1 a = some (.lst ((l.take (1 + z).toNat).map V.str)) → 0 ≤ z → z < b → tz D (σ.set j (some (.ref a))) H1) :
    tSeq (tAsg (tSl (rSlL K) tl tNoPart (tPart (tOp (rI0 fun i j => V.int (i + j)) (tC (.int 1)) (tCall spRand [] E0 (tCons (tVar 0) (tCons (tVar i) tNil)))))) (gName j)) tz D σ H := by
  refine hl H (Ex.refl H) _ fun p H1 np e1 hp => ?_
  obtain ⟨G1, hG1, gl1⟩ := hG.ex e1
  have n1 : p ≠ g := by
    obtain ⟨G0, hg, _⟩ := hG
    exact (ne_of_none hg np).symm
  refine ⟨_, s0, _, si, g, b, n, G1, rfl, by omega, by omega, hG1, gl1, by omega, fun z1 G1' z10 z11 gl1' => ⟨_, _, rfl, rfl, _, rfl, p, l.map V.str, rfl, SqL.of ?_, fun a0 na0 => ?_⟩⟩
  · rw [upd_ne n1]
    exact hp
  · have n2 : a0 ≠ g := (ne_of_none upd_same na0).symm
    have m1 : Mv g H (upd H1 g (.lst G1')) := (Mv.of e1).trans Mv.upd
    refine k a0 _ z1 (m1.back ⟨G1', upd_same, gl1'⟩ na0) (m1.trans (Mv.of (Ex.new na0))) ⟨G1', by rw [upd_ne n2.symm, upd_same], gl1'⟩ ?_ z10 z11
    rw [cut_all z10]
    exact upd_same
section
variable {P : Program} {w : World} {K : PySem.W.Frag} {mg : Str → Option Value} {base : Heap} {fC fH fG fR fE : Addr} {fdR fdE : FuncData}
set_option maxHeartbeats 2000000 in
theorem ok_parts {f : Addr} {fd : FuncData} (F : Fun K "_law_parts" "_law_parts" sParts f fd) (TG : GTxt mg K fC fH fG fR) (GR : FnOk P w K mg base CX0 2 fR fdR ["_law_generator_here", "_law_bound"] spRand) (bR : Binds K fdR ["_law_generator_here", "_law_bound"] [])
    (GE : FnOk P w K mg base CX0 3 fE fdE ["_law_generator_here", "_law_houses", "_law_stands", "_law_sounds"] spEntry) (bE : Binds K fdE ["_law_generator_here", "_law_houses", "_law_stands", "_law_sounds"] []) (mE : mg "_law_entry_drawn" = some (.ref fE)) (kE : PySem.W.keepIn K (.ref fE) = true) :
    FnOk P w K mg base CX0 4 f fd ["_law_generator_here", "_law_wide", "_law_high"] spParts := by
  refine F.ok scPa (fun vs H Q E h => ?_) (fun cdv A outer s H vs Q E hr h => ?_)
  · obtain ⟨g, hs, ss, n, rfl, _⟩ := h
    rfl
  · obtain ⟨g, wi, hi, n, rfl, hG, hn, ⟨w1, w2⟩, ⟨i1, i2⟩, kq⟩ := h
    refine ⟨_, (pss_cons (ps_set (i := 3) scPa.nd rfl (Or.inl rfl) (pe_slice sl_list (pe_lst (pa_cons pe_str (pa_cons pe_str (pa_cons pe_str pa_nil)))) po_none (po_some (pe_op op_add pe_int (pe_call GR (hr.mono (by decide)) (by rfl) TG.gR TG.kR bR .nil pass0 (pa_cons (pv 0) (pa_cons (pv 1) pa_nil)))))))
      (pss_cons (ps_set (i := 4) scPa.nd rfl (Or.inl rfl) (pe_slice sl_list (pe_lst (pa_cons pe_str (pa_cons pe_str (pa_cons pe_str (pa_cons pe_str pa_nil))))) po_none (po_some (pe_op op_add pe_int (pe_call GR (hr.mono (by decide)) (by rfl) TG.gR TG.kR bR .nil pass0 (pa_cons (pv 0) (pa_cons (pv 2) pa_nil)))))))
      (pss_cons (ps_par3 (i := 5) (j := 6) (l := 7) rfl scPa.nd rfl rfl rfl (by decide) (by decide) (by decide) rfl rfl rfl (pa_cons (pe_lst pa_nil) (pa_cons (pe_lst pa_nil) (pa_cons (pe_lst pa_nil) pa_nil))) (by rfl))
      (pss_cons (ps_for PassesOwn.never rfl (pi_range1 rfl TG.range (pa_cons (pe_op op_add pe_int (pe_call GR (hr.mono (by decide)) (by rfl) TG.gR TG.kR bR .nil pass0 (pa_cons (pv 0) (pa_cons pe_int pa_nil)))) pa_nil)) (pg_name (i := 8) scPa.nd rfl (Or.inl rfl)) (pss_one (ps_expr (pe_bm PySem.F.plainAttrs_list PySem.F.slot_list_append PySem.F.type_list_append mt_append (pv 5) (pa_cons (pe_call GE hr (by rfl) mE kE bE .nil pass0 (pa_cons (pv 0) (pa_cons (pv 3) (pa_cons (pv 4) (pa_cons (pe_lst (pa_cons pe_str (pa_cons pe_str (pa_cons pe_str (pa_cons pe_non pa_nil))))) pa_nil))))) pa_nil)))))
      (pss_cons (ps_for PassesOwn.never rfl (pi_range1 rfl TG.range (pa_cons (pe_call GR (hr.mono (by decide)) (by rfl) TG.gR TG.kR bR .nil pass0 (pa_cons (pv 0) (pa_cons pe_int pa_nil))) pa_nil)) (pg_name (i := 8) scPa.nd rfl (Or.inl rfl)) (pss_cons (ps_asg (pe_call GE hr (by rfl) mE kE bE .nil pass0 (pa_cons (pv 0) (pa_cons (pv 3) (pa_cons (pv 4) (pa_cons (pe_lst (pa_cons pe_str (pa_cons pe_str pa_nil))) pa_nil))))) (pg_tup rfl (pgs_cons (pg_name (i := 9) scPa.nd rfl (Or.inl rfl)) (pgs_cons (pg_name (i := 10) scPa.nd rfl (Or.inl rfl)) (pgs_cons (pg_name (i := 11) scPa.nd rfl (Or.inl rfl)) pgs_nil)))))
      (pss_one (ps_if (pt_cmpR (op_notInD (un65 hr)) (pe_tup (pa_cons (pv 9) (pa_cons (pv 10) pa_nil))) (pv 7) (by rfl)) (pss_cons (ps_expr (pe_bm PySem.F.plainAttrs_list PySem.F.slot_list_append PySem.F.type_list_append mt_append (pv 7) (pa_cons (pe_tup (pa_cons (pv 9) (pa_cons (pv 10) pa_nil))) pa_nil)))
      (pss_one (ps_expr (pe_bm PySem.F.plainAttrs_list PySem.F.slot_list_append PySem.F.type_list_append mt_append (pv 6) (pa_cons (pe_tup (pa_cons (pv 9) (pa_cons (pv 10) (pa_cons (pv 11) pa_nil)))) pa_nil))))) pss_nil))))
      (pss_cons (ps_set (i := 12) scPa.nd rfl (Or.inl rfl) (pe_ix ix_list (pe_lst (pa_cons (pe_lst pa_nil) (pa_cons (pe_lst (pa_cons pe_str pa_nil)) (pa_cons (pe_lst (pa_cons pe_str pa_nil)) (pa_cons (pe_lst (pa_cons pe_str (pa_cons pe_str pa_nil))) (pa_cons (pe_lst (pa_cons pe_str pa_nil)) pa_nil)))))) (pe_call GR (hr.mono (by decide)) (by rfl) TG.gR TG.kR bR .nil pass0 (pa_cons (pv 0) (pa_cons pe_int pa_nil))) (fun _ _ => rfl)))
      (pss_one (ps_ret (pe_lst (pa_cons (pv 3) (pa_cons (pv 4) (pa_cons (pv 5) (pa_cons (pv 6) (pa_cons (pv 12) pa_nil)))))))))))))), ?_⟩
    refine q_drawSl (l := allH) hG (by omega) ⟨by omega, by omega⟩ rfl rfl (el_lst (ea_cons ev_c (ea_cons ev_c (ea_cons ev_c ea_nil))) (by decide)) fun a0 HA z0 f0 m0 g0 h0 z00 z01 => ?_
    refine q_drawSl (l := allS) g0 (by omega) ⟨by omega, by omega⟩ rfl rfl (el_lst (ea_cons ev_c (ea_cons ev_c (ea_cons ev_c (ea_cons ev_c ea_nil)))) (by decide)) fun a1 HB z1 f1 m1 g1 h1 z10 z11 => ?_
    refine ⟨by show 0 ≤ sizeLine; decide, fun a2 na2 => ⟨by show 0 ≤ sizeLine; decide, fun a3 na3 => ⟨by show 0 ≤ sizeLine; decide, fun a4 na4 => ⟨_, _, _, rfl, ?_⟩⟩⟩⟩
    obtain ⟨hs, ehs⟩ : ∃ hs, hs = allH.take (1 + z0).toNat := ⟨_, rfl⟩
    obtain ⟨ss, ess⟩ : ∃ ss, ss = allS.take (1 + z1).toNat := ⟨_, rfl⟩
    rw [← ehs] at h0
    rw [← ess] at h1
    have lhs : 1 ≤ hs.length ∧ hs.length ≤ 10 := by
      rw [ehs, List.length_take]
      show 1 ≤ min _ 3 ∧ min _ 3 ≤ 10
      omega
    have lss : 1 ≤ ss.length ∧ ss.length ≤ 10 := by
      rw [ess, List.length_take]
      show 1 ≤ min _ 4 ∧ min _ 4 ≤ 10
      omega
    have PI0 : PI H (upd (upd (upd HB a2 (.lst [])) a3 (.lst [])) a4 (.lst [])) g a0 a1 a2 a3 a4 (n + 6) hs ss [] [] [] := by
      obtain ⟨G0, hg0, _⟩ := hG
      obtain ⟨GA, hgA, _⟩ := g0
      obtain ⟨GB, hgB, glB⟩ := g1
      have x0 : a0 ≠ g := (ne_of_none hg0 f0).symm
      have y0 : HB a0 = some (.lst (hs.map V.str)) := m1 _ _ x0 h0
      have e2 : Ex HB (upd HB a2 (.lst [])) := Ex.new na2
      have e3 : Ex (upd HB a2 (.lst [])) (upd (upd HB a2 (.lst [])) a3 (.lst [])) := Ex.new na3
      have e4 : Ex (upd (upd HB a2 (.lst [])) a3 (.lst [])) (upd (upd (upd HB a2 (.lst [])) a3 (.lst [])) a4 (.lst [])) := Ex.new na4
      have mB : Mv g H HB := m0.trans m1
      have bk : ∀ p, HB p = none → H p = none := fun p => mB.back ⟨GB, hgB, glB⟩
      have f2 := bk _ na2
      have f3' := fresh_back e2 na3
      have f4' := fresh_back (e2.trans e3) na4
      refine ⟨mB.trans (Mv.of ((e2.trans e3).trans e4)), ⟨GB, ((e2.trans e3).trans e4) _ _ hgB, glB.mono (by omega)⟩, ((e2.trans e3).trans e4) _ _ y0, ((e2.trans e3).trans e4) _ _ h1, ⟨[], e4 _ _ (e3 _ _ upd_same), .nil⟩, ⟨[], e4 _ _ upd_same, .nil⟩, ⟨[], upd_same, .nil⟩, ?_, ?_⟩
      · have g_0 : g ≠ a0 := x0.symm
        have g_1 : g ≠ a1 := ne_of_none hgA f1
        have g_2 : g ≠ a2 := ne_of_none hgB na2
        have g_3 : g ≠ a3 := ne_of_none hgB f3'
        have g_4 : g ≠ a4 := ne_of_none hgB f4'
        have p01 : a0 ≠ a1 := ne_of_none h0 f1
        have p02 : a0 ≠ a2 := ne_of_none y0 na2
        have p03 : a0 ≠ a3 := ne_of_none y0 f3'
        have p04 : a0 ≠ a4 := ne_of_none y0 f4'
        have p12 : a1 ≠ a2 := ne_of_none h1 na2
        have p13 : a1 ≠ a3 := ne_of_none h1 f3'
        have p14 : a1 ≠ a4 := ne_of_none h1 f4'
        have p23 : a2 ≠ a3 := ne_of_none upd_same na3
        have p24 : a2 ≠ a4 := ne_of_none (e3 _ _ upd_same) na4
        have p34 : a3 ≠ a4 := ne_of_none upd_same na4
        simp [g_0, g_1, g_2, g_3, g_4, p01, p02, p03, p04, p12, p13, p14, p23, p24, p34]
      · intro a ha
        simp only [List.mem_cons, List.not_mem_nil, or_false] at ha
        rcases ha with rfl | rfl | rfl | rfl | rfl
        · exact f0
        · exact m0.back ⟨GA, hgA, by assumption⟩ f1
        · exact f2
        · exact bk _ f3'
        · exact bk _ f4'
    have oh : ∀ s ∈ hs, s ∈ allH := fun s h => by rw [ehs] at h; exact List.mem_of_mem_take h
    have os : ∀ s ∈ ss, s ∈ allS := fun s h => by rw [ess] at h; exact List.mem_of_mem_take h
    generalize upd (upd (upd HB a2 (.lst [])) a3 (.lst [])) a4 (.lst []) = HC at PI0
    have ⟨GC, hgC, glC⟩ := PI0.gen
    dsimp only
    refine ⟨_, rfl, g, _, n + 6, GC, rfl, by decide, by decide, hgC, glC, by omega, fun z2 G2 z20 z21 gl2 => ⟨_, _, rfl, rfl, _, rfl, by omega, by omega, for_range (lo := 0) (n := (1 + z2).toNat) (fun i σ H' => ∃ t8 ds, σ = [some (.ref g), some (.int (wi : Int)), some (.int (hi : Int)), some (.ref a0), some (.ref a1), some (.ref a2), some (.ref a3), some (.ref a4), t8, none, none, none, none] ∧ PI H H' g a0 a1 a2 a3 a4 (n + 9 + 13 * (i : Int)) hs ss ds [] [] ∧ ds.length = i ∧ ∀ e ∈ ds, okD hs ss e) ?_ ?_ ?_⟩⟩
    · refine ⟨_, [], rfl, (PI0.move Mv.upd ⟨G2, upd_same, gl2⟩).le (by omega), rfl, fun e he => nomatch he⟩
    · rintro i σ H1 hi' ⟨t8, ds, rfl, PP, le, ok⟩
      obtain ⟨R, h2, t2⟩ := PP.h2
      refine ⟨_, rfl, .inl ⟨rfl, _, SqL.of h2⟩, _, rfl, _, rfl, _, rfl, by show 4 ≤ sizeLine; decide, fun l nl => ?_⟩
      have e1 : Ex H1 (upd H1 l (.lst [.str "ask", .str "mend", .str "ask", .non])) := Ex.new nl
      have PE := PP.ex e1
      have nd := PE.nd
      simp only [List.nodup_cons, List.mem_cons, List.not_mem_nil, not_or, or_false] at nd
      obtain ⟨⟨n0, n1, n2, n3, n4⟩, _⟩ := nd
      have ⟨GD, hgD, _⟩ := PP.gen
      refine ⟨g, a0, a1, l, n + 9 + 13 * (i : Int), hs, ss, [.str "ask", .str "mend", .str "ask", .non], rfl, PE.gen, by omega, PE.h0, PE.h1, upd_same, ⟨Ne.symm n0, Ne.symm n1, (ne_of_none hgD nl).symm⟩, lhs, lss, by decide, fun p H2 place w other np mv ga hp hw side => ?_⟩
      have PF := PE.move mv ga
      have hwi : ∃ sw, w = sv sw ∧ (sw = none ∨ sw = some "ask" ∨ sw = some "mend") := by
        simp only [List.mem_cons, List.not_mem_nil, or_false] at hw
        rcases hw with rfl | rfl | rfl | rfl
        · exact ⟨some "ask", rfl, .inr (.inl rfl)⟩
        · exact ⟨some "mend", rfl, .inr (.inr rfl)⟩
        · exact ⟨some "ask", rfl, .inr (.inl rfl)⟩
        · exact ⟨none, rfl, .inl rfl⟩
      obtain ⟨sw, rfl, hsw⟩ := hwi
      obtain ⟨R', h2', t2'⟩ := PF.h2
      have lR : R'.length = ds.length := by
        rw [Tups.len t2', List.length_map]
      refine ⟨a2, R'.map V.ref, .ref p, rfl, rfl, h2', by rw [List.length_map]; exact sz_lt (by omega), ⟨_, ds ++ [(place, sw, other)], rfl, (PF.app2 (e := (place, sw, other)) hp h2' t2').le (by omega), by simp [le], fun e he => ?_⟩⟩
      rcases List.mem_append.mp he with he | he
      · exact ok e he
      · obtain rfl : e = (place, sw, other) := by simpa using he
        exact ⟨hsw, side⟩
    · rintro σ H1 ⟨t8, ds, rfl, PP, lds, okds⟩
      dsimp only
      have ⟨GD, hgD, glD⟩ := PP.gen
      refine ⟨_, rfl, g, _, _, GD, rfl, by decide, by decide, hgD, glD, by omega, fun z3 G3 z30 z31 gl3 => ⟨_, rfl, by omega, by omega, for_range (lo := 0) (n := z3.toNat) (fun i σ H' => ∃ t8 t9 t10 t11 rs, σ = [some (.ref g), some (.int (wi : Int)), some (.int (hi : Int)), some (.ref a0), some (.ref a1), some (.ref a2), some (.ref a3), some (.ref a4), t8, t9, t10, t11, none] ∧ PI H H' g a0 a1 a2 a3 a4 (n + 77 + 13 * (i : Int)) hs ss ds rs (rs.map key) ∧ rs.length ≤ i ∧ (∀ e ∈ rs, okR hs ss e) ∧ (rs.map key).Nodup) ?_ ?_ ?_⟩⟩
      · refine ⟨_, _, _, _, [], rfl, (PP.move Mv.upd ⟨G3, upd_same, gl3⟩).le (by omega), Nat.zero_le _, (fun e he => nomatch he), List.nodup_nil⟩
      · rintro i σ H2 hi' ⟨t8, t9, t10, t11, rs, rfl, PQ, lrs, okrs, ndrs⟩
        refine ⟨_, rfl, _, rfl, _, rfl, by show 2 ≤ sizeLine; decide, fun l nl => ?_⟩
        have PE := PQ.ex (Ex.new (o := .lst [.str "mend", .str "ask"]) nl)
        have nd := PE.nd
        simp only [List.nodup_cons, List.mem_cons, List.not_mem_nil, not_or, or_false] at nd
        obtain ⟨⟨n0, n1, n2, n3, n4⟩, _⟩ := nd
        have ⟨GF, hgF, _⟩ := PQ.gen
        refine ⟨g, a0, a1, l, n + 77 + 13 * (i : Int), hs, ss, [.str "mend", .str "ask"], rfl, PE.gen, by omega, PE.h0, PE.h1, upd_same, ⟨Ne.symm n0, Ne.symm n1, (ne_of_none hgF nl).symm⟩, lhs, lss, by decide, fun p H3 place w other np mv ga hp hw side => ?_⟩
        have PF := PE.move mv ga
        have hwi : ∃ sw, w = sv sw ∧ (sw = some "ask" ∨ sw = some "mend") := by
          simp only [List.mem_cons, List.not_mem_nil, or_false] at hw
          rcases hw with rfl | rfl
          · exact ⟨some "mend", rfl, .inr rfl⟩
          · exact ⟨some "ask", rfl, .inl rfl⟩
        obtain ⟨sw, rfl, hsw⟩ := hwi
        refine ⟨p, _, rfl, SqT.of hp, rfl, _, _, rfl, _, _, rfl, _, _, rfl, rfl, ?_⟩
        obtain ⟨S, h4, t4⟩ := PF.h4
        have kall : ∀ k ∈ rs.map key, KnOk k := fun k hk => by
          obtain ⟨e, he, rfl⟩ := List.mem_map.mp hk
          exact okR_kn oh os (okrs e he)
        have kone : KnOk (place, sw) := okR_kn (e := (place, sw, other)) oh os ⟨hsw, side⟩
        refine ⟨_, rfl, _, rfl, by show 2 ≤ sizeLine; decide, fun q nq => ?_⟩
        have eq1 : Ex H3 (upd H3 q (.tup [.str place, sv sw])) := Ex.new nq
        refine ⟨_, rfl, knD (place, sw), (rs.map key).map knD, ?_, .lst (SqL.of (eq1 _ _ h4)) (kn_dp (t4.ex eq1)), kn_shaped _ kone, kns_shaped _ kall, _, rfl, ?_⟩
        · refine .tup (SqT.of upd_same) (.cons (.str _) (.cons ?_ .nil))
          cases sw with
          | none => exact .non
          | some s => exact .str s
        · rw [kn_any]
          by_cases hm : (place, sw) ∈ rs.map key
          · have e9 : (!decide ((place, sw) ∈ rs.map key)) = false := by simp [hm]
            rw [e9]
            refine ⟨_, _, _, _, rs, rfl, (PF.ex eq1).le (by omega), by omega, okrs, ndrs⟩
          · have e9 : (!decide ((place, sw) ∈ rs.map key)) = true := by simp [hm]
            rw [e9]
            obtain ⟨S', h4', t4'⟩ := (PF.ex eq1).h4
            have lS : S'.length = rs.length := by rw [Tups.len t4']; simp [Kn]
            refine ⟨_, rfl, .inl ⟨rfl, _, SqL.of h4'⟩, _, rfl, _, rfl, by show 2 ≤ sizeLine; decide, fun q2 nq2 => ?_⟩
            have eq2 := Ex.new (o := .tup [.str place, sv sw]) nq2
            have P4 := ((PF.ex eq1).ex eq2).app4 (k := (place, sw)) upd_same (eq2 _ _ h4') (t4'.ex eq2)
            refine ⟨a4, _, _, rfl, rfl, eq2 _ _ h4', by rw [List.length_map]; exact sz_lt (by omega), ?_⟩
            obtain ⟨R', h3', t3'⟩ := P4.h3
            refine ⟨_, rfl, .inl ⟨rfl, _, SqL.of h3'⟩, _, rfl, _, rfl, _, rfl, by show 3 ≤ sizeLine; decide, fun p2 np2 => ?_⟩
            have lR : R'.length = rs.length := by rw [Tups.len t3', List.length_map]
            have eq3 := Ex.new (o := .tup [.str place, sv sw, .str other]) np2
            have P3 := (P4.ex eq3).app3 (e := (place, sw, other)) upd_same (eq3 _ _ h3') (t3'.ex eq3)
            refine ⟨a3, _, _, rfl, rfl, eq3 _ _ h3', by rw [List.length_map]; exact sz_lt (by omega), _, _, _, _, rs ++ [(place, sw, other)], rfl, ?_, ?_, ?_, ?_⟩
            · rw [List.map_append]
              exact P3.le (by omega)
            · rw [List.length_append]
              show _ + 1 ≤ _
              omega
            · intro e he
              rcases List.mem_append.mp he with he | he
              · exact okrs e he
              · obtain rfl : e = (place, sw, other) := by simpa using he
                exact ⟨hsw, side⟩
            · rw [List.map_append]
              refine List.nodup_append.mpr ⟨ndrs, by simp, fun x hx y hy => ?_⟩
              obtain rfl : y = (place, sw) := by simpa [key] using hy
              exact fun z => hm (by rw [← z]; exact hx)
      · rintro σ H2 ⟨t8, t9, t10, t11, rs, rfl, PQ, lrs, okrs, ndrs⟩
        dsimp only
        refine ⟨by show 0 ≤ sizeLine; decide, fun b0 n0 => ⟨by show 1 ≤ sizeLine; decide, fun b1 n1 => ⟨by show 1 ≤ sizeLine; decide, fun b2 n2 => ⟨by show 2 ≤ sizeLine; decide, fun b3 n3 => ⟨by show 1 ≤ sizeLine; decide, fun b4 n4 => ⟨by show 5 ≤ sizeLine; decide, fun lo nlo => ?_⟩⟩⟩⟩⟩⟩
        have x0 : Ex H2 (upd H2 b0 (.lst [])) := Ex.new n0
        have x1 := Ex.new (o := .lst [.str "mend"]) n1
        have x2 := Ex.new (o := .lst [.str "ask"]) n2
        have x3 := Ex.new (o := .lst [.str "mend", .str "ask"]) n3
        have x4 := Ex.new (o := .lst [.str "none"]) n4
        have x5 := Ex.new (o := .lst [.ref b0, .ref b1, .ref b2, .ref b3, .ref b4]) nlo
        have f0' := n0
        have f1' := fresh_back x0 n1
        have f2' := fresh_back (x0.trans x1) n2
        have f3' := fresh_back ((x0.trans x1).trans x2) n3
        have f4' := fresh_back (((x0.trans x1).trans x2).trans x3) n4
        have PX := PQ.ex (((((x0.trans x1).trans x2).trans x3).trans x4).trans x5)
        have X0 := ((((x1.trans x2).trans x3).trans x4).trans x5) _ _ (upd_same (H := H2) (a := b0) (o := .lst []))
        have X1 := (((x2.trans x3).trans x4).trans x5) _ _ upd_same
        have X2 := ((x3.trans x4).trans x5) _ _ upd_same
        have X3 := (x4.trans x5) _ _ upd_same
        have X4 := x5 _ _ upd_same
        obtain ⟨GX, hgX, glX⟩ := PX.gen
        refine ⟨_, rfl, g, _, _, GX, rfl, by decide, by decide, hgX, glX, by omega, fun z4 G4 z40 z41 gl4 => ?_⟩
        have mG : Mv g (upd (upd (upd (upd (upd (upd H2 b0 (.lst [])) b1 (.lst [.str "mend"])) b2 (.lst [.str "ask"])) b3 (.lst [.str "mend", .str "ask"])) b4 (.lst [.str "none"])) lo (.lst [.ref b0, .ref b1, .ref b2, .ref b3, .ref b4])) _ := Mv.upd (o := .lst G4)
        have PY := PX.move mG ⟨G4, upd_same, gl4⟩
        have gb : ∀ b, H2 b = none → b ≠ g := fun b hb => by
          obtain ⟨GQ, hgQ, _⟩ := PQ.gen
          exact (ne_of_none hgQ hb).symm
        have glo : lo ≠ g := (ne_of_none (((((x0.trans x1).trans x2).trans x3).trans x4) _ _ PQ.gen.choose_spec.1) nlo).symm
        have Y0 := mG _ _ (gb _ f0') X0
        have Y1 := mG _ _ (gb _ f1') X1
        have Y2 := mG _ _ (gb _ f2') X2
        have Y3 := mG _ _ (gb _ f3') X3
        have Y4 := mG _ _ (gb _ f4') X4
        have Yo := mG _ _ glo upd_same
        have hat : ∃ b L, atI [V.ref b0, .ref b1, .ref b2, .ref b3, .ref b4] z4 = some (.ref b) ∧ H2 b = none ∧ L ∈ allL ∧ upd (upd (upd (upd (upd (upd (upd H2 b0 (.lst [])) b1 (.lst [.str "mend"])) b2 (.lst [.str "ask"])) b3 (.lst [.str "mend", .str "ask"])) b4 (.lst [.str "none"])) lo (.lst [.ref b0, .ref b1, .ref b2, .ref b3, .ref b4])) g (.lst G4) b = some (.lst (L.map V.str)) := by
          have : z4 = 0 ∨ z4 = 1 ∨ z4 = 2 ∨ z4 = 3 ∨ z4 = 4 := by omega
          rcases this with rfl | rfl | rfl | rfl | rfl
          · exact ⟨b0, [], rfl, f0', by decide, Y0⟩
          · exact ⟨b1, ["mend"], rfl, f1', by decide, Y1⟩
          · exact ⟨b2, ["ask"], rfl, f2', by decide, Y2⟩
          · exact ⟨b3, ["mend", "ask"], rfl, f3', by decide, Y3⟩
          · exact ⟨b4, ["none"], rfl, f4', by decide, Y4⟩
        obtain ⟨b, L, hat, fb, hL, Yb⟩ := hat
        refine ⟨lo, _, _, _, rfl, rfl, SqL.of Yo, hat, ?_⟩
        obtain ⟨R2, h2, t2⟩ := PY.h2
        obtain ⟨R3, h3, t3⟩ := PY.h3
        refine ⟨_, rfl, _, rfl, _, rfl, _, rfl, _, rfl, by show 5 ≤ sizeLine; decide, fun p np => ?_⟩
        have xp := Ex.new (o := .lst [.ref a0, .ref a1, .ref a2, .ref a3, .ref b]) np
        have PZ := PY.ex xp
        refine kq p _ ⟨hs, ss, ds, rs, L⟩ a0 a1 a2 a3 b R2 R3 PZ.mv (PZ.gen.mono (by omega)) ⟨upd_same, PZ.h0, PZ.h1, xp _ _ h2, t2.ex xp, xp _ _ h3, t3.ex xp, xp _ _ Yb⟩ ⟨⟨_, by omega, by omega, ehs⟩, ⟨_, by omega, by omega, ess⟩, by show 1 ≤ ds.length ∧ ds.length ≤ 5; omega, okds, by show rs.length ≤ 7; omega, okrs, ndrs, hL⟩ ?_
        have bk : ∀ a, H2 a = none → H a = none := fun a => PQ.mv.back PQ.gen
        have fr := PQ.fr
        simp only [List.mem_cons, List.not_mem_nil, or_false, forall_eq_or_imp, forall_eq] at fr ⊢
        refine ⟨?_, fr.1, fr.2.1, fr.2.2.1, fr.2.2.2.1, bk _ fb⟩
        exact bk _ (fresh_back (((((x0.trans x1).trans x2).trans x3).trans x4).trans x5) (mG.back ⟨G4, upd_same, gl4⟩ np))
end
end Pts
/-! ### a call of an own exception class with keywords too -/
namespace PySem
namespace KwX
open PySem.W PySem.Calls PyProof.Rows PySem.HandSPX Builtin Builtin.ObjectAttr
section
variable {M : Model} {A : Around} {E : Value → Shared → Prop} {hp : Heap} {ge : Array GenState} {dr : Drawn} {tk : Nat} {oz : OsState}
variable {cn cq : Str} {C nsA : Addr} {bl ml ml0 : List Value} {hd : Bool} {slo : List Str} {subs : List Value} {abst : Bool} {cl : Option Bool} {di : Option Addr} {s0 s1 s2 s3 s5 : Option Value} {nB nI iI : String}
theorem kw_check_new (F : ExcBaseFacts nB nI iI ml0) (hT : ∀ T : String, ml.contains (.type T) = ml0.contains (.type T)) {us : List Value} {kv : List (Str × Value)} {Q : Unit → Shared → Prop}
    (gC : hp.get? C = some (excClassObj cn cq C nsA bl ml hd slo subs abst cl di s0 s1 s2 s3 s5 nI)) (hq : Q () ⟨hp, ge, dr, tk, oz⟩) :
    wpAny M A (checkBuiltinCall nI ⟨.ref C :: us, kv⟩) Q E ⟨hp, ge, dr, tk, oz⟩ := by
  have c1 : (Value.ref C :: ml).contains (.type nB) = true := by
    rw [List.contains_cons, hT, F.hasB, Bool.or_true]
  have _st := F.noStar
  simp only [checkBuiltinCall, F.newKind, F.newRow, F.newSplit]
  repeat (first
    | refine wpAny_loadPart_at gC ?_
    | (refine wpAny_isSubtype_exc gC ?_; rw [c1])
    | refine wpAny_staticBase_exc gC ?_
    | refine wpAny_madeBy_exc gC ?_
    | simp only [bne_self_eq_false, Bool.false_eq_true, if_false]
    | wp_step)
  exact hq
end
section
variable {prog : Program} {w : World} {A : Around} {E : Value → Shared → Prop} {R : Result → Shared → Prop} {hp : Heap} {ge : Array GenState} {dr : Drawn} {tk : Nat} {oz : OsState}
variable {cn cq : Str} {C nsA : Addr} {bl ml ml0 : List Value} {hd : Bool} {slo : List Str} {subs : List Value} {abst : Bool} {cl : Option Bool} {di : Option Addr} {s0 s1 s2 s3 s5 : Option Value} {nB nI iI : String}
theorem kw_new (F : ExcBaseFacts nB nI iI ml0) (hT : ∀ T : String, ml.contains (.type T) = ml0.contains (.type T)) {us : List Value} {kv : List (Str × Value)}
    (gC : hp.get? C = some (excClassObj cn cq C nsA bl ml hd slo subs abst cl di s0 s1 s2 s3 s5 nI)) (hz : us.length ≤ sizeLine)
    (hq : R (.ok (.ret (.ref (hp.objs.size + 1)))) ⟨(hp.push (W.kdv_tup us)).push (excO C hp.objs.size), ge, dr, tk, oz⟩) :
    codeAny (model prog w) A (.builtin nI ⟨.ref C :: us, kv⟩) R ⟨hp, ge, dr, tk, oz⟩ := by
  have e1 := F.ends
  have c1 : (Value.ref C :: ml).contains (.type nB) = true := by
    rw [List.contains_cons, hT, F.hasB, Bool.or_true]
  have c2 : (Value.ref C :: ml).contains (.type "AttributeError") = false := by
    rw [List.contains_cons, hT, F.noAttr]
    rfl
  have c3 : (Value.ref C :: ml).contains (.type "NameError") = false := by
    rw [List.contains_cons, hT, F.noName]
    rfl
  refine codeAny_builtinAt F.entry ?_
  unfold Builtin.«BaseException.__new__»
  refine wpAt_bind ?_
  show wpAt _ _ _ (stack >>= _) _ _ _
  refine wpAt_bind (wpAt_stack fun _ _ => wpAt_of_wpAny ?_)
  wp_walk
  refine wpAt_of_wpAny ?_
  rw [F.owner]
  repeat (first
    | with_reducible refine wpAny_madeHere_exc F.canon gC ?_
    | with_reducible refine wpAny_loadPart_at gC ?_
    | (with_reducible refine wpAny_isSubtype_exc gC ?_; first | rw [c1] | rw [c2] | rw [c3])
    | wp_step)
  show R _ _
  rw [Heap.size_push]
  exact hq
theorem kw_tcall (F : ExcBaseFacts nB nI iI ml0) (hT : ∀ T : String, ml.contains (.type T) = ml0.contains (.type T)) {us : List Value} {kv : List (Str × Value)} {fI : Addr} {Q : Fin → Shared → Prop}
    (gC : hp.get? C = some (excClassObj cn cq C nsA bl ml hd slo subs abst cl di s0 s1 s2 s3 s5 nI)) (hz : us.length ≤ sizeLine)
    (li : W.Looks (model prog w) hp (typeLookup (.ref C) "__init__") (some (.ref fI))) (lb : ∀ self, W.Looks (model prog w) hp (bindSpecial (.ref fI) self) (.ref fI, [self]))
    (hq : codeAny (model prog w) A (.call (.ref fI) ⟨.ref (hp.objs.size + 1) :: us, kv⟩)
      (fun r s' => match r with
        | .ok (.ret v) => v = .none ∧ Q (.done (.ret (.ref (hp.objs.size + 1)))) s'
        | .ok _ => False
        | .error e => E e s') ⟨(hp.push (W.kdv_tup us)).push (excO C hp.objs.size), ge, dr, tk, oz⟩) :
    wpAny (model prog w) A (Builtin.«type.__call__» ⟨.ref C :: us, kv⟩) Q E ⟨hp, ge, dr, tk, oz⟩ := by
  repeat (first
    | with_reducible refine wpAny_loadPart_at gC ?_
    | with_reducible refine wpAny_madeBy_exc gC ?_
    | wp_step)
  refine codeAny_call_builtin_code (Code.quiet_builtin _ F.quiet) (kw_check_new F hT gC ?_)
  refine kw_new F hT gC hz ?_
  show wpAny _ _ _ _ _ _
  have kk : ∀ b o, hp.get? b = some o → ((hp.push (W.kdv_tup us)).push (excO C hp.objs.size)).get? b = some o :=
    fun b o z => Heap.get?_push_of_some _ (Heap.get?_push_of_some _ z)
  have gC2 := kk _ _ gC
  have gx : ((hp.push (W.kdv_tup us)).push (excO C hp.objs.size)).get? (hp.objs.size + 1) = some (excO C hp.objs.size) := by heap_get
  have c4 : (Value.ref C :: ml).contains (.ref C) = true := by simp
  have l1 := li.keeps kk
  have l2 := (lb (.ref (hp.objs.size + 1))).keeps kk
  unfold isInstance
  repeat (first
    | with_reducible refine wpAny_loadPart_at gx ?_
    | (with_reducible refine wpAny_isSubtype_exc gC2 ?_; rw [c4])
    | wp_step)
  show wpAny _ _ (typeLookup (.ref C) _) _ _ _
  refine l1.at ?_
  refine wpAny_holding (wpAny_bind (l2.at ?_))
  refine wpAny_bind (wpAny_call (codeAny_mono hq fun r s' z => ?_))
  rcases r with er | (v | _ | _ | _)
  all_goals first
    | exact z
    | exact False.elim z
    | (obtain ⟨rfl, z'⟩ := z; exact wpAny_pure (wpAny_pure z'))
    | (obtain ⟨rfl, z'⟩ := z; wp_walk; exact z')
    | (obtain ⟨rfl, z'⟩ := z; wp_walk)
theorem kw_own (F : ExcBaseFacts nB nI iI ml0) (hT : ∀ T : String, ml.contains (.type T) = ml0.contains (.type T)) {us : List Value} {kv : List (Str × Value)} {fI : Addr}
    (gC : hp.get? C = some (excClassObj cn cq C nsA bl ml hd slo subs abst cl di s0 s1 s2 s3 s5 nI)) (hz : us.length ≤ sizeLine)
    (li : W.Looks (model prog w) hp (typeLookup (.ref C) "__init__") (some (.ref fI))) (lb : ∀ self, W.Looks (model prog w) hp (bindSpecial (.ref fI) self) (.ref fI, [self]))
    (hq : codeAny (model prog w) (A.under (.builtin "type.__call__" ⟨.ref C :: us, kv⟩)) (.call (.ref fI) ⟨.ref (hp.objs.size + 1) :: us, kv⟩) (W.InitBack (hp.objs.size + 1) R)
      ⟨(hp.push (W.kdv_tup us)).push (excO C hp.objs.size), ge, dr, tk, oz⟩) :
    codeAny (model prog w) A (.call (.ref C) ⟨us, kv⟩) R ⟨hp, ge, dr, tk, oz⟩ := by
  have _t1 := tc_lookup
  have _t2 := tc_bind (.ref C)
  have _t3 := tc_sub
  have ty : (⟨hp, ge, dr, tk, oz⟩ : Shared).TypeIs (.ref C) "type" := ⟨_, gC, rfl⟩
  refine codeAny_of_tree ?_
  show wpAny _ _ (callAny (.ref C) _) _ _ _
  repeat (any_goals (first
    | assumption
    | with_reducible refine wpAny_loadPart_at gC ?_
    | wp_step))
  refine ⟨rfl, ?_⟩
  have ck : ∀ {Q : Unit → Shared → Prop} {A' : Around} {E' : Value → Shared → Prop}, Q () ⟨hp, ge, dr, tk, oz⟩ → wpAny (model prog w) A' (checkBuiltinCall "type.__call__" ⟨.ref C :: us, kv⟩) Q E' ⟨hp, ge, dr, tk, oz⟩ := by
    intro Q A' E' q
    simp only [checkBuiltinCall, tc_kind, tc_split]
    repeat (any_goals (first
      | assumption
      | with_reducible refine wpAny_loadPart_at gC ?_
      | with_reducible refine wpAny_onRaise ?_
      | with_reducible refine wpAny_map ?_
      | wp_step))
  refine codeAny_call_builtin_at (Code.quiet_builtin _ (by decide +kernel)) entry_typeCall (ck (kw_tcall F hT gC hz li lb ?_))
  refine codeAny_mono hq fun r s' z => ?_
  rcases r with e | (v | _ | _ | _) <;> exact z
end
end KwX
end PySem
/-! ### errors of own classes as values -/
namespace ExV
open PySem PySem.Spec PyProof.Rows L2 Evl
/-- at a: an error of the class at C; its field -/
def ErrAt (H : Hp) (a C : Addr) (f : Str) (y : V) : Prop := ∃ dx, H a = some (exo a C (some dx)) ∧ H dx = some (exd dx [(f, y)])
theorem ErrAt.ex {H H' : Hp} {a C : Addr} {f : Str} {y : V} (e : Ex H H') (h : ErrAt H a C f y) : ErrAt H' a C f y := by
  obtain ⟨dx, h1, h2⟩ := h
  exact ⟨dx, e _ _ h1, e _ _ h2⟩
/-- what the written part says of a class with its own __init__ -/
structure Own (K : PySem.W.Frag) (C fI : Addr) : Prop where
  ox : OexC K C
  iC : PySem.W.findIn K (.ref C) "__init__" = some (some (.ref fI))
  tI : PySem.W.typeIn K (.ref fI) = some (.type "function")
def spInitE (C : Addr) (f : Str) : Sp := fun vs H Q _ => ∃ a y, vs = [.ref a, y] ∧ H a = some (exo a C none) ∧ ∀ dx, H dx = none → dx ≠ a → Q .non (upd (upd H dx (exd dx [(f, y)])) a (exo a C (some dx)))
section
variable {X : Cx} {k : Nat} {fI C : Addr} {fd : FuncData} {f : Str} {x : Str} {p pos apos : Pos} {e : Expr}
theorem run_err {pins : List (Addr × Obj)} {σ : L2.St} {H : Hp} {s : Shared} {Q : VK} {us : List Value} {kv : List (Str × Value)} {y : V} {u : Value} (O : Own X.K C fI) (F1 : FnOk X.prog X.w X.K X.mg X.base CX0 k fI fd ["self", f] (spInitE C f)) (hr : Room (k + 1) X.A)
    (I : Inv X pins σ H s) (r : RelV y u) (hz : us.length ≤ sizeLine) (hb : ∀ (s : Shared) (self : Value), X.K.In s.heap → BindsTo s fd ⟨self :: us, kv⟩ ((["self", f] : List Str).zip [self, u]))
    (h : ∀ a H2, H a = none → Ex H H2 → ErrAt H2 a C f y → Q (.ref a) H2) : wpAny (model X.prog X.w) X.A (call (.ref C) us kv) (EP X pins σ Q) X.xe s := by
  obtain ⟨nm, q, N, bs, bm, sn, sub, ab, col, dd, k0, k1, k2, k3, k5, hC, hbm⟩ := O.ox.cls
  obtain ⟨hp, g, dr, tk, os⟩ := s
  have hsz : hp.objs.size ≤ hp.objs.size + 1 := Nat.le_succ _
  have hn : H (hp.objs.size + 1) = none := I.hok.fresh hsz
  have hsp : spInitE C f [.ref (hp.objs.size + 1), y] (upd H (hp.objs.size + 1) (exo (hp.objs.size + 1) C none)) (fun v H2 => v = .non ∧ Q (.ref (hp.objs.size + 1)) H2) E0 := by
    refine ⟨_, y, rfl, upd_same, fun dx hd ne => ⟨rfl, ?_⟩⟩
    have hd' : H dx = none := by
      rw [upd_ne ne] at hd
      exact hd
    refine h _ _ hn (fun b o z => ?_) ⟨dx, upd_same, ?_⟩
    · have n1 : b ≠ hp.objs.size + 1 := ne_of_none z hn
      have n2 : b ≠ dx := ne_of_none z hd'
      rw [upd_ne n1, upd_ne n2, upd_ne n1]
      exact z
    · rw [upd_ne ne, upd_same]
  have kk : ∀ b o, hp.get? b = some o → ((hp.push (PySem.W.kdv_tup us)).push (PySem.HandSPX.excO C hp.objs.size)).get? b = some o :=
    fun b o z => Heap.get?_push_of_some _ (Heap.get?_push_of_some _ z)
  have gx : ((hp.push (PySem.W.kdv_tup us)).push (PySem.HandSPX.excO C hp.objs.size)).get? (hp.objs.size + 1) = some (PySem.HandSPX.excO C hp.objs.size) := by heap_get
  have I2 : Inv X pins σ (upd H (hp.objs.size + 1) (exo (hp.objs.size + 1) C none)) ⟨(hp.push (PySem.W.kdv_tup us)).push (PySem.HandSPX.excO C hp.objs.size), g, dr, tk, os⟩ :=
    I.laid (t' := tk) (a := hp.objs.size + 1) (o := exo (hp.objs.size + 1) C none) (h' := (hp.push (PySem.W.kdv_tup us)).push (PySem.HandSPX.excO C hp.objs.size)) kk hsz (exo_ok gx)
  have r2 : Vals [V.ref (hp.objs.size + 1), y] [Value.ref (hp.objs.size + 1), u] := .cons rfl (.cons r .nil)
  refine wpAny_call (PySem.KwX.kw_own F.excBase_ValueError (fun Y => PySem.HandSPX.refsVE_contains Y bm hbm) (I.kIn _ _ hC) hz (PySem.W.looks_findIn I.kIn O.iC) (fun self => PySem.W.bind_fn I.kIn self O.tI)
    (codeAny_mono (F1.run _ X.stack _ _ ⟨Value.ref (hp.objs.size + 1) :: us, kv⟩ [Value.ref (hp.objs.size + 1), u] [V.ref (hp.objs.size + 1), y] _ E0 (hr.make C us kv) (I2.env0.make C us kv) (hb _ _ I2.kIn) r2 hsp) fun r s' hq' => ?_))
  cases r with
  | error er => exact False.elim hq'
  | ok fl =>
    cases fl with
    | ret u' =>
      obtain ⟨v, H', I3, rv, ev, q3⟩ := I2.after hq'
      subst ev
      exact ⟨rv, ⟨V.ref (hp.objs.size + 1), H', I3, rfl, q3⟩⟩
    | next => exact False.elim hq'
    | brk => exact False.elim hq'
    | cont => exact False.elim hq'
/-- C(e) | C(f = e) | C() -/
def tErr (C : Addr) (f : Str) (ta : TA) : TE := fun σ H Q => ta σ H fun vs H1 => ∃ y, vs = [y] ∧ ∀ a H2, H1 a = none → Ex H1 H2 → ErrAt H2 a C f y → Q (.ref a) H2
def tErr0 (C : Addr) (f : Str) : TE := fun _ H Q => ∀ a H2, H a = none → Ex H H2 → ErrAt H2 a C f .non → Q (.ref a) H2
theorem pe_err (O : Own X.K C fI) (F1 : FnOk X.prog X.w X.K X.mg X.base CX0 k fI fd ["self", f] (spInitE C f)) (hr : Room (k + 1) X.A) (hm : X.mg x = some (.ref C)) (hg : Gl X x) {ta : TA} (ha : PA X [e] ta)
    (hb : ∀ (s : Shared) (self u : Value), X.K.In s.heap → BindsTo s fd ⟨[self, u], []⟩ ((["self", f] : List Str).zip [self, u])) (hdb : (x == ("__debug__" : Str)) = false := by decide)
    (he : starEach (e :: []) X.env = (false, eval e X.env) :: starEach [] X.env := by rfl) (hpl : (backTo pos (starEach [] X.env)).any (·.1) = false := by rfl) :
    PE X (.Call (.Name x p) [e] [] pos) (tErr C f ta) := by
  refine ⟨fun pins s σ H Q I h => ?_⟩
  refine wpAny_Call_Name_kw (ld_glob I hg hm ?_ hdb)
  refine PySem.W.callWith_K (h₀ := X.base) I.ok.mod.kin O.ox.kC (thn (ha.run pos pins s σ H _ I h) fun us s1 ⟨vs, H1, I1, r, y, ev, q⟩ => ⟨I1.kIn, ?_⟩) he hpl
  subst ev
  cases r with
  | cons ry rn =>
    cases rn
    exact run_err O F1 hr I1 ry (by show 1 ≤ sizeLine; decide) (fun s self kin => hb s self _ kin) q
theorem pe_errK (O : Own X.K C fI) (F1 : FnOk X.prog X.w X.K X.mg X.base CX0 k fI fd ["self", f] (spInitE C f)) (hr : Room (k + 1) X.A) (hm : X.mg x = some (.ref C)) (hg : Gl X x) {kws : List Keyword} {tk : TA} (hk : PK X kws tk)
    (hb : ∀ (s : Shared) (self u : Value), X.K.In s.heap → BindsTo s fd ⟨[self], [(f, u)]⟩ ((["self", f] : List Str).zip [self, u])) (hdb : (x == ("__debug__" : Str)) = false := by decide)
    (hall : (backToKw pos (keywordEach kws X.env)).all (·.1.isSome) = true := by rfl) (hks : (backToKw pos (keywordEach kws X.env)).filterMap (·.1) = [f] := by rfl)
    (hpl : ((backTo pos (starEach [] X.env)).any (·.1) || (backToKw pos (keywordEach kws X.env)).any (·.1.isNone)) = false := by rfl) :
    PE X (.Call (.Name x p) [] kws pos) (tErr C f tk) := by
  refine ⟨fun pins s σ H Q I h => ?_⟩
  refine wpAny_Call_Name_kw (ld_glob I hg hm ?_ hdb)
  refine PySem.W.callWith_KW0 (h₀ := X.base) I.ok.mod.kin O.ox.kC hall ?_ hpl
  refine thn (hk.run pos pins s σ H _ I h) fun ws s1 ⟨vs, H1, I1, r, y, ev, q⟩ => ⟨I1.kIn, ?_⟩
  subst ev
  rw [hks]
  cases r with
  | cons ry rn =>
    cases rn
    exact run_err (us := []) O F1 hr I1 ry (Nat.zero_le _) (fun s self kin => hb s self _ kin) q
theorem pe_err0 (O : Own X.K C fI) (F1 : FnOk X.prog X.w X.K X.mg X.base CX0 k fI fd ["self", f] (spInitE C f)) (hr : Room (k + 1) X.A) (hm : X.mg x = some (.ref C)) (hg : Gl X x)
    (hb : ∀ (s : Shared) (self : Value), X.K.In s.heap → BindsTo s fd ⟨[self], []⟩ ((["self", f] : List Str).zip [self, .none])) (hdb : (x == ("__debug__" : Str)) = false := by decide) :
    PE X (.Call (.Name x p) [] [] pos) (tErr0 C f) := by
  refine ⟨fun pins s σ H Q I h => ?_⟩
  refine wpAny_Call_Name_kw (ld_glob I hg hm ?_ hdb)
  exact PySem.W.callWith_K0 I.kIn O.ox.kC (run_err (us := []) (kv := []) (y := .non) (u := .none) O F1 hr I rfl (Nat.zero_le _) hb h)
end

/-! ### their fields, isinstance -/
/-- e.f -/
def tErrF (K : PySem.W.Frag) (f : Str) (te : TE) : TE := fun σ H Q => te σ H fun x H1 => ∃ a C y, x = .ref a ∧ ErrAt H1 a C f y ∧ XfC K C ∧ PySem.W.findIn K (.ref C) f = some none ∧ Q y H1
theorem instAt_err {X : Cx} {pins : List (Addr × Obj)} {σ : L2.St} {H : Hp} {s : Shared} {a C dx : Addr} {fs : List (Str × V)} (I : Inv X pins σ H s) (h1 : H a = some (exo a C (some dx))) (h2 : H dx = some (exd dx fs)) :
    ∃ (oe od : Obj) (mA : Str → Option Value), PySem.W.InstAt s.heap a oe C (some od) ∧ (∀ g, PySem.W.lookIn g od = some (mA g)) ∧ ∀ g, RelO (fs.lookup g) (mA g) := by
  obtain ⟨t1, ho⟩ := exo_at I.hok h1
  obtain ⟨mA, hns, rel⟩ := exd_at I.hok h2
  obtain ⟨od, hod, hl⟩ := lookIn_ns hns
  exact ⟨_, od, mA, ⟨ho, rfl, rfl, hod⟩, hl, rel⟩
theorem pe_errF {X : Cx} {f : Str} {e : Expr} {te : TE} {pos : Pos} (he : PE X e te) (hb : attributeBase e f X.env (eval e X.env) = eval e X.env := by rfl) : PE X (.Attribute e f pos) (tErrF X.K f te) := by
  refine ⟨fun pins s σ H Q I h => ?_⟩
  refine attr_of hb (thn (he.run pins s σ H _ I h) fun u s1 hh => ?_)
  obtain ⟨x, H1, I1, rx, a, C, y, ex, ⟨dx, h1, h2⟩, T, hno, q⟩ := hh
  subst ex
  obtain rfl : u = Value.ref a := rx
  obtain ⟨oe, od, mA, J, hl, rel⟩ := instAt_err I1 h1 h2
  obtain ⟨v, hv, rv⟩ := RelO.some_of (v := y) (o := mA f) (by have r := rel f; simp [List.lookup] at r; exact r)
  exact HandSPX.exc_get I1.kIn J T.ga T.gg T.exC (PySem.W.findObj_own T.hdC hno rfl (by rw [hl, hv])) (handed_of rv) ⟨y, H1, I1.tok _, rv, q⟩
/-- an error stands at a: its class, its dict or none -/
def ErrIs (H : Hp) (a C : Addr) : Prop := H a = some (exo a C none) ∨ ∃ dx fs, H a = some (exo a C (some dx)) ∧ H dx = some (exd dx fs)
theorem ErrAt.is {H : Hp} {a C : Addr} {f : Str} {y : V} (h : ErrAt H a C f y) : ErrIs H a C := by
  obtain ⟨dx, h1, h2⟩ := h
  exact .inr ⟨dx, _, h1, h2⟩
theorem ErrIs.ex {H H' : Hp} {a C : Addr} (e : Ex H H') (h : ErrIs H a C) : ErrIs H' a C := by
  rcases h with h | ⟨dx, fs, h1, h2⟩
  · exact .inl (e _ _ h)
  · exact .inr ⟨dx, fs, e _ _ h1, e _ _ h2⟩
structure IsC (K : PySem.W.Frag) (C : Addr) : Prop where
  cl : (PySem.W.clsIn K C).isSome = true
  xf : XfC K C
  ha : PySem.W.findIn K (.ref C) "__class__" = some (some (.builtin "object.__class__"))
  hn : PySem.W.specialIn K (.builtin "object.__class__") "__get__" = some (some (.builtin "getset_descriptor.__get__"))
  ht : PySem.W.takesIn K (.builtin "object.__class__") = some true
  hm : PySem.W.mroIn K C (.type "object") = some true
def rErrIs (K : PySem.W.Frag) : List V → Hp → VK → Prop := fun xs H Q => ∃ a C c u b, xs = [.ref a, c] ∧ ErrIs H a C ∧ IsC K C ∧ ClsV c u ∧ PySem.W.kitOne K (.ref C) u = some b ∧ Q (.bl b) H
theorem call_errIs {X : Cx} : CallR X (.builtin "isinstance") (rErrIs X.K) := by
  intro pins s σ H xs us Q I r h
  obtain ⟨a, C, c, u, b, rfl, he, T, k, e, q⟩ := h
  obtain ⟨u1, u2, rfl, r1, r2⟩ := vals2 r
  obtain rfl := k.eq r2
  obtain rfl : u1 = Value.ref a := r1
  rcases he with h1 | ⟨dx, fs, h1, h2⟩
  · obtain ⟨t1, ho⟩ := exo_at I.hok h1
    have J : PySem.W.InstAt s.heap a _ C none := ⟨ho, rfl, rfl, trivial⟩
    exact PySem.W.kia_one (PySem.W.kitx_exc T.cl T.xf.ga T.xf.gg T.xf.exC T.ha T.hn T.ht T.hm) I.kIn J e (fun z => nomatch z) fun tk => ⟨.bl b, H, I.tok tk, rfl, q⟩
  · obtain ⟨oe, od, mA, J, _, _⟩ := instAt_err I h1 h2
    exact PySem.W.kia_one (PySem.W.kitx_exc T.cl T.xf.ga T.xf.gg T.xf.exC T.ha T.hn T.ht T.hm) I.kIn J e (fun z => nomatch z) fun tk => ⟨.bl b, H, I.tok tk, rfl, q⟩
/-! ### C(), C without an own __init__ -/
def tBare (C : Addr) : TE := fun _ H Q => ∀ a H2, H a = none → Ex H H2 → ErrIs H2 a C → Q (.ref a) H2
theorem pe_bare {X : Cx} {C : Addr} {bmB : List Value} {B newId initId : String} {x : Str} {p pos : Pos} (F : ExcBaseFacts B newId initId bmB) (q : PySem.W.excIn X.K C bmB newId = true) (gC : X.mg x = some (.ref C)) (kC : PySem.W.keepIn X.K (.ref C) = true) (hg : Gl X x)
    (hdb : (x == ("__debug__" : Str)) = false := by decide) : PE X (.Call (.Name x p) [] [] pos) (tBare C) := by
  refine ⟨fun pins s σ H Q I h => ?_⟩
  refine wpAny_Call_Name_kw (ld_glob I hg gC ?_ hdb)
  refine PySem.W.callWith_K0 I.kIn kC ?_
  show wpAny _ _ (call (.ref C) []) _ _ _
  obtain ⟨bm, N, nm, qn, bs, hdct, sn, sub, ab, col, dd, k0, k1, k2, k3, k5, mN, hC, hN, hni, T⟩ := exc_obj I.kIn q
  obtain ⟨hp, g, d, t, os⟩ := s
  refine wpAny_call_exc_subT F T hC hN hni (fun h' a hm => ?_) (by show 0 ≤ sizeLine; omega)
  have hn : H a = none := I.hok.gone hm.new
  obtain ⟨t1, ht, _, _⟩ := hm.there
  exact ⟨.ref a, upd H a (exo a C none), I.laidN hm.keeps hm.new hn (exo_ok ht), rfl, h a _ hn (Ex.new hn) (.inl upd_same)⟩
end ExV
/-! ### repr of data that stand in the heap: nested lists, tuples, dicts -/
namespace Rep
open PySem PySem.Spec PyProof.Rows L2 Evl
def keyD : Key → PyData
  | .inl i => .int i
  | .inr x => .str x
mutual
inductive Sw (K : PySem.W.Frag) (H : Hp) : V → PyData → Prop
  | non : Sw K H .non .none
  | bl (b : Bool) : Sw K H (.bl b) (.bool b)
  | int (i : Int) : Sw K H (.int i) (.int i)
  | str (x : Str) : Sw K H (.str x) (.str x)
  | lst {a : Addr} {xs : List V} {ds : List PyData} : SqL K H a xs → SwAll K H xs ds → Sw K H (.ref a) (.list ds)
  | tup {a : Addr} {xs : List V} {ds : List PyData} : SqT K H a xs → SwAll K H xs ds → Sw K H (.ref a) (.tuple ds)
  | dct {a : Addr} {kvs : List (Key × V)} {ds : List (PyData × PyData)} : H a = some (.dK kvs) → SwKv K H kvs ds → Sw K H (.ref a) (.dict ds)
inductive SwAll (K : PySem.W.Frag) (H : Hp) : List V → List PyData → Prop
  | nil : SwAll K H [] []
  | cons {v : V} {vs : List V} {d : PyData} {ds : List PyData} : Sw K H v d → SwAll K H vs ds → SwAll K H (v :: vs) (d :: ds)
inductive SwKv (K : PySem.W.Frag) (H : Hp) : List (Key × V) → List (PyData × PyData) → Prop
  | nil : SwKv K H [] []
  | cons {k : Key} {v : V} {kvs : List (Key × V)} {d : PyData} {ds : List (PyData × PyData)} : Sw K H v d → SwKv K H kvs ds → SwKv K H ((k, v) :: kvs) ((keyD k, d) :: ds)
end
theorem SwAll.rep {K : PySem.W.Frag} {H : Hp} {v : V} {d : PyData} (h : Sw K H v d) : ∀ n : Nat, SwAll K H (List.replicate n v) (List.replicate n d)
  | 0 => .nil
  | n + 1 => .cons h (SwAll.rep h n)
mutual
theorem Sw.ex {K : PySem.W.Frag} {H H' : Hp} (e : Ex H H') : ∀ (d : PyData) (v : V), Sw K H v d → Sw K H' v d
  | .none, _, h => by cases h; exact .non
  | .bool b, _, h => by cases h; exact .bl b
  | .int i, _, h => by cases h; exact .int i
  | .str x, _, h => by cases h; exact .str x
  | .list ds, _, h => by
    cases h with
    | lst hs ha => exact .lst (ex_l e hs) (SwAll.ex e ds _ ha)
  | .tuple ds, _, h => by
    cases h with
    | tup hs ha => exact .tup (ex_t e hs) (SwAll.ex e ds _ ha)
  | .dict ds, _, h => by
    cases h with
    | dct hs ha => exact .dct (e _ _ hs) (SwKv.ex e ds _ ha)
theorem SwAll.ex {K : PySem.W.Frag} {H H' : Hp} (e : Ex H H') : ∀ (ds : List PyData) (vs : List V), SwAll K H vs ds → SwAll K H' vs ds
  | [], _, h => by cases h; exact .nil
  | d :: ds, _, h => by
    cases h with
    | cons h1 h2 => exact .cons (Sw.ex e d _ h1) (SwAll.ex e ds _ h2)
theorem SwKv.ex {K : PySem.W.Frag} {H H' : Hp} (e : Ex H H') : ∀ (ds : List (PyData × PyData)) (kvs : List (Key × V)), SwKv K H kvs ds → SwKv K H' kvs ds
  | [], _, h => by cases h; exact .nil
  | (_, d) :: ds, _, h => by
    cases h with
    | cons h1 h2 => exact .cons (Sw.ex e d _ h1) (SwKv.ex e ds _ h2)
end
theorem more_ent {P : Program} {w : World} {as as' : List Addr} {h : Heap} {d d' : Nat} (hs : ∀ b ∈ as, b ∈ as') (hd : d ≤ d') : ∀ {es : List DictEntry} {ps : List Str}, ReprEntriesK P w as h d es ps → ReprEntriesK P w as' h d' es ps
  | _, _, .nil => .nil
  | _, _, .cons a b c => .cons ((a.more hs).level_le hd) ((b.more hs).level_le hd) (more_ent hs hd c)
def Shows (P : Program) (w : World) (h : Heap) (u : Value) (d : PyData) : Prop := (∃ as, Reads h u d as) ∧ ∃ bs, ReadAtMost h d.depth bs ∧ ReprK P w bs h d.depth u d.shown
def ShowsAll (P : Program) (w : World) (h : Heap) (us : List Value) (ds : List PyData) : Prop := (∃ as, ReadsAll h us ds as) ∧ ∃ bs, ReadAtMost h (PyData.depthAll ds) bs ∧ ReprAllK P w bs h (PyData.depthAll ds) us (PyData.shownAll ds)
section
variable {X : Cx} {pins : List (Addr × Obj)} {σ : L2.St} {H : Hp} {s : Shared}
theorem key_shows {k : Key} {u : Value} (hk : keyIs k u = true) (hz : (keyD k).shown.length ≤ sizeLine) (hs : (keyD k).showable = true) : Shows X.prog X.w s.heap u (keyD k) := by
  rcases keyIs_shape hk with ⟨i, t, rfl, rfl⟩ | ⟨x, t, rfl, rfl⟩
  · exact ⟨⟨_, Reads.int i t⟩, [], (fun _ h => nomatch h), by simp only [keyD, PyData.shown]; exact .of_is (ReprIs.int t (by simpa [keyD, PyData.showable] using hs)) _ _ _⟩
  · exact ⟨⟨_, Reads.str x t⟩, [], (fun _ h => nomatch h), by simp only [keyD, PyData.shown]; exact .of_is (ReprIs.str x t (by simpa only [keyD, PyData.shown] using hz)) _ _ _⟩
theorem depth_key (k : Key) : (keyD k).depth = 0 := by cases k <;> simp only [keyD, PyData.depth]
mutual
theorem sw_shows (I : Inv X pins σ H s) : ∀ (d : PyData) (v : V) (u : Value), Sw X.K H v d → RelV v u → d.showable = true → d.shown.length ≤ sizeLine → Shows X.prog X.w s.heap u d
  | .none, _, _, h, r, _, _ => by
    cases h
    cases r
    exact ⟨⟨_, Reads.none⟩, [], (fun _ h => nomatch h), by simp only [PyData.shown]; exact .of_is ReprIs.none _ _ _⟩
  | .bool b, _, _, h, r, _, _ => by
    cases h
    cases r
    exact ⟨⟨_, Reads.bool b⟩, [], (fun _ h => nomatch h), by simp only [PyData.shown]; exact .of_is (ReprIs.bool b) _ _ _⟩
  | .int i, _, _, h, r, hs, _ => by
    cases h
    obtain ⟨t, rfl⟩ := r
    exact ⟨⟨_, Reads.int i t⟩, [], (fun _ h => nomatch h), by simp only [PyData.shown]; exact .of_is (ReprIs.int t (by simpa [PyData.showable] using hs)) _ _ _⟩
  | .str x, _, _, h, r, _, hz => by
    cases h
    obtain ⟨t, rfl⟩ := r
    exact ⟨⟨_, Reads.str x t⟩, [], (fun _ h => nomatch h), by simp only [PyData.shown]; exact .of_is (ReprIs.str x t (by simpa only [PyData.shown] using hz)) _ _ _⟩
  | .list ds, _, _, h, r, hs, hz => by
    cases h with
    | lst hq ha =>
      cases r
      obtain ⟨its, rv, ⟨o, n, h1, h2, _, h3⟩, _⟩ := I.list hq
      have hz' : (listText (PyData.shownAll ds)).length ≤ sizeLine := by simpa only [PyData.shown] using hz
      obtain ⟨⟨as, hr⟩, bs, hb, hk⟩ := sw_showsAll I ds _ its ha rv (by simpa [PyData.showable] using hs) (fun t ht => Nat.le_trans (listText_mem_le ht) hz')
      have rr := Reads.list h1 h2 h3 hr
      have na : _ ∉ bs := not_mem_of_deeper rr (by simp only [PyData.depth]; omega) hb
      refine ⟨⟨_, rr⟩, _ :: bs, ReadAtMost.cons rr (by simp only [PyData.depth]; omega) hb, ?_⟩
      simp only [PyData.depth, PyData.shown]
      cases its with
      | nil =>
        have hr' : ReadsAll s.heap [] ds as := hr
        cases hr'
        simp only [PyData.shownAll, listText_nil]
        exact ReprK.listEmpty h1 h2 h3
      | cons y l => exact ReprK.list h1 h2 h3 na (by simpa using hk.length_eq) fun i z e => hk.item i z (by simpa using e)
  | .tuple ds, _, _, h, r, hs, hz => by
    cases h with
    | tup hq ha =>
      cases r
      obtain ⟨its, rv, ⟨o, h1, h2, n, h3⟩, _⟩ := I.tuple hq
      have hz' : (tupleText (PyData.shownAll ds)).length ≤ sizeLine := by simpa only [PyData.shown] using hz
      obtain ⟨⟨as, hr⟩, bs, hb, hk⟩ := sw_showsAll I ds _ its ha rv (by simpa [PyData.showable] using hs) (fun t ht => Nat.le_trans (tupleText_mem_le ht) hz')
      have rr := Reads.tuple h1 h2 h3 hr
      have na : _ ∉ bs := not_mem_of_deeper rr (by simp only [PyData.depth]; omega) hb
      refine ⟨⟨_, rr⟩, _ :: bs, ReadAtMost.cons rr (by simp only [PyData.depth]; omega) hb, ?_⟩
      simp only [PyData.depth, PyData.shown]
      exact ReprK.tuple h1 h2 h3 na hk
  | .dict ds, _, _, h, r, hs, hz => by
    cases h with
    | dct hq ha =>
      cases r
      obtain ⟨_, hsys, vs, rv, o, es, ep, h1, h2, h3, _, hp, _⟩ := dk_of I.hok hq
      have hz' : (dictText (PyData.shownKv ds)).length ≤ sizeLine := by simpa only [PyData.shown] using hz
      obtain ⟨⟨as1, r1⟩, ⟨as2, r2⟩, bs, hb, hk⟩ := sw_showsKv I ds _ vs es.toList ha rv hp (by simpa [PyData.showable] using hs) (fun t ht => Nat.le_trans (dictText_mem_le ht) hz')
      have rr := Reads.dict h1 h2.1 h3 r1 r2
      have na : _ ∉ bs := not_mem_of_deeper rr (by simp only [PyData.depth]; omega) hb
      refine ⟨⟨_, rr⟩, _ :: bs, ReadAtMost.cons rr (by simp only [PyData.depth]; omega) hb, ?_⟩
      simp only [PyData.depth, PyData.shown]
      exact ReprK.dict h1 h2.1 h3 hsys na hk
theorem sw_showsAll (I : Inv X pins σ H s) : ∀ (ds : List PyData) (vs : List V) (us : List Value), SwAll X.K H vs ds → Vals vs us → PyData.showableAll ds = true → (∀ t ∈ PyData.shownAll ds, t.length ≤ sizeLine) → ShowsAll X.prog X.w s.heap us ds
  | [], _, _, h, r, _, _ => by
    cases h
    cases r
    exact ⟨⟨_, ReadsAll.nil⟩, [], (fun _ h => nomatch h), by simp only [PyData.shownAll]; exact .nil⟩
  | d :: ds, _, _, h, r, hs, hz => by
    cases h with
    | cons h1 h2 =>
      cases r with
      | cons r1 r2 =>
        have hs' : d.showable = true ∧ PyData.showableAll ds = true := by simpa [PyData.showableAll] using hs
        obtain ⟨⟨a1, q1⟩, b1, g1, k1⟩ := sw_shows I d _ _ h1 r1 hs'.1 (hz _ (by simp only [PyData.shownAll]; exact List.mem_cons_self ..))
        obtain ⟨⟨a2, q2⟩, b2, g2, k2⟩ := sw_showsAll I ds _ _ h2 r2 hs'.2 (fun t ht => hz t (by simp only [PyData.shownAll]; exact List.mem_cons_of_mem _ ht))
        refine ⟨⟨_, ReadsAll.cons q1 q2⟩, b1 ++ b2, ?_, ?_⟩
        · simp only [PyData.depthAll]
          exact (g1.mono (Nat.le_max_left _ _)).append (g2.mono (Nat.le_max_right _ _))
        · simp only [PyData.depthAll, PyData.shownAll]
          exact .cons ((k1.more fun b z => List.mem_append_left _ z).level_le (Nat.le_max_left _ _)) (k2.more_le (fun b z => List.mem_append_right _ z) (Nat.le_max_right _ _))
theorem sw_showsKv (I : Inv X pins σ H s) : ∀ (ds : List (PyData × PyData)) (kvs : List (Key × V)) (vs : List (Key × Value)) (es : List DictEntry), SwKv X.K H kvs ds → KV kvs vs → Pairs (mixKind X.prog X.w) es vs → PyData.showableKv ds = true → (∀ t ∈ PyData.shownKv ds, t.length ≤ sizeLine) →
    (∃ as, ReadsAll s.heap (es.map (·.key)) (ds.map (·.1)) as) ∧ (∃ as, ReadsAll s.heap (es.map (·.val)) (ds.map (·.2)) as) ∧ ∃ bs, ReadAtMost s.heap (PyData.depthKv ds) bs ∧ ReprEntriesK X.prog X.w bs s.heap (PyData.depthKv ds) es (PyData.shownKv ds)
  | [], _, _, _, h, r, p, _, _ => by
    cases h
    cases r
    cases p
    exact ⟨⟨_, ReadsAll.nil⟩, ⟨_, ReadsAll.nil⟩, [], (fun _ h => nomatch h), by simp only [PyData.shownKv]; exact .nil⟩
  | (kd, d) :: ds, _, _, _, h, r, p, hs, hz => by
    cases h with
    | cons h1 h2 =>
      cases r with
      | cons r1 r2 =>
        cases p with
        | cons p1 p2 p3 =>
          rename_i k v kvs q vs e es
          obtain ⟨qk, qv⟩ := q
          obtain ⟨e1, rv⟩ := r1
          dsimp only at e1 p1 p2 rv
          subst e1
          have hs' : ((keyD k).showable = true ∧ d.showable = true) ∧ PyData.showableKv ds = true := by simpa [PyData.showableKv] using hs
          have ht : ((keyD k).shown ++ ": " ++ d.shown).length ≤ sizeLine := hz _ (by simp only [PyData.shownKv]; exact List.mem_cons_self ..)
          have l1 : (keyD k).shown.length ≤ ((keyD k).shown ++ ": " ++ d.shown).length := by simp only [Str.length_append]; omega
          have l2 : d.shown.length ≤ ((keyD k).shown ++ ": " ++ d.shown).length := by simp only [Str.length_append]; omega
          obtain ⟨⟨a0, q0⟩, b0, g0, k0⟩ := key_shows (X := X) (s := s) p1 (Nat.le_trans l1 ht) hs'.1.1
          obtain ⟨⟨a1, q1⟩, b1, g1, k1⟩ := sw_shows I d v e.val h1 (by rw [p2]; exact rv) hs'.1.2 (Nat.le_trans l2 ht)
          obtain ⟨⟨a2, q2⟩, ⟨a3, q3⟩, b2, g2, k2⟩ := sw_showsKv I ds _ _ _ h2 r2 p3 hs'.2 (fun t m => hz t (by simp only [PyData.shownKv]; exact List.mem_cons_of_mem _ m))
          have m0 : (keyD k).depth ≤ max (max (keyD k).depth d.depth) (PyData.depthKv ds) := Nat.le_trans (Nat.le_max_left _ _) (Nat.le_max_left _ _)
          have m1 : d.depth ≤ max (max (keyD k).depth d.depth) (PyData.depthKv ds) := Nat.le_trans (Nat.le_max_right _ _) (Nat.le_max_left _ _)
          have m2 : PyData.depthKv ds ≤ max (max (keyD k).depth d.depth) (PyData.depthKv ds) := Nat.le_max_right _ _
          refine ⟨⟨_, ReadsAll.cons q0 q2⟩, ⟨_, ReadsAll.cons q1 q3⟩, b0 ++ (b1 ++ b2), ?_, ?_⟩
          · simp only [PyData.depthKv]
            exact (g0.mono m0).append ((g1.mono m1).append (g2.mono m2))
          · simp only [PyData.depthKv, PyData.shownKv]
            refine .cons ((k0.more fun b z => List.mem_append_left _ z).level_le m0) ((k1.more fun b z => List.mem_append_right _ (List.mem_append_left _ z)).level_le m1) ?_
            exact more_ent (fun b z => List.mem_append_right _ (List.mem_append_right _ z)) m2 k2
end
theorem sw_by (I : Inv X pins σ H s) {a : Addr} {d : PyData} (h : Sw X.K H (.ref a) d) (hs : d.showable = true) (hz : d.shown.length ≤ sizeLine) : ∃ T idr, ShowsBy X.prog X.w s.heap a d T idr := by
  cases h with
  | lst hq ha =>
    rename_i xs ds
    obtain ⟨its, rv, ⟨o, n, h1, h2, _, h3⟩, _⟩ := I.list hq
    have hz' : (listText (PyData.shownAll ds)).length ≤ sizeLine := by simpa only [PyData.shown] using hz
    obtain ⟨⟨as, hr⟩, bs, hb, hk⟩ := sw_showsAll I ds _ its ha rv (by simpa [PyData.showable] using hs) (fun t ht => Nat.le_trans (listText_mem_le ht) hz')
    have na : a ∉ bs := not_mem_of_deeper (Reads.list h1 h2 h3 hr) (by simp only [PyData.depth]; omega) hb
    refine ⟨"list", "list.__repr__", F.slot_list_repr.toG, F.slot_list_str, F.slot_list_format, fun s' kp => ⟨o, kp _ _ h1, h2⟩, fun A E s' Q gd hu kp hQ => ?_⟩
    simp only [PyData.depth] at hu
    simp only [PyData.shown] at hQ
    cases its with
    | nil =>
      have hr' : ReadsAll s.heap [] ds as := hr
      cases hr'
      simp only [PyData.shownAll, listText_nil] at hQ
      exact call_list_repr_empty ⟨o, kp _ _ h1, h2⟩ (kp _ _ h1) h3 (hQ s'.heap _ _ fun _ _ z => z)
    | cons y l => exact call_list_reprK h1 h2 h3 na (by simpa using hk.length_eq) (fun i z e => hk.item i z (by simpa using e)) gd (fun b _ => Clear.nil b) hu kp hQ hz'
  | tup hq ha =>
    rename_i xs ds
    obtain ⟨its, rv, ⟨o, h1, h2, n, h3⟩, _⟩ := I.tuple hq
    have hz' : (tupleText (PyData.shownAll ds)).length ≤ sizeLine := by simpa only [PyData.shown] using hz
    obtain ⟨⟨as, hr⟩, bs, hb, hk⟩ := sw_showsAll I ds _ its ha rv (by simpa [PyData.showable] using hs) (fun t ht => Nat.le_trans (tupleText_mem_le ht) hz')
    have na : a ∉ bs := not_mem_of_deeper (Reads.tuple h1 h2 h3 hr) (by simp only [PyData.depth]; omega) hb
    refine ⟨"tuple", "tuple.__repr__", F.slot_tuple_repr, F.slot_tuple_str, F.slot_tuple_format, fun s' kp => ⟨o, kp _ _ h1, h2⟩, fun A E s' Q gd hu kp hQ => ?_⟩
    simp only [PyData.depth] at hu
    simp only [PyData.shown] at hQ
    exact call_tuple_reprK h1 h2 h3 na hk gd (fun b _ => Clear.nil b) hu kp hQ hz'
  | dct hq ha =>
    rename_i kvs ds
    obtain ⟨_, hsys, vs, rv, o, es, ep, h1, h2, h3, _, hp, _⟩ := dk_of I.hok hq
    have hz' : (dictText (PyData.shownKv ds)).length ≤ sizeLine := by simpa only [PyData.shown] using hz
    obtain ⟨⟨as1, r1⟩, ⟨as2, r2⟩, bs, hb, hk⟩ := sw_showsKv I ds _ vs es.toList ha rv hp (by simpa [PyData.showable] using hs) (fun t ht => Nat.le_trans (dictText_mem_le ht) hz')
    have na : a ∉ bs := not_mem_of_deeper (Reads.dict h1 h2.1 h3 r1 r2) (by simp only [PyData.depth]; omega) hb
    refine ⟨"dict", "dict.__repr__", F.slot_dict_repr, F.slot_dict_str, F.slot_dict_format, fun s' kp => ⟨o, kp _ _ h1, h2.1⟩, fun A E s' Q gd hu kp hQ => ?_⟩
    simp only [PyData.depth] at hu
    simp only [PyData.shown] at hQ
    exact call_dict_reprK h1 h2.1 h3 hsys na hk gd (fun b _ => Clear.nil b) hu kp hQ hz'
/-- repr(x), no container being shown yet -/
def rRepr (K : PySem.W.Frag) : List V → Hp → VK → Prop := fun xs H Q => ∃ v d, xs = [v] ∧ Sw K H v d ∧ d.showable = true ∧ d.shown.length ≤ sizeLine ∧ d.depth ≤ 60 ∧ Q (.str d.shown) H
theorem call_repr (gd : X.A.guards = some []) (hu : X.A.units + 64 < cLine) : CallR X (.builtin "repr") (rRepr X.K) := by
  intro pins s σ H xs us Q I r h
  obtain ⟨v, d, rfl, hsw, hs, hz, hd, q⟩ := h
  obtain ⟨u, rfl, rv⟩ := vals1 r
  have fin : ∀ (h' : Heap) (tk : Nat) (t : Tok), (∀ b o, s.heap.get? b = some o → h'.get? b = some o) → EP X pins σ Q (.str d.shown t) { s with heap := h', toks := tk } := fun h' tk t kp => ⟨.str d.shown, H, I.kept kp, ⟨_, rfl⟩, q⟩
  cases v with
  | non =>
    cases hsw
    cases rv
    simp only [PyData.shown] at fin
    exact PySem.P.repr_of_none (fin _ _ _ fun _ _ z => z)
  | bl b =>
    cases hsw
    cases rv
    simp only [PyData.shown] at fin
    exact PySem.P.repr_of_bool (fin _ _ _ fun _ _ z => z)
  | int i =>
    cases hsw
    obtain ⟨t, rfl⟩ := rv
    simp only [PyData.shown] at fin
    exact PySem.P.repr_of_int (by simpa [PyData.showable] using hs) (fin _ _ _ fun _ _ z => z)
  | str x =>
    cases hsw
    obtain ⟨t, rfl⟩ := rv
    simp only [PyData.shown] at fin hz
    exact PySem.P.repr_of_str (fin _ _ _ fun _ _ z => z) hz
  | ref a =>
    cases rv
    obtain ⟨T, idr, S⟩ := sw_by I hsw hs hz
    exact call_repr_slot (by omega) (S.typeIs s fun _ _ z => z) S.slotRepr (S.call X.A.in1 _ s _ gd (by show X.A.units + 1 + d.depth < cLine; omega) (fun _ _ z => z) fun h' u tk kp => ⟨_, _, rfl, fin h' tk u kp⟩)
  | byt b => cases hsw
  | flt b => cases hsw
  | ty n => cases hsw
end
end Rep
/-! ### defs that ask who else is being shown (repr): promises where no container is being shown yet -/
namespace Gu
open PySem PySem.Spec PyProof.Rows L2
structure FnG (P : Program) (w : World) (K : PySem.W.Frag) (mg : Str → Option Value) (base : Heap) (k : Nat) (f : Addr) (fd : FuncData) (ps : List Str) (sp : Sp) : Prop where
  len : ∀ vs H Q E, sp vs H Q E → vs.length = ps.length
  run : ∀ (A : Around) (outer : List Env) (s : Shared) (H : Hp) (args : Args) (us : List Value) (vs : List V) (Q : VK) (E : XK), A.guards = some [] → Room k A → Env0 P w K mg base A outer s H → BindsTo s fd args (ps.zip us) → Vals vs us → sp vs H Q E →
    codeAny (model P w) A (.call (.ref f) args) (CR CX0 outer P w H s Q E) s
theorem FnG.of {P : Program} {w : World} {K : PySem.W.Frag} {mg : Str → Option Value} {base : Heap} {k : Nat} {f : Addr} {fd : FuncData} {ps : List Str} {sp : Sp} (F : FnOk P w K mg base CX0 k f fd ps sp) : FnG P w K mg base k f fd ps sp :=
  ⟨F.len, fun A outer s H args us vs Q E _ => F.run A outer s H args us vs Q E⟩
theorem FnG.mono {P : Program} {w : World} {K : PySem.W.Frag} {mg : Str → Option Value} {base : Heap} {j k : Nat} {f : Addr} {fd : FuncData} {ps : List Str} {sp : Sp} (F : FnG P w K mg base j f fd ps sp) (h : j ≤ k) : FnG P w K mg base k f fd ps sp :=
  ⟨F.len, fun A outer s H args us vs Q E g hr => F.run A outer s H args us vs Q E g (hr.mono h)⟩
section
variable {P : Program} {w : World} {K : PySem.W.Frag} {mg : Str → Option Value} {base : Heap}
theorem fng_of {k : Nat} {f : Addr} {nm qual : Str} {params : Arguments} {body : List Stmt} {scope : Scope} {dV kV doc pm cdv ct oc : Value} {an od : Option Addr} {osl : Array (Option Value)} {N ps : List Str} {sp : Sp}
    (lk : K.lookup f = some ⟨oc, od, .func (PySem.W.fnOf nm qual params body scope dV kV doc pm an cdv ct), osl⟩) (cr : PySem.W.codeIn K cdv qual = true) (S : FnScope N ps scope) (len : ∀ vs H Q E, sp vs H Q E → vs.length = ps.length)
    (bd : ∀ (A : Around) (outer : List Env) (s : Shared) (H : Hp) (vs : List V) (Q : VK) (E : XK), A.guards = some [] → Room k (A.deeper (envOfC qual scope s.heap.objs.size f cdv)) → sp vs H Q E →
      ∃ t, PSs (cxOf CX0 P w K mg base N qual scope f cdv A outer s H E) body t ∧ t { nx := fun _ H' => Q .non H', rt := Q } (start N vs) H) :
    FnG P w K mg base (k + 1) f (PySem.W.fnOf nm qual params body scope dV kV doc pm an cdv ct) ps sp := by
  refine ⟨len, fun A outer s H args us vs Q E gd hr e0 hb rv hsp => ?_⟩
  have hl := len _ _ _ _ hsp
  have kin : K.In s.heap := e0.mod.kin.keeps fun b o z => (e0.bs b o z).1
  have lim : s.heap.NoLimit := e0.mod.nolimit.keeps fun b o z => (e0.bs b o z).1
  have kinds : ∀ y ∈ ps.zip us, scope.names.lookup y.1 = some .local ∨ (scope.names.lookup y.1 = some .cell ∧ ((cellsFrom (s.heap.objs.size + 1) scope.names []).lookup y.1).isSome = true) := by
    rintro ⟨n, v⟩ hy
    rcases S.par n (List.of_mem_zip hy).1 with q | q
    · exact .inl q
    · exact .inr ⟨q, PySem.W.cellsFrom_some _ _ _ (.inl q)⟩
  refine codeAny_call_function hr.depth (kin _ _ lk) rfl S.co S.gen rfl (PySem.W.codeRec_of kin cr) (hb _ _ _ _ ?_)
  refine wpAny_newFunctionEnv_cells S.kind kinds fun env he s1 ic => ?_
  subst he
  refine ⟨lim.keeps ic.toInCall.keep, codeAny_func ?_⟩
  obtain ⟨t, ht, hq⟩ := bd A outer s H vs Q E gd (hr.deeper _) hsp
  have I : Inv (cxOf CX0 P w K mg base N qual scope f cdv A outer s H E) [] (start N vs) H s1 := inv_start S hr.hd e0 hl rv ic
  refine wpAny_mono (ht.run [] s1 (start N vs) H _ I hq) (fun fl s' hs => ?_) fun e s' hs => hs
  cases fl with
  | ret u =>
    obtain ⟨v, σ', H', J, r', q⟩ := hs
    exact ⟨v, H', J.os, J.bare, J.base, J.hok, r', q⟩
  | next =>
    obtain ⟨σ', H', J, q⟩ := hs
    exact ⟨V.non, H', J.os, J.bare, J.base, J.hok, rfl, q⟩
  | brk => exact False.elim hs.choose_spec.choose_spec.2
  | cont => exact False.elim hs.choose_spec.choose_spec.2
theorem fun_okG {x qual : Str} {st : Stmt} {f : Addr} {fd : FuncData} {N ps : List Str} {k : Nat} {sp : Sp} (F : Fun K x qual st f fd) (S : FnScope N ps (defScope st)) (len : ∀ vs H Q E, sp vs H Q E → vs.length = ps.length)
    (bd : ∀ (cdv : Value) (A : Around) (outer : List Env) (s : Shared) (H : Hp) (vs : List V) (Q : VK) (E : XK), A.guards = some [] → Room k (A.deeper (envOfC qual (defScope st) s.heap.objs.size f cdv)) → sp vs H Q E →
      ∃ t, PSs (cxOf CX0 P w K mg base N qual (defScope st) f cdv A outer s H E).nox (defBody st) t ∧ t { nx := fun _ H' => Q .non H', rt := Q } (start N vs) H) : FnG P w K mg base (k + 1) f fd ps sp := by
  obtain ⟨oc, od, kV, doc, pm, an, cdv, ct, osl, rfl, lk, cr⟩ := F.ex
  refine fng_of lk cr S len fun A outer s H vs Q E gd hr hsp => ?_
  obtain ⟨t, h, q⟩ := bd cdv A outer s H vs Q E gd hr hsp
  exact ⟨t, h.nox, q⟩
end
section
variable {X : Cx} {k : Nat} {f : Addr} {fd : FuncData} {ps : List Str} {sp : Sp} {dvs : List V} {ds : List Value} {E : XK} {x : Str} {p pos : Pos} {e : Expr} {es : List Expr} {t : TA}
theorem pe_callG (F : FnG X.prog X.w X.K X.mg X.base k f fd ps sp) (gd : X.A.guards = some []) (hr : Room k X.A) (hg : Gl X x) (hm : X.mg x = some (.ref f)) (hk : PySem.W.keepIn X.K (.ref f) = true) (hb : Binds X.K fd ps ds) (hd : Vals dvs ds)
    (ha : PA X (e :: es) t) (hdb : (x == ("__debug__" : Str)) = false := by decide) (he : starEach (e :: es) X.env = (false, eval e X.env) :: starEach es X.env := by rfl) (hpl : (backTo pos (starEach es X.env)).any (·.1) = false := by rfl) :
    PE X (.Call (.Name x p) (e :: es) [] pos) (tCall sp dvs E0 t) := by
  refine ⟨fun pins s σ H Q I h => ?_⟩
  refine wpAny_Call_Name_kw (ld_glob I hg hm ?_ hdb)
  refine PySem.W.callWith_K (h₀ := X.base) I.ok.mod.kin hk (thn (ha.run pos pins s σ H _ I h) fun us s1 ⟨vs, H1, I1, rv, q⟩ => ⟨I1.kIn, ?_⟩) he hpl
  show wpAny _ _ (call (.ref f) us) _ _ _
  have r2 : Vals (vs ++ dvs) (us ++ ds) := rv.append hd
  have hl : (us ++ ds).length = ps.length := by
    rw [← r2.length]
    exact F.len _ _ _ _ q
  refine wpAny_call (codeAny_mono (F.run X.A X.stack s1 H1 ⟨us, []⟩ (us ++ ds) (vs ++ dvs) Q E0 gd hr I1.env0 (hb s1 us I1.kIn hl) r2 q) fun r s' hq => ?_)
  cases r with
  | error er => exact False.elim hq
  | ok fl =>
    cases fl with
    | ret u => exact I1.after hq
    | next => exact False.elim hq
    | brk => exact False.elim hq
    | cont => exact False.elim hq
end
theorem law_callG {P : Program} {w : World} {K : PySem.W.Frag} {mg mb : Str → Option Value} {k : Nat} {fa a : Addr} {fd : FuncData} {x : Str} {sp : Sp} {s1 : Shared} {vs : List Value} {ns : List Int} (kin : K.In s1.heap) (hns : s1.heap.Ns mainGlobals mg)
    (hb : s1.heap.Ns builtinsNs mb) (hbb : ∀ x : Str, x ≠ "__name__" → mb x = bootBuiltins x) (hlim : s1.heap.NoLimit) (hg : s1.gens = #[]) (ha : s1.heap.get? a = some { cls := .type "list", data := .seq vs.toArray }) (hi : IntsAre vs ns) (hl : ns.length ≤ sizeLine)
    (hr : Room k callerA) (F : ∀ base : Heap, K.In base → base.Ns mainGlobals mg → FnG P w K mg base k fa fd [x] sp) (hbind : ∀ (s : Shared) (u : Value), BindsTo s fd ⟨[u], []⟩ [(x, u)])
    (hsp : ∀ H : Hp, Only H → SqL K H a (ns.map V.int) → sp [.ref a] H (fun v _ => v = .bl true) fun _ _ _ => False) :
    codeAny (model P w) callerA (.call (.ref fa) ⟨[.ref a], []⟩) (fun r s' => r = .ok (.ret (.bool true)) ∧ OldK s1.heap s'.heap ∧ s'.os = s1.os ∧ AllBare s'.gens) s1 := by
  have rv := vals_ints hi
  have lv := hi.length
  have main : ∀ H : Hp, Only H → SqL K H a (ns.map V.int) → HOk P w H s1.heap → (∀ b, H b ≠ none → b = a) → (H a ≠ none → K.lookup a = none) →
      codeAny (model P w) callerA (.call (.ref fa) ⟨[.ref a], []⟩) (fun r s' => r = .ok (.ret (.bool true)) ∧ OldK s1.heap s'.heap ∧ s'.os = s1.os ∧ AllBare s'.gens) s1 := by
    intro H hO hS hok hA hK
    have keep1 : ∀ {b : Addr} {o : Obj} {es : Array DictEntry} {ep : Nat}, s1.heap.get? b = some o → o.data = .dict es ep → H b = none := by
      intro b o es ep z d
      cases q : H b with
      | none => rfl
      | some u =>
        obtain rfl : b = a := hA b (by rw [q]; simp)
        rw [ha] at z
        cases z
        have d' : Data.seq vs.toArray _ = Data.dict es ep := d
        cases d'
    have nsK : ∀ {b : Addr} {m : Str → Option Value}, s1.heap.Ns b m → (hidT s1.heap H).Ns b m := fun {b m} ⟨o, es, ep, z, d, r⟩ => ⟨o, es, ep, hidT_get z (keep1 z d), d, r⟩
    have kb : K.In (hidT s1.heap H) := by
      intro b o z
      refine hidT_get (kin b o z) ?_
      cases q : H b with
      | none => rfl
      | some u =>
        obtain rfl : b = a := hA b (by rw [q]; simp)
        rw [hK (by rw [q]; simp)] at z
        cases z
    have hM : Mod K mg (hidT s1.heap H) := ⟨kb, nsK hns, ⟨mb, nsK hb, hbb⟩, let ⟨mc, h1, h2⟩ := hlim; ⟨mc, nsK h1, h2⟩⟩
    have e0 : Env0 P w K mg (hidT s1.heap H) callerA [] s1 H := ⟨rfl, hM, fun b o z => of_hidT z, Nat.le_of_eq (hidT_size _ _), trivial, fun b z => absurd (show b ∈ ([] : List Addr) from z) (by simp), hok, .of_eq hg⟩
    refine codeAny_mono ((F _ kb (nsK hns)).run callerA [] s1 H ⟨[.ref a], []⟩ [.ref a] [.ref a] _ _ rfl hr e0 (hbind s1 (.ref a)) (.cons rfl .nil) (hsp H hO hS)) fun r s' h => ?_
    cases r with
    | error er => exact False.elim h
    | ok fl =>
      cases fl with
      | next => exact False.elim h
      | brk => exact False.elim h
      | cont => exact False.elim h
      | ret u =>
        obtain ⟨v, H', os, bare, un, hok', r', q⟩ := h
        obtain rfl : v = .bl true := q
        obtain rfl : u = Value.bool true := r'
        refine ⟨rfl, OldK.of_keep fun b o z => ?_, os, bare⟩
        cases q : H b with
        | none => exact un.keep b o z q (fun y => absurd (show b ∈ ([] : List Addr) from y) (by simp)) (by simp)
        | some u =>
          rcases hO b with y | ⟨ob, xs, y⟩
          · rw [q] at y
            cases y
          · have y2 := un.frzs b ob _ y
            obtain ⟨e1, _⟩ := hok b _ y
            obtain ⟨e2, _⟩ := hok' b _ y2
            rw [z] at e1
            cases e1
            exact e2
  cases hk : K.lookup a with
  | some o =>
    have z := kin a o hk
    rw [ha] at z
    cases z
    exact main (fun _ => none) (fun _ => .inl rfl) (.inr ⟨_, vs.toArray, _, hk, rfl, rfl, rfl, by rw [List.size_toArray, lv]; exact hl, by simpa using rv⟩) (fun b u z => by cases (show (none : Option HO) = some u from z)) (fun b z => absurd rfl z) fun z => absurd rfl z
  | none =>
    refine main (fun b => if b = a then some (.frz { cls := .type "list", data := .seq vs.toArray } (.lst (ns.map V.int))) else none) (fun b => ?_) (.inl (.inr ⟨{ cls := .type "list", data := .seq vs.toArray }, if_pos rfl⟩)) (fun b u z => ?_) (fun b z => ?_) fun _ => hk
    · by_cases hq : b = a
      · exact .inr ⟨_, _, if_pos hq⟩
      · exact .inl (if_neg hq)
    · by_cases hq : b = a
      · cases (if_pos hq).symm.trans z
        subst hq
        exact ⟨ha, by rw [List.length_map]; exact hl, vs, _, rv, ha⟩
      · cases (if_neg hq).symm.trans z
    · by_cases hq : b = a
      · exact hq
      · exact absurd (if_neg hq) z
theorem walkG {l : PySem.W.OpenLaw} {n k : Nat} {q : Program} {loose : List Str} {XP : (Str → Option Value) → Heap → Prop} {YP : World → Heap → Prop} {d : DefRec} {K : Params → PySem.W.Frag} {sp : PySem.W.Frag → Sp} {x : Str}
    (hn : l.most = some n) (hn2 : n ≤ sizeLine) (hdf : d.params.defaults = []) (hr : Room k callerA) (hY : ∀ (w : World) (h : Heap), YP w h → (K w.params).In h)
    (F : ∀ (w : World) (mg : Str → Option Value) (fa : Addr) (h : Heap), (K w.params).In h → h.Ns mainGlobals mg → mg d.name = some (.ref fa) →
      ∃ fd : FuncData, (∀ (s : Shared) (u : Value), BindsTo s fd ⟨[u], []⟩ [(x, u)]) ∧ ∀ base : Heap, (K w.params).In base → base.Ns mainGlobals mg → FnG l.prog w (K w.params) mg base k fa fd [x] (sp (K w.params)))
    (hsp : ∀ (K : PySem.W.Frag) (H : Hp) (a : Addr) (ns : List Int), ns.length ≤ n → SqL K H a (ns.map V.int) → sp K [.ref a] H (fun v _ => v = .bl true) fun _ _ _ => False) :
    PySem.W.WalkO q loose XP YP l.row.toRowW d [] (fun f vs => PySem.call f vs) := by
  refine Att.attach_call hn hdf fun w s₀ s1 mg mb fa o pm cd doc a vs ns G Y ho hd hcd hmg hobj hints hlen hg => ?_
  have kin := hY w _ Y
  obtain ⟨fd, hb, hF⟩ := F w mg fa _ kin G.T.g hmg
  exact law_callG kin G.T.g G.T.b G.T.builtins G.T.nolimit hg hobj hints (Nat.le_trans hlen hn2) hr hF hb fun H _ hS => hsp _ H a ns hlen hS
end Gu
/-! ### data of any kind: a text and a dict are not equal -/
namespace Dat
open PySem PySem.Spec PyProof.Rows PySem.SeqAt
open AutoSeq1 (wpAny_loadPart')
open MeetsSeq MeetsSeq2 MeetsSeq3 SeqRoads2
theorem dict_declines_str (a : Addr) (es : Array DictEntry) (ep : Nat) (dd : Option Addr) (sl : Array (Option Value)) (b : Str) (u : Tok) :
    Meets (Builtin.«dict.__eq__» ⟨[.ref a, .str b u], []⟩) (fun _ R s => s.heap.get? a = some { cls := .type "dict", dict := dd, data := .dict es ep, slots := sl } ∧ R (.ok (.ret .notImplemented)) s) :=
  .of_wp fun prog w A R s h => by
    obtain ⟨hp, g, d, tk, os⟩ := s
    obtain ⟨ha, h⟩ := h
    have f1 := F.sub_str_dict
    wp_walk using wpAny_loadPart' ha
    exact ⟨_, rfl, h⟩
theorem str_declines_dict (a : Addr) (es : Array DictEntry) (ep : Nat) (dd : Option Addr) (sl : Array (Option Value)) (b : Str) (u : Tok) :
    Meets (Builtin.«str.__eq__» ⟨[.str b u, .ref a], []⟩) (fun _ R s => s.heap.get? a = some { cls := .type "dict", dict := dd, data := .dict es ep, slots := sl } ∧ R (.ok (.ret .notImplemented)) s) :=
  .of_wp fun prog w A R s h => by
    obtain ⟨hp, g, d, tk, os⟩ := s
    obtain ⟨ha, h⟩ := h
    wp_walk using wpAny_loadPart' ha, wpAny_load ha
    exact ⟨_, rfl, h⟩
theorem rc_str_dict {A : Around} {s : Shared} {a : Addr} {o : Obj} {es : Array DictEntry} {ep : Nat} (b : Str) (u : Tok) (ho : s.heap.get? a = some o) (hc : o.cls = .type "dict") (hd : o.data = .dict es ep) (hu : A.units < cLine) : RcAt A s (.str b u) (.ref a) false := fun prog w E Q h => by
  obtain ⟨cls, dd, data, sl⟩ := o
  dsimp only at hc hd
  subst hc hd
  exact rc_eq_decline_or (k := false) (typeIs_str s b u) ⟨_, ho, rfl⟩ (by decide) F.sub_dict_str F.slot_str_eq F.slot_dict_eq_refl
    (fun _ hq => call_meets F.slot_str_eq (typeIs_str s b u) F.entry_str_eq (F.args_str_eq_2 _ _) (str_declines_dict a es ep dd sl b u) ⟨ho, hq⟩)
    (fun _ hq => call_meets F.slot_dict_eq_refl ⟨_, ho, rfl⟩ F.entry_dict_eq (F.args_dict_eq_2 _ _) (dict_declines_str a es ep dd sl b u) ⟨ho, hq⟩)
    (fun _ hq => wpAny_of_eq (rfl : isSame (.str b u) (.ref a) = pure false) hq) (.inr hu) h
theorem at_str_dict {A : Around} {s : Shared} {a : Addr} {o : Obj} {es : Array DictEntry} {ep : Nat} (b : Str) (u : Tok) (ho : s.heap.get? a = some o) (hc : o.cls = .type "dict") (hd : o.data = .dict es ep) (hu : A.units < cLine) : EqAt A s (.str b u) (.ref a) false := fun prog w E Q h => by
  unfold eqBool
  refine wpAny_holding (wpAny_ite_split (fun z => absurd (eq_of_beq z) nofun) fun _ => ?_)
  exact wpAny_bind (rc_str_dict b u ho hc hd hu prog w E _ (wpAny_truthy_bool h))
end Dat
/-! ### data of any kind: what kind, whether among texts, whether a name -/
namespace Dat
open PySem PySem.Spec PyProof.Rows L2 Evl Rep
def tyD : PyData → String
  | .none => "NoneType"
  | .bool _ => "bool"
  | .int _ => "int"
  | .str _ => "str"
  | .list _ => "list"
  | .tuple _ => "tuple"
  | .dict _ => "dict"
theorem sw_ty {K : PySem.W.Frag} {H : Hp} {v : V} {d : PyData} (h : Sw K H v d) : TyX K H v (.type (tyD d)) := by
  cases h with
  | non => exact .base .non
  | bl b => exact .base (.bl b)
  | int i => exact .base (.int i)
  | str x => exact .base (.str x)
  | lst h _ =>
    rcases h with (h | ⟨o, h⟩) | ⟨o, its, n, h1, h2, _⟩
    · exact .base (.lst h)
    · exact .base (.frz h)
    · exact .kList h1 h2
  | tup h _ =>
    rcases h with (h | ⟨o, h⟩) | ⟨o, its, n, h1, h2, _⟩
    · exact .base (.tup h)
    · exact .fTuple h
    · exact .kTuple h1 h2
  | dct h _ => exact .base (.dK h)
def isStr : PyData → Bool
  | .str _ => true
  | _ => false
def isList : PyData → Bool
  | .list _ => true
  | _ => false
def isTup : PyData → Bool
  | .tuple _ => true
  | _ => false
theorem kit_str (K : PySem.W.Frag) (d : PyData) : PySem.W.kitOne K (.type (tyD d)) (.type "str") = some (isStr d) := by
  cases d
  · exact kit_ty (a := "NoneType") (b := "str") (r := false) (by decide +kernel)
  · exact kit_ty (a := "bool") (b := "str") (r := false) (by decide +kernel)
  · exact kit_ty (a := "int") (b := "str") (r := false) (by decide +kernel)
  · exact kit_ty (a := "str") (b := "str") (r := true) (by decide +kernel)
  · exact kit_ty (a := "list") (b := "str") (r := false) (by decide +kernel)
  · exact kit_ty (a := "tuple") (b := "str") (r := false) (by decide +kernel)
  · exact kit_ty (a := "dict") (b := "str") (r := false) (by decide +kernel)
theorem kit_list (K : PySem.W.Frag) (d : PyData) : PySem.W.kitOne K (.type (tyD d)) (.type "list") = some (isList d) := by
  cases d
  · exact kit_ty (a := "NoneType") (b := "list") (r := false) (by decide +kernel)
  · exact kit_ty (a := "bool") (b := "list") (r := false) (by decide +kernel)
  · exact kit_ty (a := "int") (b := "list") (r := false) (by decide +kernel)
  · exact kit_ty (a := "str") (b := "list") (r := false) (by decide +kernel)
  · exact kit_ty (a := "list") (b := "list") (r := true) (by decide +kernel)
  · exact kit_ty (a := "tuple") (b := "list") (r := false) (by decide +kernel)
  · exact kit_ty (a := "dict") (b := "list") (r := false) (by decide +kernel)
theorem kit_tup (K : PySem.W.Frag) (d : PyData) : PySem.W.kitOne K (.type (tyD d)) (.type "tuple") = some (isTup d) := by
  cases d
  · exact kit_ty (a := "NoneType") (b := "tuple") (r := false) (by decide +kernel)
  · exact kit_ty (a := "bool") (b := "tuple") (r := false) (by decide +kernel)
  · exact kit_ty (a := "int") (b := "tuple") (r := false) (by decide +kernel)
  · exact kit_ty (a := "str") (b := "tuple") (r := false) (by decide +kernel)
  · exact kit_ty (a := "list") (b := "tuple") (r := false) (by decide +kernel)
  · exact kit_ty (a := "tuple") (b := "tuple") (r := true) (by decide +kernel)
  · exact kit_ty (a := "dict") (b := "tuple") (r := false) (by decide +kernel)
theorem ev_isi {K : PySem.W.Frag} {σ : L2.St} {H : Hp} {te : TE} {v : V} {d : PyData} {T : String} {b : Bool} (he : Ev te σ H v) (h : Sw K H v d) (k : PySem.W.kitOne K (.type (tyD d)) (.type T) = some b) :
    Ev (tCB (rIsi K) (tCons te (tCons (tC (.ty T)) tNil))) σ H (.bl b) := fun H1 e Q q =>
  he H1 e _ fun H2 e2 => ⟨v, .ty T, .type (tyD d), .type T, b, rfl, .ty T, sw_ty (Sw.ex (e.trans e2) d v h), k, q H2 e2⟩
/-! in -/
def sIn (l : List Str) : PyData → Bool
  | .str s => decide (s ∈ l)
  | _ => false
def rInS (K : PySem.W.Frag) : R2 := fun x y H Q => ∃ d l a, Sw K H x d ∧ y = .ref a ∧ SqL K H a (l.map V.str) ∧ Q (.bl (sIn l d)) H
def isS (l : Str) : Value → Bool
  | .str b _ => b == l
  | _ => false
theorem any_strs {l : List Str} : ∀ {us : List Value} {x : Str}, Vals (l.map V.str) us → us.any (isS x) = decide (x ∈ l) := by
  induction l with
  | nil => intro us x r; cases r; rfl
  | cons y l ih =>
    intro us x r
    cases r with
    | cons r1 r2 =>
      obtain ⟨t, rfl⟩ := r1
      rw [List.any_cons, ih r2]
      show ((y == x) || _) = _
      by_cases e : y = x
      · subst e
        simp
      · have e' : ¬ x = y := fun z => e z.symm
        simp [e, e']
theorem vals_strs {l : List Str} : ∀ {us : List Value}, Vals (l.map V.str) us → ∀ u ∈ us, ∃ b t, u = .str b t := by
  induction l with
  | nil => intro us r u hu; cases r; cases hu
  | cons y l ih =>
    intro us r u hu
    cases r with
    | cons r1 r2 =>
      cases hu with
      | head => obtain ⟨t, rfl⟩ := r1; exact ⟨_, _, rfl⟩
      | tail _ hu => exact ih r2 u hu
theorem op_inS {X : Cx} (hu : X.A.units + 65 < cLine) : OpR X (compareOp .In) (rInS X.K) := by
  intro pins s σ H x y v u Q I rx ry h
  obtain ⟨d, l, a, hd, rfl, hl, q⟩ := h
  obtain rfl : u = .ref a := ry
  obtain ⟨its, rv, ht, _⟩ := I.list hl
  have hu1 : X.A.in1.units < cLine := by show X.A.units + 1 < cLine; omega
  have hst := vals_strs rv
  have fin : ∀ e : Value → Bool, (∀ y ∈ its, SeqAt.EqAt X.A.in1 s y v (e y)) → its.any e = sIn l d → wpAny (model X.prog X.w) X.A (compareOp .In v (.ref a)) (EP X pins σ Q) X.xe s := fun e he hb =>
    SeqAt.in_listAt (items := its.toArray) e ht.isList (fun y hy => he y (by simpa using hy)) (by
      have : its.toArray.any e = its.any e := by simp
      rw [this, hb]
      exact ⟨.bl _, H, I, rfl, q⟩)
  have no : sIn l d = false → (∀ b t, SeqAt.EqAt X.A.in1 s (.str b t) v false) → wpAny (model X.prog X.w) X.A (compareOp .In v (.ref a)) (EP X pins σ Q) X.xe s := fun h0 h1 =>
    fin (fun _ => false) (fun y hy => by obtain ⟨b, t, rfl⟩ := hst y hy; exact h1 b t) (by rw [h0]; simp)
  cases hd with
  | non => cases rx; exact no rfl fun b t => SeqAt.EqAt.str_none b t
  | bl y => cases rx; exact no rfl fun b t => SeqAt.EqAt.str_bool b t y
  | int i => obtain ⟨t0, rfl⟩ := rx; exact no rfl fun b t => SeqAt.EqAt.str_int b t i t0
  | str z =>
    obtain ⟨t0, rfl⟩ := rx
    refine fin (isS z) (fun y hy => ?_) (any_strs rv)
    obtain ⟨b, t, rfl⟩ := hst y hy
    exact SeqAt.EqAt.str_str b t z t0
  | lst hs _ =>
    cases rx
    obtain ⟨its2, _, ht2, _⟩ := I.list hs
    exact no rfl fun b t => SeqAt.EqAt.str_list b t ht2.isList hu1
  | tup hs _ =>
    cases rx
    obtain ⟨its2, _, ht2, _⟩ := I.tuple hs
    exact no rfl fun b t => SeqAt.EqAt.str_tuple b t ht2 hu1
  | dct hs _ =>
    cases rx
    obtain ⟨_, _, vs, rv2, o, es, ep, h1, h2, h3, _⟩ := dk_of I.hok hs
    exact no rfl fun b t => at_str_dict b t h1 h2.1 h3 hu1
theorem ev_in {K : PySem.W.Frag} {σ : L2.St} {H : Hp} {ta tb : TE} {x : V} {d : PyData} {l : List Str} {a : Addr} (ha : Ev ta σ H x) (hb : Ev tb σ H (.ref a)) (hx : Sw K H x d) (hl : SqL K H a (l.map V.str)) : Ev (tOp (rInS K) ta tb) σ H (.bl (sIn l d)) := fun H1 e Q q =>
  ha H1 e _ fun H2 e2 => hb H2 (e.trans e2) _ fun H3 e3 => ⟨d, l, a, Sw.ex ((e.trans e2).trans e3) d x hx, rfl, ex_l ((e.trans e2).trans e3) hl, q H3 (e2.trans e3)⟩
end Dat
/-! ### is_name -/
namespace Nm
open PySem PySem.Spec PyProof.Rows L2 Evl Gen Rep Dat
/-- the built-in names that the program speaks of -/
structure Bt (mg : Str → Option Value) : Prop where
  isi : mg "isinstance" = none
  str : mg "str" = none
  list : mg "list" = none
  tuple : mg "tuple" = none
  len : mg "len" = none
  all : mg "all" = none
  enum : mg "enumerate" = none
  sorted : mg "sorted" = none
  set : mg "set" = none
  repr : mg "repr" = none
  range : mg "range" = none
/-- a small letter -/
def low (c : Nat) : Bool := decide (97 ≤ c) && decide (c ≤ 122)
def nmS (z : Str) : Bool := decide (1 ≤ z.length) && decide (z.length ≤ 8) && z.cps.toList.all low
def isNm : PyData → Bool
  | .str z => nmS z
  | _ => false
/-- a text of it, if it is one, is no longer than that -/
def Fit (d : PyData) : Prop := ∀ z, d = .str z → z.length ≤ 40000
/-- comprehensions over a text -/
theorem el_lcS {σ : L2.St} {H : Hp} {tl te : TE} {t : TT} {z : Str} {j : Nat} {vs : List Nat} (f : Nat → Bool) (v : Nat → V) (h : Ev tl σ H (.str z)) (hz : z.length ≤ 40000) (hw : ∀ x, wipe ((wipe σ vs).set j (some x)) vs = wipe σ vs)
    (ht : ∀ (i c : Nat) H1, Ex H H1 → z.cps[i]? = some c → EvT t ((wipe σ vs).set j (some (.str ⟨#[c]⟩))) H1 (f i)) (he : ∀ (i c : Nat) H1, Ex H H1 → z.cps[i]? = some c → f i = true → Ev te ((wipe σ vs).set j (some (.str ⟨#[c]⟩))) H1 (v i)) :
    EvL (tLc (iStr tl) (gName j) t te vs) σ H (given z.length f v) := fun H0 e Q q => h H0 e _ fun H1 e1 => ⟨z, rfl, fun Dl hD =>
  lc_it (walk_str (z := z)) (Cw H1 f v Dl) ⟨hD, Ex.new hD, upd_same⟩ (fun _ _ _ _ => trivial) (fun i x H' H'' hi p y => by
    obtain ⟨rfl, c, hc, rfl⟩ := y
    have hi' : i < z.length := hi
    exact ⟨hw _, cw_turn p (by omega) (ht i c H1 (e.trans e1) hc) (fun hf => he i c H1 (e.trans e1) hc hf)⟩) (fun H' p => q Dl H' (fresh_back e1 p.1) (e1.trans p.2.1) p.2.2)⟩
/-- a call on values whose one argument is a new list -/
theorem ev_cbL {r : List V → Hp → VK → Prop} {te : TE} {σ : L2.St} {H : Hp} {xs : List V} {z : V} (h : EvL te σ H xs) (hr : ∀ p H1, H1 p = some (.lst xs) → Ex H H1 → ∀ Q : VK, Q z H1 → r [.ref p] H1 Q) : Ev (tCB r (tCons te tNil)) σ H z := fun H1 e Q q =>
  h H1 e _ fun p H2 _ e2 hp => hr p H2 hp (e.trans e2) Q (q H2 e2)
theorem rv_le {H : Hp} {i j : Int} : RV (rI0 fun i j => .bl (decide (i ≤ j))) (.int i) (.int j) H (.bl (decide (i ≤ j))) := rv_I0
theorem ev_chain {r r' : R2} {ta tb tc : TE} {σ : L2.St} {H : Hp} {x y z : V} {a b : Bool} (ha : Ev ta σ H x) (hb : Ev tb σ H y) (hc : Ev tc σ H z) (h1 : RV r x y H (.bl a)) (h2 : RV r' y z H (.bl b)) : Ev (tChain r r' ta tb tc) σ H (.bl (a && b)) := fun H1 e Q q =>
  ha H1 e _ fun H2 e2 => hb H2 (e.trans e2) _ fun H3 e3 => h1 H3 ((e.trans e2).trans e3) _ fun H4 e4 => ⟨a, rfl, by
    cases a with
    | true =>
      show tc σ H4 _
      exact hc H4 (((e.trans e2).trans e3).trans e4) _ fun H5 e5 => h2 H5 ((((e.trans e2).trans e3).trans e4).trans e5) _ fun H6 e6 => q H6 ((((e2.trans e3).trans e4).trans e5).trans e6)
    | false => exact q H4 ((e2.trans e3).trans e4)⟩
abbrev rLeS : R2 := fun x y H Q => ∃ i j, x = .str i ∧ y = .str j ∧ Q (.bl (!decide (j.cps.toList < i.cps.toList))) H
theorem rv_leS {H : Hp} {i j : Str} : RV rLeS (.str i) (.str j) H (.bl (!decide (j.cps.toList < i.cps.toList))) := fun H1 _ _ q => ⟨i, j, rfl, rfl, q H1 (Ex.refl H1)⟩
theorem lex1 (a c : Nat) : ([a] < [c]) = (a < c) := by
  simp [List.cons_lt_cons_iff]
theorem letters (z : Str) (v : Nat → V) (h : ∀ i c, z.cps[i]? = some c → v i = .bl (low c)) : given z.length (fun _ => true) v = (z.cps.toList.map low).map V.bl := by
  unfold given
  rw [List.filter_eq_self.mpr (fun _ _ => rfl)]
  apply List.ext_getElem
  · simp [Str.length]
  · intro i h1 h2
    have hi : i < z.cps.size := by simpa [Str.length] using h1
    have e := h i z.cps[i] (Array.getElem?_eq_getElem hi)
    simp [e]
def spName (K : PySem.W.Frag) : Sp := fun vs H Q _ => ∃ v d, vs = [v] ∧ Sw K H v d ∧ Fit d ∧ ∀ H', Ex H H' → Q (.bl (isNm d)) H'
abbrev sName : Stmt := top 9
theorem scNm : FnScope ["value", "letter"] ["value"] (defScope sName) := ⟨rfl, rfl, rfl, by decide +kernel, rfl, by decide +kernel, by decide +kernel⟩
section
variable {P : Program} {w : World} {K : PySem.W.Frag} {mg : Str → Option Value} {base : Heap}
theorem ok_name {f : Addr} {fd : FuncData} (F : Fun K "is_name" "is_name" sName f fd) (B : Bt mg) : FnOk P w K mg base CX0 1 f fd ["value"] (spName K) := by
  refine F.ok scNm (fun vs H Q E h => ?_) (fun cdv A outer s H vs Q E hr h => ?_)
  · obtain ⟨v, d, rfl, _⟩ := h
    rfl
  · obtain ⟨v, d, rfl, hd, ft, kq⟩ := h
    refine ⟨_, (pss_cons (ps_if (PW.pt (pw_or (pt_not (pt_val (pe_callB call_isi (by rfl) B.isi (by decide +kernel) (pa_cons (pv 0) (pa_cons (pe_bltn (v := .ty "str") (by rfl) B.str (by decide +kernel) rfl) pa_nil))))) (pw_or1 (pt_not (pt_chain op_le op_le pe_int (pe_callB call_len_str (by rfl) B.len PySem.boot_len (pa_cons (pv 0) pa_nil)) pe_int))))) (pss_one (ps_ret pe_bl)) pss_nil)
      (pss_one (ps_ret (pe_callB (cr_all rfl) (by rfl) B.all (by decide +kernel) (pa_cons (pe_lc (own := [("letter", 1)]) (g := gName 1) (tt := tYes) rfl scNm.nd (pi_str (pv 0)) (blkOk_by (N := ["value", "letter"]) (sc := defScope sName) (by decide +kernel)) (fun _ _ _ _ _ => pg_name (i := 1) scNm.nd rfl (Or.inl rfl)) (fun _ _ _ _ _ => pts_nil) (fun _ _ _ _ _ => pe_chain op_le_str op_le_str pe_str (pv 1) pe_str)) pa_nil))))), ?_⟩
    have h1 : Ev (tCB (rIsi K) (tCons (tVar 0) (tCons (tC (.ty "str")) tNil))) (start ["value", "letter"] [v]) H (.bl (isStr d)) := ev_isi (ev_var rfl) hd (kit_str K d)
    cases hs : isStr d with
    | false =>
      refine q_when (b := true) (et_is (et_or (et_not (et_B h1)) (b := true) (fun z => ?_)) (by rw [hs]; rfl)) (fun _ H1 e1 => s_ret ev_c fun H2 e2 => ?_) (fun z => nomatch z)
      · rw [hs] at z
        cases z
      · have hn : isNm d = false := by cases d <;> first | rfl | cases hs
        have q := kq H2 (e1.trans e2)
        rw [hn] at q
        exact q
    | true =>
      obtain ⟨z, rfl⟩ : ∃ z, d = .str z := by cases d <;> first | exact ⟨_, rfl⟩ | cases hs
      cases hd with
      | str =>
        have hz := ft z rfl
        have h2 : Ev (tChain (rI0 fun i j => .bl (decide (i ≤ j))) (rI0 fun i j => .bl (decide (i ≤ j))) (tC (.int 1)) (tCB (fun xs H Q => ∃ z, xs = [.str z] ∧ z.length ≤ sizeLine ∧ Q (.int z.length) H) (tCons (tVar 0) tNil)) (tC (.int 8))) (start ["value", "letter"] [V.str z]) H (.bl (decide ((1 : Int) ≤ z.length) && decide ((z.length : Int) ≤ 8))) :=
          ev_chain ev_c (ev_cb (ea_cons (ev_var rfl) ea_nil) fun H1 _ Q q => ⟨z, rfl, sz_of (by omega), q H1 (Ex.refl H1)⟩) ev_c rv_le rv_le
        refine q_when (b := !(decide ((1 : Int) ≤ z.length) && decide ((z.length : Int) ≤ 8))) (et_is (et_or (et_not (et_B h1)) (fun _ => et_not (et_test h2))) (by rw [hs]; rfl)) (fun hb H1 e1 => s_ret ev_c fun H2 e2 => ?_) (fun hb H1 e1 => ?_)
        · have q := kq H2 (e1.trans e2)
          have hn : isNm (.str z) = false := by
            show (decide (1 ≤ z.length) && decide (z.length ≤ 8) && _) = false
            have : (decide (1 ≤ z.length) && decide (z.length ≤ 8)) = false := by
              rw [Bool.not_eq_true'] at hb
              rw [← hb]
              congr 1 <;> exact decide_eq_decide.mpr (by omega)
            rw [this]
            rfl
          rw [hn] at q
          exact q
        · have hl := letters z (fun i => .bl (low (z.cps.getD i 0))) (fun i c hc => by
            have : z.cps.getD i 0 = c := by
              rw [Array.getD_eq_getD_getElem?, hc]
              rfl
            rw [this])
          refine s_ret (v := .bl (isNm (.str z))) (fun H2 e2 Q2 q2 => ?_) fun H2 e2 => kq H2 (e1.trans e2)
          have hLc : EvL (tLc (iStr (tVar 0)) (gName 1) tYes (tChain rLeS rLeS (tC (.str "a")) (tVar 1) (tC (.str "z"))) [1]) (start ["value", "letter"] [V.str z]) H _ := el_lcS (fun _ => true) (fun i => .bl (low (z.cps.getD i 0))) (ev_var rfl) hz (fun _ => rfl) (fun i c H3 e3 hc H4 e4 Q4 q4 => q4 H4 (Ex.refl H4)) (fun i c H3 e3 hc _ => ?_)
          · have he : (z.cps.toList.map low).all id = isNm (.str z) := by
              show _ = (decide (1 ≤ z.length) && decide (z.length ≤ 8) && z.cps.toList.all low)
              have : (decide (1 ≤ z.length) && decide (z.length ≤ 8)) = true := by
                rw [Bool.not_eq_false'] at hb
                rw [← hb]
                congr 1 <;> exact decide_eq_decide.mpr (by omega)
              rw [this, List.all_map]
              rfl
            rw [hl] at hLc
            exact ev_cbL hLc (fun p H3 hp _ Q3 q3 => ⟨p, _, rfl, SqL.of hp, by rw [he]; exact q3⟩) H2 (e1.trans e2) _ q2
          · have hc' : z.cps.getD i 0 = c := by
              rw [Array.getD_eq_getD_getElem?, hc]
              rfl
            rw [hc']
            refine ev_is (ev_chain ev_c (ev_var rfl) ev_c rv_leS rv_leS) ?_
            congr 1
            show (!decide ([c] < [97]) && !decide ([122] < [c])) = low c
            simp only [lex1]
            unfold low
            congr 1
            · rw [← decide_not]; exact decide_eq_decide.mpr (by omega)
            · rw [← decide_not]; exact decide_eq_decide.mpr (by omega)
end
end Nm
/-! ### raising own errors, and their classes -/
namespace Er
open PySem PySem.Spec PyProof.Rows L2 Evl ExV Gen
section
variable {X : Cx} {k i : Nat} {fI C : Addr} {fd : FuncData} {f : Str} {x : Str} {p pos pos2 : Pos} {e : Expr} {W : WX}
/-- raise C(y), y at slot i: what is raised has a new dict that holds the field -/
def tRaiseE (C : Addr) (f : Str) (W : WX) (i : Nat) : TS := fun _ σ H => ∃ y, σ[i]? = some (some y) ∧ ∀ d H2, H d = none → Ex H H2 → H2 d = some (.xd [(f, y)]) → W (.ref C) (some d) σ H2
theorem ps_raiseE (hc : X.calm = true) (O : Own X.K C fI) (F1 : FnOk X.prog X.w X.K X.mg X.base CX0 k fI fd ["self", f] (spInitE C f)) (hr : Room (k + 1) X.A) (hb : Binds X.K fd ["self", f] []) (hm : X.mg x = some (.ref C)) (hg : Gl X x) (tk : Takes X W) (ha : PA X [e] (tCons (tVar i) tNil))
    (hdb : (x == ("__debug__" : Str)) = false := by decide) (he : starEach (e :: []) X.env = (false, eval e X.env) :: starEach [] X.env := by rfl) (hpl : (backTo pos (starEach [] X.env)).any (·.1) = false := by rfl) :
    PS X (.Raise (some (.Call (.Name x p) [e] [] pos)) none pos2) (tRaiseE C f W i) := by
  have base := ps_raise (pos := pos2) hc tk (pmk_oex (p := p) (pos := pos) O.ox O.iC O.tI F1 hr hb .nil pass0 hg hm ha hdb he hpl)
  refine ⟨fun pins s σ H D I h => base.run pins s σ H D I ?_⟩
  obtain ⟨y, hy, q⟩ := h
  refine ⟨y, hy, by show 1 ≤ 1000; decide, fun a ha => ⟨a, y, rfl, upd_same, fun dx hd ne => ⟨rfl, dx, [(f, y)], upd_same, by rw [upd_ne ne, upd_same], ?_, ?_⟩⟩⟩
  · rw [upd_ne ne] at hd
    exact hd
  · rw [upd_ne ne] at hd
    refine q dx _ hd (fun b o hb => ?_) upd_same
    have n1 : b ≠ dx := ne_of_none hb hd
    have n2 : b ≠ a := ne_of_none hb ha
    rw [upd_ne n1, del_ne n2, upd_ne n2, upd_ne n1, upd_ne n2]
    exact hb
end
section
variable {P : Program} {w : World} {K : PySem.W.Frag} {mg : Str → Option Value} {base : Heap}
/-- an error's class: its facts, and its __init__ -/
structure ErC (P : Program) (w : World) (K : PySem.W.Frag) (mg : Str → Option Value) (base : Heap) (x f : Str) (C : Addr) : Prop where
  ex : ∃ fI fd, Own K C fI ∧ FnOk P w K mg base CX0 1 fI fd ["self", f] (spInitE C f) ∧ Binds K fd ["self", f] []
  gC : mg x = some (.ref C)
end
section
variable {X : Cx} {i : Nat} {C : Addr} {f x : Str} {p pos pos2 : Pos} {e : Expr} {W : WX}
theorem ps_rE (c : ErC X.prog X.w X.K X.mg X.base x f C) (hc : X.calm = true) (hr : Room 2 X.A) (hg : Gl X x) (tk : Takes X W) (ha : PA X [e] (tCons (tVar i) tNil))
    (hdb : (x == ("__debug__" : Str)) = false := by decide) (he : starEach (e :: []) X.env = (false, eval e X.env) :: starEach [] X.env := by rfl) (hpl : (backTo pos (starEach [] X.env)).any (·.1) = false := by rfl) :
    PS X (.Raise (some (.Call (.Name x p) [e] [] pos)) none pos2) (tRaiseE C f W i) := by
  obtain ⟨fI, fd, O, F1, hb⟩ := c.ex
  exact ps_raiseE hc O F1 hr hb c.gC hg tk ha hdb he hpl
end
section
variable {P : Program} {w : World} {K : PySem.W.Frag} {mg : Str → Option Value} {base : Heap}
theorem scInvalidList : FnScope ["self", "value"] ["self", "value"] (defScope (inClass (top 2) 0)) := ⟨rfl, rfl, rfl, by decide +kernel, rfl, by decide +kernel, by decide +kernel⟩
theorem erC_InvalidList {fI C : Addr} {fd : FuncData} (F : FunD K "__init__" "InvalidList.__init__" (defArgs (inClass (top 2) 0)) (defBody (inClass (top 2) 0)) (defScope (inClass (top 2) 0)) [V.non] [] fI fd) (O : Own K C fI) (no : PySem.W.findIn K (.ref C) "value" = some none) (gC : mg "InvalidList" = some (.ref C)) : ErC P w K mg base "InvalidList" "value" C := by
  obtain ⟨d1, r1, B1⟩ := F.binds1 (ps := ["self", "value"]) 2 1 (by simp) rfl (fun T kV doc pm an cdv ct us its h1 h2 => match us, its, h1, h2 with | [_, _], [_], _, _ => ⟨_, rfl, rfl⟩)
  cases r1
  refine ⟨⟨fI, fd, O, F.ok scInvalidList (fun vs H Q E h => ?_) (fun cdv A outer s H vs Q E hr h => ?_), B1⟩, gC⟩
  · obtain ⟨a, y, rfl, _⟩ := h
    rfl
  · obtain ⟨a, y, rfl, ha, k⟩ := h
    exact ⟨_, pss_one (ps_ost (pv 0) (pv 1)), _, rfl, _, rfl, a, C, rfl, O.ox, no, .inl ⟨ha, k⟩⟩
theorem scInvalidItem : FnScope ["self", "value"] ["self", "value"] (defScope (inClass (top 3) 0)) := ⟨rfl, rfl, rfl, by decide +kernel, rfl, by decide +kernel, by decide +kernel⟩
theorem erC_InvalidItem {fI C : Addr} {fd : FuncData} (F : FunD K "__init__" "InvalidItem.__init__" (defArgs (inClass (top 3) 0)) (defBody (inClass (top 3) 0)) (defScope (inClass (top 3) 0)) [V.non] [] fI fd) (O : Own K C fI) (no : PySem.W.findIn K (.ref C) "value" = some none) (gC : mg "InvalidItem" = some (.ref C)) : ErC P w K mg base "InvalidItem" "value" C := by
  obtain ⟨d1, r1, B1⟩ := F.binds1 (ps := ["self", "value"]) 2 1 (by simp) rfl (fun T kV doc pm an cdv ct us its h1 h2 => match us, its, h1, h2 with | [_, _], [_], _, _ => ⟨_, rfl, rfl⟩)
  cases r1
  refine ⟨⟨fI, fd, O, F.ok scInvalidItem (fun vs H Q E h => ?_) (fun cdv A outer s H vs Q E hr h => ?_), B1⟩, gC⟩
  · obtain ⟨a, y, rfl, _⟩ := h
    rfl
  · obtain ⟨a, y, rfl, ha, k⟩ := h
    exact ⟨_, pss_one (ps_ost (pv 0) (pv 1)), _, rfl, _, rfl, a, C, rfl, O.ox, no, .inl ⟨ha, k⟩⟩
end
end Er
/-! ### check_many, check_names -/
namespace Chk
open PySem PySem.Spec PyProof.Rows L2 Evl Gen Rep Dat Nm Er
/-- C(v) is what may be raised -/
def Bad (C : Addr) (v : V) (H : Hp) (E : XK) : Prop := ∀ d H', H d = none → Ex H H' → H' d = some (.xd [("value", v)]) → E (.ref C) (some d) H'
theorem Bad.ex {C : Addr} {v : V} {H H' : Hp} {E : XK} (b : Bad C v H E) (e : Ex H H') : Bad C v H' E := fun d H2 hd e2 h => b d H2 (fresh_back e hd) (e.trans e2) h
def many (d : PyData) (a b : Int) : Bool := match d with
  | .list ds => decide (a ≤ ds.length) && decide ((ds.length : Int) ≤ b)
  | _ => false
theorem un65 {k : Nat} {A : Around} (hr : Room k A) : A.units + 65 < cLine := by
  have := hr.un
  omega
def spMany (K : PySem.W.Frag) (CL : Addr) : Sp := fun vs H Q E => ∃ v d a b, vs = [v, .int a, .int b] ∧ Sw K H v d ∧ (many d a b = true → ∀ H', Ex H H' → Q .non H') ∧ (many d a b = false → Bad CL v H E)
abbrev sMany : Stmt := top 11
theorem scMy : FnScope ["value", "least", "most"] ["value", "least", "most"] (defScope sMany) := ⟨rfl, rfl, rfl, by decide +kernel, rfl, by decide +kernel, by decide +kernel⟩
theorem swAll_len {K : PySem.W.Frag} {H : Hp} : ∀ {xs : List V} {ds : List PyData}, SwAll K H xs ds → xs.length = ds.length
  | [], _, h => by cases h; rfl
  | x :: xs, _, h => by
    cases h with
    | cons a b => simp [swAll_len b]
section
variable {P : Program} {w : World} {K : PySem.W.Frag} {mg : Str → Option Value} {base : Heap}
theorem ok_many {f CL : Addr} {fd : FuncData} (F : Fun K "check_many" "check_many" sMany f fd) (B : Bt mg) (c : ErC P w K mg base "InvalidList" "value" CL) : FnOk P w K mg base (CX P w) 3 f fd ["value", "least", "most"] (spMany K CL) := by
  refine F.okX scMy (fun vs H Q E h => ?_) (fun cdv A outer s H vs Q E hr h => ?_)
  · obtain ⟨v, d, a, b, rfl, _⟩ := h
    rfl
  · obtain ⟨v, d, a, b, rfl, hd, kq, ke⟩ := h
    refine ⟨_, (pss_one (ps_if (PW.pt (pw_or (pt_not (pt_val (pe_callB call_isi (by rfl) B.isi (by decide +kernel) (pa_cons (pv 0) (pa_cons (pe_bltn (v := .ty "list") (by rfl) B.list (by decide +kernel) rfl) pa_nil))))) (pw_or1 (pt_not (pt_chain op_le op_le (pv 1) (pe_callB call_len_seq (by rfl) B.len PySem.boot_len (pa_cons (pv 0) pa_nil)) (pv 2)))))) (pss_one (ps_rE c rfl hr rfl (takes_of rfl rfl rfl rfl) (pa_cons (pv 0) pa_nil))) pss_nil)), ?_⟩
    have h1 : Ev (tCB (rIsi K) (tCons (tVar 0) (tCons (tC (.ty "list")) tNil))) (start ["value", "least", "most"] [v, .int a, .int b]) H (.bl (isList d)) := ev_isi (ev_var rfl) hd (kit_list K d)
    have fin : ∀ {t : TS} {bb : Bool} {tt : TT}, t = tIfS tt (tRaiseE CL "value" (fun cls d _ H => E cls d H) 0) tNext → EvT tt (start ["value", "least", "most"] [v, .int a, .int b]) H bb → bb = !many d a b → t { nx := fun _ H' => Q .non H', rt := Q } (start ["value", "least", "most"] [v, .int a, .int b]) H := by
      intro t bb tt et ev hb
      subst et hb
      refine s_when ev (fun hm H1 e1 => ?_) (fun hm H1 e1 => kq (by simpa using hm) H1 e1)
      exact ⟨v, rfl, fun dd H2 n2 e2 h2 => ke (by simpa using hm) dd H2 (fresh_back e1 n2) (e1.trans e2) h2⟩
    cases hs : isList d with
    | false =>
      refine fin rfl (et_or (et_not (et_B h1)) (b := true) (fun z => ?_)) ?_
      · rw [hs] at z
        cases z
      · rw [hs]
        cases d <;> first | rfl | cases hs
    | true =>
      obtain ⟨ds, rfl⟩ : ∃ ds, d = .list ds := by cases d <;> first | exact ⟨_, rfl⟩ | cases hs
      cases hd with
      | lst hq ha =>
        refine fin rfl (et_or (et_not (et_B h1)) (fun _ => et_not (et_test (ev_chain (ev_var rfl) (ev_len (ev_var rfl) hq) (ev_var rfl) rv_le rv_le)))) ?_
        rw [hs, swAll_len ha]
        rfl
end
/-! check_names -/
theorem swAll_get {K : PySem.W.Frag} {H : Hp} : ∀ {xs : List V} {ds : List PyData} {i : Nat} {x : V}, SwAll K H xs ds → xs[i]? = some x → ∃ d, ds[i]? = some d ∧ Sw K H x d
  | [], _, _, _, _, z => by simp at z
  | y :: xs, _, i, x, h, z => by
    cases h with
    | cons a b =>
      cases i with
      | zero =>
        have z' : y = x := by simpa using z
        subst z'
        exact ⟨_, rfl, a⟩
      | succ i =>
        have z' : xs[i]? = some x := by simpa using z
        obtain ⟨d, h1, h2⟩ := swAll_get b z'
        exact ⟨d, by simpa using h1, h2⟩
theorem swAll_take {K : PySem.W.Frag} {H : Hp} : ∀ {xs : List V} {ds : List PyData} (n : Nat), SwAll K H xs ds → SwAll K H (xs.take n) (ds.take n)
  | [], _, n, h => by cases h; simp; exact .nil
  | y :: xs, _, 0, h => by simp; exact .nil
  | y :: xs, _, n + 1, h => by
    cases h with
    | cons a b => exact .cons a (swAll_take n b)
def txt : PyData → Str
  | .str z => z
  | _ => ""
theorem strs_of {K : PySem.W.Frag} {H : Hp} : ∀ {xs : List V} {ds : List PyData}, SwAll K H xs ds → (∀ d ∈ ds, isNm d = true) → xs = (ds.map txt).map V.str
  | [], _, h, _ => by cases h; rfl
  | y :: xs, _, h, g => by
    cases h with
    | cons a b =>
      rename_i d ds
      have gd := g d (List.mem_cons_self ..)
      rw [List.map_cons, List.map_cons, ← strs_of b fun z m => g z (List.mem_cons_of_mem _ m)]
      cases a with
      | str z => rfl
      | non => cases gd
      | bl _ => cases gd
      | int _ => cases gd
      | lst _ _ => cases gd
      | tup _ _ => cases gd
      | dct _ _ => cases gd
/-- the i-th of ds is no name for these taken ones, or stands ahead already -/
def badN (tk : List Str) (ds : List PyData) (i : Nat) : Bool := match ds[i]? with
  | none => false
  | some d => !isNm d || (sIn tk d || sIn ((ds.take i).map txt) d)
/-- the first place of a list that is bad -/
def firstBad (n : Nat) (bad : Nat → Bool) : Option Nat := (List.range n).find? bad
theorem first_none {n : Nat} {bad : Nat → Bool} (h : ∀ j, j < n → bad j = false) : firstBad n bad = none := by
  unfold firstBad
  rw [List.find?_eq_none]
  intro j hj
  rw [h j (by simpa using hj)]
  decide
theorem first_some {n i : Nat} {bad : Nat → Bool} (hi : i < n) (hb : bad i = true) (h : ∀ j, j < i → bad j = false) : firstBad n bad = some i := by
  unfold firstBad
  rw [List.find?_eq_some_iff_append]
  refine ⟨hb, List.range i, (List.range' (i + 1) (n - i - 1)), ?_, fun a ha => by rw [h a (by simpa using ha)]; rfl⟩
  have : List.range n = List.range' 0 n := List.range_eq_range'
  rw [this, List.range_eq_range']
  have e : n = i + (1 + (n - i - 1)) := by omega
  conv => lhs; rw [e]
  rw [← List.range'_append_1, ← List.range'_append_1]
  simp
def spNames (K : PySem.W.Frag) (CI : Addr) : Sp := fun vs H Q E => ∃ (a t : Addr) (xs : List V) (ds : List PyData) (tk : List Str), vs = [.ref a, .ref t] ∧ SqL K H a xs ∧ SwAll K H xs ds ∧ (∀ d ∈ ds, Fit d) ∧ ds.length ≤ 40000 ∧ SqL K H t (tk.map V.str) ∧
  (firstBad ds.length (badN tk ds) = none → ∀ H', Ex H H' → Q .non H') ∧ (∀ i x, firstBad ds.length (badN tk ds) = some i → xs[i]? = some x → Bad CI x H E)
abbrev sNames : Stmt := top 12
theorem scNs : FnScope ["names", "taken", "at", "item"] ["names", "taken"] (defScope sNames) := ⟨rfl, rfl, rfl, by decide +kernel, rfl, by decide +kernel, by decide +kernel⟩
theorem spv_name {K : PySem.W.Frag} {H : Hp} {v : V} {d : PyData} (hd : Sw K H v d) (ft : Fit d) : SpV (spName K) [v] H (.bl (isNm d)) := fun H1 e Q q E => ⟨v, d, rfl, Sw.ex e d v hd, ft, fun H' e' => q H' e'⟩
theorem cut_take {xs : List V} {n : Nat} : cutV xs none (some ((n : Nat) : Int)) = xs.take n := by
  unfold cutV
  rw [HT.sIx_none, HT.sIx_nat, List.drop_zero, Nat.sub_zero]
  by_cases h : n ≤ xs.length
  · rw [Nat.min_eq_left h]
  · rw [Nat.min_eq_right (by omega), List.take_of_length_le (Nat.le_refl _), List.take_of_length_le (by omega)]
section
variable {P : Program} {w : World} {K : PySem.W.Frag} {mg : Str → Option Value} {base : Heap}
theorem ok_names {f CI fN : Addr} {fd fdN : FuncData} (F : Fun K "check_names" "check_names" sNames f fd) (B : Bt mg) (c : ErC P w K mg base "InvalidItem" "value" CI)
    (GN : FnOk P w K mg base CX0 1 fN fdN ["value"] (spName K)) (mN : mg "is_name" = some (.ref fN)) (kN : PySem.W.keepIn K (.ref fN) = true) (bN : Binds K fdN ["value"] []) : FnOk P w K mg base (CX P w) 3 f fd ["names", "taken"] (spNames K CI) := by
  refine F.okX scNs (fun vs H Q E h => ?_) (fun cdv A outer s H vs Q E hr h => ?_)
  · obtain ⟨a, t, xs, ds, tk, rfl, _⟩ := h
    rfl
  · obtain ⟨a, t, xs, ds, tk, rfl, ha, hx, ft, hn, ht, kq, ke⟩ := h
    refine ⟨_, (pss_one (ps_for (passes_of rfl) rfl (pi_enum (by rfl) B.enum (pa_cons (pv 0) pa_nil)) (pg_tup rfl (pgs_cons (pg_name (i := 2) scNs.nd rfl (Or.inl rfl)) (pgs_cons (pg_name (i := 3) scNs.nd rfl (Or.inl rfl)) pgs_nil))) (pss_one (ps_if (PW.pt (pw_or (pt_not (pt_val (pe_call GN (hr.mono (by decide)) (by rfl) mN kN bN .nil pass0 (pa_cons (pv 3) pa_nil)))) (pw_or (pt_cmpR (op_inS (un65 hr)) (pv 3) (pv 1) (by rfl)) (pw_or1 (pt_cmpR (op_inS (un65 hr)) (pv 3) (pe_slice sl_list (pv 0) po_none (po_some (pv 2))) (by rfl)))))) (pss_one (ps_rE c rfl hr rfl (takes_of rfl rfl rfl rfl) (pa_cons (pv 3) pa_nil))) pss_nil)))), ?_⟩
    have hl := swAll_len hx
    refine ⟨_, rfl, a, xs, rfl, ha, for_it (walk_enum (xs := xs)) (fun i σ H' => ∃ s2 s3, σ = [some (.ref a), some (.ref t), s2, s3] ∧ Ex H H' ∧ ∀ j, j < i → badN tk ds j = false) ⟨_, _, rfl, Ex.refl H, fun j hj => by omega⟩ (fun i σ H' _ p => ?_) ?_ (fun σ H' p => ?_)⟩
    · obtain ⟨s2, s3, rfl, e, _⟩ := p
      exact ex_l e ha
    · rintro i x σ H1 H2 hi ⟨s2, s3, rfl, e1, nb⟩ ⟨T, ix, y, rfl, nT, rfl, hix, hy⟩
      obtain rfl : V.int (i : Nat) = ix := Option.some.inj hix
      obtain ⟨d, hd, hyd⟩ := swAll_get hx hy
      have fd' : Fit d := ft d (List.mem_of_getElem? hd)
      have eT : Ex H1 (upd H1 T (.tup [.int (i : Nat), y])) := Ex.new nT
      have e2 := e1.trans eT
      have pre : ∀ z ∈ ds.take i, isNm z = true := fun z hz => by
        obtain ⟨j, hj, rfl⟩ := List.mem_iff_getElem.mp hz
        rw [List.length_take] at hj
        have q := nb j (by omega)
        rw [List.getElem_take]
        unfold badN at q
        rw [List.getElem?_eq_getElem (by omega)] at q
        simp only [Bool.or_eq_false_iff, Bool.not_eq_false'] at q
        exact q.1
      have hst := strs_of (swAll_take i hx) pre
      refine ⟨T, _, rfl, SqT.of upd_same, rfl, _, _, rfl, _, _, rfl, rfl, ?_⟩
      refine s_when (b := badN tk ds i) ?_ (fun hb H3 e3 => ?_) (fun hb H3 e3 => ?_)
      · have eb : badN tk ds i = (!isNm d || (sIn tk d || sIn ((ds.take i).map txt) d)) := by unfold badN; rw [hd]
        rw [eb]
        refine et_or (et_not (et_B (ev_call (ea_cons (ev_var rfl) ea_nil) (spv_name (Sw.ex e2 d y hyd) fd')))) fun _ => et_or (et_test (ev_in (ev_var rfl) (ev_var rfl) (Sw.ex e2 d y hyd) (ex_l e2 ht))) fun _ => ?_
        refine et_test (ev_opL (ev_var rfl) (el_sl (ev_var rfl) eo_none (eo_some (ev_var rfl)) (ex_l e2 ha)) fun p H4 hp e4 => fun H5 e5 Q5 q5 => ?_)
        rw [cut_take, hst] at hp
        exact ⟨d, _, p, Sw.ex ((e2.trans e4).trans e5) d y hyd, rfl, SqL.of (e5 _ _ hp), q5 H5 (Ex.refl H5)⟩
      · refine ⟨y, rfl, fun dd H4 n4 e4 h4 => ke i y (first_some (by omega) hb nb) hy dd H4 (fresh_back (e2.trans e3) n4) ((e2.trans e3).trans e4) h4⟩
      · refine ⟨_, _, rfl, e2.trans e3, fun j hj => ?_⟩
        by_cases hj2 : j < i
        · exact nb j hj2
        · obtain rfl : j = i := by omega
          exact hb
    · obtain ⟨s2, s3, rfl, e, nb⟩ := p
      exact kq (first_none fun j hj => nb j (by omega)) H' e
end
end Chk
/-! ### deeds and hearings -/
namespace Deed
open PySem PySem.Spec PyProof.Rows L2 Evl Gen Rep Dat Nm Er Chk
/-- the sound of an entry is none, or a name -/
def sndOk : PyData → Bool
  | .none => true
  | d => isNm d
def isDeedT (hs ss : List Str) : List PyData → Bool
  | [p, s, o] => sndOk s && ((sIn hs p && sIn hs o) || (sIn ss p && sIn ss o))
  | _ => false
def isDeed (hs ss : List Str) : PyData → Bool
  | .tuple xs => isDeedT hs ss xs
  | _ => false
def isNone : PyData → Bool
  | .none => true
  | _ => false
/-- what a tuple holds fits -/
def FitT (d : PyData) : Prop := ∀ xs, d = .tuple xs → ∀ x ∈ xs, Fit x
theorem isNone_is {K : PySem.W.Frag} {H : Hp} {v : V} {d : PyData} (h : Sw K H v d) : decide (v = .non) = isNone d := by
  cases h <;> simp [isNone]
abbrev rNotN : R2 := fun x y H Q => y = .non ∧ Q (.bl (!decide (x = .non))) H
theorem ev_notN {σ : L2.St} {H : Hp} {te : TE} {x : V} {b : Bool} (h : Ev te σ H x) (e : (!decide (x = .non)) = b) : Ev (tOp rNotN te (tC .non)) σ H (.bl b) := ev_op h ev_c fun H1 _ Q q => ⟨rfl, by rw [e]; exact q H1 (Ex.refl H1)⟩
/-- len of a tuple -/
theorem ev_lenT {K : PySem.W.Frag} {σ : L2.St} {H : Hp} {te : TE} {p : Addr} {xs : List V} (ha : Ev te σ H (.ref p)) (h : SqT K H p xs) : Ev (tCB (rLenS K) (tCons te tNil)) σ H (.int (xs.length : Int)) := fun H1 e Q q =>
  ha H1 e _ fun H2 e2 => ⟨p, xs, rfl, Or.inr (ex_t (e.trans e2) h), q H2 e2⟩
def spDeed (K : PySem.W.Frag) : Sp := fun vs H Q _ => ∃ (h t : Addr) (v : V) (hs ss : List Str) (d : PyData), vs = [.ref h, .ref t, v] ∧ SqL K H h (hs.map V.str) ∧ SqL K H t (ss.map V.str) ∧ Sw K H v d ∧ FitT d ∧ ∀ H', Ex H H' → Q (.bl (isDeed hs ss d)) H'
abbrev sDeed : Stmt := top 13
abbrev NDe : List Str := ["houses", "stands", "value", "place", "sound", "other"]
theorem scDe : FnScope NDe ["houses", "stands", "value"] (defScope sDeed) := ⟨rfl, rfl, rfl, by decide +kernel, rfl, by decide +kernel, by decide +kernel⟩
section
variable {P : Program} {w : World} {K : PySem.W.Frag} {mg : Str → Option Value} {base : Heap}
theorem ok_deed {f fN : Addr} {fd fdN : FuncData} (F : Fun K "is_deed" "is_deed" sDeed f fd) (B : Bt mg)
    (GN : FnOk P w K mg base CX0 1 fN fdN ["value"] (spName K)) (mN : mg "is_name" = some (.ref fN)) (kN : PySem.W.keepIn K (.ref fN) = true) (bN : Binds K fdN ["value"] []) : FnOk P w K mg base CX0 2 f fd ["houses", "stands", "value"] (spDeed K) := by
  refine F.ok scDe (fun vs H Q E h => ?_) (fun cdv A outer s H vs Q E hr h => ?_)
  · obtain ⟨h, t, v, hs, ss, d, rfl, _⟩ := h
    rfl
  · obtain ⟨h, t, v, hs, ss, d, rfl, hh, ht, hd, ft, kq⟩ := h
    refine ⟨_, (pss_cons (ps_if (PW.pt (pw_or (pt_not (pt_val (pe_callB call_isi (by rfl) B.isi (by decide +kernel) (pa_cons (pv 2) (pa_cons (pe_bltn (v := .ty "tuple") (by rfl) B.tuple (by decide +kernel) rfl) pa_nil))))) (pw_or1 (pt_cmpR op_ne (pe_callB call_len_seq (by rfl) B.len PySem.boot_len (pa_cons (pv 2) pa_nil)) pe_int (nomark _))))) (pss_one (ps_ret pe_bl)) pss_nil)
      (pss_cons (ps_asg (pv 2) (pg_tup rfl (pgs_cons (pg_name (i := 3) scDe.nd rfl (Or.inl rfl)) (pgs_cons (pg_name (i := 4) scDe.nd rfl (Or.inl rfl)) (pgs_cons (pg_name (i := 5) scDe.nd rfl (Or.inl rfl)) pgs_nil)))))
      (pss_cons (ps_if (PW.pt (pw_and (pt_cmpR op_notN (pv 4) pe_non (nomark _)) (pw_and1 (pt_not (pt_val (pe_call GN (hr.mono (by decide)) (by rfl) mN kN bN .nil pass0 (pa_cons (pv 4) pa_nil))))))) (pss_one (ps_ret pe_bl)) pss_nil)
      (pss_one (ps_ret (pe_or (pe_and (pe_cmpR (op_inS (un65 hr)) (pv 3) (pv 0) (by rfl)) (pe_one (pe_cmpR (op_inS (un65 hr)) (pv 5) (pv 0) (by rfl)))) (pe_one (pe_and (pe_cmpR (op_inS (un65 hr)) (pv 3) (pv 1) (by rfl)) (pe_one (pe_cmpR (op_inS (un65 hr)) (pv 5) (pv 1) (by rfl))))))))))), ?_⟩
    have h1 : Ev (tCB (rIsi K) (tCons (tVar 2) (tCons (tC (.ty "tuple")) tNil))) (start NDe [.ref h, .ref t, v]) H (.bl (isTup d)) := ev_isi (ev_var rfl) hd (kit_tup K d)
    cases hs1 : isTup d with
    | false =>
      refine q_when (b := true) (et_is (et_or (et_not (et_B h1)) (b := true) (fun z => ?_)) (by rw [hs1]; rfl)) (fun _ H1 e1 => s_ret ev_c fun H2 e2 => ?_) (fun z => nomatch z)
      · rw [hs1] at z
        cases z
      · have hn : isDeed hs ss d = false := by cases d <;> first | rfl | cases hs1
        have q := kq H2 (e1.trans e2)
        rw [hn] at q
        exact q
    | true =>
      obtain ⟨ds, rfl⟩ : ∃ ds, d = .tuple ds := by cases d <;> first | exact ⟨_, rfl⟩ | cases hs1
      cases hd with
      | tup hq ha =>
        rename_i a xs
        have hl := swAll_len ha
        refine q_when (b := !decide (xs.length = 3)) (et_is (et_or (et_not (et_B h1)) (fun _ => et_test (ev_op (ev_lenT (ev_var rfl) hq) ev_c (rv_ne (by rfl))))) ?_) (fun hb H1 e1 => s_ret ev_c fun H2 e2 => ?_) (fun hb H1 e1 => ?_)
        · rw [hs1]
          show (!decide (V.int (xs.length : Int) = V.int 3)) = _
          congr 1
          exact decide_eq_decide.mpr ⟨fun z => by injection z with z; omega, fun z => by rw [z]; rfl⟩
        · have hn : isDeed hs ss (.tuple ds) = false := by
            show isDeedT hs ss ds = false
            have : ds.length ≠ 3 := by
              rw [← hl]
              simpa using hb
            match ds, this with
            | [], _ => rfl
            | [_], _ => rfl
            | [_, _], _ => rfl
            | [_, _, _], z => exact absurd rfl z
            | _ :: _ :: _ :: _ :: _, _ => rfl
          have q := kq H2 (e1.trans e2)
          rw [hn] at q
          exact q
        · have l3 : xs.length = 3 := by simpa using hb
          obtain ⟨x, y, z, rfl⟩ : ∃ x y z, xs = [x, y, z] := by
            match xs, l3 with
            | [x, y, z], _ => exact ⟨x, y, z, rfl⟩
          cases ha with
          | cons hx ha =>
            cases ha with
            | cons hy ha =>
              cases ha with
              | cons hz ha =>
                cases ha
                rename_i dx dy dz
                have fy : Fit dy := ft _ rfl dy (by simp)
                refine ⟨_, rfl, a, _, rfl, ex_t e1 hq, rfl, _, _, rfl, _, _, rfl, _, _, rfl, rfl, ?_⟩
                dsimp only
                have fin : ∀ H2, Ex H1 H2 → sndOk dy = true → tRet (tOrV (tAndV (tOp (rInS K) (tVar 3) (tVar 0)) (tOp (rInS K) (tVar 5) (tVar 0))) (tAndV (tOp (rInS K) (tVar 3) (tVar 1)) (tOp (rInS K) (tVar 5) (tVar 1)))) { nx := fun _ H' => Q .non H', rt := Q } [some (.ref h), some (.ref t), some (.ref a), some x, some y, some z] H2 := fun H2 e2 hs2 => by
                  have e := e1.trans e2
                  refine s_ret (v := .bl (isDeed hs ss (.tuple [dx, dy, dz]))) (ev_is (ev_orV (ev_andV (ev_in (ev_var rfl) (ev_var rfl) (Sw.ex e _ _ hx) (ex_l e hh)) (fun _ => ev_in (ev_var rfl) (ev_var rfl) (Sw.ex e _ _ hz) (ex_l e hh))) (fun _ => ev_andV (ev_in (ev_var rfl) (ev_var rfl) (Sw.ex e _ _ hx) (ex_l e ht)) (fun _ => ev_in (ev_var rfl) (ev_var rfl) (Sw.ex e _ _ hz) (ex_l e ht)))) ?_) fun H3 e3 => kq H3 (e.trans e3)
                  show _ = V.bl (sndOk dy && _)
                  rw [hs2]
                  rfl
                refine q_when (b := !sndOk dy) (et_is (et_and (et_test (ev_notN (ev_var rfl) rfl)) fun hb2 => et_not (et_B (ev_call (ea_cons (ev_var rfl) ea_nil) (spv_name (Sw.ex e1 _ _ hy) fy)))) ?_) (fun hb2 H2 e2 => s_ret ev_c fun H3 e3 => ?_) (fun hb2 H2 e2 => ?_)
                · rw [isNone_is hy]
                  cases dy <;> rfl
                · have hn : isDeed hs ss (.tuple [dx, dy, dz]) = false := by
                    show (sndOk dy && _) = false
                    rw [show sndOk dy = false by simpa using hb2]
                    rfl
                  have q := kq H3 ((e1.trans e2).trans e3)
                  rw [hn] at q
                  exact q
                · exact fin H2 e2 (by simpa using hb2)
end
end Deed
/-! ### hearings -/
namespace Hear
open PySem PySem.Spec PyProof.Rows L2 Evl Gen Rep Dat Nm Er Chk Deed Ent Pts
def sndSome : PyData → Bool
  | .tuple [_, .none, _] => false
  | _ => true
def isHear (hs ss : List Str) (d : PyData) : Bool := isDeed hs ss d && sndSome d
def spHear (K : PySem.W.Frag) : Sp := fun vs H Q _ => ∃ (h t : Addr) (v : V) (hs ss : List Str) (d : PyData), vs = [.ref h, .ref t, v] ∧ SqL K H h (hs.map V.str) ∧ SqL K H t (ss.map V.str) ∧ Sw K H v d ∧ FitT d ∧ ∀ H', Ex H H' → Q (.bl (isHear hs ss d)) H'
theorem spv_deed {K : PySem.W.Frag} {H : Hp} {h t : Addr} {v : V} {hs ss : List Str} {d : PyData} (hh : SqL K H h (hs.map V.str)) (ht : SqL K H t (ss.map V.str)) (hd : Sw K H v d) (ft : FitT d) : SpV (spDeed K) [.ref h, .ref t, v] H (.bl (isDeed hs ss d)) :=
  fun H1 e Q q E => ⟨h, t, v, hs, ss, d, rfl, ex_l e hh, ex_l e ht, Sw.ex e _ _ hd, ft, fun H' e' => q H' e'⟩
theorem spv_hear {K : PySem.W.Frag} {H : Hp} {h t : Addr} {v : V} {hs ss : List Str} {d : PyData} (hh : SqL K H h (hs.map V.str)) (ht : SqL K H t (ss.map V.str)) (hd : Sw K H v d) (ft : FitT d) : SpV (spHear K) [.ref h, .ref t, v] H (.bl (isHear hs ss d)) :=
  fun H1 e Q q E => ⟨h, t, v, hs, ss, d, rfl, ex_l e hh, ex_l e ht, Sw.ex e _ _ hd, ft, fun H' e' => q H' e'⟩
abbrev sHear : Stmt := top 14
theorem scHe : FnScope ["houses", "stands", "value"] ["houses", "stands", "value"] (defScope sHear) := ⟨rfl, rfl, rfl, by decide +kernel, rfl, by decide +kernel, by decide +kernel⟩
abbrev sAlr : Stmt := top 15
theorem scAl : FnScope ["hearing", "hearings", "earlier"] ["hearing", "hearings"] (defScope sAlr) := ⟨rfl, rfl, rfl, by decide +kernel, rfl, by decide +kernel, by decide +kernel⟩
abbrev E3 := Str × Str × Str
def e3D (e : E3) : PyData := .tuple [.str e.1, .str e.2.1, .str e.2.2]
def k3 (e : E3) : Str × Option Str := (e.1, some e.2.1)
def spAlr (K : PySem.W.Frag) : Sp := fun vs H Q _ => ∃ (v : V) (l : Addr) (xs : List V) (e : E3) (es : List E3), vs = [v, .ref l] ∧ Sw K H v (e3D e) ∧ SqL K H l xs ∧ SwAll K H xs (es.map e3D) ∧ KnOk (k3 e) ∧ (∀ z ∈ es, KnOk (k3 z)) ∧ es.length ≤ 40000 ∧ ∀ H', Ex H H' → Q (.bl (decide (k3 e ∈ es.map k3))) H'
theorem sw_e3 {K : PySem.W.Frag} {H : Hp} {v : V} {e : E3} (h : Sw K H v (e3D e)) : ∃ a, v = .ref a ∧ SqT K H a [.str e.1, .str e.2.1, .str e.2.2] := by
  unfold e3D at h
  cases h with
  | tup hq ha =>
    cases ha with
    | cons h1 ha =>
      cases ha with
      | cons h2 ha =>
        cases ha with
        | cons h3 ha =>
          cases ha
          cases h1
          cases h2
          cases h3
          exact ⟨_, rfl, hq⟩
section
variable {P : Program} {w : World} {K : PySem.W.Frag} {mg : Str → Option Value} {base : Heap}
theorem ok_hear {f fD : Addr} {fd fdD : FuncData} (F : Fun K "is_hearing" "is_hearing" sHear f fd)
    (GD : FnOk P w K mg base CX0 2 fD fdD ["houses", "stands", "value"] (spDeed K)) (mD : mg "is_deed" = some (.ref fD)) (kD : PySem.W.keepIn K (.ref fD) = true) (bD : Binds K fdD ["houses", "stands", "value"] []) : FnOk P w K mg base CX0 3 f fd ["houses", "stands", "value"] (spHear K) := by
  refine F.ok scHe (fun vs H Q E h => ?_) (fun cdv A outer s H vs Q E hr h => ?_)
  · obtain ⟨h, t, v, hs, ss, d, rfl, _⟩ := h
    rfl
  · obtain ⟨h, t, v, hs, ss, d, rfl, hh, ht, hd, ft, kq⟩ := h
    refine ⟨_, (pss_one (ps_ret (pe_and (pe_call GD (hr.mono (by decide)) (by rfl) mD kD bD .nil pass0 (pa_cons (pv 0) (pa_cons (pv 1) (pa_cons (pv 2) pa_nil)))) (pe_one (pe_cmpR op_notN (pe_ix ix_tup (pv 2) pe_int (fun _ _ => rfl)) pe_non (nomark _)))))), ?_⟩
    refine s_ret (v := .bl (isHear hs ss d)) (ev_andV (ev_call (ea_cons (ev_var rfl) (ea_cons (ev_var rfl) (ea_cons (ev_var rfl) ea_nil))) (spv_deed hh ht hd ft)) fun hb => ?_) kq
    cases d with
    | tuple ds =>
      match ds, hb, hd with
      | [dx, dy, dz], _, hd =>
        cases hd with
        | tup hq ha =>
          cases ha with
          | cons hx ha =>
            cases ha with
            | cons hy ha =>
              refine ev_notN (ev_op (ev_var rfl) ev_c (rv_ixT hq (atI_nat (j := 1) rfl))) ?_
              rw [isNone_is hy]
              cases dy <;> rfl
    | none => cases hb
    | bool _ => cases hb
    | int _ => cases hb
    | str _ => cases hb
    | list _ => cases hb
    | dict _ => cases hb
theorem ok_alr {f : Addr} {fd : FuncData} (F : Fun K "is_heard_already" "is_heard_already" sAlr f fd) : FnOk P w K mg base CX0 1 f fd ["hearing", "hearings"] (spAlr K) := by
  refine F.ok scAl (fun vs H Q E h => ?_) (fun cdv A outer s H vs Q E hr h => ?_)
  · obtain ⟨v, l, xs, e, es, rfl, _⟩ := h
    rfl
  · obtain ⟨v, l, xs, e, es, rfl, hv, hl, ha, oe, oes, hn, kq⟩ := h
    obtain ⟨a, rfl, hq⟩ := sw_e3 hv
    have hln := swAll_len ha
    rw [List.length_map] at hln
    refine ⟨_, (pss_one (ps_ret (pe_cmpR (op_inD (Chk.un65 hr)) (pe_slice sl_tup (pv 0) po_none (po_some pe_int)) (pe_lc (own := [("earlier", 2)]) (g := gName 2) (tt := tYes) rfl scAl.nd (pi_list (pv 1)) (blkOk_by (N := ["hearing", "hearings", "earlier"]) (sc := defScope sAlr) (by decide +kernel)) (fun _ _ _ _ _ => pg_name (i := 2) scAl.nd rfl (Or.inl rfl)) (fun _ _ _ _ _ => pts_nil) (fun _ _ _ _ _ => (pe_slice (r := rSlT K) sl_tup (pv 2) po_none (po_some pe_int)))) (by rfl)))), ?_⟩
    refine ⟨_, rfl, _, rfl, a, _, rfl, hq, (show ¬ (HT.sIx 3 0 none = 0 ∧ HT.sIx 3 3 (some 2) = 3) by decide), fun p np => ?_⟩
    have hp : upd H p (.tup (cutV [.str e.1, .str e.2.1, .str e.2.2] none (some 2))) p = some (.tup [.str e.1, .str e.2.1]) := upd_same
    have eH := Ex.new (o := .tup (cutV [.str e.1, .str e.2.1, .str e.2.2] none (some 2))) np
    generalize upd H p (.tup (cutV [.str e.1, .str e.2.1, .str e.2.2] none (some 2))) = H1 at hp eH
    refine ⟨_, rfl, l, rfl, ⟨_, ex_l eH hl⟩, fun D hD => lc_list (xs := xs) (fun i H' => Ex H1 H' ∧ H1 D = none ∧ ∃ R, H' D = some (.lst (R.map V.ref)) ∧ R.length = i ∧ Tups H' R (Kn ((es.take i).map k3))) ⟨Ex.new hD, hD, [], upd_same, rfl, .nil⟩ (fun i H' _ p => ex_l (eH.trans p.1) hl) (fun i x H2 hx p => ?_) fun H2 p => ?_⟩
    · obtain ⟨e2, nD, R, hR, lR, tR⟩ := p
      obtain ⟨d, hd, hsw⟩ := swAll_get ha hx
      obtain ⟨z, hz, rfl⟩ : ∃ z, es[i]? = some z ∧ d = e3D z := by
        rw [List.getElem?_map] at hd
        cases hz : es[i]? with
        | none => rw [hz] at hd; cases hd
        | some z => rw [hz] at hd; exact ⟨z, rfl, (Option.some.inj hd).symm⟩
      obtain ⟨b, rfl, hb⟩ := sw_e3 hsw
      refine ⟨rfl, ⟨_, rfl, _, rfl, b, _, rfl, ex_t (eH.trans e2) hb, (show ¬ (HT.sIx 3 0 none = 0 ∧ HT.sIx 3 3 (some 2) = 3) by decide), fun q nq => ?_⟩⟩
      have e3 := Ex.new (o := .tup (cutV [.str z.1, .str z.2.1, .str z.2.2] none (some 2))) nq
      have hDl := e3 _ _ hR
      have hil := (List.getElem?_eq_some_iff.mp hx).1
      refine ⟨_, hDl, by rw [List.length_map]; exact sz_lt (by omega), (e2.trans e3).mut nD, nD, R ++ [q], by rw [upd_same, List.map_append] <;> rfl, by rw [List.length_append, lR] <;> rfl, ?_⟩
      have et : (es.take (i + 1)).map k3 = (es.take i).map k3 ++ [k3 z] := by
        rw [List.take_succ, hz, List.map_append]
        rfl
      rw [et]
      unfold Kn
      rw [List.map_append]
      exact tups_upd hDl (tups_app (tR.ex e3) (upd_same (o := .tup (cutV [.str z.1, .str z.2.1, .str z.2.2] none (some 2)))))
    · obtain ⟨e2, nD, R, hR, lR, tR⟩ := p
      rw [List.take_of_length_le (by omega)] at tR
      have kall : ∀ k ∈ es.map k3, KnOk k := fun k hk => by
        obtain ⟨z, hz, rfl⟩ := List.mem_map.mp hk
        exact oes z hz
      refine ⟨knD (k3 e), (es.map k3).map knD, .tup (SqT.of (e2 _ _ hp)) (.cons (.str _) (.cons (.str _) .nil)), .lst (SqL.of hR) (kn_dp tR), kn_shaped _ oe, kns_shaped _ kall, ?_⟩
      rw [kn_any]
      exact kq H2 (eH.trans e2)
end
end Hear
/-! ### check_deeds, check_hearings -/
namespace Lst
open PySem PySem.Spec PyProof.Rows L2 Evl Gen Rep Dat Nm Er Chk Deed Pts Hear
def badD (hs ss : List Str) (ds : List PyData) (i : Nat) : Bool := match ds[i]? with
  | none => false
  | some d => !isDeed hs ss d
def keyH : PyData → Str × Option Str
  | .tuple [.str a, .str b, _] => (a, some b)
  | _ => ("", none)
def badH (hs ss : List Str) (ds : List PyData) (i : Nat) : Bool := match ds[i]? with
  | none => false
  | some d => !isHear hs ss d || decide (keyH d ∈ (ds.take i).map keyH)
theorem nm_ok {z : Str} (h : nmS z = true) : PyData.strOk z = true := by
  unfold nmS at h
  rw [Bool.and_eq_true, Bool.and_eq_true] at h
  have h3 := h.2
  unfold PyData.strOk
  rw [← Array.all_toList]
  rw [List.all_eq_true] at h3 ⊢
  intro c hc
  have := h3 c hc
  unfold low at this
  simp only [Bool.and_eq_true, decide_eq_true_eq] at this ⊢
  omega
theorem sIn_str {l : List Str} {d : PyData} (h : sIn l d = true) : ∃ s, d = .str s ∧ s ∈ l := by
  cases d with
  | str s => exact ⟨s, rfl, of_decide_eq_true h⟩
  | none => cases h
  | bool _ => cases h
  | int _ => cases h
  | list _ => cases h
  | tuple _ => cases h
  | dict _ => cases h
theorem hear_e3 {hs ss : List Str} {d : PyData} (h1 : ∀ s ∈ hs, nmS s = true) (h2 : ∀ s ∈ ss, nmS s = true) (h : isHear hs ss d = true) : ∃ e : E3, d = e3D e ∧ KnOk (k3 e) ∧ keyH d = k3 e := by
  unfold isHear at h
  rw [Bool.and_eq_true] at h
  obtain ⟨hd, hn⟩ := h
  cases d with
  | tuple xs =>
    match xs, hd, hn with
    | [p, s, o], hd, hn =>
      have hd' : (sndOk s && ((sIn hs p && sIn hs o) || (sIn ss p && sIn ss o))) = true := hd
      simp only [Bool.and_eq_true, Bool.or_eq_true] at hd'
      obtain ⟨hs1, hp⟩ := hd'
      obtain ⟨z, rfl, hz⟩ : ∃ z, s = .str z ∧ nmS z = true := by
        cases s with
        | str z => exact ⟨z, rfl, hs1⟩
        | none => cases hn
        | bool _ => cases hs1
        | int _ => cases hs1
        | list _ => cases hs1
        | tuple _ => cases hs1
        | dict _ => cases hs1
      obtain ⟨a, b, rfl, rfl, ha⟩ : ∃ a b, p = .str a ∧ o = .str b ∧ nmS a = true := by
        rcases hp with ⟨x, y⟩ | ⟨x, y⟩
        · obtain ⟨a, rfl, ma⟩ := sIn_str x
          obtain ⟨b, rfl, _⟩ := sIn_str y
          exact ⟨a, b, rfl, rfl, h1 _ ma⟩
        · obtain ⟨a, rfl, ma⟩ := sIn_str x
          obtain ⟨b, rfl, _⟩ := sIn_str y
          exact ⟨a, b, rfl, rfl, h2 _ ma⟩
      exact ⟨(a, z, b), rfl, ⟨nm_ok ha, fun s hs => by cases hs; exact nm_ok hz⟩, rfl⟩
  | none => cases hd
  | bool _ => cases hd
  | int _ => cases hd
  | str _ => cases hd
  | list _ => cases hd
  | dict _ => cases hd
theorem hears_e3 {hs ss : List Str} (h1 : ∀ s ∈ hs, nmS s = true) (h2 : ∀ s ∈ ss, nmS s = true) : ∀ {ds : List PyData}, (∀ d ∈ ds, isHear hs ss d = true) → ∃ es : List E3, ds = es.map e3D ∧ (∀ e ∈ es, KnOk (k3 e)) ∧ ds.map keyH = es.map k3
  | [], _ => ⟨[], rfl, (fun e he => nomatch he), rfl⟩
  | d :: ds, h => by
    obtain ⟨e, rfl, h3, h4⟩ := hear_e3 h1 h2 (h d (List.mem_cons_self ..))
    obtain ⟨es, rfl, h5, h6⟩ := hears_e3 h1 h2 fun z m => h z (List.mem_cons_of_mem _ m)
    refine ⟨e :: es, rfl, fun z m => ?_, by rw [List.map_cons, List.map_cons, h4, h6]⟩
    rcases List.mem_cons.mp m with rfl | m
    · exact h3
    · exact h5 z m
def spDeeds (K : PySem.W.Frag) (CI : Addr) : Sp := fun vs H Q E => ∃ (h t a : Addr) (hs ss : List Str) (xs : List V) (ds : List PyData), vs = [.ref h, .ref t, .ref a] ∧ SqL K H h (hs.map V.str) ∧ SqL K H t (ss.map V.str) ∧ SqL K H a xs ∧ SwAll K H xs ds ∧ (∀ d ∈ ds, FitT d) ∧ ds.length ≤ 40000 ∧
  (firstBad ds.length (badD hs ss ds) = none → ∀ H', Ex H H' → Q .non H') ∧ (∀ i x, firstBad ds.length (badD hs ss ds) = some i → xs[i]? = some x → Bad CI x H E)
def spHears (K : PySem.W.Frag) (CI : Addr) : Sp := fun vs H Q E => ∃ (h t a : Addr) (hs ss : List Str) (xs : List V) (ds : List PyData), vs = [.ref h, .ref t, .ref a] ∧ SqL K H h (hs.map V.str) ∧ SqL K H t (ss.map V.str) ∧ SqL K H a xs ∧ SwAll K H xs ds ∧ (∀ d ∈ ds, FitT d) ∧ ds.length ≤ 40000 ∧
  (∀ s ∈ hs, nmS s = true) ∧ (∀ s ∈ ss, nmS s = true) ∧
  (firstBad ds.length (badH hs ss ds) = none → ∀ H', Ex H H' → Q .non H') ∧ (∀ i x, firstBad ds.length (badH hs ss ds) = some i → xs[i]? = some x → Bad CI x H E)
abbrev sDeeds : Stmt := top 16
theorem scDs : FnScope ["houses", "stands", "deeds", "item"] ["houses", "stands", "deeds"] (defScope sDeeds) := ⟨rfl, rfl, rfl, by decide +kernel, rfl, by decide +kernel, by decide +kernel⟩
abbrev sHears : Stmt := top 17
theorem scHs : FnScope ["houses", "stands", "hearings", "at", "item"] ["houses", "stands", "hearings"] (defScope sHears) := ⟨rfl, rfl, rfl, by decide +kernel, rfl, by decide +kernel, by decide +kernel⟩
section
variable {P : Program} {w : World} {K : PySem.W.Frag} {mg : Str → Option Value} {base : Heap}
theorem ok_deeds {f CI fD : Addr} {fd fdD : FuncData} (F : Fun K "check_deeds" "check_deeds" sDeeds f fd) (c : ErC P w K mg base "InvalidItem" "value" CI)
    (GD : FnOk P w K mg base CX0 2 fD fdD ["houses", "stands", "value"] (spDeed K)) (mD : mg "is_deed" = some (.ref fD)) (kD : PySem.W.keepIn K (.ref fD) = true) (bD : Binds K fdD ["houses", "stands", "value"] []) : FnOk P w K mg base (CX P w) 4 f fd ["houses", "stands", "deeds"] (spDeeds K CI) := by
  refine F.okX scDs (fun vs H Q E h => ?_) (fun cdv A outer s H vs Q E hr h => ?_)
  · obtain ⟨h, t, a, hs, ss, xs, ds, rfl, _⟩ := h
    rfl
  · obtain ⟨h, t, a, hs, ss, xs, ds, rfl, hh, ht, ha, hx, ft, hn, kq, ke⟩ := h
    refine ⟨_, (pss_one (ps_for (passes_of rfl) rfl (pi_list (pv 2)) (pg_name (i := 3) scDs.nd rfl (Or.inl rfl)) (pss_one (ps_if (pt_not (pt_val (pe_call GD (hr.mono (by decide)) (by rfl) mD kD bD .nil pass0 (pa_cons (pv 0) (pa_cons (pv 1) (pa_cons (pv 3) pa_nil)))))) (pss_one (ps_rE c rfl (hr.mono (by decide)) rfl (takes_of rfl rfl rfl rfl) (pa_cons (pv 3) pa_nil))) pss_nil)))), ?_⟩
    have hl := swAll_len hx
    refine ⟨_, rfl, a, rfl, ⟨xs, ha⟩, for_list (xs := xs) (fun i σ H' => ∃ s3, σ = [some (.ref h), some (.ref t), some (.ref a), s3] ∧ Ex H H' ∧ ∀ j, j < i → badD hs ss ds j = false) ⟨_, rfl, Ex.refl H, fun j hj => by omega⟩ (fun i σ H' _ p => ?_) ?_ (fun σ H' p => ?_)⟩
    · obtain ⟨s3, rfl, e, _⟩ := p
      exact ex_l e ha
    · rintro i y σ H1 hy ⟨s3, rfl, e1, nb⟩
      obtain ⟨d, hd, hyd⟩ := swAll_get hx hy
      have fd' : FitT d := ft d (List.mem_of_getElem? hd)
      have hi := (List.getElem?_eq_some_iff.mp hy).1
      refine s_when (b := badD hs ss ds i) ?_ (fun hb H3 e3 => ?_) (fun hb H3 e3 => ?_)
      · have eb : badD hs ss ds i = !isDeed hs ss d := by unfold badD; rw [hd]
        rw [eb]
        exact et_not (et_B (ev_call (ea_cons (ev_var rfl) (ea_cons (ev_var rfl) (ea_cons (ev_var rfl) ea_nil))) (spv_deed (ex_l e1 hh) (ex_l e1 ht) (Sw.ex e1 d y hyd) fd')))
      · exact ⟨y, rfl, fun dd H4 n4 e4 h4 => ke i y (first_some (by omega) hb nb) hy dd H4 (fresh_back (e1.trans e3) n4) ((e1.trans e3).trans e4) h4⟩
      · refine ⟨_, rfl, e1.trans e3, fun j hj => ?_⟩
        by_cases hj2 : j < i
        · exact nb j hj2
        · obtain rfl : j = i := by omega
          exact hb
    · obtain ⟨s3, rfl, e, nb⟩ := p
      exact kq (first_none fun j hj => nb j (by omega)) H' e
theorem spv_alr {K : PySem.W.Frag} {H : Hp} {v : V} {l : Addr} {xs : List V} {e : E3} {es : List E3} (hv : Sw K H v (e3D e)) (hl : SqL K H l xs) (ha : SwAll K H xs (es.map e3D)) (oe : KnOk (k3 e)) (oes : ∀ z ∈ es, KnOk (k3 z)) (hn : es.length ≤ 40000) :
    SpV (spAlr K) [v, .ref l] H (.bl (decide (k3 e ∈ es.map k3))) := fun H1 x Q q E => ⟨v, l, xs, e, es, rfl, Sw.ex x _ _ hv, ex_l x hl, SwAll.ex x _ _ ha, oe, oes, hn, fun H' e' => q H' e'⟩
theorem ok_hears {f CI fH fA : Addr} {fd fdH fdA : FuncData} (F : Fun K "check_hearings" "check_hearings" sHears f fd) (B : Bt mg) (c : ErC P w K mg base "InvalidItem" "value" CI)
    (GH : FnOk P w K mg base CX0 3 fH fdH ["houses", "stands", "value"] (spHear K)) (mH : mg "is_hearing" = some (.ref fH)) (kH : PySem.W.keepIn K (.ref fH) = true) (bH : Binds K fdH ["houses", "stands", "value"] [])
    (GA : FnOk P w K mg base CX0 1 fA fdA ["hearing", "hearings"] (spAlr K)) (mA : mg "is_heard_already" = some (.ref fA)) (kA : PySem.W.keepIn K (.ref fA) = true) (bA : Binds K fdA ["hearing", "hearings"] []) : FnOk P w K mg base (CX P w) 4 f fd ["houses", "stands", "hearings"] (spHears K CI) := by
  refine F.okX scHs (fun vs H Q E h => ?_) (fun cdv A outer s H vs Q E hr h => ?_)
  · obtain ⟨h, t, a, hs, ss, xs, ds, rfl, _⟩ := h
    rfl
  · obtain ⟨h, t, a, hs, ss, xs, ds, rfl, hh, ht, ha, hx, ft, hn, n1, n2, kq, ke⟩ := h
    refine ⟨_, (pss_one (ps_for (passes_of rfl) rfl (pi_enum (by rfl) B.enum (pa_cons (pv 2) pa_nil)) (pg_tup rfl (pgs_cons (pg_name (i := 3) scHs.nd rfl (Or.inl rfl)) (pgs_cons (pg_name (i := 4) scHs.nd rfl (Or.inl rfl)) pgs_nil))) (pss_one (ps_if (PW.pt (pw_or (pt_not (pt_val (pe_call GH (hr.mono (by decide)) (by rfl) mH kH bH .nil pass0 (pa_cons (pv 0) (pa_cons (pv 1) (pa_cons (pv 4) pa_nil)))))) (pw_or1 (pt_val (pe_call GA (hr.mono (by decide)) (by rfl) mA kA bA .nil pass0 (pa_cons (pv 4) (pa_cons (pe_slice sl_list (pv 2) po_none (po_some (pv 3))) pa_nil))))))) (pss_one (ps_rE c rfl (hr.mono (by decide)) rfl (takes_of rfl rfl rfl rfl) (pa_cons (pv 4) pa_nil))) pss_nil)))), ?_⟩
    have hl := swAll_len hx
    refine ⟨_, rfl, a, xs, rfl, ha, for_it (walk_enum (xs := xs)) (fun i σ H' => ∃ s3 s4, σ = [some (.ref h), some (.ref t), some (.ref a), s3, s4] ∧ Ex H H' ∧ ∀ j, j < i → badH hs ss ds j = false) ⟨_, _, rfl, Ex.refl H, fun j hj => by omega⟩ (fun i σ H' _ p => ?_) ?_ (fun σ H' p => ?_)⟩
    · obtain ⟨s3, s4, rfl, e, _⟩ := p
      exact ex_l e ha
    · rintro i x σ H1 H2 hi ⟨s3, s4, rfl, e1, nb⟩ ⟨T, ix, y, rfl, nT, rfl, hix, hy⟩
      obtain rfl : V.int (i : Nat) = ix := Option.some.inj hix
      obtain ⟨d, hd, hyd⟩ := swAll_get hx hy
      have fd' : FitT d := ft d (List.mem_of_getElem? hd)
      have eT : Ex H1 (upd H1 T (.tup [.int (i : Nat), y])) := Ex.new nT
      have e2 := e1.trans eT
      have pre : ∀ z ∈ ds.take i, isHear hs ss z = true := fun z hz => by
        obtain ⟨j, hj, rfl⟩ := List.mem_iff_getElem.mp hz
        rw [List.length_take] at hj
        have q := nb j (by omega)
        rw [List.getElem_take]
        unfold badH at q
        rw [List.getElem?_eq_getElem (by omega)] at q
        simp only [Bool.or_eq_false_iff, Bool.not_eq_false'] at q
        exact q.1
      obtain ⟨es, hes, oes, kes⟩ := hears_e3 n1 n2 pre
      refine ⟨T, _, rfl, SqT.of upd_same, rfl, _, _, rfl, _, _, rfl, rfl, ?_⟩
      refine s_when (b := badH hs ss ds i) ?_ (fun hb H3 e3 => ?_) (fun hb H3 e3 => ?_)
      · have eb : badH hs ss ds i = (!isHear hs ss d || decide (keyH d ∈ (ds.take i).map keyH)) := by unfold badH; rw [hd]
        rw [eb]
        refine et_or (et_not (et_B (ev_call (ea_cons (ev_var rfl) (ea_cons (ev_var rfl) (ea_cons (ev_var rfl) ea_nil))) (spv_hear (ex_l e2 hh) (ex_l e2 ht) (Sw.ex e2 d y hyd) fd')))) fun hb => ?_
        obtain ⟨e, rfl, oe, ke3⟩ := hear_e3 n1 n2 (by simpa using hb)
        rw [ke3, kes]
        have hxs := SwAll.ex e2 _ _ (swAll_take i hx)
        rw [hes] at hxs
        have les : es.length ≤ 40000 := by
          have : (ds.take i).length = es.length := by rw [hes, List.length_map]
          rw [List.length_take] at this
          omega
        refine et_B (fun H4 e4 Q4 q4 => ?_)
        refine ⟨_, rfl, _, rfl, _, rfl, _, rfl, a, xs, rfl, ex_l (e2.trans e4) ha, fun p np => ?_⟩
        have e5 := Ex.new (o := .lst (cutV xs none (some ((i : Nat) : Int)))) np
        refine spv_alr (Sw.ex (e4.trans e5) _ _ (Sw.ex e2 _ _ hyd)) (SqL.of (upd_same (o := .lst (cutV xs none (some ((i : Nat) : Int)))))) ?_ oe oes les _ (Ex.refl _) _ (fun H6 e6 => q4 H6 (e5.trans e6)) E0
        rw [cut_take]
        rw [cut_take] at e5
        exact SwAll.ex (e4.trans e5) _ _ hxs
      · exact ⟨y, rfl, fun dd H4 n4 e4 h4 => ke i y (first_some (by omega) hb nb) hy dd H4 (fresh_back (e2.trans e3) n4) ((e2.trans e3).trans e4) h4⟩
      · refine ⟨_, _, rfl, e2.trans e3, fun j hj => ?_⟩
        by_cases hj2 : j < i
        · exact nb j hj2
        · obtain rfl : j = i := by omega
          exact hb
    · obtain ⟨s3, s4, rfl, e, nb⟩ := p
      exact kq (first_none fun j hj => nb j (by omega)) H' e
end
end Lst
/-! ### a book is made -/
namespace Bk
open PySem PySem.Spec PyProof.Rows L2 Evl Gen Ent Rep Dat Nm Er Chk Deed Pts Hear Lst
/-- a def of the top that keeps a promise -/
structure Df (P : Program) (w : World) (K : PySem.W.Frag) (mg : Str → Option Value) (base : Heap) (cx : CXT) (k : Nat) (x : Str) (ps : List Str) (sp : Sp) : Prop where
  ex : ∃ f fd, FnOk P w K mg base cx k f fd ps sp ∧ mg x = some (.ref f) ∧ PySem.W.keepIn K (.ref f) = true ∧ Binds K fd ps []
section
variable {X : Cx} {cx : CXT} {k j : Nat} {ps : List Str} {sp : Sp} {E : XK} {x : Str} {p pos : Pos} {e : Expr} {es : List Expr} {t : TA}
theorem pe_df (D : Df X.prog X.w X.K X.mg X.base cx k x ps sp) (hr : Room j X.A) (hx : Passes cx X E) (ha : PA X (e :: es) t) (hk : k ≤ j := by decide) (hg : Gl X x := by rfl) (hdb : (x == ("__debug__" : Str)) = false := by decide)
    (he : starEach (e :: es) X.env = (false, eval e X.env) :: starEach es X.env := by rfl) (hpl : (backTo pos (starEach es X.env)).any (·.1) = false := by rfl) :
    PE X (.Call (.Name x p) (e :: es) [] pos) (tCall sp [] E t) := by
  obtain ⟨f, fd, G, hm, hkp, hb⟩ := D.ex
  exact pe_call G (hr.mono hk) hg hm hkp hb .nil hx ha hdb he hpl
end
/-- the items of a list -/
def items : PyData → List PyData
  | .list ds => ds
  | _ => []
abbrev Er := Option (Bool × PyData)
def manyE (d : PyData) (a b : Int) : Er := if many d a b then none else some (true, d)
def itemE (ds : List PyData) (bad : Nat → Bool) : Er := match firstBad ds.length bad with
  | none => none
  | some i => some (false, ds.getD i .none)
def orE (a b : Er) : Er := match a with
  | none => b
  | some e => some e
/-- the first thing that is wrong with what a book is made of: a list, or an item -/
def bookErr (d1 d2 d3 d4 d5 : PyData) : Er :=
  orE (manyE d1 1 3) (orE (itemE (items d1) (badN [] (items d1))) (orE (manyE d2 1 4) (orE (itemE (items d2) (badN ((items d1).map txt) (items d2)))
    (orE (manyE d3 0 10) (orE (itemE (items d3) (badD ((items d1).map txt) ((items d2).map txt) (items d3)))
      (orE (manyE d4 0 12) (orE (itemE (items d4) (badH ((items d1).map txt) ((items d2).map txt) (items d4))) (orE (manyE d5 0 4) (itemE (items d5) (badN [] (items d5)))))))))))
/-- all in it fits: names' lists, entries' lists -/
def FitN (d : PyData) : Prop := ∀ x ∈ items d, Fit x
def FitE (d : PyData) : Prop := ∀ x ∈ items d, FitT x
/-- what a book holds: five lists' values -/
structure BD where
  h : List V
  s : List V
  d : List V
  r : List V
  l : List V
def IsBook (H : Hp) (C p : Addr) (B : BD) : Prop := ∃ dx b1 b2 b3 b4 b5, H p = some (.ins C dx [("_houses", .ref b1), ("_stands", .ref b2), ("_deeds", .ref b3), ("_hearings", .ref b4), ("_lost", .ref b5)]) ∧
  H b1 = some (.lst B.h) ∧ H b2 = some (.lst B.s) ∧ H b3 = some (.lst B.d) ∧ H b4 = some (.lst B.r) ∧ H b5 = some (.lst B.l)
/-- the same, and its lists are new since H -/
def NewBook (H0 H : Hp) (C p : Addr) (B : BD) : Prop := ∃ dx b1 b2 b3 b4 b5, H p = some (.ins C dx [("_houses", .ref b1), ("_stands", .ref b2), ("_deeds", .ref b3), ("_hearings", .ref b4), ("_lost", .ref b5)]) ∧
  (H b1 = some (.lst B.h) ∧ H b2 = some (.lst B.s) ∧ H b3 = some (.lst B.d) ∧ H b4 = some (.lst B.r) ∧ H b5 = some (.lst B.l)) ∧ (H0 b1 = none ∧ H0 b2 = none ∧ H0 b3 = none ∧ H0 b4 = none ∧ H0 b5 = none)
theorem NewBook.is {H0 H : Hp} {C p : Addr} {B : BD} (h : NewBook H0 H C p B) : IsBook H C p B := by
  obtain ⟨dx, b1, b2, b3, b4, b5, h0, ⟨h1, h2, h3, h4, h5⟩, _⟩ := h
  exact ⟨dx, b1, b2, b3, b4, b5, h0, h1, h2, h3, h4, h5⟩
/-- the list that a value is -/
def Src (K : PySem.W.Frag) (H : Hp) (v : V) (xs : List V) : Prop := ∃ a, v = .ref a ∧ SqL K H a xs
theorem mv_back {H H' : Hp} {p b : Addr} (m : Mv p H H') (ne : b ≠ p) (n : H' b = none) : H b = none := by
  cases e : H b with
  | none => rfl
  | some o =>
    have := m b o ne e
    rw [n] at this
    cases this
/-- the class: its facts -/
structure BC (K : PySem.W.Frag) (C : Addr) : Prop where
  cl : Cls K C
  n1 : NoAttr K C "_houses"
  n2 : NoAttr K C "_stands"
  n3 : NoAttr K C "_deeds"
  n4 : NoAttr K C "_hearings"
  n5 : NoAttr K C "_lost"
/-- Book.__init__ -/
def spInit (K : PySem.W.Frag) (CL CI C : Addr) : Sp := fun vs H Q E => ∃ (p dx : Addr) (v1 v2 v3 v4 v5 : V) (d1 d2 d3 d4 d5 : PyData), vs = [.ref p, v1, v2, v3, v4, v5] ∧ H p = some (.ins C dx []) ∧
  (Sw K H v1 d1 ∧ Sw K H v2 d2 ∧ Sw K H v3 d3 ∧ Sw K H v4 d4 ∧ Sw K H v5 d5) ∧ (FitN d1 ∧ FitN d2 ∧ FitE d3 ∧ FitE d4 ∧ FitN d5) ∧
  (bookErr d1 d2 d3 d4 d5 = none → ∀ H' B, Mv p H H' → NewBook H H' C p B → (Src K H v1 B.h ∧ Src K H v2 B.s ∧ Src K H v3 B.d ∧ Src K H v4 B.r ∧ Src K H v5 B.l) → SwAll K H' B.h (items d1) → SwAll K H' B.s (items d2) → SwAll K H' B.d (items d3) → SwAll K H' B.r (items d4) → SwAll K H' B.l (items d5) → Q .non H') ∧
  (∀ b d, bookErr d1 d2 d3 d4 d5 = some (b, d) → ∀ v, Sw K H v d → Bad (if b then CL else CI) v H E)
abbrev sInit : Stmt := inClass (top 18) 0
abbrev NIn : List Str := ["self", "houses", "stands", "deeds", "hearings", "lost"]
theorem scIn : FnScope NIn NIn (defScope sInit) := ⟨rfl, rfl, rfl, by decide +kernel, rfl, by decide +kernel, by decide +kernel⟩
theorem many_list {d : PyData} {a b : Int} (h : many d a b = true) : ∃ ds, d = .list ds ∧ (ds.length : Int) ≤ b := by
  cases d with
  | list ds =>
    refine ⟨ds, rfl, ?_⟩
    have h' : (decide (a ≤ ds.length) && decide ((ds.length : Int) ≤ b)) = true := h
    simp at h'
    exact h'.2
  | none => cases h
  | bool _ => cases h
  | int _ => cases h
  | str _ => cases h
  | tuple _ => cases h
  | dict _ => cases h
theorem sw_list {K : PySem.W.Frag} {H : Hp} {v : V} {ds : List PyData} (h : Sw K H v (.list ds)) : ∃ a xs, v = .ref a ∧ SqL K H a xs ∧ SwAll K H xs ds := by
  cases h with
  | lst hq ha => exact ⟨_, _, rfl, hq, ha⟩
theorem names_all {tk : List Str} {ds : List PyData} (h : firstBad ds.length (badN tk ds) = none) : ∀ d ∈ ds, isNm d = true := by
  intro d hd
  unfold firstBad at h
  rw [List.find?_eq_none] at h
  obtain ⟨i, hi, rfl⟩ := List.mem_iff_getElem.mp hd
  have q := h i (by simpa using hi)
  unfold badN at q
  rw [List.getElem?_eq_getElem hi] at q
  simp only [Bool.or_eq_true, Bool.not_eq_true', not_or, Bool.not_eq_false] at q
  exact q.1
theorem txt_nm {ds : List PyData} (h : ∀ d ∈ ds, isNm d = true) : ∀ s ∈ ds.map txt, nmS s = true := by
  intro s hs
  obtain ⟨d, hd, rfl⟩ := List.mem_map.mp hs
  have q := h d hd
  cases d with
  | str z => exact q
  | none => cases q
  | bool _ => cases q
  | int _ => cases q
  | list _ => cases q
  | tuple _ => cases q
  | dict _ => cases q
theorem sql_mv {K : PySem.W.Frag} {H H' : Hp} {p C dx a : Addr} {fs : List (Str × V)} {xs : List V} (hp : H p = some (.ins C dx fs)) (m : Mv p H H') (h : SqL K H a xs) : SqL K H' a xs := by
  rcases h with (h | ⟨o, h⟩) | h
  · exact .inl (.inl (m _ _ (ne_of h hp (by intro z; cases z)) h))
  · exact .inl (.inr ⟨o, m _ _ (ne_of h hp (by intro z; cases z)) h⟩)
  · exact .inr h
theorem sqt_mv {K : PySem.W.Frag} {H H' : Hp} {p C dx a : Addr} {fs : List (Str × V)} {xs : List V} (hp : H p = some (.ins C dx fs)) (m : Mv p H H') (h : SqT K H a xs) : SqT K H' a xs := by
  rcases h with (h | ⟨o, h⟩) | h
  · exact .inl (.inl (m _ _ (ne_of h hp (by intro z; cases z)) h))
  · exact .inl (.inr ⟨o, m _ _ (ne_of h hp (by intro z; cases z)) h⟩)
  · exact .inr h
section
variable {K : PySem.W.Frag} {H H' : Hp} {p C dx : Addr} {fs : List (Str × V)} (hp : H p = some (.ins C dx fs)) (m : Mv p H H')
include hp m
mutual
theorem sw_mv : ∀ (d : PyData) (v : V), Sw K H v d → Sw K H' v d
  | .none, _, h => by cases h; exact .non
  | .bool b, _, h => by cases h; exact .bl b
  | .int i, _, h => by cases h; exact .int i
  | .str x, _, h => by cases h; exact .str x
  | .list ds, _, h => by
    cases h with
    | lst hs ha => exact .lst (sql_mv hp m hs) (swAll_mv ds _ ha)
  | .tuple ds, _, h => by
    cases h with
    | tup hs ha => exact .tup (sqt_mv hp m hs) (swAll_mv ds _ ha)
  | .dict ds, _, h => by
    cases h with
    | dct hs ha => exact .dct (m _ _ (ne_of hs hp (by intro z; cases z)) hs) (swKv_mv ds _ ha)
theorem swAll_mv : ∀ (ds : List PyData) (vs : List V), SwAll K H vs ds → SwAll K H' vs ds
  | [], _, h => by cases h; exact .nil
  | d :: ds, _, h => by
    cases h with
    | cons h1 h2 => exact .cons (sw_mv d _ h1) (swAll_mv ds _ h2)
theorem swKv_mv : ∀ (ds : List (PyData × PyData)) (kvs : List (Key × V)), SwKv K H kvs ds → SwKv K H' kvs ds
  | [], _, h => by cases h; exact .nil
  | (_, d) :: ds, _, h => by
    cases h with
    | cons h1 h2 => exact .cons (sw_mv d _ h1) (swKv_mv ds _ h2)
end
end
theorem store {H : Hp} {p b C dx : Addr} {fs : List (Str × V)} {X : List V} {f : Str} (hp : H p = some (.ins C dx fs)) (nb : H b = none) :
    b ≠ p ∧ upd (upd H b (.lst X)) p (.ins C dx (putF f (.ref b) fs)) p = some (.ins C dx (putF f (.ref b) fs)) ∧ upd (upd H b (.lst X)) p (.ins C dx (putF f (.ref b) fs)) b = some (.lst X) ∧ Mv p H (upd (upd H b (.lst X)) p (.ins C dx (putF f (.ref b) fs))) := by
  have n : b ≠ p := (ne_of_none hp nb).symm
  refine ⟨n, upd_same, by rw [upd_ne n, upd_same], (Mv.of (Ex.new nb)).trans Mv.upd⟩
theorem fields5 (a b c d e : V) : putF "_lost" e (putF "_hearings" d (putF "_deeds" c (putF "_stands" b (putF "_houses" a [])))) = ([("_houses", a), ("_stands", b), ("_deeds", c), ("_hearings", d), ("_lost", e)] : List (Str × V)) := by rfl
section
variable {P : Program} {w : World} {K : PySem.W.Frag} {mg : Str → Option Value} {base : Heap}
/-- the checks, each with its promise -/
structure Chks (P : Program) (w : World) (K : PySem.W.Frag) (mg : Str → Option Value) (base : Heap) (CL CI : Addr) : Prop where
  many : Df P w K mg base (CX P w) 3 "check_many" ["value", "least", "most"] (spMany K CL)
  names : Df P w K mg base (CX P w) 3 "check_names" ["names", "taken"] (spNames K CI)
  deeds : Df P w K mg base (CX P w) 4 "check_deeds" ["houses", "stands", "deeds"] (spDeeds K CI)
  hears : Df P w K mg base (CX P w) 4 "check_hearings" ["houses", "stands", "hearings"] (spHears K CI)
set_option maxHeartbeats 2000000 in
theorem ok_init {f CL CI C : Addr} {fd : FuncData} (F : Fun K "__init__" "Book.__init__" sInit f fd) (B : Bt mg) (T : Chks P w K mg base CL CI) (c : BC K C) : FnOk P w K mg base (CX P w) 5 f fd NIn (spInit K CL CI C) := by
  refine F.okX scIn (fun vs H Q E h => ?_) (fun cdv A outer s H vs Q E hr h => ?_)
  · obtain ⟨p, dx, v1, v2, v3, v4, v5, d1, d2, d3, d4, d5, rfl, _⟩ := h
    rfl
  · obtain ⟨p, dx, v1, v2, v3, v4, v5, d1, d2, d3, d4, d5, rfl, hp, ⟨w1, w2, w3, w4, w5⟩, ⟨f1, f2, f3, f4, f5⟩, kq, ke⟩ := h
    refine ⟨_, (pss_cons (ps_expr (pe_df T.many hr (passes_call (takes_of rfl rfl rfl rfl) (fun _ _ _ _ h => h)) (pa_cons (pv 1) (pa_cons pe_int (pa_cons pe_int pa_nil)))))
      (pss_cons (ps_expr (pe_df T.names hr (passes_call (takes_of rfl rfl rfl rfl) (fun _ _ _ _ h => h)) (pa_cons (pv 1) (pa_cons (pe_lst pa_nil) pa_nil))))
      (pss_cons (ps_expr (pe_df T.many hr (passes_call (takes_of rfl rfl rfl rfl) (fun _ _ _ _ h => h)) (pa_cons (pv 2) (pa_cons pe_int (pa_cons pe_int pa_nil)))))
      (pss_cons (ps_expr (pe_df T.names hr (passes_call (takes_of rfl rfl rfl rfl) (fun _ _ _ _ h => h)) (pa_cons (pv 2) (pa_cons (pv 1) pa_nil))))
      (pss_cons (ps_expr (pe_df T.many hr (passes_call (takes_of rfl rfl rfl rfl) (fun _ _ _ _ h => h)) (pa_cons (pv 3) (pa_cons pe_int (pa_cons pe_int pa_nil)))))
      (pss_cons (ps_expr (pe_df T.deeds hr (passes_call (takes_of rfl rfl rfl rfl) (fun _ _ _ _ h => h)) (pa_cons (pv 1) (pa_cons (pv 2) (pa_cons (pv 3) pa_nil)))))
      (pss_cons (ps_expr (pe_df T.many hr (passes_call (takes_of rfl rfl rfl rfl) (fun _ _ _ _ h => h)) (pa_cons (pv 4) (pa_cons pe_int (pa_cons pe_int pa_nil)))))
      (pss_cons (ps_expr (pe_df T.hears hr (passes_call (takes_of rfl rfl rfl rfl) (fun _ _ _ _ h => h)) (pa_cons (pv 1) (pa_cons (pv 2) (pa_cons (pv 4) pa_nil)))))
      (pss_cons (ps_expr (pe_df T.many hr (passes_call (takes_of rfl rfl rfl rfl) (fun _ _ _ _ h => h)) (pa_cons (pv 5) (pa_cons pe_int (pa_cons pe_int pa_nil)))))
      (pss_cons (ps_expr (pe_df T.names hr (passes_call (takes_of rfl rfl rfl rfl) (fun _ _ _ _ h => h)) (pa_cons (pv 5) (pa_cons (pe_lst pa_nil) pa_nil))))
      (pss_cons (ps_fld (pv 0) (pe_callTy call_list_of (by rfl) B.list (by decide +kernel) (pa_cons (pv 1) pa_nil)) rfl)
      (pss_cons (ps_fld (pv 0) (pe_callTy call_list_of (by rfl) B.list (by decide +kernel) (pa_cons (pv 2) pa_nil)) rfl)
      (pss_cons (ps_fld (pv 0) (pe_callTy call_list_of (by rfl) B.list (by decide +kernel) (pa_cons (pv 3) pa_nil)) rfl)
      (pss_cons (ps_fld (pv 0) (pe_callTy call_list_of (by rfl) B.list (by decide +kernel) (pa_cons (pv 4) pa_nil)) rfl)
      (pss_one (ps_fld (pv 0) (pe_callTy call_list_of (by rfl) B.list (by decide +kernel) (pa_cons (pv 5) pa_nil)) rfl)))))))))))))))), ?_⟩
    have kb : ∀ (b : Bool) (d : PyData) (v : V) (H' : Hp), bookErr d1 d2 d3 d4 d5 = some (b, d) → Sw K H v d → Ex H H' → Bad (if b then CL else CI) v H' E := fun b d v H' h s e => (ke b d h v s).ex e
    -- houses
    refine ⟨_, rfl, v1, d1, 1, 3, rfl, w1, fun g1 H1 e1 => ?_, fun g1 => kb true d1 v1 _ (by simp [bookErr, orE, manyE, g1]) w1 (Ex.refl H)⟩
    obtain ⟨l1, rfl, z1⟩ := many_list g1
    obtain ⟨a1, x1, rfl, q1, s1⟩ := sw_list w1
    refine ⟨_, rfl, by show 0 ≤ sizeLine; decide, fun t1 nt1 => ?_⟩
    have y1 := e1.trans (Ex.new (o := .lst []) nt1)
    refine ⟨a1, t1, x1, l1, [], rfl, ex_l y1 q1, SwAll.ex y1 _ _ s1, f1, by omega, SqL.of upd_same, fun g2 H2 e2 => ?_, fun i x hf hx => ?_⟩
    rotate_left
    · obtain ⟨d, hd, hs⟩ := swAll_get s1 hx
      exact kb false d x _ (by simp [bookErr, orE, manyE, itemE, items, g1, hf, List.getD_eq_getElem?_getD, hd]) hs y1
    have Y1 := y1.trans e2
    have A1 := names_all g2
    have E1 := strs_of s1 A1
    -- stands
    refine ⟨_, rfl, v2, d2, 1, 4, rfl, Sw.ex Y1 _ _ w2, fun g3 H3 e3 => ?_, fun g3 => kb true d2 v2 _ (by simp [bookErr, orE, manyE, itemE, items, g1, g2, g3]) w2 Y1⟩
    obtain ⟨l2, rfl, z2⟩ := many_list g3
    obtain ⟨a2, x2, rfl, q2, s2⟩ := sw_list w2
    have Y2 := Y1.trans e3
    refine ⟨_, rfl, _, rfl, a2, a1, x2, l2, l1.map txt, rfl, ex_l Y2 q2, SwAll.ex Y2 _ _ s2, f2, by omega, by rw [← E1]; exact ex_l Y2 q1, fun g4 H4 e4 => ?_, fun i x hf hx => ?_⟩
    rotate_left
    · obtain ⟨d, hd, hs⟩ := swAll_get s2 hx
      exact kb false d x _ (by simp [bookErr, orE, manyE, itemE, items, g1, g2, g3, hf, List.getD_eq_getElem?_getD, hd]) hs Y2
    have Y3 := Y2.trans e4
    have A2 := names_all g4
    have E2 := strs_of s2 A2
    -- deeds
    refine ⟨_, rfl, v3, d3, 0, 10, rfl, Sw.ex Y3 _ _ w3, fun g5 H5 e5 => ?_, fun g5 => kb true d3 v3 _ (by simp [bookErr, orE, manyE, itemE, items, g1, g2, g3, g4, g5]) w3 Y3⟩
    obtain ⟨l3, rfl, z3⟩ := many_list g5
    obtain ⟨a3, x3, rfl, q3, s3⟩ := sw_list w3
    have Y4 := Y3.trans e5
    refine ⟨_, rfl, _, rfl, _, rfl, a1, a2, a3, l1.map txt, l2.map txt, x3, l3, rfl, by rw [← E1]; exact ex_l Y4 q1, by rw [← E2]; exact ex_l Y4 q2, ex_l Y4 q3, SwAll.ex Y4 _ _ s3, f3, by omega, fun g6 H6 e6 => ?_, fun i x hf hx => ?_⟩
    rotate_left
    · obtain ⟨d, hd, hs⟩ := swAll_get s3 hx
      exact kb false d x _ (by simp [bookErr, orE, manyE, itemE, items, g1, g2, g3, g4, g5, hf, List.getD_eq_getElem?_getD, hd]) hs Y4
    have Y5 := Y4.trans e6
    -- hearings
    refine ⟨_, rfl, v4, d4, 0, 12, rfl, Sw.ex Y5 _ _ w4, fun g7 H7 e7 => ?_, fun g7 => kb true d4 v4 _ (by simp [bookErr, orE, manyE, itemE, items, g1, g2, g3, g4, g5, g6, g7]) w4 Y5⟩
    obtain ⟨l4, rfl, z4⟩ := many_list g7
    obtain ⟨a4, x4, rfl, q4, s4⟩ := sw_list w4
    have Y6 := Y5.trans e7
    refine ⟨_, rfl, _, rfl, _, rfl, a1, a2, a4, l1.map txt, l2.map txt, x4, l4, rfl, by rw [← E1]; exact ex_l Y6 q1, by rw [← E2]; exact ex_l Y6 q2, ex_l Y6 q4, SwAll.ex Y6 _ _ s4, f4, by omega, txt_nm A1, txt_nm A2, fun g8 H8 e8 => ?_, fun i x hf hx => ?_⟩
    rotate_left
    · obtain ⟨d, hd, hs⟩ := swAll_get s4 hx
      exact kb false d x _ (by simp [bookErr, orE, manyE, itemE, items, g1, g2, g3, g4, g5, g6, g7, hf, List.getD_eq_getElem?_getD, hd]) hs Y6
    have Y7 := Y6.trans e8
    -- lost
    refine ⟨_, rfl, v5, d5, 0, 4, rfl, Sw.ex Y7 _ _ w5, fun g9 H9 e9 => ?_, fun g9 => kb true d5 v5 _ (by simp [bookErr, orE, manyE, itemE, items, g1, g2, g3, g4, g5, g6, g7, g8, g9]) w5 Y7⟩
    obtain ⟨l5, rfl, z5⟩ := many_list g9
    obtain ⟨a5, x5, rfl, q5, s5⟩ := sw_list w5
    have Y8 := Y7.trans e9
    refine ⟨_, rfl, by show 0 ≤ sizeLine; decide, fun t2 nt2 => ?_⟩
    have Y9 := Y8.trans (Ex.new (o := .lst []) nt2)
    refine ⟨a5, t2, x5, l5, [], rfl, ex_l Y9 q5, SwAll.ex Y9 _ _ s5, f5, by omega, SqL.of upd_same, fun g0 HA eA => ?_, fun i x hf hx => ?_⟩
    rotate_left
    · obtain ⟨d, hd, hs⟩ := swAll_get s5 hx
      exact kb false d x _ (by simp [bookErr, orE, manyE, itemE, items, g1, g2, g3, g4, g5, g6, g7, g8, g9, hf, List.getD_eq_getElem?_getD, hd]) hs Y9
    have YA := Y9.trans eA
    -- the fields
    have hpA := YA _ _ hp
    have m0 : Mv p H HA := Mv.of YA
    refine ⟨_, rfl, a1, x1, rfl, .inl (ex_l YA q1), fun b1 nb1 => ⟨_, rfl, p, C, dx, _, rfl, by rw [upd_ne (ne_of_none hpA nb1)]; exact hpA, c.cl, c.n1, by decide, ?_⟩⟩
    obtain ⟨i1, j1, k1, m1⟩ := store (f := "_houses") (X := x1) hpA nb1
    generalize upd (upd HA b1 (.lst x1)) p (.ins C dx (putF "_houses" (.ref b1) [])) = HB at j1 k1 m1
    have M1 := m0.trans m1
    have P2 := j1
    refine ⟨_, rfl, a2, x2, rfl, .inl (sql_mv hp M1 q2), fun b2 nb2 => ⟨_, rfl, p, C, dx, _, rfl, by rw [upd_ne (ne_of_none P2 nb2)]; exact P2, c.cl, c.n2, (by show 1 < 1000; decide), ?_⟩⟩
    obtain ⟨i2, j2, k2, m2⟩ := store (f := "_stands") (X := x2) P2 nb2
    generalize upd (upd HB b2 (.lst x2)) p (.ins C dx (putF "_stands" (.ref b2) (putF "_houses" (.ref b1) []))) = HC at j2 k2 m2
    have M2 := M1.trans m2
    have P3 := j2
    refine ⟨_, rfl, a3, x3, rfl, .inl (sql_mv hp M2 q3), fun b3 nb3 => ⟨_, rfl, p, C, dx, _, rfl, by rw [upd_ne (ne_of_none P3 nb3)]; exact P3, c.cl, c.n3, (by show 2 < 1000; decide), ?_⟩⟩
    obtain ⟨i3, j3, k3, m3⟩ := store (f := "_deeds") (X := x3) P3 nb3
    generalize upd (upd HC b3 (.lst x3)) p (.ins C dx (putF "_deeds" (.ref b3) (putF "_stands" (.ref b2) (putF "_houses" (.ref b1) [])))) = HD at j3 k3 m3
    have M3 := M2.trans m3
    have P4 := j3
    refine ⟨_, rfl, a4, x4, rfl, .inl (sql_mv hp M3 q4), fun b4 nb4 => ⟨_, rfl, p, C, dx, _, rfl, by rw [upd_ne (ne_of_none P4 nb4)]; exact P4, c.cl, c.n4, (by show 3 < 1000; decide), ?_⟩⟩
    obtain ⟨i4, j4, k4, m4⟩ := store (f := "_hearings") (X := x4) P4 nb4
    generalize upd (upd HD b4 (.lst x4)) p (.ins C dx (putF "_hearings" (.ref b4) (putF "_deeds" (.ref b3) (putF "_stands" (.ref b2) (putF "_houses" (.ref b1) []))))) = HE at j4 k4 m4
    have M4 := M3.trans m4
    have P5 := j4
    refine ⟨_, rfl, a5, x5, rfl, .inl (sql_mv hp M4 q5), fun b5 nb5 => ⟨_, rfl, p, C, dx, _, rfl, by rw [upd_ne (ne_of_none P5 nb5)]; exact P5, c.cl, c.n5, (by show 4 < 1000; decide), ?_⟩⟩
    obtain ⟨i5, j5, k5, m5⟩ := store (f := "_lost") (X := x5) P5 nb5
    generalize upd (upd HE b5 (.lst x5)) p (.ins C dx (putF "_lost" (.ref b5) (putF "_hearings" (.ref b4) (putF "_deeds" (.ref b3) (putF "_stands" (.ref b2) (putF "_houses" (.ref b1) [])))))) = HF at j5 k5 m5
    have M5 := M4.trans m5
    dsimp only
    rw [fields5] at j5
    have z1' := m5 _ _ i1 (m4 _ _ i1 (m3 _ _ i1 (m2 _ _ i1 k1)))
    have z2' := m5 _ _ i2 (m4 _ _ i2 (m3 _ _ i2 k2))
    have z3' := m5 _ _ i3 (m4 _ _ i3 k3)
    have z4' := m5 _ _ i4 k4
    exact kq (by simp [bookErr, orE, manyE, itemE, items, g1, g2, g3, g4, g5, g6, g7, g8, g9, g0]) HF ⟨x1, x2, x3, x4, x5⟩ M5 ⟨dx, b1, b2, b3, b4, b5, j5, ⟨z1', z2', z3', z4', k5⟩, mv_back m0 i1 nb1, mv_back M1 i2 nb2, mv_back M2 i3 nb3, mv_back M3 i4 nb4, mv_back M4 i5 nb5⟩ ⟨⟨_, rfl, q1⟩, ⟨_, rfl, q2⟩, ⟨_, rfl, q3⟩, ⟨_, rfl, q4⟩, ⟨_, rfl, q5⟩⟩ (swAll_mv hp M5 _ _ s1) (swAll_mv hp M5 _ _ s2) (swAll_mv hp M5 _ _ s3) (swAll_mv hp M5 _ _ s4) (swAll_mv hp M5 _ _ s5)
end
end Bk
/-! ### a caught error that is kept beyond its suite -/
namespace TryK
open PySem PySem.Spec PyProof.Rows L2
/-- at a an exception stands: its class, its own dict -/
def ExK (cls : Value) (d : Option Addr) (a : Addr) : HO := .ext fun h => ∃ (oe : Obj) (vs : Array Value), h.get? a = some oe ∧ Zc cls d oe ∧ oe.data = .fields vs
theorem exK_ok {P : Program} {w : World} {H : Hp} {h : Heap} {a : Addr} {cls : Value} {d : Option Addr} {oe : Obj} {vs : Array Value} (e : h.get? a = some oe) (z : Zc cls d oe) (hv : oe.data = .fields vs) : ObjOk P w H h a (ExK cls d a) :=
  ⟨⟨oe, vs, e, z, hv⟩, ⟨oe, e⟩, fun _ _ ⟨o, v, q, r⟩ k => ⟨o, v, k o q, r⟩⟩
theorem exK_at {P : Program} {w : World} {H : Hp} {h : Heap} {a : Addr} {cls : Value} {d : Option Addr} (x : HOk P w H h) (e : H a = some (ExK cls d a)) : ∃ (oe : Obj) (vs : Array Value), h.get? a = some oe ∧ Zc cls d oe ∧ oe.data = .fields vs := by
  have q : ObjOk P w H h a (ExK cls d a) := x a _ e
  exact q.1
section
variable {X : Cx} {pins : List (Addr × Obj)} {σ : L2.St} {H : Hp} {s : Shared}
/-- an object that came since the entry is tracked from now on -/
theorem track {a : Addr} {oe : Obj} {vs : Array Value} {o : HO} (I : Inv X pins σ H s) (ha : s.heap.get? a = some oe) (hv : oe.data = .fields vs) (hn : H a = none) (h0 : ∀ u, X.s_0.heap.get? a = some u → a ∈ X.ex) (hL : a ≠ X.env.locals)
    (hp : ∀ p ∈ X.pn ++ pins, p.1 ≠ a) (new : ObjOk X.prog X.w (upd H a o) s.heap a o) : Inv X pins σ (upd H a o) s where
  ok := I.ok
  os := I.os
  bare := I.bare
  base := {
    keep := I.base.keep
    slot := I.base.slot
    free := fun b u q n hx => by
      rw [upd_ne fun z => hx (by subst z; exact h0 u q)]
      exact I.base.free b u q n hx
    there := I.base.there
    tups := fun b xs q => by
      rw [upd_ne (ne_of_none (I.base.tups b xs q) hn)]
      exact I.base.tups b xs q
    frzs := fun b u xs q => by
      rw [upd_ne (ne_of_none (I.base.frzs b u xs q) hn)]
      exact I.base.frzs b u xs q
    tbls := fun b ps q => by
      obtain ⟨more, e⟩ := I.base.tbls b ps q
      exact ⟨more, by rw [upd_ne (ne_of_none e hn)]; exact e⟩ }
  loc := I.loc
  cell := I.cell
  free := by
    rw [upd_ne hL.symm]
    exact I.free
  freeC := fun x c e => by
    have ne : c ≠ a := fun z => by
      subst z
      obtain ⟨v, o', q1, q2⟩ := I.cell x c e
      rw [ha] at q1
      cases q1
      rw [hv] at q2
      cases q2
    rw [upd_ne ne]
    exact I.freeC x c e
  pin := fun p m => by
    obtain ⟨q1, q2, q3⟩ := I.pin p m
    exact ⟨q1, by rw [upd_ne (hp p m)]; exact q2, q3⟩
  hok := I.hok.laidN (fun _ _ q => q) hn new
  len := I.len
end
/-- what the clause wishes of what the body raises: caught, the suite runs, the name goes, and the error stands tracked -/
def wKeep (K : PySem.W.Frag) (c : Value) (i : Nat) (ts : Addr → Value → Option Addr → TS) (Wout : WX) (D : Ends) : WX := fun cls d σ H =>
  ∃ b, PySem.W.exmOne K cls c = some b ∧ (b = false → Wout cls d σ H) ∧
    (b = true → ∀ a, H a = none → ts a cls d { nx := fun σ' H' => D.nx (σ'.set i none) (upd H' a (ExK cls d a)), rt := D.rt, bk := fun σ' H' => D.bk (σ'.set i none) H', ct := fun σ' H' => D.ct (σ'.set i none) H' } (σ.set i (some (.ref a))) H)
section
variable {X : Cx} {x n : Str} {c : Value} {i : Nat} {body rest : List Stmt} {st₀ : Stmt} {q1 q2 q3 : Pos} {tb : WX → TS} {ts : Addr → Value → Option Addr → TS} {Wout : WX}
set_option maxHeartbeats 2000000 in
theorem ps_try_keep (hs : X.stack = X.env :: X.outer) (hf : X.env.frame = some X.env.locals) (hN : X.N.Nodup) (hi : X.N[i]? = some n) (hl : X.env.kindOf n = some .local) (hc : Names X x c) (tk : Takes X Wout)
    (hb : ∀ (W : WX) (pn : List (Addr × Obj)) (xe : Value → Shared → Prop), Takes (X.tr pn xe) W → PassesOwn (model X.prog X.w) X.A X.env xe → PSs (X.tr pn xe) body (tb W))
    (hu : ∀ (a : Addr) (oe : Obj) (cls : Value) (d : Option Addr) (pn : List (Addr × Obj)), Zc cls d oe → (∃ vs, oe.data = .fields vs) → PSs (X.suite a ((a, oe) :: pn)) (st₀ :: rest) (ts a cls d)) :
    PS X (.Try body [.ExceptHandler (some (.Name x q1)) (some n) (st₀ :: rest) q2] [] [] q3) (fun D σ H => tb (wKeep X.K c i ts Wout D) D σ H) := by
  constructor
  intro pins s σ H D I0 h
  have okX := I0.ok
  have frames : X.A.frames = some (X.env :: X.outer) := by
    rw [okX.frames, hs]
  refine wpAny_Try_except (wpAny_mono ((hb (wKeep X.K c i ts Wout D) (X.pn ++ pins) (fun e z => wpAny (model X.prog X.w) X.A (noteFrame e X.env) (fun _ z1 => wpAny (model X.prog X.w) X.A (setFlight e none)
    (fun _ z2 => wpAny (model X.prog X.w) X.A (handleBy e X.env [.ExceptHandler (some (.Name x q1)) (some n) (st₀ :: rest) q2]) (SP X pins D) X.xe z2) X.xe z1) X.xe z) (fun v z fly => ?_) PassesOwn.looking).run [] s σ H D (I0.toTry _) h) (fun fl z done => ?_) (fun v z raised => raised))
  rotate_left
  · -- the body ran through
    cases fl with
    | next =>
      obtain ⟨τ, G, IG, k⟩ := done
      exact wpAny_execs_nil ⟨τ, G, IG.ofTry okX, k⟩
    | ret v =>
      obtain ⟨y, τ, G, IG, ry, k⟩ := done
      exact ⟨y, τ, G, IG.ofTry okX, ry, k⟩
    | brk =>
      obtain ⟨τ, G, IG, k⟩ := done
      exact ⟨τ, G, IG.ofTry okX, k⟩
    | cont =>
      obtain ⟨τ, G, IG, k⟩ := done
      exact ⟨τ, G, IG.ofTry okX, k⟩
  · -- something is in the air
    obtain ⟨a, B, t0, pt, τ, G, cls, d, ev, It, inB, slots, air, an, os, bare, b, hm, out, caught⟩ := fly
    subst ev
    have J := It.ofTry okX
    rw [hs] at air
    refine Sky.land Zc.steady frames hf air fun h1 ground up1 => ?_
    have J1 : Inv X pins τ G { z with heap := h1 } := J.landed inB ground.1 (slots.trans up1) os bare
    obtain ⟨oe, vs, at1, z1, dat1⟩ := ground.there
    have noFrame : a ∉ frs (X.env :: X.outer) := fun hm => by
      obtain ⟨_, u, e, nf⟩ := ground.2.2.1.mem hm
      rw [at1] at e
      cases e
      exact nf _ dat1
    have notL : a ≠ X.env.locals := fun e => noFrame (List.mem_filterMap.mpr ⟨X.env, List.mem_cons_self, by rw [hf, e]⟩)
    have notF : a ∉ X.fs := fun m => by
      obtain ⟨e, he, q⟩ := List.mem_filterMap.mp m
      exact noFrame (List.mem_filterMap.mpr ⟨e, List.mem_cons_of_mem _ he, q⟩)
    have fresh : t0.heap.get? a = none := by
      cases e : t0.heap.get? a with
      | none => rfl
      | some u =>
        have := inB a u e (by rw [hs]; exact noFrame)
        rw [ground.2.1] at this
        cases this
    have S1 := J1.suite at1 dat1 an notL notF
    refine wpAny_handleBy_cons (codeAny_handlers_test ?_) (by intro q; cases q)
    have isC : PySem.W.Looks (model X.prog X.w) h1 (typeOf (.ref a)) cls := fun A Q E s k q => wpAny_typeOf_ref (k _ _ at1) (by rw [z1.1]; exact q)
    have answer := PySem.W.exm_one (M := model X.prog X.w) (J1.kIn) isC hm
    have named : ∀ {Q : Value → Shared → Prop} {E : Value → Shared → Prop}, Q c { z with heap := h1 } → wpAny (model X.prog X.w) (X.A.mark (some (.ref a))) (eval (.Name x q1) X.env) Q E { z with heap := h1 } := fun {Q E} q => by
      obtain ⟨g, dbg, m | ⟨m, v, nn⟩⟩ := hc
      · exact ld_glob (X := X.suite a ((a, oe) :: (X.pn ++ pins))) S1 g m q dbg
      · exact ld_blt (X := X.suite a ((a, oe) :: (X.pn ++ pins))) S1 g m v q nn dbg
    refine named (answer.here ?_)
    cases b with
    | false =>
      refine (show wpAny _ X.A (handleBy (.ref a) X.env []) _ _ _ from wpAny_handleBy_nil ?_)
      obtain ⟨_, _, _, oe2, vs2, T, oT, ts2, g1, g2, g3, g4, _⟩ := id ground
      unfold PySem.passOn
      refine wpAny_bind (wpAny_field g1 g3 g4 ?_)
      rw [if_neg (show ¬ ((Value.ref T == Value.none) = true) from by simp)]
      have onward : wpAny (model X.prog X.w) X.A (setFlight (.ref a) X.env.frame) (fun _ z4 => wpAny (model X.prog X.w) X.A (throw (.ref a) : Sem Flow) (SP X pins D) X.xe z4) X.xe { z with heap := h1 } := by
        rw [hf]
        exact HandSPX.setFlight_upZ ground fun h2 air2 up2 => wpAny_throw (tk _ _ ⟨a, B, t0, pins, τ, G, cls, d, rfl, J, inB, (slots.trans up1).trans up2, .inr (.inr (by rw [hs]; exact air2)), an, os, bare, out rfl⟩)
      first
        | exact wpAny_bind (wpAny_pure (wpAny_bind onward))
        | exact wpAny_bind onward
    | true =>
      refine codeAny_handlers_suite_as (HandSPX.lands_againZ ground fun h2 ground2 up2 => ?_)
      have J2 : Inv X pins τ G { z with heap := h2 } := J.landed inB ground2.1 ((slots.trans up1).trans up2) os bare
      obtain ⟨of, vf, at2, z2, dat2⟩ := ground2.there
      have S2 := J2.suite at2 dat2 an notL notF
      refine store_ok (X := X.suite a ((a, of) :: (X.pn ++ pins))) (v := .ref a) S2 hN hi (.inl hl) rfl (fun s3 S3 => ?_) (.inr hl)
      refine wpAny_mono ((hu a of cls d (X.pn ++ pins) z2 ⟨_, dat2⟩).run [] s3 _ G _ S3 (caught rfl a an)) (fun fl s4 done => ?_) (fun _ _ k => False.elim k)
      have gone : ∀ {τ4 : L2.St} {G4 : Hp} {Q : Shared → Prop}, Inv X pins τ4 G4 s4 → (∀ s5, Inv X pins (τ4.set i none) G4 s5 → Q s5) → wpAny (model X.prog X.w) X.A (do bindName X.env n .none; unbindBehindTheSuite X.env n q2) (fun _ s5 => Q s5) X.xe s4 :=
        fun {τ4 G4 Q} K4 k => gone_ok K4 hN hi hl k
      cases fl with
      | next =>
        obtain ⟨τ4, G4, S4, k⟩ := done
        obtain ⟨at4, an4, _⟩ := S4.pin (a, of) (List.mem_append_left _ List.mem_cons_self)
        have I4 := S4.unsuite okX
        have I5 : Inv X pins τ4 (upd G4 a (ExK cls d a)) s4 := track I4 at4 dat2 an4 (fun u q => by
          by_cases m : a ∈ X.ex
          · exact m
          · obtain ⟨u', e⟩ := J.base.there a u q m
            rw [fresh] at e
            cases e) notL (fun p m e => by
              have e2 := (J.pin p m).1
              rw [e, fresh] at e2
              cases e2) (exK_ok at4 z2 dat2)
        exact gone I5 fun s5 K5 => ⟨_, _, K5, k⟩
      | ret v =>
        obtain ⟨y, τ4, G4, S4, ry, k⟩ := done
        exact gone (S4.unsuite okX) fun s5 K5 => ⟨_, _, _, K5, ry, k⟩
      | brk =>
        obtain ⟨τ4, G4, S4, k⟩ := done
        exact gone (S4.unsuite okX) fun s5 K5 => ⟨_, _, K5, k⟩
      | cont =>
        obtain ⟨τ4, G4, S4, k⟩ := done
        exact gone (S4.unsuite okX) fun s5 K5 => ⟨_, _, K5, k⟩
end
end TryK
/-! ### kept errors: what they are, what they hold -/
namespace KEr
open PySem PySem.Spec PyProof.Rows L2 Evl ExV TryK
/-- at a: a kept error of the class at C; its value -/
def KErr (H : Hp) (a C : Addr) (f : Str) (v : V) : Prop := ∃ d, H a = some (ExK (.ref C) (some d) a) ∧ H d = some (.xd [(f, v)])
theorem KErr.ex {H H' : Hp} {a C : Addr} {f : Str} {v : V} (e : Ex H H') (h : KErr H a C f v) : KErr H' a C f v := by
  obtain ⟨d, h1, h2⟩ := h
  exact ⟨d, e _ _ h1, e _ _ h2⟩
theorem kerr_inst {X : Cx} {pins : List (Addr × Obj)} {σ : L2.St} {H : Hp} {s : Shared} {a C : Addr} {f : Str} {v : V} (I : Inv X pins σ H s) (h : KErr H a C f v) :
    ∃ (oe od : Obj) (mA : Str → Option Value), PySem.W.InstAt s.heap a oe C (some od) ∧ (∀ g, PySem.W.lookIn g od = some (mA g)) ∧ ∀ g, RelO ([(f, v)].lookup g) (mA g) := by
  obtain ⟨d, h1, h2⟩ := h
  obtain ⟨oe, vs, e, z, dv⟩ := exK_at I.hok h1
  have hx : ObjOk X.prog X.w H s.heap d (.xd [(f, v)]) := I.hok d _ h2
  obtain ⟨mA, ns, r⟩ := hx
  obtain ⟨od, ho, hl⟩ := lookIn_ns ns
  exact ⟨oe, od, mA, ⟨e, z.1, by unfold PySem.W.notCls; rw [dv] <;> rfl, by rw [z.2]; exact ho⟩, hl, r⟩
/-- e.f -/
def tKF (K : PySem.W.Frag) (f : Str) (te : TE) : TE := fun σ H Q => te σ H fun x H1 => ∃ a C y, x = .ref a ∧ KErr H1 a C f y ∧ XfC K C ∧ PySem.W.findIn K (.ref C) f = some none ∧ Q y H1
theorem pe_kF {X : Cx} {f : Str} {e : Expr} {te : TE} {pos : Pos} (he : PE X e te) (hb : attributeBase e f X.env (eval e X.env) = eval e X.env := by rfl) : PE X (.Attribute e f pos) (tKF X.K f te) := by
  refine ⟨fun pins s σ H Q I h => attr_of hb (thn (he.run pins s σ H _ I h) fun u s1 hh => ?_)⟩
  obtain ⟨x, H1, I1, rx, a, C, y, ex, hk, T, hno, q⟩ := hh
  subst ex
  obtain rfl : u = Value.ref a := rx
  obtain ⟨oe, od, mA, J, hl, rel⟩ := kerr_inst I1 hk
  obtain ⟨v, hv, rv⟩ := RelO.some_of (v := y) (o := mA f) (by have r := rel f; simp [List.lookup] at r; exact r)
  exact HandSPX.exc_get I1.kIn J T.ga T.gg T.exC (PySem.W.findObj_own T.hdC hno rfl (by rw [hl, hv])) (handed_of rv) ⟨y, H1, I1.tok _, rv, q⟩
/-- isinstance(e, c) -/
def rKIs (K : PySem.W.Frag) : List V → Hp → VK → Prop := fun xs H Q => ∃ a C f v c u b, xs = [.ref a, c] ∧ KErr H a C f v ∧ IsC K C ∧ ClsV c u ∧ PySem.W.kitOne K (.ref C) u = some b ∧ Q (.bl b) H
theorem call_kIs {X : Cx} : CallR X (.builtin "isinstance") (rKIs X.K) := by
  intro pins s σ H xs us Q I r h
  obtain ⟨a, C, f, v, c, u, b, rfl, hk, T, k, e, q⟩ := h
  obtain ⟨u1, u2, rfl, r1, r2⟩ := vals2 r
  obtain rfl := k.eq r2
  obtain rfl : u1 = Value.ref a := r1
  obtain ⟨oe, od, mA, J, _, _⟩ := kerr_inst I hk
  exact PySem.W.kia_one (PySem.W.kitx_exc T.cl T.xf.ga T.xf.gg T.xf.exC T.ha T.hn T.ht T.hm) I.kIn J e (fun z => nomatch z) fun tk => ⟨.bl b, H, I.tok tk, rfl, q⟩
end KEr
/-! ### a new instance, by an __init__ that may raise, in a try: what is raised is wished for at the caller's slots -/
namespace MkS
open PySem PySem.Spec PyProof.Rows L2
section
variable {X : Cx} {CX : CXT} {k : Nat} {f C : Addr} {fd : FuncData} {ps : List Str} {sp : Sp} {E : L2.St → XK} {x : Str} {p pos : Pos} {e : Expr} {es : List Expr} {t : TA}
def tMakeS (C : Addr) (sp : Sp) (E : L2.St → XK) (t : TA) : TE := fun σ H Q => t σ H fun vs H1 => ∀ x dx, H1 x = none → H1 dx = none → dx ≠ x →
  sp (.ref x :: vs) (upd (upd H1 dx (.own x)) x (.ins C dx [])) (fun v H2 => v = .non ∧ Q (.ref x) H2) (E σ)
theorem pe_makeS (M : Mk X.K C f) (F : FnOk X.prog X.w X.K X.mg X.base CX k f fd ps sp) (hr : Room (k + 1) X.A) (hg : Gl X x) (hm : X.mg x = some (.ref C)) (hb : Binds X.K fd ps []) (hx : ∀ σ, PassesAt CX X σ (E σ)) (ha : PA X (e :: es) t)
    (hdb : (x == ("__debug__" : Str)) = false := by decide) (he : starEach (e :: es) X.env = (false, eval e X.env) :: starEach es X.env := by rfl) (hpl : (backTo pos (starEach es X.env)).any (·.1) = false := by rfl) :
    PE X (.Call (.Name x p) (e :: es) [] pos) (tMakeS C sp E t) := by
  constructor
  intro pins s σ H Q I h
  refine wpAny_Call_Name_kw (ld_glob I hg hm (PySem.W.callWith_K (h₀ := X.base) I.ok.mod.kin M.kp (thn (ha.run pos pins s σ H _ I h) fun us z ⟨vs, H1, J, rv, q⟩ => ⟨J.kIn, ?_⟩) he hpl) hdb)
  have want := q (z.heap.objs.size + 1) z.heap.objs.size (J.hok.fresh (Nat.le_succ _)) (J.hok.fresh (Nat.le_refl _)) (Nat.ne_of_lt (Nat.lt_succ_self _))
  have J2 := Inv.made (C := C) J
  have all : Vals (V.ref (z.heap.objs.size + 1) :: vs) (Value.ref (z.heap.objs.size + 1) :: us) := .cons rfl rv
  have many : ((Value.ref (z.heap.objs.size + 1) :: us) ++ []).length = ps.length := by
    rw [List.append_nil, ← F.len _ _ _ _ want]
    exact all.length.symm
  have bound := hb _ (Value.ref (z.heap.objs.size + 1) :: us) J2.kIn many
  rw [List.append_nil] at bound
  have ran := F.run _ X.stack _ _ ⟨Value.ref (z.heap.objs.size + 1) :: us, []⟩ _ _ _ (E σ) (hr.make C us []) (J2.env0.make C us []) bound all want
  show wpAny _ _ (call (.ref C) us) _ _ _
  refine wpAny_call (make_map (f := f) J.kIn M.makes M.init (beq_iff_eq.mp M.fn) (codeAny_mono ran fun r z2 done => ?_))
  cases r with
  | ok fl =>
    cases fl with
    | ret u =>
      obtain ⟨v, H2, J3, ru, hv, k2⟩ := J2.after done
      subst hv
      exact ⟨ru, V.ref (z.heap.objs.size + 1), H2, J3, rfl, k2⟩
    | next => exact done.elim
    | brk => exact done.elim
    | cont => exact done.elim
  | error er => exact hx σ pins _ _ er z2 J2 done
end
end MkS
/-! ### _law_caught -/
namespace Cau
open PySem PySem.Spec PyProof.Rows L2 Evl Gen Ent ExV Rep Dat Nm Er Chk Gu Deed Pts Hear Lst Bk TryK KEr MkS
/-- the class is called by its name -/
structure BkC (P : Program) (w : World) (K : PySem.W.Frag) (mg : Str → Option Value) (base : Heap) (CL CI C : Addr) : Prop where
  ex : ∃ f fd, Mk K C f ∧ FnOk P w K mg base (CX P w) 5 f fd NIn (spInit K CL CI C) ∧ Binds K fd NIn []
  g : mg "Book" = some (.ref C)
  c : BC K C
/-- it can be shown -/
def Shw (d : PyData) : Prop := d.showable = true ∧ d.shown.length ≤ sizeLine ∧ d.depth ≤ 60
def Fit5 (d1 d2 d3 d4 d5 : PyData) : Prop := FitN d1 ∧ FitN d2 ∧ FitE d3 ∧ FitE d4 ∧ FitN d5
theorem un64 {k : Nat} {A : Around} (hr : Room k A) : A.units + 64 < cLine := by
  have := hr.un
  omega
end Cau
/-! ### what evaluates to data -/
namespace EvD
open PySem PySem.Spec PyProof.Rows L2 Evl Gen Ent Rep Dat Nm Er Chk Gu Deed Pts Hear Lst Bk Cau
/-- a tracked list of such data -/
def TL (K : PySem.W.Frag) (H : Hp) (p : Addr) (ds : List PyData) : Prop := ∃ xs, H p = some (.lst xs) ∧ SwAll K H xs ds
theorem TL.ex {K : PySem.W.Frag} {H H' : Hp} {p : Addr} {ds : List PyData} (e : Ex H H') (h : TL K H p ds) : TL K H' p ds := by
  obtain ⟨xs, h1, h2⟩ := h
  exact ⟨xs, e _ _ h1, SwAll.ex e _ _ h2⟩
theorem TL.sw {K : PySem.W.Frag} {H : Hp} {p : Addr} {ds : List PyData} (h : TL K H p ds) : Sw K H (.ref p) (.list ds) := by
  obtain ⟨xs, h1, h2⟩ := h
  exact .lst (SqL.of h1) h2
def ED (K : PySem.W.Frag) (te : TE) (σ : L2.St) (H : Hp) (d : PyData) : Prop := ∀ H1, Ex H H1 → ∀ Q : VK, (∀ v H2, Ex H1 H2 → Sw K H2 v d → Q v H2) → te σ H1 Q
def EDA (K : PySem.W.Frag) (ta : TA) (σ : L2.St) (H : Hp) (ds : List PyData) : Prop := ∀ H1, Ex H H1 → ∀ Q : List V → Hp → Prop, (∀ vs H2, Ex H1 H2 → SwAll K H2 vs ds → Q vs H2) → ta σ H1 Q
def EL (K : PySem.W.Frag) (te : TE) (σ : L2.St) (H : Hp) (ds : List PyData) : Prop := ∀ H1, Ex H H1 → ∀ Q : VK, (∀ p H2, Ex H1 H2 → TL K H2 p ds → Q (.ref p) H2) → te σ H1 Q
section
variable {K : PySem.W.Frag} {σ : L2.St} {H H' : Hp} {ta tr : TA} {te tb tl : TE} {t : TT} {v : V} {d : PyData} {ds es : List PyData}
theorem ED.mono (e : Ex H H') (h : ED K te σ H d) : ED K te σ H' d := fun H1 a Q q => h H1 (e.trans a) Q q
theorem EL.mono (e : Ex H H') (h : EL K te σ H ds) : EL K te σ H' ds := fun H1 a Q q => h H1 (e.trans a) Q q
theorem ed_c (h : ∀ H, Sw K H v d) : ED K (tC v) σ H d := fun H1 _ Q q => q v H1 (Ex.refl H1) (h H1)
theorem ed_non : ED K (tC .non) σ H .none := ed_c fun _ => .non
theorem ed_bl {b : Bool} : ED K (tC (.bl b)) σ H (.bool b) := ed_c fun _ => .bl b
theorem ed_int {i : Int} : ED K (tC (.int i)) σ H (.int i) := ed_c fun _ => .int i
theorem ed_str {s : Str} : ED K (tC (.str s)) σ H (.str s) := ed_c fun _ => .str s
theorem ed_var {i : Nat} (hi : σ[i]? = some (some v)) (h : Sw K H v d) : ED K (tVar i) σ H d := fun H1 e Q q => ⟨v, hi, q v H1 (Ex.refl H1) (Sw.ex e _ _ h)⟩
theorem el_var {i : Nat} {p : Addr} (hi : σ[i]? = some (some (.ref p))) (h : TL K H p ds) : EL K (tVar i) σ H ds := fun H1 e Q q => ⟨_, hi, q p H1 (Ex.refl H1) (h.ex e)⟩
theorem eda_nil : EDA K tNil σ H [] := fun H1 _ Q q => q [] H1 (Ex.refl H1) .nil
theorem eda_cons (h : ED K te σ H d) (r : EDA K tr σ H ds) : EDA K (tCons te tr) σ H (d :: ds) := fun H1 e Q q =>
  h H1 e _ fun v H2 e2 w => r H2 (e.trans e2) _ fun vs H3 e3 ws => q (v :: vs) H3 (e2.trans e3) (.cons (Sw.ex e3 _ _ w) ws)
theorem el_lst (h : EDA K ta σ H ds) (hz : ds.length ≤ 100000) : EL K (tLst ta) σ H ds := fun H1 e Q q =>
  h H1 e _ fun vs H2 e2 w => ⟨sz_of (by rw [swAll_len w]; exact hz), fun p np => q p _ (e2.trans (Ex.new np)) ⟨vs, upd_same, SwAll.ex (Ex.new np) _ _ w⟩⟩
theorem ed_of (h : EL K te σ H ds) : ED K te σ H (.list ds) := fun H1 e Q q => h H1 e _ fun p H2 e2 w => q _ H2 e2 w.sw
theorem ed_lst (h : EDA K ta σ H ds) (hz : ds.length ≤ 100000) : ED K (tLst ta) σ H (.list ds) := ed_of (el_lst h hz)
theorem ed_tup (h : EDA K ta σ H ds) (hz : ds.length ≤ 100000) : ED K (tTup ta) σ H (.tuple ds) := fun H1 e Q q =>
  h H1 e _ fun vs H2 e2 w => ⟨sz_of (by rw [swAll_len w]; exact hz), fun p np => q _ _ (e2.trans (Ex.new np)) (.tup (SqT.of upd_same) (SwAll.ex (Ex.new np) _ _ w))⟩
theorem ed_dict : ED K tDNewK σ H (.dict []) := fun H1 e Q q p np => q _ _ (Ex.new np) (.dct upd_same .nil)
theorem swAll_app {xs ys : List V} : ∀ {ds es : List PyData}, SwAll K H xs ds → SwAll K H ys es → SwAll K H (xs ++ ys) (ds ++ es) := by
  induction xs with
  | nil => intro ds es a b; cases a; exact b
  | cons x xs ih =>
    intro ds es a b
    cases a with
    | cons p q => exact .cons p (ih q b)
theorem el_cat (h : EL K te σ H ds) (h2 : EL K tb σ H es) (hz : ds.length + es.length ≤ 100000) : EL K (tOp rCat te tb) σ H (ds ++ es) := fun H1 e Q q =>
  h H1 e _ fun p H2 e2 ⟨xs, w1, w2⟩ => h2 H2 (e.trans e2) _ fun p2 H3 e3 ⟨ys, u1, u2⟩ =>
    ⟨p, p2, xs, ys, rfl, rfl, e3 _ _ w1, u1, sz_of (by rw [swAll_len w2, swAll_len u2]; exact hz), fun r nr => q r _ ((e2.trans e3).trans (Ex.new nr)) ⟨_, upd_same, SwAll.ex (Ex.new nr) _ _ (swAll_app (SwAll.ex e3 _ _ w2) u2)⟩⟩
theorem swAll_rep {xs : List V} (a : SwAll K H xs ds) : ∀ n : Nat, SwAll K H (List.replicate n xs).flatten (List.replicate n ds).flatten
  | 0 => .nil
  | n + 1 => by
    rw [List.replicate_succ, List.replicate_succ, List.flatten_cons, List.flatten_cons]
    exact swAll_app a (swAll_rep a n)
theorem el_rep {k : Nat} (h : EL K te σ H ds) (h2 : Ev tb σ H (.int (k : Int))) (hz : ds.length * k ≤ 100000) (hk : k ≤ 100000) : EL K (tOp rRep te tb) σ H (List.replicate k ds).flatten := fun H1 e Q q =>
  h H1 e _ fun p H2 e2 ⟨xs, w1, w2⟩ => h2 H2 (e.trans e2) _ fun H3 e3 =>
    ⟨p, (k : Int), xs, rfl, rfl, e3 _ _ w1, by omega, by omega, sz_of (by rw [swAll_len w2]; simpa using hz), fun r nr => by
      have en : ((k : Int)).toNat = k := by omega
      rw [en]
      exact q r _ ((e2.trans e3).trans (Ex.new nr)) ⟨_, upd_same, SwAll.ex (e3.trans (Ex.new nr)) _ _ (swAll_rep w2 k)⟩⟩
theorem el_sl {n : Nat} {th : TO} (h : EL K te σ H ds) (h2 : EvO th σ H (some (n : Int))) : EL K (tSl (rSlL K) te tNoPart th) σ H (ds.take n) := fun H1 e Q q =>
  h H1 e _ fun p H2 e2 ⟨xs, w1, w2⟩ => h2 H2 (e.trans e2) _ fun H3 e3 => ⟨p, xs, rfl, SqL.of (e3 _ _ w1), fun r nr => by
    rw [cut_take]
    exact q r _ ((e2.trans e3).trans (Ex.new nr)) ⟨_, upd_same, SwAll.ex (e3.trans (Ex.new nr)) _ _ (swAll_take n w2)⟩⟩
theorem ed_tupOf (h : EL K te σ H ds) : ED K (tCB (fun xs H Q => ∃ p ys, xs = [.ref p] ∧ ((SqL K H p ys ∧ ∀ l, H l = none → Q (.ref l) (upd H l (.tup ys))) ∨ (SqT K H p ys ∧ Q (.ref p) H))) (tCons te tNil)) σ H (.tuple ds) := fun H1 e Q q =>
  h H1 e _ fun p H2 e2 ⟨xs, w1, w2⟩ => ⟨p, xs, rfl, .inl ⟨SqL.of w1, fun r nr => q _ _ (e2.trans (Ex.new nr)) (.tup (SqT.of upd_same) (SwAll.ex (Ex.new nr) _ _ w2))⟩⟩
theorem el_if {b : Bool} (h : EvT t σ H b) (h1 : b = true → EL K te σ H ds) (h2 : b = false → EL K tb σ H ds) : EL K (tIf t te tb) σ H ds := fun H1 e Q q => h H1 e _ fun H2 e2 => by
  cases b with
  | true =>
    show te σ H2 Q
    exact h1 rfl H2 (e.trans e2) Q fun p H3 e3 => q p H3 (e2.trans e3)
  | false =>
    show tb σ H2 Q
    exact h2 rfl H2 (e.trans e2) Q fun p H3 e3 => q p H3 (e2.trans e3)
theorem ed_ix {n : Nat} {ti : TE} (h : EL K te σ H ds) (hi : Ev ti σ H (.int (n : Int))) (hd : ds[n]? = some d) : ED K (tOp (rIxL K) te ti) σ H d := fun H1 e Q q =>
  h H1 e _ fun p H2 e2 ⟨xs, w1, w2⟩ => hi H2 (e.trans e2) _ fun H3 e3 => by
    have hl := swAll_len w2
    have hn := (List.getElem?_eq_some_iff.mp hd).1
    have hx : xs[n]? = some xs[n] := List.getElem?_eq_getElem (by omega)
    obtain ⟨d', hd', hs⟩ := swAll_get w2 hx
    rw [hd] at hd'
    cases hd'
    exact ⟨p, xs, _, _, rfl, rfl, SqL.of (e3 _ _ w1), atI_nat hx, q _ H3 (e2.trans e3) (Sw.ex e3 _ _ hs)⟩
/-- a loop over such a list -/
theorem q_forE {tu tz : TS} {D : Ends} {j : Nat} (h : EL K tl σ H ds) (Sl : L2.St → Prop) (s0 : Sl σ)
    (hs : ∀ H2, Ex H H2 → ∀ (i : Nat) (x : V) (d : PyData) (σ' : L2.St) (H' : Hp), ds[i]? = some d → Sl σ' → Ex H2 H' → Sw K H' x d → tu { D with nx := fun σ3 H3 => Sl σ3 ∧ Ex H2 H3, ct := fun σ3 H3 => Sl σ3 ∧ Ex H2 H3, bk := tz D } (σ'.set j (some x)) H')
    (hd : ∀ σ' H', Sl σ' → Ex H H' → tz D σ' H') : tSeq (tFor (iList K tl) (gName j) tu) tz D σ H :=
  h H (Ex.refl H) _ fun p H2 e2 ⟨xs, w1, w2⟩ => ⟨p, rfl, ⟨xs, SqL.of w1⟩, for_list (xs := xs) (fun _ σ' H' => Sl σ' ∧ Ex H2 H') ⟨s0, Ex.refl H2⟩ (fun i σ' H' _ q => SqL.of (q.2 _ _ w1)) (fun i x σ' H' hx q => by
    obtain ⟨d, hd', hw⟩ := swAll_get w2 hx
    exact hs H2 e2 i x d σ' H' hd' q.1 q.2 (Sw.ex q.2 _ _ hw)) (fun σ' H' q => hd σ' H' q.1 (e2.trans q.2))⟩
theorem s_forE {tu : TS} {D : Ends} {j : Nat} (h : EL K tl σ H ds) (Sl : L2.St → Prop) (s0 : Sl σ)
    (hs : ∀ H2, Ex H H2 → ∀ (i : Nat) (x : V) (d : PyData) (σ' : L2.St) (H' : Hp), ds[i]? = some d → Sl σ' → Ex H2 H' → Sw K H' x d → tu { D with nx := fun σ3 H3 => Sl σ3 ∧ Ex H2 H3, ct := fun σ3 H3 => Sl σ3 ∧ Ex H2 H3, bk := D.nx } (σ'.set j (some x)) H')
    (hd : ∀ σ' H', Sl σ' → Ex H H' → D.nx σ' H') : tFor (iList K tl) (gName j) tu D σ H :=
  h H (Ex.refl H) _ fun p H2 e2 ⟨xs, w1, w2⟩ => ⟨p, rfl, ⟨xs, SqL.of w1⟩, for_list (xs := xs) (fun _ σ' H' => Sl σ' ∧ Ex H2 H') ⟨s0, Ex.refl H2⟩ (fun i σ' H' _ q => SqL.of (q.2 _ _ w1)) (fun i x σ' H' hx q => by
    obtain ⟨d, hd', hw⟩ := swAll_get w2 hx
    exact hs H2 e2 i x d σ' H' hd' q.1 q.2 (Sw.ex q.2 _ _ hw)) (fun σ' H' q => hd σ' H' q.1 (e2.trans q.2))⟩

end
end EvD

/-! ### names that hold data -/
namespace BadE
open PySem PySem.Spec PyProof.Rows L2 Evl Gen Ent Rep Dat Nm Er Chk Gu Deed Pts Hear Lst Bk Cau EvD
theorem q_asgE {K : PySem.W.Frag} {σ : L2.St} {H : Hp} {te : TE} {ds : List PyData} {D : Ends} {i : Nat} {tz : TS} (h : EL K te σ H ds) (k : ∀ p H2, Ex H H2 → TL K H2 p ds → tz D (σ.set i (some (.ref p))) H2) : tSeq (tAsg te (gName i)) tz D σ H :=
  h H (Ex.refl H) _ fun p H2 e2 w => k p H2 e2 w
theorem s_retE {K : PySem.W.Frag} {σ : L2.St} {H : Hp} {te : TE} {ds : List PyData} {D : Ends} (h : EL K te σ H ds) (k : ∀ p H2, Ex H H2 → TL K H2 p ds → D.rt (.ref p) H2) : tRet te D σ H := h H (Ex.refl H) _ k
end BadE
/-! ### _law_entries_refused -/
namespace EntR
open PySem PySem.Spec PyProof.Rows L2 Evl Gen Ent Rep Dat Nm Er Chk Gu Deed Pts Hear Lst Bk Cau EvD BadE
/-- a def that may be called while no container is being shown -/
structure DfG (P : Program) (w : World) (K : PySem.W.Frag) (mg : Str → Option Value) (base : Heap) (k : Nat) (x : Str) (ps : List Str) (sp : Sp) : Prop where
  ex : ∃ f fd, FnG P w K mg base k f fd ps sp ∧ mg x = some (.ref f) ∧ PySem.W.keepIn K (.ref f) = true ∧ Binds K fd ps []
section
variable {X : Cx} {k j : Nat} {ps : List Str} {sp : Sp} {x : Str} {p pos : Pos} {e : Expr} {es : List Expr} {t : TA}
theorem pe_dfG (D : DfG X.prog X.w X.K X.mg X.base k x ps sp) (gd : X.A.guards = some []) (hr : Room j X.A) (ha : PA X (e :: es) t) (hk : k ≤ j := by decide) (hg : Gl X x := by rfl) (hdb : (x == ("__debug__" : Str)) = false := by decide)
    (he : starEach (e :: es) X.env = (false, eval e X.env) :: starEach es X.env := by rfl) (hpl : (backTo pos (starEach es X.env)).any (·.1) = false := by rfl) :
    PE X (.Call (.Name x p) (e :: es) [] pos) (tCall sp [] E0 t) := by
  obtain ⟨f, fd, G, hm, hkp, hb⟩ := D.ex
  exact pe_callG G gd (hr.mono hk) hg hm hkp hb .nil ha hdb he hpl
end
def fitB : PyData → Bool
  | .str z => decide (z.length ≤ 40000)
  | _ => true
def fitTB : PyData → Bool
  | .tuple xs => xs.all fitB
  | _ => true
theorem fitB_ok {d : PyData} (h : fitB d = true) : Fit d := fun z e => by
  subst e
  exact of_decide_eq_true h
theorem fitTB_ok {d : PyData} (h : fitTB d = true) : FitT d := fun xs e x hx => by
  subst e
  exact fitB_ok (List.all_eq_true.mp h x hx)
theorem fitN_ok {d : PyData} (h : (items d).all fitB = true) : FitN d := fun x hx => fitB_ok (List.all_eq_true.mp h x hx)
theorem fitE_ok {d : PyData} (h : (items d).all fitTB = true) : FitE d := fun x hx => fitTB_ok (List.all_eq_true.mp h x hx)
def fit5B (d1 d2 d3 d4 d5 : PyData) : Bool := (items d1).all fitB && ((items d2).all fitB && ((items d3).all fitTB && ((items d4).all fitTB && (items d5).all fitB)))
theorem fit5_ok {d1 d2 d3 d4 d5 : PyData} (h : fit5B d1 d2 d3 d4 d5 = true) : Fit5 d1 d2 d3 d4 d5 := by
  unfold fit5B at h
  simp only [Bool.and_eq_true] at h
  obtain ⟨h1, h2, h3, h4, h5⟩ := h
  exact ⟨fitN_ok h1, fitN_ok h2, fitE_ok h3, fitE_ok h4, fitN_ok h5⟩
/-- what can be shown, and its text be compared -/
def okB (d : PyData) : Bool := d.showable && (decide (d.shown.length ≤ 100000) && (decide (d.depth ≤ 60) && PyData.strOk d.shown))
theorem okB_ok {d : PyData} (h : okB d = true) : Shw d ∧ PyData.strOk d.shown = true := by
  unfold okB at h
  simp only [Bool.and_eq_true, decide_eq_true_eq] at h
  exact ⟨⟨h.1, sz_of h.2.1, h.2.2.1⟩, h.2.2.2⟩
theorem ev_ofInt {K : PySem.W.Frag} {te : TE} {σ : L2.St} {H : Hp} {i : Int} (h : ED K te σ H (.int i)) : Ev te σ H (.int i) := fun H1 e Q q => h H1 e _ fun v H2 e2 w => by
  cases w
  exact q H2 e2
theorem q_asgD {K : PySem.W.Frag} {σ : L2.St} {H : Hp} {te : TE} {d : PyData} {D : Ends} {i : Nat} {tz : TS} (h : ED K te σ H d) (k : ∀ v H2, Ex H H2 → Sw K H2 v d → tz D (σ.set i (some v)) H2) : tSeq (tAsg te (gName i)) tz D σ H :=
  h H (Ex.refl H) _ fun v H2 e2 w => k v H2 e2 w
end EntR
/-! ### _law_lists; drawn parts as data -/
namespace Lis
open PySem PySem.Spec PyProof.Rows L2 Evl Gen Ent Rep Dat Nm Er Chk Gu Deed Pts Hear Lst Bk Cau EvD BadE
/-- lists stand at A, of the values Xs -/
def Lsts (K : PySem.W.Frag) (H : Hp) : List Addr → List (List V) → Prop := Paired fun a X => SqL K H a X
/-- new lists -/
def New (H H' : Hp) : List Addr → List (List V) → Prop := Paired fun a X => H' a = some (.lst X) ∧ H a = none
theorem lsts_ex {K : PySem.W.Frag} {H H' : Hp} (e : Ex H H') : ∀ {A : List Addr} {X : List (List V)}, Lsts K H A X → Lsts K H' A X
  | _, _, .nil => .nil
  | _, _, .cons a t => .cons (ex_l e a) (lsts_ex e t)
theorem new_ex {H H' H2 : Hp} (e : Ex H' H2) : ∀ {A : List Addr} {X : List (List V)}, New H H' A X → New H H2 A X
  | _, _, .nil => .nil
  | _, _, .cons a t => .cons ⟨e _ _ a.1, a.2⟩ (new_ex e t)
theorem new_app {H H' : Hp} {a : Addr} {Y : List V} (h : H' a = some (.lst Y)) (n : H a = none) : ∀ {A : List Addr} {X : List (List V)}, New H H' A X → New H H' (A ++ [a]) (X ++ [Y])
  | _, _, .nil => .cons ⟨h, n⟩ .nil
  | _, _, .cons b t => .cons b (new_app h n t)
theorem lsts_get {K : PySem.W.Frag} {H : Hp} : ∀ {A : List Addr} {X : List (List V)} {i : Nat} {a : Addr}, Lsts K H A X → A[i]? = some a → ∃ Y, X[i]? = some Y ∧ SqL K H a Y
  | _, _, _, _, .nil, z => by simp at z
  | _, _, 0, _, .cons b t, z => by
    cases z
    exact ⟨_, rfl, b⟩
  | _, _, i + 1, _, .cons b t, z => by
    have z' := z
    rw [List.getElem?_cons_succ] at z'
    obtain ⟨Y, h1, h2⟩ := lsts_get t z'
    exact ⟨Y, by rw [List.getElem?_cons_succ]; exact h1, h2⟩
theorem lsts_len {K : PySem.W.Frag} {H : Hp} : ∀ {A : List Addr} {X : List (List V)}, Lsts K H A X → A.length = X.length
  | _, _, .nil => rfl
  | _, _, .cons _ t => by simp [lsts_len t]
theorem new_none {H H' : Hp} : ∀ {A : List Addr} {X : List (List V)}, New H H' A X → ∀ a ∈ A, ∃ Y, H' a = some (.lst Y) ∧ H a = none
  | _, _, .nil, _, h => nomatch h
  | _, _, .cons b t, a, h => by
    rcases List.mem_cons.mp h with rfl | h
    · exact ⟨_, b⟩
    · exact new_none t a h
end Lis
/-! ### drawn parts as data: nothing is wrong with them -/
namespace Prd
open PySem PySem.Spec PyProof.Rows L2 Evl Gen Ent Rep Dat Nm Er Chk Gu Deed Pts Hear Lst Bk Cau EvD BadE EntR Lis
def svD : Option Str → PyData
  | none => .none
  | some s => .str s
def enD (e : En) : PyData := .tuple [.str e.1, svD e.2.1, .str e.2.2]
def strsD (l : List Str) : PyData := .list (l.map PyData.str)
def D5 (D : PartsD) : List PyData := [strsD D.hs, strsD D.ss, .list (D.ds.map enD), .list (D.rs.map enD), strsD D.ls]
theorem sw_strs {K : PySem.W.Frag} {H : Hp} : ∀ l : List Str, SwAll K H (l.map V.str) (l.map PyData.str)
  | [] => .nil
  | s :: l => .cons (.str s) (sw_strs l)
theorem sw_sv {K : PySem.W.Frag} {H : Hp} (o : Option Str) : Sw K H (sv o) (svD o) := by
  cases o with
  | none => exact .non
  | some s => exact .str s
theorem sw_tups {K : PySem.W.Frag} {H : Hp} : ∀ {R : List Addr} {es : List En}, Tups H R (es.map enV) → SwAll K H (R.map V.ref) (es.map enD)
  | _, [], .nil => .nil
  | _, e :: es, .cons h t => .cons (.tup (SqT.of h) (.cons (.str _) (.cons (sw_sv _) (.cons (.str _) .nil)))) (sw_tups t)
theorem partsTL {K : PySem.W.Frag} {H : Hp} {p a0 a1 a2 a3 a4 : Addr} {D : PartsD} {R2 R3 : List Addr} (h : PartsAt H p D a0 a1 a2 a3 a4 R2 R3) : TL K H p (D5 D) :=
  ⟨_, h.p, .cons (.lst (SqL.of h.h0) (sw_strs _)) (.cons (.lst (SqL.of h.h1) (sw_strs _)) (.cons (.lst (SqL.of h.h2) (sw_tups h.t2)) (.cons (.lst (SqL.of h.h3) (sw_tups h.t3)) (.cons (.lst (SqL.of h.h4) (sw_strs _)) .nil))))⟩
theorem txts (l : List Str) : (l.map PyData.str).map txt = l := by
  rw [List.map_map]
  conv => rhs; rw [← List.map_id l]
  rfl
section
variable {w h : Nat} {D : PartsD}
theorem hs_in (o : PartsOk w h D) (hw : w ≤ 3) : D.hs ∈ [allH.take 1, allH.take 2, allH.take 3] := by
  obtain ⟨k, k1, k2, e⟩ := o.hs
  have : k = 1 ∨ k = 2 ∨ k = 3 := by omega
  rcases this with rfl | rfl | rfl <;> simp [e]
theorem ss_in (o : PartsOk w h D) (hh : h ≤ 4) : D.ss ∈ [allS.take 1, allS.take 2, allS.take 3, allS.take 4] := by
  obtain ⟨k, k1, k2, e⟩ := o.ss
  have : k = 1 ∨ k = 2 ∨ k = 3 ∨ k = 4 := by omega
  rcases this with rfl | rfl | rfl | rfl <;> simp [e]
theorem hs_all : ∀ l ∈ [allH.take 1, allH.take 2, allH.take 3], (many (strsD l) 1 3 && (decide (firstBad (l.map PyData.str).length (badN [] (l.map PyData.str)) = none) && (!decide (("zy" : Str) ∈ l) && (l.map PyData.str).all fitB))) = true := by decide +kernel
theorem ss_all : ∀ l ∈ [allH.take 1, allH.take 2, allH.take 3], ∀ m ∈ [allS.take 1, allS.take 2, allS.take 3, allS.take 4], (many (strsD m) 1 4 && (decide (firstBad (m.map PyData.str).length (badN l (m.map PyData.str)) = none) && (m.map PyData.str).all fitB)) = true := by decide +kernel
theorem ls_all : ∀ l ∈ allL, (many (strsD l) 0 4 && (decide (firstBad (l.map PyData.str).length (badN [] (l.map PyData.str)) = none) && (l.map PyData.str).all fitB)) = true := by decide +kernel
theorem ask_nm : nmS "ask" = true ∧ nmS "mend" = true := by decide +kernel
theorem in_dec {l : List Str} {s : Str} (m : s ∈ l) : sIn l (.str s) = true := decide_eq_true m
theorem deed_en {hs ss : List Str} {e : En} (h1 : e.2.1 = none ∨ e.2.1 = some "ask" ∨ e.2.1 = some "mend") (h2 : (e.1 ∈ hs ∧ e.2.2 ∈ hs) ∨ (e.1 ∈ ss ∧ e.2.2 ∈ ss)) : isDeed hs ss (enD e) = true := by
  show (sndOk (svD e.2.1) && ((sIn hs (.str e.1) && sIn hs (.str e.2.2)) || (sIn ss (.str e.1) && sIn ss (.str e.2.2)))) = true
  have a : sndOk (svD e.2.1) = true := by
    rcases h1 with x | x | x <;> rw [x]
    · rfl
    · exact ask_nm.1
    · exact ask_nm.2
  rw [a, Bool.true_and]
  rcases h2 with ⟨x, y⟩ | ⟨x, y⟩
  · rw [in_dec x, in_dec y]
    rfl
  · rw [in_dec x, in_dec y]
    simp
theorem hear_en {hs ss : List Str} {e : En} (h1 : e.2.1 = some "ask" ∨ e.2.1 = some "mend") (h2 : (e.1 ∈ hs ∧ e.2.2 ∈ hs) ∨ (e.1 ∈ ss ∧ e.2.2 ∈ ss)) : isHear hs ss (enD e) = true ∧ Lst.keyH (enD e) = key e := by
  have d := deed_en (hs := hs) (ss := ss) (.inr h1) h2
  refine ⟨?_, ?_⟩
  · unfold isHear
    rw [d]
    rcases h1 with x | x <;> (unfold enD; rw [x]; rfl)
  · unfold enD key
    rcases h1 with x | x <;> (rw [x]; rfl)
theorem nodup_not {α β : Type} {f : α → β} : ∀ {l : List α} {j : Nat} {e : α}, (l.map f).Nodup → l[j]? = some e → f e ∉ (l.take j).map f
  | [], j, e, _, z => by simp at z
  | x :: l, 0, e, _, _ => by simp
  | x :: l, j + 1, e, nd, z => by
    have z' : l[j]? = some e := by rw [List.getElem?_cons_succ] at z; exact z
    have nd' := List.nodup_cons.mp nd
    rw [List.take_succ_cons, List.map_cons]
    intro m
    rcases List.mem_cons.mp m with q | m
    · exact nd'.1 (by rw [← q]; exact List.mem_map_of_mem (List.mem_of_getElem? z'))
    · exact nodup_not nd'.2 z' m
theorem deeds_ok (o : PartsOk w h D) : firstBad (D.ds.map enD).length (badD D.hs D.ss (D.ds.map enD)) = none := by
  refine first_none fun j hj => ?_
  unfold badD
  rw [List.length_map] at hj
  rw [List.getElem?_map, List.getElem?_eq_getElem hj]
  show (!isDeed D.hs D.ss (enD D.ds[j])) = false
  have q := o.ds _ (List.getElem_mem hj)
  rw [deed_en q.1 q.2]
  rfl
theorem hears_ok (o : PartsOk w h D) : firstBad (D.rs.map enD).length (badH D.hs D.ss (D.rs.map enD)) = none := by
  refine first_none fun j hj => ?_
  unfold badH
  rw [List.length_map] at hj
  rw [List.getElem?_map, List.getElem?_eq_getElem hj]
  have q := o.rs _ (List.getElem_mem hj)
  have q2 := hear_en (hs := D.hs) (ss := D.ss) q.1 q.2
  have km : (List.take j (D.rs.map enD)).map Lst.keyH = (D.rs.take j).map key := by
    rw [← List.map_take, List.map_map]
    apply List.map_congr_left
    intro e he
    have r := o.rs e (List.mem_of_mem_take he)
    exact (hear_en (hs := D.hs) (ss := D.ss) r.1 r.2).2
  show (!isHear D.hs D.ss (enD D.rs[j]) || decide (Lst.keyH (enD D.rs[j]) ∈ (List.take j (D.rs.map enD)).map Lst.keyH)) = false
  rw [q2.1, q2.2, km]
  have nd : (D.rs.map key).Nodup := o.nd
  have := nodup_not nd (List.getElem?_eq_getElem hj)
  rw [decide_eq_false this]
  rfl
/-- what remains to be asked of a book with these lists ahead -/
theorem ahead1 (o : PartsOk w h D) (hw : w ≤ 3) (d2 d3 d4 d5 : PyData) : bookErr (strsD D.hs) d2 d3 d4 d5 = orE (manyE d2 1 4) (orE (itemE (items d2) (badN D.hs (items d2))) (orE (manyE d3 0 10) (orE (itemE (items d3) (badD D.hs ((items d2).map txt) (items d3)))
    (orE (manyE d4 0 12) (orE (itemE (items d4) (badH D.hs ((items d2).map txt) (items d4))) (orE (manyE d5 0 4) (itemE (items d5) (badN [] (items d5))))))))) := by
  have f := hs_all _ (hs_in o hw)
  simp only [Bool.and_eq_true, decide_eq_true_eq] at f
  unfold bookErr
  have e1 : manyE (strsD D.hs) 1 3 = none := by unfold manyE; rw [f.1]; rfl
  have e2 : itemE (items (strsD D.hs)) (badN [] (items (strsD D.hs))) = none := by
    unfold itemE
    have : firstBad (items (strsD D.hs)).length (badN [] (items (strsD D.hs))) = none := f.2.1
    rw [this]
  have e3 : (items (strsD D.hs)).map txt = D.hs := txts D.hs
  rw [e1, e2, e3]
  rfl
theorem ahead4 (o : PartsOk w h D) (hw : w ≤ 3) (hh : h ≤ 4) (d5 : PyData) : bookErr (strsD D.hs) (strsD D.ss) (.list (D.ds.map enD)) (.list (D.rs.map enD)) d5 = orE (manyE d5 0 4) (itemE (items d5) (badN [] (items d5))) := by
  have f := ss_all _ (hs_in o hw) _ (ss_in o hh)
  simp only [Bool.and_eq_true, decide_eq_true_eq] at f
  rw [ahead1 o hw]
  have e1 : manyE (strsD D.ss) 1 4 = none := by unfold manyE; rw [f.1]; rfl
  have e2 : itemE (items (strsD D.ss)) (badN D.hs (items (strsD D.ss))) = none := by
    unfold itemE
    have : firstBad (items (strsD D.ss)).length (badN D.hs (items (strsD D.ss))) = none := f.2.1
    rw [this]
  have e3 : (items (strsD D.ss)).map txt = D.ss := txts D.ss
  have e4 : manyE (.list (D.ds.map enD)) 0 10 = none := by
    unfold manyE
    have : many (.list (D.ds.map enD)) 0 10 = true := by
      show (decide ((0 : Int) ≤ ((D.ds.map enD).length : Nat)) && decide ((((D.ds.map enD).length : Nat) : Int) ≤ 10)) = true
      have := o.d1
      rw [List.length_map]
      simp
      omega
    rw [this]
    rfl
  have e5 : itemE (items (.list (D.ds.map enD))) (badD D.hs D.ss (items (.list (D.ds.map enD)))) = none := by
    unfold itemE
    have : firstBad (items (.list (D.ds.map enD))).length (badD D.hs D.ss (items (.list (D.ds.map enD)))) = none := deeds_ok o
    rw [this]
  have e6 : manyE (.list (D.rs.map enD)) 0 12 = none := by
    unfold manyE
    have : many (.list (D.rs.map enD)) 0 12 = true := by
      show (decide ((0 : Int) ≤ ((D.rs.map enD).length : Nat)) && decide ((((D.rs.map enD).length : Nat) : Int) ≤ 12)) = true
      have := o.r1
      rw [List.length_map]
      simp
      omega
    rw [this]
    rfl
  have e7 : itemE (items (.list (D.rs.map enD))) (badH D.hs D.ss (items (.list (D.rs.map enD)))) = none := by
    unfold itemE
    have : firstBad (items (.list (D.rs.map enD))).length (badH D.hs D.ss (items (.list (D.rs.map enD)))) = none := hears_ok o
    rw [this]
  rw [e1, e2, e3, e4, e5, e6, e7]
  rfl
/-- drawn parts make a book -/
theorem parts_ok (o : PartsOk w h D) (hw : w ≤ 3) (hh : h ≤ 4) : bookErr (strsD D.hs) (strsD D.ss) (.list (D.ds.map enD)) (.list (D.rs.map enD)) (strsD D.ls) = none := by
  have f := ls_all _ o.ls
  simp only [Bool.and_eq_true, decide_eq_true_eq] at f
  rw [ahead4 o hw hh]
  have e1 : manyE (strsD D.ls) 0 4 = none := by unfold manyE; rw [f.1]; rfl
  rw [e1]
  unfold itemE
  have : firstBad (items (strsD D.ls)).length (badN [] (items (strsD D.ls))) = none := f.2.1
  rw [this]
  rfl
end
end Prd

/-! ### the parts stay -/
namespace NmP
end NmP
namespace NmR
open PySem PySem.Spec PyProof.Rows L2 Evl Gen Ent Rep Dat Nm Er Chk Gu Deed Pts Hear Lst Bk Cau EvD BadE EntR Lis Prd
theorem paAt_ex {H H' : Hp} {p a0 a1 a2 a3 a4 : Addr} {D : PartsD} {R2 R3 : List Addr} (h : PartsAt H p D a0 a1 a2 a3 a4 R2 R3) (e : Ex H H') : PartsAt H' p D a0 a1 a2 a3 a4 R2 R3 :=
  ⟨e _ _ h.p, e _ _ h.h0, e _ _ h.h1, e _ _ h.h2, h.t2.ex e, e _ _ h.h3, h.t3.ex e, e _ _ h.h4⟩
theorem _root_.Pts.PartsAt.ex {H H' : Hp} {p a0 a1 a2 a3 a4 : Addr} {D : PartsD} {R2 R3 : List Addr} (h : PartsAt H p D a0 a1 a2 a3 a4 R2 R3) (e : Ex H H') : PartsAt H' p D a0 a1 a2 a3 a4 R2 R3 := paAt_ex h e
end NmR
/-! ### Book's methods; _law_book -/
namespace Bmk
open PySem PySem.Spec PyProof.Rows L2 Evl Gen Ent Rep Dat Nm Er Chk Gu Deed Pts Hear Lst Bk Cau EvD BadE EntR Lis Prd
theorem isBook_ex {H H' : Hp} {C p : Addr} {B : BD} (e : Ex H H') (h : IsBook H C p B) : IsBook H' C p B := by
  obtain ⟨dx, b1, b2, b3, b4, b5, h0, h1, h2, h3, h4, h5⟩ := h
  exact ⟨dx, b1, b2, b3, b4, b5, e _ _ h0, e _ _ h1, e _ _ h2, e _ _ h3, e _ _ h4, e _ _ h5⟩
def spGet (C : Addr) (sel : BD → List V) : Sp := fun vs H Q _ => ∃ (p : Addr) (B : BD), vs = [.ref p] ∧ IsBook H C p B ∧ ∀ q H', H q = none → Ex H H' → H' q = some (.lst (sel B)) → Q (.ref q) H'
theorem scM1 : FnScope ["self"] ["self"] (defScope (inClass (top 18) 1)) := ⟨rfl, rfl, rfl, by decide +kernel, rfl, by decide +kernel, by decide +kernel⟩
theorem ok_houses {P : Program} {w : World} {K : PySem.W.Frag} {mg : Str → Option Value} {base : Heap} {f C : Addr} {fd : FuncData} (F : Fun K "houses" "Book.houses" (inClass (top 18) 1) f fd) (B : Bt mg) (c : BC K C) : FnOk P w K mg base CX0 1 f fd ["self"] (spGet C (·.h)) := by
  refine F.ok scM1 (fun vs H Q E h => ?_) (fun cdv A outer s H vs Q E hr h => ?_)
  · obtain ⟨p, B, rfl, _⟩ := h
    rfl
  · obtain ⟨p, BB, rfl, hb, kq⟩ := h
    obtain ⟨dx, b1, b2, b3, b4, b5, h0, h1, h2, h3, h4, h5⟩ := hb
    refine ⟨_, (pss_one (ps_ret (pe_callTy call_list_of (by rfl) B.list (by decide +kernel) (pa_cons (pe_fld (pv 0) rfl) pa_nil)))), ?_⟩
    exact ⟨_, rfl, p, C, dx, _, _, rfl, h0, c.cl, c.n1, rfl, b1, _, rfl, .inl (SqL.of h1), fun l nl => kq l _ nl (Ex.new nl) upd_same⟩
theorem scM2 : FnScope ["self"] ["self"] (defScope (inClass (top 18) 2)) := ⟨rfl, rfl, rfl, by decide +kernel, rfl, by decide +kernel, by decide +kernel⟩
theorem ok_stands {P : Program} {w : World} {K : PySem.W.Frag} {mg : Str → Option Value} {base : Heap} {f C : Addr} {fd : FuncData} (F : Fun K "stands" "Book.stands" (inClass (top 18) 2) f fd) (B : Bt mg) (c : BC K C) : FnOk P w K mg base CX0 1 f fd ["self"] (spGet C (·.s)) := by
  refine F.ok scM2 (fun vs H Q E h => ?_) (fun cdv A outer s H vs Q E hr h => ?_)
  · obtain ⟨p, B, rfl, _⟩ := h
    rfl
  · obtain ⟨p, BB, rfl, hb, kq⟩ := h
    obtain ⟨dx, b1, b2, b3, b4, b5, h0, h1, h2, h3, h4, h5⟩ := hb
    refine ⟨_, (pss_one (ps_ret (pe_callTy call_list_of (by rfl) B.list (by decide +kernel) (pa_cons (pe_fld (pv 0) rfl) pa_nil)))), ?_⟩
    exact ⟨_, rfl, p, C, dx, _, _, rfl, h0, c.cl, c.n2, rfl, b2, _, rfl, .inl (SqL.of h2), fun l nl => kq l _ nl (Ex.new nl) upd_same⟩
theorem scM3 : FnScope ["self"] ["self"] (defScope (inClass (top 18) 3)) := ⟨rfl, rfl, rfl, by decide +kernel, rfl, by decide +kernel, by decide +kernel⟩
theorem ok_deeds {P : Program} {w : World} {K : PySem.W.Frag} {mg : Str → Option Value} {base : Heap} {f C : Addr} {fd : FuncData} (F : Fun K "deeds" "Book.deeds" (inClass (top 18) 3) f fd) (B : Bt mg) (c : BC K C) : FnOk P w K mg base CX0 1 f fd ["self"] (spGet C (·.d)) := by
  refine F.ok scM3 (fun vs H Q E h => ?_) (fun cdv A outer s H vs Q E hr h => ?_)
  · obtain ⟨p, B, rfl, _⟩ := h
    rfl
  · obtain ⟨p, BB, rfl, hb, kq⟩ := h
    obtain ⟨dx, b1, b2, b3, b4, b5, h0, h1, h2, h3, h4, h5⟩ := hb
    refine ⟨_, (pss_one (ps_ret (pe_callTy call_list_of (by rfl) B.list (by decide +kernel) (pa_cons (pe_fld (pv 0) rfl) pa_nil)))), ?_⟩
    exact ⟨_, rfl, p, C, dx, _, _, rfl, h0, c.cl, c.n3, rfl, b3, _, rfl, .inl (SqL.of h3), fun l nl => kq l _ nl (Ex.new nl) upd_same⟩
theorem scM4 : FnScope ["self"] ["self"] (defScope (inClass (top 18) 4)) := ⟨rfl, rfl, rfl, by decide +kernel, rfl, by decide +kernel, by decide +kernel⟩
theorem ok_hearings {P : Program} {w : World} {K : PySem.W.Frag} {mg : Str → Option Value} {base : Heap} {f C : Addr} {fd : FuncData} (F : Fun K "hearings" "Book.hearings" (inClass (top 18) 4) f fd) (B : Bt mg) (c : BC K C) : FnOk P w K mg base CX0 1 f fd ["self"] (spGet C (·.r)) := by
  refine F.ok scM4 (fun vs H Q E h => ?_) (fun cdv A outer s H vs Q E hr h => ?_)
  · obtain ⟨p, B, rfl, _⟩ := h
    rfl
  · obtain ⟨p, BB, rfl, hb, kq⟩ := h
    obtain ⟨dx, b1, b2, b3, b4, b5, h0, h1, h2, h3, h4, h5⟩ := hb
    refine ⟨_, (pss_one (ps_ret (pe_callTy call_list_of (by rfl) B.list (by decide +kernel) (pa_cons (pe_fld (pv 0) rfl) pa_nil)))), ?_⟩
    exact ⟨_, rfl, p, C, dx, _, _, rfl, h0, c.cl, c.n4, rfl, b4, _, rfl, .inl (SqL.of h4), fun l nl => kq l _ nl (Ex.new nl) upd_same⟩
theorem scM5 : FnScope ["self"] ["self"] (defScope (inClass (top 18) 5)) := ⟨rfl, rfl, rfl, by decide +kernel, rfl, by decide +kernel, by decide +kernel⟩
theorem ok_lost {P : Program} {w : World} {K : PySem.W.Frag} {mg : Str → Option Value} {base : Heap} {f C : Addr} {fd : FuncData} (F : Fun K "lost" "Book.lost" (inClass (top 18) 5) f fd) (B : Bt mg) (c : BC K C) : FnOk P w K mg base CX0 1 f fd ["self"] (spGet C (·.l)) := by
  refine F.ok scM5 (fun vs H Q E h => ?_) (fun cdv A outer s H vs Q E hr h => ?_)
  · obtain ⟨p, B, rfl, _⟩ := h
    rfl
  · obtain ⟨p, BB, rfl, hb, kq⟩ := h
    obtain ⟨dx, b1, b2, b3, b4, b5, h0, h1, h2, h3, h4, h5⟩ := hb
    refine ⟨_, (pss_one (ps_ret (pe_callTy call_list_of (by rfl) B.list (by decide +kernel) (pa_cons (pe_fld (pv 0) rfl) pa_nil)))), ?_⟩
    exact ⟨_, rfl, p, C, dx, _, _, rfl, h0, c.cl, c.n5, rfl, b5, _, rfl, .inl (SqL.of h5), fun l nl => kq l _ nl (Ex.new nl) upd_same⟩

/-- nothing is let out -/
theorem passF {P : Program} {w : World} {X : Cx} : Passes (CX P w) X (fun _ _ _ => False) := by
  intro pins σ H s e s' I c
  obtain ⟨a, B, H', cls, d, _, _, _, _, _, _, _, h⟩ := c
  exact h.elim
theorem ed_listOf {K : PySem.W.Frag} {σ : L2.St} {H : Hp} {te : TE} {ds : List PyData} (h : ED K te σ H (.list ds)) : ED K (tCB (fun xs H Q => ∃ p ys, xs = [.ref p] ∧ ((SqL K H p ys ∨ SqT K H p ys) ∧ ∀ l, H l = none → Q (.ref l) (upd H l (.lst ys)))) (tCons te tNil)) σ H (.list ds) := fun H1 e Q q =>
  h H1 e _ fun v H2 e2 w => by
    cases w with
    | lst hs ha => exact ⟨_, _, rfl, .inl hs, fun l nl => q _ _ (e2.trans (Ex.new nl)) (.lst (SqL.of upd_same) (SwAll.ex (Ex.new nl) _ _ ha))⟩
/-- a book of such data stands at p -/
def BookD (K : PySem.W.Frag) (H : Hp) (C p : Addr) (d1 d2 d3 d4 d5 : PyData) : Prop := ∃ B : BD, IsBook H C p B ∧ SwAll K H B.h (items d1) ∧ SwAll K H B.s (items d2) ∧ SwAll K H B.d (items d3) ∧ SwAll K H B.r (items d4) ∧ SwAll K H B.l (items d5)
theorem BookD.ex {K : PySem.W.Frag} {H H' : Hp} {C p : Addr} {d1 d2 d3 d4 d5 : PyData} (e : Ex H H') (h : BookD K H C p d1 d2 d3 d4 d5) : BookD K H' C p d1 d2 d3 d4 d5 := by
  obtain ⟨B, h0, h1, h2, h3, h4, h5⟩ := h
  exact ⟨B, isBook_ex e h0, SwAll.ex e _ _ h1, SwAll.ex e _ _ h2, SwAll.ex e _ _ h3, SwAll.ex e _ _ h4, SwAll.ex e _ _ h5⟩
/-- a new book's data: its lists are new since H0 -/
def BookN (K : PySem.W.Frag) (H0 H : Hp) (C p : Addr) (d1 d2 d3 d4 d5 : PyData) : Prop := ∃ B : BD, NewBook H0 H C p B ∧ SwAll K H B.h (items d1) ∧ SwAll K H B.s (items d2) ∧ SwAll K H B.d (items d3) ∧ SwAll K H B.r (items d4) ∧ SwAll K H B.l (items d5)
theorem BookN.is {K : PySem.W.Frag} {H0 H : Hp} {C p : Addr} {d1 d2 d3 d4 d5 : PyData} (h : BookN K H0 H C p d1 d2 d3 d4 d5) : BookD K H C p d1 d2 d3 d4 d5 := by
  obtain ⟨B, h0, h1⟩ := h
  exact ⟨B, h0.is, h1⟩
theorem _root_.Bk.NewBook.back {H H0 H1 : Hp} {C p : Addr} {B : BD} (e : Ex H H0) (h : NewBook H0 H1 C p B) : NewBook H H1 C p B := by
  obtain ⟨dx, b1, b2, b3, b4, b5, h0, h1, f1, f2, f3, f4, f5⟩ := h
  exact ⟨dx, b1, b2, b3, b4, b5, h0, h1, fresh_back e f1, fresh_back e f2, fresh_back e f3, fresh_back e f4, fresh_back e f5⟩
theorem BookN.back {K : PySem.W.Frag} {H H0 H1 : Hp} {C p : Addr} {d1 d2 d3 d4 d5 : PyData} (e : Ex H H0) (h : BookN K H0 H1 C p d1 d2 d3 d4 d5) : BookN K H H1 C p d1 d2 d3 d4 d5 := by
  obtain ⟨B, h0, h1⟩ := h
  exact ⟨B, h0.back e, h1⟩
/-- Book(..) where nothing is wrong: a new book -/
theorem made {K : PySem.W.Frag} {H : Hp} {CL CI C : Addr} {v1 v2 v3 v4 v5 : V} {d1 d2 d3 d4 d5 : PyData} {Q : VK} {x dx : Addr} (hb : bookErr d1 d2 d3 d4 d5 = none) (f : Fit5 d1 d2 d3 d4 d5)
    (w : Sw K H v1 d1 ∧ Sw K H v2 d2 ∧ Sw K H v3 d3 ∧ Sw K H v4 d4 ∧ Sw K H v5 d5) (nx : H x = none) (nd : H dx = none) (ne : dx ≠ x) (k : ∀ H', Ex H H' → BookN K H H' C x d1 d2 d3 d4 d5 → Q (.ref x) H') :
    spInit K CL CI C [.ref x, v1, v2, v3, v4, v5] (upd (upd H dx (.own x)) x (.ins C dx [])) (fun v H2 => v = .non ∧ Q (.ref x) H2) (fun _ _ _ => False) := by
  have e1 : Ex H (upd (upd H dx (.own x)) x (.ins C dx [])) := fun a o ha => by
    rw [upd_ne (ne_of_none ha nx), upd_ne (ne_of_none ha nd)]
    exact ha
  obtain ⟨w1, w2, w3, w4, w5⟩ := w
  refine ⟨x, dx, v1, v2, v3, v4, v5, d1, d2, d3, d4, d5, rfl, upd_same, ⟨Sw.ex e1 _ _ w1, Sw.ex e1 _ _ w2, Sw.ex e1 _ _ w3, Sw.ex e1 _ _ w4, Sw.ex e1 _ _ w5⟩, f, fun _ H' B mv nb _ l1 l2 l3 l4 l5 => ⟨rfl, ?_⟩, fun b d z => by rw [hb] at z; cases z⟩
  have e2 : Ex H H' := fun a o ha => mv a o (ne_of_none ha nx) (e1 a o ha)
  exact k H' e2 ⟨B, nb.back e1, l1, l2, l3, l4, l5⟩
theorem s_retMake {K : PySem.W.Frag} {σ : L2.St} {H : Hp} {ta : TA} {ds : List PyData} {D : Ends} {C : Addr} {sp : Sp} {dvs : List V} {E : XK} (h : EDA K ta σ H ds)
    (k : ∀ vs H1, Ex H H1 → SwAll K H1 vs ds → ∀ x dx, H1 x = none → H1 dx = none → dx ≠ x → sp (.ref x :: (vs ++ dvs)) (upd (upd H1 dx (.own x)) x (.ins C dx [])) (fun v H2 => v = .non ∧ D.rt (.ref x) H2) E) :
    tRet (tMake C sp dvs E ta) D σ H := h H (Ex.refl H) _ fun vs H1 e1 w => k vs H1 e1 w
/-- a list of these data -/
def SL (K : PySem.W.Frag) (H : Hp) (p : Addr) (ds : List PyData) : Prop := ∃ xs, SqL K H p xs ∧ SwAll K H xs ds
theorem _root_.EvD.TL.sl {K : PySem.W.Frag} {H : Hp} {p : Addr} {ds : List PyData} (h : TL K H p ds) : SL K H p ds := by
  obtain ⟨xs, h1, h2⟩ := h
  exact ⟨xs, SqL.of h1, h2⟩
theorem sl_of {K : PySem.W.Frag} {H : Hp} {v : V} {ds : List PyData} (h : Sw K H v (.list ds)) : ∃ a, v = .ref a ∧ SL K H a ds := by
  obtain ⟨a, xs, e, h1, h2⟩ := sw_list h
  exact ⟨a, e, xs, h1, h2⟩
theorem ed_ixS {K : PySem.W.Frag} {σ : L2.St} {H : Hp} {i n : Nat} {p : Addr} {ds : List PyData} {d : PyData} (hi : σ[i]? = some (some (.ref p))) (h : SL K H p ds) (hd : ds[n]? = some d) : ED K (tOp (rIxL K) (tVar i) (tC (.int (n : Int)))) σ H d := fun H1 e Q q => by
  obtain ⟨xs, h1, h2⟩ := h
  have h2' := SwAll.ex e _ _ h2
  have hl := swAll_len h2'
  have hn : n < xs.length := by
    rw [hl]
    exact (List.getElem?_eq_some_iff.mp hd).1
  obtain ⟨d', hd', w⟩ := swAll_get h2' (List.getElem?_eq_getElem hn)
  rw [hd] at hd'
  cases hd'
  exact ⟨_, hi, p, xs, _, xs[n], rfl, rfl, ex_l e h1, atI_nat (List.getElem?_eq_getElem hn), q _ _ (Ex.refl _) w⟩
def spLB (K : PySem.W.Frag) (C : Addr) : Sp := fun vs H Q _ => ∃ (p : Addr) (l1 l2 l3 l4 l5 : List PyData), vs = [.ref p] ∧ SL K H p [.list l1, .list l2, .list l3, .list l4, .list l5] ∧ Fit5 (.list l1) (.list l2) (.list l3) (.list l4) (.list l5) ∧
  bookErr (.list l1) (.list l2) (.list l3) (.list l4) (.list l5) = none ∧ ∀ q H', H q = none → Ex H H' → BookN K H H' C q (.list l1) (.list l2) (.list l3) (.list l4) (.list l5) → Q (.ref q) H'
abbrev sLB : Stmt := top 37
theorem scLB : FnScope ["_law_parts_here"] ["_law_parts_here"] (defScope sLB) := ⟨rfl, rfl, rfl, by decide +kernel, rfl, by decide +kernel, by decide +kernel⟩
section
variable {P : Program} {w : World} {K : PySem.W.Frag} {mg : Str → Option Value} {base : Heap}
theorem ok_lb {f CL CI C : Addr} {fd : FuncData} (F : Fun K "_law_book" "_law_book" sLB f fd) (B : Bt mg) (c : BkC P w K mg base CL CI C) : FnOk P w K mg base CX0 7 f fd ["_law_parts_here"] (spLB K C) := by
  obtain ⟨fI, fdI, M, G, bG⟩ := c.ex
  refine F.ok scLB (fun vs H Q E h => ?_) (fun cdv A outer s H vs Q E hr h => ?_)
  · obtain ⟨p, l1, l2, l3, l4, l5, rfl, _⟩ := h
    rfl
  · obtain ⟨p, l1, l2, l3, l4, l5, rfl, hp, ft, hb, kq⟩ := h
    refine ⟨_, (pss_one (ps_ret (pe_make M G hr (by rfl) c.g bG .nil passF (pa_cons (pe_callTy (r := fun xs H Q => ∃ p ys, xs = [.ref p] ∧ ((SqL K H p ys ∨ SqT K H p ys) ∧ ∀ l, H l = none → Q (.ref l) (upd H l (.lst ys)))) call_list_of (by rfl) B.list (by decide +kernel) (pa_cons (pe_ix ix_list (pv 0) pe_int (fun _ _ => rfl)) pa_nil)) (pa_cons (pe_callTy (r := fun xs H Q => ∃ p ys, xs = [.ref p] ∧ ((SqL K H p ys ∨ SqT K H p ys) ∧ ∀ l, H l = none → Q (.ref l) (upd H l (.lst ys)))) call_list_of (by rfl) B.list (by decide +kernel) (pa_cons (pe_ix ix_list (pv 0) pe_int (fun _ _ => rfl)) pa_nil)) (pa_cons (pe_callTy (r := fun xs H Q => ∃ p ys, xs = [.ref p] ∧ ((SqL K H p ys ∨ SqT K H p ys) ∧ ∀ l, H l = none → Q (.ref l) (upd H l (.lst ys)))) call_list_of (by rfl) B.list (by decide +kernel) (pa_cons (pe_ix ix_list (pv 0) pe_int (fun _ _ => rfl)) pa_nil)) (pa_cons (pe_callTy (r := fun xs H Q => ∃ p ys, xs = [.ref p] ∧ ((SqL K H p ys ∨ SqT K H p ys) ∧ ∀ l, H l = none → Q (.ref l) (upd H l (.lst ys)))) call_list_of (by rfl) B.list (by decide +kernel) (pa_cons (pe_ix ix_list (pv 0) pe_int (fun _ _ => rfl)) pa_nil)) (pa_cons (pe_callTy (r := fun xs H Q => ∃ p ys, xs = [.ref p] ∧ ((SqL K H p ys ∨ SqT K H p ys) ∧ ∀ l, H l = none → Q (.ref l) (upd H l (.lst ys)))) call_list_of (by rfl) B.list (by decide +kernel) (pa_cons (pe_ix ix_list (pv 0) pe_int (fun _ _ => rfl)) pa_nil)) pa_nil)))))))), ?_⟩
    have part : ∀ (n : Nat) (l : List PyData), [PyData.list l1, .list l2, .list l3, .list l4, .list l5][n]? = some (.list l) → ED K (tCB (fun xs H Q => ∃ p ys, xs = [.ref p] ∧ ((SqL K H p ys ∨ SqT K H p ys) ∧ ∀ l, H l = none → Q (.ref l) (upd H l (.lst ys)))) (tCons (tOp (rIxL K) (tVar 0) (tC (.int (n : Int)))) tNil)) (start ["_law_parts_here"] [.ref p]) H (.list l) := fun n l hl =>
      ed_listOf (ed_ixS (n := n) rfl hp hl)
    have args := eda_cons (part 0 l1 rfl) (eda_cons (part 1 l2 rfl) (eda_cons (part 2 l3 rfl) (eda_cons (part 3 l4 rfl) (eda_cons (part 4 l5 rfl) eda_nil))))
    refine s_retMake args fun vs H2 e2 hw x dx nx nd ne => ?_
    cases hw with
    | cons w1 hw =>
      cases hw with
      | cons w2 hw =>
        cases hw with
        | cons w3 hw =>
          cases hw with
          | cons w4 hw =>
            cases hw with
            | cons w5 hw =>
              cases hw
              exact made hb ft ⟨w1, w2, w3, w4, w5⟩ nx nd ne fun H3 e3 hk => kq x H3 (fresh_back e2 nx) (e2.trans e3) (hk.back e2)
end
end Bmk
/-! ### Book.__eq__; == by it -/
namespace EqB
open PySem PySem.Spec PyProof.Rows L2 Evl Gen Ent Rep Dat Nm Er Chk Gu Deed Pts Hear Lst Bk Cau EvD BadE EntR Lis Prd Bmk
mutual
theorem sw_dp {K : PySem.W.Frag} {H : Hp} : ∀ (d : PyData) (v : V), Sw K H v d → d.canLay0 = true → Dp K H v d
  | .none, _, h, _ => by cases h; exact .non
  | .bool b, _, h, _ => by cases h; exact .bl b
  | .int i, _, h, _ => by cases h; exact .int i
  | .str x, _, h, _ => by cases h; exact .str x
  | .list ds, _, h, c => by
    cases h with
    | lst hs ha => exact .lst hs (swAll_dp ds _ ha (by simpa [PyData.canLay0] using c))
  | .tuple ds, _, h, c => by
    cases h with
    | tup hs ha => exact .tup hs (swAll_dp ds _ ha (by simpa [PyData.canLay0] using c))
  | .dict ds, _, h, c => by simp [PyData.canLay0] at c
theorem swAll_dp {K : PySem.W.Frag} {H : Hp} : ∀ (ds : List PyData) (vs : List V), SwAll K H vs ds → PyData.canLayAll0 ds = true → DpAll K H vs ds
  | [], _, h, _ => by cases h; exact .nil
  | d :: ds, _, h, c => by
    cases h with
    | cons h1 h2 =>
      have c' : d.canLay0 = true ∧ PyData.canLayAll0 ds = true := by simpa [PyData.canLayAll0] using c
      exact .cons (sw_dp d _ h1 c'.1) (swAll_dp ds _ h2 c'.2)
end
/-- what is known of the class by its == -/
structure BE (K : PySem.W.Frag) (C : Addr) : Prop where
  c : BC K C
  ha : PySem.W.findIn K (.ref C) "__class__" = some (some (.builtin "object.__class__"))
  hn : PySem.W.specialIn K (.builtin "object.__class__") "__get__" = some (some (.builtin "getset_descriptor.__get__"))
  ht : PySem.W.takesIn K (.builtin "object.__class__") = some true
  hm : PySem.W.mroIn K C (.type "object") = some true
  kk : PySem.W.kitOne K (.ref C) (.ref C) = some true
  kn : ∀ d : PyData, PySem.W.kitOne K (.type (tyD d)) (.ref C) = some false
def shp (d : PyData) : Prop := SeqAt.shaped (.list (items d)) = true
def eq5 (d1 d2 d3 d4 d5 e1 e2 e3 e4 e5 : PyData) : Bool := PyData.eqv (.list (items d1)) (.list (items e1)) && (PyData.eqv (.list (items d2)) (.list (items e2)) && (PyData.eqv (.list (items d3)) (.list (items e3)) && (PyData.eqv (.list (items d4)) (.list (items e4)) && PyData.eqv (.list (items d5)) (.list (items e5)))))
def spEqB (K : PySem.W.Frag) (C : Addr) : Sp := fun vs H Q _ => ∃ (a : Addr) (y : V) (d1 d2 d3 d4 d5 : PyData), vs = [.ref a, y] ∧ BookD K H C a d1 d2 d3 d4 d5 ∧ (shp d1 ∧ shp d2 ∧ shp d3 ∧ shp d4 ∧ shp d5) ∧
  ((∃ (b : Addr) (e1 e2 e3 e4 e5 : PyData), y = .ref b ∧ BookD K H C b e1 e2 e3 e4 e5 ∧ (shp e1 ∧ shp e2 ∧ shp e3 ∧ shp e4 ∧ shp e5) ∧ ∀ H', Ex H H' → Q (.bl (eq5 d1 d2 d3 d4 d5 e1 e2 e3 e4 e5)) H') ∨ (∃ d, Sw K H y d ∧ ∀ H', Ex H H' → Q (.bl false) H'))
abbrev sEq : Stmt := inClass (top 18) 7
theorem scEq : FnScope ["self", "other"] ["self", "other"] (defScope sEq) := ⟨rfl, rfl, rfl, by decide +kernel, rfl, by decide +kernel, by decide +kernel⟩
theorem ev_fld {K : PySem.W.Frag} {σ : L2.St} {H : Hp} {i : Nat} {f : Str} {a C dx : Addr} {fs : List (Str × V)} {v : V} (hi : σ[i]? = some (some (.ref a))) (h : H a = some (.ins C dx fs)) (c : Cls K C) (n : NoAttr K C f) (hl : fs.lookup f = some v) : Ev (tFld K (tVar i) f) σ H v := fun H1 e Q q =>
  ⟨_, hi, a, C, dx, fs, v, rfl, e _ _ h, c, n, hl, q H1 (Ex.refl H1)⟩
theorem ev_eqD {K : PySem.W.Frag} {σ : L2.St} {H : Hp} {ta tb : TE} {x y : V} {d e : PyData} (ha : Ev ta σ H x) (hb : Ev tb σ H y) (hx : Sw K H x d) (hy : Sw K H y e) (sd : SeqAt.shaped d = true) (se : SeqAt.shaped e = true) : Ev (tOp (rEqD K) ta tb) σ H (.bl (PyData.eqv d e)) :=
  ev_op ha hb fun H1 a Q q => ⟨d, e, sw_dp _ _ (Sw.ex a _ _ hx) (SeqAt.canLay_of_shaped sd), sw_dp _ _ (Sw.ex a _ _ hy) (SeqAt.canLay_of_shaped se), sd, se, q H1 (Ex.refl H1)⟩
section
variable {P : Program} {w : World} {K : PySem.W.Frag} {mg : Str → Option Value} {base : Heap}
theorem ok_eq {f C : Addr} {fd : FuncData} (F : Fun K "__eq__" "Book.__eq__" sEq f fd) (B : Bt mg) (c : BE K C) (gB : mg "Book" = some (.ref C)) : FnOk P w K mg base CX0 1 f fd ["self", "other"] (spEqB K C) := by
  refine F.ok scEq (fun vs H Q E h => ?_) (fun cdv A outer s H vs Q E hr h => ?_)
  · obtain ⟨a, y, _, _, _, _, _, rfl, _⟩ := h
    rfl
  · obtain ⟨a, y, d1, d2, d3, d4, d5, rfl, hb, ⟨s1, s2, s3, s4, s5⟩, kq⟩ := h
    refine ⟨_, (pss_one (ps_ret (pe_and (pe_callB call_isi (by rfl) B.isi (by decide +kernel) (pa_cons (pv 1) (pa_cons (pe_glob (v := V.ref C) (by rfl) gB rfl) pa_nil))) (pe_and (pe_cmpR (op_eqD (un64 hr)) (pe_fld (pv 0) rfl) (pe_fld (pv 1) rfl) (nomark _)) (pe_and (pe_cmpR (op_eqD (un64 hr)) (pe_fld (pv 0) rfl) (pe_fld (pv 1) rfl) (nomark _)) (pe_and (pe_cmpR (op_eqD (un64 hr)) (pe_fld (pv 0) rfl) (pe_fld (pv 1) rfl) (nomark _)) (pe_and (pe_cmpR (op_eqD (un64 hr)) (pe_fld (pv 0) rfl) (pe_fld (pv 1) rfl) (nomark _)) (pe_one (pe_cmpR (op_eqD (un64 hr)) (pe_fld (pv 0) rfl) (pe_fld (pv 1) rfl) (nomark _)))))))))), ?_⟩
    obtain ⟨BB, ⟨dx, b1, b2, b3, b4, b5, h0, h1, h2, h3, h4, h5⟩, w1, w2, w3, w4, w5⟩ := hb
    rcases kq with ⟨b, e1, e2, e3, e4, e5, rfl, ⟨BB', ⟨dx', c1, c2, c3, c4, c5, g0, g1, g2, g3, g4, g5⟩, u1, u2, u3, u4, u5⟩, ⟨t1, t2, t3, t4, t5⟩, kq⟩ | ⟨d, hd, kq⟩
    · refine s_ret (v := .bl (true && eq5 d1 d2 d3 d4 d5 e1 e2 e3 e4 e5)) (ev_andV (fun H1 e Q1 q => ⟨_, rfl, .ref b, .ref C, .ref C, .ref C, true, rfl, .own C, .base (.ins (e _ _ g0) c.c.cl c.ha c.hn c.ht c.hm), c.kk, q H1 (Ex.refl H1)⟩) fun _ => ?_) kq
      refine ev_andV (ev_eqD (ev_fld rfl h0 c.c.cl c.c.n1 rfl) (ev_fld rfl g0 c.c.cl c.c.n1 rfl) (.lst (SqL.of h1) w1) (.lst (SqL.of g1) u1) s1 t1) fun _ => ?_
      refine ev_andV (ev_eqD (ev_fld rfl h0 c.c.cl c.c.n2 rfl) (ev_fld rfl g0 c.c.cl c.c.n2 rfl) (.lst (SqL.of h2) w2) (.lst (SqL.of g2) u2) s2 t2) fun _ => ?_
      refine ev_andV (ev_eqD (ev_fld rfl h0 c.c.cl c.c.n3 rfl) (ev_fld rfl g0 c.c.cl c.c.n3 rfl) (.lst (SqL.of h3) w3) (.lst (SqL.of g3) u3) s3 t3) fun _ => ?_
      refine ev_andV (ev_eqD (ev_fld rfl h0 c.c.cl c.c.n4 rfl) (ev_fld rfl g0 c.c.cl c.c.n4 rfl) (.lst (SqL.of h4) w4) (.lst (SqL.of g4) u4) s4 t4) fun _ => ?_
      exact ev_eqD (ev_fld rfl h0 c.c.cl c.c.n5 rfl) (ev_fld rfl g0 c.c.cl c.c.n5 rfl) (.lst (SqL.of h5) w5) (.lst (SqL.of g5) u5) s5 t5
    · exact s_ret (v := .bl (false && true)) (ev_andV (fun H1 e Q1 q => ⟨_, rfl, y, .ref C, .type (tyD d), .ref C, false, rfl, .own C, sw_ty (Sw.ex e _ _ hd), c.kn d, q H1 (Ex.refl H1)⟩) (fun z => nomatch z)) kq
end
end EqB
/-! ### == and != by an own __eq__, any answer -/
namespace OwnQ
open PySem PySem.Spec PyProof.Rows L2 Evl Rep Dat
/-- a value's type is told -/
theorem looks_sw {X : Cx} {pins : List (Addr × Obj)} {σ : L2.St} {H : Hp} {s : Shared} {y : V} {u : Value} {d : PyData} {M : Model} (I : Inv X pins σ H s) (r : RelV y u) (h : Sw X.K H y d) : PySem.W.Looks M s.heap (typeOf u) (.type (tyD d)) := by
  cases h with
  | non => cases r; exact .now
  | bl b => cases r; exact .now
  | int i => obtain ⟨t, rfl⟩ := r; exact .now
  | str x => obtain ⟨t, rfl⟩ := r; exact .now
  | lst hs _ =>
    cases r
    obtain ⟨its, _, ht, _⟩ := I.list hs
    obtain ⟨o, ho, hc⟩ := ht.isList.typeIs
    exact fun A Q E z k q => wpAny_typeOf ⟨o, k _ _ ho, hc⟩ q
  | tup hs _ =>
    cases r
    obtain ⟨its, _, ht, _⟩ := I.tuple hs
    obtain ⟨o, ho, hc⟩ := ht.typeIs
    exact fun A Q E z k q => wpAny_typeOf ⟨o, k _ _ ho, hc⟩ q
  | dct hs _ =>
    cases r
    obtain ⟨_, _, vs, _, o, es, ep, h1, h2, _⟩ := dk_of I.hok hs
    exact fun A Q E z k q => wpAny_typeOf ⟨o, k _ _ h1, h2.1⟩ q
/-- what is known of a class by its own __eq__ -/
structure QC (K : PySem.W.Frag) (C f : Addr) : Prop where
  eq : PySem.W.findIn K (.ref C) "__eq__" = some (some (.ref f))
  fn : PySem.W.isFn K (.ref f) = true
  ne : PySem.W.findIn K (.ref C) "__ne__" = some (some (.builtin "object.__ne__"))
  ob : PySem.W.mroIn K C (.type "object") = some true
  nf : ∀ d : PyData, PySem.W.notFirst K C (.type (tyD d)) = true
  sb : ∀ d : PyData, PySem.W.subIn K (.ref C) (.type (tyD d)) = some false
section
variable {X : Cx} {n : Nat} {f C : Addr} {fd : FuncData} {ps : List Str} {sp : Sp}
/-- the own == called, wherever there is room -/
theorem run_eq (F : FnOk X.prog X.w X.K X.mg X.base CX0 n f fd ps sp) (hb : Binds X.K fd ps []) {A : Around} (room : Room n A) (fr : A.frames = X.A.frames) {pins : List (Addr × Obj)} {σ : L2.St} {H : Hp} {s : Shared} {a : Addr} {y : V} {u : Value} {Q : VK} {E : Value → Shared → Prop} (I : Inv X pins σ H s) (ry : RelV y u)
    (h : sp [.ref a, y] H (fun v H' => ∃ b, v = .bl b ∧ Q (.bl b) H') E0) : wpAny (model X.prog X.w) A (call (.ref f) [.ref a, u]) (fun r s' => ∃ b H', r = .bool b ∧ Inv X pins σ H' s' ∧ Q (.bl b) H') E s := by
  have e0 : Env0 X.prog X.w X.K X.mg X.base A X.stack s H := by
    have e := I.env0
    exact ⟨by rw [fr]; exact e.frames, e.mod, e.bs, e.bsz, e.funs, e.frf, e.hok, e.bare⟩
  have hl := F.len _ _ _ _ h
  have r2 : Vals [V.ref a, y] [Value.ref a, u] := .cons rfl (.cons ry .nil)
  have bd : BindsTo s fd ⟨[.ref a, u], []⟩ (ps.zip [.ref a, u]) := by
    have := hb s [.ref a, u] I.kIn (by simpa using hl)
    simpa using this
  refine wpAny_call (codeAny_mono (F.run A X.stack s H ⟨[.ref a, u], []⟩ [.ref a, u] [.ref a, y] _ E0 room e0 bd r2 h) fun r s' hq => ?_)
  cases r with
  | error e => exact False.elim hq
  | ok fl =>
    cases fl with
    | ret w =>
      obtain ⟨z, H', I', rz, b, ez, q⟩ := I.after hq
      subst ez
      cases rz
      exact ⟨b, H', rfl, I', q⟩
    | next => exact False.elim hq
    | brk => exact False.elim hq
    | cont => exact False.elim hq
/-- the right side: of the class itself, or data -/
def Right (K : PySem.W.Frag) (H : Hp) (C : Addr) (y : V) : Prop := (∃ b dx fs, y = .ref b ∧ H b = some (.ins C dx fs)) ∨ ∃ d, Sw K H y d
theorem right_looks {pins : List (Addr × Obj)} {σ : L2.St} {H : Hp} {s : Shared} {y : V} {u : Value} {M : Model} (c : QC X.K C f) (I : Inv X pins σ H s) (r : RelV y u) (h : Right X.K H C y) : ∃ tb, PySem.W.Looks M s.heap (typeOf u) tb ∧ PySem.W.notFirst X.K C tb = true := by
  rcases h with ⟨b, dx, fs, rfl, hb⟩ | ⟨d, hd⟩
  · cases r
    obtain ⟨mB, J, _⟩ := ins_get I.hok hb
    obtain ⟨od, J, _⟩ := J.look
    exact ⟨_, J.type, by simp [PySem.W.notFirst]⟩
  · exact ⟨_, looks_sw I r hd, c.nf d⟩
/-- x == y -/
def rOwnEq (K : PySem.W.Frag) (C : Addr) (sp : Sp) : R2 := fun x y H Q => ∃ a dx fs, x = .ref a ∧ H a = some (.ins C dx fs) ∧ Right K H C y ∧ sp [.ref a, y] H (fun v H' => ∃ b, v = .bl b ∧ Q (.bl b) H') E0
theorem op_ownEq (c : QC X.K C f) (F : FnOk X.prog X.w X.K X.mg X.base CX0 n f fd ps sp) (hb : Binds X.K fd ps []) (hr : Room n X.A) : OpR X (compareOp .Eq) (rOwnEq X.K C sp) := by
  intro pins s σ H x y v u Q I rx ry h
  obtain ⟨a, dx, fs, rfl, ha, hy, hsp⟩ := h
  cases rx
  obtain ⟨mA, J, _⟩ := ins_get I.hok ha
  obtain ⟨od, J, _⟩ := J.look
  obtain ⟨m, hF⟩ := I.fr
  obtain ⟨tb, lk, nf⟩ := right_looks (M := model X.prog X.w) c I ry hy
  refine PySem.W.cmp_K (op := .Eq) (tb := tb) hr.units0 hF I.ok.mod.kin J lk nf c.eq c.fn (wpAny_mono (run_eq F hb hr rfl I ry hsp) (fun r s' q => ?_) fun _ _ z => z)
  obtain ⟨b, H', rfl, I', q⟩ := q
  exact ⟨.bl b, H', I', rfl, q⟩
theorem ne_entry {M : Model} {A : Around} {a : Addr} {u : Value} {s : Shared} {Q : Fin → Shared → Prop} {E : Value → Shared → Prop} (hu : A.units < cLine)
    (h : wpAny M A (callSpecialIfBound? (.ref a) "__eq__" [u]) (fun r s' => ∃ k, r = some (.bool k) ∧ Q (.done (.ret (.bool (!k)))) s') E s) : wpAny M A (Builtin.«object.__ne__» ⟨[.ref a, u], []⟩) Q E s := by
  unfold Builtin.«object.__ne__»
  refine wpAny_bind (wpAny_pure ?_)
  dsimp only
  refine wpAny_bind (wpAny_cRoomFor hu ?_)
  refine wpAny_bind (wpAny_mono h (fun r s' q => ?_) fun _ _ z => z)
  obtain ⟨k, rfl, q⟩ := q
  dsimp only
  refine wpAny_bind (wpAny_truthy_bool ?_)
  exact wpAny_pure q
theorem ifBound_ne {M : Model} {A : Around} {K : PySem.W.Frag} {a C : Addr} {oa : Obj} {od : Option Obj} {args : List Value} {s : Shared} {Q : Option Value → Shared → Prop} {E : Value → Shared → Prop} (kin : K.In s.heap) (J : PySem.W.InstAt s.heap a oa C od) (hn : PySem.W.findIn K (.ref C) "__ne__" = some (some (.builtin "object.__ne__")))
    (h : wpAny M A (call (.builtin "object.__ne__") (.ref a :: args)) (fun v => Q (some v)) E s) : wpAny M A (callSpecialIfBound? (.ref a) "__ne__" args) Q E s := by
  have done : wpAny M A (call (.builtin "object.__ne__") ([.ref a] ++ args) >>= fun v => pure (some v)) Q E s := wpAny_bind (wpAny_mono h (fun _ _ q => wpAny_pure q) fun _ _ q => q)
  simp only [callSpecialIfBound?, bindSpecialIfBound?]
  refine wpAny_holding (wpAny_bind (wpAny_bind (wpAny_bind (J.type.here ((PySem.W.looks_findIn kin hn).here (wpAny_bind (wpAny_askSetting (wpAny_ite ?_))))))))
  split
  · exact wpAny_bind (wpAny_of_eq (PySem.F.cmp_object.ne.bind _) (wpAny_pure (by exact done)))
  · exact wpAny_tryCatch (wpAny_bind (wpAny_of_eq (PySem.F.cmp_object.ne.bind _) (wpAny_pure (by exact done))))
/-- x != y -/
def rOwnNe (K : PySem.W.Frag) (C : Addr) (sp : Sp) : R2 := fun x y H Q => ∃ a dx fs, x = .ref a ∧ H a = some (.ins C dx fs) ∧ Right K H C y ∧ sp [.ref a, y] H (fun v H' => ∃ b, v = .bl b ∧ Q (.bl (!b)) H') E0
theorem op_ownNe (c : QC X.K C f) (F : FnOk X.prog X.w X.K X.mg X.base CX0 n f fd ps sp) (hb : Binds X.K fd ps []) (hr : Room (n + 1) X.A) : OpR X (compareOp .NotEq) (rOwnNe X.K C sp) := by
  intro pins s σ H x y v u Q I rx ry h
  obtain ⟨a, dx, fs, rfl, ha, hy, hsp⟩ := h
  cases rx
  obtain ⟨mA, J, _⟩ := ins_get I.hok ha
  obtain ⟨od, J, _⟩ := J.look
  obtain ⟨tb, lk, nf⟩ := right_looks (M := model X.prog X.w) c I ry hy
  have hsp' : sp [.ref a, y] H (fun v H' => ∃ b, v = .bl b ∧ (fun z H2 => ∃ b, z = V.bl b ∧ Q (.bl (!b)) H2) (.bl b) H') E0 := by
    have : (fun (v : V) (H' : Hp) => ∃ b, v = .bl b ∧ (fun z H2 => ∃ b, z = V.bl b ∧ Q (.bl (!b)) H2) (.bl b) H') = fun v H' => ∃ b, v = .bl b ∧ Q (.bl (!b)) H' := by
      funext v H'
      apply propext
      constructor
      · rintro ⟨b, e, b', e', q⟩
        cases e'
        exact ⟨b, e, q⟩
      · rintro ⟨b, e, q⟩
        exact ⟨b, e, b, rfl, q⟩
    rw [this]
    exact hsp
  have one : wpAny (model X.prog X.w) X.A (tryCompare (.ref a) "__ne__" u) (fun r s' => ∃ w, r = some w ∧ EP X pins σ Q w s') X.xe s := by
    unfold tryCompare
    refine wpAny_bind (ifBound_ne I.kIn J c.ne (wpAny_call (codeAny_call_builtin PySem.F.cmp_object.ne.plain PySem.F.cmpEntry_ne (PySem.W.check_slot PySem.F.cmpKind_ne PySem.F.cmpSplit_ne (J.type.andThen (PySem.W.looks_mroIn I.kIn c.ob)) (PySem.F.cmpArgs_ne _ _)
      (ne_entry (hr.in1.units0) (PySem.W.ifBound_K I.kIn J c.eq c.fn (wpAny_mono (run_eq (Q := fun z H2 => ∃ b, z = V.bl b ∧ Q (.bl (!b)) H2) F hb hr.in1 rfl I ry hsp') (fun r s' q => ?_) fun _ _ z => z)))))))
    obtain ⟨b, H', rfl, I', b', e', q⟩ := q
    cases e'
    exact ⟨b, rfl, wpAny_pure ⟨.bool (!b), rfl, .bl (!b), H', I', rfl, q⟩⟩
  show wpAny (model X.prog X.w) X.A (richCompare .NotEq (.ref a) u) (EP X pins σ Q) X.xe s
  simp only [richCompare, cmpInfo_NotEq, oneThing_ref]
  refine wpAny_holding (wpAny_bind (wpAny_cRoomFor hr.units0 (wpAny_bind (J.type.here (wpAny_bind (lk.here ?_))))))
  split
  · rename_i q
    have no : PySem.W.subIn X.K tb (.ref C) = some false := by
      rcases Bool.or_eq_true_iff.mp nf with e | e
      · rw [beq_iff_eq.mp e] at q
        simp at q
      · exact beq_iff_eq.mp e
    refine wpAny_bind ((PySem.W.looks_subIn I.kIn no).here ?_)
    simp only [Bool.false_eq_true, if_false]
    refine wpAny_bind (wpAny_mono one (fun r s' z => ?_) fun _ _ e => e)
    obtain ⟨w, rfl, z⟩ := z
    exact wpAny_pure z
  · refine wpAny_bind (wpAny_pure ?_)
    simp only [Bool.false_eq_true, if_false]
    refine wpAny_bind (wpAny_mono one (fun r s' z => ?_) fun _ _ e => e)
    obtain ⟨w, rfl, z⟩ := z
    exact wpAny_pure z
end
end OwnQ
/-! ### x == y, y of a class with its own __eq__, x data: x's kind declines -/
namespace RevQ
open PySem PySem.Spec PyProof.Rows L2 Evl Rep Dat OwnQ
section
open AutoSeq1 (wpAny_loadPart')
open MeetsSeq MeetsSeq2 MeetsSeq3 SeqRoads2
theorem int_dec (b : Int) (u : Tok) (a C dx : Addr) : Meets (Builtin.«int.__eq__» ⟨[.int b u, .ref a], []⟩) (fun _ R s => s.heap.get? a = some (PySem.W.instObj C dx) ∧ R (.ok (.ret .notImplemented)) s) :=
  .of_wp fun prog w A R s h => by
    obtain ⟨hp, g, d, tk, os⟩ := s
    obtain ⟨ha, h⟩ := h
    unfold PySem.W.instObj at ha
    wp_walk using wpAny_loadPart' ha, wpAny_load ha
    exact ⟨_, rfl, h⟩
theorem bool_dec (b : Bool) (a C dx : Addr) : Meets (Builtin.«int.__eq__» ⟨[.bool b, .ref a], []⟩) (fun _ R s => s.heap.get? a = some (PySem.W.instObj C dx) ∧ R (.ok (.ret .notImplemented)) s) :=
  .of_wp fun prog w A R s h => by
    obtain ⟨hp, g, d, tk, os⟩ := s
    obtain ⟨ha, h⟩ := h
    unfold PySem.W.instObj at ha
    wp_walk using wpAny_loadPart' ha, wpAny_load ha
    exact ⟨_, rfl, h⟩
theorem str_dec (b : Str) (u : Tok) (a C dx : Addr) : Meets (Builtin.«str.__eq__» ⟨[.str b u, .ref a], []⟩) (fun _ R s => s.heap.get? a = some (PySem.W.instObj C dx) ∧ R (.ok (.ret .notImplemented)) s) :=
  .of_wp fun prog w A R s h => by
    obtain ⟨hp, g, d, tk, os⟩ := s
    obtain ⟨ha, h⟩ := h
    unfold PySem.W.instObj at ha
    wp_walk using wpAny_loadPart' ha, wpAny_load ha
    exact ⟨_, rfl, h⟩
end
theorem list_dec {M : Model} {A : Around} {l a : Addr} {s : Shared} {Q : Fin → Shared → Prop} {E : Value → Shared → Prop} (lk : PySem.W.Looks M s.heap (isInstance (.ref a) (.type "list")) false) (h : Q (.done (.ret .notImplemented)) s) : wpAny M A (Builtin.«list.__eq__» ⟨[.ref l, .ref a], []⟩) Q E s := by
  refine wpAny_bind (wpAny_pure ?_)
  dsimp only
  refine wpAny_bind (lk.here ?_)
  exact wpAny_pure h
theorem tup_dec {M : Model} {A : Around} {l a : Addr} {s : Shared} {Q : Fin → Shared → Prop} {E : Value → Shared → Prop} (lk : PySem.W.Looks M s.heap (isInstance (.ref a) (.type "tuple")) false) (h : Q (.done (.ret .notImplemented)) s) : wpAny M A (Builtin.«tuple.__eq__» ⟨[.ref l, .ref a], []⟩) Q E s := by
  refine wpAny_bind (wpAny_pure ?_)
  dsimp only
  refine wpAny_bind (lk.here ?_)
  exact wpAny_pure h
theorem dict_dec {M : Model} {A : Around} {l a : Addr} {s : Shared} {Q : Fin → Shared → Prop} {E : Value → Shared → Prop} (lk : PySem.W.Looks M s.heap (isInstance (.ref a) (.type "dict")) false) (h : Q (.done (.ret .notImplemented)) s) : wpAny M A (Builtin.«dict.__eq__» ⟨[.ref l, .ref a], []⟩) Q E s := by
  have e : Builtin.Dict.dictSlotArgs "__eq__" ⟨[.ref l, .ref a], []⟩ = pure (.ref l, .ref a) := by kernel_rfl
  refine wpAny_bind (wpAny_of_eq e ?_)
  dsimp only
  refine wpAny_bind (lk.here ?_)
  refine wpAny_bind (wpAny_rule ?_)
  exact wpAny_pure h
section
open MeetsSeq MeetsSeq2 MeetsSeq3 SeqRoads2
variable {X : Cx} {n : Nat} {f C : Addr} {fd : FuncData} {ps : List Str} {sp : Sp}
/-- x == y, x data, y of the class -/
def rRevEq (K : PySem.W.Frag) (C : Addr) (sp : Sp) : R2 := fun x y H Q => ∃ d a dx fs, Sw K H x d ∧ y = .ref a ∧ H a = some (.ins C dx fs) ∧ sp [.ref a, x] H (fun v H' => ∃ b, v = .bl b ∧ Q (.bl b) H') E0
theorem op_revEq (c : QC X.K C f) (F : FnOk X.prog X.w X.K X.mg X.base CX0 n f fd ps sp) (hb : Binds X.K fd ps []) (hr : Room (n + 1) X.A) : OpR X (compareOp .Eq) (rRevEq X.K C sp) := by
  intro pins s σ H x y v u Q I rx ry h
  obtain ⟨d, a, dx, fs, hx, rfl, ha, hsp⟩ := h
  cases ry
  obtain ⟨mA, OO, _⟩ := ins_get I.hok ha
  have ob : s.heap.get? a = some (PySem.W.instObj C dx) := OO.1
  obtain ⟨od, J, _⟩ := OO.look
  have lkx := looks_sw (M := model X.prog X.w) I rx hx
  have isNo : PySem.W.Looks (model X.prog X.w) s.heap (isInstance (.ref a) (.type (tyD d))) false := J.type.andThen (PySem.W.looks_subIn I.kIn (c.sb d))
  -- the reflected one
  have back : wpAny (model X.prog X.w) X.A (tryCompare (.ref a) "__eq__" v) (fun r s' => ∃ w, r = some w ∧ EP X pins σ Q w s') X.xe s := by
    unfold tryCompare
    refine wpAny_bind (PySem.W.ifBound_K I.kIn J c.eq c.fn (wpAny_mono (run_eq F hb (hr.mono (Nat.le_succ n)) rfl I rx hsp) (fun r s' q => ?_) fun _ _ z => z))
    obtain ⟨b, H', rfl, I', q⟩ := q
    exact wpAny_pure ⟨.bool b, rfl, .bl b, H', I', rfl, q⟩
  have first : wpAny (model X.prog X.w) X.A (tryCompare v "__eq__" (.ref a)) (fun r s' => r = none ∧ s' = s) X.xe s := by
    cases hx with
    | non =>
      cases rx
      exact wpAny_tryCompare_declines (show s.TypeIs .none "NoneType" from rfl) PySem.F.slot_NoneType_eq (call_gives PySem.F.slot_NoneType_eq rfl PySem.F.entry_NoneType_eq (PySem.F.args_NoneType_eq_2 _ _) (SeqAt.NoneType___eq___none_ref_0 a) ⟨rfl, rfl, rfl⟩)
    | bl b =>
      cases rx
      exact wpAny_tryCompare_declines (show s.TypeIs (.bool b) "bool" from rfl) PySem.F.slot_bool_eq (call_meets PySem.F.slot_bool_eq rfl PySem.F.entry_int_eq (PySem.F.args_int_eq_2 _ _) (bool_dec b a C dx) ⟨ob, rfl, rfl, rfl⟩)
    | int i =>
      obtain ⟨t, rfl⟩ := rx
      exact wpAny_tryCompare_declines (typeIs_int s i t) PySem.F.slot_int_eq (call_meets PySem.F.slot_int_eq (typeIs_int s i t) PySem.F.entry_int_eq (PySem.F.args_int_eq_2 _ _) (int_dec i t a C dx) ⟨ob, rfl, rfl, rfl⟩)
    | str z =>
      obtain ⟨t, rfl⟩ := rx
      exact wpAny_tryCompare_declines (typeIs_str s z t) PySem.F.slot_str_eq (call_meets PySem.F.slot_str_eq (typeIs_str s z t) PySem.F.entry_str_eq (PySem.F.args_str_eq_2 _ _) (str_dec z t a C dx) ⟨ob, rfl, rfl, rfl⟩)
    | lst hs _ =>
      cases rx
      obtain ⟨its, _, ht, _⟩ := I.list hs
      exact wpAny_tryCompare_declines ht.isList.typeIs PySem.F.slot_list_eq (GQ.call_here PySem.F.slot_list_eq ht.isList.typeIs PySem.F.entry_list_eq (PySem.F.args_list_eq_2 _ _) (list_dec isNo ⟨rfl, rfl, rfl⟩))
    | tup hs _ =>
      cases rx
      obtain ⟨its, _, ht, _⟩ := I.tuple hs
      exact wpAny_tryCompare_declines ht.typeIs PySem.F.slot_tuple_eq (GQ.call_here PySem.F.slot_tuple_eq ht.typeIs PySem.F.entry_tuple_eq (PySem.F.args_tuple_eq_2 _ _) (tup_dec isNo ⟨rfl, rfl, rfl⟩))
    | dct hs _ =>
      cases rx
      obtain ⟨_, _, vs, _, o, es, ep, h1, h2, _⟩ := dk_of I.hok hs
      exact wpAny_tryCompare_declines ⟨o, h1, h2.1⟩ PySem.F.slot_dict_eq (GQ.call_here PySem.F.slot_dict_eq ⟨o, h1, h2.1⟩ PySem.F.entry_dict_eq (PySem.F.args_dict_eq_2 _ _) (dict_dec isNo ⟨rfl, rfl, rfl⟩))
  show wpAny (model X.prog X.w) X.A (richCompare .Eq v (.ref a)) (EP X pins σ Q) X.xe s
  have one : oneThing? .Eq v (.ref a) = none := by cases v <;> rfl
  simp only [richCompare, cmpInfo_Eq, one]
  refine wpAny_holding (wpAny_bind (wpAny_cRoomFor hr.units0 (wpAny_bind (lkx.here (wpAny_bind (J.type.here ?_))))))
  split
  · refine wpAny_bind ((PySem.W.looks_subIn I.kIn (c.sb d)).here ?_)
    simp only [Bool.false_eq_true, if_false, Bool.not_false, if_true]
    refine wpAny_bind (wpAny_mono first (fun r s1 z => ?_) fun _ _ e => e)
    obtain ⟨z1, z2⟩ := z
    subst z1
    subst z2
    dsimp only
    refine wpAny_bind (wpAny_mono back (fun r s1 z => ?_) fun _ _ e => e)
    obtain ⟨w, rfl, z⟩ := z
    exact wpAny_pure z
  · rename_i q
    exact absurd (by simp) q
end
end RevQ
/-! ### what makes a book: a general word -/
namespace God
open PySem PySem.Spec PyProof.Rows L2 Evl Gen Ent Rep Dat Nm Er Chk Gu Deed Pts Hear Lst Bk Cau EvD BadE EntR Lis Prd NmP Bmk EqB
def InB (hs ss : List Str) (e : En) : Prop := (e.1 ∈ hs ∧ e.2.2 ∈ hs) ∨ (e.1 ∈ ss ∧ e.2.2 ∈ ss)
structure GoodP (hs ss : List Str) (ds rs : List En) (ls : List Str) : Prop where
  h : 1 ≤ hs.length ∧ hs.length ≤ 3
  s : 1 ≤ ss.length ∧ ss.length ≤ 4
  d : ds.length ≤ 10
  r : rs.length ≤ 12
  l : ls.length ≤ 4
  nh : ∀ x ∈ hs, nmS x = true
  ns : ∀ x ∈ ss, nmS x = true
  nl : ∀ x ∈ ls, nmS x = true
  dh : hs.Nodup
  dst : ss.Nodup
  dl : ls.Nodup
  ap : ∀ x ∈ ss, x ∉ hs
  od : ∀ e ∈ ds, (∀ z, e.2.1 = some z → nmS z = true) ∧ InB hs ss e
  orr : ∀ e ∈ rs, (∃ z, e.2.1 = some z ∧ nmS z = true) ∧ InB hs ss e
  dr : (rs.map key).Nodup
theorem names_ok {tk l : List Str} (hn : ∀ x ∈ l, nmS x = true) (ht : ∀ x ∈ l, x ∉ tk) (nd : l.Nodup) : firstBad (l.map PyData.str).length (badN tk (l.map PyData.str)) = none := by
  refine first_none fun j hj => ?_
  rw [List.length_map] at hj
  unfold badN
  rw [List.getElem?_map, List.getElem?_eq_getElem hj]
  have m := List.getElem_mem hj
  have e : ((l.map PyData.str).take j).map txt = l.take j := by rw [← List.map_take]; exact txts _
  show (!nmS l[j] || (decide (l[j] ∈ tk) || decide (l[j] ∈ ((l.map PyData.str).take j).map txt))) = false
  have nj : l[j] ∉ l.take j := by
    have := nodup_not (f := id) (l := l) (j := j) (e := l[j]) (by simpa using nd) (List.getElem?_eq_getElem hj)
    simpa using this
  rw [hn _ m, e, decide_eq_false (ht _ m), decide_eq_false nj]
  rfl
theorem many_ok {l : List PyData} {a b : Nat} (h1 : a ≤ l.length) (h2 : l.length ≤ b) : manyE (.list l) (a : Int) (b : Int) = none := by
  unfold manyE
  have : many (.list l) (a : Int) (b : Int) = true := by
    show (decide ((a : Int) ≤ (l.length : Nat)) && decide (((l.length : Nat) : Int) ≤ (b : Int))) = true
    simp
    omega
  rw [this]
  rfl
theorem item_ok {ds : List PyData} {bad : Nat → Bool} (h : firstBad ds.length bad = none) : itemE ds bad = none := by
  unfold itemE
  rw [h]
theorem deedB {hs ss : List Str} {e : En} (h1 : ∀ z, e.2.1 = some z → nmS z = true) (h2 : InB hs ss e) : isDeed hs ss (enD e) = true := by
  show (sndOk (svD e.2.1) && ((sIn hs (.str e.1) && sIn hs (.str e.2.2)) || (sIn ss (.str e.1) && sIn ss (.str e.2.2)))) = true
  have a : sndOk (svD e.2.1) = true := by
    cases hz : e.2.1 with
    | none => rfl
    | some z => exact h1 z hz
  rw [a, Bool.true_and]
  rcases h2 with ⟨x, y⟩ | ⟨x, y⟩
  · rw [in_dec x, in_dec y]
    rfl
  · rw [in_dec x, in_dec y]
    simp
theorem hearB {hs ss : List Str} {e : En} (h1 : ∃ z, e.2.1 = some z ∧ nmS z = true) (h2 : InB hs ss e) : isHear hs ss (enD e) = true ∧ Lst.keyH (enD e) = key e := by
  obtain ⟨z, hz, nz⟩ := h1
  have d := deedB (hs := hs) (ss := ss) (e := e) (fun z' q => by rw [hz] at q; cases q; exact nz) h2
  refine ⟨?_, ?_⟩
  · unfold isHear
    rw [d]
    unfold enD
    rw [hz]
    rfl
  · unfold enD key
    rw [hz]
    rfl
section
variable {hs ss : List Str} {ds rs : List En} {ls : List Str}
theorem good_none (g : GoodP hs ss ds rs ls) : bookErr (strsD hs) (strsD ss) (.list (ds.map enD)) (.list (rs.map enD)) (strsD ls) = none := by
  have e1 : manyE (strsD hs) 1 3 = none := many_ok (a := 1) (b := 3) (by rw [List.length_map]; exact g.h.1) (by rw [List.length_map]; exact g.h.2)
  have e2 : itemE (items (strsD hs)) (badN [] (items (strsD hs))) = none := item_ok (names_ok g.nh (fun x _ => by simp) g.dh)
  have e3 : manyE (strsD ss) 1 4 = none := many_ok (a := 1) (b := 4) (by rw [List.length_map]; exact g.s.1) (by rw [List.length_map]; exact g.s.2)
  have t1 : (items (strsD hs)).map txt = hs := txts hs
  have t2 : (items (strsD ss)).map txt = ss := txts ss
  have e4 : itemE (items (strsD ss)) (badN hs (items (strsD ss))) = none := item_ok (names_ok g.ns g.ap g.dst)
  have e5 : manyE (.list (ds.map enD)) 0 10 = none := many_ok (a := 0) (b := 10) (Nat.zero_le _) (by rw [List.length_map]; exact g.d)
  have e6 : itemE (items (.list (ds.map enD))) (badD hs ss (items (.list (ds.map enD)))) = none := item_ok (first_none fun j hj => by
    have hj' : j < ds.length := by simpa [items] using hj
    show badD hs ss (ds.map enD) j = false
    unfold badD
    rw [List.getElem?_map, List.getElem?_eq_getElem hj']
    have q := g.od _ (List.getElem_mem hj')
    show (!isDeed hs ss (enD ds[j])) = false
    rw [deedB q.1 q.2]
    rfl)
  have e7 : manyE (.list (rs.map enD)) 0 12 = none := many_ok (a := 0) (b := 12) (Nat.zero_le _) (by rw [List.length_map]; exact g.r)
  have e8 : itemE (items (.list (rs.map enD))) (badH hs ss (items (.list (rs.map enD)))) = none := item_ok (first_none fun j hj => by
    have hj' : j < rs.length := by simpa [items] using hj
    show badH hs ss (rs.map enD) j = false
    unfold badH
    rw [List.getElem?_map, List.getElem?_eq_getElem hj']
    have q := g.orr _ (List.getElem_mem hj')
    have q2 := hearB (hs := hs) (ss := ss) q.1 q.2
    have km : (List.take j (rs.map enD)).map Lst.keyH = (rs.take j).map key := by
      rw [← List.map_take, List.map_map]
      apply List.map_congr_left
      intro e he
      have r := g.orr e (List.mem_of_mem_take he)
      exact (hearB (hs := hs) (ss := ss) r.1 r.2).2
    show (!isHear hs ss (enD rs[j]) || decide (Lst.keyH (enD rs[j]) ∈ (List.take j (rs.map enD)).map Lst.keyH)) = false
    rw [q2.1, q2.2, km, decide_eq_false (nodup_not g.dr (List.getElem?_eq_getElem hj'))]
    rfl)
  have e9 : manyE (strsD ls) 0 4 = none := many_ok (a := 0) (b := 4) (Nat.zero_le _) (by rw [List.length_map]; exact g.l)
  have e0 : itemE (items (strsD ls)) (badN [] (items (strsD ls))) = none := item_ok (names_ok g.nl (fun x _ => by simp) g.dl)
  unfold bookErr
  rw [t1, t2, e1, e2, e3, e4, e5, e6, e7, e8, e9, e0]
  rfl
theorem nmFit {z : Str} (h : nmS z = true) : Fit (.str z) := fun z' e => by
  cases e
  unfold nmS at h
  simp only [Bool.and_eq_true, decide_eq_true_eq] at h
  omega
theorem fitNs {l : List Str} (h : ∀ x ∈ l, nmS x = true) : FitN (strsD l) := fun x hx => by
  obtain ⟨s, hs, rfl⟩ := List.mem_map.mp hx
  exact nmFit (h s hs)
theorem inNm (g : GoodP hs ss ds rs ls) {e : En} (h : InB hs ss e) : nmS e.1 = true ∧ nmS e.2.2 = true := by
  rcases h with ⟨x, y⟩ | ⟨x, y⟩
  · exact ⟨g.nh _ x, g.nh _ y⟩
  · exact ⟨g.ns _ x, g.ns _ y⟩
theorem fitEn (g : GoodP hs ss ds rs ls) {e : En} (h1 : ∀ z, e.2.1 = some z → nmS z = true) (h2 : InB hs ss e) : FitT (enD e) := fun xs hx x m => by
  have hx' : [PyData.str e.1, svD e.2.1, .str e.2.2] = xs := PyData.tuple.inj hx
  subst hx'
  have q := inNm g h2
  simp only [List.mem_cons, List.not_mem_nil, or_false] at m
  rcases m with rfl | rfl | rfl
  · exact nmFit q.1
  · cases hz : e.2.1 with
    | none => exact fun z e => by cases e
    | some z => exact nmFit (h1 z hz)
  · exact nmFit q.2
theorem good_fit (g : GoodP hs ss ds rs ls) : Fit5 (strsD hs) (strsD ss) (.list (ds.map enD)) (.list (rs.map enD)) (strsD ls) :=
  ⟨fitNs g.nh, fitNs g.ns, fun x hx => by
    obtain ⟨e, he, rfl⟩ := List.mem_map.mp hx
    exact fitEn g (g.od e he).1 (g.od e he).2, fun x hx => by
    obtain ⟨e, he, rfl⟩ := List.mem_map.mp hx
    obtain ⟨⟨z, hz, nz⟩, i⟩ := g.orr e he
    exact fitEn g (fun z' q => by rw [hz] at q; cases q; exact nz) i, fitNs g.nl⟩
/-- data that can be compared -/
theorem layAll {l : List PyData} (h : ∀ d ∈ l, d.canLay0 = true ∧ d.depth ≤ 1) : PyData.canLayAll0 l = true ∧ PyData.depthAll l ≤ 1 := by
  induction l with
  | nil => exact ⟨by simp [PyData.canLayAll0], by simp [PyData.depthAll]⟩
  | cons d l ih =>
    have a := h d (List.mem_cons_self ..)
    have b := ih fun z m => h z (List.mem_cons_of_mem _ m)
    refine ⟨by simp only [PyData.canLayAll0, a.1, b.1]; rfl, ?_⟩
    simp only [PyData.depthAll]
    omega
theorem shp_of {l : List PyData} (h : ∀ d ∈ l, d.canLay0 = true ∧ d.depth ≤ 1) : SeqAt.shaped (.list l) = true := by
  have q := layAll h
  show (PyData.canLay0 (.list l) && decide (PyData.depth (.list l) ≤ 64)) = true
  rw [Bool.and_eq_true]
  refine ⟨by simp only [PyData.canLay0]; exact q.1, decide_eq_true ?_⟩
  simp only [PyData.depth]
  omega
theorem shpN {l : List Str} (h : ∀ x ∈ l, nmS x = true) : SeqAt.shaped (strsD l) = true := shp_of fun d m => by
  obtain ⟨s, hs, rfl⟩ := List.mem_map.mp m
  exact ⟨by simp only [PyData.canLay0]; exact nm_ok (h s hs), by simp [PyData.depth]⟩
theorem shpE {l : List En} (h : ∀ e ∈ l, nmS e.1 = true ∧ nmS e.2.2 = true ∧ ∀ z, e.2.1 = some z → nmS z = true) : SeqAt.shaped (.list (l.map enD)) = true := shp_of fun d m => by
  obtain ⟨e, he, rfl⟩ := List.mem_map.mp m
  obtain ⟨a, b, c⟩ := h e he
  unfold enD
  cases hz : e.2.1 with
  | none => exact ⟨by simp [PyData.canLay0, PyData.canLayAll0, svD, nm_ok a, nm_ok b], by simp [PyData.depth, PyData.depthAll, svD]⟩
  | some z => exact ⟨by simp [PyData.canLay0, PyData.canLayAll0, svD, nm_ok a, nm_ok b, nm_ok (c z hz)], by simp [PyData.depth, PyData.depthAll, svD]⟩
theorem good_shp (g : GoodP hs ss ds rs ls) : shp (strsD hs) ∧ shp (strsD ss) ∧ shp (.list (ds.map enD)) ∧ shp (.list (rs.map enD)) ∧ shp (strsD ls) :=
  ⟨shpN g.nh, shpN g.ns, shpE fun e he => ⟨(inNm g (g.od e he).2).1, (inNm g (g.od e he).2).2, (g.od e he).1⟩, shpE fun e he => ⟨(inNm g (g.orr e he).2).1, (inNm g (g.orr e he).2).2, fun z q => by
    obtain ⟨⟨z', hz, nz⟩, _⟩ := g.orr e he
    rw [hz] at q
    cases q
    exact nz⟩, shpN g.nl⟩
end
end God
/-! ### the other books' data -/
namespace Oth
open PySem PySem.Spec PyProof.Rows L2 Evl Gen Ent Rep Dat Nm Er Chk Gu Deed Pts Hear Lst Bk Cau EvD BadE EntR Lis Prd NmP Bmk EqB God
def zz : Str := "zz"
theorem nd_rev {α : Type} {l : List α} (h : l.Nodup) : l.reverse.Nodup := List.pairwise_reverse.mpr (h.imp fun q => Ne.symm q)
theorem zz_nm : nmS zz = true := by decide +kernel
theorem hsF : ∀ l ∈ [allH.take 1, allH.take 2, allH.take 3], (decide (1 ≤ l.length) && (decide (l.length ≤ 3) && (l.all nmS && (decide l.Nodup && !decide (zz ∈ l))))) = true := by decide +kernel
theorem ssF : ∀ l ∈ [allS.take 1, allS.take 2, allS.take 3, allS.take 4], (decide (1 ≤ l.length) && (decide (l.length ≤ 4) && (l.all nmS && (decide l.Nodup && (!decide (zz ∈ l) && l.all fun x => !decide (x ∈ allH)))))) = true := by decide +kernel
theorem lsF : ∀ l ∈ allL, (decide (l.length ≤ 2) && (l.all nmS && (decide l.Nodup && !decide (zz ∈ l)))) = true := by decide +kernel
section
variable {w h : Nat} {D : PartsD}
theorem goodD (o : PartsOk w h D) (hw : w ≤ 3) (hh : h ≤ 4) : GoodP D.hs D.ss D.ds D.rs D.ls ∧ zz ∉ D.hs ∧ zz ∉ D.ss ∧ zz ∉ D.ls ∧ D.ls.length ≤ 2 := by
  have a := hsF _ (hs_in o hw)
  have b := ssF _ (ss_in o hh)
  have c := lsF _ o.ls
  simp only [Bool.and_eq_true, Bool.not_eq_true', decide_eq_true_eq, decide_eq_false_iff_not, List.all_eq_true] at a b c
  have inH : ∀ x ∈ D.hs, x ∈ allH := fun x m => by
    obtain ⟨k, _, _, q⟩ := o.hs
    rw [q] at m
    exact List.mem_of_mem_take m
  have snd : ∀ {z : Option Str}, (z = some "ask" ∨ z = some "mend") → ∃ t, z = some t ∧ nmS t = true := fun {z} q => by
    rcases q with q | q <;> rw [q]
    · exact ⟨_, rfl, ask_nm.1⟩
    · exact ⟨_, rfl, ask_nm.2⟩
  refine ⟨⟨⟨a.1, a.2.1⟩, ⟨b.1, b.2.1⟩, by have := o.d1; omega, by have := o.r1; omega, by omega, a.2.2.1, b.2.2.1, c.2.1, a.2.2.2.1, b.2.2.2.1, c.2.2.1, fun x m n => b.2.2.2.2.2 x m (inH x n), fun e m => ⟨fun z q => ?_, (o.ds e m).2⟩, fun e m => ⟨snd (o.rs e m).1, (o.rs e m).2⟩, o.nd⟩, a.2.2.2.2, b.2.2.2.2.1, c.2.2.2, c.1⟩
  rcases (o.ds e m).1 with r | r
  · rw [q] at r
    cases r
  · obtain ⟨t, e1, e2⟩ := snd r
    rw [q] at e1
    cases e1
    exact e2
end
section
variable {hs ss : List Str} {ds rs : List En} {ls : List Str}
theorem inB_h {e : En} (h : InB hs ss e) {x : Str} : InB (hs ++ [x]) ss e := h.imp (fun q => ⟨List.mem_append_left _ q.1, List.mem_append_left _ q.2⟩) id
theorem inB_s {e : En} (h : InB hs ss e) {x : Str} : InB hs (ss ++ [x]) e := h.imp id (fun q => ⟨List.mem_append_left _ q.1, List.mem_append_left _ q.2⟩)
theorem nd_one {l : List Str} {x : Str} (n : l.Nodup) (h : x ∉ l) : (l ++ [x]).Nodup := List.nodup_append.mpr ⟨n, by simp, fun a ha b hb => by
  obtain rfl : b = x := by simpa using hb
  exact fun z => h (by rw [← z]; exact ha)⟩
theorem mem_one {l : List Str} {x y : Str} (h : y ∈ l ++ [x]) : y ∈ l ∨ y = x := by simpa using h
theorem v0 (g : GoodP hs ss ds rs ls) (n : hs.length ≤ 2) (z1 : zz ∉ hs) (z2 : zz ∉ ss) : GoodP (hs ++ [zz]) ss ds rs ls :=
  ⟨by rw [List.length_append]; show 1 ≤ _ + 1 ∧ _ + 1 ≤ 3; omega, g.s, g.d, g.r, g.l, fun x m => (mem_one m).elim (g.nh x) (fun e => by rw [e]; exact zz_nm), g.ns, g.nl, nd_one g.dh z1, g.dst, g.dl,
    fun x m n => (mem_one n).elim (g.ap x m) (fun e => z2 (by rw [← e]; exact m)), fun e m => ⟨(g.od e m).1, inB_h (g.od e m).2⟩, fun e m => ⟨(g.orr e m).1, inB_h (g.orr e m).2⟩, g.dr⟩
theorem v1 (g : GoodP hs ss ds rs ls) (n : ss.length ≤ 3) (z1 : zz ∉ hs) (z2 : zz ∉ ss) : GoodP hs (ss ++ [zz]) ds rs ls :=
  ⟨g.h, by rw [List.length_append]; show 1 ≤ _ + 1 ∧ _ + 1 ≤ 4; omega, g.d, g.r, g.l, g.nh, fun x m => (mem_one m).elim (g.ns x) (fun e => by rw [e]; exact zz_nm), g.nl, g.dh, nd_one g.dst z2, g.dl,
    fun x m => (mem_one m).elim (g.ap x) (fun e => by rw [e]; exact z1), fun e m => ⟨(g.od e m).1, inB_s (g.od e m).2⟩, fun e m => ⟨(g.orr e m).1, inB_s (g.orr e m).2⟩, g.dr⟩
theorem v2 (g : GoodP hs ss ds rs ls) (n : ds.length ≤ 5) {x : Str} (hx : x ∈ ss) : GoodP hs ss (ds ++ [(x, some zz, x)]) rs ls :=
  ⟨g.h, g.s, by rw [List.length_append]; show _ + 1 ≤ 10; omega, g.r, g.l, g.nh, g.ns, g.nl, g.dh, g.dst, g.dl, g.ap, fun e m => by
    rcases List.mem_append.mp m with m | m
    · exact g.od e m
    · obtain rfl : e = (x, some zz, x) := by simpa using m
      exact ⟨fun z q => by cases q; exact zz_nm, .inr ⟨hx, hx⟩⟩, g.orr, g.dr⟩
theorem v3 (g : GoodP hs ss ds rs ls) (n : rs.length ≤ 7) {x : Str} (hx : x ∈ ss) (hk : ∀ e ∈ rs, e.2.1 ≠ some zz) : GoodP hs ss ds (rs ++ [(x, some zz, x)]) ls :=
  ⟨g.h, g.s, g.d, by rw [List.length_append]; show _ + 1 ≤ 12; omega, g.l, g.nh, g.ns, g.nl, g.dh, g.dst, g.dl, g.ap, g.od, fun e m => by
    rcases List.mem_append.mp m with m | m
    · exact g.orr e m
    · obtain rfl : e = (x, some zz, x) := by simpa using m
      exact ⟨⟨zz, rfl, zz_nm⟩, .inr ⟨hx, hx⟩⟩, by
    rw [List.map_append]
    refine List.nodup_append.mpr ⟨g.dr, by simp, fun a ha b hb => ?_⟩
    obtain ⟨e, he, rfl⟩ := List.mem_map.mp ha
    obtain rfl : b = (x, some zz) := by simpa [key] using hb
    intro z
    exact hk e he (congrArg Prod.snd z)⟩
theorem v4 (g : GoodP hs ss ds rs ls) (n : ls.length ≤ 2) (z1 : zz ∉ ls) : GoodP hs ss ds rs (ls ++ [zz]) :=
  ⟨g.h, g.s, g.d, g.r, by rw [List.length_append]; show _ + 1 ≤ 4; omega, g.nh, g.ns, fun x m => (mem_one m).elim (g.nl x) (fun e => by rw [e]; exact zz_nm), g.dh, g.dst, nd_one g.dl z1, g.ap, g.od, g.orr, g.dr⟩
theorem inB_rh {e : En} (h : InB hs ss e) : InB hs.reverse ss e := h.imp (fun q => ⟨List.mem_reverse.mpr q.1, List.mem_reverse.mpr q.2⟩) id
theorem inB_rs {e : En} (h : InB hs ss e) : InB hs ss.reverse e := h.imp id (fun q => ⟨List.mem_reverse.mpr q.1, List.mem_reverse.mpr q.2⟩)
theorem r0 (g : GoodP hs ss ds rs ls) : GoodP hs.reverse ss ds rs ls :=
  ⟨by rw [List.length_reverse]; exact g.h, g.s, g.d, g.r, g.l, fun x m => g.nh x (List.mem_reverse.mp m), g.ns, g.nl, nd_rev g.dh, g.dst, g.dl, fun x m n => g.ap x m (List.mem_reverse.mp n), fun e m => ⟨(g.od e m).1, inB_rh (g.od e m).2⟩, fun e m => ⟨(g.orr e m).1, inB_rh (g.orr e m).2⟩, g.dr⟩
theorem r1 (g : GoodP hs ss ds rs ls) : GoodP hs ss.reverse ds rs ls :=
  ⟨g.h, by rw [List.length_reverse]; exact g.s, g.d, g.r, g.l, g.nh, fun x m => g.ns x (List.mem_reverse.mp m), g.nl, g.dh, nd_rev g.dst, g.dl, fun x m => g.ap x (List.mem_reverse.mp m), fun e m => ⟨(g.od e m).1, inB_rs (g.od e m).2⟩, fun e m => ⟨(g.orr e m).1, inB_rs (g.orr e m).2⟩, g.dr⟩
theorem r2 (g : GoodP hs ss ds rs ls) : GoodP hs ss ds.reverse rs ls :=
  ⟨g.h, g.s, by rw [List.length_reverse]; exact g.d, g.r, g.l, g.nh, g.ns, g.nl, g.dh, g.dst, g.dl, g.ap, fun e m => g.od e (List.mem_reverse.mp m), g.orr, g.dr⟩
theorem r3 (g : GoodP hs ss ds rs ls) : GoodP hs ss ds rs.reverse ls :=
  ⟨g.h, g.s, g.d, by rw [List.length_reverse]; exact g.r, g.l, g.nh, g.ns, g.nl, g.dh, g.dst, g.dl, g.ap, g.od, fun e m => g.orr e (List.mem_reverse.mp m), by rw [List.map_reverse]; exact nd_rev g.dr⟩
theorem r4 (g : GoodP hs ss ds rs ls) : GoodP hs ss ds rs ls.reverse :=
  ⟨g.h, g.s, g.d, g.r, by rw [List.length_reverse]; exact g.l, g.nh, g.ns, fun x m => g.nl x (List.mem_reverse.mp m), g.dh, g.dst, nd_rev g.dl, g.ap, g.od, g.orr, g.dr⟩
end
end Oth

/-! ### the law: what is told can be shown, is equal to itself, and stays -/
namespace LwP
open PySem PySem.Spec PyProof.Rows L2 Evl Gen Ent Rep Dat Nm Er Chk Gu Deed Pts Hear Lst Bk Cau EvD BadE EntR Lis Prd NmR Bmk EqB God Oth
structure Nice (w dp : Nat) (d : PyData) : Prop where
  ls : PyData.leavesShort 13 d = true
  sh : d.showable = true
  pl : d.plain = true
  wt : d.weight ≤ w
  dp : d.depth ≤ dp
theorem Nice.mono {w dp w' dp' : Nat} {d : PyData} (h : Nice w dp d) (h1 : w ≤ w') (h2 : dp ≤ dp') : Nice w' dp' d := ⟨h.ls, h.sh, h.pl, Nat.le_trans h.wt h1, Nat.le_trans h.dp h2⟩
theorem niceAll {w dp : Nat} : ∀ {l : List PyData}, (∀ d ∈ l, Nice w dp d) → PyData.leavesShortAll 13 l = true ∧ PyData.showableAll l = true ∧ PyData.plainAll l = true ∧ PyData.weightAll l ≤ l.length * (w + 1) ∧ PyData.depthAll l ≤ dp
  | [], _ => ⟨rfl, rfl, rfl, by simp [PyData.weightAll], by simp [PyData.depthAll]⟩
  | d :: l, h => by
    obtain ⟨h1, h2, h3, h4, h5⟩ := niceAll fun x m => h x (List.mem_cons_of_mem _ m)
    have a := h d (List.mem_cons_self ..)
    refine ⟨by simp [PyData.leavesShortAll, a.ls, h1], by simp [PyData.showableAll, a.sh, h2], by simp [PyData.plainAll, a.pl, h3], ?_, ?_⟩
    · simp only [PyData.weightAll, List.length_cons, Nat.succ_mul]
      have := a.wt
      omega
    · simp only [PyData.depthAll]
      have := a.dp
      omega
theorem Nice.lst {w dp n : Nat} {l : List PyData} (h : ∀ d ∈ l, Nice w dp d) (hn : l.length ≤ n) : Nice (n * (w + 1)) (dp + 1) (.list l) := by
  obtain ⟨h1, h2, h3, h4, h5⟩ := niceAll h
  exact ⟨h1, h2, h3, Nat.le_trans h4 (Nat.mul_le_mul_right _ hn), by simp only [PyData.depth]; omega⟩
theorem Nice.tup {w dp n : Nat} {l : List PyData} (h : ∀ d ∈ l, Nice w dp d) (hn : l.length ≤ n) : Nice (n * (w + 1)) (dp + 1) (.tuple l) := by
  obtain ⟨h1, h2, h3, h4, h5⟩ := niceAll h
  exact ⟨h1, h2, h3, Nat.le_trans h4 (Nat.mul_le_mul_right _ hn), by simp only [PyData.depth]; omega⟩
theorem Nice.shw {w dp : Nat} {d : PyData} (h : Nice w dp d) (hw : w ≤ 2 ^ 20) (hd : dp ≤ 60) : Shw d :=
  ⟨h.sh, PyData.shown_fits (B := 13) (by decide) (by decide) h.ls (Nat.le_trans h.wt hw), Nat.le_trans h.dp hd⟩
theorem Nice.eq {w dp : Nat} {d : PyData} (h : Nice w dp d) : PyData.eqv d d = true := PySem.SeqAt.eqv_refl_plain d h.pl
theorem nice_str {z : Str} (h : nmS z = true) : Nice 8 0 (.str z) := by
  unfold nmS at h
  simp only [Bool.and_eq_true, decide_eq_true_eq] at h
  obtain ⟨⟨h1, h2⟩, h3⟩ := h
  refine ⟨?_, rfl, rfl, h2, Nat.le_refl _⟩
  show (z.cps.toList.all fun c => decide (c < 16 ^ 8)) = true
  rw [List.all_eq_true] at h3 ⊢
  intro c m
  have := h3 c m
  unfold low at this
  simp only [Bool.and_eq_true, decide_eq_true_eq] at this
  refine decide_eq_true ?_
  have : (16 : Nat) ^ 8 = 4294967296 := by decide
  omega
theorem nice_strs {l : List Str} {n : Nat} (h : ∀ x ∈ l, nmS x = true) (hn : l.length ≤ n) : Nice (n * 9) 1 (strsD l) := by
  refine Nice.lst (w := 8) (dp := 0) (fun d m => ?_) (by rw [List.length_map]; exact hn)
  obtain ⟨x, mx, rfl⟩ := List.mem_map.mp m
  exact nice_str (h x mx)
theorem nice_en {e : En} (h1 : nmS e.1 = true) (h2 : nmS e.2.2 = true) (h3 : ∀ z, e.2.1 = some z → nmS z = true) : Nice 27 1 (enD e) := by
  refine Nice.tup (w := 8) (dp := 0) (n := 3) (fun d m => ?_) (by simp)
  simp only [List.mem_cons, List.not_mem_nil, or_false] at m
  rcases m with rfl | rfl | rfl
  · exact nice_str h1
  · cases q : e.2.1 with
    | none => exact ⟨rfl, rfl, rfl, by simp [svD, PyData.weight], by simp [svD, PyData.depth]⟩
    | some z => exact nice_str (h3 z q)
  · exact nice_str h2
theorem nice_ens {l : List En} {n : Nat} (h : ∀ e ∈ l, nmS e.1 = true ∧ nmS e.2.2 = true ∧ ∀ z, e.2.1 = some z → nmS z = true) (hn : l.length ≤ n) : Nice (n * 28) 2 (.list (l.map enD)) := by
  refine Nice.lst (w := 27) (dp := 1) (fun d m => ?_) (by rw [List.length_map]; exact hn)
  obtain ⟨x, mx, rfl⟩ := List.mem_map.mp m
  obtain ⟨a, b, c⟩ := h x mx
  exact nice_en a b c
section
variable {hs ss : List Str} {ds rs : List En} {ls : List Str}
theorem good_ens (g : GoodP hs ss ds rs ls) : (∀ e ∈ ds, nmS e.1 = true ∧ nmS e.2.2 = true ∧ ∀ z, e.2.1 = some z → nmS z = true) ∧ ∀ e ∈ rs, nmS e.1 = true ∧ nmS e.2.2 = true ∧ ∀ z, e.2.1 = some z → nmS z = true := by
  refine ⟨fun e m => ?_, fun e m => ?_⟩
  · obtain ⟨h1, h2⟩ := g.od e m
    exact ⟨(inNm g h2).1, (inNm g h2).2, h1⟩
  · obtain ⟨⟨z, q, hz⟩, h2⟩ := g.orr e m
    refine ⟨(inNm g h2).1, (inNm g h2).2, fun y hy => ?_⟩
    rw [q] at hy
    cases hy
    exact hz
theorem eq_self (g : GoodP hs ss ds rs ls) : eq5 (strsD hs) (strsD ss) (.list (ds.map enD)) (.list (rs.map enD)) (strsD ls) (strsD hs) (strsD ss) (.list (ds.map enD)) (.list (rs.map enD)) (strsD ls) = true := by
  obtain ⟨e1, e2⟩ := good_ens g
  have h1 : PyData.eqv (.list (items (strsD hs))) (.list (items (strsD hs))) = true := (nice_strs g.nh g.h.2).eq
  have h2 : PyData.eqv (.list (items (strsD ss))) (.list (items (strsD ss))) = true := (nice_strs g.ns g.s.2).eq
  have h3 : PyData.eqv (.list (items (.list (ds.map enD)))) (.list (items (.list (ds.map enD)))) = true := (nice_ens e1 g.d).eq
  have h4 : PyData.eqv (.list (items (.list (rs.map enD)))) (.list (items (.list (rs.map enD)))) = true := (nice_ens e2 g.r).eq
  have h5 : PyData.eqv (.list (items (strsD ls))) (.list (items (strsD ls))) = true := (nice_strs g.nl g.l).eq
  unfold eq5
  rw [h1, h2, h3, h4, h5]
  rfl
end
/-! ### a heap without some lists -/
def rm (H : Hp) (S : List Addr) : Hp := fun b => if b ∈ S then none else H b
theorem rm_ex {H : Hp} {S : List Addr} : Ex (rm H S) H := fun a o h => by
  unfold rm at h
  split at h
  · cases h
  · exact h
theorem rm_ne {H : Hp} {S : List Addr} {b : Addr} (h : b ∉ S) : rm H S b = H b := if_neg h
theorem rm_in {H : Hp} {S : List Addr} {b : Addr} (h : b ∈ S) : rm H S b = none := if_pos h
/-- what stands in both: all that is no list, and all that is new since H0 -/
structure Keep (H0 H G : Hp) : Prop where
  o : ∀ a u, H a = some u → (∀ xs, u ≠ .lst xs) → G a = some u
  n : ∀ a u, H a = some u → H0 a = none → G a = some u
theorem keep_rm {H0 H : Hp} {S : List Addr} (h : ∀ r ∈ S, ∃ xs, H0 r = some (.lst xs) ∧ H r = some (.lst xs)) : Keep H0 H (rm H S) := by
  refine ⟨fun a u ha hu => ?_, fun a u ha hn => ?_⟩
  · rw [rm_ne fun m => ?_]
    · exact ha
    · obtain ⟨xs, _, h2⟩ := h a m
      rw [ha] at h2
      exact hu xs (Option.some.inj h2)
  · rw [rm_ne fun m => ?_]
    · exact ha
    · obtain ⟨xs, h1, _⟩ := h a m
      rw [hn] at h1
      cases h1
section
variable {K : PySem.W.Frag} {H0 H G : Hp} (k : Keep H0 H G)
include k
theorem kp_str : ∀ {xs : List V} {l : List Str}, SwAll K H xs (l.map PyData.str) → SwAll K G xs (l.map PyData.str)
  | _, [], h => by
    cases h
    exact .nil
  | _, z :: l, h => by
    cases h with
    | cons a b =>
      cases a
      exact .cons (.str z) (kp_str b)
theorem kp_en {v : V} {e : En} (h : Sw K H v (enD e)) : Sw K G v (enD e) := by
  unfold enD at h ⊢
  cases h with
  | tup q a =>
    rename_i t xs
    have q' : SqT K G t xs := by
      rcases q with (q | ⟨o, q⟩) | q
      · exact .inl (.inl (k.o _ _ q fun xs z => by cases z))
      · exact .inl (.inr ⟨o, k.o _ _ q fun xs z => by cases z⟩)
      · exact .inr q
    refine .tup q' ?_
    cases a with
    | cons a1 a =>
      cases a with
      | cons a2 a =>
        cases a with
        | cons a3 a =>
          cases a
          cases a1
          cases a3
          refine .cons (.str _) (.cons ?_ (.cons (.str _) .nil))
          cases q2 : e.2.1 with
          | none =>
            rw [q2] at a2
            cases a2
            exact .non
          | some z =>
            rw [q2] at a2
            cases a2
            exact .str z
theorem kp_ens : ∀ {xs : List V} {l : List En}, SwAll K H xs (l.map enD) → SwAll K G xs (l.map enD)
  | _, [], h => by
    cases h
    exact .nil
  | _, e :: l, h => by
    cases h with
    | cons a b => exact .cons (kp_en k a) (kp_ens b)
theorem kp_book {C p : Addr} {hs ss ls : List Str} {ds rs : List En} (h : BookN K H0 H C p (strsD hs) (strsD ss) (.list (ds.map enD)) (.list (rs.map enD)) (strsD ls)) :
    BookD K G C p (strsD hs) (strsD ss) (.list (ds.map enD)) (.list (rs.map enD)) (strsD ls) := by
  obtain ⟨B, ⟨dx, b1, b2, b3, b4, b5, h0, ⟨h1, h2, h3, h4, h5⟩, n1, n2, n3, n4, n5⟩, s1, s2, s3, s4, s5⟩ := h
  exact ⟨B, ⟨dx, b1, b2, b3, b4, b5, k.o _ _ h0 (fun xs z => by cases z), k.n _ _ h1 n1, k.n _ _ h2 n2, k.n _ _ h3 n3, k.n _ _ h4 n4, k.n _ _ h5 n5⟩, kp_str k s1, kp_str k s2, kp_ens k s3, kp_ens k s4, kp_str k s5⟩
end
end LwP

/-! ### rules that the library lacks -/
namespace Inf
open PySem PySem.Spec PyProof.Rows L2 Evl
/-- xs[i], by values -/
def rGetL (K : PySem.W.Frag) : V → V → Hp → VK → Prop := fun o i H Q => ∃ (p : Addr) (xs : List V) (j : Nat) (v : V), o = .ref p ∧ i = .int (j : Int) ∧ SqL K H p xs ∧ xs[j]? = some v ∧ Q v H
theorem get_list {X : Cx} : PGet X (rGetL X.K) := by
  intro pins s σ H o i ov iv Q I ro ri h
  obtain ⟨p, xs, j, v, rfl, rfl, hq, hv, q⟩ := h
  cases ro
  obtain ⟨t, rfl⟩ := ri
  obtain ⟨its, r, pl, hz⟩ := I.list hq
  obtain ⟨u, hu, ru⟩ := r.get hv
  have hj : j < its.length := (List.getElem?_eq_some_iff.mp hu).1
  have hl := r.length
  have hn := line63
  exact wpAny_getItem_list pl.isList (by omega) (by omega) (by simpa using hu) ⟨v, H, I, ru, q⟩
/-- () + t -/
def rCat0 (K : PySem.W.Frag) : R2 := fun x y H Q => ∃ (a b : Addr) (ys : List V), x = .ref a ∧ y = .ref b ∧ SqT K H a [] ∧ SqT K H b ys ∧ Q (.ref b) H
def rCatU (K : PySem.W.Frag) : R2 := fun x y H Q => rCatT K x y H Q ∨ rCat0 K x y H Q
theorem op_catU {X : Cx} : OpR X (binaryOp .Add) (rCatU X.K) := by
  intro pins s σ H x y v u Q I rx ry h
  rcases h with h | h
  · exact op_catT pins s σ H x y v u Q I rx ry h
  obtain ⟨a, b, ys, rfl, rfl, ha, hb, q⟩ := h
  cases rx
  cases ry
  obtain ⟨its, r1, p1, _⟩ := I.tuple ha
  obtain ⟨its2, r2, p2, _⟩ := I.tuple hb
  cases r1
  obtain ⟨⟨cls, dd, data, sl⟩, ho, hc, n, hd⟩ := p1
  obtain ⟨⟨cls2, dd2, data2, sl2⟩, ho2, hc2, n2, hd2⟩ := p2
  simp only at hc hd hc2 hd2
  subst hc hd hc2 hd2
  exact concat_meets ⟨_, ho, rfl⟩ ⟨_, ho2, rfl⟩ noFill_tuple_add seq_tuple_add PySem.F.slot_tuple_add PySem.F.entry_tuple_add (PySem.F.args_tuple_add_2 _ _)
    (tuple_addW0 a b #[] its2.toArray n n2 dd dd2 sl sl2 (by rfl)) ⟨ho, ho2, ⟨.ref b, H, I, rfl, q⟩⟩
/-- sum of a tuple of numbers -/
def rSumT (K : PySem.W.Frag) : List V → Hp → VK → Prop := fun vs H Q => ∃ (a : Addr) (ns : List Int), vs = [V.ref a] ∧ SqT K H a (ns.map V.int) ∧ Q (.int ns.sum) H
theorem cr_sumT {X : Cx} (hc : X.calm = true) : CallR X (.builtin "sum") (rSumT X.K) := by
  intro pins s σ H vs us Q I r h
  obtain ⟨a, ns, rfl, hs, q⟩ := h
  obtain ⟨its, rv, pl, _⟩ := I.tuple hs
  rw [Vals.ref1 r]
  have hi := rv.ints
  obtain ⟨xs, e⟩ := hi.allInts.items
  have hn : numsOf (intItems xs).toList = ns := by
    rw [← e]
    exact hi.numsOf
  rw [nums_intItems] at hn
  rw [e] at pl
  refine PySem.W.ktm_sumG (I.ok.hd hc) pl fun h' tk t' hk => ?_
  rw [preSum_eq, List.take_of_length_le (by simp), hn]
  exact ⟨.int _, H, I.kept hk, ⟨_, rfl⟩, q⟩
/-- sum of a list or a tuple -/
def rSumU (K : PySem.W.Frag) : List V → Hp → VK → Prop := fun vs H Q => rSum K vs H Q ∨ rSumT K vs H Q
theorem cr_sumU {X : Cx} (hc : X.calm = true) : CallR X (.builtin "sum") (rSumU X.K) := by
  intro pins s σ H vs us Q I r h
  rcases h with h | h
  · exact cr_sum hc pins s σ H vs us Q I r h
  · exact cr_sumT hc pins s σ H vs us Q I r h
/-! dicts whose keys are pairs of texts, asked for a text and a text or None -/
def emb : Key → Leaf
  | .inl i => .num i
  | .inr x => .text x
theorem emb_inj {a b : Key} (h : emb a = emb b) : a = b := by
  cases a <;> cases b <;> simp_all [emb]
theorem map_inj {α β : Type} {f : α → β} (h : ∀ a b, f a = f b → a = b) : ∀ {l m : List α}, l.map f = m.map f → l = m
  | [], [], _ => rfl
  | [], _ :: _, e => by simp at e
  | _ :: _, [], e => by simp at e
  | x :: l, y :: m, e => by
    simp only [List.map_cons, List.cons.injEq] at e
    rw [h x y e.1, map_inj h e.2]
theorem nd_map {α β : Type} {f : α → β} (h : ∀ a b, f a = f b → a = b) : ∀ {l : List α}, l.Nodup → (l.map f).Nodup
  | [], _ => List.nodup_nil
  | x :: l, n => by
    obtain ⟨n1, n2⟩ := List.nodup_cons.mp n
    rw [List.map_cons]
    refine List.nodup_cons.mpr ⟨fun m => ?_, nd_map h n2⟩
    obtain ⟨y, my, e⟩ := List.mem_map.mp m
    rw [h y x e] at my
    exact n1 my
section
variable {P : Program} {w : World}
theorem emb_is {k : Key} {v : Value} (h : keyIs k v = true) : (leafKind P w).is (emb k) v = true := by
  rcases keyIs_shape h with ⟨i, t, rfl, rfl⟩ | ⟨x, t, rfl, rfl⟩
  · exact leaf_int i t
  · exact leaf_str x t
theorem emb_are : ∀ {ks : List Key} {vs : List Value}, ItemsAre (mixKind P w) ks vs → ItemsAre (leafKind P w) (ks.map emb) vs
  | _, _, .nil => .nil
  | _, _, .cons a b => .cons (emb_is a) (emb_are b)
theorem dict_leaf {h : Heap} {d : Addr} {xs : List (List Key × Addr × Value)} (m : h.DictOfH (tupleKind (mixKind P w)) d xs) : h.DictOfH (tupleKind (leafKind P w)) d (xs.map fun x => (x.1.map emb, x.2)) := by
  obtain ⟨o, es, ep, ho, hc, hd, he, hi, hn⟩ := m
  refine ⟨o, es, ep, ho, hc, hd, ?_, ?_, ?_⟩
  · rw [he, List.map_map]
    refine List.map_congr_left fun x _ => ?_
    show entryOfKey _ _ = entryOfKey _ _
    unfold entryOfKey
    have e : (tupleKind (mixKind P w)).hash x.1 = (tupleKind (leafKind P w)).hash (x.1.map emb) := by
      show tupleKeyHash _ _ = tupleKeyHash _ _
      unfold tupleKeyHash
      rw [List.map_map]
      congr 2
      refine List.map_congr_left fun k _ => ?_
      cases k <;> rfl
    rw [e]
  · intro y hy
    obtain ⟨x, hx, rfl⟩ := List.mem_map.mp hy
    obtain ⟨o2, its, n, a, b, c, ar⟩ := hi x hx
    exact ⟨o2, its, n, a, b, c, emb_are ar⟩
  · rw [List.map_map]
    have e : (xs.map ((·.1) ∘ fun x : List Key × Addr × Value => (x.1.map emb, x.2))) = (xs.map (·.1)).map (List.map emb) := by
      rw [List.map_map]
      rfl
    rw [e]
    exact nd_map (fun a b q => map_inj (fun _ _ => emb_inj) q) hn
end
abbrev Goes := List ((Str × Str) × Str)
def kv (m : Goes) : List (List Key × V) := m.map fun e => ([.inr e.1.1, .inr e.1.2], .str e.2)
def look (m : Goes) (x s : Str) : Option Str := (m.find? fun e => decide (e.1 = (x, s))).map (·.2)
def lookO (m : Goes) (x : Str) : Option Str → Option Str
  | none => none
  | some s => look m x s
def sv2 : Option Str → V
  | none => .non
  | some s => .str s
theorem val_kv (m : Goes) (x s : Str) : valV (kv m) [.inr x, .inr s] = (look m x s).map V.str := by
  unfold look
  induction m with
  | nil => rfl
  | cons e m ih =>
    have h2 : valV (kv (e :: m)) [.inr x, .inr s] = if ([Sum.inr e.1.1, Sum.inr e.1.2] : List Key) = [.inr x, .inr s] then some (.str e.2) else valV (kv m) [.inr x, .inr s] := by
      show valV (([Sum.inr e.1.1, Sum.inr e.1.2], V.str e.2) :: kv m) _ = _
      by_cases c : ([Sum.inr e.1.1, Sum.inr e.1.2] : List Key) = [.inr x, .inr s]
      · rw [if_pos c]
        simp [valV, c]
      · rw [if_neg c]
        simp [valV, c]
    rw [h2, List.find?_cons]
    obtain ⟨⟨a, b⟩, y⟩ := e
    by_cases c : (a, b) = (x, s)
    · have d : ([Sum.inr a, Sum.inr b] : List Key) = [.inr x, .inr s] := by
        cases c
        rfl
      rw [if_pos d, decide_eq_true c]
      rfl
    · have d : ¬ ([Sum.inr a, Sum.inr b] : List Key) = [.inr x, .inr s] := fun q => c (by
        simp only [List.cons.injEq, Sum.inr.injEq, and_true] at q
        rw [q.1, q.2])
      rw [if_neg d, decide_eq_false c]
      exact ih
/-- (x, s) in d, s a text or None -/
def rPIn : R2 := fun x y H Q => ∃ (b a : Addr) (m : Goes) (z : Str) (o : Option Str), x = .ref b ∧ y = .ref a ∧ H a = some (.dT (kv m)) ∧ H b = some (.tup [.str z, sv2 o]) ∧ Q (.bl (lookO m z o).isSome) H
theorem op_pin {X : Cx} (hu : X.A.units + 1 < cLine) : OpR X (compareOp .In) rPIn := by
  intro pins s σ H x y v u Q I rx ry h
  obtain ⟨b, a, m, z, o, rfl, rfl, ha, hb, q⟩ := h
  cases rx
  cases ry
  cases o with
  | some t =>
    have g : DGet H a (.ref b) ((look m z t).map V.str) := by
      rw [← val_kv]
      exact DGet.t ha hb
    refine d_in hu I g rfl fun s' I' => ⟨.bl _, H, I', rfl, ?_⟩
    have e : ((look m z t).map V.str).isSome = (lookO m z (some t)).isSome := by
      show _ = (look m z t).isSome
      cases look m z t <;> rfl
    rw [e]
    exact q
  | none =>
    obtain ⟨_, hd, xs, rel, dd⟩ := dt_rd I.hok (.inl ha)
    obtain ⟨_, its, r, ob, h1, h2, n, h3⟩ := (show ObjOk X.prog X.w H s.heap b (.tup [.str z, .non]) from I.hok b _ hb)
    have key : (tupleKind (leafKind X.prog X.w)).is s.heap [.text z, .none] b := by
      refine ⟨ob, its.toArray, n, h1, h2, h3, ?_⟩
      cases r with
      | cons r1 r =>
        cases r with
        | cons r2 r =>
          cases r
          obtain ⟨t, rfl⟩ := r1
          cases r2
          exact .cons (leaf_str z t) (.cons leaf_none .nil)
    refine wpAny_in_heap (tupleKind_room_in1 hu) key hd (dict_leaf dd) ?_
    have e : atKey (xs.map fun x => (x.1.map emb, x.2)) [Leaf.text z, .none] = none := by
      refine Option.eq_none_iff_forall_ne_some.mpr fun p hp => ?_
      unfold atKey at hp
      obtain ⟨x, hx, rfl⟩ := Option.map_eq_some_iff.mp hp
      have m1 := List.mem_of_find?_eq_some hx
      have m0 := List.find?_some hx
      have m2 := of_decide_eq_true m0
      obtain ⟨y, _, rfl⟩ := List.mem_map.mp m1
      have m3 : y.1.map emb = [Leaf.text z, .none] := m2
      match hy : y.1, m3 with
      | [], m3 => simp at m3
      | [k], m3 => simp at m3
      | [k1, k2], m3 =>
        simp only [List.map_cons, List.map_nil, List.cons.injEq, and_true] at m3
        cases k2 <;> exact absurd m3.2 (by simp [emb])
      | _ :: _ :: _ :: _, m3 => simp at m3
    rw [e]
    exact ⟨.bl false, H, I.tok _, rfl, q⟩
/-- d[t] = v by a comprehension, t a pair of texts -/
theorem set_pair {X : Cx} {pins : List (Addr × Obj)} {σ : L2.St} {H : Hp} {s : Shared} {E : Value → Shared → Prop} {D b : Addr} {kvs : List (List Key × V)} {k : List Key} {v : V} {r : Value} {Q : Unit → Shared → Prop} (hu : X.A.units + 1 < cLine) (I : Inv X pins σ H s) (hD : H D = some (.dT kvs)) (hb : H b = some (.tup (k.map kV))) (room : kvs.length < sizeLine)
    (rv : RelV v r) (h : ∀ s', Inv X pins σ (upd H D (.dT (putK kvs k v))) s' → Q () s') : wpAny (model X.prog X.w) X.A (dictSet D (.ref b) r) Q E s := by
  obtain ⟨z, hd, xs, rel, dd⟩ := dt_of I.hok hD
  have hz : xs.length ≤ sizeLine := by
    rw [← Paired.length rel]
    exact z
  have hl : (putK kvs k v).length ≤ sizeLine := by
    have := length_putK kvs k v
    omega
  refine wpAny_dictSet_heap (hsz := hz) (show X.A.units < cLine by omega) (key_of I.hok hb) dd fun h' dd' hs => h _ ?_
  obtain ⟨o, es, ep, ho, c1, c2, c3, _, c4⟩ := dd'
  have keep : ∀ c ys, H c = some (.tup ys) → upd H D (.dT (putK kvs k v)) c = some (.tup ys) := fun c ys ec => by
    rw [upd_ne (ne_of ec hD fun z => nomatch z)]
    exact ec
  exact d_write I (by rw [hD]; trivial) hs ⟨o, ho⟩ ⟨hl, hd, _, (rel.put k hb rv).keeps keep, o, es, ep, ho, c1, c2, c3, c4⟩
/-- {kx: vx for target in iter if ..}, kx a tuple of texts: D is the new dict -/
def tDcT (wi : TI) (g : TG) (tt : TT) (tk tv : TE) (vs : List Nat) : TE := fun σ H Q => wi σ H fun J G => ∀ D, G D = none → ∃ W : Nat → Nat → Hp → Prop, (∃ m, W 0 m (upd G D (.dT []))) ∧ ∀ i m H, W i m H →
  (J.stop i H ∧ Q (.ref D) H) ∨ (J.go i H ∧ ∃ N : Hp → Prop, (∀ H', N H' → ∃ m', m' < m ∧ W (i + 1) m' H') ∧ ∀ x H', J.yld i H x H' → g x (wipe σ vs) H' fun τ H2 => wipe τ vs = wipe σ vs ∧ tt τ H2 fun b H3 =>
    if b = true then tk τ H3 fun y H4 => tv τ H4 fun z H5 => ∃ (kb : Addr) (kvs : List (List Key × V)) (k : List Key), y = .ref kb ∧ H5 kb = some (.tup (k.map kV)) ∧ H5 D = some (.dT kvs) ∧ kvs.length < sizeLine ∧ N (upd H5 D (.dT (putK kvs k z))) else N H3)
section
variable {X : Cx}
theorem pe_dcT {kx vx tg iter : Expr} {ifs : List Expr} {scope : Scope} {own : List (PySem.Str × Nat)} {pos : Pos} {wi : TI} {g : TG} {tt : TT} {tk tv : TE} (hu : X.A.units + 1 < cLine) (hc : X.calm = true) (hN : X.N.Nodup) (hi : PI X tg iter wi) (ok : BlkOk X.N X.env.scope scope own)
    (hg : ∀ (s : Shared) (H : Hp) (C : Addr) (cl : List (PySem.Str × Addr)) (fp : List Addr), PG (X.blk s H scope (compEnvC scope cl C X.env) fp) tg g) (ht : ∀ (s : Shared) (H : Hp) (C : Addr) (cl : List (PySem.Str × Addr)) (fp : List Addr), PTs (X.blk s H scope (compEnvC scope cl C X.env) fp) ifs tt)
    (he : ∀ (s : Shared) (H : Hp) (C : Addr) (cl : List (PySem.Str × Addr)) (fp : List Addr), PE (X.blk s H scope (compEnvC scope cl C X.env) fp) kx tk) (he2 : ∀ (s : Shared) (H : Hp) (C : Addr) (cl : List (PySem.Str × Addr)) (fp : List Addr), PE (X.blk s H scope (compEnvC scope cl C X.env) fp) vx tv) (hs : ∀ x, foldedSetIterable iter X.env x = pure x := by intro _; rfl) :
    PE X (.DictComp kx vx [⟨tg, iter, ifs, 0⟩] scope pos) (tDcT wi g tt tk tv (own.map (·.2))) := by
  constructor
  intro pins s σ H Q I want
  rw [arm_eval_DictComp]
  have has : ∀ y ∈ scope.names, y.2 = .free → ∃ c, X.env.cells.lookup y.1 = some c := fun y m e => (ok.free y m e).elim (fun k => I.ok.has _ (.inl k)) fun k => I.ok.has _ (.inr k)
  refine wpAny_comprehension_free (use := none) rfl hs (closure_ok has) ok.kind (fun y m e => by rw [ok.uniq y m, e]) (thn (hi.run pins s σ H _ I want) fun _ t1 made => thn made fun _ t2 out => ?_)
  obtain ⟨it, fp, tn, J, G, rfl, K2, T, at2, far2, q⟩ := out
  refine wpAny_newObj_type (newEnv_comp ?_)
  generalize eD : t2.heap.objs.size = D
  obtain ⟨W, ⟨m0, w0⟩, turn⟩ := q D (K2.hok.fresh (Nat.le_of_eq eD))
  generalize e3 : ({ t2 with heap := t2.heap.push { cls := .type "dict", data := .dict #[] } } : Shared) = t3
  have hp3 : t3.heap = t2.heap.push { cls := .type "dict", data := .dict #[] } := by rw [← e3]
  have K3 : Inv X pins σ (upd G D (.dT [])) t3 := by
    rw [← e3]
    refine K2.laid (t' := t2.toks) (fun _ _ z => Heap.get?_push_of_some _ z) (Nat.le_of_eq eD) ?_
    rw [← eD]
    exact dt_empty t2.heap K2.big
  have below : ∀ b ∈ fp, b < t2.heap.objs.size := fun b m => by
    obtain ⟨_, z, _⟩ := T.obj _ _ at2 b m
    exact Heap.lt_size z
  have far3 : ∀ b ∈ fp, FpOk X pins (upd G D (.dT [])) b ∧ b < t3.heap.objs.size := fun b m => by
    have lt := below b m
    refine ⟨⟨?_, (far2 b m).2⟩, by rw [hp3, Heap.size_push]; exact Nat.lt_succ_of_lt lt⟩
    rw [upd_ne (by rw [← eD]; exact Nat.ne_of_lt lt)]
    exact (far2 b m).1
  have at3 : tn 0 t3.heap := T.keep _ _ _ at2 fun _ _ _ z => by rw [hp3]; exact Heap.get?_push_of_some _ z
  have K4 := block_start K3 ok hN far3
  have none3 : ∀ b ∈ fp, (upd G D (.dT [])) b = none := fun b m => (far3 b m).1.1
  have rg := hg t3 (upd G D (.dT [])) t3.heap.objs.size (cellsFrom (t3.heap.objs.size + 1) scope.names (cloFrom X.env.cells scope.names [])) fp
  have rt := ht t3 (upd G D (.dT [])) t3.heap.objs.size (cellsFrom (t3.heap.objs.size + 1) scope.names (cloFrom X.env.cells scope.names [])) fp
  have re2 := he2 t3 (upd G D (.dT [])) t3.heap.objs.size (cellsFrom (t3.heap.objs.size + 1) scope.names (cloFrom X.env.cells scope.names [])) fp
  have re := he t3 (upd G D (.dT [])) t3.heap.objs.size (cellsFrom (t3.heap.objs.size + 1) scope.names (cloFrom X.env.cells scope.names [])) fp
  refine (show codeAny _ _ (.compStart (.DictComp kx vx [⟨tg, iter, ifs, 0⟩] scope pos) 0 (.ref it) (.ref D) (compEnvC scope (cellsFrom (t3.heap.objs.size + 1) scope.names (cloFrom X.env.cells scope.names [])) t3.heap.objs.size X.env)) (compPost (model X.prog X.w) X.A X.xe none (EP X pins σ Q) (.ref D) t3.heap.objs.size) { t3 with heap := pushCells (t3.heap.push { cls := .type "dict", data := .dict #[] }) scope.names } from ?_)
  generalize eE : compEnvC scope (cellsFrom (t3.heap.objs.size + 1) scope.names (cloFrom X.env.cells scope.names [])) t3.heap.objs.size X.env = env2 at K4 rg rt re re2 ⊢
  have locE : env2.locals = t3.heap.objs.size := by
    subst eE
    rfl
  generalize eG : upd G D (.dT []) = G3 at K3 K4 rg rt re re2 w0 none3 far3
  generalize e4 : ({ t3 with heap := pushCells (t3.heap.push { cls := .type "dict", data := .dict #[] }) scope.names } : Shared) = t4 at K4 ⊢
  have at4 : tn 0 t4.heap := T.keep _ _ _ at3 fun _ _ _ z => by rw [← e4]; exact pushCells_keeps _ _ _ _ (Heap.get?_push_of_some _ z)
  have away : ∀ {τ : L2.St} {H' : Hp} {z : Shared}, Inv (X.blk t3 G3 scope env2 fp) [] τ H' z → (∀ b ∈ fp, H' b = none) → ∀ b ∈ fp, FpOk (X.blk t3 G3 scope env2 fp) [] H' b := fun {τ H' z} K nn b m =>
    ⟨nn b m, (K.ok.exf b m).1, K.ok.exfs b m, .inl m, fun x c e => (K.ok.exf b m).2 x c e, fun p hp => absurd (show p ∈ ([] : List (Addr × Obj)) ++ [] from hp) (by simp)⟩
  have round : codeAny (model X.prog X.w) X.A (.compLoop (.DictComp kx vx [⟨tg, iter, ifs, 0⟩] scope pos) 0 (.ref it) (.ref D) env2) (compPost (model X.prog X.w) X.A X.xe none (EP X pins σ Q) (.ref D) t3.heap.objs.size) t4 := by
    refine compLoop_anyD (fun c z => ∃ i H', Inv (X.blk t3 G3 scope env2 fp) [] (wipe σ (own.map (·.2))) H' z ∧ tn i z.heap ∧ (∀ b ∈ fp, H' b = none) ∧ W i c H') ?_ m0 ⟨0, G3, K4, at4, none3, w0⟩
    rintro c t5 ⟨i, G5, K5, at5, none5, w5⟩
    rcases turn i c G5 w5 with ⟨stop, fin⟩ | ⟨go, N, less, step⟩
    · refine thnF (T.done (X.blk t3 G3 scope env2 fp) rfl rfl rfl hc i [] t5 _ G5 (fun _ _ => False) K5 (away K5 none5) at5 stop) fun r t6 ⟨er, K6⟩ => ?_
      subst er
      have K7 : Inv X pins σ G5 t6 := K3.call' (ch := fp) K6.os K6.base K6.hok K6.bare fun b m => ⟨(far3 b m).1.2.2.2.1, (far3 b m).1.2.1, (far3 b m).1.2.2.2.2.1, (far3 b m).1.2.2.2.2.2⟩
      have gone : G5 t3.heap.objs.size = none := by
        have z : G5 env2.locals = none := K6.free
        rwa [locE] at z
      obtain ⟨mm, ns, _⟩ := K6.loc
      have ns' : t6.heap.Ns env2.locals mm := ns
      rw [locE] at ns'
      obtain ⟨f0, f1, f2, f3, f4, f5⟩ := K3.fpOk (Nat.le_refl _) gone
      exact ⟨mm, ns', fun h'' sb => ⟨.ref D, G5, K7.turned (t' := t6.toks) (fun b o hb z => (sb.2 b hb).trans z) f0 f1 f3 f4 f5, rfl, fin⟩⟩
    · refine thnF (T.item (X.blk t3 G3 scope env2 fp) rfl rfl rfl hc i [] t5 _ G5 (fun _ _ => False) K5 (away K5 none5) at5 go) fun r t6 ⟨u, er, k6⟩ => ?_
      subst er
      refine thnF k6 fun _ t7 ⟨x, G7, K7, r7, y7, at7, none7⟩ => ?_
      refine thnF (rg.run _ t7 _ G7 x u _ (K7.pinned (away K7 none7) (T.obj _ _ at7)) r7 (step x G7 y7)) fun _ t8 ⟨τ, G8, K8, same, q8⟩ => ?_
      refine thnF (rt.run _ t8 τ G8 _ K8 q8) fun b t9 ⟨G9, K9, q9⟩ => ?_
      have on : ∀ {z : Shared} {H' : Hp}, Inv (X.blk t3 G3 scope env2 fp) ([] ++ pinsAt fp t7.heap) τ H' z → N H' → ∃ c', c' < c ∧ ∃ i H', Inv (X.blk t3 G3 scope env2 fp) [] (wipe σ (own.map (·.2))) H' z ∧ tn i z.heap ∧ (∀ b ∈ fp, H' b = none) ∧ W i c' H' := fun {z H'} K n => by
        obtain ⟨c', lt, w'⟩ := less H' n
        have pinned : ∀ b ∈ fp, ∀ o, t7.heap.get? b = some o → z.heap.get? b = some o ∧ H' b = none := fun b m o e =>
          have y := K.pin (b, o) (List.mem_append_right _ (List.mem_append_right _ (mem_pinsAt m e)))
          ⟨y.1, y.2.1⟩
        refine ⟨c', lt, i + 1, H', (K.unpinned (pins := [])).weak (by rw [← same, wipe_length]) (fun j v e => ?_), T.keep _ _ _ at7 fun b m o e => (pinned b m o e).1, fun b m => ?_, w'⟩
        · rw [← same] at e
          exact (wipe_some e).1
        · obtain ⟨o, e, _⟩ := T.obj _ _ at7 b m
          exact (pinned b m o e).2
      cases b with
      | true =>
        simp only [if_true] at q9 ⊢
        refine thnF (re.run _ t9 τ G9 _ K9 q9) fun v t10 ⟨yk, G10, K10, r10, q10⟩ => ?_
        refine thnF (re2.run _ t10 τ G10 _ K10 q10) fun v2 t11 ⟨yv, G11, K11, r11, kb, kvs, kk, ey, hkb, hD, room, n⟩ => ?_
        subst ey
        cases r10
        exact set_pair (X := X.blk t3 G3 scope env2 fp) hu K11 hD hkb room r11 fun t12 K12 => on K12 n
      | false =>
        simp only [Bool.false_eq_true, if_false] at q9 ⊢
        exact on K9 q9
  exact codeAny_compStart_dict round (T.self X.A 0 _ _ _ at4 round)
end
/-- dict(a list of ((text, text), text)): a new dict -/
def rDictP (K : PySem.W.Frag) : List V → Hp → VK → Prop := fun vs H Q => ∃ (l : Addr) (ps : List (Addr × Addr)) (m : Goes), vs = [V.ref l] ∧ SqL K H l (ps.map fun p => V.ref p.1) ∧
  Paired (fun p e => H p.1 = some (.tup [.ref p.2, .str e.2]) ∧ H p.2 = some (.tup [.str e.1.1, .str e.1.2])) ps m ∧ (m.map (·.1)).Nodup ∧ m.length ≤ 1000 ∧ ∀ p, H p = none → Q (.ref p) (upd H p (.dT (kv m)))
theorem stored_app {K : Type} [DecidableEq K] : ∀ (ps acc : List (K × Addr × Value)), ((acc ++ ps).map (·.1)).Nodup → storedAllH acc ps = acc ++ ps
  | [], acc, _ => by simp [storedAllH]
  | p :: ps, acc, n => by
    have e : storedH acc p.1 p.2.1 p.2.2 = acc ++ [p] := by
      have nn : ∀ x ∈ acc, x.1 ≠ p.1 := fun x m q => by
        rw [List.map_append, List.map_cons] at n
        have := (List.nodup_append.mp n).2.2 x.1 (List.mem_map_of_mem m) p.1 (List.mem_cons_self ..)
        exact this q
      refine storedH_new (Option.eq_none_iff_forall_ne_some.mpr fun z hz => ?_) _ _
      unfold atKey at hz
      obtain ⟨x, hx, _⟩ := Option.map_eq_some_iff.mp hz
      have m0 := List.find?_some hx
      exact nn x (List.mem_of_find?_eq_some hx) (of_decide_eq_true m0)
    have h2 : storedAllH acc (p :: ps) = storedAllH (acc ++ [p]) ps := by
      show storedAllH (storedH acc p.1 p.2.1 p.2.2) ps = _
      rw [e]
    rw [h2, stored_app ps (acc ++ [p]) (by rw [List.append_assoc]; exact n), List.append_assoc]
    rfl
/-- the raw entries of such a list -/
structure Ent (H : Hp) (h : Heap) (p : Addr × Addr) (e : (Str × Str) × Str) (x : List Key × Addr × Value) : Prop where
  k : x.1 = [.inr e.1.1, .inr e.1.2]
  a : x.2.1 = p.2
  v : RelV (.str e.2) x.2.2
  t : h.IsTuple p.1 #[.ref p.2, x.2.2]
  b : H p.2 = some (.tup [.str e.1.1, .str e.1.2])
theorem ents {X : Cx} {pins : List (Addr × Obj)} {σ : L2.St} {H : Hp} {s : Shared} (I : Inv X pins σ H s) : ∀ {ps : List (Addr × Addr)} {m : Goes}, Paired (fun p e => H p.1 = some (.tup [.ref p.2, .str e.2]) ∧ H p.2 = some (.tup [.str e.1.1, .str e.1.2])) ps m →
    ∃ xs : List (List Key × Addr × Value), xs.length = ps.length ∧ m.length = ps.length ∧ (xs.map (·.1)) = (kv m).map (·.1) ∧ KT H (kv m) xs ∧ ∀ (j : Nat) (p : Addr × Addr), ps[j]? = some p → ∃ x e, xs[j]? = some x ∧ Ent H s.heap p e x
  | _, _, .nil => ⟨[], rfl, rfl, rfl, .nil, fun j p h => by simp at h⟩
  | _, _, .cons (a := p) (b := e) h t => by
    obtain ⟨xs, l1, l2, ke, kt, at'⟩ := ents I t
    obtain ⟨its, r, pl, _⟩ := I.tuple (SqT.of h.1)
    cases r with
    | cons r1 r =>
      cases r with
      | cons r2 r =>
        cases r
        rename_i u1 u2
        cases r1
        refine ⟨([.inr e.1.1, .inr e.1.2], p.2, u2) :: xs, by simp [l1], by simp [l2], by simp [ke, kv], .cons ⟨rfl, h.2, r2⟩ kt, fun j q hq => ?_⟩
        cases j with
        | zero =>
          simp only [List.getElem?_cons_zero, Option.some.injEq] at hq
          subst hq
          exact ⟨_, e, rfl, rfl, rfl, r2, pl, h.2⟩
        | succ j =>
          simp only [List.getElem?_cons_succ] at hq
          exact at' j q hq
theorem cr_dictP {X : Cx} (hu : X.A.units + 64 < cLine) (hc : X.calm = true) : CallR X (.type "dict") (rDictP X.K) := by
  intro pins s σ H vs us Q I r h
  obtain ⟨l, ps, m, rfl, hq, pm, nd, lm, q⟩ := h
  rw [Vals.ref1 r]
  obtain ⟨its, rv, pl, hz⟩ := I.list hq
  obtain ⟨xs, l1, l2, ke, kt, at'⟩ := ents I pm
  have ei : its = (ps.map (·.1)).map Value.ref := refs_at (by rw [List.map_map]; exact rv)
  subst ei
  have big := I.big
  have hnd : (xs.map (·.1)).Nodup := by
    rw [ke]
    unfold kv
    rw [List.map_map]
    have e : (m.map ((fun x : List Key × V => x.1) ∘ fun e : (Str × Str) × Str => (([Sum.inr e.1.1, Sum.inr e.1.2] : List Key), V.str e.2))) = (m.map (·.1)).map fun p : Str × Str => ([Sum.inr p.1, Sum.inr p.2] : List Key) := by
      rw [List.map_map]
      rfl
    rw [e]
    refine nd_map (fun a b z => ?_) nd
    simp only [List.cons.injEq, Sum.inr.injEq, and_true] at z
    exact Prod.ext z.1 z.2
  have tups : ∀ {l1 : List (List Key × V)} {l2 : List (List Key × Addr × Value)}, KT H l1 l2 → ∀ x ∈ l2, H x.2.1 = some (.tup (x.1.map kV)) := by
    intro l1 l2 r
    induction r with
    | nil => intro x m; exact nomatch m
    | @cons a b as bs h t ih =>
      intro x m
      rcases List.mem_cons.mp m with e | m
      · subst e
        rw [← h.1]
        exact h.2.1
      · exact ih x m
  have l3 : (xs.map fun x => (Value.ref x.2.1, x.2.2)).length = ps.length := by rw [List.length_map, l1]
  refine call_dict_pairsH (knd := tupleKind (mixKind X.prog X.w)) (ps := xs) (PairArg.list l _ (fun j => (ps.getD j (0, 0)).1) (xs.map fun x => (Value.ref x.2.1, x.2.2))) (I.ok.hd hc) (show X.A.units + 1 + 1 < cLine by omega)
    ⟨pl, by simp [l1], fun j k v hj => ?_⟩ ⟨by rw [List.length_map], fun i key v hj => ?_⟩ (fun h' hk x hx => ?_) (by rw [l3, ← l2]; have := sizeLine_eq; omega) fun h' tk dd keep => ?_
  · rw [List.getElem?_map] at hj
    obtain ⟨x, hx, ex⟩ := Option.map_eq_some_iff.mp hj
    have jl : j < ps.length := by
      rw [← l1]
      exact (List.getElem?_eq_some_iff.mp hx).1
    obtain ⟨x', e, hx', en⟩ := at' j _ (List.getElem?_eq_getElem jl)
    rw [hx] at hx'
    cases hx'
    simp only [Prod.mk.injEq] at ex
    obtain ⟨rfl, rfl⟩ := ex
    have gd : ps.getD j (0, 0) = ps[j] := by rw [List.getD_eq_getElem?_getD, List.getElem?_eq_getElem jl]; rfl
    refine ⟨?_, .inl ?_⟩
    · dsimp only
      rw [gd]
      simp [jl]
    · dsimp only
      rw [gd, en.a]
      exact en.t
  · have hj' : (xs.map fun x => (Value.ref x.2.1, x.2.2))[i]? = some (key, v) := hj
    rw [List.getElem?_map] at hj'
    obtain ⟨x, hx, ex⟩ := Option.map_eq_some_iff.mp hj'
    simp only [Prod.mk.injEq] at ex
    obtain ⟨rfl, rfl⟩ := ex
    exact ⟨x.1, x.2.1, hx, rfl⟩
  · obtain ⟨o, its, n, ho, c1, c2, c3⟩ := key_of (P := X.prog) (w := X.w) I.hok (tups kt x hx)
    exact ⟨o, its, n, hk _ _ (Nat.ne_of_lt (Heap.lt_size ho)) (by simp) ho, c1, c2, c3⟩
  · rw [stored_app xs [] (by simpa using hnd), List.nil_append] at dd
    obtain ⟨o, es, ep, ho, c1, c2, c3, _, c4⟩ := dd
    have fresh : H s.heap.objs.size = none := I.hok.fresh (Nat.le_refl _)
    refine ⟨.ref _, upd H s.heap.objs.size (.dT (kv m)), I.laid (t' := tk) (fun b u hb => keep b u (by simp) hb) (Nat.le_refl _) ⟨?_, beq_eq_false_iff_ne.mpr (Nat.ne_of_gt big), xs, kt.keeps fun c ys ec => ?_, o, es, ep, ho, c1, c2, c3, c4⟩, rfl, q _ fresh⟩
    · unfold kv
      rw [List.length_map]
      have := sizeLine_eq
      omega
    · rw [upd_ne (ne_of_none ec fresh)]
      exact ec
end Inf

/-! ### Steps: its facts, and its small methods -/
namespace Stp
open PySem PySem.Spec PyProof.Rows L2 Evl Gen Ent Rep Dat Nm Er Chk Gu Deed Pts Hear Lst Bk Cau EvD BadE EntR Lis Prd NmR Bmk EqB God Oth LwP Inf
def posN (ss : List Str) (s : Str) : Option Nat := ss.findIdx? fun x => decide (x = s)
def ixs (ss : List Str) : List (Key × V) := ss.zipIdx.map fun p => (.inr p.1, .int (p.2 : Int))
theorem val_zip : ∀ (ss : List Str) (k : Nat) (s : Str), valV (ss.zipIdx k |>.map fun p => ((.inr p.1 : Key), V.int (p.2 : Int))) (.inr s) = (posN ss s).map fun i => V.int ((i + k : Nat) : Int)
  | [], _, _ => rfl
  | x :: ss, k, s => by
    have ih := val_zip ss (k + 1) s
    unfold posN at ih ⊢
    rw [List.findIdx?_cons]
    by_cases c : x = s
    · subst c
      simp [valV]
    · have c' : ¬ (Sum.inr x : Key) = .inr s := fun z => c (Sum.inr.inj z)
      have h : valV ((x :: ss).zipIdx k |>.map fun p => ((.inr p.1 : Key), V.int (p.2 : Int))) (.inr s) = valV (ss.zipIdx (k + 1) |>.map fun p => ((.inr p.1 : Key), V.int (p.2 : Int))) (.inr s) := by
        simp [valV, List.zipIdx_cons, c]
      rw [h, ih, decide_eq_false c]
      simp only [Bool.false_eq_true, if_false, Option.map_map]
      congr 1
      funext i
      show V.int _ = V.int _
      congr 1
      simp only [Function.comp]
      omega
theorem val_ixs (ss : List Str) (s : Str) : valV (ixs ss) (.inr s) = (posN ss s).map fun (i : Nat) => V.int (i : Int) := val_zip ss 0 s
theorem pos_lt {ss : List Str} {s : Str} {i : Nat} (h : posN ss s = some i) : i < ss.length ∧ ss[i]? = some s := by
  unfold posN at h
  obtain ⟨h1, h2, _⟩ := List.findIdx?_eq_some_iff_getElem.mp h
  exact ⟨h1, by rw [List.getElem?_eq_getElem h1, of_decide_eq_true h2]⟩
def goesOf (rs : List En) : Goes := rs.filterMap fun e => e.2.1.map fun s => ((e.1, s), e.2.2)
structure StepsAt (K : PySem.W.Frag) (H : Hp) (C st : Addr) (D : PartsD) : Prop where
  ex : ∃ dx b1 b2 b3 b4 b5, H st = some (.ins C dx [("_stands", .ref b1), ("_deeds", .ref b2), ("_lost", .ref b3), ("_index", .ref b4), ("_goes_to", .ref b5)]) ∧ H b1 = some (.lst (D.ss.map V.str)) ∧
    (∃ xs, H b2 = some (.lst xs) ∧ SwAll K H xs (D.ds.map enD)) ∧ H b3 = some (.lst (D.ls.map V.str)) ∧ H b4 = some (.dK (ixs D.ss)) ∧ H b5 = some (.dT (kv (goesOf D.rs)))
theorem StepsAt.ex' {K : PySem.W.Frag} {H H' : Hp} {C st : Addr} {D : PartsD} (e : Ex H H') (h : StepsAt K H C st D) : StepsAt K H' C st D := by
  obtain ⟨dx, b1, b2, b3, b4, b5, h0, h1, ⟨xs, h2, w⟩, h3, h4, h5⟩ := h.ex
  exact ⟨dx, b1, b2, b3, b4, b5, e _ _ h0, e _ _ h1, ⟨xs, e _ _ h2, SwAll.ex e _ _ w⟩, e _ _ h3, e _ _ h4, e _ _ h5⟩
/-- a lot: the house, and the counts in a list -/
def LotAt (K : PySem.W.Frag) (H : Hp) (l : Addr) (h : Str) (c : List Int) : Prop := ∃ cl, SqT K H l [.str h, .ref cl] ∧ SqL K H cl (VInt c)
theorem LotAt.ex {K : PySem.W.Frag} {H H' : Hp} {l : Addr} {h : Str} {c : List Int} (e : Ex H H') (x : LotAt K H l h c) : LotAt K H' l h c := by
  obtain ⟨cl, a, b⟩ := x
  exact ⟨cl, ex_t e a, ex_l e b⟩
structure SC (K : PySem.W.Frag) (C : Addr) : Prop where
  cl : Cls K C
  n1 : NoAttr K C "_stands"
  n2 : NoAttr K C "_deeds"
  n3 : NoAttr K C "_lost"
  n4 : NoAttr K C "_index"
  n5 : NoAttr K C "_goes_to"
theorem ev_dnotin {ty td : TE} {σ : L2.St} {H : Hp} {y : V} {a : Addr} {o : Option V} (h1 : Ev ty σ H y) (h2 : Ev td σ H (.ref a)) (g : ∀ H', Ex H H' → DGet H' a y o) : Ev (tDNotIn ty td) σ H (.bl (!o.isSome)) := fun H1 e Q q =>
  h1 H1 e _ fun H2 e2 => h2 H2 (e.trans e2) _ fun H3 e3 => ⟨a, o, rfl, g H3 ((e.trans e2).trans e3), q H3 (e2.trans e3)⟩
theorem ev_dget {ty td : TE} {σ : L2.St} {H : Hp} {y v : V} {a : Addr} (h1 : Ev td σ H (.ref a)) (h2 : Ev ty σ H y) (g : ∀ H', Ex H H' → DGet H' a y (some v)) : Ev (tDGet td ty) σ H v := fun H1 e Q q =>
  h1 H1 e _ fun H2 e2 => h2 H2 (e.trans e2) _ fun H3 e3 => ⟨a, v, rfl, g H3 ((e.trans e2).trans e3), q H3 (e2.trans e3)⟩
theorem get_ix {H H' : Hp} {a : Addr} {ss : List Str} (e : Ex H H') (h : H a = some (.dK (ixs ss))) (s : Str) : DGet H' a (.str s) ((posN ss s).map fun (i : Nat) => V.int (i : Int)) := by
  rw [← val_ixs]
  exact DGet.k (k := .inr s) (e _ _ h)
theorem atI_c {c : List Int} {i : Nat} (h : i < c.length) : atI (VInt c) (i : Int) = some (.int (c.getD i 0)) := by
  refine atI_nat ?_
  rw [List.getElem?_map, List.getElem?_eq_getElem h, List.getD_eq_getElem?_getD, List.getElem?_eq_getElem h]
  rfl
def manyAt (ss : List Str) (c : List Int) (s : Str) : Int := match posN ss s with
  | none => 0
  | some i => c.getD i 0
def spMA (K : PySem.W.Frag) (C : Addr) : Sp := fun vs H Q _ => ∃ (st l : Addr) (D : PartsD) (h : Str) (c : List Int) (s : Str), vs = [.ref st, .ref l, .str s] ∧ StepsAt K H C st D ∧ LotAt K H l h c ∧ c.length = D.ss.length ∧ ∀ H', Ex H H' → Q (.int (manyAt D.ss c s)) H'
abbrev sMA : Stmt := inClass (top 23) 5
theorem scMA : FnScope ["self", "lot", "place"] ["self", "lot", "place"] (defScope sMA) := ⟨rfl, rfl, rfl, by decide +kernel, rfl, by decide +kernel, by decide +kernel⟩
section
variable {P : Program} {w : World} {K : PySem.W.Frag} {mg : Str → Option Value} {base : Heap}
theorem ok_ma {f C : Addr} {fd : FuncData} (F : Fun K "_many_at" "Steps._many_at" sMA f fd) (B : Bt mg) (c : SC K C) : FnOk P w K mg base CX0 1 f fd ["self", "lot", "place"] (spMA K C) := by
  refine F.ok scMA (fun vs H Q E h => ?_) (fun cdv A outer s H vs Q E hr h => ?_)
  · obtain ⟨_, _, _, _, _, _, rfl, _⟩ := h
    rfl
  · obtain ⟨st, l, D, hh, cs, z, rfl, hs, hl, hn, k⟩ := h
    refine ⟨_, (pss_cons (ps_if (PW.pt (pw_or (pt_not (pt_val (pe_callB call_isi (by rfl) B.isi (by decide +kernel) (pa_cons (pv 2) (pa_cons (pe_bltn (v := .ty "str") (by rfl) B.str (by decide +kernel) rfl) pa_nil))))) (pw_or1 (pt_cmp (pc_dnotin (hu_of hr) (pv 2) (pe_fld (pv 0) rfl)))))) (pss_one (ps_ret pe_int)) pss_nil)
      (pss_one (ps_ret (pe_ix ix_list (pe_ix ix_tup (pv 1) pe_int (fun _ _ => rfl)) (pe_dget (hu_of hr) (pe_fld (pv 0) rfl) (pv 2) (fun _ _ => rfl)) (fun _ _ => rfl))))), ?_⟩
    obtain ⟨dx, b1, b2, b3, b4, b5, h0, h1, _, h3, h4, h5⟩ := hs.ex
    obtain ⟨cl, q1, q2⟩ := hl
    have hst : ∀ G, Ex H G → G st = some (.ins C dx [("_stands", .ref b1), ("_deeds", .ref b2), ("_lost", .ref b3), ("_index", .ref b4), ("_goes_to", .ref b5)]) := fun G e => e _ _ h0
    refine q_when (b := !(posN D.ss z).isSome) ?_ (fun hb H1 e1 => ?_) (fun hb H1 e1 => ?_)
    · refine et_is (et_or (a := false) (b := !((posN D.ss z).map fun (i : Nat) => V.int (i : Int)).isSome) (et_not (a := true) (et_test (ev_isi (ev_var rfl) (.str z) (kit_str _ (.str z))))) fun _ => et_B (ev_dnotin (ev_var rfl) (ev_fld rfl h0 c.cl c.n4 rfl) fun H' e => get_ix e h4 z)) ?_
      cases posN D.ss z <;> rfl
    · refine s_ret ev_c fun H2 e2 => ?_
      have : posN D.ss z = none := by
        cases q : posN D.ss z with
        | none => rfl
        | some i => rw [q] at hb; cases hb
      have e : manyAt D.ss cs z = 0 := by
        unfold manyAt
        rw [this]
      rw [← e]
      exact k H2 (e1.trans e2)
    · obtain ⟨i, hi⟩ : ∃ i, posN D.ss z = some i := by
        cases q : posN D.ss z with
        | none => rw [q] at hb; cases hb
        | some i => exact ⟨i, rfl⟩
      have hlt := (pos_lt hi).1
      refine s_ret (ev_op (ev_op (ev_var rfl) ev_c (rv_ixT (ex_t e1 q1) (atI_nat (j := 1) rfl))) (ev_dget (v := .int (i : Int)) (ev_fld rfl (hst H1 e1) c.cl c.n4 rfl) (ev_var rfl) fun H' e => by
        have g := get_ix (e1.trans e) h4 z
        rw [hi] at g
        exact g) (rv_ixL (ex_l e1 q2) (atI_c (by rw [hn]; exact hlt)))) fun H2 e2 => ?_
      have e : manyAt D.ss cs z = cs.getD i 0 := by
        unfold manyAt
        rw [hi]
      rw [← e]
      exact k H2 (e1.trans e2)
end
end Stp

/-! ### Steps: who can do a deed, who can hear it -/
namespace Stq
open PySem PySem.Spec PyProof.Rows L2 Evl Gen Ent Rep Dat Nm Er Chk Gu Deed Pts Hear Lst Bk Cau EvD BadE EntR Lis Prd NmR Bmk EqB God Oth LwP Inf Stp RZ
theorem sq_step {t u : TS} {D : Ends} {σ : L2.St} {H : Hp} (h : t { D with nx := u D } σ H) : tSeq t u D σ H := h
/-- further names that the builtins stand under -/
structure Bu (mg : Str → Option Value) : Prop extends Bt mg where
  int : mg "int" = none
  zip : mg "zip" = none
  dict : mg "dict" = none
  sum : mg "sum" = none
theorem ev_meth {C a : Addr} {m : Str} {sp : Sp} {E : XK} {ta : TE} {t : TA} {vs : List V} {v : V} {σ : L2.St} {H : Hp} (h1 : Ev ta σ H (.ref a)) (h0 : ∃ dx fs, H a = some (.ins C dx fs) ∧ fs.lookup m = none) (h2 : EvA t σ H vs) (hs : SpV sp (.ref a :: (vs ++ [])) H v) : Ev (tMeth C m sp [] E ta t) σ H v := fun H1 e Q q => by
  obtain ⟨dx, fs, h0, hl⟩ := h0
  exact h1 H1 e _ fun H2 e2 => ⟨a, dx, fs, rfl, e2 _ _ (e _ _ h0), hl, h2 H2 (e.trans e2) _ fun H3 e3 => hs H3 ((e.trans e2).trans e3) _ (fun H4 e4 => q H4 ((e2.trans e3).trans e4)) _⟩
theorem sp_ma {K : PySem.W.Frag} {C st l : Addr} {D : PartsD} {h : Str} {c : List Int} {s : Str} {H : Hp} (hs : StepsAt K H C st D) (hl : LotAt K H l h c) (hn : c.length = D.ss.length) : SpV (spMA K C) [.ref st, .ref l, .str s] H (.int (manyAt D.ss c s)) := fun H1 e Q q E =>
  ⟨st, l, D, h, c, s, rfl, hs.ex' e, hl.ex e, hn, fun H' e' => q H' e'⟩
theorem steps_ins {K : PySem.W.Frag} {H : Hp} {C st : Addr} {D : PartsD} (h : StepsAt K H C st D) {m : Str} (hm : ∀ b1 b2 b3 b4 b5 : Addr, ([("_stands", .ref b1), ("_deeds", .ref b2), ("_lost", .ref b3), ("_index", .ref b4), ("_goes_to", .ref b5)] : List (Str × V)).lookup m = none) :
    ∃ dx fs, H st = some (.ins C dx fs) ∧ fs.lookup m = none := by
  obtain ⟨dx, b1, b2, b3, b4, b5, h0, _⟩ := h.ex
  exact ⟨dx, _, h0, hm _ _ _ _ _⟩
def DeedAt (K : PySem.W.Frag) (H : Hp) (d : Addr) (e : En) : Prop := SqT K H d [.str e.1, sv e.2.1, .str e.2.2]
def canDo (ss : List Str) (h : Str) (c : List Int) (p : Str) : Bool := decide (p = h) || decide (manyAt ss c p > 0)
def spCan (K : PySem.W.Frag) (C : Addr) : Sp := fun vs H Q _ => ∃ (st l d : Addr) (D : PartsD) (h : Str) (c : List Int) (e : En), vs = [.ref st, .ref l, .ref d] ∧ StepsAt K H C st D ∧ LotAt K H l h c ∧ c.length = D.ss.length ∧ DeedAt K H d e ∧ ∀ H', Ex H H' → Q (.bl (canDo D.ss h c e.1)) H'
abbrev sCan : Stmt := inClass (top 23) 6
theorem scCan : FnScope ["self", "lot", "deed"] ["self", "lot", "deed"] (defScope sCan) := ⟨rfl, rfl, rfl, by decide +kernel, rfl, by decide +kernel, by decide +kernel⟩
theorem vstr_eq (a b : Str) : decide (V.str a = V.str b) = decide (a = b) := by
  by_cases e : a = b
  · subst e
    simp
  · have : ¬ V.str a = V.str b := fun z => e (V.str.inj z)
    simp [e, this]
section
variable {P : Program} {w : World} {K : PySem.W.Frag} {mg : Str → Option Value} {base : Heap}
theorem ok_can {f C fMA : Addr} {fd fdMA : FuncData} (F : Fun K "_can_do" "Steps._can_do" sCan f fd) (cS : SC K C) (mMA : Meth K C "_many_at" fMA) (FMA : FnOk P w K mg base CX0 1 fMA fdMA ["self", "lot", "place"] (spMA K C)) (bMA : Binds K fdMA ["self", "lot", "place"] []) :
    FnOk P w K mg base CX0 2 f fd ["self", "lot", "deed"] (spCan K C) := by
  refine F.ok scCan (fun vs H Q E h => ?_) (fun cdv A outer s H vs Q E hr h => ?_)
  · obtain ⟨_, _, _, _, _, _, _, rfl, _⟩ := h
    rfl
  · obtain ⟨st, l, d, D, hh, cs, e, rfl, hs, hl, hn, hd, k⟩ := h
    refine ⟨_, (pss_one (ps_ret (pe_or (pe_cmpR op_eq (pe_ix ix_tup (pv 2) pe_int (fun _ _ => rfl)) (pe_ix ix_tup (pv 1) pe_int (fun _ _ => rfl)) (nomark _)) (pe_one (pe_cmpR op_gt (pe_meth (pv 0) cS.cl mMA FMA (hr.mono (by decide)) bMA .nil pass0 (pa_cons (pv 1) (pa_cons (pe_ix ix_tup (pv 2) pe_int (fun _ _ => rfl)) pa_nil))) pe_int (nomark _)))))), ?_⟩
    obtain ⟨cl, q1, q2⟩ := id hl
    have p0 : ∀ G, Ex H G → Ev (tOp (rIxT K) (tVar 2) (tC (.int 0))) (start ["self", "lot", "deed"] [.ref st, .ref l, .ref d]) G (.str e.1) := fun G a => ev_op (ev_var rfl) ev_c (rv_ixT (ex_t a hd) (atI_nat (j := 0) rfl))
    refine s_ret (ev_orV (a := decide (e.1 = hh)) (b := decide (manyAt D.ss cs e.1 > 0)) (ev_is (ev_op (p0 H (Ex.refl H)) (ev_op (ev_var rfl) ev_c (rv_ixT q1 (atI_nat (j := 0) rfl))) (rv_eq rfl)) (by rw [vstr_eq])) fun _ =>
      ev_op (ev_meth (ev_var rfl) (steps_ins hs fun _ _ _ _ _ => rfl) (ea_cons (ev_var rfl) (ea_cons (p0 H (Ex.refl H)) ea_nil)) (sp_ma hs hl hn)) ev_c rv_I0) fun H1 e1 => k H1 e1
end
def hearOne (m : Goes) (o : Option Str) (p : Str) (x : Str × Int) : Int := if (lookO m x.1 o).isSome = true then x.2 - (if x.1 = p then 1 else 0) else 0
def could (D : PartsD) (h : Str) (c : List Int) (e : En) : List Int := (if decide (h ≠ e.1) && (lookO (goesOf D.rs) h e.2.1).isSome then 1 else 0) :: (D.ss.zip c).map (hearOne (goesOf D.rs) e.2.1 e.1)
def spCo (K : PySem.W.Frag) (C : Addr) : Sp := fun vs H Q _ => ∃ (st l d : Addr) (D : PartsD) (h : Str) (c : List Int) (e : En), vs = [.ref st, .ref l, .ref d] ∧ StepsAt K H C st D ∧ LotAt K H l h c ∧ c.length = D.ss.length ∧ D.ss.length ≤ 4 ∧ DeedAt K H d e ∧
  ∀ p H', H p = none → Ex H H' → H' p = some (.tup (VInt (could D h c e))) → Q (.ref p) H'
abbrev sCo : Stmt := inClass (top 23) 7
abbrev NCo : List Str := ["self", "lot", "deed", "house", "counts", "place", "sound", "_", "found", "stand", "many", "others"]
theorem scCo : FnScope NCo ["self", "lot", "deed"] (defScope sCo) := ⟨rfl, rfl, rfl, by decide +kernel, rfl, by decide +kernel, by decide +kernel⟩
/-- (x, o) in goes -/
theorem ev_pin {σ : L2.St} {H : Hp} {ta tb td : TE} {b : Addr} {m : Goes} {x : Str} {o : Option Str} (h1 : Ev ta σ H (.str x)) (h2 : Ev tb σ H (sv o)) (h3 : Ev td σ H (.ref b)) (hb : H b = some (.dT (kv m))) : Ev (tOp rPIn (tTup (tCons ta (tCons tb tNil))) td) σ H (.bl (lookO m x o).isSome) := fun H1 e Q q =>
  h1 H1 e _ fun H2 e2 => h2 H2 (e.trans e2) _ fun H3 e3 => ⟨by show 2 ≤ sizeLine; decide, fun p np => by
    have e4 : Ex H3 (upd H3 p (.tup [.str x, sv o])) := Ex.new np
    have E := ((e.trans e2).trans e3).trans e4
    refine h3 _ E _ fun H5 e5 => ⟨p, b, m, x, o, rfl, rfl, e5 _ _ (E _ _ hb), ?_, q H5 (((e2.trans e3).trans e4).trans e5)⟩
    have h6 := e5 _ _ (upd_same (H := H3) (a := p) (o := HO.tup [.str x, sv o]))
    cases o <;> exact h6⟩
theorem zip_for {K : PySem.W.Frag} {t1 t2 : TE} {g : TG} {tb : TS} {D : Ends} {σ : L2.St} {H : Hp} {a b : Addr} {xs ys : List V} (h1 : Ev t1 σ H (.ref a)) (h2 : Ev t2 σ H (.ref b)) (ha : SqL K H a xs) (hb : SqL K H b ys) (hl : xs.length = ys.length) (Pv : Nat → L2.St → Hp → Prop) (h0 : ∀ H2, Ex H H2 → Pv 0 σ H2)
    (hq : ∀ i σ H, Pv i σ H → SqL K H a xs ∧ SqL K H b ys) (hs : ∀ (i : Nat) (x y : V) (T : Addr) (σ : L2.St) (H : Hp), xs[i]? = some x → ys[i]? = some y → Pv i σ H → H T = none → g (.ref T) σ (upd H T (.tup [x, y])) fun σ2 H2 => tb { D with nx := Pv (i + 1), ct := Pv (i + 1), bk := D.nx } σ2 H2)
    (hd : ∀ σ H, Pv xs.length σ H → D.nx σ H) : tFor (iZipA K (tCons t1 (tCons t2 tNil))) g tb D σ H := h1 H (Ex.refl H) _ fun H1 e1 => h2 H1 e1 _ fun H2 e2 =>
  ⟨a, b, xs, ys, rfl, .inl ⟨ex_l (e1.trans e2) ha, ex_l (e1.trans e2) hb, for_zipL hl Pv (h0 H2 (e1.trans e2)) hq hs hd⟩⟩
theorem ev_intB {te : TE} {σ : L2.St} {H : Hp} {b : Bool} (h : Ev te σ H (.bl b)) : Ev (tCB (fun xs H Q => (∃ i, xs = [.int i] ∧ Q (.int i) H) ∨ ∃ k, xs = [.bl k] ∧ Q (.int (if k then 1 else 0)) H) (tCons te tNil)) σ H (.int (if b then 1 else 0)) := fun H1 e Q q =>
  h H1 e _ fun H2 e2 => .inr ⟨b, rfl, q H2 e2⟩
section
variable {P : Program} {w : World} {K : PySem.W.Frag} {mg : Str → Option Value} {base : Heap}
set_option maxHeartbeats 2000000 in
theorem ok_co {f C : Addr} {fd : FuncData} (F : Fun K "_could_hear" "Steps._could_hear" sCo f fd) (B : Bu mg) (cS : SC K C) : FnOk P w K mg base CX0 1 f fd ["self", "lot", "deed"] (spCo K C) := by
  refine F.ok scCo (fun vs H Q E h => ?_) (fun cdv A outer s H vs Q E hr h => ?_)
  · obtain ⟨_, _, _, _, _, _, _, rfl, _⟩ := h
    rfl
  · obtain ⟨st, l, d, D, hh, cs, e, rfl, hs, hl, hn, h4, hd, k⟩ := h
    refine ⟨_, (pss_cons (ps_asg (pv 1) (pg_tup rfl (pgs_cons (pg_name (i := 3) scCo.nd rfl (Or.inl rfl)) (pgs_cons (pg_name (i := 4) scCo.nd rfl (Or.inl rfl)) pgs_nil))))
      (pss_cons (ps_asg (pv 2) (pg_tup rfl (pgs_cons (pg_name (i := 5) scCo.nd rfl (Or.inl rfl)) (pgs_cons (pg_name (i := 6) scCo.nd rfl (Or.inl rfl)) (pgs_cons (pg_name (i := 7) scCo.nd rfl (Or.inl rfl)) pgs_nil)))))
      (pss_cons (ps_set (i := 8) scCo.nd rfl (Or.inl rfl) (pe_lst (pa_cons (pe_callTy call_int1 (by rfl) B.int (by decide +kernel) (pa_cons (pe_and (pe_cmpR op_ne (pv 3) (pv 5) (nomark _)) (pe_one (pe_cmpR (op_pin (hu_of hr)) (pe_tup (pa_cons (pv 3) (pa_cons (pv 6) pa_nil))) (pe_fld (pv 0) rfl) (by rfl)))) pa_nil)) pa_nil)))
      (pss_cons (ps_for PassesOwn.never rfl (pi_zipA (by rfl) B.zip (pa_cons (pe_fld (pv 0) rfl) (pa_cons (pv 4) pa_nil))) (pg_tup rfl (pgs_cons (pg_name (i := 9) scCo.nd rfl (Or.inl rfl)) (pgs_cons (pg_name (i := 10) scCo.nd rfl (Or.inl rfl)) pgs_nil))) (pss_cons (ps_set (i := 11) scCo.nd rfl (Or.inl rfl) (pe_op op_sub (pv 10) (pe_callTy call_int1 (by rfl) B.int (by decide +kernel) (pa_cons (pe_cmpR op_eq (pv 9) (pv 5) (nomark _)) pa_nil))))
      (pss_one (ps_expr (pe_bm PySem.F.plainAttrs_list PySem.F.slot_list_append PySem.F.type_list_append mt_append (pv 8) (pa_cons (pe_ifExp (pt_cmpR (op_pin (hu_of hr)) (pe_tup (pa_cons (pv 9) (pa_cons (pv 6) pa_nil))) (pe_fld (pv 0) rfl) (by rfl)) (pv 11) pe_int) pa_nil))))))
      (pss_one (ps_ret (pe_callTy call_tuple_of (by rfl) B.tuple (by decide +kernel) (pa_cons (pv 8) pa_nil)))))))), ?_⟩
    obtain ⟨dx, b1, b2, b3, b4, b5, h0, h1, _, h3, h44, h5⟩ := hs.ex
    obtain ⟨cl, q1, q2⟩ := hl
    obtain ⟨pl, so, ot⟩ := e
    refine ⟨_, rfl, l, _, rfl, q1, rfl, _, _, rfl, _, _, rfl, rfl, ?_⟩
    refine ⟨_, rfl, d, _, rfl, hd, rfl, _, _, rfl, _, _, rfl, _, _, rfl, rfl, ?_⟩
    have ho : ∀ G, Ex H G → G st = some (.ins C dx [("_stands", .ref b1), ("_deeds", .ref b2), ("_lost", .ref b3), ("_index", .ref b4), ("_goes_to", .ref b5)]) := fun G a => a _ _ h0
    refine q_asgL (xs := [.int (if decide (hh ≠ pl) && (lookO (goesOf D.rs) hh so).isSome then 1 else 0)]) (el_lst (ea_cons (ev_intB (ev_andV (a := decide (hh ≠ pl)) (b := (lookO (goesOf D.rs) hh so).isSome) (ev_is (ev_op (ev_var rfl) (ev_var rfl) (rv_ne rfl)) (by rw [vstr_eq]; simp)) fun _ => ev_pin (ev_var rfl) (ev_var rfl) (ev_fld rfl h0 cS.cl cS.n5 rfl) h5)) ea_nil) (by simp)) fun fl H1 nf e1 hf => ?_
    have w0 : (D.ss.map V.str).length = (VInt cs).length := by rw [List.length_map, List.length_map, hn]
    have e1l := ex_l e1 q2
    refine sq_step (zip_for (ev_fld rfl (ho H1 e1) cS.cl cS.n1 rfl) (ev_var rfl) (SqL.of (e1 _ _ h1)) e1l w0 (fun i σ' H' => (∃ s9 s10 s11, σ' = [some (.ref st), some (.ref l), some (.ref d), some (.str hh), some (.ref cl), some (.str pl), some (sv so), some (.str ot), some (.ref fl), s9, s10, s11]) ∧ Ex H H' ∧ H' fl = some (.lst (VInt ((could D hh cs (pl, so, ot)).take (i + 1))))) (fun H2 e2 => ⟨⟨_, _, _, rfl⟩, e1.trans e2, ?_⟩) (fun i σ' H' pv => ⟨SqL.of (pv.2.1 _ _ h1), ex_l pv.2.1 q2⟩) (fun i x y T σ' H' hx hy pv nT => ?_) fun σ' H' pv => ?_)
    · have q := e2 _ _ hf
      unfold could
      simp only [List.take_succ_cons, List.take_zero]
      exact q
    · obtain ⟨⟨s9, s10, s11, rfl⟩, e3, hf3⟩ := pv
      have e4 : Ex H' (upd H' T (.tup [x, y])) := Ex.new nT
      have hT : SqT K (upd H' T (.tup [x, y])) T [x, y] := SqT.of upd_same
      generalize upd H' T (.tup [x, y]) = H4 at e4 hT
      rw [List.getElem?_map] at hx hy
      obtain ⟨z, hz, rfl⟩ := Option.map_eq_some_iff.mp hx
      obtain ⟨n, hnn, rfl⟩ := Option.map_eq_some_iff.mp hy
      have E4 := e3.trans e4
      refine ⟨T, _, rfl, hT, rfl, _, _, rfl, _, _, rfl, rfl, ?_⟩
      refine q_asg (v := .int (n - (if decide (z = pl) then 1 else 0))) (ev_op (ev_var rfl) (ev_intB (ev_is (ev_op (ev_var rfl) (ev_var rfl) (rv_eq rfl)) (by rw [vstr_eq]))) rv_I0) fun H5 e5 => ?_
      have E5 := E4.trans e5
      have il : i < D.ss.length := (List.getElem?_eq_some_iff.mp hz).1
      have hv : hearOne (goesOf D.rs) so pl (z, n) = (if (lookO (goesOf D.rs) z so).isSome = true then n - (if decide (z = pl) then 1 else 0) else 0) := by
        unfold hearOne
        by_cases c : z = pl <;> simp [c]
      refine s_app (v := .int (hearOne (goesOf D.rs) so pl (z, n))) (e5 _ _ (e4 _ _ hf3)) (ev_var rfl) (ev_is (ev_if (b := (lookO (goesOf D.rs) z so).isSome) (v := .int (hearOne (goesOf D.rs) so pl (z, n))) (et_test (ev_pin (ev_var rfl) (ev_var rfl) (ev_fld rfl (ho _ E5) cS.cl cS.n5 rfl) (E5 _ _ h5))) (fun hb => ev_is (ev_var rfl) (by rw [hv, if_pos hb])) (fun hb => ev_is ev_c (by rw [hv, if_neg (by rw [hb]; simp)]))) rfl) (by simp only [List.length_map, List.length_take]; omega) fun H6 e6 => ?_
      refine ⟨⟨_, _, _, rfl⟩, (E5.trans e6).mut nf, ?_⟩
      rw [upd_same]
      have ez : (D.ss.zip cs)[i]? = some (z, n) := by
        rw [List.getElem?_zip_eq_some]
        exact ⟨hz, hnn⟩
      have et : (could D hh cs (pl, so, ot)).take (i + 1 + 1) = (could D hh cs (pl, so, ot)).take (i + 1) ++ [hearOne (goesOf D.rs) so pl (z, n)] := by
        rw [List.take_succ]
        have : (could D hh cs (pl, so, ot))[i + 1]? = some (hearOne (goesOf D.rs) so pl (z, n)) := by
          unfold could
          rw [List.getElem?_cons_succ, List.getElem?_map, ez]
          rfl
        rw [this]
        rfl
      rw [et]
      show _ = some (HO.lst (List.map V.int (_ ++ _)))
      rw [List.map_append]
      rfl
    · obtain ⟨⟨s9, s10, s11, rfl⟩, e3, hf3⟩ := pv
      have len : (could D hh cs (pl, so, ot)).length ≤ (D.ss.map V.str).length + 1 := by
        unfold could
        simp only [List.length_cons, List.length_map, List.length_zip]
        omega
      rw [List.take_of_length_le len] at hf3
      exact ⟨_, rfl, fl, _, rfl, .inl ⟨SqL.of hf3, fun p np => k p _ (fresh_back e3 np) (e3.trans (Ex.new np)) upd_same⟩⟩
end
end Stq

/-! ### whole numbers, and tuples of them within bounds -/
namespace Wth
open PySem PySem.Spec PyProof.Rows L2 Evl Gen Ent Rep Dat Nm Er Chk Gu Deed Pts Hear Lst Bk Cau EvD BadE EntR Lis Prd NmR Bmk EqB God Oth LwP Inf Stp Stq RZ
structure Bv (mg : Str → Option Value) : Prop extends Bu mg where
  bool : mg "bool" = none
def isWh : PyData → Bool
  | .int _ => true
  | _ => false
def isIB : PyData → Bool
  | .int _ => true
  | .bool _ => true
  | _ => false
def isBo : PyData → Bool
  | .bool _ => true
  | _ => false
theorem kit_int (K : PySem.W.Frag) (d : PyData) : PySem.W.kitOne K (.type (tyD d)) (.type "int") = some (isIB d) := by
  cases d
  · exact kit_ty (a := "NoneType") (b := "int") (r := false) (by decide +kernel)
  · exact kit_ty (a := "bool") (b := "int") (r := true) (by decide +kernel)
  · exact kit_ty (a := "int") (b := "int") (r := true) (by decide +kernel)
  · exact kit_ty (a := "str") (b := "int") (r := false) (by decide +kernel)
  · exact kit_ty (a := "list") (b := "int") (r := false) (by decide +kernel)
  · exact kit_ty (a := "tuple") (b := "int") (r := false) (by decide +kernel)
  · exact kit_ty (a := "dict") (b := "int") (r := false) (by decide +kernel)
theorem kit_bool (K : PySem.W.Frag) (d : PyData) : PySem.W.kitOne K (.type (tyD d)) (.type "bool") = some (isBo d) := by
  cases d
  · exact kit_ty (a := "NoneType") (b := "bool") (r := false) (by decide +kernel)
  · exact kit_ty (a := "bool") (b := "bool") (r := true) (by decide +kernel)
  · exact kit_ty (a := "int") (b := "bool") (r := false) (by decide +kernel)
  · exact kit_ty (a := "str") (b := "bool") (r := false) (by decide +kernel)
  · exact kit_ty (a := "list") (b := "bool") (r := false) (by decide +kernel)
  · exact kit_ty (a := "tuple") (b := "bool") (r := false) (by decide +kernel)
  · exact kit_ty (a := "dict") (b := "bool") (r := false) (by decide +kernel)
def spWhole (K : PySem.W.Frag) : Sp := fun vs H Q _ => ∃ (v : V) (d : PyData), vs = [v] ∧ Sw K H v d ∧ ∀ H', Ex H H' → Q (.bl (isWh d)) H'
abbrev sWh : Stmt := top 8
theorem scWh : FnScope ["value"] ["value"] (defScope sWh) := ⟨rfl, rfl, rfl, by decide +kernel, rfl, by decide +kernel, by decide +kernel⟩
section
variable {P : Program} {w : World} {K : PySem.W.Frag} {mg : Str → Option Value} {base : Heap}
theorem ok_whole {f : Addr} {fd : FuncData} (F : Fun K "is_whole" "is_whole" sWh f fd) (B : Bv mg) : FnOk P w K mg base CX0 1 f fd ["value"] (spWhole K) := by
  refine F.ok scWh (fun vs H Q E h => ?_) (fun cdv A outer s H vs Q E hr h => ?_)
  · obtain ⟨v, d, rfl, _⟩ := h
    rfl
  · obtain ⟨v, d, rfl, hd, k⟩ := h
    refine ⟨_, (pss_one (ps_ret (pe_and (pe_callB call_isi (by rfl) B.isi (by decide +kernel) (pa_cons (pv 0) (pa_cons (pe_bltn (v := .ty "int") (by rfl) B.int (by decide +kernel) rfl) pa_nil))) (pe_one (pe_not (pe_callB call_isi (by rfl) B.isi (by decide +kernel) (pa_cons (pv 0) (pa_cons (pe_bltn (v := .ty "bool") (by rfl) B.bool (by decide +kernel) rfl) pa_nil)))))))), ?_⟩
    refine s_ret (v := .bl (isWh d)) (ev_is (ev_andV (a := isIB d) (b := !isBo d) (ev_isi (ev_var rfl) hd (kit_int _ d)) fun _ => ev_notV (ev_isi (ev_var rfl) hd (kit_bool _ d))) (by cases d <;> rfl)) fun H1 e1 => k H1 e1
end
/-- what stands as heard -/
def heardD : Option (List Int) → PyData
  | none => .none
  | some ns => .tuple (ns.map .int)
theorem ints_inv {K : PySem.W.Frag} {H : Hp} : ∀ {ns : List Int} {xs : List V}, SwAll K H xs (ns.map PyData.int) → xs = VInt ns
  | [], _, h => by
    cases h
    rfl
  | n :: ns, _, h => by
    cases h with
    | cons a b =>
      cases a
      rw [ints_inv b]
      rfl
theorem sw_heard {K : PySem.W.Frag} {H : Hp} {v : V} {ns : List Int} (h : Sw K H v (heardD (some ns))) : ∃ a, v = .ref a ∧ SqT K H a (VInt ns) := by
  unfold heardD at h
  cases h with
  | tup q w =>
    rw [ints_inv w] at q
    exact ⟨_, rfl, q⟩
def withinB (bs : List Int) : Option (List Int) → Bool
  | none => false
  | some ns => decide (ns.length = bs.length) && (ns.zip bs).all fun p => decide (0 ≤ p.1) && decide (p.1 ≤ p.2)
def spWi (K : PySem.W.Frag) : Sp := fun vs H Q _ => ∃ (b : Addr) (v : V) (bs : List Int) (o : Option (List Int)), vs = [.ref b, v] ∧ SqT K H b (VInt bs) ∧ Sw K H v (heardD o) ∧ bs.length ≤ 100 ∧ ∀ H', Ex H H' → Q (.bl (withinB bs o)) H'
abbrev sWi : Stmt := top 22
abbrev NWi : List Str := ["bounds", "value", "many", "bound"]
theorem scWi : FnScope NWi ["bounds", "value"] (defScope sWi) := ⟨rfl, rfl, rfl, by decide +kernel, rfl, by decide +kernel, by decide +kernel⟩
theorem walk_zipT {K : PySem.W.Frag} {a b : Addr} {xs ys : List V} {n : Nat} (h1 : xs.length = n) (h2 : ys.length = n) : Walk (ItzT K a b) n (fun H => SqT K H a xs ∧ SqT K H b ys) (YPair (fun i => xs[i]?) (fun i => ys[i]?)) := by
  refine ⟨fun i _ hi q => ⟨xs, ys, xs[i], ys[i], q.1, q.2, by simp, by simp⟩, fun _ q => ⟨xs, ys, q.1, q.2, .inl (by omega)⟩, fun i H v H' _ q y => ?_⟩
  obtain ⟨T, x, z, k1, k2, k3, k4, k5⟩ := y
  exact ⟨T, x, z, k1, k2, k3, k4 xs q.1, k5 ys q.2⟩
section
variable {P : Program} {w : World} {K : PySem.W.Frag} {mg : Str → Option Value} {base : Heap}
set_option maxHeartbeats 2000000 in
theorem ok_within {f fW : Addr} {fd fdW : FuncData} (F : Fun K "within" "within" sWi f fd) (B : Bv mg) (GW : FnOk P w K mg base CX0 1 fW fdW ["value"] (spWhole K)) (mW : mg "is_whole" = some (.ref fW)) (kW : PySem.W.keepIn K (.ref fW) = true) (bW : Binds K fdW ["value"] []) :
    FnOk P w K mg base CX0 2 f fd ["bounds", "value"] (spWi K) := by
  refine F.ok scWi (fun vs H Q E h => ?_) (fun cdv A outer s H vs Q E hr h => ?_)
  · obtain ⟨_, _, _, _, rfl, _⟩ := h
    rfl
  · obtain ⟨b, v, bs, o, rfl, hb, hv, hl, k⟩ := h
    refine ⟨_, (pss_cons (ps_if (PW.pt (pw_or (pt_not (pt_val (pe_callB call_isi (by rfl) B.isi (by decide +kernel) (pa_cons (pv 1) (pa_cons (pe_bltn (v := .ty "tuple") (by rfl) B.tuple (by decide +kernel) rfl) pa_nil))))) (pw_or1 (pt_cmpR op_ne (pe_callB call_len_seq (by rfl) B.len PySem.boot_len (pa_cons (pv 1) pa_nil)) (pe_callB call_len_seq (by rfl) B.len PySem.boot_len (pa_cons (pv 0) pa_nil)) (nomark _))))) (pss_one (ps_ret pe_bl)) pss_nil)
      (pss_one (ps_ret (pe_callB (cr_all rfl) (by rfl) B.all (by decide +kernel) (pa_cons (pe_lc (own := [("many", 2), ("bound", 3)]) (g := gTup K 2 (gCons (gName 2) (gCons (gName 3) gNil))) (tt := tYes) (te := tAndV (tCall (spWhole K) [] E0 (tCons (tVar 2) tNil)) (tChain (rI0 fun i j => .bl (decide (i ≤ j))) (rI0 fun i j => .bl (decide (i ≤ j))) (tC (.int 0)) (tVar 2) (tVar 3))) rfl scWi.nd (pi_zipA (by rfl) B.zip (pa_cons (pv 1) (pa_cons (pv 0) pa_nil))) (blkOk_by (N := NWi) (sc := defScope sWi) (by decide +kernel)) (fun _ _ _ _ _ => (pg_tup rfl (pgs_cons (pg_name (i := 2) scWi.nd rfl (Or.inl rfl)) (pgs_cons (pg_name (i := 3) scWi.nd rfl (Or.inl rfl)) pgs_nil)))) (fun _ _ _ _ _ => pts_nil) (fun _ _ _ _ _ => (pe_and (pe_call GW (hr.mono (by decide)) (by rfl) mW kW bW .nil pass0 (pa_cons (pv 2) pa_nil)) (pe_one (pe_chain op_le op_le pe_int (pv 2) (pv 3)))))) pa_nil))))), ?_⟩
    cases o with
    | none =>
      refine q_when (b := true) (et_or (a := true) (b := true) (et_not (a := false) (et_test (ev_isi (ev_var rfl) hv (kit_tup _ _)))) (fun z => nomatch z)) (fun _ H1 e1 => s_ret ev_c fun H2 e2 => k H2 (e1.trans e2)) (fun z => nomatch z)
    | some ns =>
      obtain ⟨a, rfl, qa⟩ := sw_heard hv
      refine q_when (b := !decide (ns.length = bs.length)) (et_is (et_or (a := false) (b := !decide (ns.length = bs.length)) (et_not (a := true) (et_test (ev_isi (ev_var rfl) hv (kit_tup _ _)))) fun _ => et_test (ev_is (ev_op (ev_lenT (ev_var rfl) qa) (ev_lenT (ev_var rfl) hb) (rv_ne rfl)) ?_)) rfl) (fun hn H1 e1 => s_ret ev_c fun H2 e2 => ?_) (fun hn H1 e1 => ?_)
      · rw [List.length_map, List.length_map]
        by_cases c : ns.length = bs.length
        · simp [c]
        · have : ¬ V.int (ns.length : Int) = V.int (bs.length : Int) := fun z => c (by
            have := V.int.inj z
            omega)
          simp [c, this]
      · have e : withinB bs (some ns) = false := by
          have : decide (ns.length = bs.length) = false := by simpa using hn
          show (decide (ns.length = bs.length) && _) = false
          rw [this]
          rfl
        rw [← e]
        exact k H2 (e1.trans e2)
      · have hlen : ns.length = bs.length := by simpa using hn
        have e : withinB bs (some ns) = ((ns.zip bs).map fun p => decide (0 ≤ p.1) && decide (p.1 ≤ p.2)).all id := by
          show (decide (ns.length = bs.length) && _) = _
          rw [decide_eq_true hlen, Bool.true_and, List.all_map]
          rfl
        have zl : (ns.zip bs).length = ns.length := by rw [List.length_zip]; omega
        refine ⟨_, rfl, _, rfl, a, b, VInt ns, VInt bs, rfl, .inr ⟨ex_t e1 qa, ex_t e1 hb, fun Dl hD => lc_it (walk_zipT (n := ns.length) (by simp) (by simp [hlen])) (fun i H' => Ex H1 H' ∧ H' Dl = some (.lst ((((ns.zip bs).take i).map fun p => decide (0 ≤ p.1) && decide (p.1 ≤ p.2)).map V.bl))) ⟨Ex.new hD, upd_same⟩ (fun i H' _ p => ⟨ex_t (e1.trans p.1) qa, ex_t (e1.trans p.1) hb⟩) (fun i x H2 H3 hi p y => ?_) fun H2 p => ?_⟩⟩
        · obtain ⟨e2, hD2⟩ := p
          obtain ⟨T, x1, x2, rfl, nT, rfl, y1, y2⟩ := y
          obtain ⟨n1, z1, rfl⟩ := Option.map_eq_some_iff.mp ((List.getElem?_map ..).symm.trans y1)
          obtain ⟨n2, z2, rfl⟩ := Option.map_eq_some_iff.mp ((List.getElem?_map ..).symm.trans y2)
          have e3 : Ex H2 (upd H2 T (.tup [.int n1, .int n2])) := Ex.new nT
          have hT : SqT K (upd H2 T (.tup [.int n1, .int n2])) T [.int n1, .int n2] := SqT.of upd_same
          generalize upd H2 T (.tup [.int n1, .int n2]) = H3 at e3 hT
          refine ⟨_, _, rfl, hT, rfl, _, _, rfl, _, _, rfl, rfl, rfl, ?_⟩
          have hev : Ev (tAndV (tCall (spWhole K) [] E0 (tCons (tVar 2) tNil)) (tChain (rI0 fun i j => .bl (decide (i ≤ j))) (rI0 fun i j => .bl (decide (i ≤ j))) (tC (.int 0)) (tVar 2) (tVar 3))) [some (.ref b), some (.ref a), some (.int n1), some (.int n2)] H3 (.bl (decide (0 ≤ n1) && decide (n1 ≤ n2))) :=
            ev_is (ev_andV (a := true) (b := decide (0 ≤ n1) && decide (n1 ≤ n2)) (fun H4 e4 Q4 q4 => ⟨_, rfl, .int n1, .int n1, rfl, .int n1, fun H5 e5 => q4 H5 e5⟩) fun _ => ev_chain ev_c (ev_var rfl) (ev_var rfl) rv_I0 rv_I0) rfl
          have ez : (ns.zip bs)[i]? = some (n1, n2) := by
            rw [List.getElem?_zip_eq_some]
            exact ⟨z1, z2⟩
          refine hev _ (Ex.refl _) _ fun H4 e4 => ⟨_, e4 _ _ (e3 _ _ hD2), sz_lt (by simp only [List.length_map, List.length_take]; omega), ((e2.trans e3).trans e4).mut hD, ?_⟩
          rw [upd_same, List.take_succ, ez]
          simp
        · obtain ⟨e2, hD2⟩ := p
          rw [List.take_of_length_le (by omega)] at hD2
          refine ⟨Dl, _, rfl, SqL.of hD2, ?_⟩
          rw [← e]
          exact k H2 (e1.trans e2)
end
end Wth

/-! ### Steps.allows -/
namespace Sta
open PySem PySem.Spec PyProof.Rows L2 Evl Gen Ent Rep Dat Nm Er Chk Gu Deed Pts Hear Lst Bk Cau EvD BadE EntR Lis Prd NmR Bmk EqB God Oth LwP Inf Stp Stq RZ Wth
theorem sw_en {K : PySem.W.Frag} {H : Hp} {v : V} {e : En} (h : Sw K H v (enD e)) : ∃ d, v = .ref d ∧ DeedAt K H d e := by
  unfold enD at h
  cases h with
  | tup q a =>
    cases a with
    | cons a1 a =>
      cases a with
      | cons a2 a =>
        cases a with
        | cons a3 a =>
          cases a
          cases a1
          cases a3
          refine ⟨_, rfl, ?_⟩
          unfold DeedAt
          cases h2 : e.2.1 with
          | none =>
            rw [h2] at a2
            cases a2
            exact q
          | some z =>
            rw [h2] at a2
            cases a2
            exact q
def inLost (ls : List Str) (e : En) : Bool := inV (sv e.2.1) (ls.map V.str)
def allowsDeed (D : PartsD) (h : Str) (c : List Int) (n : Int) (o : Option (List Int)) : Bool :=
  decide (0 ≤ n) && decide (n < D.ds.length) && match D.ds[n.toNat]? with
    | none => false
    | some e => canDo D.ss h c e.1 && if inLost D.ls e = true then withinB (could D h c e) o else o.isNone
theorem flat_sv (o : Option Str) : flatV (sv o) = true := by cases o <;> rfl
def spAD (K : PySem.W.Frag) (C : Addr) : Sp := fun vs H Q _ => ∃ (st l : Addr) (D : PartsD) (h : Str) (c : List Int) (n : Int) (v : V) (o : Option (List Int)), vs = [.ref st, .ref l, .int n, v] ∧ StepsAt K H C st D ∧ LotAt K H l h c ∧ c.length = D.ss.length ∧ D.ss.length ≤ 4 ∧ Sw K H v (heardD o) ∧
  ∀ H', Ex H H' → Q (.bl (allowsDeed D h c n o)) H'
abbrev sAD : Stmt := inClass (top 23) 9
abbrev NAD : List Str := ["self", "lot", "number", "heard", "deed"]
theorem scAD : FnScope NAD ["self", "lot", "number", "heard"] (defScope sAD) := ⟨rfl, rfl, rfl, by decide +kernel, rfl, by decide +kernel, by decide +kernel⟩
theorem sp_can {K : PySem.W.Frag} {C st l d : Addr} {D : PartsD} {h : Str} {c : List Int} {e : En} {H : Hp} (hs : StepsAt K H C st D) (hl : LotAt K H l h c) (hn : c.length = D.ss.length) (hd : DeedAt K H d e) : SpV (spCan K C) [.ref st, .ref l, .ref d] H (.bl (canDo D.ss h c e.1)) := fun H1 a Q q E =>
  ⟨st, l, d, D, h, c, e, rfl, hs.ex' a, hl.ex a, hn, ex_t a hd, fun H' e' => q H' e'⟩
section
variable {P : Program} {w : World} {K : PySem.W.Frag} {mg : Str → Option Value} {base : Heap}
set_option maxHeartbeats 2000000 in
theorem ok_ad {f C fCa fCo fW fI : Addr} {fd fdCa fdCo fdW fdI : FuncData} (F : Fun K "_allows_deed" "Steps._allows_deed" sAD f fd) (B : Bv mg) (cS : SC K C)
    (mCa : Meth K C "_can_do" fCa) (FCa : FnOk P w K mg base CX0 2 fCa fdCa ["self", "lot", "deed"] (spCan K C)) (bCa : Binds K fdCa ["self", "lot", "deed"] [])
    (mCo : Meth K C "_could_hear" fCo) (FCo : FnOk P w K mg base CX0 1 fCo fdCo ["self", "lot", "deed"] (spCo K C)) (bCo : Binds K fdCo ["self", "lot", "deed"] [])
    (GW : FnOk P w K mg base CX0 1 fW fdW ["value"] (spWhole K)) (mW : mg "is_whole" = some (.ref fW)) (kW : PySem.W.keepIn K (.ref fW) = true) (bW : Binds K fdW ["value"] [])
    (GI : FnOk P w K mg base CX0 2 fI fdI ["bounds", "value"] (spWi K)) (mI : mg "within" = some (.ref fI)) (kI : PySem.W.keepIn K (.ref fI) = true) (bI : Binds K fdI ["bounds", "value"] []) :
    FnOk P w K mg base CX0 3 f fd ["self", "lot", "number", "heard"] (spAD K C) := by
  refine F.ok scAD (fun vs H Q E h => ?_) (fun cdv A outer s H vs Q E hr h => ?_)
  · obtain ⟨_, _, _, _, _, _, _, _, rfl, _⟩ := h
    rfl
  · obtain ⟨st, l, D, hh, cs, n, v, o, rfl, hs, hl, hn, h4, hv, k⟩ := h
    refine ⟨_, (pss_cons (ps_if (PW.pt (pw_or (pt_not (pt_val (pe_call GW (hr.mono (by decide)) (by rfl) mW kW bW .nil pass0 (pa_cons (pv 2) pa_nil)))) (pw_or1 (pt_not (pt_chain op_le op_lt pe_int (pv 2) (pe_callB call_len_seq (by rfl) B.len PySem.boot_len (pa_cons (pe_fld (pv 0) rfl) pa_nil))))))) (pss_one (ps_ret pe_bl)) pss_nil)
      (pss_cons (ps_set (i := 4) scAD.nd rfl (Or.inl rfl) (pe_ix ix_list (pe_fld (pv 0) rfl) (pv 2) (fun _ _ => rfl)))
      (pss_cons (ps_if (pt_not (pt_val (pe_meth (pv 0) cS.cl mCa FCa (hr.mono (by decide)) bCa .nil pass0 (pa_cons (pv 1) (pa_cons (pv 4) pa_nil))))) (pss_one (ps_ret pe_bl)) pss_nil)
      (pss_cons (ps_if (pt_cmpR op_notIn_seq (pe_ix ix_tup (pv 4) pe_int (fun _ _ => rfl)) (pe_fld (pv 0) rfl) (by rfl)) (pss_one (ps_ret (pe_cmpR op_isN (pv 3) pe_non (nomark _)))) pss_nil)
      (pss_one (ps_ret (pe_call GI (hr.mono (by decide)) (by rfl) mI kI bI .nil pass0 (pa_cons (pe_meth (pv 0) cS.cl mCo FCo (hr.mono (by decide)) bCo .nil pass0 (pa_cons (pv 1) (pa_cons (pv 4) pa_nil))) (pa_cons (pv 3) pa_nil))))))))), ?_⟩
    obtain ⟨dx, b1, b2, b3, b4, b5, h0, h1, ⟨xs, h2, hw⟩, h3, h44, h5⟩ := hs.ex
    have ho : ∀ G, Ex H G → G st = some (.ins C dx [("_stands", .ref b1), ("_deeds", .ref b2), ("_lost", .ref b3), ("_index", .ref b4), ("_goes_to", .ref b5)]) := fun G a => a _ _ h0
    have xl : xs.length = D.ds.length := by
      have := swAll_len hw
      rw [List.length_map] at this
      exact this
    have wh : ∀ G σ, σ[2]? = some (some (V.int n)) → Ev (tCall (spWhole K) [] E0 (tCons (tVar 2) tNil)) σ G (.bl true) := fun G σ hσ H1 e Q q => ⟨_, hσ, .int n, .int n, rfl, .int n, fun H' e' => q H' e'⟩
    refine q_when (b := !(decide (0 ≤ n) && decide (n < D.ds.length))) (et_is (et_or (a := false) (b := !(decide (0 ≤ n) && decide (n < D.ds.length))) (et_not (a := true) (et_test (wh _ _ rfl))) fun _ => et_not (et_test (ev_chain ev_c (ev_var rfl) (ev_is (ev_len (ev_fld rfl h0 cS.cl cS.n2 rfl) (SqL.of h2)) (by rw [xl])) rv_I0 rv_I0))) rfl) (fun hb H1 e1 => s_ret ev_c fun H2 e2 => ?_) (fun hb H1 e1 => ?_)
    · have e : allowsDeed D hh cs n o = false := by
        unfold allowsDeed
        have : (decide (0 ≤ n) && decide (n < (D.ds.length : Int))) = false := by
          rw [Bool.not_eq_true'] at hb
          exact hb
        rw [this]
        rfl
      rw [← e]
      exact k H2 (e1.trans e2)
    · have hb' : (decide (0 ≤ n) && decide (n < (D.ds.length : Int))) = true := by
        rw [Bool.not_eq_false'] at hb
        exact hb
      have hb2 := hb'
      rw [Bool.and_eq_true, decide_eq_true_eq, decide_eq_true_eq] at hb2
      obtain ⟨n0, n1⟩ := hb2
      obtain ⟨j, rfl⟩ := Int.eq_ofNat_of_zero_le n0
      have jl : j < D.ds.length := by omega
      obtain ⟨dd, hdd, wd⟩ := swAll_get hw (List.getElem?_eq_getElem (by rw [xl]; exact jl : j < xs.length))
      rw [List.getElem?_map, List.getElem?_eq_getElem jl] at hdd
      obtain rfl : enD D.ds[j] = dd := Option.some.inj hdd
      obtain ⟨d, hx, hd⟩ := sw_en wd
      have ead : allowsDeed D hh cs (j : Int) o = (canDo D.ss hh cs D.ds[j].1 && if inLost D.ls D.ds[j] = true then withinB (could D hh cs D.ds[j]) o else o.isNone) := by
        unfold allowsDeed
        rw [hb', Int.toNat_natCast, List.getElem?_eq_getElem jl]
        rfl
      generalize D.ds[j] = e at hd ead
      refine q_asg (v := .ref d) (ev_op (ev_fld rfl (ho H1 e1) cS.cl cS.n2 rfl) (ev_var rfl) (rv_ixL (SqL.of (e1 _ _ h2)) (atI_nat (by rw [List.getElem?_eq_getElem (by rw [xl]; exact jl : j < xs.length), hx])))) fun H2 e2 => ?_
      have E2 := e1.trans e2
      refine q_when (b := !canDo D.ss hh cs e.1) (et_not (et_test (ev_meth (ev_var rfl) (steps_ins (hs.ex' E2) fun _ _ _ _ _ => rfl) (ea_cons (ev_var rfl) (ea_cons (ev_var rfl) ea_nil)) (sp_can (hs.ex' E2) (hl.ex E2) hn (ex_t E2 hd))))) (fun hc H3 e3 => s_ret ev_c fun H4 e4 => ?_) (fun hc H3 e3 => ?_)
      · have : allowsDeed D hh cs (j : Int) o = false := by
          rw [ead]
          have : canDo D.ss hh cs e.1 = false := by simpa using hc
          rw [this]
          rfl
        rw [← this]
        exact k H4 ((E2.trans e3).trans e4)
      · have hc' : canDo D.ss hh cs e.1 = true := by simpa using hc
        rw [hc', Bool.true_and] at ead
        have E3 := E2.trans e3
        refine q_when (b := !inLost D.ls e) (et_test (ev_op (ev_op (ev_var rfl) ev_c (rv_ixT (ex_t E3 hd) (atI_nat (j := 1) rfl))) (ev_fld rfl (ho _ E3) cS.cl cS.n3 rfl) (rv_niL (SqL.of (E3 _ _ h3)) (flat_sv _) (flat_strs _)))) (fun hi H4 e4 => ?_) (fun hi H4 e4 => ?_)
        · have hi' : inLost D.ls e = false := by simpa using hi
          rw [hi'] at ead
          simp only [Bool.false_eq_true, if_false] at ead
          refine s_ret (v := .bl o.isNone) (ev_is (ev_op (ev_var rfl) ev_c fun H5 _ Q5 q5 => ⟨rfl, q5 H5 (Ex.refl _)⟩) ?_) fun H5 e5 => by
            rw [← ead]
            exact k H5 ((E3.trans e4).trans e5)
          cases o with
          | none =>
            cases hv
            rfl
          | some ns =>
            obtain ⟨a, rfl, _⟩ := sw_heard hv
            rfl
        · have hi' : inLost D.ls e = true := by simpa using hi
          rw [hi'] at ead
          simp only [if_true] at ead
          have E4 := E3.trans e4
          refine ⟨_, rfl, st, _, _, rfl, ho _ E4, rfl, _, rfl, _, rfl, st, l, d, D, hh, cs, e, rfl, hs.ex' E4, hl.ex E4, hn, h4, ex_t E4 hd, fun p H5 np e5 hp => ?_⟩
          have len : (could D hh cs e).length ≤ 100 := by
            unfold could
            simp only [List.length_cons, List.length_map, List.length_zip]
            omega
          refine ⟨_, rfl, p, v, could D hh cs e, o, rfl, SqT.of hp, Sw.ex (E4.trans e5) _ _ hv, len, fun H6 e6 => ?_⟩
          rw [← ead]
          exact k H6 ((E4.trans e5).trans e6)
end
/-- an event: what the program makes of it; others are no tuples -/
inductive Evn where
  | deed (n : Int) (o : Option (List Int))
  | fall (s : Str)
  | other (d : PyData)
def evD : Evn → PyData
  | .deed n o => .tuple [.str "deed", .int n, heardD o]
  | .fall s => .tuple [.str "fall", .str s]
  | .other d => d
def EvOk : Evn → Prop
  | .other d => isTup d = false
  | _ => True
def allowsE (D : PartsD) (h : Str) (c : List Int) : Evn → Bool
  | .deed n o => allowsDeed D h c n o
  | .fall s => decide (manyAt D.ss c s > 0)
  | .other _ => false
theorem sw_fall {K : PySem.W.Frag} {H : Hp} {v : V} {s : Str} (h : Sw K H v (evD (.fall s))) : ∃ t, v = .ref t ∧ SqT K H t [.str "fall", .str s] := by
  unfold evD at h
  cases h with
  | tup q a =>
    cases a with
    | cons a1 a =>
      cases a with
      | cons a2 a =>
        cases a
        cases a1
        cases a2
        exact ⟨_, rfl, q⟩
theorem sw_deed {K : PySem.W.Frag} {H : Hp} {v : V} {n : Int} {o : Option (List Int)} (h : Sw K H v (evD (.deed n o))) : ∃ t y, v = .ref t ∧ SqT K H t [.str "deed", .int n, y] ∧ Sw K H y (heardD o) := by
  unfold evD at h
  cases h with
  | tup q a =>
    cases a with
    | cons a1 a =>
      cases a with
      | cons a2 a =>
        cases a with
        | cons a3 a =>
          cases a
          cases a1
          cases a2
          exact ⟨_, _, rfl, q, a3⟩
def spAl (K : PySem.W.Frag) (C : Addr) : Sp := fun vs H Q _ => ∃ (st l : Addr) (D : PartsD) (h : Str) (c : List Int) (v : V) (e : Evn), vs = [.ref st, .ref l, v] ∧ StepsAt K H C st D ∧ LotAt K H l h c ∧ c.length = D.ss.length ∧ D.ss.length ≤ 4 ∧ Sw K H v (evD e) ∧ EvOk e ∧
  ∀ H', Ex H H' → Q (.bl (allowsE D h c e)) H'
abbrev sAl : Stmt := inClass (top 23) 3
theorem scAl : FnScope ["self", "lot", "event"] ["self", "lot", "event"] (defScope sAl) := ⟨rfl, rfl, rfl, by decide +kernel, rfl, by decide +kernel, by decide +kernel⟩
section
variable {P : Program} {w : World} {K : PySem.W.Frag} {mg : Str → Option Value} {base : Heap}
set_option maxHeartbeats 2000000 in
theorem ok_al {f C fMA fAD : Addr} {fd fdMA fdAD : FuncData} (F : Fun K "allows" "Steps.allows" sAl f fd) (B : Bv mg) (cS : SC K C)
    (mMA : Meth K C "_many_at" fMA) (FMA : FnOk P w K mg base CX0 1 fMA fdMA ["self", "lot", "place"] (spMA K C)) (bMA : Binds K fdMA ["self", "lot", "place"] [])
    (mAD : Meth K C "_allows_deed" fAD) (FAD : FnOk P w K mg base CX0 3 fAD fdAD ["self", "lot", "number", "heard"] (spAD K C)) (bAD : Binds K fdAD ["self", "lot", "number", "heard"] []) :
    FnOk P w K mg base CX0 4 f fd ["self", "lot", "event"] (spAl K C) := by
  refine F.ok scAl (fun vs H Q E h => ?_) (fun cdv A outer s H vs Q E hr h => ?_)
  · obtain ⟨_, _, _, _, _, _, _, rfl, _⟩ := h
    rfl
  · obtain ⟨st, l, D, hh, cs, v, e, rfl, hs, hl, hn, h4, hv, ok, k⟩ := h
    refine ⟨_, (pss_cons (ps_if (pt_not (pt_val (pe_callB call_isi (by rfl) B.isi (by decide +kernel) (pa_cons (pv 2) (pa_cons (pe_bltn (v := .ty "tuple") (by rfl) B.tuple (by decide +kernel) rfl) pa_nil))))) (pss_one (ps_ret pe_bl)) pss_nil)
      (pss_cons (ps_if (pt_cmpR op_eq (pe_callB call_len_seq (by rfl) B.len PySem.boot_len (pa_cons (pv 2) pa_nil)) pe_int (nomark _)) (pss_one (ps_ret (pe_and (pe_cmpR op_eq (pe_ix ix_tup (pv 2) pe_int (fun _ _ => rfl)) pe_str (nomark _)) (pe_one (pe_cmpR op_gt (pe_meth (pv 0) cS.cl mMA FMA (hr.mono (by decide)) bMA .nil pass0 (pa_cons (pv 1) (pa_cons (pe_ix ix_tup (pv 2) pe_int (fun _ _ => rfl)) pa_nil))) pe_int (nomark _)))))) pss_nil)
      (pss_one (ps_ret (pe_and (pe_cmpR op_eq (pe_callB call_len_seq (by rfl) B.len PySem.boot_len (pa_cons (pv 2) pa_nil)) pe_int (nomark _)) (pe_and (pe_cmpR op_eq (pe_ix ix_tup (pv 2) pe_int (fun _ _ => rfl)) pe_str (nomark _)) (pe_one (pe_meth (pv 0) cS.cl mAD FAD (hr.mono (by decide)) bAD .nil pass0 (pa_cons (pv 1) (pa_cons (pe_ix ix_tup (pv 2) pe_int (fun _ _ => rfl)) (pa_cons (pe_ix ix_tup (pv 2) pe_int (fun _ _ => rfl)) pa_nil))))))))))), ?_⟩
    cases e with
    | other d =>
      have hd : isTup d = false := ok
      refine q_when (b := true) (et_not (a := false) (et_test (ev_is (ev_isi (ev_var rfl) hv (kit_tup _ _)) (by show V.bl (isTup d) = _; rw [hd])))) (fun _ H1 e1 => s_ret ev_c fun H2 e2 => k H2 (e1.trans e2)) (fun z => nomatch z)
    | fall s =>
      obtain ⟨t, rfl, qt⟩ := sw_fall hv
      refine q_when (b := false) (et_not (a := true) (et_test (ev_isi (ev_var rfl) hv (kit_tup _ _)))) (fun z => nomatch z) (fun _ H1 e1 => ?_)
      refine q_when (b := true) (et_test (ev_is (ev_op (ev_lenT (ev_var rfl) (ex_t e1 qt)) ev_c (rv_eq rfl)) (by simp))) (fun _ H2 e2 => ?_) (fun z => nomatch z)
      have E2 := e1.trans e2
      have it : ∀ (j : Nat) (y : V), [V.str "fall", .str s][j]? = some y → Ev (tOp (rIxT K) (tVar 2) (tC (.int (j : Int)))) [some (.ref st), some (.ref l), some (.ref t)] H2 y := fun j y hy => ev_op (ev_var rfl) ev_c (rv_ixT (ex_t E2 qt) (atI_nat hy))
      exact s_ret (ev_is (ev_andV (a := true) (b := decide (manyAt D.ss cs s > 0)) (ev_is (ev_op (it 0 _ rfl) ev_c (rv_eq rfl)) (by simp)) fun _ => ev_op (ev_meth (ev_var rfl) (steps_ins (hs.ex' E2) fun _ _ _ _ _ => rfl) (ea_cons (ev_var rfl) (ea_cons (it 1 _ rfl) ea_nil)) (sp_ma (hs.ex' E2) (hl.ex E2) hn)) ev_c rv_I0) rfl) fun H3 e3 => k H3 (E2.trans e3)
    | deed n o =>
      obtain ⟨t, y, rfl, qt, wy⟩ := sw_deed hv
      refine q_when (b := false) (et_not (a := true) (et_test (ev_isi (ev_var rfl) hv (kit_tup _ _)))) (fun z => nomatch z) (fun _ H1 e1 => ?_)
      refine q_when (b := false) (et_test (ev_is (ev_op (ev_lenT (ev_var rfl) (ex_t e1 qt)) ev_c (rv_eq rfl)) (by simp))) (fun z => nomatch z) (fun _ H2 e2 => ?_)
      have E2 := e1.trans e2
      have it : ∀ (j : Nat) (z : V), [V.str "deed", .int n, y][j]? = some z → Ev (tOp (rIxT K) (tVar 2) (tC (.int (j : Int)))) [some (.ref st), some (.ref l), some (.ref t)] H2 z := fun j z hz => ev_op (ev_var rfl) ev_c (rv_ixT (ex_t E2 qt) (atI_nat hz))
      refine s_ret (v := .bl (allowsDeed D hh cs n o)) (ev_is (ev_andV (a := true) (b := allowsDeed D hh cs n o) (ev_is (ev_op (ev_lenT (ev_var rfl) (ex_t E2 qt)) ev_c (rv_eq rfl)) (by simp)) fun _ => ev_is (ev_andV (a := true) (b := allowsDeed D hh cs n o) (ev_is (ev_op (it 0 _ rfl) ev_c (rv_eq rfl)) (by simp)) fun _ =>
        ev_meth (ev_var rfl) (steps_ins (hs.ex' E2) fun _ _ _ _ _ => rfl) (ea_cons (ev_var rfl) (ea_cons (it 1 _ rfl) (ea_cons (it 2 _ rfl) ea_nil))) fun H3 a Q3 q3 E3 => ⟨st, l, D, hh, cs, n, y, o, rfl, (hs.ex' E2).ex' a, (hl.ex E2).ex a, hn, h4, Sw.ex (E2.trans a) _ _ wy, fun H' e' => q3 H' e'⟩) rfl) rfl) fun H3 e3 => k H3 (E2.trans e3)
end
end Sta

/-! ### Steps._after_deed -/
namespace Aft
open PySem PySem.Spec PyProof.Rows L2 Evl Gen Ent Rep Dat Nm Er Chk Gu Deed Pts Hear Lst Bk Cau EvD BadE EntR Lis Prd NmR Bmk EqB God Oth LwP Inf Stp Stq RZ Wth Sta
theorem s_augL {K : PySem.W.Frag} {to ti te : TE} {f : Int → Int → Int} {p : Addr} {j : Nat} {y : Int} {c : List Int} {σ : L2.St} {H : Hp} {D : Ends} (h1 : Ev to σ H (.ref p)) (h2 : Ev ti σ H (.int (j : Int))) (h3 : Ev te σ H (.int y)) (hp : H p = some (.lst (VInt c))) (hj : j < c.length)
    (k : ∀ H1, Ex H H1 → D.nx σ (upd H1 p (.lst (VInt (c.set j (f (c.getD j 0) y)))))) : tAugS to ti te (rGetL K) (ipI f) rSetL D σ H := h1 H (Ex.refl H) _ fun H1 e1 => h2 H1 e1 _ fun H2 e2 => by
  have E2 := e1.trans e2
  have hg : (VInt c)[j]? = some (.int (c.getD j 0)) := by
    rw [List.getElem?_map, List.getElem?_eq_getElem hj, List.getD_eq_getElem?_getD, List.getElem?_eq_getElem hj]
    rfl
  refine ⟨p, VInt c, j, _, rfl, rfl, SqL.of (E2 _ _ hp), hg, h3 H2 E2 _ fun H3 e3 => ?_⟩
  have E3 := E2.trans e3
  refine ⟨_, _, rfl, rfl, p, VInt c, (j : Int), j, rfl, rfl, E3 _ _ hp, ixN_nat (by rw [List.length_map]; exact hj), ?_⟩
  have e : (VInt c).set j (.int (f (c.getD j 0) y)) = VInt (c.set j (f (c.getD j 0) y)) := by
    show (c.map V.int).set j _ = (c.set j _).map V.int
    rw [List.map_set]
  rw [e]
  exact k H3 E3
theorem q_augL {K : PySem.W.Frag} {to ti te : TE} {f : Int → Int → Int} {p : Addr} {j : Nat} {y : Int} {c : List Int} {σ : L2.St} {H : Hp} {D : Ends} {tz : TS} (h1 : Ev to σ H (.ref p)) (h2 : Ev ti σ H (.int (j : Int))) (h3 : Ev te σ H (.int y)) (hp : H p = some (.lst (VInt c))) (hj : j < c.length)
    (k : ∀ H1, Ex H H1 → tz D σ (upd H1 p (.lst (VInt (c.set j (f (c.getD j 0) y)))))) : tSeq (tAugS to ti te (rGetL K) (ipI f) rSetL) tz D σ H := s_augL (D := { D with nx := tz D }) h1 h2 h3 hp hj k
theorem enum_for {K : PySem.W.Frag} {t1 : TE} {g : TG} {tb : TS} {D : Ends} {σ : L2.St} {H : Hp} {a : Addr} {xs : List V} (h1 : Ev t1 σ H (.ref a)) (ha : SqL K H a xs) (Pv : Nat → L2.St → Hp → Prop) (h0 : ∀ H2, Ex H H2 → Pv 0 σ H2)
    (hq : ∀ i σ H, Pv i σ H → SqL K H a xs) (hs : ∀ (i : Nat) (x : V) (T : Addr) (σ : L2.St) (H : Hp), xs[i]? = some x → Pv i σ H → H T = none → g (.ref T) σ (upd H T (.tup [.int (i : Int), x])) fun σ2 H2 => tb { D with nx := Pv (i + 1), ct := Pv (i + 1), bk := D.nx } σ2 H2)
    (hd : ∀ σ H, Pv xs.length σ H → D.nx σ H) : tFor (iEnum K (tCons t1 tNil)) g tb D σ H := h1 H (Ex.refl H) _ fun H1 e1 =>
  ⟨a, xs, rfl, ex_l e1 ha, for_it (walk_enum (xs := xs)) Pv (h0 H1 e1) (fun i σ H _ p => hq i σ H p) (fun i x σ H H' hi p y => by
    obtain ⟨T, x1, x2, rfl, nT, rfl, y1, y2⟩ := y
    cases y1
    exact hs i x2 T σ H y2 p nT) hd⟩
/-- where one at s that hears so stands behind it -/
def goal (D : PartsD) (so : Option Str) (s : Str) : Nat := (((lookO (goesOf D.rs) s so).bind (posN D.ss))).getD 0
def hearMove (D : PartsD) (so : Option Str) (c : List Int) (i : Nat) (y : Int) : List Int :=
  if y > 0 then
    let c1 := c.set i (c.getD i 0 - y)
    let j := goal D so (D.ss.getD i "")
    c1.set j (c1.getD j 0 + y)
  else c
def heardAll (D : PartsD) (so : Option Str) (hs : List Int) : Nat → List Int → List Int
  | 0, c => c
  | i + 1, c => hearMove D so (heardAll D so hs i c) i (hs.getD (i + 1) 0)
theorem hearMove_len (D : PartsD) (so : Option Str) (c : List Int) (i : Nat) (y : Int) : (hearMove D so c i y).length = c.length := by
  unfold hearMove
  split <;> simp
theorem heardAll_len (D : PartsD) (so : Option Str) (hs : List Int) : ∀ (i : Nat) (c : List Int), (heardAll D so hs i c).length = c.length
  | 0, _ => rfl
  | i + 1, c => by rw [heardAll, hearMove_len, heardAll_len D so hs i c]
def at_ (ss : List Str) (s : Str) : Nat := (posN ss s).getD 0
def afterDeed (D : PartsD) (h : Str) (c : List Int) (e : En) (hs : List Int) : Str × List Int :=
  let m := heardAll D e.2.1 hs D.ss.length c
  if e.1 = h then (e.2.2, m) else
    let m1 := m.set (at_ D.ss e.1) (m.getD (at_ D.ss e.1) 0 - 1)
    let m2 := m1.set (at_ D.ss e.2.2) (m1.getD (at_ D.ss e.2.2) 0 + 1)
    if hs.getD 0 0 > 0 then ((lookO (goesOf D.rs) h e.2.1).getD h, m2) else (h, m2)
/-- who hears it has a place to go -/
structure OkH (D : PartsD) (h : Str) (e : En) (hs : List Int) : Prop where
  len : hs.length = D.ss.length + 1
  st : ∀ (i : Nat) (s : Str), D.ss[i]? = some s → hs.getD (i + 1) 0 > 0 → ∃ (z t : Str) (j : Nat), e.2.1 = some z ∧ look (goesOf D.rs) s z = some t ∧ posN D.ss t = some j
  ho : hs.getD 0 0 > 0 → ∃ z t, e.2.1 = some z ∧ look (goesOf D.rs) h z = some t
  own : e.1 ≠ h → ∃ i j, posN D.ss e.1 = some i ∧ posN D.ss e.2.2 = some j
/-- a new lot, its counts' list new -/
def LotN (H H' : Hp) (p : Addr) (x : Str × List Int) : Prop := ∃ cl, H' p = some (.tup [.str x.1, .ref cl]) ∧ H' cl = some (.lst (VInt x.2)) ∧ H cl = none
def spAf (K : PySem.W.Frag) (C : Addr) : Sp := fun vs H Q _ => ∃ (st l d b : Addr) (D : PartsD) (h : Str) (c : List Int) (e : En) (hs : List Int), vs = [.ref st, .ref l, .ref d, .ref b] ∧ StepsAt K H C st D ∧ LotAt K H l h c ∧ c.length = D.ss.length ∧ DeedAt K H d e ∧ SqT K H b (VInt hs) ∧ OkH D h e hs ∧
  ∀ p H', H p = none → Ex H H' → LotN H H' p (afterDeed D h c e hs) → Q (.ref p) H'
abbrev sAf : Stmt := inClass (top 23) 10
abbrev NAf : List Str := ["self", "lot", "deed", "heard", "house", "counts", "place", "sound", "other", "moved", "at", "stand"]
theorem scAf : FnScope NAf ["self", "lot", "deed", "heard"] (defScope sAf) := ⟨rfl, rfl, rfl, by decide +kernel, rfl, by decide +kernel, by decide +kernel⟩
/-- goes[(x, z)] -/
theorem ev_goes {σ : L2.St} {H : Hp} {ta tb td : TE} {b : Addr} {m : Goes} {x z t : Str} (h1 : Ev ta σ H (.str x)) (h2 : Ev tb σ H (.str z)) (h3 : Ev td σ H (.ref b)) (hb : H b = some (.dT (kv m))) (hl : look m x z = some t) : Ev (tDGet td (tTup (tCons ta (tCons tb tNil)))) σ H (.str t) := fun H1 e Q q =>
  h3 H1 e _ fun H2 e2 => h1 H2 (e.trans e2) _ fun H3 e3 => h2 H3 ((e.trans e2).trans e3) _ fun H4 e4 => ⟨by show 2 ≤ sizeLine; decide, fun p np => by
    have E4 := ((e.trans e2).trans e3).trans e4
    have e5 : Ex H4 (upd H4 p (.tup [.str x, .str z])) := Ex.new np
    have g := DGet.t (k := [.inr x, .inr z]) ((E4.trans e5) _ _ hb) (upd_same (H := H4) (a := p) (o := HO.tup [.str x, .str z]))
    rw [val_kv, hl] at g
    exact ⟨b, .str t, rfl, g, q _ (((e2.trans e3).trans e4).trans e5)⟩⟩
section
variable {P : Program} {w : World} {K : PySem.W.Frag} {mg : Str → Option Value} {base : Heap}
set_option maxHeartbeats 4000000 in
theorem ok_af {f C : Addr} {fd : FuncData} (F : Fun K "_after_deed" "Steps._after_deed" sAf f fd) (B : Bv mg) (cS : SC K C) : FnOk P w K mg base CX0 1 f fd ["self", "lot", "deed", "heard"] (spAf K C) := by
  refine F.ok scAf (fun vs H Q E h => ?_) (fun cdv A outer s H vs Q E hr h => ?_)
  · obtain ⟨_, _, _, _, _, _, _, _, _, rfl, _⟩ := h
    rfl
  · obtain ⟨st, l, d, b, D, hh, cs, e, hs, rfl, hst, hl, hn, hd, hb, ok, k⟩ := h
    refine ⟨_, (pss_cons (ps_asg (pv 1) (pg_tup rfl (pgs_cons (pg_name (i := 4) scAf.nd rfl (Or.inl rfl)) (pgs_cons (pg_name (i := 5) scAf.nd rfl (Or.inl rfl)) pgs_nil))))
      (pss_cons (ps_asg (pv 2) (pg_tup rfl (pgs_cons (pg_name (i := 6) scAf.nd rfl (Or.inl rfl)) (pgs_cons (pg_name (i := 7) scAf.nd rfl (Or.inl rfl)) (pgs_cons (pg_name (i := 8) scAf.nd rfl (Or.inl rfl)) pgs_nil)))))
      (pss_cons (ps_set (i := 9) scAf.nd rfl (Or.inl rfl) (pe_callTy call_list_of (by rfl) B.list (by decide +kernel) (pa_cons (pv 5) pa_nil)))
      (pss_cons (ps_for PassesOwn.never rfl (pi_enum (by rfl) B.enum (pa_cons (pe_fld (pv 0) rfl) pa_nil)) (pg_tup rfl (pgs_cons (pg_name (i := 10) scAf.nd rfl (Or.inl rfl)) (pgs_cons (pg_name (i := 11) scAf.nd rfl (Or.inl rfl)) pgs_nil))) (pss_one (ps_if (pt_cmpR op_gt (pe_ix ix_tup (pv 3) (pe_op op_add (pv 10) pe_int) (fun _ _ => rfl)) pe_int (nomark _)) (pss_cons (ps_augS (pv 9) (pv 10) get_list (pe_ix ix_tup (pv 3) (pe_op op_add (pv 10) pe_int) (fun _ _ => rfl)) ip_sub set_list)
      (pss_one (ps_augS (pv 9) (pe_dget (hu_of hr) (pe_fld (pv 0) rfl) (pe_dget (hu_of hr) (pe_fld (pv 0) rfl) (pe_tup (pa_cons (pv 11) (pa_cons (pv 7) pa_nil))) (fun _ _ => rfl)) (fun _ _ => rfl)) get_list (pe_ix ix_tup (pv 3) (pe_op op_add (pv 10) pe_int) (fun _ _ => rfl)) ip_add set_list))) pss_nil)))
      (pss_cons (ps_if (pt_cmpR op_eq (pv 6) (pv 4) (nomark _)) (pss_one (ps_ret (pe_tup (pa_cons (pv 8) (pa_cons (pv 9) pa_nil))))) pss_nil)
      (pss_cons (ps_augS (pv 9) (pe_dget (hu_of hr) (pe_fld (pv 0) rfl) (pv 6) (fun _ _ => rfl)) get_list pe_int ip_sub set_list)
      (pss_cons (ps_augS (pv 9) (pe_dget (hu_of hr) (pe_fld (pv 0) rfl) (pv 8) (fun _ _ => rfl)) get_list pe_int ip_add set_list)
      (pss_cons (ps_if (pt_cmpR op_gt (pe_ix ix_tup (pv 3) pe_int (fun _ _ => rfl)) pe_int (nomark _)) (pss_one (ps_ret (pe_tup (pa_cons (pe_dget (hu_of hr) (pe_fld (pv 0) rfl) (pe_tup (pa_cons (pv 4) (pa_cons (pv 7) pa_nil))) (fun _ _ => rfl)) (pa_cons (pv 9) pa_nil))))) pss_nil)
      (pss_one (ps_ret (pe_tup (pa_cons (pv 4) (pa_cons (pv 9) pa_nil))))))))))))), ?_⟩
    obtain ⟨dx, b1, b2, b3, b4, b5, h0, h1, _, h3, h44, h5⟩ := hst.ex
    obtain ⟨cl, q1, q2⟩ := hl
    have ho : ∀ G, Ex H G → G st = some (.ins C dx [("_stands", .ref b1), ("_deeds", .ref b2), ("_lost", .ref b3), ("_index", .ref b4), ("_goes_to", .ref b5)]) := fun G a => a _ _ h0
    obtain ⟨pl, so, ot⟩ := e
    refine ⟨_, rfl, l, _, rfl, q1, rfl, _, _, rfl, _, _, rfl, rfl, ?_⟩
    refine ⟨_, rfl, d, _, rfl, hd, rfl, _, _, rfl, _, _, rfl, _, _, rfl, rfl, ?_⟩
    refine q_asgL (xs := VInt cs) (el_list (ev_var rfl) q2) fun mv H1 nm e1 hm => ?_
    have hix : ∀ (i : Nat) (σ : L2.St) (G : Hp), i < hs.length → Ex H G → σ[3]? = some (some (.ref b)) → ∀ ti, Ev ti σ G (.int (i : Int)) → Ev (tOp (rIxT K) (tVar 3) ti) σ G (.int (hs.getD i 0)) := fun i σ G hi a h3 ti hti => ev_op (ev_var h3) hti (rv_ixT (ex_t a hb) (atI_c hi))
    refine sq_step (enum_for (ev_fld rfl (ho H1 e1) cS.cl cS.n1 rfl) (SqL.of (e1 _ _ h1)) (fun i σ' H' => (∃ s10 s11, σ' = [some (.ref st), some (.ref l), some (.ref d), some (.ref b), some (.str hh), some (.ref cl), some (.str pl), some (sv so), some (.str ot), some (.ref mv), s10, s11]) ∧ Ex H H' ∧ H' mv = some (.lst (VInt (heardAll D so hs i cs)))) (fun H2 e2 => ⟨⟨_, _, rfl⟩, e1.trans e2, e2 _ _ hm⟩) (fun i σ' H' pv => SqL.of (pv.2.1 _ _ h1)) (fun i x T σ' H' hx pv nT => ?_) fun σ' H' pv => ?_)
    · obtain ⟨⟨s10, s11, rfl⟩, e3, hm3⟩ := pv
      have e4 : Ex H' (upd H' T (.tup [.int (i : Int), x])) := Ex.new nT
      have hT : SqT K (upd H' T (.tup [.int (i : Int), x])) T [.int (i : Int), x] := SqT.of upd_same
      generalize upd H' T (.tup [.int (i : Int), x]) = H4 at e4 hT
      rw [List.getElem?_map] at hx
      obtain ⟨s, hs', rfl⟩ := Option.map_eq_some_iff.mp hx
      have il : i < D.ss.length := (List.getElem?_eq_some_iff.mp hs').1
      have E4 := e3.trans e4
      refine ⟨T, _, rfl, hT, rfl, _, _, rfl, _, _, rfl, rfl, ?_⟩
      have hat : ∀ G, Ex H4 G → Ev (tOp (rIxT K) (tVar 3) (tOp (rI0 fun i j => .int (i + j)) (tVar 10) (tC (.int 1)))) [some (.ref st), some (.ref l), some (.ref d), some (.ref b), some (.str hh), some (.ref cl), some (.str pl), some (sv so), some (.str ot), some (.ref mv), some (.int (i : Int)), some (.str s)] G (.int (hs.getD (i + 1) 0)) :=
        fun G a => hix (i + 1) _ G (by rw [ok.len]; omega) (E4.trans a) rfl _ (ev_is (ev_op (ev_var rfl) ev_c rv_I0) (by simp))
      have hm4 := e4 _ _ hm3
      refine s_when (b := decide (hs.getD (i + 1) 0 > 0)) (et_test (ev_op (hat H4 (Ex.refl _)) ev_c rv_I0)) ?_ ?_
      · intro hy H5 e5
        have hy' : hs.getD (i + 1) 0 > 0 := of_decide_eq_true hy
        obtain ⟨z, t, j, hz, hl2, hj⟩ := ok.st i s hs' hy'
        have hz' : so = some z := hz
        subst hz'
        have ml : (heardAll D (some z) hs i cs).length = D.ss.length := by rw [heardAll_len, hn]
        refine q_augL (f := fun i j => i - j) (ev_var rfl) (ev_var rfl) (hat H5 e5) (e5 _ _ hm4) (by rw [ml]; exact il) fun H6 e6 => ?_
        have E6 : Ex H (upd H6 mv (.lst (VInt ((heardAll D (some z) hs i cs).set i ((heardAll D (some z) hs i cs).getD i 0 - hs.getD (i + 1) 0))))) := ((E4.trans e5).trans e6).mut nm
        have hm6 : upd H6 mv (.lst (VInt ((heardAll D (some z) hs i cs).set i ((heardAll D (some z) hs i cs).getD i 0 - hs.getD (i + 1) 0)))) mv = some (.lst (VInt ((heardAll D (some z) hs i cs).set i ((heardAll D (some z) hs i cs).getD i 0 - hs.getD (i + 1) 0)))) := upd_same
        generalize upd H6 mv (.lst (VInt ((heardAll D (some z) hs i cs).set i ((heardAll D (some z) hs i cs).getD i 0 - hs.getD (i + 1) 0)))) = H7 at E6 hm6
        refine s_augL (f := fun i j => i + j) (ev_var rfl) (ev_dget (v := .int (j : Int)) (ev_fld rfl (ho _ E6) cS.cl cS.n4 rfl) (ev_goes (ev_var rfl) (ev_var rfl) (ev_fld rfl (ho _ E6) cS.cl cS.n5 rfl) (E6 _ _ h5) hl2) fun G a => by
          have g := get_ix (E6.trans a) h44 t
          rw [hj] at g
          exact g) (hix (i + 1) _ H7 (by rw [ok.len]; omega) E6 rfl _ (ev_is (ev_op (ev_var rfl) ev_c rv_I0) (by simp))) hm6 (by rw [List.length_set, ml]; exact (pos_lt hj).1) ?_
        intro H8 e8
        refine ⟨⟨_, _, rfl⟩, (E6.trans e8).mut nm, ?_⟩
        rw [upd_same]
        have gj : goal D (some z) (D.ss.getD i "") = j := by
          unfold goal
          rw [List.getD_eq_getElem?_getD, hs']
          show ((look (goesOf D.rs) s z).bind (posN D.ss)).getD 0 = j
          rw [hl2]
          show (posN D.ss t).getD 0 = j
          rw [hj]
          rfl
        have : heardAll D (some z) hs (i + 1) cs = (((heardAll D (some z) hs i cs).set i ((heardAll D (some z) hs i cs).getD i 0 - hs.getD (i + 1) 0)).set j ((((heardAll D (some z) hs i cs).set i ((heardAll D (some z) hs i cs).getD i 0 - hs.getD (i + 1) 0)).getD j 0) + hs.getD (i + 1) 0)) := by
          show hearMove D (some z) (heardAll D (some z) hs i cs) i (hs.getD (i + 1) 0) = _
          unfold hearMove
          rw [if_pos hy', gj]
        rw [this]
      · intro hy H5 e5
        refine ⟨⟨_, _, rfl⟩, E4.trans e5, ?_⟩
        have : heardAll D so hs (i + 1) cs = heardAll D so hs i cs := by
          show hearMove D so (heardAll D so hs i cs) i (hs.getD (i + 1) 0) = _
          unfold hearMove
          rw [if_neg (of_decide_eq_false hy)]
        rw [this]
        exact e5 _ _ hm4
    · obtain ⟨⟨s10, s11, rfl⟩, e3, hm3⟩ := pv
      rw [List.length_map] at hm3
      refine q_when (b := decide (pl = hh)) (et_test (ev_is (ev_op (ev_var rfl) (ev_var rfl) (rv_eq rfl)) (by rw [vstr_eq]))) ?_ ?_
      · intro hb1 H4 e4
        refine s_retU (eu_tup (ea_cons (ev_var rfl) (ea_cons (ev_var rfl) ea_nil)) (by simp)) fun p H5 np e5 hp => ?_
        refine k p H5 (fresh_back (e3.trans e4) np) ((e3.trans e4).trans e5) ⟨mv, ?_, ?_, nm⟩
        · have : afterDeed D hh cs (pl, so, ot) hs = (ot, heardAll D so hs D.ss.length cs) := by
            unfold afterDeed
            rw [if_pos (of_decide_eq_true hb1)]
          rw [this]
          exact hp
        · have : afterDeed D hh cs (pl, so, ot) hs = (ot, heardAll D so hs D.ss.length cs) := by
            unfold afterDeed
            rw [if_pos (of_decide_eq_true hb1)]
          rw [this]
          exact e5 _ _ (e4 _ _ hm3)
      · intro hb1 H4 e4
        have npl : pl ≠ hh := of_decide_eq_false hb1
        obtain ⟨i0, j0, hi0, hj0⟩ := ok.own npl
        have E4 := e3.trans e4
        have ml : (heardAll D so hs D.ss.length cs).length = D.ss.length := by rw [heardAll_len, hn]
        have eA : afterDeed D hh cs (pl, so, ot) hs = (if hs.getD 0 0 > 0 then ((lookO (goesOf D.rs) hh so).getD hh, ((heardAll D so hs D.ss.length cs).set i0 ((heardAll D so hs D.ss.length cs).getD i0 0 - 1)).set j0 (((heardAll D so hs D.ss.length cs).set i0 ((heardAll D so hs D.ss.length cs).getD i0 0 - 1)).getD j0 0 + 1))
            else (hh, ((heardAll D so hs D.ss.length cs).set i0 ((heardAll D so hs D.ss.length cs).getD i0 0 - 1)).set j0 (((heardAll D so hs D.ss.length cs).set i0 ((heardAll D so hs D.ss.length cs).getD i0 0 - 1)).getD j0 0 + 1))) := by
          have a1 : at_ D.ss pl = i0 := by unfold at_; rw [hi0]; rfl
          have a2 : at_ D.ss ot = j0 := by
            unfold at_
            have : posN D.ss ot = some j0 := hj0
            rw [this]
            rfl
          unfold afterDeed
          rw [if_neg npl]
          dsimp only
          rw [a1, a2]
        have hm4 := e4 _ _ hm3
        generalize heardAll D so hs D.ss.length cs = M at hm4 ml eA
        refine q_augL (f := fun i j => i - j) (y := 1) (ev_var rfl) (ev_dget (v := .int (i0 : Int)) (ev_fld rfl (ho _ E4) cS.cl cS.n4 rfl) (ev_var rfl) fun G a => by
          have g := get_ix (E4.trans a) h44 pl
          rw [hi0] at g
          exact g) ev_c hm4 (by rw [ml]; exact (pos_lt hi0).1) fun H5 e5 => ?_
        have E6 : Ex H (upd H5 mv (.lst (VInt (M.set i0 (M.getD i0 0 - 1))))) := (E4.trans e5).mut nm
        have hm6 : upd H5 mv (.lst (VInt (M.set i0 (M.getD i0 0 - 1)))) mv = some (.lst (VInt (M.set i0 (M.getD i0 0 - 1)))) := upd_same
        generalize upd H5 mv (.lst (VInt (M.set i0 (M.getD i0 0 - 1)))) = H6 at E6 hm6
        have ml2 : (M.set i0 (M.getD i0 0 - 1)).length = D.ss.length := by rw [List.length_set, ml]
        generalize M.set i0 (M.getD i0 0 - 1) = M1 at hm6 ml2 eA
        refine q_augL (f := fun i j => i + j) (y := 1) (ev_var rfl) (ev_dget (v := .int (j0 : Int)) (ev_fld rfl (ho _ E6) cS.cl cS.n4 rfl) (ev_var rfl) fun G a => by
          have g := get_ix (E6.trans a) h44 ot
          have hj1 : posN D.ss ot = some j0 := hj0
          rw [hj1] at g
          exact g) ev_c hm6 (by rw [ml2]; exact (pos_lt hj0).1) fun H7 e7 => ?_
        have E8 : Ex H (upd H7 mv (.lst (VInt (M1.set j0 (M1.getD j0 0 + 1))))) := (E6.trans e7).mut nm
        have hm8 : upd H7 mv (.lst (VInt (M1.set j0 (M1.getD j0 0 + 1)))) mv = some (.lst (VInt (M1.set j0 (M1.getD j0 0 + 1)))) := upd_same
        generalize upd H7 mv (.lst (VInt (M1.set j0 (M1.getD j0 0 + 1)))) = H8 at E8 hm8
        generalize M1.set j0 (M1.getD j0 0 + 1) = M2 at hm8 eA
        refine q_when (b := decide (hs.getD 0 0 > 0)) (et_test (ev_op (hix 0 _ H8 (by rw [ok.len]; omega) E8 rfl _ ev_c) ev_c rv_I0)) ?_ ?_
        · intro hy H9 e9
          have hy' : hs.getD 0 0 > 0 := of_decide_eq_true hy
          obtain ⟨z, t, hz, hl2⟩ := ok.ho hy'
          have hz' : so = some z := hz
          subst hz'
          have eA2 : afterDeed D hh cs (pl, some z, ot) hs = (t, M2) := by
            rw [eA, if_pos hy']
            show ((look (goesOf D.rs) hh z).getD hh, M2) = _
            rw [hl2]
            rfl
          have E9 := E8.trans e9
          refine s_retU (eu_tup (ea_cons (ev_goes (ev_var rfl) (ev_var rfl) (ev_fld rfl (ho _ E9) cS.cl cS.n5 rfl) (E9 _ _ h5) hl2) (ea_cons (ev_var rfl) ea_nil)) (by simp)) fun p HA np eA' hp => ?_
          exact k p HA (fresh_back E9 np) (E9.trans eA') ⟨mv, by rw [eA2]; exact hp, by rw [eA2]; exact eA' _ _ (e9 _ _ hm8), nm⟩
        · intro hy H9 e9
          have eA2 : afterDeed D hh cs (pl, so, ot) hs = (hh, M2) := by
            rw [eA, if_neg (of_decide_eq_false hy)]
          have E9 := E8.trans e9
          refine s_retU (eu_tup (ea_cons (ev_var rfl) (ea_cons (ev_var rfl) ea_nil)) (by simp)) fun p HA np eA' hp => ?_
          exact k p HA (fresh_back E9 np) (E9.trans eA') ⟨mv, by rw [eA2]; exact hp, by rw [eA2]; exact eA' _ _ (e9 _ _ hm8), nm⟩
end
end Aft

/-! ### Steps.after -/
namespace Af2
open PySem PySem.Spec PyProof.Rows L2 Evl Gen Ent Rep Dat Nm Er Chk Gu Deed Pts Hear Lst Bk Cau EvD BadE EntR Lis Prd NmR Bmk EqB God Oth LwP Inf Stp Stq RZ Wth Sta Aft
def GoD (D : PartsD) : Prop := GoodP D.hs D.ss D.ds D.rs D.ls
def heardOf (D : PartsD) (h : Str) (c : List Int) (e : En) : Option (List Int) → List Int
  | none => could D h c e
  | some ns => ns
def afterE (D : PartsD) (h : Str) (c : List Int) : Evn → Str × List Int
  | .fall s => (h, c.set (at_ D.ss s) (c.getD (at_ D.ss s) 0 - 1))
  | .deed n o => match D.ds[n.toNat]? with
    | none => (h, c)
    | some e => afterDeed D h c e (heardOf D h c e o)
  | .other _ => (h, c)
theorem pos_some {ss : List Str} {s : Str} (h : s ∈ ss) : ∃ i, posN ss s = some i := by
  unfold posN
  cases q : ss.findIdx? fun x => decide (x = s) with
  | some i => exact ⟨i, rfl⟩
  | none =>
    rw [List.findIdx?_eq_none_iff] at q
    have := q s h
    simp at this
theorem pos_mem {ss : List Str} {s : Str} {i : Nat} (h : posN ss s = some i) : s ∈ ss := List.mem_of_getElem? (pos_lt h).2
theorem look_mem {rs : List En} {x z t : Str} (h : look (goesOf rs) x z = some t) : ∃ e ∈ rs, e = (x, some z, t) := by
  unfold look at h
  obtain ⟨p, hp, rfl⟩ := Option.map_eq_some_iff.mp h
  have m1 := List.mem_of_find?_eq_some hp
  have m0 := List.find?_some hp
  have m2 : p.1 = (x, z) := of_decide_eq_true m0
  obtain ⟨e, he, q⟩ := List.mem_filterMap.mp m1
  obtain ⟨s, hs, rfl⟩ := Option.map_eq_some_iff.mp q
  refine ⟨e, he, ?_⟩
  obtain ⟨a, b, c⟩ := e
  dsimp only at hs m2 ⊢
  simp only [Prod.mk.injEq] at m2
  rw [hs, m2.1, m2.2]
section
variable {D : PartsD} {h : Str} {c : List Int} {e : En}
theorem could_len (hn : c.length = D.ss.length) : (could D h c e).length = D.ss.length + 1 := by
  unfold could
  simp only [List.length_cons, List.length_map, List.length_zip]
  omega
theorem could_st (hn : c.length = D.ss.length) {i : Nat} {s : Str} (hs : D.ss[i]? = some s) (hp : (could D h c e).getD (i + 1) 0 > 0) : ∃ z t, e.2.1 = some z ∧ look (goesOf D.rs) s z = some t := by
  have il : i < D.ss.length := (List.getElem?_eq_some_iff.mp hs).1
  have ez : (D.ss.zip c)[i]? = some (s, c[i]) := by
    rw [List.getElem?_zip_eq_some]
    exact ⟨hs, List.getElem?_eq_getElem _⟩
  have e1 : (could D h c e).getD (i + 1) 0 = hearOne (goesOf D.rs) e.2.1 e.1 (s, c[i]) := by
    unfold could
    rw [List.getD_eq_getElem?_getD, List.getElem?_cons_succ, List.getElem?_map, ez]
    rfl
  rw [e1] at hp
  unfold hearOne at hp
  split at hp
  · rename_i q
    cases hz : e.2.1 with
    | none => rw [hz] at q; cases q
    | some z =>
      rw [hz] at q
      obtain ⟨t, ht⟩ := Option.isSome_iff_exists.mp q
      exact ⟨z, t, rfl, ht⟩
  · omega
theorem could_ho (hp : (could D h c e).getD 0 0 > 0) : h ≠ e.1 ∧ ∃ z t, e.2.1 = some z ∧ look (goesOf D.rs) h z = some t := by
  unfold could at hp
  rw [List.getD_eq_getElem?_getD] at hp
  simp only [List.getElem?_cons_zero, Option.getD_some] at hp
  split at hp
  · rename_i q
    rw [Bool.and_eq_true] at q
    refine ⟨of_decide_eq_true q.1, ?_⟩
    cases hz : e.2.1 with
    | none => rw [hz] at q; cases q.2
    | some z =>
      rw [hz] at q
      obtain ⟨t, ht⟩ := Option.isSome_iff_exists.mp q.2
      exact ⟨z, t, rfl, ht⟩
  · omega
/-- what is allowed can be done -/
theorem okH_of (g : GoD D) (hn : c.length = D.ss.length) (hm : e ∈ D.ds) (hc : canDo D.ss h c e.1 = true) {hs : List Int} (hl : hs.length = D.ss.length + 1) (le : ∀ i, i < hs.length → hs.getD i 0 ≤ (could D h c e).getD i 0) : OkH D h e hs := by
  refine ⟨hl, fun i s hs' hp => ?_, fun hp => ?_, fun ne => ?_⟩
  · have il : i < D.ss.length := (List.getElem?_eq_some_iff.mp hs').1
    have := le (i + 1) (by omega)
    obtain ⟨z, t, h1, h2⟩ := could_st (h := h) (c := c) (e := e) hn hs' (by omega)
    obtain ⟨e', he', rfl⟩ := look_mem h2
    have ms : s ∈ D.ss := List.mem_of_getElem? hs'
    have mt : t ∈ D.ss := by
      rcases (g.orr _ he').2 with ⟨a, _⟩ | ⟨_, b⟩
      · exact absurd a (g.ap s ms)
      · exact b
    obtain ⟨j, hj⟩ := pos_some mt
    exact ⟨z, t, j, h1, h2, hj⟩
  · have := le 0 (by omega)
    exact (could_ho (D := D) (h := h) (c := c) (e := e) (by omega)).2
  · unfold canDo at hc
    rw [Bool.or_eq_true, decide_eq_true_eq, decide_eq_true_eq] at hc
    rcases hc with q | q
    · exact absurd q ne
    · cases hp : posN D.ss e.1 with
      | none =>
        unfold manyAt at q
        rw [hp] at q
        exact absurd q (by simp)
      | some i =>
        have m1 := pos_mem hp
        have m2 : e.2.2 ∈ D.ss := by
          rcases (g.od e hm).2 with ⟨a, _⟩ | ⟨_, b⟩
          · exact absurd a (g.ap _ m1)
          · exact b
        obtain ⟨j, hj⟩ := pos_some m2
        exact ⟨i, j, rfl, hj⟩
theorem within_le {bs ns : List Int} (h : withinB bs (some ns) = true) : ns.length = bs.length ∧ ∀ i, i < ns.length → 0 ≤ ns.getD i 0 ∧ ns.getD i 0 ≤ bs.getD i 0 := by
  have h' : (decide (ns.length = bs.length) && (ns.zip bs).all fun p => decide (0 ≤ p.1) && decide (p.1 ≤ p.2)) = true := h
  rw [Bool.and_eq_true, decide_eq_true_eq] at h'
  refine ⟨h'.1, fun i hi => ?_⟩
  have hb : i < bs.length := by omega
  have m : (ns[i], bs[i]) ∈ ns.zip bs := by
    refine List.mem_of_getElem? (i := i) ?_
    rw [List.getElem?_zip_eq_some]
    exact ⟨List.getElem?_eq_getElem hi, List.getElem?_eq_getElem hb⟩
  have := List.all_eq_true.mp h'.2 _ m
  simp only [Bool.and_eq_true, decide_eq_true_eq] at this
  rw [List.getD_eq_getElem?_getD, List.getD_eq_getElem?_getD, List.getElem?_eq_getElem hi, List.getElem?_eq_getElem hb]
  exact this
theorem allows_ok (g : GoD D) (hn : c.length = D.ss.length) {n : Int} {o : Option (List Int)} (ha : allowsDeed D h c n o = true) :
    ∃ (j : Nat) (e : En), n = (j : Int) ∧ D.ds[j]? = some e ∧ OkH D h e (heardOf D h c e o) := by
  unfold allowsDeed at ha
  rw [Bool.and_eq_true, Bool.and_eq_true, decide_eq_true_eq, decide_eq_true_eq] at ha
  obtain ⟨⟨n0, n1⟩, ha⟩ := ha
  obtain ⟨j, rfl⟩ := Int.eq_ofNat_of_zero_le n0
  have jl : j < D.ds.length := by omega
  rw [Int.toNat_natCast, List.getElem?_eq_getElem jl] at ha
  dsimp only at ha
  rw [Bool.and_eq_true] at ha
  refine ⟨j, D.ds[j], rfl, List.getElem?_eq_getElem jl, ?_⟩
  have hm : D.ds[j] ∈ D.ds := List.getElem_mem jl
  cases o with
  | none => exact okH_of g hn hm ha.1 (could_len hn) fun i _ => Int.le_refl _
  | some ns =>
    have h2 := ha.2
    split at h2
    · obtain ⟨l, w⟩ := within_le h2
      exact okH_of g hn hm ha.1 (by show ns.length = _; rw [l, could_len hn]) fun i hi => (w i hi).2
    · cases h2
end
def spA2 (K : PySem.W.Frag) (C : Addr) : Sp := fun vs H Q _ => ∃ (st l : Addr) (D : PartsD) (h : Str) (c : List Int) (v : V) (e : Evn), vs = [.ref st, .ref l, v] ∧ StepsAt K H C st D ∧ LotAt K H l h c ∧ c.length = D.ss.length ∧ GoD D ∧ Sw K H v (evD e) ∧ allowsE D h c e = true ∧
  ∀ p H', H p = none → Ex H H' → LotN H H' p (afterE D h c e) → Q (.ref p) H'
abbrev sA2 : Stmt := inClass (top 23) 4
abbrev NA2 : List Str := ["self", "lot", "event", "house", "counts", "left", "deed"]
theorem scA2 : FnScope NA2 ["self", "lot", "event"] (defScope sA2) := ⟨rfl, rfl, rfl, by decide +kernel, rfl, by decide +kernel, by decide +kernel⟩
theorem lotN_back {H H0 H' : Hp} {p : Addr} {x : Str × List Int} (e : Ex H H0) (h : LotN H0 H' p x) : LotN H H' p x := by
  obtain ⟨cl, a, b, c⟩ := h
  exact ⟨cl, a, b, fresh_back e c⟩
section
variable {P : Program} {w : World} {K : PySem.W.Frag} {mg : Str → Option Value} {base : Heap}
set_option maxHeartbeats 4000000 in
theorem ok_a2 {f C fAF fCo : Addr} {fd fdAF fdCo : FuncData} (F : Fun K "after" "Steps.after" sA2 f fd) (B : Bv mg) (cS : SC K C)
    (mCo : Meth K C "_could_hear" fCo) (FCo : FnOk P w K mg base CX0 1 fCo fdCo ["self", "lot", "deed"] (spCo K C)) (bCo : Binds K fdCo ["self", "lot", "deed"] [])
    (mAF : Meth K C "_after_deed" fAF) (FAF : FnOk P w K mg base CX0 1 fAF fdAF ["self", "lot", "deed", "heard"] (spAf K C)) (bAF : Binds K fdAF ["self", "lot", "deed", "heard"] []) :
    FnOk P w K mg base CX0 2 f fd ["self", "lot", "event"] (spA2 K C) := by
  refine F.ok scA2 (fun vs H Q E h => ?_) (fun cdv A outer s H vs Q E hr h => ?_)
  · obtain ⟨_, _, _, _, _, _, _, rfl, _⟩ := h
    rfl
  · obtain ⟨st, l, D, hh, cs, v, e, rfl, hst, hl, hn, g, hv, ha, k⟩ := h
    refine ⟨_, (pss_cons (ps_if (pt_cmpR op_eq (pe_ix ix_tup (pv 2) pe_int (fun _ _ => rfl)) pe_str (nomark _)) (pss_cons (ps_asg (pv 1) (pg_tup rfl (pgs_cons (pg_name (i := 3) scA2.nd rfl (Or.inl rfl)) (pgs_cons (pg_name (i := 4) scA2.nd rfl (Or.inl rfl)) pgs_nil))))
      (pss_cons (ps_set (i := 5) scA2.nd rfl (Or.inl rfl) (pe_callTy call_list_of (by rfl) B.list (by decide +kernel) (pa_cons (pv 4) pa_nil)))
      (pss_cons (ps_augS (pv 5) (pe_dget (hu_of hr) (pe_fld (pv 0) rfl) (pe_ix ix_tup (pv 2) pe_int (fun _ _ => rfl)) (fun _ _ => rfl)) get_list pe_int ip_sub set_list)
      (pss_one (ps_ret (pe_tup (pa_cons (pv 3) (pa_cons (pv 5) pa_nil)))))))) pss_nil)
      (pss_cons (ps_set (i := 6) scA2.nd rfl (Or.inl rfl) (pe_ix ix_list (pe_fld (pv 0) rfl) (pe_ix ix_tup (pv 2) pe_int (fun _ _ => rfl)) (fun _ _ => rfl)))
      (pss_cons (ps_if (pt_cmpR op_isN (pe_ix ix_tup (pv 2) pe_int (fun _ _ => rfl)) pe_non (nomark _)) (pss_one (ps_ret (pe_meth (pv 0) cS.cl mAF FAF (hr.mono (by decide)) bAF .nil pass0 (pa_cons (pv 1) (pa_cons (pv 6) (pa_cons (pe_meth (pv 0) cS.cl mCo FCo (hr.mono (by decide)) bCo .nil pass0 (pa_cons (pv 1) (pa_cons (pv 6) pa_nil))) pa_nil)))))) pss_nil)
      (pss_one (ps_ret (pe_meth (pv 0) cS.cl mAF FAF (hr.mono (by decide)) bAF .nil pass0 (pa_cons (pv 1) (pa_cons (pv 6) (pa_cons (pe_ix ix_tup (pv 2) pe_int (fun _ _ => rfl)) pa_nil))))))))), ?_⟩
    obtain ⟨dx, b1, b2, b3, b4, b5, h0, h1, ⟨xs, h2, hw⟩, h3, h44, h5⟩ := hst.ex
    have ho : ∀ G, Ex H G → G st = some (.ins C dx [("_stands", .ref b1), ("_deeds", .ref b2), ("_lost", .ref b3), ("_index", .ref b4), ("_goes_to", .ref b5)]) := fun G a => a _ _ h0
    cases e with
    | other d => cases ha
    | fall s =>
      obtain ⟨t, rfl, qt⟩ := sw_fall hv
      obtain ⟨cl, q1, q2⟩ := hl
      have hp : manyAt D.ss cs s > 0 := of_decide_eq_true ha
      obtain ⟨i, hi⟩ : ∃ i, posN D.ss s = some i := by
        cases q : posN D.ss s with
        | none =>
          unfold manyAt at hp
          rw [q] at hp
          exact absurd hp (by simp)
        | some i => exact ⟨i, rfl⟩
      have ai : at_ D.ss s = i := by
        unfold at_
        rw [hi]
        rfl
      refine q_when (b := true) (et_test (ev_is (ev_op (ev_op (ev_var rfl) ev_c (rv_ixT qt (atI_nat (j := 0) rfl))) ev_c (rv_eq rfl)) (by simp))) (fun _ H1 e1 => ?_) (fun z => nomatch z)
      refine ⟨_, rfl, l, _, rfl, ex_t e1 q1, rfl, _, _, rfl, _, _, rfl, rfl, ?_⟩
      refine q_asgL (xs := VInt cs) (el_list (ev_var rfl) (ex_l e1 q2)) fun mv H2 nm e2 hm => ?_
      have E2 := e1.trans e2
      refine q_augL (f := fun i j => i - j) (y := 1) (ev_var rfl) (ev_dget (v := .int (i : Int)) (ev_fld rfl (ho _ E2) cS.cl cS.n4 rfl) (ev_op (ev_var rfl) ev_c (rv_ixT (ex_t E2 qt) (atI_nat (j := 1) rfl))) fun G a => by
        have gg := get_ix (E2.trans a) h44 s
        rw [hi] at gg
        exact gg) ev_c hm (by rw [hn]; exact (pos_lt hi).1) fun H3 e3 => ?_
      have nm0 : H mv = none := fresh_back e1 nm
      have E3 : Ex H (upd H3 mv (.lst (VInt (cs.set i (cs.getD i 0 - 1))))) := (E2.trans e3).mut nm0
      refine s_retU (eu_tup (ea_cons (ev_var rfl) (ea_cons (ev_var rfl) ea_nil)) (by simp)) fun p H4 np e4 hp4 => ?_
      refine k p H4 (fresh_back E3 np) (E3.trans e4) ⟨mv, hp4, ?_, nm0⟩
      show H4 mv = some (.lst (VInt (cs.set (at_ D.ss s) (cs.getD (at_ D.ss s) 0 - 1))))
      rw [ai]
      exact e4 _ _ upd_same
    | deed n o =>
      obtain ⟨t, y, rfl, qt, wy⟩ := sw_deed hv
      obtain ⟨j, e, rfl, hj, ok⟩ := allows_ok g hn (show allowsDeed D hh cs n o = true from ha)
      have eA : afterE D hh cs (.deed (j : Int) o) = afterDeed D hh cs e (heardOf D hh cs e o) := by
        show (match D.ds[(j : Int).toNat]? with
          | none => (hh, cs)
          | some e => afterDeed D hh cs e (heardOf D hh cs e o)) = _
        rw [Int.toNat_natCast, hj]
      have xl : xs.length = D.ds.length := by
        have := swAll_len hw
        rw [List.length_map] at this
        exact this
      have jl : j < D.ds.length := (List.getElem?_eq_some_iff.mp hj).1
      obtain ⟨dd, hdd, wd⟩ := swAll_get hw (List.getElem?_eq_getElem (by rw [xl]; exact jl : j < xs.length))
      rw [List.getElem?_map, hj] at hdd
      obtain rfl : enD e = dd := Option.some.inj hdd
      obtain ⟨d, hx, hd⟩ := sw_en wd
      have it : ∀ G, Ex H G → ∀ (σ : L2.St), σ[2]? = some (some (.ref t)) → ∀ (i : Nat) (z : V), [V.str "deed", .int (j : Int), y][i]? = some z → Ev (tOp (rIxT K) (tVar 2) (tC (.int (i : Int)))) σ G z := fun G a σ hσ i z hz => ev_op (ev_var hσ) ev_c (rv_ixT (ex_t a qt) (atI_nat hz))
      refine q_when (b := false) (et_test (ev_is (ev_op (it H (Ex.refl _) _ rfl 0 _ rfl) ev_c (rv_eq rfl)) (congrArg V.bl (by rw [vstr_eq]; decide +kernel)))) (fun z => nomatch z) (fun _ H1 e1 => ?_)
      refine q_asg (v := .ref d) (ev_op (ev_fld rfl (ho H1 e1) cS.cl cS.n2 rfl) (it H1 e1 _ rfl 1 _ rfl) (rv_ixL (SqL.of (e1 _ _ h2)) (atI_nat (by rw [List.getElem?_eq_getElem (by rw [xl]; exact jl : j < xs.length), hx])))) fun H2 e2 => ?_
      have E2 := e1.trans e2
      refine q_when (b := o.isNone) (et_test (ev_is (ev_op (it H2 E2 _ rfl 2 _ rfl) ev_c fun H5 _ Q5 q5 => ⟨rfl, q5 H5 (Ex.refl _)⟩) ?_)) ?_ ?_
      · cases o with
        | none =>
          cases wy
          rfl
        | some ns =>
          obtain ⟨a, rfl, _⟩ := sw_heard wy
          rfl
      · intro ho1 H3 e3
        obtain rfl : o = none := by cases o <;> first | rfl | cases ho1
        have E3 := E2.trans e3
        refine ⟨_, rfl, st, _, _, rfl, ho _ E3, rfl, _, rfl, _, rfl, _, rfl, st, _, _, rfl, ho _ E3, rfl, _, rfl, _, rfl, st, l, d, D, hh, cs, e, rfl, hst.ex' E3, hl.ex E3, hn, g.s.2, ex_t E3 hd, fun p H4 np e4 hp => ?_⟩
        have E4 := E3.trans e4
        refine ⟨st, l, d, p, D, hh, cs, e, could D hh cs e, rfl, hst.ex' E4, hl.ex E4, hn, ex_t E4 hd, SqT.of hp, ok, fun r H5 nr e5 lr => ?_⟩
        exact k r H5 (fresh_back E4 nr) (E4.trans e5) (by rw [eA]; exact lotN_back E4 lr)
      · intro ho1 H3 e3
        obtain ⟨ns, rfl⟩ : ∃ ns, o = some ns := by cases o <;> first | exact ⟨_, rfl⟩ | cases ho1
        obtain ⟨b, rfl, qb⟩ := sw_heard wy
        have E3 := E2.trans e3
        refine ⟨_, rfl, st, _, _, rfl, ho _ E3, rfl, _, rfl, _, rfl, ?_⟩
        refine it H3 E3 _ rfl 2 _ rfl H3 (Ex.refl _) _ fun H4 e4 => ?_
        have E4 := E3.trans e4
        refine ⟨st, l, d, b, D, hh, cs, e, ns, rfl, hst.ex' E4, hl.ex E4, hn, ex_t E4 hd, ex_t E4 qb, ok, fun r H5 nr e5 lr => ?_⟩
        exact k r H5 (fresh_back E4 nr) (E4.trans e5) (by rw [eA]; exact lotN_back E4 lr)
end
end Af2

/-! ### Steps.__init__ -/
namespace Ini
open PySem PySem.Spec PyProof.Rows L2 Evl Gen Ent Rep Dat Nm Er Chk Gu Deed Pts Hear Lst Bk Cau EvD BadE EntR Lis Prd NmR Bmk EqB God Oth LwP Inf Stp Stq RZ Wth Sta Aft Af2
theorem w_it {J : It} {n : Nat} {G : Hp → Prop} {Y : Nat → Hp → V → Hp → Prop} (w : Walk J n G Y) {Body : (Hp → Prop) → V → Hp → Prop} {H0 : Hp} {Qd : Hp → Prop} (Pv : Nat → Hp → Prop) (h0 : Pv 0 H0) (hG : ∀ i H, i ≤ n → Pv i H → G H)
    (hs : ∀ i x H H', i < n → Pv i H → Y i H x H' → Body (Pv (i + 1)) x H') (hd : ∀ H, Pv n H → Qd H) :
    ∃ W : Nat → Nat → Hp → Prop, (∃ m, W 0 m H0) ∧ ∀ i m H, W i m H → (J.stop i H ∧ Qd H) ∨ (J.go i H ∧ ∃ N : Hp → Prop, (∀ H', N H' → ∃ m', m' < m ∧ W (i + 1) m' H') ∧ ∀ x H', J.yld i H x H' → Body N x H') := by
  refine ⟨fun i m H => m = n - i ∧ i ≤ n ∧ Pv i H, ⟨n, by simp, Nat.zero_le _, h0⟩, fun i m H ⟨e, le, p⟩ => ?_⟩
  have hg := hG i H le p
  by_cases lt : i < n
  · exact .inr ⟨w.goes i H lt hg, Pv (i + 1), fun H' p' => ⟨n - (i + 1), by omega, rfl, lt, p'⟩, fun x H' y => hs i x H H' lt p (w.yields i H x H' lt hg y)⟩
  · obtain rfl : i = n := by omega
    exact .inl ⟨w.stops H hg, hd H p⟩
def BkP (K : PySem.W.Frag) (H : Hp) (C p : Addr) (D : PartsD) : Prop := BookD K H C p (strsD D.hs) (strsD D.ss) (.list (D.ds.map enD)) (.list (D.rs.map enD)) (strsD D.ls)
theorem strs_inv {K : PySem.W.Frag} {H : Hp} : ∀ {l : List Str} {xs : List V}, SwAll K H xs (l.map PyData.str) → xs = l.map V.str
  | [], _, h => by
    cases h
    rfl
  | z :: l, _, h => by
    cases h with
    | cons a b =>
      cases a
      rw [strs_inv b]
      rfl
def spIi (K : PySem.W.Frag) (CB C : Addr) : Sp := fun vs H Q _ => ∃ (p dx bk : Addr) (D : PartsD), vs = [.ref p, .ref bk] ∧ H p = some (.ins C dx []) ∧ BkP K H CB bk D ∧ GoD D ∧ ∀ H', Mv p H H' → StepsAt K H' C p D → Q .non H'
abbrev sIi : Stmt := inClass (top 23) 0
theorem ex_none {H H' : Hp} {a : Addr} (e : Ex H H') (n : H' a = none) : H a = none := by
  cases h : H a with
  | none => rfl
  | some o =>
    have := e a o h
    rw [n] at this
    cases this
theorem isBook_mv {H H' : Hp} {C CB p dx bk : Addr} {fs : List (Str × V)} {BB : BD} (hp : H p = some (.ins C dx fs)) (hl : ∀ v1 v2 v3 v4 v5 : V, fs ≠ ([("_houses", v1), ("_stands", v2), ("_deeds", v3), ("_hearings", v4), ("_lost", v5)] : List (Str × V))) (m : Mv p H H') (h : IsBook H CB bk BB) : IsBook H' CB bk BB := by
  obtain ⟨dx2, b1, b2, b3, b4, b5, h0, h1, h2, h3, h4, h5⟩ := h
  have g : ∀ (a : Addr) (o : HO), H a = some o → (∀ C d f, o ≠ .ins C d f) → H' a = some o := fun a o ha hn => m _ _ (ne_of ha hp (fun z => hn _ _ _ z)) ha
  refine ⟨dx2, b1, b2, b3, b4, b5, m _ _ (ne_of h0 hp (fun z => ?_)) h0, g _ _ h1 (fun _ _ _ z => by cases z), g _ _ h2 (fun _ _ _ z => by cases z), g _ _ h3 (fun _ _ _ z => by cases z), g _ _ h4 (fun _ _ _ z => by cases z), g _ _ h5 (fun _ _ _ z => by cases z)⟩
  simp only [HO.ins.injEq] at z
  exact hl _ _ _ _ _ z.2.2.symm
theorem isBook_ins {H : Hp} {CB bk : Addr} {BB : BD} {m : Str} (h : IsBook H CB bk BB) (hm : ∀ v1 v2 v3 v4 v5 : V, ([("_houses", v1), ("_stands", v2), ("_deeds", v3), ("_hearings", v4), ("_lost", v5)] : List (Str × V)).lookup m = none) : ∃ dx fs, H bk = some (.ins CB dx fs) ∧ fs.lookup m = none := by
  obtain ⟨dx2, b1, b2, b3, b4, b5, h0, _⟩ := h
  exact ⟨dx2, _, h0, hm _ _ _ _ _⟩
/-- self.f = book.m() -/
theorem st_get {K : PySem.W.Frag} {C CB p dx bk : Addr} {fs : List (Str × V)} {BB : BD} {f m : Str} {sel : BD → List V} {E : XK} {σ : L2.St} {G : Hp} {D : Ends} {tz : TS} (s0 : σ[0]? = some (some (.ref p))) (s1 : σ[1]? = some (some (.ref bk))) (hp : G p = some (.ins C dx fs)) (hb : IsBook G CB bk BB)
    (hm : ∀ v1 v2 v3 v4 v5 : V, ([("_houses", v1), ("_stands", v2), ("_deeds", v3), ("_hearings", v4), ("_lost", v5)] : List (Str × V)).lookup m = none) (hc : Cls K C) (hn : NoAttr K C f) (hl : fs.length < 1000)
    (k : ∀ q G', G q = none → Mv p G G' → G' p = some (.ins C dx (putF f (.ref q) fs)) → G' q = some (.lst (sel BB)) → tz D σ G') : tSeq (sFld K (tVar 0) (tMeth CB m (spGet CB sel) [] E (tVar 1) tNil) f) tz D σ G := by
  obtain ⟨dx2, fs2, hbk, lk⟩ := isBook_ins hb hm
  refine ⟨_, s1, bk, dx2, fs2, rfl, hbk, lk, bk, BB, rfl, hb, fun q H' nq e hq => ⟨_, s0, p, C, dx, fs, rfl, e _ _ hp, hc, hn, hl, ?_⟩⟩
  have ne : q ≠ p := (ne_of_none hp nq).symm
  exact k q _ nq ((Mv.of e).trans Mv.upd) upd_same (by rw [upd_ne ne]; exact hq)
theorem ixs_take {ss : List Str} {i : Nat} {s : Str} (h : ss[i]? = some s) : ixs (ss.take (i + 1)) = ixs (ss.take i) ++ [(.inr s, .int (i : Int))] := by
  have il : i < ss.length := (List.getElem?_eq_some_iff.mp h).1
  unfold ixs
  rw [List.take_succ, h, List.zipIdx_append, List.map_append]
  simp [Nat.min_eq_left (Nat.le_of_lt il)]
theorem goes_take {rs : List En} {i : Nat} {x z t : Str} (h : rs[i]? = some (x, some z, t)) : kv (goesOf (rs.take (i + 1))) = kv (goesOf (rs.take i)) ++ [([.inr x, .inr z], .str t)] := by
  unfold goesOf kv
  rw [List.take_succ, h, List.filterMap_append, List.map_append]
  rfl
theorem goes_none {rs : List En} {i : Nat} {x z t : Str} (nd : (rs.map key).Nodup) (h : rs[i]? = some (x, some z, t)) : valV (kv (goesOf (rs.take i))) [.inr x, .inr z] = none := by
  rw [val_kv]
  cases q : look (goesOf (rs.take i)) x z with
  | none => rfl
  | some y =>
    exfalso
    obtain ⟨e, he, rfl⟩ := look_mem q
    have := nodup_not (f := key) (l := rs) (j := i) nd h
    exact this (List.mem_map.mpr ⟨_, he, rfl⟩)
theorem ixs_none {ss : List Str} {i : Nat} {s : Str} (nd : ss.Nodup) (h : ss[i]? = some s) : valV (ixs (ss.take i)) (.inr s) = none := by
  rw [val_ixs]
  cases q : posN (ss.take i) s with
  | none => rfl
  | some j =>
    exfalso
    have := nodup_not (f := id) (l := ss) (j := i) (e := s) (by simpa using nd) h
    exact this (by simpa using pos_mem q)
theorem ixs_len (ss : List Str) : (ixs ss).length = ss.length := by simp [ixs]
theorem goes_len (rs : List En) : (kv (goesOf rs)).length ≤ rs.length := by
  unfold kv goesOf
  rw [List.length_map]
  exact List.length_filterMap_le _ _
abbrev NIi : List Str := ["self", "book", "at", "stand", "place", "sound", "other"]
theorem scIi : FnScope NIi ["self", "book"] (defScope sIi) := ⟨rfl, rfl, rfl, by decide +kernel, rfl, by decide +kernel, by decide +kernel⟩
section
variable {P : Program} {w : World} {K : PySem.W.Frag} {mg : Str → Option Value} {base : Heap}
set_option maxHeartbeats 4000000 in
theorem ok_ii {f C CB fS fD fL fH : Addr} {fd fdS fdD fdL fdH : FuncData} (F : Fun K "__init__" "Steps.__init__" sIi f fd) (B : Bv mg) (cS : SC K C) (cB : BC K CB)
    (mS : Meth K CB "stands" fS) (FS : FnOk P w K mg base CX0 1 fS fdS ["self"] (spGet CB (·.s))) (bS : Binds K fdS ["self"] []) (mD : Meth K CB "deeds" fD) (FD : FnOk P w K mg base CX0 1 fD fdD ["self"] (spGet CB (·.d))) (bD : Binds K fdD ["self"] [])
    (mL : Meth K CB "lost" fL) (FL : FnOk P w K mg base CX0 1 fL fdL ["self"] (spGet CB (·.l))) (bL : Binds K fdL ["self"] []) (mH : Meth K CB "hearings" fH) (FH : FnOk P w K mg base CX0 1 fH fdH ["self"] (spGet CB (·.r))) (bH : Binds K fdH ["self"] []) :
    FnOk P w K mg base CX0 2 f fd ["self", "book"] (spIi K CB C) := by
  refine F.ok scIi (fun vs H Q E h => ?_) (fun cdv A outer s H vs Q E hr h => ?_)
  · obtain ⟨_, _, _, _, rfl, _⟩ := h
    rfl
  · obtain ⟨p, dx, bk, D, rfl, hp, hb, g, k⟩ := h
    refine ⟨_, (pss_cons (ps_fld (pv 0) (pe_meth0 (pv 1) cB.cl mS FS (hr.mono (by decide)) bS .nil pass0) rfl)
      (pss_cons (ps_fld (pv 0) (pe_meth0 (pv 1) cB.cl mD FD (hr.mono (by decide)) bD .nil pass0) rfl)
      (pss_cons (ps_fld (pv 0) (pe_meth0 (pv 1) cB.cl mL FL (hr.mono (by decide)) bL .nil pass0) rfl)
      (pss_cons (ps_fld (pv 0) (pe_dc (own := [("at", 2), ("stand", 3)]) (g := gTup K 2 (gCons (gName 2) (gCons (gName 3) gNil))) (tt := tYes) (tk := tVar 3) (tv := tVar 2) rfl scIi.nd (pi_enum (by rfl) B.enum (pa_cons (pe_fld (pv 0) rfl) pa_nil)) (blkOk_by (N := NIi) (sc := defScope sIi) (by decide +kernel)) (fun _ _ _ _ _ => (pg_tup rfl (pgs_cons (pg_name (i := 2) scIi.nd rfl (Or.inl rfl)) (pgs_cons (pg_name (i := 3) scIi.nd rfl (Or.inl rfl)) pgs_nil)))) (fun _ _ _ _ _ => pts_nil) (fun _ _ _ _ _ => pv 3) (fun _ _ _ _ _ => pv 2)) rfl)
      (pss_one (ps_fld (pv 0) (pe_dcT (own := [("place", 4), ("sound", 5), ("other", 6)]) (g := gTup K 3 (gCons (gName 4) (gCons (gName 5) (gCons (gName 6) gNil)))) (tt := tYes) (tk := tTup (tCons (tVar 4) (tCons (tVar 5) tNil))) (tv := tVar 6) (hu_of hr) rfl scIi.nd (pi_list (pe_meth0 (pv 1) cB.cl mH FH (hr.mono (by decide)) bH .nil pass0)) (blkOk_by (N := NIi) (sc := defScope sIi) (by decide +kernel)) (fun _ _ _ _ _ => (pg_tup rfl (pgs_cons (pg_name (i := 4) scIi.nd rfl (Or.inl rfl)) (pgs_cons (pg_name (i := 5) scIi.nd rfl (Or.inl rfl)) (pgs_cons (pg_name (i := 6) scIi.nd rfl (Or.inl rfl)) pgs_nil))))) (fun _ _ _ _ _ => pts_nil) (fun _ _ _ _ _ => (pe_tup (pa_cons (pv 4) (pa_cons (pv 5) pa_nil)))) (fun _ _ _ _ _ => pv 6)) rfl)))))), ?_⟩
    obtain ⟨BB, ib, w1, w2, w3, w4, w5⟩ := hb
    have hne : ∀ (fs : List (Str × V)), fs.length < 5 → ∀ v1 v2 v3 v4 v5 : V, fs ≠ ([("_houses", v1), ("_stands", v2), ("_deeds", v3), ("_hearings", v4), ("_lost", v5)] : List (Str × V)) := fun fs l v1 v2 v3 v4 v5 z => by
      rw [z] at l
      exact absurd l (Nat.lt_irrefl 5)
    -- stands
    refine st_get rfl rfl hp ib (fun _ _ _ _ _ => rfl) cS.cl cS.n1 (by decide) fun q1 H1 n1 m1 p1 l1 => ?_
    have ib1 := isBook_mv hp (hne _ (by decide)) m1 ib
    refine st_get rfl rfl p1 ib1 (fun _ _ _ _ _ => rfl) cS.cl cS.n2 (by show 1 < 1000; decide) fun q2 H2 n2 m2 p2 l2 => ?_
    have ib2 := isBook_mv p1 (hne _ (by show 1 < 5; decide)) m2 ib1
    refine st_get rfl rfl p2 ib2 (fun _ _ _ _ _ => rfl) cS.cl cS.n3 (by show 2 < 1000; decide) fun q3 H3 n3 m3 p3 l3 => ?_
    have ib3 := isBook_mv p2 (hne _ (by show 2 < 5; decide)) m3 ib2
    have l1' : H3 q1 = some (.lst (D.ss.map V.str)) := by
      rw [← strs_inv w2]
      exact m3 _ _ (ne_of (m2 _ _ (ne_of l1 p1 (by intro z; cases z)) l1) p2 (by intro z; cases z)) (m2 _ _ (ne_of l1 p1 (by intro z; cases z)) l1)
    -- index
    refine ev_fld (H := H3) (a := p) rfl p3 cS.cl cS.n1 rfl H3 (Ex.refl H3) _ fun H4 e4 => ⟨q1, D.ss.map V.str, rfl, SqL.of (e4 _ _ l1'), fun d nd => w_it (walk_enum (xs := D.ss.map V.str)) (fun i G => Ex H4 G ∧ G d = some (.dK (ixs (D.ss.take i)))) ⟨Ex.new nd, by rw [upd_same]; rfl⟩ (fun i G _ pv => SqL.of (pv.1 _ _ (e4 _ _ l1'))) (fun i x G G' hi pv y => ?_) fun G pv => ?_⟩
    · obtain ⟨T, x1, x2, rfl, nT, rfl, y1, y2⟩ := y
      cases y1
      have y3 : (D.ss.map V.str)[i]? = some x2 := y2
      rw [List.getElem?_map] at y3
      obtain ⟨s, hs, rfl⟩ := Option.map_eq_some_iff.mp y3
      have e5 : Ex G (upd G T (.tup [.int (i : Int), .str s])) := Ex.new nT
      have hT : SqT K (upd G T (.tup [.int (i : Int), .str s])) T [.int (i : Int), .str s] := SqT.of upd_same
      generalize upd G T (.tup [.int (i : Int), .str s]) = G5 at e5 hT
      refine ⟨T, _, rfl, hT, rfl, _, _, rfl, _, _, rfl, rfl, rfl, ?_⟩
      have hd5 := e5 _ _ pv.2
      refine ⟨_, rfl, _, rfl, ixs (D.ss.take i), .inr s, rfl, hd5, ?_, (pv.1.trans e5).mut nd, ?_⟩
      · rw [ixs_len, List.length_take]
        exact Nat.lt_of_le_of_lt (Nat.min_le_right _ _) (Nat.lt_of_le_of_lt g.s.2 (by decide))
      · rw [upd_same, putK_new _ (ixs_none g.dst hs), ixs_take hs]
    · obtain ⟨e5, hd⟩ := pv
      rw [List.length_map, List.take_length] at hd
      have E5 := e4.trans e5
      refine ⟨_, rfl, p, C, dx, _, rfl, E5 _ _ p3, cS.cl, cS.n4, (by show 3 < 1000; decide), ?_⟩
      have p5 := upd_same (H := G) (a := p) (o := HO.ins C dx (putF "_index" (.ref d) (putF "_lost" (.ref q3) (putF "_deeds" (.ref q2) (putF "_stands" (.ref q1) [])))))
      have nd3 : H3 d = none := ex_none e4 nd
      have ndp : d ≠ p := (ne_of_none p3 nd3).symm
      have hd5 : upd G p (.ins C dx (putF "_index" (.ref d) (putF "_lost" (.ref q3) (putF "_deeds" (.ref q2) (putF "_stands" (.ref q1) []))))) d = some (.dK (ixs D.ss)) := by
        rw [upd_ne ndp]
        exact hd
      have m5 : Mv p H3 (upd G p (.ins C dx (putF "_index" (.ref d) (putF "_lost" (.ref q3) (putF "_deeds" (.ref q2) (putF "_stands" (.ref q1) [])))))) := (Mv.of E5).trans Mv.upd
      generalize upd G p (.ins C dx (putF "_index" (.ref d) (putF "_lost" (.ref q3) (putF "_deeds" (.ref q2) (putF "_stands" (.ref q1) []))))) = H5 at p5 hd5 m5
      have ib5 := isBook_mv p3 (hne _ (by show 3 < 5; decide)) m5 ib3
      obtain ⟨dx2, fs2, hbk, lk⟩ := isBook_ins (m := "hearings") ib5 (fun _ _ _ _ _ => rfl)
      refine ⟨_, rfl, bk, dx2, fs2, rfl, hbk, lk, bk, BB, rfl, ib5, fun r H6 nr e6 hr6 => ⟨r, rfl, ⟨_, SqL.of hr6⟩, fun t nt => ?_⟩⟩
      have M6 : Mv p H H6 := (((m1.trans m2).trans m3).trans m5).trans (Mv.of e6)
      have w46 := swAll_mv hp M6 _ _ w4
      have xl : BB.r.length = D.rs.length := by rw [swAll_len w4]; exact List.length_map ..
      refine w_it (walk_list (xs := BB.r)) (fun i G => Ex H6 G ∧ G t = some (.dT (kv (goesOf (D.rs.take i))))) ⟨Ex.new nt, by rw [upd_same]; rfl⟩ (fun i G _ pv => SqL.of (pv.1 _ _ hr6)) (fun i x G1 G2 hi pv y => ?_) fun G1 pv => ?_
      · obtain ⟨rfl, hx⟩ := y
        obtain ⟨dd, hdd, wd⟩ := swAll_get w46 hx
        have hdd' : (D.rs.map enD)[i]? = some dd := hdd
        rw [List.getElem?_map] at hdd'
        obtain ⟨e, he, rfl⟩ := Option.map_eq_some_iff.mp hdd'
        obtain ⟨T, rfl, hT⟩ := sw_en wd
        obtain ⟨⟨z, hz, _⟩, _⟩ := g.orr e (List.mem_of_getElem? he)
        obtain ⟨ex, ez, et⟩ := e
        have hz' : ez = some z := hz
        subst hz'
        refine ⟨T, _, rfl, ex_t pv.1 hT, rfl, _, _, rfl, _, _, rfl, _, _, rfl, rfl, rfl, ?_⟩
        refine ⟨_, rfl, _, rfl, by show 2 ≤ sizeLine; decide, fun kb nk => ⟨_, rfl, kb, kv (goesOf (D.rs.take i)), [.inr ex, .inr z], rfl, by rw [upd_same]; rfl, ?_, ?_, ?_, ?_⟩⟩
        · rw [upd_ne (ne_of_none pv.2 nk)]
          exact pv.2
        · refine Nat.lt_of_le_of_lt (goes_len _) ?_
          rw [List.length_take]
          exact Nat.lt_of_le_of_lt (Nat.min_le_right _ _) (Nat.lt_of_le_of_lt g.r (by decide))
        · exact (pv.1.trans (Ex.new nk)).mut nt
        · rw [upd_same, putK_new _ (goes_none g.dr he), goes_take he]
      · obtain ⟨e7, ht⟩ := pv
        rw [xl, List.take_length] at ht
        have E7 := e6.trans e7
        refine ⟨_, rfl, p, C, dx, _, rfl, E7 _ _ p5, cS.cl, cS.n5, (by show 4 < 1000; decide), ?_⟩
        have M7 : Mv p H (upd G1 p (.ins C dx (putF "_goes_to" (.ref t) (putF "_index" (.ref d) (putF "_lost" (.ref q3) (putF "_deeds" (.ref q2) (putF "_stands" (.ref q1) []))))))) := (M6.trans (Mv.of e7)).trans Mv.upd
        refine k _ M7 ⟨dx, q1, q2, q3, d, t, upd_same, ?_, ⟨BB.d, ?_, swAll_mv hp M7 _ _ w3⟩, ?_, ?_, ?_⟩
        · have a5 := m5 _ _ (ne_of l1' p3 (by intro z; cases z)) l1'
          rw [upd_ne (ne_of (E7 _ _ a5) (E7 _ _ p5) (by intro z; cases z))]
          exact E7 _ _ a5
        · have a3 := m3 _ _ (ne_of l2 p2 (by intro z; cases z)) l2
          have a5 := m5 _ _ (ne_of a3 p3 (by intro z; cases z)) a3
          rw [upd_ne (ne_of (E7 _ _ a5) (E7 _ _ p5) (by intro z; cases z))]
          exact E7 _ _ a5
        · have l3' : H3 q3 = some (.lst (D.ls.map V.str)) := by
            rw [← strs_inv w5]
            exact l3
          have a5 := m5 _ _ (ne_of l3' p3 (by intro z; cases z)) l3'
          rw [upd_ne (ne_of (E7 _ _ a5) (E7 _ _ p5) (by intro z; cases z))]
          exact E7 _ _ a5
        · rw [upd_ne ndp]
          exact E7 _ _ hd5
        · have nt5 : t ≠ p := (ne_of_none (e6 _ _ p5) nt).symm
          rw [upd_ne nt5]
          exact ht
end
end Ini

/-! ### what is a lot -/
namespace Rna
open PySem PySem.Spec PyProof.Rows L2 Evl Gen Ent Rep Dat Nm Er Chk Gu Deed Pts Hear Lst Bk Cau EvD BadE EntR Lis Prd NmR Bmk EqB God Oth LwP Inf Stp Stq RZ Wth Sta Aft Af2 Ini
def whNN : PyData → Bool
  | .int i => decide (0 ≤ i)
  | _ => false
def isCnt (n : Nat) : PyData → Bool
  | .list ds => decide (ds.length = n) && ds.all whNN
  | _ => false
def isLot (D : PartsD) : PyData → Bool
  | .tuple [a, b] => sIn D.hs a && isCnt D.ss.length b
  | _ => false
def lotD (h : Str) (c : List Int) : PyData := .tuple [.str h, .list (c.map .int)]
def spCB (K : PySem.W.Frag) (CB CI : Addr) : Sp := fun vs H Q E => ∃ v, vs = [v] ∧ ((∃ d, Sw K H v d ∧ Bad CI v H E) ∨ ∃ bk D, v = .ref bk ∧ BkP K H CB bk D ∧ ∀ H', Ex H H' → Q .non H')
abbrev sCB : Stmt := top 19
theorem scCB : FnScope ["value"] ["value"] (defScope sCB) := ⟨rfl, rfl, rfl, by decide +kernel, rfl, by decide +kernel, by decide +kernel⟩
def spIC (K : PySem.W.Frag) (CB : Addr) : Sp := fun vs H Q _ => ∃ (bk : Addr) (v : V) (D : PartsD) (d : PyData), vs = [.ref bk, v] ∧ BkP K H CB bk D ∧ D.ss.length ≤ 4 ∧ Sw K H v d ∧ ∀ H', Ex H H' → Q (.bl (isCnt D.ss.length d)) H'
abbrev sIc : Stmt := top 25
abbrev NIc : List Str := ["book", "value", "many"]
theorem scIc : FnScope NIc ["book", "value"] (defScope sIc) := ⟨rfl, rfl, rfl, by decide +kernel, rfl, by decide +kernel, by decide +kernel⟩
def spIL (K : PySem.W.Frag) (CB : Addr) : Sp := fun vs H Q _ => ∃ (bk : Addr) (v : V) (D : PartsD) (d : PyData), vs = [.ref bk, v] ∧ BkP K H CB bk D ∧ D.ss.length ≤ 4 ∧ Sw K H v d ∧ ∀ H', Ex H H' → Q (.bl (isLot D d)) H'
abbrev sIl : Stmt := top 26
abbrev NIl : List Str := ["book", "value", "house", "counts"]
theorem scIl : FnScope NIl ["book", "value"] (defScope sIl) := ⟨rfl, rfl, rfl, by decide +kernel, rfl, by decide +kernel, by decide +kernel⟩
def spCL (K : PySem.W.Frag) (CB CL : Addr) : Sp := fun vs H Q E => ∃ (bk : Addr) (v : V) (D : PartsD) (d : PyData), vs = [.ref bk, v] ∧ BkP K H CB bk D ∧ D.ss.length ≤ 4 ∧ Sw K H v d ∧ (isLot D d = true → ∀ H', Ex H H' → Q .non H') ∧ (isLot D d = false → Bad CL v H E)
abbrev sCL : Stmt := top 27
theorem scCL : FnScope ["book", "value"] ["book", "value"] (defScope sCL) := ⟨rfl, rfl, rfl, by decide +kernel, rfl, by decide +kernel, by decide +kernel⟩
theorem sw_tup {K : PySem.W.Frag} {H : Hp} {v : V} {ds : List PyData} (h : Sw K H v (.tuple ds)) : ∃ a xs, v = .ref a ∧ SqT K H a xs ∧ SwAll K H xs ds := by
  cases h with
  | tup hq ha => exact ⟨_, _, rfl, hq, ha⟩
theorem sw_two {K : PySem.W.Frag} {H : Hp} {xs : List V} {d1 d2 : PyData} (h : SwAll K H xs [d1, d2]) : ∃ x y, xs = [x, y] ∧ Sw K H x d1 ∧ Sw K H y d2 := by
  cases h with
  | cons a1 h =>
    cases h with
    | cons a2 h =>
      cases h
      exact ⟨_, _, rfl, a1, a2⟩
/-- len(book.m()), book.m() asked -/
theorem ev_lenM {K : PySem.W.Frag} {CB bk : Addr} {BB : BD} {m : Str} {sel : BD → List V} {E : XK} {σ : L2.St} {H : Hp} {i : Nat} (hi : σ[i]? = some (some (.ref bk))) (hb : IsBook H CB bk BB)
    (hm : ∀ v1 v2 v3 v4 v5 : V, ([("_houses", v1), ("_stands", v2), ("_deeds", v3), ("_hearings", v4), ("_lost", v5)] : List (Str × V)).lookup m = none) : Ev (tCB (rLenS K) (tCons (tMeth CB m (spGet CB sel) [] E (tVar i) tNil) tNil)) σ H (.int ((sel BB).length : Int)) := fun H1 e Q q => by
  have hb1 := isBook_ex e hb
  obtain ⟨dx, fs, h0, lk⟩ := isBook_ins hb1 hm
  exact ⟨_, hi, bk, dx, fs, rfl, h0, lk, bk, BB, rfl, hb1, fun p H' np e' hp => ⟨p, sel BB, rfl, Or.inl (SqL.of hp), q H' e'⟩⟩
section
variable {P : Program} {w : World} {K : PySem.W.Frag} {mg : Str → Option Value} {base : Heap}
theorem ok_cb {f CB CI : Addr} {fd : FuncData} (F : Fun K "check_book" "check_book" sCB f fd) (B : Bv mg) (c : ErC P w K mg base "InvalidBook" "value" CI) (cB : BE K CB) (gB : mg "Book" = some (.ref CB)) : FnOk P w K mg base (CX P w) 3 f fd ["value"] (spCB K CB CI) := by
  refine F.okX scCB (fun vs H Q E h => ?_) (fun cdv A outer s H vs Q E hr h => ?_)
  · obtain ⟨v, rfl, _⟩ := h
    rfl
  · obtain ⟨v, rfl, k⟩ := h
    refine ⟨_, (pss_one (ps_if (pt_not (pt_val (pe_callB call_isi (by rfl) B.isi (by decide +kernel) (pa_cons (pv 0) (pa_cons (pe_glob (v := V.ref CB) (by rfl) gB rfl) pa_nil))))) (pss_one (ps_rE c rfl (hr.mono (by decide)) rfl (takes_of rfl rfl rfl rfl) (pa_cons (pv 0) pa_nil))) pss_nil)), ?_⟩
    rcases k with ⟨d, hd, kb⟩ | ⟨bk, D, rfl, ⟨BB, ⟨dx, b1, b2, b3, b4, b5, h0, _⟩, _⟩, kq⟩
    · refine s_when (b := true) (et_not (a := false) (et_test (fun H1 e Q1 q => ⟨_, rfl, v, .ref CB, .type (tyD d), .ref CB, false, rfl, .own CB, sw_ty (Sw.ex e _ _ hd), cB.kn d, q H1 (Ex.refl H1)⟩))) (fun _ H1 e1 => ?_) (fun z => nomatch z)
      exact ⟨v, rfl, fun dd H2 n2 e2 h2 => kb dd H2 (fresh_back e1 n2) (e1.trans e2) h2⟩
    · exact s_when (b := false) (et_not (a := true) (et_test (fun H1 e Q1 q => ⟨_, rfl, .ref bk, .ref CB, .ref CB, .ref CB, true, rfl, .own CB, .base (.ins (e _ _ h0) cB.c.cl cB.ha cB.hn cB.ht cB.hm), cB.kk, q H1 (Ex.refl H1)⟩))) (fun z => nomatch z) (fun _ H1 e1 => kq H1 e1)
set_option maxHeartbeats 2000000 in
theorem ok_ic {f CB fS : Addr} {fd fdS : FuncData} (F : Fun K "is_counts" "is_counts" sIc f fd) (B : Bv mg) (cB : BE K CB)
    (mS : Meth K CB "stands" fS) (FS : FnOk P w K mg base CX0 1 fS fdS ["self"] (spGet CB (·.s))) (bS : Binds K fdS ["self"] []) (DW : Df P w K mg base CX0 1 "is_whole" ["value"] (spWhole K)) : FnOk P w K mg base CX0 2 f fd ["book", "value"] (spIC K CB) := by
  refine F.ok scIc (fun vs H Q E h => ?_) (fun cdv A outer s H vs Q E hr h => ?_)
  · obtain ⟨_, _, _, _, rfl, _⟩ := h
    rfl
  · obtain ⟨bk, v, D, d, rfl, hb, h4, hd, k⟩ := h
    refine ⟨_, (pss_cons (ps_if (PW.pt (pw_or (pt_not (pt_val (pe_callB call_isi (by rfl) B.isi (by decide +kernel) (pa_cons (pv 1) (pa_cons (pe_bltn (v := .ty "list") (by rfl) B.list (by decide +kernel) rfl) pa_nil))))) (pw_or1 (pt_cmpR op_ne (pe_callB call_len_seq (by rfl) B.len PySem.boot_len (pa_cons (pv 1) pa_nil)) (pe_callB call_len_seq (by rfl) B.len PySem.boot_len (pa_cons (pe_meth0 (pv 0) cB.c.cl mS FS (hr.mono (by decide)) bS .nil pass0) pa_nil)) (nomark _))))) (pss_one (ps_ret pe_bl)) pss_nil)
      (pss_one (ps_ret (pe_callB (cr_all rfl) (by rfl) B.all (by decide +kernel) (pa_cons (pe_lc (own := [("many", 2)]) (g := gName 2) (tt := tYes) (te := tAndV (tCall (spWhole K) [] E0 (tCons (tVar 2) tNil)) (tOp (rI0 fun i j => .bl (decide (j ≤ i))) (tVar 2) (tC (.int 0)))) rfl scIc.nd (pi_list (pv 1)) (blkOk_by (N := NIc) (sc := defScope sIc) (by decide +kernel)) (fun _ _ _ _ _ => (pg_name (i := 2) scIc.nd rfl (Or.inl rfl))) (fun _ _ _ _ _ => pts_nil) (fun _ _ _ _ _ => (pe_and (pe_df DW hr pass0 (pa_cons (pv 2) pa_nil)) (pe_one (pe_cmpR op_ge (pv 2) pe_int (nomark _)))))) pa_nil))))), ?_⟩
    obtain ⟨BB, ib, w1, w2, w3, w4, w5⟩ := hb
    have sl : BB.s.length = D.ss.length := by rw [swAll_len w2]; exact List.length_map ..
    have h1 : Ev (tCB (rIsi K) (tCons (tVar 1) (tCons (tC (.ty "list")) tNil))) (start NIc [.ref bk, v]) H (.bl (isList d)) := ev_isi (ev_var rfl) hd (kit_list K d)
    cases hs : isList d with
    | false =>
      refine q_when (b := true) (et_or (a := true) (b := true) (et_not (a := false) (et_test (by rw [← hs]; exact h1))) (fun z => nomatch z)) (fun _ H1 e1 => s_ret ev_c fun H2 e2 => ?_) (fun z => nomatch z)
      have : isCnt D.ss.length d = false := by cases d <;> first | rfl | cases hs
      rw [← this]
      exact k H2 (e1.trans e2)
    | true =>
      obtain ⟨ds, rfl⟩ : ∃ ds, d = .list ds := by cases d <;> first | exact ⟨_, rfl⟩ | cases hs
      obtain ⟨a, xs, rfl, hq, ha⟩ := sw_list hd
      have xl := swAll_len ha
      refine q_when (b := !decide (ds.length = D.ss.length)) (et_is (et_or (a := false) (b := !decide (ds.length = D.ss.length)) (et_not (a := true) (et_test h1)) fun _ => et_test (ev_is (ev_op (ev_len (ev_var rfl) hq) (ev_lenM rfl ib (fun _ _ _ _ _ => rfl)) (rv_ne rfl)) ?_)) rfl) (fun hn H1 e1 => s_ret ev_c fun H2 e2 => ?_) (fun hn H1 e1 => ?_)
      · show V.bl (!decide (V.int (xs.length : Int) = V.int (BB.s.length : Int))) = _
        rw [xl, sl]
        by_cases c : ds.length = D.ss.length
        · simp [c]
        · have : ¬ V.int (ds.length : Int) = V.int (D.ss.length : Int) := fun z => c (by
            have := V.int.inj z
            omega)
          simp [c, this]
      · have e : isCnt D.ss.length (.list ds) = false := by
          have : decide (ds.length = D.ss.length) = false := by simpa using hn
          show (decide (ds.length = D.ss.length) && _) = false
          rw [this]
          rfl
        rw [← e]
        exact k H2 (e1.trans e2)
      · have hlen : ds.length = D.ss.length := by simpa using hn
        have e : isCnt D.ss.length (.list ds) = (ds.map whNN).all id := by
          show (decide (ds.length = D.ss.length) && _) = _
          rw [decide_eq_true hlen, Bool.true_and, List.all_map]
          rfl
        refine ⟨_, rfl, a, rfl, ⟨xs, ex_l e1 hq⟩, fun Dl hD => lc_it (walk_list (xs := xs)) (fun i H' => Ex H1 H' ∧ H' Dl = some (.lst (((ds.take i).map whNN).map V.bl))) ⟨Ex.new hD, upd_same⟩ (fun i H' _ p => ex_l (e1.trans p.1) hq) (fun i x H2 H3 hi p y => ?_) fun H2 p => ?_⟩
        · obtain ⟨e2, hD2⟩ := p
          obtain ⟨rfl, hx⟩ := y
          obtain ⟨dd, hdd, wd⟩ := swAll_get (SwAll.ex (e1.trans e2) _ _ ha) hx
          refine ⟨rfl, ?_⟩
          have hev : Ev (tAndV (tCall (spWhole K) [] E0 (tCons (tVar 2) tNil)) (tOp (rI0 fun i j => .bl (decide (j ≤ i))) (tVar 2) (tC (.int 0)))) [some (.ref bk), some (.ref a), some x] H3 (.bl (whNN dd)) := by
            have g1 : Ev (tCall (spWhole K) [] E0 (tCons (tVar 2) tNil)) [some (.ref bk), some (.ref a), some x] H3 (.bl (isWh dd)) := fun H4 e4 Q4 q4 => ⟨_, rfl, x, dd, rfl, Sw.ex e4 _ _ wd, fun H5 e5 => q4 H5 e5⟩
            cases hw : isWh dd with
            | false =>
              rw [hw] at g1
              exact ev_is (ev_andV (a := false) (b := false) g1 (fun z => nomatch z)) (by cases dd <;> first | rfl | cases hw)
            | true =>
              rw [hw] at g1
              obtain ⟨n, rfl⟩ : ∃ n, dd = .int n := by cases dd <;> first | exact ⟨_, rfl⟩ | cases hw
              cases wd
              exact ev_is (ev_andV (a := true) (b := decide (0 ≤ n)) g1 fun _ => ev_op (ev_var rfl) ev_c rv_I0) rfl
          have il : i < ds.length := by omega
          refine hev _ (Ex.refl _) _ fun H4 e4 => ⟨_, e4 _ _ hD2, sz_lt (by simp only [List.length_map, List.length_take]; omega), (e2.trans e4).mut hD, ?_⟩
          rw [upd_same, List.take_succ, hdd]
          simp
        · obtain ⟨e2, hD2⟩ := p
          rw [List.take_of_length_le (by omega)] at hD2
          refine ⟨Dl, _, rfl, SqL.of hD2, ?_⟩
          rw [← e]
          exact k H2 (e1.trans e2)
theorem ok_il {f CB fH : Addr} {fd fdH : FuncData} (F : Fun K "is_lot" "is_lot" sIl f fd) (B : Bv mg) (cB : BE K CB)
    (mH : Meth K CB "houses" fH) (FH : FnOk P w K mg base CX0 1 fH fdH ["self"] (spGet CB (·.h))) (bH : Binds K fdH ["self"] []) (DIc : Df P w K mg base CX0 2 "is_counts" ["book", "value"] (spIC K CB)) : FnOk P w K mg base CX0 3 f fd ["book", "value"] (spIL K CB) := by
  refine F.ok scIl (fun vs H Q E h => ?_) (fun cdv A outer s H vs Q E hr h => ?_)
  · obtain ⟨_, _, _, _, rfl, _⟩ := h
    rfl
  · obtain ⟨bk, v, D, d, rfl, hb, h4, hd, k⟩ := h
    refine ⟨_, (pss_cons (ps_if (PW.pt (pw_or (pt_not (pt_val (pe_callB call_isi (by rfl) B.isi (by decide +kernel) (pa_cons (pv 1) (pa_cons (pe_bltn (v := .ty "tuple") (by rfl) B.tuple (by decide +kernel) rfl) pa_nil))))) (pw_or1 (pt_cmpR op_ne (pe_callB call_len_seq (by rfl) B.len PySem.boot_len (pa_cons (pv 1) pa_nil)) pe_int (nomark _))))) (pss_one (ps_ret pe_bl)) pss_nil)
      (pss_cons (ps_asg (pv 1) (pg_tup rfl (pgs_cons (pg_name (i := 2) scIl.nd rfl (Or.inl rfl)) (pgs_cons (pg_name (i := 3) scIl.nd rfl (Or.inl rfl)) pgs_nil))))
      (pss_one (ps_ret (pe_and (pe_cmpR (op_inS (Chk.un65 hr)) (pv 2) (pe_meth0 (pv 0) cB.c.cl mH FH (hr.mono (by decide)) bH .nil pass0) (by rfl)) (pe_one (pe_df DIc hr pass0 (pa_cons (pv 0) (pa_cons (pv 3) pa_nil))))))))), ?_⟩
    have h1 : Ev (tCB (rIsi K) (tCons (tVar 1) (tCons (tC (.ty "tuple")) tNil))) (start NIl [.ref bk, v]) H (.bl (isTup d)) := ev_isi (ev_var rfl) hd (kit_tup K d)
    cases hs : isTup d with
    | false =>
      refine q_when (b := true) (et_or (a := true) (b := true) (et_not (a := false) (et_test (by rw [← hs]; exact h1))) (fun z => nomatch z)) (fun _ H1 e1 => s_ret ev_c fun H2 e2 => ?_) (fun z => nomatch z)
      have : isLot D d = false := by cases d <;> first | rfl | cases hs
      rw [← this]
      exact k H2 (e1.trans e2)
    | true =>
      obtain ⟨ds, rfl⟩ : ∃ ds, d = .tuple ds := by cases d <;> first | exact ⟨_, rfl⟩ | cases hs
      obtain ⟨a, xs, rfl, hq, ha⟩ := sw_tup hd
      have xl := swAll_len ha
      refine q_when (b := !decide (ds.length = 2)) (et_is (et_or (a := false) (b := !decide (ds.length = 2)) (et_not (a := true) (et_test h1)) fun _ => et_test (ev_is (ev_op (ev_lenT (ev_var rfl) hq) ev_c (rv_ne rfl)) ?_)) rfl) (fun hn H1 e1 => s_ret ev_c fun H2 e2 => ?_) (fun hn H1 e1 => ?_)
      · show V.bl (!decide (V.int (xs.length : Int) = V.int 2)) = _
        rw [xl]
        by_cases c : ds.length = 2
        · simp [c]
        · have : ¬ V.int (ds.length : Int) = V.int 2 := fun z => c (by
            have := V.int.inj z
            omega)
          simp [c, this]
      · have e : isLot D (.tuple ds) = false := by
          have : ¬ ds.length = 2 := by simpa using hn
          match ds, this with
          | [], _ => rfl
          | [_], _ => rfl
          | [_, _], z => exact absurd rfl z
          | _ :: _ :: _ :: _, _ => rfl
        rw [← e]
        exact k H2 (e1.trans e2)
      · have hlen : ds.length = 2 := by simpa using hn
        obtain ⟨d1, d2, rfl⟩ : ∃ d1 d2, ds = [d1, d2] := by
          match ds, hlen with
          | [d1, d2], _ => exact ⟨_, _, rfl⟩
        obtain ⟨x, y, rfl, a1, a2⟩ := sw_two ha
        refine ⟨_, rfl, a, _, rfl, ex_t e1 hq, rfl, _, _, rfl, _, _, rfl, rfl, ?_⟩
        obtain ⟨BB, ib, w1, w25⟩ := BookD.ex e1 hb
        obtain ⟨dx, fs, h0, lk⟩ := isBook_ins (m := "houses") ib (fun _ _ _ _ _ => rfl)
        have hev : Ev (tAndV (tOp (rInS K) (tVar 2) (tMeth CB "houses" (spGet CB (·.h)) [] E0 (tVar 0) tNil)) (tCall (spIC K CB) [] E0 (tCons (tVar 0) (tCons (tVar 3) tNil)))) [some (.ref bk), some (.ref a), some x, some y] H1 (.bl (sIn D.hs d1 && isCnt D.ss.length d2)) := by
          refine ev_andV (fun H2 e2 Q2 q2 => ?_) fun _ H2 e2 Q2 q2 => ⟨_, rfl, _, rfl, bk, y, D, d2, rfl, BookD.ex (e1.trans e2) hb, h4, Sw.ex (e1.trans e2) _ _ a2, fun H' e' => q2 H' e'⟩
          refine ⟨_, rfl, _, rfl, bk, dx, fs, rfl, e2 _ _ h0, lk, bk, BB, rfl, isBook_ex e2 ib, fun p H' np e' hp => ⟨d1, D.hs, p, Sw.ex ((e1.trans e2).trans e') _ _ a1, rfl, SqL.of (by rw [← strs_inv w1]; exact hp), q2 H' e'⟩⟩
        exact s_ret hev fun H2 e2 => k H2 (e1.trans e2)
theorem ok_cl {f CB CL : Addr} {fd : FuncData} (F : Fun K "check_lot" "check_lot" sCL f fd) (B : Bv mg) (c : ErC P w K mg base "InvalidLot" "value" CL) (DIl : Df P w K mg base CX0 3 "is_lot" ["book", "value"] (spIL K CB)) : FnOk P w K mg base (CX P w) 4 f fd ["book", "value"] (spCL K CB CL) := by
  refine F.okX scCL (fun vs H Q E h => ?_) (fun cdv A outer s H vs Q E hr h => ?_)
  · obtain ⟨_, _, _, _, rfl, _⟩ := h
    rfl
  · obtain ⟨bk, v, D, d, rfl, hb, h4, hd, kq, ke⟩ := h
    refine ⟨_, (pss_one (ps_if (pt_not (pt_val (pe_df DIl hr pass0 (pa_cons (pv 0) (pa_cons (pv 1) pa_nil))))) (pss_one (ps_rE c rfl (hr.mono (by decide)) rfl (takes_of rfl rfl rfl rfl) (pa_cons (pv 1) pa_nil))) pss_nil)), ?_⟩
    refine s_when (b := !isLot D d) (et_not (et_test (fun H1 e Q1 q => ⟨_, rfl, _, rfl, bk, v, D, d, rfl, BookD.ex e hb, h4, Sw.ex e _ _ hd, fun H' e' => q H' e'⟩))) (fun hn H1 e1 => ?_) (fun hn H1 e1 => kq (by simpa using hn) H1 e1)
    exact ⟨v, rfl, fun dd H2 n2 e2 h2 => ke (by simpa using hn) dd H2 (fresh_back e1 n2) (e1.trans e2) h2⟩
end
end Rna

/-! ### lots behind runs -/
namespace Led
open PySem PySem.Spec PyProof.Rows L2 Evl Gen Ent Rep Dat Nm Er Chk Gu Deed Pts Hear Lst Bk Cau EvD BadE EntR Lis Prd NmR Bmk EqB God Oth LwP Inf Stp Stq RZ Wth Sta Aft Af2 Ini Rna
def runE (D : PartsD) : Str × List Int → List Evn → Option (Str × List Int)
  | x, [] => some x
  | x, e :: es => if allowsE D x.1 x.2 e = true then runE D (afterE D x.1 x.2 e) es else none
theorem afterDeed_len (D : PartsD) (h : Str) (c : List Int) (e : En) (hs : List Int) : (afterDeed D h c e hs).2.length = c.length := by
  unfold afterDeed
  dsimp only
  split
  · exact heardAll_len ..
  · split <;> simp [heardAll_len]
theorem afterE_len (D : PartsD) (h : Str) (c : List Int) (e : Evn) : (afterE D h c e).2.length = c.length := by
  cases e with
  | fall s => simp [afterE]
  | other d => rfl
  | deed n o =>
    unfold afterE
    dsimp only
    split
    · rfl
    · exact afterDeed_len ..
theorem runE_snoc (D : PartsD) : ∀ (es : List Evn) (x : Str × List Int) (e : Evn), runE D x (es ++ [e]) = (runE D x es).bind fun y => if allowsE D y.1 y.2 e = true then some (afterE D y.1 y.2 e) else none
  | [], x, e => by
    show (if _ then _ else _) = _
    rfl
  | a :: es, x, e => by
    show (if _ then runE D _ (es ++ [e]) else none) = (if _ then runE D _ es else none).bind _
    split
    · exact runE_snoc D es _ e
    · rfl
theorem runE_none (D : PartsD) : ∀ (es es' : List Evn) (x : Str × List Int), runE D x es = none → runE D x (es ++ es') = none
  | [], _, x, h => by cases h
  | a :: es, es', x, h => by
    have h' : (if allowsE D x.1 x.2 a = true then runE D (afterE D x.1 x.2 a) es else none) = none := h
    show (if _ then runE D _ (es ++ es') else none) = none
    split at h'
    · rename_i g
      rw [if_pos g]
      exact runE_none D es es' _ h'
    · rename_i g
      rw [if_neg g]
def spLb (K : PySem.W.Frag) (C : Addr) : Sp := fun vs H Q _ => ∃ (st l : Addr) (D : PartsD) (h : Str) (c : List Int) (v : V), vs = [.ref st, .ref l, v] ∧ StepsAt K H C st D ∧ LotAt K H l h c ∧ c.length = D.ss.length ∧ GoD D ∧
  ((∃ d, Sw K H v d ∧ isList d = false ∧ ∀ H', Ex H H' → Q .non H') ∨ (∃ es : List Evn, Sw K H v (.list (es.map evD)) ∧ (∀ e ∈ es, EvOk e) ∧ (runE D (h, c) es = none → ∀ H', Ex H H' → Q .non H') ∧ ∀ x, runE D (h, c) es = some x → ∀ p H', H p = none → Ex H H' → LotN H H' p x → Q (.ref p) H'))
abbrev sLb : Stmt := top 28
abbrev NLb : List Str := ["steps", "lot", "value", "house", "counts", "behind", "event"]
theorem scLb : FnScope NLb ["steps", "lot", "value"] (defScope sLb) := ⟨rfl, rfl, rfl, by decide +kernel, rfl, by decide +kernel, by decide +kernel⟩
theorem lotN_at {K : PySem.W.Frag} {H H' : Hp} {p : Addr} {x : Str × List Int} (h : LotN H H' p x) : LotAt K H' p x.1 x.2 := by
  obtain ⟨cl, h1, h2, _⟩ := h
  exact ⟨cl, SqT.of h1, SqL.of h2⟩
theorem lotN_ex {H H' H2 : Hp} {p : Addr} {x : Str × List Int} (e : Ex H' H2) (h : LotN H H' p x) : LotN H H2 p x := by
  obtain ⟨cl, h1, h2, n⟩ := h
  exact ⟨cl, e _ _ h1, e _ _ h2, n⟩
theorem q_asgX {te : TE} {i : Nat} {tz : TS} {D : Ends} {σ : L2.St} {H : Hp} (h : te σ H fun v H1 => tz D (σ.set i (some v)) H1) : tSeq (tAsg te (gName i)) tz D σ H := h
theorem mk_ex {H1 H' : Hp} {x dx : Addr} {o1 o2 : HO} (nx : H1 x = none) (nd : H1 dx = none) (m : Mv x (upd (upd H1 dx o1) x o2) H') : Ex H1 H' := fun a o h => by
  have n1 : a ≠ x := ne_of_none h nx
  have n2 : a ≠ dx := ne_of_none h nd
  exact m a o n1 (by rw [upd_ne n1, upd_ne n2]; exact h)
section
variable {P : Program} {w : World} {K : PySem.W.Frag} {mg : Str → Option Value} {base : Heap}
set_option maxHeartbeats 2000000 in
theorem ok_lb {f C fAl fA2 : Addr} {fd fdAl fdA2 : FuncData} (F : Fun K "lot_behind" "lot_behind" sLb f fd) (B : Bv mg) (cS : SC K C)
    (mAl : Meth K C "allows" fAl) (FAl : FnOk P w K mg base CX0 4 fAl fdAl ["self", "lot", "event"] (spAl K C)) (bAl : Binds K fdAl ["self", "lot", "event"] [])
    (mA2 : Meth K C "after" fA2) (FA2 : FnOk P w K mg base CX0 2 fA2 fdA2 ["self", "lot", "event"] (spA2 K C)) (bA2 : Binds K fdA2 ["self", "lot", "event"] []) : FnOk P w K mg base CX0 5 f fd ["steps", "lot", "value"] (spLb K C) := by
  refine F.ok scLb (fun vs H Q E h => ?_) (fun cdv A outer s H vs Q E hr h => ?_)
  · obtain ⟨_, _, _, _, _, _, rfl, _⟩ := h
    rfl
  · obtain ⟨st, l, D, hh, cs, v, rfl, hst, hl, hn, g, k⟩ := h
    refine ⟨_, (pss_cons (ps_if (pt_not (pt_val (pe_callB call_isi (by rfl) B.isi (by decide +kernel) (pa_cons (pv 2) (pa_cons (pe_bltn (v := .ty "list") (by rfl) B.list (by decide +kernel) rfl) pa_nil))))) (pss_one (ps_ret pe_non)) pss_nil)
      (pss_cons (ps_asg (pv 1) (pg_tup rfl (pgs_cons (pg_name (i := 3) scLb.nd rfl (Or.inl rfl)) (pgs_cons (pg_name (i := 4) scLb.nd rfl (Or.inl rfl)) pgs_nil))))
      (pss_cons (ps_set (i := 5) scLb.nd rfl (Or.inl rfl) (pe_tup (pa_cons (pv 3) (pa_cons (pe_callTy call_list_of (by rfl) B.list (by decide +kernel) (pa_cons (pv 4) pa_nil)) pa_nil))))
      (pss_cons (ps_for PassesOwn.never rfl (pi_list (pv 2)) (pg_name (i := 6) scLb.nd rfl (Or.inl rfl)) (pss_cons (ps_if (pt_not (pt_val (pe_meth (pv 0) cS.cl mAl FAl (hr.mono (by decide)) bAl .nil pass0 (pa_cons (pv 5) (pa_cons (pv 6) pa_nil))))) (pss_one (ps_ret pe_non)) pss_nil)
      (pss_one (ps_set (i := 5) scLb.nd rfl (Or.inl rfl) (pe_meth (pv 0) cS.cl mA2 FA2 (hr.mono (by decide)) bA2 .nil pass0 (pa_cons (pv 5) (pa_cons (pv 6) pa_nil)))))))
      (pss_one (ps_ret (pv 5))))))), ?_⟩
    rcases k with ⟨d, hd, hi, k⟩ | ⟨es, hd, ok, kn, ks⟩
    · exact q_when (b := true) (et_not (a := false) (et_test (by rw [← hi]; exact ev_isi (ev_var rfl) hd (kit_list K d)))) (fun _ H1 e1 => s_ret ev_c fun H2 e2 => k H2 (e1.trans e2)) (fun z => nomatch z)
    · refine q_when (b := false) (et_not (a := true) (et_test (ev_isi (ev_var rfl) hd (kit_list K _)))) (fun z => nomatch z) (fun _ H1 e1 => ?_)
      obtain ⟨a, xs, rfl, hq, ha⟩ := sw_list hd
      obtain ⟨cl, q1, q2⟩ := hl
      refine ⟨_, rfl, l, _, rfl, ex_t e1 q1, rfl, _, _, rfl, _, _, rfl, rfl, ?_⟩
      refine ⟨_, rfl, _, rfl, cl, VInt cs, rfl, .inl (ex_l e1 q2), fun mv nm => ⟨by show 2 ≤ sizeLine; decide, fun b nb => ?_⟩⟩
      have e2 : Ex H1 (upd (upd H1 mv (.lst (VInt cs))) b (.tup [.str hh, .ref mv])) := (Ex.new nm).trans (Ex.new nb)
      have hb2 : upd (upd H1 mv (.lst (VInt cs))) b (.tup [.str hh, .ref mv]) b = some (.tup [.str hh, .ref mv]) := upd_same
      have hm2 : upd (upd H1 mv (.lst (VInt cs))) b (.tup [.str hh, .ref mv]) mv = some (.lst (VInt cs)) := by rw [upd_ne (ne_of_none upd_same nb), upd_same]
      have nb1 : H1 b = none := fresh_back (Ex.new nm) nb
      generalize upd (upd H1 mv (.lst (VInt cs))) b (.tup [.str hh, .ref mv]) = H2 at e2 hb2 hm2
      have E2 := e1.trans e2
      have xl : xs.length = es.length := by rw [swAll_len ha]; exact List.length_map ..
      refine sq_step ⟨_, rfl, a, rfl, ⟨xs, ex_l E2 hq⟩, for_list (xs := xs) (fun i σ' H' => ∃ (b : Addr) (x : Str × List Int) (s6 : Option V), σ' = [some (.ref st), some (.ref l), some (.ref a), some (.str hh), some (.ref cl), some (.ref b), s6] ∧ Ex H H' ∧ H b = none ∧ LotN H H' b x ∧ runE D (hh, cs) (es.take i) = some x ∧ x.2.length = D.ss.length)
        ⟨b, (hh, cs), _, rfl, E2, fresh_back e1 nb1, ⟨mv, hb2, hm2, fresh_back e1 nm⟩, rfl, hn⟩ (fun i σ' H' _ pv => by obtain ⟨_, _, _, _, e, _⟩ := pv; exact ex_l e hq) (fun i y σ' H' hy pv => ?_) fun σ' H' pv => ?_⟩
      · obtain ⟨b, x, s6, rfl, e3, nbb, lb, re, xn⟩ := pv
        have hy2 := hy
        obtain ⟨dd, hdd, wd⟩ := swAll_get (SwAll.ex e3 _ _ ha) hy
        rw [List.getElem?_map] at hdd
        obtain ⟨e, he, rfl⟩ := Option.map_eq_some_iff.mp hdd
        have eo := ok e (List.mem_of_getElem? he)
        have rn : runE D (hh, cs) (es.take (i + 1)) = if allowsE D x.1 x.2 e = true then some (afterE D x.1 x.2 e) else none := by
          rw [List.take_succ, he]
          show runE D (hh, cs) (es.take i ++ [e]) = _
          rw [runE_snoc, re]
          rfl
        have rnn : allowsE D x.1 x.2 e = false → runE D (hh, cs) es = none := fun z => by
          rw [← List.take_append_drop (i + 1) es]
          refine runE_none D _ _ _ ?_
          rw [rn, z]
          rfl
        refine q_when (b := !allowsE D x.1 x.2 e) (et_not (et_test (ev_meth (ev_var rfl) (steps_ins (hst.ex' e3) fun _ _ _ _ _ => rfl) (ea_cons (ev_var rfl) (ea_cons (ev_var rfl) ea_nil)) (fun G1 c1 Q1 q1 E1 => ⟨st, b, D, x.1, x.2, y, e, rfl, (hst.ex' e3).ex' c1, LotAt.ex c1 (lotN_at lb), xn, g.s.2, Sw.ex c1 _ _ wd, eo, fun G2 c2 => q1 G2 c2⟩)))) (fun hw H4 e4 => s_ret ev_c fun H5 e5 => ?_) (fun hw H4 e4 => ?_)
        · exact kn (rnn (by simpa using hw)) H5 ((e3.trans e4).trans e5)
        · have E4 := e3.trans e4
          have ha' : allowsE D x.1 x.2 e = true := by simpa using hw
          obtain ⟨dx, fs, hs0, lk⟩ := steps_ins (m := "after") (hst.ex' E4) fun _ _ _ _ _ => rfl
          refine ⟨_, rfl, st, dx, fs, rfl, hs0, lk, _, rfl, _, rfl, st, b, D, x.1, x.2, y, e, rfl, hst.ex' E4, LotAt.ex e4 (lotN_at lb), xn, g, Sw.ex e4 _ _ wd, ha', fun p H5 np e5 lp => ?_⟩
          refine ⟨p, afterE D x.1 x.2 e, _, rfl, E4.trans e5, fresh_back E4 np, lotN_back E4 lp, by rw [rn, if_pos ha'], by rw [afterE_len, xn]⟩
      · obtain ⟨b, x, s6, rfl, e3, nbb, lb, re, xn⟩ := pv
        rw [xl, List.take_length] at re
        exact s_ret (ev_var rfl) fun H5 e5 => ks x re b H5 nbb (e3.trans e5) (lotN_ex e5 lb)
def spLd (K : PySem.W.Frag) (CB CI CL CR : Addr) : Sp := fun vs H Q E => ∃ vb vl vr : V, vs = [vb, vl, vr] ∧ ((∃ d, Sw K H vb d ∧ Bad CI vb H E) ∨
  ∃ (bk : Addr) (D : PartsD) (dl : PyData), vb = .ref bk ∧ BkP K H CB bk D ∧ GoD D ∧ Sw K H vl dl ∧ (isLot D dl = false → Bad CL vl H E) ∧ (isLot D dl = true → ∃ h c, dl = lotD h c ∧
    ((∃ d, Sw K H vr d ∧ isList d = false ∧ Bad CR vr H E) ∨ (∃ es : List Evn, Sw K H vr (.list (es.map evD)) ∧ (∀ e ∈ es, EvOk e) ∧ (runE D (h, c) es = none → Bad CR vr H E) ∧ ∀ x, runE D (h, c) es = some x → ∀ p H', H p = none → Ex H H' → LotN H H' p x → Q (.ref p) H'))))
abbrev sLd : Stmt := top 29
abbrev NLd : List Str := ["book", "lot", "run", "behind"]
theorem scLd : FnScope NLd ["book", "lot", "run"] (defScope sLd) := ⟨rfl, rfl, rfl, by decide +kernel, rfl, by decide +kernel, by decide +kernel⟩
theorem lot_at {K : PySem.W.Frag} {H : Hp} {v : V} {h : Str} {c : List Int} (w : Sw K H v (lotD h c)) : ∃ l, v = .ref l ∧ LotAt K H l h c := by
  obtain ⟨a, xs, rfl, q, w2⟩ := sw_tup w
  obtain ⟨x, y, rfl, a1, a2⟩ := sw_two w2
  cases a1
  obtain ⟨b, ys, rfl, q2, w3⟩ := sw_list a2
  rw [ints_inv w3] at q2
  exact ⟨a, rfl, b, q, q2⟩
theorem lot_len {D : PartsD} {h : Str} {c : List Int} (w : isLot D (lotD h c) = true) : c.length = D.ss.length := by
  have w' : (sIn D.hs (.str h) && (decide ((c.map PyData.int).length = D.ss.length) && (c.map PyData.int).all whNN)) = true := w
  simp at w'
  exact w'.2.1
set_option maxHeartbeats 2000000 in
theorem ok_ld {f C CB CI CL CR fI : Addr} {fd fdI : FuncData} (F : Fun K "led" "led" sLd f fd) (B : Bv mg) (c : ErC P w K mg base "InvalidRun" "value" CR) (cB : BE K CB) (DCb : Df P w K mg base (CX P w) 3 "check_book" ["value"] (spCB K CB CI)) (DCl : Df P w K mg base (CX P w) 4 "check_lot" ["book", "value"] (spCL K CB CL))
    (DLb : Df P w K mg base CX0 5 "lot_behind" ["steps", "lot", "value"] (spLb K C)) (M : Mk K C fI) (FI : FnOk P w K mg base CX0 2 fI fdI ["self", "book"] (spIi K CB C)) (gS : mg "Steps" = some (.ref C)) (bI : Binds K fdI ["self", "book"] []) : FnOk P w K mg base (CX P w) 6 f fd ["book", "lot", "run"] (spLd K CB CI CL CR) := by
  refine F.okX scLd (fun vs H Q E h => ?_) (fun cdv A outer s H vs Q E hr h => ?_)
  · obtain ⟨_, _, _, rfl, _⟩ := h
    rfl
  · obtain ⟨vb, vl, vr, rfl, k⟩ := h
    refine ⟨_, (pss_cons (ps_expr (pe_df DCb hr (passes_call (takes_of rfl rfl rfl rfl) (fun _ _ _ _ h => h)) (pa_cons (pv 0) pa_nil)))
      (pss_cons (ps_expr (pe_df DCl hr (passes_call (takes_of rfl rfl rfl rfl) (fun _ _ _ _ h => h)) (pa_cons (pv 0) (pa_cons (pv 1) pa_nil))))
      (pss_cons (ps_set (i := 3) scLd.nd rfl (Or.inl rfl) (pe_df DLb hr pass0 (pa_cons (pe_make M FI (hr.mono (by decide)) (by rfl) gS bI .nil pass0 (pa_cons (pv 0) pa_nil)) (pa_cons (pv 1) (pa_cons (pv 2) pa_nil)))))
      (pss_cons (ps_if (pt_cmpR op_isN (pv 3) pe_non (nomark _)) (pss_one (ps_rE c rfl (hr.mono (by decide)) rfl (takes_of rfl rfl rfl rfl) (pa_cons (pv 2) pa_nil))) pss_nil)
      (pss_one (ps_ret (pv 3))))))), ?_⟩
    rcases k with ⟨d, hd, kb⟩ | ⟨bk, D, dl, rfl, hb, g, hl, kl, k⟩
    · exact ⟨_, rfl, vb, rfl, .inl ⟨d, hd, kb⟩⟩
    refine ⟨_, rfl, .ref bk, rfl, .inr ⟨bk, D, rfl, hb, fun H1 e1 => ?_⟩⟩
    refine ⟨_, rfl, _, rfl, bk, vl, D, dl, rfl, BookD.ex e1 hb, g.s.2, Sw.ex e1 _ _ hl, fun hg H2 e2 => ?_, fun hg => Bad.ex (kl hg) e1⟩
    obtain ⟨h, cs, rfl, k2⟩ := k hg
    have E2 := e1.trans e2
    dsimp only
    refine q_asgX ?_
    refine ⟨_, rfl, fun x dx nx nd ne => ⟨x, dx, bk, D, rfl, upd_same, ?_, g, fun H3 m3 hst => ⟨rfl, ?_⟩⟩⟩
    · exact BookD.ex ((E2.trans (Ex.new nd)).trans (Ex.new (by rw [upd_ne ne.symm]; exact nx))) hb
    have e3 := mk_ex nx nd m3
    have E3 := E2.trans e3
    have cn := lot_len hg
    obtain ⟨l, rfl, hla⟩ := lot_at hl
    refine ⟨_, rfl, _, rfl, x, l, D, h, cs, vr, rfl, hst, LotAt.ex E3 hla, cn, g, ?_⟩
    rcases k2 with ⟨d, hd, hi, kb⟩ | ⟨es, hd, ok, kn, ks⟩
    · exact .inl ⟨d, Sw.ex E3 _ _ hd, hi, fun H4 e4 => q_when (b := true) (et_test (ev_is (ev_op (ev_var rfl) ev_c fun H5 _ Q5 q5 => ⟨rfl, q5 H5 (Ex.refl _)⟩) rfl)) (fun _ H5 e5 => ⟨vr, rfl, fun dd H6 n6 e6 h6 => kb dd H6 (fresh_back ((E3.trans e4).trans e5) n6) (((E3.trans e4).trans e5).trans e6) h6⟩) (fun z => nomatch z)⟩
    · refine .inr ⟨es, Sw.ex E3 _ _ hd, ok, fun hne H4 e4 => q_when (b := true) (et_test (ev_is (ev_op (ev_var rfl) ev_c fun H5 _ Q5 q5 => ⟨rfl, q5 H5 (Ex.refl _)⟩) rfl)) (fun _ H5 e5 => ⟨vr, rfl, fun dd H6 n6 e6 h6 => (kn hne) dd H6 (fresh_back ((E3.trans e4).trans e5) n6) (((E3.trans e4).trans e5).trans e6) h6⟩) (fun z => nomatch z), fun y hy p H4 np e4 lp => ?_⟩
      refine q_when (b := false) (et_test (ev_is (ev_op (ev_var rfl) ev_c fun H5 _ Q5 q5 => ⟨rfl, q5 H5 (Ex.refl _)⟩) rfl)) (fun z => nomatch z) (fun _ H5 e5 => s_ret (ev_var rfl) fun H6 e6 => ?_)
      exact ks y hy p H6 (fresh_back E3 np) (((E3.trans e4).trans e5).trans e6) (lotN_ex (e5.trans e6) (lotN_back E3 lp))
end
end Led

/-! ### data without lists, and lists of such -/
namespace Noc
open PySem PySem.Spec PyProof.Rows L2 Evl Gen Ent Rep Dat Nm Er Chk Gu Deed Pts Hear Lst Bk Cau EvD BadE EntR Lis Prd NmR Bmk EqB God Oth LwP Inf Stp Stq RZ Wth Sta Aft Af2 Ini Rna Led
mutual
def noL : PyData → Bool
  | .list _ => false
  | .dict _ => false
  | .tuple l => noLs l
  | _ => true
def noLs : List PyData → Bool
  | [] => true
  | d :: l => noL d && noLs l
end
theorem noLs_all : ∀ {l : List PyData}, (∀ d ∈ l, noL d = true) → noLs l = true
  | [], _ => rfl
  | d :: l, h => by
    show (noL d && noLs l) = true
    rw [h d (List.mem_cons_self ..), noLs_all fun x m => h x (List.mem_cons_of_mem _ m)]
    rfl
theorem noL_ints (c : List Int) : noLs (c.map PyData.int) = true := noLs_all fun d m => by
  obtain ⟨i, _, rfl⟩ := List.mem_map.mp m
  rfl
theorem sqt_lst {K : PySem.W.Frag} {H H' : Hp} {p a : Addr} {acc : List V} {xs : List V} (hp : H p = some (.lst acc)) (m : Mv p H H') (h : SqT K H a xs) : SqT K H' a xs := by
  rcases h with (h | ⟨o, h⟩) | h
  · exact .inl (.inl (m _ _ (ne_of h hp (by intro z; cases z)) h))
  · exact .inl (.inr ⟨o, m _ _ (ne_of h hp (by intro z; cases z)) h⟩)
  · exact .inr h
section
variable {K : PySem.W.Frag} {H H' : Hp} {p : Addr} {acc : List V} (hp : H p = some (.lst acc)) (m : Mv p H H')
include hp m
mutual
theorem sw_no : ∀ (d : PyData) (v : V), noL d = true → Sw K H v d → Sw K H' v d
  | .none, _, _, h => by cases h; exact .non
  | .bool b, _, _, h => by cases h; exact .bl b
  | .int i, _, _, h => by cases h; exact .int i
  | .str x, _, _, h => by cases h; exact .str x
  | .list ds, _, n, h => by cases n
  | .dict ds, _, n, h => by cases n
  | .tuple ds, _, n, h => by
    cases h with
    | tup hs ha => exact .tup (sqt_lst hp m hs) (swAll_no ds _ n ha)
theorem swAll_no : ∀ (ds : List PyData) (vs : List V), noLs ds = true → SwAll K H vs ds → SwAll K H' vs ds
  | [], _, _, h => by cases h; exact .nil
  | d :: ds, _, n, h => by
    cases h with
    | cons h1 h2 =>
      have n' : (noL d && noLs ds) = true := n
      rw [Bool.and_eq_true] at n'
      exact .cons (sw_no d _ n'.1 h1) (swAll_no ds _ n'.2 h2)
end
end
theorem mv_upd {p : Addr} {H : Hp} {o : HO} : Mv p H (upd H p o) := Mv.upd
section
variable {K : PySem.W.Frag} {σ : L2.St} {H : Hp} {tl te tb : TE} {ds es : List PyData}
def ELN (K : PySem.W.Frag) (te : TE) (σ : L2.St) (H : Hp) (ds : List PyData) : Prop := ∀ H1, Ex H H1 → ∀ Q : VK, (∀ p H2, H1 p = none → Ex H1 H2 → TL K H2 p ds → Q (.ref p) H2) → te σ H1 Q
theorem ELN.el (h : ELN K te σ H ds) : EL K te σ H ds := fun H1 e Q q => h H1 e Q fun p H2 _ e2 w => q p H2 e2 w
theorem eln_lst {ta : TA} (h : EDA K ta σ H ds) (hz : ds.length ≤ 100000) : ELN K (tLst ta) σ H ds := fun H1 e Q q =>
  h H1 e _ fun vs H2 e2 w => ⟨sz_of (by rw [swAll_len w]; exact hz), fun p np => q p _ (fresh_back e2 np) (e2.trans (Ex.new np)) ⟨vs, upd_same, SwAll.ex (Ex.new np) _ _ w⟩⟩
theorem eln_cat (h : EL K te σ H ds) (h2 : EL K tb σ H es) (hz : ds.length + es.length ≤ 100000) : ELN K (tOp rCat te tb) σ H (ds ++ es) := fun H1 e Q q =>
  h H1 e _ fun p H2 e2 ⟨xs, w1, w2⟩ => h2 H2 (e.trans e2) _ fun p2 H3 e3 ⟨ys, u1, u2⟩ =>
    ⟨p, p2, xs, ys, rfl, rfl, e3 _ _ w1, u1, sz_of (by rw [swAll_len w2, swAll_len u2]; exact hz), fun r nr => q r _ (fresh_back (e2.trans e3) nr) ((e2.trans e3).trans (Ex.new nr)) ⟨_, upd_same, SwAll.ex (Ex.new nr) _ _ (swAll_app (SwAll.ex e3 _ _ w2) u2)⟩⟩
theorem eln_if {t : TT} {b : Bool} (h : EvT t σ H b) (h1 : b = true → ELN K te σ H ds) (h2 : b = false → ELN K tb σ H ds) : ELN K (tIf t te tb) σ H ds := fun H1 e Q q => h H1 e _ fun H2 e2 => by
  cases b with
  | true =>
    show te σ H2 Q
    exact h1 rfl H2 (e.trans e2) Q fun p H3 n e3 => q p H3 (fresh_back e2 n) (e2.trans e3)
  | false =>
    show tb σ H2 Q
    exact h2 rfl H2 (e.trans e2) Q fun p H3 n e3 => q p H3 (fresh_back e2 n) (e2.trans e3)
theorem ed_if {t : TT} {b : Bool} {d : PyData} (h : EvT t σ H b) (h1 : b = true → ED K te σ H d) (h2 : b = false → ED K tb σ H d) : ED K (tIf t te tb) σ H d := fun H1 e Q q => h H1 e _ fun H2 e2 => by
  cases b with
  | true =>
    show te σ H2 Q
    exact h1 rfl H2 (e.trans e2) Q fun v H3 e3 => q v H3 (e2.trans e3)
  | false =>
    show tb σ H2 Q
    exact h2 rfl H2 (e.trans e2) Q fun v H3 e3 => q v H3 (e2.trans e3)
theorem q_asgD {i : Nat} {tz : TS} {D : Ends} {d : PyData} (h : ED K te σ H d) (k : ∀ v H1, Ex H H1 → Sw K H1 v d → tz D (σ.set i (some v)) H1) : tSeq (tAsg te (gName i)) tz D σ H := h H (Ex.refl H) _ fun v H1 e w => k v H1 e w
theorem s_appD {l : Addr} {xs : List V} {to : TE} {D : Ends} {d : PyData} (hl : H l = some (.lst xs)) (ha : Ev to σ H (.ref l)) (h : ED K te σ H d) (hz : xs.length < 100000) (k : ∀ v H1, Ex H H1 → Sw K H1 v d → D.nx σ (upd H1 l (.lst (xs ++ [v])))) :
    tDrop (tBM K "list" rAppend to (tCons te tNil)) D σ H := ha H (Ex.refl H) _ fun H1 e1 =>
  ⟨Or.inl ⟨rfl, xs, sq_of (e1 l _ hl)⟩, h H1 e1 _ fun v H2 e2 w => ⟨l, xs, v, rfl, rfl, e2 l _ (e1 l _ hl), sz_lt hz, k v H2 (e1.trans e2) w⟩⟩
/-- [e for x in a list] -/
theorem el_lcD {j : Nat} {vs : List Nat} (f : PyData → PyData) (h : EL K tl σ H ds) (hn : ds.length ≤ 40000) (hw : ∀ x, wipe ((wipe σ vs).set j (some x)) vs = wipe σ vs) (hf : ∀ d ∈ ds, noL (f d) = true)
    (he : ∀ x d H1, d ∈ ds → Ex H H1 → Sw K H1 x d → ED K te ((wipe σ vs).set j (some x)) H1 (f d)) : EL K (tLc (iList K tl) (gName j) tYes te vs) σ H (ds.map f) := fun H1 e Q q => h H1 e _ fun p H2 e2 ⟨xs, w1, w2⟩ => by
  have xl := swAll_len w2
  refine ⟨p, rfl, ⟨xs, SqL.of w1⟩, fun Dl hD => lc_it (walk_list (xs := xs)) (fun i H' => Ex H2 H' ∧ ∃ ys, H' Dl = some (.lst ys) ∧ SwAll K H' ys ((ds.take i).map f)) ⟨Ex.new hD, [], upd_same, .nil⟩ (fun i H' _ pv => SqL.of (pv.1 _ _ w1)) (fun i x H3 H4 hi pv y => ?_) fun H3 pv => ?_⟩
  · obtain ⟨e3, ys, hD3, wy⟩ := pv
    obtain ⟨rfl, hx⟩ := y
    obtain ⟨d, hd, wd⟩ := swAll_get (SwAll.ex e3 _ _ w2) hx
    have md := List.mem_of_getElem? hd
    refine ⟨hw x, ?_⟩
    have yl := swAll_len wy
    refine he x d _ md ((e.trans e2).trans e3) wd _ (Ex.refl _) _ fun v H5 e5 wv => ⟨ys, e5 _ _ hD3, sz_lt (by rw [yl]; simp only [List.length_map, List.length_take]; omega), (e3.trans e5).mut hD, _, upd_same, ?_⟩
    have n1 : noLs ((ds.take i).map f) = true := noLs_all fun z mz => by
      obtain ⟨z', mz', rfl⟩ := List.mem_map.mp mz
      exact hf _ (List.mem_of_mem_take mz')
    rw [List.take_succ, hd, List.map_append]
    exact swAll_app (swAll_no (e5 _ _ hD3) Mv.upd _ _ n1 (SwAll.ex e5 _ _ wy)) (.cons (sw_no (e5 _ _ hD3) Mv.upd _ _ (hf d md) wv) .nil)
  · obtain ⟨e3, ys, hD3, wy⟩ := pv
    rw [xl, List.take_length] at wy
    exact q Dl H3 (e2.trans e3) ⟨ys, hD3, wy⟩
/-- t + u -/
theorem ed_catU (h : ED K te σ H (.tuple ds)) (h2 : ED K tb σ H (.tuple es)) (hz : ds.length + es.length ≤ 40000) : ED K (tOp (rCatU K) te tb) σ H (.tuple (ds ++ es)) := fun H1 e Q q => h H1 e _ fun v H2 e2 w => h2 H2 (e.trans e2) _ fun v2 H3 e3 w2 => by
  obtain ⟨a, xs, rfl, qa, wa⟩ := sw_tup w
  obtain ⟨b, ys, rfl, qb, wb⟩ := sw_tup w2
  have la := swAll_len wa
  have lb := swAll_len wb
  have qa' := ex_t e3 qa
  have wa' := SwAll.ex e3 _ _ wa
  cases ds with
  | nil =>
    cases wa
    exact .inr ⟨a, b, ys, rfl, rfl, qa', qb, q _ H3 (e2.trans e3) w2⟩
  | cons d ds =>
    refine .inl ⟨a, b, xs, ys, rfl, rfl, qa', qb, fun z => ?_, sz_of (by simp only [la, lb]; omega), fun z => ?_, fun _ p np => ?_⟩
    · rw [z] at la
      simp at la
    · rw [z] at lb
      have : es = [] := List.length_eq_zero_iff.mp lb.symm
      refine q _ H3 (e2.trans e3) ?_
      rw [this, List.append_nil]
      exact .tup qa' wa'
    · exact q _ _ ((e2.trans e3).trans (Ex.new np)) (.tup (SqT.of upd_same) (SwAll.ex (Ex.new np) _ _ (swAll_app wa' wb)))
end
theorem s_asgX {te : TE} {i : Nat} {D : Ends} {σ : L2.St} {H : Hp} (h : te σ H fun v H1 => D.nx (σ.set i (some v)) H1) : tAsg te (gName i) D σ H := h
end Noc

/-! ### _law_choices -/
namespace Cho
open PySem PySem.Spec PyProof.Rows L2 Evl Gen Ent Rep Dat Nm Er Chk Gu Deed Pts Hear Lst Bk Cau EvD BadE EntR Lis Prd NmR Bmk EqB God Oth LwP Inf Stp Stq RZ Wth Sta Aft Af2 Ini Rna Led Noc
def tupI (l : List Int) : PyData := .tuple (l.map .int)
def chPart (found : List (List Int)) (n : Nat) : List (List Int) := (List.range n).flatMap fun (k : Nat) => found.map fun l => l ++ [(k : Int)]
def choices : List Int → List (List Int) := List.foldl (fun f m => chPart f (m.toNat + 1)) [[]]
theorem chPart_len (f : List (List Int)) : ∀ n, (chPart f n).length = n * f.length
  | 0 => by simp [chPart]
  | n + 1 => by
    have ih := chPart_len f n
    unfold chPart at ih ⊢
    rw [List.range_succ, List.flatMap_append, List.length_append, ih, Nat.succ_mul]
    simp
theorem chPart_succ (f : List (List Int)) (n : Nat) : chPart f (n + 1) = chPart f n ++ f.map fun l => l ++ [(n : Int)] := by
  unfold chPart
  rw [List.range_succ, List.flatMap_append]
  simp
theorem choices_take {most : List Int} {i : Nat} {m : Int} (h : most[i]? = some m) : choices (most.take (i + 1)) = chPart (choices (most.take i)) (m.toNat + 1) := by
  unfold choices
  rw [List.take_succ, h, List.foldl_append]
  rfl
/-- what each choice is -/
def ChOk (most l : List Int) : Prop := l.length = most.length ∧ ∀ (i : Nat) (x m : Int), l[i]? = some x → most[i]? = some m → 0 ≤ x ∧ x ≤ m
theorem choices_ok {most : List Int} (hm : ∀ m ∈ most, 0 ≤ m ∧ m ≤ 5) : ∀ i, i ≤ most.length → (choices (most.take i)).length ≤ 6 ^ i ∧ ∀ l ∈ choices (most.take i), ChOk (most.take i) l
  | 0, _ => ⟨by simp [choices], fun l ml => by
    have : l = [] := by simpa [choices] using ml
    subst this
    exact ⟨by simp, fun i x m h => by simp at h⟩⟩
  | i + 1, hi => by
    obtain ⟨h1, h2⟩ := choices_ok hm i (by omega)
    have il : i < most.length := by omega
    have hg : most[i]? = some most[i] := List.getElem?_eq_getElem il
    have hb := hm _ (List.getElem_mem il)
    rw [choices_take hg]
    constructor
    · rw [chPart_len, Nat.pow_succ, Nat.mul_comm]
      exact Nat.mul_le_mul h1 (by omega)
    · intro l ml
      unfold chPart at ml
      obtain ⟨k, mk, ml⟩ := List.mem_flatMap.mp ml
      obtain ⟨l', ml', rfl⟩ := List.mem_map.mp ml
      obtain ⟨o1, o2⟩ := h2 l' ml'
      have lt : (most.take i).length = i := by rw [List.length_take]; omega
      have kk := List.mem_range.mp mk
      refine ⟨by simp [o1]; omega, fun j x m hx hmj => ?_⟩
      rw [List.take_succ, hg] at hmj
      by_cases c : j < i
      · rw [List.getElem?_append_left (by omega)] at hx
        rw [List.getElem?_append_left (by omega)] at hmj
        exact o2 j x m hx hmj
      · have jl : j < (l' ++ [(k : Int)]).length := (List.getElem?_eq_some_iff.mp hx).1
        rw [List.length_append] at jl
        have : j = i := by simp at jl; omega
        subst this
        rw [List.getElem?_append_right (by omega)] at hx hmj
        have z1 : j - l'.length = 0 := by omega
        have z2 : j - (most.take j).length = 0 := by omega
        rw [z1] at hx
        rw [z2] at hmj
        simp at hx hmj
        subst hx hmj
        omega
theorem choices_all {most : List Int} (hm : ∀ m ∈ most, 0 ≤ m ∧ m ≤ 5) : ∀ l ∈ choices most, ChOk most l := by
  have := (choices_ok hm most.length (Nat.le_refl _)).2
  rwa [List.take_length] at this
def spCh (K : PySem.W.Frag) : Sp := fun vs H Q _ => ∃ (a : Addr) (most : List Int), vs = [.ref a] ∧ SqL K H a (VInt most) ∧ (∀ m ∈ most, 0 ≤ m ∧ m ≤ 5) ∧ most.length ≤ 5 ∧ ∀ p H', H p = none → Ex H H' → TL K H' p ((choices most).map tupI) → Q (.ref p) H'
abbrev sCh : Stmt := top 38
abbrev NCh : List Str := ["_law_most", "_law_found", "_law_many", "_law_longer", "_law_number", "_law_one"]
theorem scCh : FnScope NCh ["_law_most"] (defScope sCh) := ⟨rfl, rfl, rfl, by decide +kernel, rfl, by decide +kernel, by decide +kernel⟩
theorem tup_inj {a b : List PyData} (h : PyData.tuple a = .tuple b) : a = b := by
  injection h
section
variable {P : Program} {w : World} {K : PySem.W.Frag} {mg : Str → Option Value} {base : Heap}
set_option maxHeartbeats 2000000 in
theorem ok_ch {f : Addr} {fd : FuncData} (F : Fun K "_law_choices" "_law_choices" sCh f fd) (B : Bv mg) : FnOk P w K mg base CX0 1 f fd ["_law_most"] (spCh K) := by
  refine F.ok scCh (fun vs H Q E h => ?_) (fun cdv A outer s H vs Q E hr h => ?_)
  · obtain ⟨_, _, rfl, _⟩ := h
    rfl
  · obtain ⟨a, most, rfl, ha, hm, ml, k⟩ := h
    refine ⟨_, (pss_cons (ps_set (i := 1) scCh.nd rfl (Or.inl rfl) (pe_lst (pa_cons (pe_tup pa_nil) pa_nil)))
      (pss_cons (ps_for PassesOwn.never rfl (pi_list (pv 0)) (pg_name (i := 2) scCh.nd rfl (Or.inl rfl)) (pss_cons (ps_set (i := 3) scCh.nd rfl (Or.inl rfl) (pe_lst pa_nil))
      (pss_cons (ps_for PassesOwn.never rfl (pi_range1 rfl B.range (pa_cons (pe_op op_add (pv 2) pe_int) pa_nil)) (pg_name (i := 4) scCh.nd rfl (Or.inr rfl)) (pss_one (ps_set (i := 3) scCh.nd rfl (Or.inl rfl) (pe_op op_cat (pv 3) (pe_lc (own := [("_law_one", 5)]) (g := gName 5) (tt := tYes) (te := tOp (rCatU K) (tVar 5) (tTup (tCons (tVar 4) tNil))) rfl scCh.nd (pi_list (pv 1)) (blkOk_by (N := NCh) (sc := defScope sCh) (by decide +kernel)) (fun _ _ _ _ _ => (pg_name (i := 5) scCh.nd rfl (Or.inl rfl))) (fun _ _ _ _ _ => pts_nil) (fun _ _ _ _ _ => (pe_op op_catU (pv 5) (pe_tup (pa_cons (pv 4) pa_nil)))))))))
      (pss_one (ps_set (i := 1) scCh.nd rfl (Or.inl rfl) (pv 3))))))
      (pss_one (ps_ret (pv 1))))), ?_⟩
    refine q_asgX ?_
    refine eln_lst (K := K) (ds := [.tuple []]) (eda_cons (ed_tup eda_nil (by simp)) eda_nil) (by simp) H (Ex.refl H) _ fun p0 H1 np0 e1 t1 => ?_
    have pow : ∀ i, i ≤ 5 → 6 ^ i ≤ 7776 := fun i h => Nat.le_trans (Nat.pow_le_pow_right (by decide) h) (by decide)
    refine q_forL (ev_var rfl) (ex_l e1 ha) (fun i σ' H' => ∃ (p : Addr) (s2 s3 s4 s5 : Option V), σ' = [some (.ref a), some (.ref p), s2, s3, s4, s5] ∧ H p = none ∧ Ex H H' ∧ TL K H' p ((choices (most.take i)).map tupI))
      (fun H2 e2 => ⟨p0, _, _, _, _, rfl, np0, e1.trans e2, t1.ex e2⟩) (fun i σ' H' _ pv => by obtain ⟨_, _, _, _, _, _, _, e, _⟩ := pv; exact ex_l e ha) (fun i x σ' H' hx pv => ?_) (fun σ' H' pv => ?_)
    · obtain ⟨p, s2, s3, s4, s5, rfl, np, e2, t2⟩ := pv
      rw [List.getElem?_map] at hx
      obtain ⟨m, hmi, rfl⟩ := Option.map_eq_some_iff.mp hx
      have mm := hm m (List.mem_of_getElem? hmi)
      have il : i < most.length := (List.getElem?_eq_some_iff.mp hmi).1
      have fl := (choices_ok hm i (by omega)).1
      have fl2 := pow i (by omega)
      refine q_asgX ?_
      refine eln_lst (K := K) (ds := []) eda_nil (by simp) H' (Ex.refl H') _ fun q0 H3 nq0 e3 t3 => ?_
      refine q_forR1 (n := m + 1) (ea_cons (ev_op (ev_var rfl) ev_c rv_I0) ea_nil) (by omega) (fun j σ2 H2 => ∃ (q : Addr) (s4 s5 : Option V), σ2 = [some (.ref a), some (.ref p), some (.int m), some (.ref q), s4, s5] ∧ H q = none ∧ Ex H H2 ∧ TL K H2 p ((choices (most.take i)).map tupI) ∧ TL K H2 q ((chPart (choices (most.take i)) j).map tupI))
        (fun H4 e4 => ⟨q0, _, _, rfl, fresh_back e2 nq0, (e2.trans e3).trans e4, (t2.ex e3).ex e4, t3.ex e4⟩) (fun j σ2 H2 hj pv => ?_) (fun σ2 H2 pv => ?_)
      · obtain ⟨q, s4, s5, rfl, nq, e5, tp, tq⟩ := pv
        refine s_asgX ?_
        have hcat : ELN K (tOp rCat (tVar 3) (tLc (iList K (tVar 1)) (gName 5) tYes (tOp (rCatU K) (tVar 5) (tTup (tCons (tVar 4) tNil))) [5])) [some (.ref a), some (.ref p), some (.int m), some (.ref q), some (.int (j : Int)), s5] H2 (((chPart (choices (most.take i)) j).map tupI) ++ (((choices (most.take i)).map tupI).map fun d => match d with
            | .tuple l => .tuple (l ++ [.int (j : Int)])
            | d => d)) := by
          refine eln_cat (el_var rfl tq) (el_lcD _ (el_var rfl tp) (by rw [List.length_map]; omega) (fun x => rfl) (fun d md => ?_) (fun x d H6 md e6 wd => ?_)) (by simp only [List.length_map, chPart_len]; have : j * (choices (most.take i)).length ≤ 5 * 7776 := Nat.mul_le_mul (by omega) (by omega); omega)
          · obtain ⟨l, _, rfl⟩ := List.mem_map.mp md
            show noLs (l.map PyData.int ++ [.int (j : Int)]) = true
            have : l.map PyData.int ++ [.int (j : Int)] = (l ++ [(j : Int)]).map PyData.int := by simp
            rw [this]
            exact noL_ints _
          · obtain ⟨l, ml2, rfl⟩ := List.mem_map.mp md
            have ol := ((choices_ok hm i (by omega)).2 l ml2).1
            refine ed_catU (ds := l.map PyData.int) (es := [.int (j : Int)]) (ed_var rfl wd) (ed_tup (eda_cons (ed_var rfl (.int _)) eda_nil) (by simp)) ?_
            rw [List.length_map, ol, List.length_take]
            simp
            omega
        refine hcat H2 (Ex.refl H2) _ fun q' H6 nq' e6 t6 => ?_
        refine ⟨q', _, _, rfl, fresh_back e5 nq', e5.trans e6, tp.ex e6, ?_⟩
        rw [chPart_succ, List.map_append]
        have : ((choices (most.take i)).map fun l => l ++ [(j : Int)]).map tupI = ((choices (most.take i)).map tupI).map fun d => match d with
            | .tuple l => .tuple (l ++ [.int (j : Int)])
            | d => d := by
          rw [List.map_map, List.map_map]
          refine List.map_congr_left fun l _ => ?_
          simp [tupI]
        rw [this]
        exact t6
      · obtain ⟨q, s4, s5, rfl, nq, e5, tp, tq⟩ := pv
        refine s_asg (v := .ref q) (ev_var rfl) fun H6 e6 => ⟨q, _, _, _, _, rfl, nq, e5.trans e6, ?_⟩
        rw [choices_take hmi]
        have : (m + 1).toNat = m.toNat + 1 := by omega
        rw [← this]
        exact tq.ex e6
    · obtain ⟨p, s2, s3, s4, s5, rfl, np, e2, t2⟩ := pv
      rw [List.length_map, List.take_length] at t2
      exact s_ret (ev_var rfl) fun H2 e3 => k p H2 np (e2.trans e3) (t2.ex e3)
end
end Cho

/-! ### _law_behind -/
namespace Beh
open PySem PySem.Spec PyProof.Rows L2 Evl Gen Ent Rep Dat Nm Er Chk Gu Deed Pts Hear Lst Bk Cau EvD BadE EntR Lis Prd NmR Bmk EqB God Oth LwP Inf Stp Stq RZ Wth Sta Aft Af2 Ini Rna Led Noc Cho
def addAt (c : List Int) (i : Nat) (y : Int) : List Int := c.set i (c.getD i 0 + y)
theorem addAt_get (c : List Int) (i j : Nat) (y : Int) : (addAt c i y)[j]? = if i = j then (c[j]?).map (· + y) else c[j]? := by
  unfold addAt
  rw [List.getElem?_set]
  by_cases h : i = j
  · subst h
    rw [if_pos rfl, if_pos rfl]
    by_cases l : i < c.length
    · rw [if_pos l, List.getElem?_eq_getElem l, List.getD_eq_getElem?_getD, List.getElem?_eq_getElem l]
      rfl
    · rw [if_neg l, List.getElem?_eq_none (by omega)]
      rfl
  · rw [if_neg h, if_neg h]
theorem addAt_comm (c : List Int) (i j : Nat) (y z : Int) : addAt (addAt c i y) j z = addAt (addAt c j z) i y := by
  refine List.ext_getElem? fun k => ?_
  rw [addAt_get, addAt_get, addAt_get, addAt_get]
  by_cases a : i = k <;> by_cases b : j = k <;> simp [a, b]
  congr 1
  funext x
  simp
  omega
theorem hearMove_add (D : PartsD) (so : Option Str) (c : List Int) (i : Nat) (y : Int) (k : Nat) (z : Int) : hearMove D so (addAt c k z) i y = addAt (hearMove D so c i y) k z := by
  have e : ∀ c, hearMove D so c i y = if y > 0 then addAt (addAt c i (-y)) (goal D so (D.ss.getD i "")) y else c := fun c => by
    unfold hearMove addAt
    rfl
  rw [e, e]
  split
  · rw [addAt_comm c k i z (-y), addAt_comm _ k _ z y]
  · rfl
theorem heardAll_add (D : PartsD) (so : Option Str) (hs : List Int) (k : Nat) (z : Int) : ∀ (i : Nat) (c : List Int), heardAll D so hs i (addAt c k z) = addAt (heardAll D so hs i c) k z
  | 0, _ => rfl
  | i + 1, c => by
    show hearMove D so (heardAll D so hs i (addAt c k z)) i _ = _
    rw [heardAll_add D so hs k z i c, hearMove_add]
    rfl
def lawB (D : PartsD) (h : Str) (c : List Int) (e : En) (hs : List Int) : Str × List Int :=
  if e.1 ∈ D.hs then (e.2.2, heardAll D e.2.1 hs D.ss.length c) else
    (if hs.getD 0 0 = 1 then (lookO (goesOf D.rs) h e.2.1).getD h else h, addAt (heardAll D e.2.1 hs D.ss.length (addAt c (at_ D.ss e.1) (-1))) (at_ D.ss e.2.2) 1)
theorem lawB_eq {D : PartsD} {h : Str} {c : List Int} {e : En} {hs : List Int} (hh : h ∈ D.hs) (ap : ∀ x ∈ D.ss, x ∉ D.hs) (ib : InB D.hs D.ss e) (eh : e.1 ∈ D.hs → e.1 = h) (h1 : hs.getD 0 0 > 0 ↔ hs.getD 0 0 = 1) : lawB D h c e hs = afterDeed D h c e hs := by
  unfold lawB afterDeed
  by_cases m : e.1 ∈ D.hs
  · rw [if_pos m]
    dsimp only
    rw [if_pos (eh m)]
  · rw [if_neg m]
    have ne : e.1 ≠ h := fun z => m (z ▸ hh)
    dsimp only
    rw [if_neg ne, heardAll_add]
    by_cases q : hs.getD 0 0 > 0
    · rw [if_pos q, if_pos (h1.mp q)]
      rfl
    · rw [if_neg q, if_neg fun z => q (h1.mpr z)]
      rfl
/-- the parts' list -/
def PtS (K : PySem.W.Frag) (H : Hp) (p : Addr) (D : PartsD) : Prop := ∃ a0 a1 a2 a3 a4 X2 X3, SqL K H p [.ref a0, .ref a1, .ref a2, .ref a3, .ref a4] ∧ SqL K H a0 (D.hs.map V.str) ∧ SqL K H a1 (D.ss.map V.str) ∧ SqL K H a2 X2 ∧ SwAll K H X2 (D.ds.map enD) ∧ SqL K H a3 X3 ∧ SwAll K H X3 (D.rs.map enD) ∧ SqL K H a4 (D.ls.map V.str)
theorem PtS.ex {K : PySem.W.Frag} {H H' : Hp} {p : Addr} {D : PartsD} (e : Ex H H') (h : PtS K H p D) : PtS K H' p D := by
  obtain ⟨a0, a1, a2, a3, a4, X2, X3, h0, h1, h2, h3, w3, h4, w4, h5⟩ := h
  exact ⟨a0, a1, a2, a3, a4, X2, X3, ex_l e h0, ex_l e h1, ex_l e h2, ex_l e h3, SwAll.ex e _ _ w3, ex_l e h4, SwAll.ex e _ _ w4, ex_l e h5⟩
theorem pts_of {K : PySem.W.Frag} {H : Hp} {p a0 a1 a2 a3 a4 : Addr} {D : PartsD} {R2 R3 : List Addr} (h : PartsAt H p D a0 a1 a2 a3 a4 R2 R3) : PtS K H p D :=
  ⟨a0, a1, a2, a3, a4, R2.map V.ref, R3.map V.ref, SqL.of h.p, SqL.of h.h0, SqL.of h.h1, SqL.of h.h2, sw_tups h.t2, SqL.of h.h3, sw_tups h.t3, SqL.of h.h4⟩
/-- a state: the house, and the counts in a tuple -/
def stD (x : Str × List Int) : PyData := .tuple [.str x.1, tupI x.2]
theorem sw_st {K : PySem.W.Frag} {H : Hp} {v : V} {x : Str × List Int} (h : Sw K H v (stD x)) : ∃ s ct, v = .ref s ∧ SqT K H s [.str x.1, .ref ct] ∧ SqT K H ct (VInt x.2) := by
  obtain ⟨s, xs, rfl, q, w⟩ := sw_tup h
  obtain ⟨a, b, rfl, w1, w2⟩ := sw_two w
  cases w1
  obtain ⟨ct, ys, rfl, q2, w3⟩ := sw_tup w2
  rw [ints_inv w3] at q2
  exact ⟨s, ct, rfl, q, q2⟩
theorem sw_ints {K : PySem.W.Frag} {H : Hp} : ∀ c : List Int, SwAll K H (VInt c) (c.map PyData.int)
  | [] => .nil
  | i :: c => .cons (.int i) (sw_ints c)
theorem eqV_str (a b : Str) : eqV (.str a) (.str b) = decide (a = b) := by
  show (a == b) = _
  by_cases h : a = b <;> simp [h]
/-- stands.index(s) -/
theorem ev_idx {K : PySem.W.Frag} {σ : L2.St} {H : Hp} {ta te : TE} {a : Addr} {ss : List Str} {s : Str} {i : Nat} (h1 : Ev ta σ H (.ref a)) (ha : SqL K H a (ss.map V.str)) (h2 : Ev te σ H (.str s)) (hi : posN ss s = some i) : Ev (tBM K "list" (rIndex K) ta (tCons te tNil)) σ H (.int (i : Int)) := fun H1 e Q q => by
  refine h1 H1 e _ fun H2 e2 => ⟨.inl ⟨rfl, _, ex_l (e.trans e2) ha⟩, h2 H2 (e.trans e2) _ fun H3 e3 => ?_⟩
  have hf := hi
  unfold posN at hf
  obtain ⟨l1, l2, l3⟩ := List.findIdx?_eq_some_iff_getElem.mp hf
  refine ⟨a, ss.map V.str, .str s, i, .str s, rfl, rfl, ex_l ((e.trans e2).trans e3) ha, rfl, flat_strs _, ?_, by rw [eqV_str, decide_eq_true rfl], fun m z' hm hz => ?_, q H3 (e2.trans e3)⟩
  · rw [List.getElem?_map, (pos_lt hi).2]
    rfl
  · have ml : m < ss.length := by omega
    rw [List.getElem?_map, List.getElem?_eq_getElem ml] at hz
    obtain rfl : V.str ss[m] = z' := Option.some.inj hz
    rw [eqV_str]
    have := l3 m hm
    simpa using this
theorem el_listT {K : PySem.W.Frag} {σ : L2.St} {H : Hp} {ta : TE} {p : Addr} {xs : List V} (ha : Ev ta σ H (.ref p)) (h : SqT K H p xs) : EvL (tCB (fun xs H Q => ∃ p ys, xs = [.ref p] ∧ ((SqL K H p ys ∨ SqT K H p ys) ∧ ∀ l, H l = none → Q (.ref l) (upd H l (.lst ys)))) (tCons ta tNil)) σ H xs := fun H1 e Q q =>
  ha H1 e _ fun H2 e2 => ⟨p, xs, rfl, .inr (ex_t (e.trans e2) h), fun l nl => q l _ (fresh_back e2 nl) (e2.trans (Ex.new nl)) upd_same⟩
theorem q_ifK {b : Bool} {t : TT} {tu tw tz : TS} {D : Ends} {σ : L2.St} {H : Hp} (Pv : L2.St → Hp → Prop) (h : EvT t σ H b) (h1 : b = true → ∀ H1, Ex H H1 → (∀ σ' H', Pv σ' H' → tz D σ' H') → tu { D with nx := tz D } σ H1) (h2 : b = false → ∀ H1, Ex H H1 → (∀ σ' H', Pv σ' H' → tz D σ' H') → tw { D with nx := tz D } σ H1)
    (hk : ∀ σ' H', Pv σ' H' → tz D σ' H') : tSeq (tIfS t tu tw) tz D σ H := q_if h (fun z H1 e => h1 z H1 e hk) (fun z H1 e => h2 z H1 e hk)
theorem q_norm {tz : TS} {D : Ends} {σ σ' : L2.St} {H : Hp} (e : σ = σ') (h : tz D σ' H) : tz D σ H := e ▸ h
theorem s_retD {K : PySem.W.Frag} {te : TE} {D : Ends} {σ : L2.St} {H : Hp} {d : PyData} (h : ED K te σ H d) (k : ∀ v H1, Ex H H1 → Sw K H1 v d → D.rt v H1) : tRet te D σ H := h H (Ex.refl H) _ fun v H1 e w => k v H1 e w
theorem goes_mem {rs : List En} {x : (Str × Str) × Str} (h : x ∈ goesOf rs) : (x.1.1, some x.1.2, x.2) ∈ rs := by
  obtain ⟨e, he, q⟩ := List.mem_filterMap.mp h
  obtain ⟨s, hs, rfl⟩ := Option.map_eq_some_iff.mp q
  obtain ⟨a, b, c⟩ := e
  dsimp only at hs ⊢
  rw [← hs]
  exact he
theorem goes_nd : ∀ {rs : List En}, (rs.map key).Nodup → ((goesOf rs).map (·.1)).Nodup
  | [], _ => List.nodup_nil
  | (a, none, c) :: rs, h => goes_nd (rs := rs) (List.nodup_cons.mp h).2
  | (a, some z, c) :: rs, h => by
    obtain ⟨h1, h2⟩ := List.nodup_cons.mp h
    show (((a, z), c) :: goesOf rs |>.map (·.1)).Nodup
    refine List.nodup_cons.mpr ⟨fun m => h1 ?_, goes_nd h2⟩
    obtain ⟨x, mx, e⟩ := List.mem_map.mp m
    have := goes_mem mx
    rw [e] at this
    exact List.mem_map.mpr ⟨_, this, rfl⟩
theorem paired_imp {α β : Type} {F F' : α → β → Prop} (h : ∀ a b, F a b → F' a b) : ∀ {l : List α} {m : List β}, Paired F l m → Paired F' l m
  | _, _, .nil => .nil
  | _, _, .cons a b => .cons (h _ _ a) (paired_imp h b)
theorem paired_len {α β : Type} {F : α → β → Prop} : ∀ {l : List α} {m : List β}, Paired F l m → l.length = m.length
  | _, _, .nil => rfl
  | _, _, .cons _ b => by simp [paired_len b]
def PairF (H : Hp) (p : Addr × Addr) (e : (Str × Str) × Str) : Prop := H p.1 = some (.tup [.ref p.2, .str e.2]) ∧ H p.2 = some (.tup [.str e.1.1, .str e.1.2])
theorem pair_snoc {H1 H3 : Hp} {Dl k1 k2 : Addr} {rs : List En} {i : Nat} {ps : List (Addr × Addr)} {rx z rt : Str} (hD : H1 Dl = none) (hD2 : H3 Dl = some (.lst (ps.map fun p => V.ref p.1))) (e2 : Ex H1 H3) (nk1 : H3 k1 = none) (nk2 : upd H3 k1 (.tup [.str rx, .str z]) k2 = none)
    (pm : Paired (PairF H3) ps (goesOf (rs.take i))) (hr : rs[i]? = some (rx, some z, rt)) (il : i ≤ 12) :
    ∃ acc, upd (upd H3 k1 (.tup [.str rx, .str z])) k2 (.tup [.ref k1, .str rt]) Dl = some (.lst acc) ∧ acc.length < sizeLine ∧ Ex H1 (upd (upd (upd H3 k1 (.tup [.str rx, .str z])) k2 (.tup [.ref k1, .str rt])) Dl (.lst (acc ++ [.ref k2]))) ∧
      ∃ ps : List (Addr × Addr), upd (upd (upd H3 k1 (.tup [.str rx, .str z])) k2 (.tup [.ref k1, .str rt])) Dl (.lst (acc ++ [.ref k2])) Dl = some (.lst (ps.map fun p => V.ref p.1)) ∧
        Paired (PairF (upd (upd (upd H3 k1 (.tup [.str rx, .str z])) k2 (.tup [.ref k1, .str rt])) Dl (.lst (acc ++ [.ref k2])))) ps (goesOf (rs.take (i + 1))) := by
  have e5 : Ex H3 (upd (upd H3 k1 (.tup [.str rx, .str z])) k2 (.tup [.ref k1, .str rt])) := (Ex.new nk1).trans (Ex.new nk2)
  have n12 : k1 ≠ k2 := ne_of_none upd_same nk2
  have f1 : upd (upd H3 k1 (.tup [.str rx, .str z])) k2 (.tup [.ref k1, .str rt]) k1 = some (.tup [.str rx, .str z]) := by rw [upd_ne n12, upd_same]
  have f2 : upd (upd H3 k1 (.tup [.str rx, .str z])) k2 (.tup [.ref k1, .str rt]) k2 = some (.tup [.ref k1, .str rt]) := upd_same
  have hD5 := e5 _ _ hD2
  generalize upd (upd H3 k1 (.tup [.str rx, .str z])) k2 (.tup [.ref k1, .str rt]) = H5 at e5 f1 f2 hD5
  have gl : goesOf (rs.take (i + 1)) = goesOf (rs.take i) ++ [((rx, z), rt)] := by
    unfold goesOf
    rw [List.take_succ, hr, List.filterMap_append]
    rfl
  have pl := paired_len pm
  have glen : (goesOf (rs.take i)).length ≤ i := Nat.le_trans (List.length_filterMap_le _ _) (by rw [List.length_take]; exact Nat.min_le_left _ _)
  have keep : ∀ (a : Addr) (xs : List V) o, H5 a = some (.tup xs) → upd H5 Dl o a = some (.tup xs) := fun a xs o h => by
    rw [upd_ne (ne_of h hD5 (by intro z; cases z))]
    exact h
  refine ⟨_, hD5, sz_lt (by rw [List.length_map, pl]; omega), (e2.trans e5).mut hD, ps ++ [(k2, k1)], by rw [upd_same, List.map_append]; rfl, ?_⟩
  rw [gl]
  refine (paired_imp (fun a b h => ⟨keep _ _ _ (e5 _ _ h.1), keep _ _ _ (e5 _ _ h.2)⟩) pm).snoc ⟨keep _ _ _ f2, keep _ _ _ f1⟩
def spBe (K : PySem.W.Frag) : Sp := fun vs H Q _ => ∃ (p : Addr) (v vh : V) (D : PartsD) (h : Str) (c : List Int) (n : Nat) (e : En) (hs : List Int), vs = [.ref p, v, .int (n : Int), vh] ∧ PtS K H p D ∧ Sw K H v (stD (h, c)) ∧ D.ds[n]? = some e ∧ Sw K H vh (tupI hs) ∧ c.length = D.ss.length ∧ GoD D ∧
  OkH D h e hs ∧ ∀ v' H', Ex H H' → Sw K H' v' (stD (lawB D h c e hs)) → Q v' H'
abbrev sBe : Stmt := top 39
abbrev NBe : List Str := ["_law_parts_here", "_law_state", "_law_number", "_law_heard", "_law_houses", "_law_stands", "_law_deeds", "_law_hearings", "_law_lost", "_law_place", "_law_sound", "_law_other", "_law_known", "_law_house", "_law_counts", "_law_later", "_law_at", "_law_spot", "_law_one", "_law_word", "_law_last"]
theorem scBe : FnScope NBe ["_law_parts_here", "_law_state", "_law_number", "_law_heard"] (defScope sBe) := ⟨rfl, rfl, rfl, by decide +kernel, rfl, by decide +kernel, by decide +kernel⟩
section
variable {P : Program} {w : World} {K : PySem.W.Frag} {mg : Str → Option Value} {base : Heap}
set_option maxHeartbeats 4000000 in
theorem ok_be {f : Addr} {fd : FuncData} (F : Fun K "_law_behind" "_law_behind" sBe f fd) (B : Bv mg) : FnOk P w K mg base CX0 1 f fd ["_law_parts_here", "_law_state", "_law_number", "_law_heard"] (spBe K) := by
  refine F.ok scBe (fun vs H Q E h => ?_) (fun cdv A outer s H vs Q E hr h => ?_)
  · obtain ⟨_, _, _, _, _, _, _, _, _, rfl, _⟩ := h
    rfl
  · obtain ⟨p, v, vh, D, h, c, n, e, hs, rfl, hp, hv, hn, hvh, cl, g, ok, k⟩ := h
    refine ⟨_, (pss_cons (ps_asg (pv 0) (pg_unl rfl (pgs_cons (pg_name (i := 4) scBe.nd rfl (Or.inl rfl)) (pgs_cons (pg_name (i := 5) scBe.nd rfl (Or.inl rfl)) (pgs_cons (pg_name (i := 6) scBe.nd rfl (Or.inl rfl)) (pgs_cons (pg_name (i := 7) scBe.nd rfl (Or.inl rfl)) (pgs_cons (pg_name (i := 8) scBe.nd rfl (Or.inl rfl)) pgs_nil)))))))
      (pss_cons (ps_asg (pe_ix ix_list (pv 6) (pv 2) (fun _ _ => rfl)) (pg_tup rfl (pgs_cons (pg_name (i := 9) scBe.nd rfl (Or.inl rfl)) (pgs_cons (pg_name (i := 10) scBe.nd rfl (Or.inl rfl)) (pgs_cons (pg_name (i := 11) scBe.nd rfl (Or.inl rfl)) pgs_nil)))))
      (pss_cons (ps_set (i := 12) scBe.nd rfl (Or.inl rfl) (pe_callTy (cr_dictP (un64 hr) rfl) (by rfl) B.dict (by decide +kernel) (pa_cons (pe_lc (own := [("_law_one", 18), ("_law_word", 19), ("_law_last", 20)]) (g := gTup K 3 (gCons (gName 18) (gCons (gName 19) (gCons (gName 20) gNil)))) (tt := tYes) (te := tTup (tCons (tTup (tCons (tVar 18) (tCons (tVar 19) tNil))) (tCons (tVar 20) tNil))) rfl scBe.nd (pi_list (pv 7)) (blkOk_by (N := NBe) (sc := defScope sBe) (by decide +kernel)) (fun _ _ _ _ _ => (pg_tup rfl (pgs_cons (pg_name (i := 18) scBe.nd rfl (Or.inl rfl)) (pgs_cons (pg_name (i := 19) scBe.nd rfl (Or.inl rfl)) (pgs_cons (pg_name (i := 20) scBe.nd rfl (Or.inl rfl)) pgs_nil))))) (fun _ _ _ _ _ => pts_nil) (fun _ _ _ _ _ => (pe_tup (pa_cons (pe_tup (pa_cons (pv 18) (pa_cons (pv 19) pa_nil))) (pa_cons (pv 20) pa_nil))))) pa_nil)))
      (pss_cons (ps_par (i := 13) (j := 14) rfl scBe.nd rfl rfl (by decide) rfl rfl (pa_cons (pe_ix ix_tup (pv 1) pe_int (fun _ _ => rfl)) (pa_cons (pe_callTy call_list_of (by rfl) B.list (by decide +kernel) (pa_cons (pe_ix ix_tup (pv 1) pe_int (fun _ _ => rfl)) pa_nil)) pa_nil)) (by rfl))
      (pss_cons (ps_if (pt_cmpR (op_inS (Chk.un65 hr)) (pv 9) (pv 4) (by rfl)) (pss_one (ps_set (i := 13) scBe.nd rfl (Or.inl rfl) (pv 11))) (pss_cons (ps_asg (pe_op op_sub (pe_ix ix_list (pv 14) (pe_bm PySem.F.plainAttrs_list PySem.F.slot_list_index PySem.F.type_list_index mt_index (pv 5) (pa_cons (pv 9) pa_nil)) (fun _ _ => rfl)) pe_int) (pg_sub (pv 14) (pe_bm PySem.F.plainAttrs_list PySem.F.slot_list_index PySem.F.type_list_index mt_index (pv 5) (pa_cons (pv 9) pa_nil)) set_list))
      (pss_one (ps_set (i := 13) scBe.nd rfl (Or.inl rfl) (pe_ifExp (pt_cmpR op_eq (pe_ix ix_tup (pv 3) pe_int (fun _ _ => rfl)) pe_int (nomark _)) (pe_dget (hu_of hr) (pv 12) (pe_tup (pa_cons (pv 13) (pa_cons (pv 10) pa_nil))) (fun _ _ => rfl)) (pv 13))))))
      (pss_cons (ps_set (i := 15) scBe.nd rfl (Or.inl rfl) (pe_callTy call_list_of (by rfl) B.list (by decide +kernel) (pa_cons (pv 14) pa_nil)))
      (pss_cons (ps_for PassesOwn.never rfl (pi_range1 rfl B.range (pa_cons (pe_callB call_len_seq (by rfl) B.len PySem.boot_len (pa_cons (pv 5) pa_nil)) pa_nil)) (pg_name (i := 16) scBe.nd rfl (Or.inl rfl)) (pss_one (ps_if (pt_cmpR op_gt (pe_ix ix_tup (pv 3) (pe_op op_add (pv 16) pe_int) (fun _ _ => rfl)) pe_int (nomark _)) (pss_cons (ps_asg (pe_op op_sub (pe_ix ix_list (pv 15) (pv 16) (fun _ _ => rfl)) (pe_ix ix_tup (pv 3) (pe_op op_add (pv 16) pe_int) (fun _ _ => rfl))) (pg_sub (pv 15) (pv 16) set_list))
      (pss_cons (ps_set (i := 17) scBe.nd rfl (Or.inl rfl) (pe_bm PySem.F.plainAttrs_list PySem.F.slot_list_index PySem.F.type_list_index mt_index (pv 5) (pa_cons (pe_dget (hu_of hr) (pv 12) (pe_tup (pa_cons (pe_ix ix_list (pv 5) (pv 16) (fun _ _ => rfl)) (pa_cons (pv 10) pa_nil))) (fun _ _ => rfl)) pa_nil)))
      (pss_one (ps_asg (pe_op op_add (pe_ix ix_list (pv 15) (pv 17) (fun _ _ => rfl)) (pe_ix ix_tup (pv 3) (pe_op op_add (pv 16) pe_int) (fun _ _ => rfl))) (pg_sub (pv 15) (pv 17) set_list))))) pss_nil)))
      (pss_cons (ps_if (pt_cmpR (op_inS (Chk.un65 hr)) (pv 9) (pv 5) (by rfl)) (pss_one (ps_asg (pe_op op_add (pe_ix ix_list (pv 15) (pe_bm PySem.F.plainAttrs_list PySem.F.slot_list_index PySem.F.type_list_index mt_index (pv 5) (pa_cons (pv 11) pa_nil)) (fun _ _ => rfl)) pe_int) (pg_sub (pv 15) (pe_bm PySem.F.plainAttrs_list PySem.F.slot_list_index PySem.F.type_list_index mt_index (pv 5) (pa_cons (pv 11) pa_nil)) set_list))) pss_nil)
      (pss_one (ps_ret (pe_tup (pa_cons (pv 13) (pa_cons (pe_callTy call_tuple_of (by rfl) B.tuple (by decide +kernel) (pa_cons (pv 15) pa_nil)) pa_nil))))))))))))), ?_⟩
    obtain ⟨a0, a1, a2, a3, a4, X2, X3, q0, qh, qs, q2, w2, q3, w3, q4⟩ := hp
    obtain ⟨st, ct, rfl, s1, s2⟩ := sw_st hv
    obtain ⟨hb, ys, rfl, qb, wb⟩ := sw_tup hvh
    rw [ints_inv wb] at qb
    refine ⟨_, rfl, p, _, rfl, q0, rfl, _, _, rfl, _, _, rfl, _, _, rfl, _, _, rfl, _, _, rfl, rfl, ?_⟩
    have nl : n < X2.length := by
      rw [swAll_len w2, List.length_map]
      exact (List.getElem?_eq_some_iff.mp hn).1
    obtain ⟨dd, hdd, wd⟩ := swAll_get w2 (List.getElem?_eq_getElem nl)
    rw [List.getElem?_map, hn] at hdd
    obtain rfl : enD e = dd := Option.some.inj hdd
    obtain ⟨d, hx, hd⟩ := sw_en wd
    refine ev_op (z := .ref d) (ev_var rfl) (ev_var rfl) (rv_ixL q2 (atI_nat (by rw [List.getElem?_eq_getElem nl, hx]))) H (Ex.refl H) _ fun H1 e1 => ⟨d, _, rfl, ex_t e1 hd, rfl, _, _, rfl, _, _, rfl, _, _, rfl, rfl, ?_⟩
    dsimp only
    refine q_norm (σ' := [some (.ref p), some (.ref st), some (.int (n : Int)), some (.ref hb), some (.ref a0), some (.ref a1), some (.ref a2), some (.ref a3), some (.ref a4), some (.str e.1), some (sv e.2.1), some (.str e.2.2), none, none, none, none, none, none, none, none, none]) rfl ?_
    refine q_asgX ?_
    have xl : X3.length = D.rs.length := by rw [swAll_len w3]; exact List.length_map ..
    refine ⟨_, rfl, a3, rfl, ⟨X3, ex_l e1 q3⟩, fun Dl hD => lc_it (walk_list (xs := X3)) (fun i H' => Ex H1 H' ∧ ∃ ps : List (Addr × Addr), H' Dl = some (.lst (ps.map fun p => V.ref p.1)) ∧ Paired (PairF H') ps (goesOf (D.rs.take i)))
      ⟨Ex.new hD, [], upd_same, .nil⟩ (fun i H' _ pv => ex_l (e1.trans pv.1) q3) (fun i x H2 H3 hi pv y => ?_) fun H2 pv => ?_⟩
    · obtain ⟨e2, ps, hD2, pm⟩ := pv
      obtain ⟨rfl, hx'⟩ := y
      obtain ⟨dd, hdd, wd⟩ := swAll_get (SwAll.ex (e1.trans e2) _ _ w3) hx'
      rw [List.getElem?_map] at hdd
      obtain ⟨r, hr', rfl⟩ := Option.map_eq_some_iff.mp hdd
      obtain ⟨T, rfl, hT⟩ := sw_en wd
      obtain ⟨⟨z, hz, _⟩, _⟩ := g.orr r (List.mem_of_getElem? hr')
      obtain ⟨rx, rz, rt⟩ := r
      have hz' : rz = some z := hz
      subst hz'
      refine ⟨T, _, rfl, hT, rfl, _, _, rfl, _, _, rfl, _, _, rfl, rfl, rfl, ?_⟩
      refine ⟨_, rfl, _, rfl, by show 2 ≤ sizeLine; decide, fun k1 nk1 => ⟨_, rfl, by show 2 ≤ sizeLine; decide, fun k2 nk2 => ?_⟩⟩
      exact pair_snoc hD hD2 e2 nk1 nk2 pm hr' (Nat.le_of_lt (Nat.lt_of_lt_of_le (by rw [xl] at hi; exact hi) g.r))
    obtain ⟨e2, ps, hDl, pm⟩ := pv
    rw [xl, List.take_length] at pm
    refine ⟨Dl, ps, goesOf D.rs, rfl, SqL.of hDl, pm, goes_nd g.dr, Nat.le_trans (by rw [← List.length_map (f := fun e : (Str × Str) × Str => (([.inr e.1.1, .inr e.1.2] : List Key), V.str e.2))]; exact goes_len _) (Nat.le_trans g.r (by decide)), fun kd nk => ?_⟩
    have e3 : Ex H2 (upd H2 kd (.dT (kv (goesOf D.rs)))) := Ex.new nk
    have hkd : upd H2 kd (.dT (kv (goesOf D.rs))) kd = some (.dT (kv (goesOf D.rs))) := upd_same
    generalize upd H2 kd (.dT (kv (goesOf D.rs))) = H3 at e3 hkd
    have E3 := (e1.trans e2).trans e3
    refine ev_op (ev_var rfl) ev_c (rv_ixT (ex_t E3 s1) (atI_nat (j := 0) rfl)) H3 (Ex.refl _) _ fun H4 e4 => el_listT (ev_op (ev_var rfl) ev_c (rv_ixT (ex_t (E3.trans e4) s1) (atI_nat (j := 1) rfl))) (ex_t (E3.trans e4) s2) H4 (Ex.refl _) _ fun cn H5 ncn e5 hcn => ⟨_, _, rfl, ?_⟩
    have E5 := (E3.trans e4).trans e5
    have ncn0 : H cn = none := fresh_back (E3.trans e4) ncn
    have hkd5 := (e4.trans e5) _ _ hkd
    have nkd : kd ≠ cn := ne_of_none (e4 _ _ hkd) ncn
    have ib := (g.od e (List.mem_of_getElem? hn)).2
    refine q_ifK (fun σ' H' => ∃ ho c5, σ' = [some (.ref p), some (.ref st), some (.int (n : Int)), some (.ref hb), some (.ref a0), some (.ref a1), some (.ref a2), some (.ref a3), some (.ref a4), some (.str e.1), some (sv e.2.1), some (.str e.2.2), some (.ref kd), some (.str ho), some (.ref cn), none, none, none, none, none, none] ∧ Ex H H' ∧
      H' kd = some (.dT (kv (goesOf D.rs))) ∧ H' cn = some (.lst (VInt c5)) ∧ c5.length = D.ss.length ∧ (if e.1 ∈ D.ss then (ho, addAt (heardAll D e.2.1 hs D.ss.length c5) (at_ D.ss e.2.2) 1) else (ho, heardAll D e.2.1 hs D.ss.length c5)) = lawB D h c e hs)
      (b := decide (e.1 ∈ D.hs)) (et_test (ev_in (ev_var rfl) (ev_var rfl) (.str _) (ex_l E5 qh))) (fun hm H6 e6 hk => ?_) (fun hm H6 e6 hk => ?_) (fun σ' H' pv => ?_)
    · have hm' : e.1 ∈ D.hs := of_decide_eq_true hm
      refine s_asg (v := .str e.2.2) (ev_var rfl) fun H7 e7 => hk _ _ ⟨e.2.2, c, rfl, (E5.trans e6).trans e7, (e6.trans e7) _ _ hkd5, (e6.trans e7) _ _ hcn, cl, ?_⟩
      rw [if_neg fun z => g.ap _ z hm']
      unfold lawB
      rw [if_pos hm']
    · have hm' : e.1 ∉ D.hs := of_decide_eq_false hm
      have ib2 : e.1 ∈ D.ss ∧ e.2.2 ∈ D.ss := ib.resolve_left fun z => hm' z.1
      obtain ⟨i, hi⟩ := pos_some ib2.1
      have E6 := E5.trans e6
      have ai : at_ D.ss e.1 = i := by
        unfold at_
        rw [hi]
        rfl
      have il : i < c.length := by rw [cl]; exact (pos_lt hi).1
      have hix : ∀ G, Ex H G → ∀ σ : L2.St, σ[5]? = some (some (.ref a1)) → σ[9]? = some (some (.str e.1)) → Ev (tBM K "list" (rIndex K) (tVar 5) (tCons (tVar 9) tNil)) σ G (.int (i : Int)) := fun G a σ h5 h9 => ev_idx (ev_var h5) (ex_l a qs) (ev_var h9) hi
      refine q_setL (j := i) (v := .int (c.getD i 0 - 1)) (e6 _ _ hcn) (ev_op (ev_op (ev_var rfl) (hix _ E6 _ rfl rfl) (rv_ixL (SqL.of (e6 _ _ hcn)) (atI_c il))) ev_c rv_I0) (ev_var rfl) (hix _ E6 _ rfl rfl) (by rw [List.length_map]; exact il) fun H7 e7 => ?_
      have E7 : Ex H (upd H7 cn (.lst ((VInt c).set i (.int (c.getD i 0 - 1))))) := (E6.trans e7).mut ncn0
      have hk7 : upd H7 cn (.lst ((VInt c).set i (.int (c.getD i 0 - 1)))) kd = some (.dT (kv (goesOf D.rs))) := by
        rw [upd_ne nkd]
        exact (e6.trans e7) _ _ hkd5
      have hc7 : upd H7 cn (.lst ((VInt c).set i (.int (c.getD i 0 - 1)))) cn = some (.lst (VInt (addAt c i (-1)))) := by
        rw [upd_same]
        congr 2
        show (c.map V.int).set i _ = (c.set i _).map V.int
        rw [List.map_set]
        rfl
      generalize upd H7 cn (.lst ((VInt c).set i (.int (c.getD i 0 - 1)))) = H8 at E7 hk7 hc7
      refine s_asg (v := .str (if hs.getD 0 0 = 1 then (lookO (goesOf D.rs) h e.2.1).getD h else h)) ?_ fun H9 e9 => hk _ _ ⟨_, _, rfl, E7.trans e9, e9 _ _ hk7, e9 _ _ hc7, ?_, ?_⟩
      · refine ev_if (b := decide (hs.getD 0 0 = 1)) (et_test (ev_is (ev_op (ev_op (ev_var rfl) ev_c (rv_ixT (ex_t E7 qb) (atI_c (i := 0) (by rw [ok.len]; omega)))) ev_c (rv_eq rfl)) ?_)) (fun hz => ?_) (fun hz => ?_)
        · congr 1
          simp
        · have hz' : hs.getD 0 0 = 1 := of_decide_eq_true hz
          obtain ⟨z, t, ez, lt⟩ := ok.ho (by omega)
          obtain ⟨e1, e2, e3⟩ := e
          have ez' : e2 = some z := ez
          subst ez'
          rw [if_pos hz']
          refine ev_is (ev_goes (ev_var rfl) (ev_var rfl) (ev_var rfl) hk7 lt) ?_
          show V.str t = V.str ((look (goesOf D.rs) h z).getD h)
          rw [lt]
          rfl
        · rw [if_neg (of_decide_eq_false hz)]
          exact ev_var rfl
      · unfold addAt
        rw [List.length_set, cl]
      · rw [if_pos ib2.1]
        unfold lawB
        rw [if_neg hm', ai]
    · obtain ⟨ho, c5, rfl, E6, hk6, hc6, l5, fin⟩ := pv
      have li : ∀ G, Ex H G → SqL K G a1 (D.ss.map V.str) := fun G a => ex_l a qs
      refine q_asgL (xs := VInt c5) (el_list (ev_var rfl) (SqL.of hc6)) fun la H7 nla e7 hla => ?_
      have E7 := E6.trans e7
      have nla0 : H la = none := fresh_back E6 nla
      have hk7 := e7 _ _ hk6
      have nkl : kd ≠ la := ne_of_none hk6 nla
      refine q_forR1 (n := (D.ss.length : Int)) (ea_cons (ev_is (ev_len (ev_var rfl) (li _ E7)) (by simp)) ea_nil) (by have := g.s.2; omega)
        (fun i σ' H' => (∃ s16 s17, σ' = [some (.ref p), some (.ref st), some (.int (n : Int)), some (.ref hb), some (.ref a0), some (.ref a1), some (.ref a2), some (.ref a3), some (.ref a4), some (.str e.1), some (sv e.2.1), some (.str e.2.2), some (.ref kd), some (.str ho), some (.ref cn), some (.ref la), s16, s17, none, none, none]) ∧ Ex H H' ∧
          H' kd = some (.dT (kv (goesOf D.rs))) ∧ H' la = some (.lst (VInt (heardAll D e.2.1 hs i c5))))
        (fun H8 e8 => ⟨⟨_, _, rfl⟩, E7.trans e8, e8 _ _ hk7, e8 _ _ hla⟩) (fun i σ' H8 hi pv => ?_) (fun σ' H8 pv => ?_)
      · obtain ⟨⟨s16, s17, rfl⟩, E8, hk8, hl8⟩ := pv
        have il : i < D.ss.length := by omega
        have ml : (heardAll D e.2.1 hs i c5).length = D.ss.length := by rw [heardAll_len, l5]
        have gs : D.ss[i]? = some (D.ss[i]'il) := List.getElem?_eq_getElem il
        have hat : ∀ G, Ex H G → ∀ σ : L2.St, σ[3]? = some (some (.ref hb)) → σ[16]? = some (some (.int (i : Int))) → Ev (tOp (rIxT K) (tVar 3) (tOp (rI0 fun i j => .int (i + j)) (tVar 16) (tC (.int 1)))) σ G (.int (hs.getD (i + 1) 0)) :=
          fun G a σ h3 h16 => ev_op (ev_var h3) (ev_is (ev_op (ev_var h16) ev_c rv_I0) (by simp)) (rv_ixT (ex_t a qb) (atI_c (i := i + 1) (by rw [ok.len]; omega)))
        refine s_when (b := decide (hs.getD (i + 1) 0 > 0)) (et_test (ev_op (hat _ E8 _ rfl rfl) ev_c rv_I0)) (fun hy H9 e9 => ?_) (fun hy H9 e9 => ?_)
        · have hy' : hs.getD (i + 1) 0 > 0 := of_decide_eq_true hy
          obtain ⟨z, t, j, hz, hl2, hj⟩ := ok.st i _ gs hy'
          have E9 := E8.trans e9
          have hl9 := e9 _ _ hl8
          have hk9 := e9 _ _ hk8
          have gj : goal D e.2.1 (D.ss.getD i "") = j := by
            unfold goal
            rw [List.getD_eq_getElem?_getD, gs, hz]
            show ((look (goesOf D.rs) D.ss[i] z).bind (posN D.ss)).getD 0 = j
            rw [hl2]
            show (posN D.ss t).getD 0 = j
            rw [hj]
            rfl
          have hM : heardAll D e.2.1 hs (i + 1) c5 = addAt (addAt (heardAll D e.2.1 hs i c5) i (-hs.getD (i + 1) 0)) j (hs.getD (i + 1) 0) := by
            show hearMove D e.2.1 (heardAll D e.2.1 hs i c5) i (hs.getD (i + 1) 0) = _
            unfold hearMove
            rw [if_pos hy', gj]
            rfl
          rw [hM]
          generalize heardAll D e.2.1 hs i c5 = m at ml hl9
          refine q_setL (j := i) (v := .int (m.getD i 0 - hs.getD (i + 1) 0)) hl9 (ev_op (ev_op (ev_var rfl) (ev_var rfl) (rv_ixL (SqL.of hl9) (atI_c (by omega)))) (hat _ E9 _ rfl rfl) rv_I0) (ev_var rfl) (ev_var rfl) (by rw [List.length_map]; omega) fun HA eA => ?_
          have EA : Ex H (upd HA la (.lst ((VInt m).set i (.int (m.getD i 0 - hs.getD (i + 1) 0))))) := (E9.trans eA).mut nla0
          have hkA : upd HA la (.lst ((VInt m).set i (.int (m.getD i 0 - hs.getD (i + 1) 0)))) kd = some (.dT (kv (goesOf D.rs))) := by
            rw [upd_ne nkl]
            exact eA _ _ hk9
          have hlA : upd HA la (.lst ((VInt m).set i (.int (m.getD i 0 - hs.getD (i + 1) 0)))) la = some (.lst (VInt (addAt m i (-hs.getD (i + 1) 0)))) := by
            rw [upd_same]
            congr 2
            show (m.map V.int).set i _ = (m.set i _).map V.int
            rw [List.map_set]
            rfl
          generalize upd HA la (.lst ((VInt m).set i (.int (m.getD i 0 - hs.getD (i + 1) 0)))) = HB at EA hkA hlA
          have mBl : (addAt m i (-hs.getD (i + 1) 0)).length = D.ss.length := by
            unfold addAt
            rw [List.length_set, ml]
          generalize addAt m i (-hs.getD (i + 1) 0) = mB at hlA mBl
          have hgo : Ev (tDGet (tVar 12) (tTup (tCons (tOp (rIxL K) (tVar 5) (tVar 16)) (tCons (tVar 10) tNil)))) [some (.ref p), some (.ref st), some (.int (n : Int)), some (.ref hb), some (.ref a0), some (.ref a1), some (.ref a2), some (.ref a3), some (.ref a4), some (.str e.1), some (sv e.2.1), some (.str e.2.2), some (.ref kd), some (.str ho), some (.ref cn), some (.ref la), some (.int (i : Int)), s17, none, none, none] HB (.str t) := by
            refine ev_goes (x := D.ss[i]'il) (z := z) (ev_op (ev_var rfl) (ev_var rfl) (rv_ixL (li _ EA) (atI_nat (by rw [List.getElem?_map, gs]; rfl)))) (ev_var ?_) (ev_var rfl) hkA hl2
            rw [hz]
            rfl
          refine q_asg (v := .int (j : Int)) (ev_idx (ev_var rfl) (li _ EA) hgo hj) fun HC eC => ?_
          have hlC := eC _ _ hlA
          have jl : j < mB.length := by rw [mBl]; exact (pos_lt hj).1
          refine s_setL (j := j) (v := .int (mB.getD j 0 + hs.getD (i + 1) 0)) hlC (ev_op (ev_op (ev_var rfl) (ev_var rfl) (rv_ixL (SqL.of hlC) (atI_c jl))) (hat _ (EA.trans eC) _ rfl rfl) rv_I0) (ev_var rfl) (ev_var rfl) (by rw [List.length_map]; exact jl) fun HD eD => ?_
          refine ⟨⟨_, _, rfl⟩, ((EA.trans eC).trans eD).mut nla0, ?_, ?_⟩
          · rw [upd_ne nkl]
            exact (eC.trans eD) _ _ hkA
          · rw [upd_same]
            congr 2
            show (mB.map V.int).set j _ = (mB.set j _).map V.int
            rw [List.map_set]
        · refine ⟨⟨_, _, rfl⟩, E8.trans e9, e9 _ _ hk8, ?_⟩
          have hM : heardAll D e.2.1 hs (i + 1) c5 = heardAll D e.2.1 hs i c5 := by
            show hearMove D e.2.1 (heardAll D e.2.1 hs i c5) i (hs.getD (i + 1) 0) = _
            unfold hearMove
            rw [if_neg (of_decide_eq_false hy)]
          rw [hM]
          exact e9 _ _ hl8
      · obtain ⟨⟨s16, s17, rfl⟩, E8, hk8, hl8⟩ := pv
        have hl8' : H8 la = some (.lst (VInt (heardAll D e.2.1 hs D.ss.length c5))) := by
          simpa using hl8
        have ml : (heardAll D e.2.1 hs D.ss.length c5).length = D.ss.length := by rw [heardAll_len, l5]
        generalize heardAll D e.2.1 hs D.ss.length c5 = m at hl8' ml fin
        refine q_when (b := decide (e.1 ∈ D.ss)) (et_test (ev_in (ev_var rfl) (ev_var rfl) (.str _) (li _ E8))) (fun hm H9 e9 => ?_) (fun hm H9 e9 => ?_)
        · have hm' : e.1 ∈ D.ss := of_decide_eq_true hm
          have ib2 : e.1 ∈ D.ss ∧ e.2.2 ∈ D.ss := ib.resolve_left fun z => g.ap _ hm' z.1
          obtain ⟨j, hj⟩ := pos_some ib2.2
          have aj : at_ D.ss e.2.2 = j := by
            unfold at_
            rw [hj]
            rfl
          have E9 := E8.trans e9
          have hl9 := e9 _ _ hl8'
          have jl : j < m.length := by rw [ml]; exact (pos_lt hj).1
          have hix : ∀ G, Ex H G → ∀ σ : L2.St, σ[5]? = some (some (.ref a1)) → σ[11]? = some (some (.str e.2.2)) → Ev (tBM K "list" (rIndex K) (tVar 5) (tCons (tVar 11) tNil)) σ G (.int (j : Int)) := fun G a σ h5 h9 => ev_idx (ev_var h5) (ex_l a qs) (ev_var h9) hj
          refine s_setL (j := j) (v := .int (m.getD j 0 + 1)) hl9 (ev_op (ev_op (ev_var rfl) (hix _ E9 _ rfl rfl) (rv_ixL (SqL.of hl9) (atI_c jl))) ev_c rv_I0) (ev_var rfl) (hix _ E9 _ rfl rfl) (by rw [List.length_map]; exact jl) fun HA eA => ?_
          have EA : Ex H (upd HA la (.lst ((VInt m).set j (.int (m.getD j 0 + 1))))) := (E9.trans eA).mut nla0
          have hlA : upd HA la (.lst ((VInt m).set j (.int (m.getD j 0 + 1)))) la = some (.lst (VInt (addAt m j 1))) := by
            rw [upd_same]
            congr 2
            show (m.map V.int).set j _ = (m.set j _).map V.int
            rw [List.map_set]
          generalize upd HA la (.lst ((VInt m).set j (.int (m.getD j 0 + 1)))) = HB at EA hlA
          refine s_retD (d := stD (ho, addAt m j 1)) (ed_tup (eda_cons (ed_var rfl (.str _)) (eda_cons (ed_tupOf (el_var rfl ⟨_, hlA, sw_ints _⟩)) eda_nil)) (by simp)) fun v' HC eC wC => k v' HC (EA.trans eC) ?_
          rw [← fin, if_pos hm', aj]
          exact wC
        · refine s_retD (d := stD (ho, m)) (ed_tup (eda_cons (ed_var rfl (.str _)) (eda_cons (ed_tupOf (el_var rfl ⟨_, e9 _ _ hl8', sw_ints _⟩)) eda_nil)) (by simp)) fun v' HC eC wC => k v' HC ((E8.trans e9).trans eC) ?_
          rw [← fin, if_neg (of_decide_eq_false hm)]
          exact wC
end
end Beh

/-! ### _law_deeds_next -/
namespace Dnx
open PySem PySem.Spec PyProof.Rows L2 Evl Gen Ent Rep Dat Nm Er Chk Gu Deed Pts Hear Lst Bk Cau EvD BadE EntR Lis Prd NmR Bmk EqB God Oth LwP Inf Stp Stq RZ Wth Sta Aft Af2 Ini Rna Led Noc Cho Beh
def dnOf (D : PartsD) (h : Str) (c : List Int) (n : Nat) (e : En) : List (Evn × (Str × List Int)) :=
  if canDo D.ss h c e.1 = true then (if inLost D.ls e = true then choices (could D h c e) else [could D h c e]).map fun hs => (.deed n (if inLost D.ls e = true then some hs else none), lawB D h c e hs) else []
def dnPart (D : PartsD) (h : Str) (c : List Int) : Nat → List (Evn × (Str × List Int))
  | 0 => []
  | n + 1 => dnPart D h c n ++ match D.ds[n]? with
    | none => []
    | some e => dnOf D h c n e
def pairD (x : Evn × (Str × List Int)) : PyData := .tuple [evD x.1, stD x.2]
/-- what is known: pairs of a place and a sound -/
def knD (rs : List En) : List PyData := rs.map fun e => .tuple [.str e.1, svD e.2.1]
theorem eqv_key (a b : Str) (u v : Option Str) : PyData.eqv (.tuple [.str a, svD u]) (.tuple [.str b, svD v]) = decide (a = b ∧ u = v) := by
  have sb : ∀ a b : Str, (a == b) = decide (a = b) := fun a b => by
    by_cases h : a = b <;> simp [h]
  cases u <;> cases v <;> simp [svD, PyData.eqv, PyData.eqvAll, sb]
theorem any_kn {rs : List En} (hr : ∀ e ∈ rs, ∃ z, e.2.1 = some z) (x : Str) (o : Option Str) : (knD rs).any (fun z => PyData.eqv z (.tuple [.str x, svD o])) = (lookO (goesOf rs) x o).isSome := by
  induction rs with
  | nil => cases o <;> rfl
  | cons e rs ih =>
    have ih' := ih fun e m => hr e (List.mem_cons_of_mem _ m)
    obtain ⟨z, hz⟩ := hr e (List.mem_cons_self ..)
    obtain ⟨a, b, y⟩ := e
    have hz' : b = some z := hz
    subst hz'
    show (PyData.eqv (.tuple [.str a, svD (some z)]) _ || (knD rs).any _) = _
    rw [eqv_key, ih']
    cases o with
    | none => simp [lookO]
    | some s =>
      show _ = (look (((a, z), y) :: goesOf rs) x s).isSome
      unfold look
      rw [List.find?_cons]
      by_cases c : (a, z) = (x, s)
      · rw [decide_eq_true c]
        cases c
        simp
      · have c2 : ¬ (a = x ∧ some z = some s) := fun q => c (by rw [q.1, Option.some.inj q.2])
        rw [decide_eq_false c, decide_eq_false c2]
        rfl
theorem shp_key {a : Str} {u : Option Str} (ha : PyData.strOk a = true) (hu : ∀ z, u = some z → PyData.strOk z = true) : SeqAt.shaped (.tuple [.str a, svD u]) = true := by
  unfold SeqAt.shaped
  cases u with
  | none => simp [svD, PyData.canLay0, PyData.canLayAll0, PyData.depth, PyData.depthAll, ha]
  | some z => simp [svD, PyData.canLay0, PyData.canLayAll0, PyData.depth, PyData.depthAll, ha, hu z rfl]
theorem sw_key {K : PySem.W.Frag} {H : Hp} {p : Addr} {a : Str} {u : Option Str} (h : SqT K H p [.str a, sv u]) : Sw K H (.ref p) (.tuple [.str a, svD u]) := .tup h (.cons (.str a) (.cons (sw_sv u) .nil))
theorem shp_kn {rs : List En} (hr : ∀ e ∈ rs, PyData.strOk e.1 = true ∧ ∀ z, e.2.1 = some z → PyData.strOk z = true) : SeqAt.shaped (.list (knD rs)) = true := by
  have h : PyData.canLayAll0 (knD rs) = true ∧ PyData.depthAll (knD rs) ≤ 1 := by
    induction rs with
    | nil => exact ⟨rfl, by simp [knD, PyData.depthAll]⟩
    | cons e rs ih =>
      have ih := ih fun e m => hr e (List.mem_cons_of_mem _ m)
      obtain ⟨h1, h2⟩ := hr e (List.mem_cons_self ..)
      have e1 : knD (e :: rs) = .tuple [.str e.1, svD e.2.1] :: knD rs := rfl
      rw [e1]
      cases q : e.2.1 with
      | none => exact ⟨by simp [svD, PyData.canLay0, PyData.canLayAll0, ih.1, h1], by simp only [svD, PyData.depth, PyData.depthAll]; omega⟩
      | some z => exact ⟨by simp [svD, PyData.canLay0, PyData.canLayAll0, ih.1, h1, h2 z q], by simp only [svD, PyData.depth, PyData.depthAll]; omega⟩
  unfold SeqAt.shaped
  rw [Bool.and_eq_true]
  refine ⟨by simpa [PyData.canLay0] using h.1, decide_eq_true ?_⟩
  have := h.2
  simp only [PyData.depth]
  omega
theorem kn_ok {D : PartsD} (g : GoD D) : ∀ e ∈ D.rs, PyData.strOk e.1 = true ∧ ∀ z, e.2.1 = some z → PyData.strOk z = true := fun e m => by
  obtain ⟨⟨z, hz, nz⟩, ib⟩ := g.orr e m
  refine ⟨nm_ok (inNm g ib).1, fun z' hz' => ?_⟩
  rw [hz] at hz'
  cases hz'
  exact nm_ok nz
/-- (x, o) in known -/
theorem ev_kn {K : PySem.W.Frag} {σ : L2.St} {H : Hp} {ta tb tk : TE} {kl : Addr} {rs : List En} {x : Str} {o : Option Str} (h1 : Ev ta σ H (.str x)) (h2 : Ev tb σ H (sv o)) (h3 : Ev tk σ H (.ref kl)) (hk : TL K H kl (knD rs)) (hr : ∀ e ∈ rs, ∃ z, e.2.1 = some z) (ok : ∀ e ∈ rs, PyData.strOk e.1 = true ∧ ∀ z, e.2.1 = some z → PyData.strOk z = true) (ox : PyData.strOk x = true) (oo : ∀ z, o = some z → PyData.strOk z = true) :
    Ev (tOp (rInD K) (tTup (tCons ta (tCons tb tNil))) tk) σ H (.bl (lookO (goesOf rs) x o).isSome) := fun H1 e Q q =>
  h1 H1 e _ fun H2 e2 => h2 H2 (e.trans e2) _ fun H3 e3 => ⟨by show 2 ≤ sizeLine; decide, fun p np => by
    have e4 : Ex H3 (upd H3 p (.tup [.str x, sv o])) := Ex.new np
    have hp : SqT K (upd H3 p (.tup [.str x, sv o])) p [.str x, sv o] := SqT.of upd_same
    generalize upd H3 p (.tup [.str x, sv o]) = H4 at e4 hp
    refine h3 H4 (((e.trans e2).trans e3).trans e4) _ fun H5 e5 => ⟨.tuple [.str x, svD o], knD rs, sw_dp _ _ (sw_key (ex_t e5 hp)) (SeqAt.canLay_of_shaped (shp_key ox oo)), sw_dp _ _ (TL.sw (hk.ex ((((e.trans e2).trans e3).trans e4).trans e5))) (SeqAt.canLay_of_shaped (shp_kn ok)), shp_key ox oo, shp_kn ok, ?_⟩
    rw [any_kn hr]
    exact q H5 (((e2.trans e3).trans e4).trans e5)⟩
theorem el_evl {K : PySem.W.Frag} {te : TE} {σ : L2.St} {H : Hp} {l : List Int} (h : EvL te σ H (VInt l)) : EL K te σ H (l.map .int) := fun H1 e Q q => h H1 e _ fun p H2 _ e2 hp => q p H2 e2 ⟨_, hp, sw_ints _⟩
theorem can_eq {D : PartsD} {h : Str} {c : List Int} {e : En} (g : GoD D) (hh : h ∈ D.hs) (ib : InB D.hs D.ss e) : canDo D.ss h c e.1 = ((decide (e.1 ∈ D.hs) && decide (e.1 = h)) || (!decide (e.1 ∈ D.hs) && decide (c.getD (at_ D.ss e.1) 0 > 0))) := by
  unfold canDo
  by_cases m : e.1 ∈ D.hs
  · have ns : posN D.ss e.1 = none := by
      cases q : posN D.ss e.1 with
      | none => rfl
      | some i => exact absurd m (g.ap _ (pos_mem q))
    unfold manyAt
    rw [ns, decide_eq_true m]
    simp
  · have ne : e.1 ≠ h := fun z => m (z ▸ hh)
    obtain ⟨i, hi⟩ := pos_some (ib.resolve_left fun z => m z.1).1
    unfold manyAt at_
    rw [hi, decide_eq_false m, decide_eq_false ne]
    simp
def heards (D : PartsD) (h : Str) (c : List Int) (e : En) : List (List Int) := if inLost D.ls e = true then choices (could D h c e) else [could D h c e]
def evOf (D : PartsD) (h : Str) (c : List Int) (n : Nat) (e : En) (hs : List Int) : Evn × (Str × List Int) := (.deed n (if inLost D.ls e = true then some hs else none), lawB D h c e hs)
theorem dnOf_can {D : PartsD} {h : Str} {c : List Int} {n : Nat} {e : En} (hc : canDo D.ss h c e.1 = true) : dnOf D h c n e = (heards D h c e).map (evOf D h c n e) := by
  unfold dnOf
  rw [if_pos hc]
  rfl
theorem dnOf_not {D : PartsD} {h : Str} {c : List Int} {n : Nat} {e : En} (hc : canDo D.ss h c e.1 = false) : dnOf D h c n e = [] := by
  unfold dnOf
  rw [hc]
  rfl
theorem dnPart_succ {D : PartsD} {h : Str} {c : List Int} {n : Nat} {e : En} (he : D.ds[n]? = some e) : dnPart D h c (n + 1) = dnPart D h c n ++ dnOf D h c n e := by
  show dnPart D h c n ++ (match D.ds[n]? with
    | none => []
    | some e => dnOf D h c n e) = _
  rw [he]
theorem could_bd {D : PartsD} {h : Str} {c : List Int} {e : En} (cl : c.length = D.ss.length) (c5 : ∀ x ∈ c, 0 ≤ x ∧ x ≤ 5) (hc : canDo D.ss h c e.1 = true) (hne : h = e.1 → e.1 ∉ D.ss) (nd : D.ss.Nodup) : ∀ m ∈ could D h c e, 0 ≤ m ∧ m ≤ 5 := fun m mm => by
  unfold could at mm
  rcases List.mem_cons.mp mm with rfl | mm
  · split <;> omega
  · obtain ⟨x, mx, rfl⟩ := List.mem_map.mp mm
    obtain ⟨s, y⟩ := x
    have my := c5 y (List.of_mem_zip mx).2
    unfold hearOne
    dsimp only
    split
    · split
      · rename_i q
        subst q
        have hp : manyAt D.ss c e.1 > 0 := by
          unfold canDo at hc
          rw [Bool.or_eq_true, decide_eq_true_eq, decide_eq_true_eq] at hc
          exact hc.resolve_left fun z => hne z.symm (List.of_mem_zip mx).1
        obtain ⟨j, hj⟩ := List.mem_iff_getElem?.mp mx
        rw [List.getElem?_zip_eq_some] at hj
        unfold manyAt at hp
        obtain ⟨i, hi⟩ := pos_some (List.of_mem_zip mx).1
        rw [hi] at hp
        have ij : i = j := (List.getElem?_inj (pos_lt hi).1 nd).mp (by rw [(pos_lt hi).2, hj.1])
        subst ij
        have : c.getD i 0 = y := by rw [List.getD_eq_getElem?_getD, hj.2]; rfl
        dsimp only at hp
        omega
      · omega
    · omega
theorem heards_ok {D : PartsD} {h : Str} {c : List Int} {e : En} (g : GoD D) (cl : c.length = D.ss.length) (he : e ∈ D.ds) (hc : canDo D.ss h c e.1 = true) (bd : ∀ m ∈ could D h c e, 0 ≤ m ∧ m ≤ 5) {hs : List Int} (hm : hs ∈ heards D h c e) : OkH D h e hs := by
  unfold heards at hm
  split at hm
  · obtain ⟨l, w⟩ := choices_all bd hs hm
    refine okH_of g cl he hc (by rw [l, could_len cl]) fun i hi => ?_
    have i2 : i < (could D h c e).length := by rw [← l]; exact hi
    rw [List.getD_eq_getElem?_getD, List.getD_eq_getElem?_getD, List.getElem?_eq_getElem hi, List.getElem?_eq_getElem i2]
    exact (w i _ _ (List.getElem?_eq_getElem hi) (List.getElem?_eq_getElem i2)).2
  · obtain rfl : hs = could D h c e := by simpa using hm
    exact okH_of g cl he hc (could_len cl) fun i _ => Int.le_refl _
theorem heards_len {D : PartsD} {h : Str} {c : List Int} {e : En} (cl : c.length = D.ss.length) (h4 : D.ss.length ≤ 4) (bd : ∀ m ∈ could D h c e, 0 ≤ m ∧ m ≤ 5) : (heards D h c e).length ≤ 7776 := by
  unfold heards
  split
  · have := (choices_ok bd (could D h c e).length (Nat.le_refl _)).1
    rw [List.take_length] at this
    exact Nat.le_trans this (Nat.le_trans (Nat.pow_le_pow_right (by decide) (by rw [could_len cl]; omega : _ ≤ 5)) (by decide))
  · simp
theorem pair_noL (x : Evn × (Str × List Int)) (hx : ∀ d, x.1 ≠ .other d) : noL (pairD x) = true := by
  obtain ⟨e, h, c⟩ := x
  have t1 : noL (tupI c) = true := noL_ints c
  cases e with
  | other d => exact absurd rfl (hx d)
  | fall s =>
    show ((true && (true && true)) && ((true && (noL (tupI c) && true)) && true)) = true
    rw [t1]
    rfl
  | deed n o =>
    cases o with
    | none =>
      show ((true && (true && (true && true))) && ((true && (noL (tupI c) && true)) && true)) = true
      rw [t1]
      rfl
    | some ns =>
      have t2 : noL (tupI ns) = true := noL_ints ns
      show ((true && (true && (noL (tupI ns) && true))) && ((true && (noL (tupI c) && true)) && true)) = true
      rw [t1, t2]
      rfl
theorem dnPart_deed {D : PartsD} {h : Str} {c : List Int} : ∀ n, ∀ x ∈ dnPart D h c n, ∃ k o, x.1 = .deed k o
  | 0, x, m => by cases m
  | n + 1, x, m => by
    rcases List.mem_append.mp m with m | m
    · exact dnPart_deed n x m
    · split at m
      · cases m
      · unfold dnOf at m
        split at m
        · obtain ⟨hs, _, rfl⟩ := List.mem_map.mp m
          exact ⟨_, _, rfl⟩
        · cases m
theorem dnPart_len {D : PartsD} {h : Str} {c : List Int} (hd : ∀ n e, D.ds[n]? = some e → (dnOf D h c n e).length ≤ 7776) : ∀ n, (dnPart D h c n).length ≤ n * 7776
  | 0 => by simp [dnPart]
  | n + 1 => by
    have ih := dnPart_len hd n
    show (dnPart D h c n ++ (match D.ds[n]? with
      | none => []
      | some e => dnOf D h c n e)).length ≤ _
    rw [List.length_append]
    cases q : D.ds[n]? with
    | none =>
      show (dnPart D h c n).length + 0 ≤ _
      omega
    | some e =>
      have := hd n e q
      show (dnPart D h c n).length + (dnOf D h c n e).length ≤ _
      omega
def spDn (K : PySem.W.Frag) : Sp := fun vs H Q _ => ∃ (p : Addr) (v : V) (D : PartsD) (h : Str) (c : List Int), vs = [.ref p, v] ∧ PtS K H p D ∧ Sw K H v (stD (h, c)) ∧ c.length = D.ss.length ∧ GoD D ∧ h ∈ D.hs ∧ (∀ x ∈ c, 0 ≤ x ∧ x ≤ 5) ∧
  ∀ q H', H q = none → Ex H H' → TL K H' q ((dnPart D h c D.ds.length).map pairD) → Q (.ref q) H'
abbrev sDn : Stmt := top 40
abbrev NDn : List Str := ["_law_parts_here", "_law_state", "_law_houses", "_law_stands", "_law_deeds", "_law_hearings", "_law_lost", "_law_known", "_law_found", "_law_number", "_law_place", "_law_sound", "_law_other", "_law_by_house", "_law_counts", "_law_most", "_law_heard", "_law_event", "_law_one", "_law_word", "_law_last", "_law_at"]
theorem scDn : FnScope NDn ["_law_parts_here", "_law_state"] (defScope sDn) := ⟨rfl, rfl, rfl, by decide +kernel, rfl, by decide +kernel, by decide +kernel⟩
theorem un65c {k : Nat} {A : Around} (hr : Room k A) : A.units + 65 < cLine := Chk.un65 hr
section
variable {P : Program} {w : World} {K : PySem.W.Frag} {mg : Str → Option Value} {base : Heap}
set_option maxHeartbeats 4000000 in
theorem ok_dn {f : Addr} {fd : FuncData} (F : Fun K "_law_deeds_next" "_law_deeds_next" sDn f fd) (B : Bv mg) (DCh : Df P w K mg base CX0 1 "_law_choices" ["_law_most"] (spCh K))
    (DBe : Df P w K mg base CX0 1 "_law_behind" ["_law_parts_here", "_law_state", "_law_number", "_law_heard"] (spBe K)) : FnOk P w K mg base CX0 2 f fd ["_law_parts_here", "_law_state"] (spDn K) := by
  refine F.ok scDn (fun vs H Q E h => ?_) (fun cdv A outer s H vs Q E hr h => ?_)
  · obtain ⟨_, _, _, _, _, rfl, _⟩ := h
    rfl
  · obtain ⟨p, v, D, h, c, rfl, hp, hv, cl, g, hh, c5, k⟩ := h
    refine ⟨_, (pss_cons (ps_asg (pv 0) (pg_unl rfl (pgs_cons (pg_name (i := 2) scDn.nd rfl (Or.inl rfl)) (pgs_cons (pg_name (i := 3) scDn.nd rfl (Or.inr rfl)) (pgs_cons (pg_name (i := 4) scDn.nd rfl (Or.inl rfl)) (pgs_cons (pg_name (i := 5) scDn.nd rfl (Or.inl rfl)) (pgs_cons (pg_name (i := 6) scDn.nd rfl (Or.inl rfl)) pgs_nil)))))))
      (pss_cons (ps_asg (pe_tup (pa_cons (pe_lc (own := [("_law_one", 18), ("_law_word", 19), ("_law_last", 20)]) (g := gTup K 3 (gCons (gName 18) (gCons (gName 19) (gCons (gName 20) gNil)))) (tt := tYes) (te := tTup (tCons (tVar 18) (tCons (tVar 19) tNil))) rfl scDn.nd (pi_list (pv 5)) (blkOk_by (N := NDn) (sc := defScope sDn) (by decide +kernel)) (fun _ _ _ _ _ => (pg_tup rfl (pgs_cons (pg_name (i := 18) scDn.nd rfl (Or.inl rfl)) (pgs_cons (pg_name (i := 19) scDn.nd rfl (Or.inl rfl)) (pgs_cons (pg_name (i := 20) scDn.nd rfl (Or.inl rfl)) pgs_nil))))) (fun _ _ _ _ _ => pts_nil) (fun _ _ _ _ _ => (pe_tup (pa_cons (pv 18) (pa_cons (pv 19) pa_nil))))) (pa_cons (pe_lst pa_nil) pa_nil))) (pg_tup rfl (pgs_cons (pg_name (i := 7) scDn.nd rfl (Or.inr rfl)) (pgs_cons (pg_name (i := 8) scDn.nd rfl (Or.inl rfl)) pgs_nil))))
      (pss_cons (ps_for PassesOwn.never rfl (pi_range1 rfl B.range (pa_cons (pe_callB call_len_seq (by rfl) B.len PySem.boot_len (pa_cons (pv 4) pa_nil)) pa_nil)) (pg_name (i := 9) scDn.nd rfl (Or.inl rfl)) (pss_cons (ps_asg (pe_ix ix_list (pv 4) (pv 9) (fun _ _ => rfl)) (pg_tup rfl (pgs_cons (pg_name (i := 10) scDn.nd rfl (Or.inl rfl)) (pgs_cons (pg_name (i := 11) scDn.nd rfl (Or.inr rfl)) (pgs_cons (pg_name (i := 12) scDn.nd rfl (Or.inl rfl)) pgs_nil)))))
      (pss_cons (ps_asg (pe_tup (pa_cons (pe_cmpR (op_inS (Chk.un65 hr)) (pv 10) (pv 2) (by rfl)) (pa_cons (pe_callTy call_list_of (by rfl) B.list (by decide +kernel) (pa_cons (pe_ix ix_tup (pv 1) pe_int (fun _ _ => rfl)) pa_nil)) pa_nil))) (pg_tup rfl (pgs_cons (pg_name (i := 13) scDn.nd rfl (Or.inl rfl)) (pgs_cons (pg_name (i := 14) scDn.nd rfl (Or.inr rfl)) pgs_nil))))
      (pss_one (ps_if (PW.pt (pw_or (PW.pt (pw_and (pt_val (pv 13)) (pw_and1 (pt_cmpR op_eq (pv 10) (pe_ix ix_tup (pv 1) pe_int (fun _ _ => rfl)) (nomark _))))) (pw_or1 (PW.pt (pw_and (pt_not (pt_val (pv 13))) (pw_and1 (pt_cmpR op_gt (pe_ix ix_list (pv 14) (pe_bm PySem.F.plainAttrs_list PySem.F.slot_list_index PySem.F.type_list_index mt_index (pv 3) (pa_cons (pv 10) pa_nil)) (fun _ _ => rfl)) pe_int (nomark _)))))))) (pss_cons (ps_if (pt_not (pt_val (pv 13))) (pss_one (ps_asg (pe_op op_sub (pe_ix ix_list (pv 14) (pe_bm PySem.F.plainAttrs_list PySem.F.slot_list_index PySem.F.type_list_index mt_index (pv 3) (pa_cons (pv 10) pa_nil)) (fun _ _ => rfl)) pe_int) (pg_sub (pv 14) (pe_bm PySem.F.plainAttrs_list PySem.F.slot_list_index PySem.F.type_list_index mt_index (pv 3) (pa_cons (pv 10) pa_nil)) set_list))) pss_nil)
      (pss_cons (ps_set (i := 15) scDn.nd rfl (Or.inl rfl) (pe_lst (pa_cons (pe_callTy call_int1 (by rfl) B.int (by decide +kernel) (pa_cons (pe_and (pe_not (pv 13)) (pe_one (pe_cmpR (op_inD (Chk.un65 hr)) (pe_tup (pa_cons (pe_ix ix_tup (pv 1) pe_int (fun _ _ => rfl)) (pa_cons (pv 11) pa_nil))) (pv 7) (by rfl)))) pa_nil)) pa_nil)))
      (pss_cons (ps_set (i := 15) scDn.nd rfl (Or.inl rfl) (pe_op op_cat (pv 15) (pe_lc (own := [("_law_at", 21)]) (g := gName 21) (tt := tYes) (te := tIf (tTest (tOp (rInD K) (tTup (tCons (tOp (rIxL K) (tVar 3) (tVar 21)) (tCons (tVar 11) tNil))) (tVar 7))) (tOp (rIxL K) (tVar 14) (tVar 21)) (tC (.int 0))) rfl scDn.nd (pi_range1 rfl B.range (pa_cons (pe_callB call_len_seq (by rfl) B.len PySem.boot_len (pa_cons (pv 3) pa_nil)) pa_nil)) (blkOk_by (N := NDn) (sc := defScope sDn) (by decide +kernel)) (fun _ _ _ _ _ => (pg_name (i := 21) scDn.nd rfl (Or.inl rfl))) (fun _ _ _ _ _ => pts_nil) (fun _ _ _ _ _ => (pe_ifExp (pt_cmpR (op_inD (un65c hr)) (pe_tup (pa_cons (pe_ix ix_list (pv 3) (pv 21) (fun _ _ => rfl)) (pa_cons (pv 11) pa_nil))) (pv 7) (by rfl)) (pe_ix ix_list (pv 14) (pv 21) (fun _ _ => rfl)) pe_int)))))
      (pss_one (ps_for PassesOwn.never rfl (pi_list (pe_ifExp (pt_cmpR op_in_seq (pv 11) (pv 6) (by rfl)) (pe_df DCh hr pass0 (pa_cons (pv 15) pa_nil)) (pe_lst (pa_cons (pe_callTy call_tuple_of (by rfl) B.tuple (by decide +kernel) (pa_cons (pv 15) pa_nil)) pa_nil)))) (pg_name (i := 16) scDn.nd rfl (Or.inl rfl)) (pss_cons (ps_set (i := 17) scDn.nd rfl (Or.inl rfl) (pe_tup (pa_cons pe_str (pa_cons (pv 9) (pa_cons (pe_ifExp (pt_cmpR op_in_seq (pv 11) (pv 6) (by rfl)) (pv 16) pe_non) pa_nil)))))
      (pss_one (ps_expr (pe_bm PySem.F.plainAttrs_list PySem.F.slot_list_append PySem.F.type_list_append mt_append (pv 8) (pa_cons (pe_tup (pa_cons (pv 17) (pa_cons (pe_df DBe hr pass0 (pa_cons (pv 0) (pa_cons (pv 1) (pa_cons (pv 9) (pa_cons (pv 16) pa_nil))))) pa_nil))) pa_nil)))))))))) pss_nil)))))
      (pss_one (ps_ret (pv 8)))))), ?_⟩
    obtain ⟨a0, a1, a2, a3, a4, X2, X3, q0, qh, qs, q2, w2, q3, w3, q4⟩ := hp
    have hps : PtS K H p D := ⟨a0, a1, a2, a3, a4, X2, X3, q0, qh, qs, q2, w2, q3, w3, q4⟩
    have hv0 := hv
    obtain ⟨st, ct, rfl, s1, s2⟩ := sw_st hv
    refine ⟨_, rfl, p, _, rfl, q0, rfl, _, _, rfl, _, _, rfl, _, _, rfl, _, _, rfl, _, _, rfl, rfl, ?_⟩
    dsimp only
    refine q_norm (σ' := [some (.ref p), some (.ref st), some (.ref a0), some (.ref a1), some (.ref a2), some (.ref a3), some (.ref a4), none, none, none, none, none, none, none, none, none, none, none, none, none, none, none]) rfl ?_
    have xl : X3.length = D.rs.length := by rw [swAll_len w3]; exact List.length_map ..
    have hso : ∀ e ∈ D.rs, ∃ z, e.2.1 = some z := fun e m => by
      obtain ⟨⟨z, hz, _⟩, _⟩ := g.orr e m
      exact ⟨z, hz⟩
    refine ⟨_, rfl, a3, rfl, ⟨X3, q3⟩, fun kl hD => lc_it (walk_list (xs := X3)) (fun i H' => Ex H H' ∧ ∃ xs, H' kl = some (.lst xs) ∧ SwAll K H' xs (knD (D.rs.take i)))
      ⟨Ex.new hD, [], upd_same, .nil⟩ (fun i H' _ pv => ex_l pv.1 q3) (fun i x H2 H3 hi pv y => ?_) fun HB pv => ?_⟩
    · obtain ⟨e2, ks, hD2, pm⟩ := pv
      obtain ⟨rfl, hx'⟩ := y
      obtain ⟨dd, hdd, wd⟩ := swAll_get (SwAll.ex e2 _ _ w3) hx'
      rw [List.getElem?_map] at hdd
      obtain ⟨r, hr', rfl⟩ := Option.map_eq_some_iff.mp hdd
      obtain ⟨T, rfl, hT⟩ := sw_en wd
      refine ⟨T, _, rfl, hT, rfl, _, _, rfl, _, _, rfl, _, _, rfl, rfl, rfl, ?_⟩
      refine ⟨_, rfl, _, rfl, by show 2 ≤ sizeLine; decide, fun k1 nk1 => ?_⟩
      have e5 : Ex H3 (upd H3 k1 (.tup [.str r.1, sv r.2.1])) := Ex.new nk1
      have w1 : Sw K (upd H3 k1 (.tup [.str r.1, sv r.2.1])) (.ref k1) (.tuple [.str r.1, svD r.2.1]) := sw_key (SqT.of upd_same)
      generalize upd H3 k1 (.tup [.str r.1, sv r.2.1]) = H5 at e5 w1
      have il : i < D.rs.length := by omega
      have hr12 := g.r
      have kln : noLs (knD (D.rs.take i)) = true := noLs_all fun d md => by
        obtain ⟨e, _, rfl⟩ := List.mem_map.mp md
        cases e.2.1 <;> rfl
      have nk : noL (.tuple [.str r.1, svD r.2.1]) = true := by cases r.2.1 <;> rfl
      refine ⟨ks, e5 _ _ hD2, sz_lt (by rw [swAll_len pm]; simp only [knD, List.length_map, List.length_take]; omega), (e2.trans e5).mut hD, _, upd_same, ?_⟩
      have ek : knD (D.rs.take (i + 1)) = knD (D.rs.take i) ++ [.tuple [.str r.1, svD r.2.1]] := by
        unfold knD
        rw [List.take_succ, hr', List.map_append]
        rfl
      rw [ek]
      exact swAll_app (swAll_no (e5 _ _ hD2) Mv.upd _ _ kln (SwAll.ex e5 _ _ pm)) (.cons (sw_no (e5 _ _ hD2) Mv.upd _ _ nk w1) .nil)
    obtain ⟨eB, ks, hD2, pm⟩ := pv
    rw [xl, List.take_length] at pm
    have tk : TL K HB kl (knD D.rs) := ⟨ks, hD2, pm⟩
    refine eln_lst (K := K) (ds := []) eda_nil (by simp) HB (Ex.refl HB) _ fun fl H1 nfl e1 tf => ⟨by show 2 ≤ sizeLine; decide, fun tp ntp => ⟨tp, _, rfl, SqT.of upd_same, rfl, _, _, rfl, _, _, rfl, rfl, ?_⟩⟩
    have e2 : Ex H1 (upd H1 tp (.tup [.ref kl, .ref fl])) := Ex.new ntp
    generalize upd H1 tp (.tup [.ref kl, .ref fl]) = H2 at e2
    have E2 := e1.trans e2
    have tf2 := tf.ex e2
    have nfl' : HB fl = none := nfl
    have bdAll : ∀ e ∈ D.ds, canDo D.ss h c e.1 = true → ∀ m ∈ could D h c e, 0 ≤ m ∧ m ≤ 5 := fun e me hc => could_bd cl c5 hc (fun z q => g.ap _ q (by rw [← z]; exact hh)) g.dst
    have hlen : ∀ n e, D.ds[n]? = some e → (dnOf D h c n e).length ≤ 7776 := fun n e he => by
      cases hc : canDo D.ss h c e.1 with
      | false =>
        rw [dnOf_not hc]
        simp
      | true =>
        rw [dnOf_can hc, List.length_map]
        exact heards_len cl g.s.2 (bdAll e (List.mem_of_getElem? he) hc)
    dsimp only
    refine q_norm (σ' := [some (.ref p), some (.ref st), some (.ref a0), some (.ref a1), some (.ref a2), some (.ref a3), some (.ref a4), some (.ref kl), some (.ref fl), none, none, none, none, none, none, none, none, none, none, none, none, none]) rfl ?_
    refine q_forR1 (n := (D.ds.length : Int)) (ea_cons (ev_is (ev_len (ev_var rfl) (ex_l (eB.trans E2) q2)) (by rw [swAll_len w2, List.length_map])) ea_nil) (by have := g.d; omega)
      (fun i σ' H' => (∃ s9 s10 s11 s12 s13 s14 s15 s16 s17, σ' = [some (.ref p), some (.ref st), some (.ref a0), some (.ref a1), some (.ref a2), some (.ref a3), some (.ref a4), some (.ref kl), some (.ref fl), s9, s10, s11, s12, s13, s14, s15, s16, s17, none, none, none, none]) ∧ Ex HB H' ∧ TL K H' fl ((dnPart D h c i).map pairD))
      (fun H3 e3 => ⟨⟨_, _, _, _, _, _, _, _, _, rfl⟩, E2.trans e3, tf2.ex e3⟩) (fun i σ' H3 hi pv => ?_) (fun σ' H3 pv => ?_)
    · obtain ⟨⟨s9, s10, s11, s12, s13, s14, s15, s16, s17, rfl⟩, E3, tf3⟩ := pv
      have il : i < D.ds.length := by omega
      have he : D.ds[i]? = some D.ds[i] := List.getElem?_eq_getElem il
      rw [dnPart_succ he]
      generalize D.ds[i] = e at he
      have me := List.mem_of_getElem? he
      have ib := (g.od e me).2
      have nl : i < X2.length := by
        rw [swAll_len w2, List.length_map]
        exact il
      obtain ⟨dd, hdd, wd⟩ := swAll_get w2 (List.getElem?_eq_getElem nl)
      rw [List.getElem?_map, he] at hdd
      obtain rfl : enD e = dd := Option.some.inj hdd
      obtain ⟨d, hx, hd⟩ := sw_en wd
      have EH3 := eB.trans E3
      refine ev_op (z := .ref d) (ev_var rfl) (ev_var rfl) (rv_ixL (ex_l EH3 q2) (atI_nat (by rw [List.getElem?_eq_getElem nl, hx]))) H3 (Ex.refl H3) _ fun H4 e4 => ⟨d, _, rfl, ex_t (EH3.trans e4) hd, rfl, _, _, rfl, _, _, rfl, _, _, rfl, rfl, ?_⟩
      dsimp only
      refine q_norm (σ' := [some (.ref p), some (.ref st), some (.ref a0), some (.ref a1), some (.ref a2), some (.ref a3), some (.ref a4), some (.ref kl), some (.ref fl), some (.int (i : Int)), some (.str e.1), some (sv e.2.1), some (.str e.2.2), s13, s14, s15, s16, s17, none, none, none, none]) rfl ?_
      have EH4 := EH3.trans e4
      refine ev_in (ev_var rfl) (ev_var rfl) (.str _) (ex_l EH4 qh) H4 (Ex.refl _) _ fun H5 e5 => el_listT (ev_op (ev_var rfl) ev_c (rv_ixT (ex_t (EH4.trans e5) s1) (atI_nat (j := 1) rfl))) (ex_t (EH4.trans e5) s2) H5 (Ex.refl _) _ fun cn H6 ncn e6 hcn => ⟨by show 2 ≤ sizeLine; decide, fun tq ntq => ⟨tq, _, rfl, SqT.of upd_same, rfl, _, _, rfl, _, _, rfl, rfl, ?_⟩⟩
      have e7 : Ex H6 (upd H6 tq (.tup [.bl (sIn D.hs (.str e.1)), .ref cn])) := Ex.new ntq
      have ebh : sIn D.hs (.str e.1) = decide (e.1 ∈ D.hs) := rfl
      rw [ebh] at e7
      dsimp only
      rw [ebh]
      generalize upd H6 tq (.tup [.bl (decide (e.1 ∈ D.hs)), .ref cn]) = H7 at e7
      have hc7 := e7 _ _ hcn
      have E7 : Ex HB H7 := (((E3.trans e4).trans e5).trans e6).trans e7
      have tf7 := tf3.ex (((e4.trans e5).trans e6).trans e7)
      have ncnB : HB cn = none := fresh_back ((E3.trans e4).trans e5) ncn
      have ncl : fl ≠ cn := by
        obtain ⟨xs, hfl, _⟩ := tf3
        exact ne_of_none ((e4.trans e5) _ _ hfl) ncn
      refine q_norm (tz := tIfS _ _ _) (σ' := [some (.ref p), some (.ref st), some (.ref a0), some (.ref a1), some (.ref a2), some (.ref a3), some (.ref a4), some (.ref kl), some (.ref fl), some (.int (i : Int)), some (.str e.1), some (sv e.2.1), some (.str e.2.2), some (.bl (decide (e.1 ∈ D.hs))), some (.ref cn), s15, s16, s17, none, none, none, none]) rfl ?_
      have hpos : e.1 ∉ D.hs → posN D.ss e.1 = some (at_ D.ss e.1) := fun z => by
        obtain ⟨j, hj⟩ := pos_some (ib.resolve_left fun q => z q.1).1
        unfold at_
        rw [hj]
        rfl
      have EH7 := eB.trans E7
      have hidx : ∀ G, Ex H G → ∀ σ : L2.St, σ[3]? = some (some (.ref a1)) → σ[10]? = some (some (.str e.1)) → e.1 ∉ D.hs → Ev (tBM K "list" (rIndex K) (tVar 3) (tCons (tVar 10) tNil)) σ G (.int (at_ D.ss e.1 : Int)) := fun G a σ h3 h10 z => ev_idx (ev_var h3) (ex_l a qs) (ev_var h10) (hpos z)
      have hil : e.1 ∉ D.hs → at_ D.ss e.1 < c.length := fun z => by
        rw [cl]
        exact (pos_lt (hpos z)).1
      have nh : ∀ (b : Bool), (!decide (e.1 ∈ D.hs)) = true → e.1 ∉ D.hs := fun _ z => by simpa using z
      refine s_when (b := canDo D.ss h c e.1) (et_is (et_or (a := decide (e.1 ∈ D.hs) && decide (e.1 = h)) (b := !decide (e.1 ∈ D.hs) && decide (c.getD (at_ D.ss e.1) 0 > 0)) (et_and (et_test (ev_var rfl)) fun _ => et_test (ev_is (ev_op (ev_var rfl) (ev_op (ev_var rfl) ev_c (rv_ixT (ex_t EH7 s1) (atI_nat (j := 0) rfl))) (rv_eq rfl)) (by rw [vstr_eq])))
        fun _ => et_and (et_not (et_test (ev_var rfl))) fun z => et_test (ev_op (ev_op (ev_var rfl) (hidx _ EH7 _ rfl rfl (nh true z)) (rv_ixL (SqL.of hc7) (atI_c (hil (nh true z))))) ev_c rv_I0)) (can_eq g hh ib).symm) (fun hc H8 e8 => ?_) (fun hc H8 e8 => ?_)
      · have bd := bdAll e me hc
        have eh : e.1 ∈ D.hs → e.1 = h := fun m => by
          have := can_eq (c := c) g hh ib
          rw [hc, decide_eq_true m] at this
          simpa using this
        have ebn : (!decide (e.1 ∈ D.hs)) = decide (h ≠ e.1) := by
          by_cases m : e.1 ∈ D.hs
          · have q := eh m
            simp [q, hh]
          · have : h ≠ e.1 := fun z => m (z ▸ hh)
            simp [m, this]
        have E8 := E7.trans e8
        have cd1 : ∀ c1 : List Int, (c1 = if e.1 ∈ D.hs then c else addAt c (at_ D.ss e.1) (-1)) → ∀ j, j < D.ss.length → ∀ s, D.ss[j]? = some s → (could D h c e)[j + 1]? = some (if (lookO (goesOf D.rs) s e.2.1).isSome = true then c1.getD j 0 else 0) := fun c1 hc1 j hj s hs => by
          have jc : j < c.length := by omega
          unfold could
          rw [List.getElem?_cons_succ, List.getElem?_map]
          have ez : (D.ss.zip c)[j]? = some (s, c[j]) := by
            rw [List.getElem?_zip_eq_some]
            exact ⟨hs, List.getElem?_eq_getElem _⟩
          rw [ez]
          show some (hearOne _ _ _ (s, c[j])) = _
          unfold hearOne
          dsimp only
          split
          · congr 1
            have g0 : c.getD j 0 = c[j] := by rw [List.getD_eq_getElem?_getD, List.getElem?_eq_getElem jc]; rfl
            rw [hc1]
            split
            · rename_i q
              have nm : e.1 ∉ D.hs := g.ap _ (by rw [← q]; exact List.mem_of_getElem? hs)
              rw [if_neg nm]
              have ej : at_ D.ss e.1 = j := by
                have a1 := pos_lt (hpos nm)
                exact (List.getElem?_inj a1.1 g.dst).mp (by rw [a1.2, hs, q])
              rw [ej, List.getD_eq_getElem?_getD, addAt_get, if_pos rfl, List.getElem?_eq_getElem jc]
              rfl
            · rename_i q
              split
              · rw [g0]
                omega
              · rename_i m
                have ej : at_ D.ss e.1 ≠ j := fun z => q (by
                  have a1 := pos_lt (hpos m)
                  rw [z, hs] at a1
                  exact Option.some.inj a1.2)
                rw [List.getD_eq_getElem?_getD, addAt_get, if_neg ej, ← List.getD_eq_getElem?_getD, g0]
                omega
          · rfl
        refine q_ifK (fun σ' H' => σ' = [some (.ref p), some (.ref st), some (.ref a0), some (.ref a1), some (.ref a2), some (.ref a3), some (.ref a4), some (.ref kl), some (.ref fl), some (.int (i : Int)), some (.str e.1), some (sv e.2.1), some (.str e.2.2), some (.bl (decide (e.1 ∈ D.hs))), some (.ref cn), s15, s16, s17, none, none, none, none] ∧ Ex HB H' ∧ TL K H' fl ((dnPart D h c i).map pairD) ∧ H' cn = some (.lst (VInt (if e.1 ∈ D.hs then c else addAt c (at_ D.ss e.1) (-1)))))
          (b := !decide (e.1 ∈ D.hs)) (et_not (et_test (ev_var rfl))) (fun hm H9 e9 hk => ?_) (fun hm H9 e9 hk => ?_) (fun σ' H' pv => ?_)
        · have hm' := nh true hm
          have E9 := E8.trans e9
          have hc9 := e9 _ _ (e8 _ _ hc7)
          refine s_setL (j := at_ D.ss e.1) (v := .int (c.getD (at_ D.ss e.1) 0 - 1)) hc9 (ev_op (ev_op (ev_var rfl) (hidx _ (eB.trans E9) _ rfl rfl hm') (rv_ixL (SqL.of hc9) (atI_c (hil hm')))) ev_c rv_I0) (ev_var rfl) (hidx _ (eB.trans E9) _ rfl rfl hm') (by rw [List.length_map]; exact hil hm') fun HA eA => hk _ _ ⟨rfl, (E9.trans eA).mut ncnB, ?_, ?_⟩
          · obtain ⟨xs, hfl, wfl⟩ := tf7.ex ((e8.trans e9).trans eA)
            refine ⟨xs, by rw [upd_ne ncl]; exact hfl, swAll_no (eA _ _ hc9) Mv.upd _ _ (noLs_all fun z mz => ?_) wfl⟩
            obtain ⟨x, mx, rfl⟩ := List.mem_map.mp mz
            obtain ⟨k, o, ek⟩ := dnPart_deed _ x mx
            exact pair_noL x fun d => by rw [ek]; exact fun q => nomatch q
          · rw [upd_same, if_neg hm']
            congr 2
            show (c.map V.int).set _ _ = (c.set _ _).map V.int
            rw [List.map_set]
            rfl
        · have hm' : e.1 ∈ D.hs := by simpa using hm
          refine hk _ _ ⟨rfl, E8.trans e9, tf7.ex (e8.trans e9), ?_⟩
          rw [if_pos hm']
          exact e9 _ _ (e8 _ _ hc7)
        · obtain ⟨rfl, E9, tf9, hc9⟩ := pv
          have l1 : (if e.1 ∈ D.hs then c else addAt c (at_ D.ss e.1) (-1)).length = D.ss.length := by
            split
            · exact cl
            · unfold addAt
              rw [List.length_set, cl]
          have cd2 := cd1 _ rfl
          generalize (if e.1 ∈ D.hs then c else addAt c (at_ D.ss e.1) (-1)) = c1 at hc9 l1 cd2
          have EH9 := eB.trans E9
          have ox := nm_ok (g.nh h hh)
          have oo : ∀ z, e.2.1 = some z → PyData.strOk z = true := fun z hz => nm_ok ((g.od e me).1 z hz)
          have oks : ∀ x ∈ D.ss, PyData.strOk x = true := fun x mx => nm_ok (g.ns x mx)
          refine q_asgL (xs := VInt [if (!decide (e.1 ∈ D.hs) && (lookO (goesOf D.rs) h e.2.1).isSome) = true then 1 else 0]) (Evl.el_lst (ea_cons (ev_intB (ev_andV (ev_notV (ev_var rfl)) fun _ => ev_kn (ev_op (ev_var rfl) ev_c (rv_ixT (ex_t EH9 s1) (atI_nat (j := 0) rfl))) (ev_var rfl) (ev_var rfl) (tk.ex E9) hso (kn_ok g) ox oo)) ea_nil) (by simp)) fun m0 HA nm0 eA hm0 => ?_
          have EA := E9.trans eA
          have tkA := tk.ex EA
          have qsA := ex_l (eB.trans EA) qs
          have hcA := eA _ _ hc9
          have hcd : could D h c e = (if (!decide (e.1 ∈ D.hs) && (lookO (goesOf D.rs) h e.2.1).isSome) = true then 1 else 0) :: (List.range D.ss.length).map fun j => if (lookO (goesOf D.rs) (D.ss.getD j "") e.2.1).isSome = true then c1.getD j 0 else 0 := by
            refine List.ext_getElem? fun j => ?_
            cases j with
            | zero =>
              rw [ebn]
              rfl
            | succ j =>
              by_cases jl : j < D.ss.length
              · rw [cd2 j jl _ (List.getElem?_eq_getElem jl), List.getElem?_cons_succ, List.getElem?_map, List.getElem?_range jl]
                show _ = some (if (lookO (goesOf D.rs) (D.ss.getD j "") e.2.1).isSome = true then _ else _)
                have gd : D.ss.getD j "" = D.ss[j] := by rw [List.getD_eq_getElem?_getD, List.getElem?_eq_getElem jl]; rfl
                rw [gd]
              · rw [List.getElem?_eq_none (by rw [could_len cl]; omega), List.getElem?_eq_none (by simp; omega)]
          refine q_asgX ?_
          refine eln_cat (K := K) (ds := [PyData.int (if (!decide (e.1 ∈ D.hs) && (lookO (goesOf D.rs) h e.2.1).isSome) = true then 1 else 0)]) (es := ((List.range D.ss.length).map fun j => if (lookO (goesOf D.rs) (D.ss.getD j "") e.2.1).isSome = true then c1.getD j 0 else 0).map .int)
            (el_var rfl ⟨_, hm0, sw_ints [_]⟩) (el_evl ?_) (by simp; have := g.s.2; omega) HA (Ex.refl _) _ fun ml HC nml eC tml => ?_
          · have gv : VInt ((List.range D.ss.length).map fun j => if (lookO (goesOf D.rs) (D.ss.getD j "") e.2.1).isSome = true then c1.getD j 0 else 0) = given ((D.ss.length : Int)).toNat (fun _ => true) (fun j => .int (if (lookO (goesOf D.rs) (D.ss.getD j "") e.2.1).isSome = true then c1.getD j 0 else 0)) := by
              unfold given
              rw [List.filter_eq_self.mpr (fun _ _ => rfl)]
              show List.map _ _ = _
              rw [List.map_map]
              simp
            rw [gv]
            refine el_lcR1 _ _ (ea_cons (ev_is (ev_len (ev_var rfl) qsA) (by simp)) ea_nil) (by have := g.s.2; omega) (fun x => rfl) (fun j HD eD hj HE eE Q2 q2 => q2 HE (Ex.refl _)) (fun j HD eD hj _ => ?_)
            have jl : j < D.ss.length := by omega
            have gs : D.ss[j]? = some (D.ss[j]'jl) := List.getElem?_eq_getElem jl
            have gd : D.ss.getD j "" = D.ss[j] := by rw [List.getD_eq_getElem?_getD, gs]; rfl
            rw [gd]
            refine ev_if (b := (lookO (goesOf D.rs) D.ss[j] e.2.1).isSome) (et_test (ev_kn (ev_op (ev_var rfl) (ev_var rfl) (rv_ixL (ex_l eD qsA) (atI_nat (by rw [List.getElem?_map, gs]; rfl)))) (ev_var rfl) (ev_var rfl) (tkA.ex eD) hso (kn_ok g) (oks _ (List.getElem_mem jl)) oo)) (fun hz => ?_) (fun hz => ?_)
            · rw [if_pos hz]
              exact ev_op (ev_var rfl) (ev_var rfl) (rv_ixL (SqL.of (eD _ _ hcA)) (atI_c (by omega)))
            · rw [hz]
              exact ev_c
          have hcd2 : [PyData.int (if (!decide (e.1 ∈ D.hs) && (lookO (goesOf D.rs) h e.2.1).isSome) = true then 1 else 0)] ++ ((List.range D.ss.length).map fun j => if (lookO (goesOf D.rs) (D.ss.getD j "") e.2.1).isSome = true then c1.getD j 0 else 0).map .int = (could D h c e).map .int := by
            rw [hcd]
            rfl
          rw [hcd2] at tml
          have EC := EA.trans eC
          have EHC := eB.trans EC
          have tfC := tf9.ex (eA.trans eC)
          obtain ⟨mls, hml, wml⟩ := tml
          rw [ints_inv wml] at hml
          have inl : ∀ G, Ex H G → ∀ σ : L2.St, σ[11]? = some (some (sv e.2.1)) → σ[6]? = some (some (.ref a4)) → EvT (tTest (tOp (rIn K false) (tVar 11) (tVar 6))) σ G (inLost D.ls e) := fun G a σ h11 h6 => et_test (ev_op (ev_var h11) (ev_var h6) (rv_isL (ex_l a q4) (flat_sv _) (flat_strs _)))
          have hl0 : ELN K (tIf (tTest (tOp (rIn K false) (tVar 11) (tVar 6))) (tCall (spCh K) [] E0 (tCons (tVar 15) tNil)) (tLst (tCons (tCB (fun xs H Q => ∃ p ys, xs = [.ref p] ∧ ((SqL K H p ys ∧ ∀ l, H l = none → Q (.ref l) (upd H l (.tup ys))) ∨ (SqT K H p ys ∧ Q (.ref p) H))) (tCons (tVar 15) tNil)) tNil))) [some (.ref p), some (.ref st), some (.ref a0), some (.ref a1), some (.ref a2), some (.ref a3), some (.ref a4), some (.ref kl), some (.ref fl), some (.int (i : Int)), some (.str e.1), some (sv e.2.1), some (.str e.2.2), some (.bl (decide (e.1 ∈ D.hs))), some (.ref cn), some (.ref ml), s16, s17, none, none, none, none] HC ((heards D h c e).map tupI) := by
            refine eln_if (b := inLost D.ls e) (inl _ EHC _ rfl rfl) (fun hz => ?_) (fun hz => ?_)
            · unfold heards
              rw [if_pos hz]
              exact fun HD eD Q2 q2 => ⟨_, rfl, ml, could D h c e, rfl, SqL.of (eD _ _ hml), bd, by rw [could_len cl]; have := g.s.2; omega, fun r HE nr eE tr => q2 r HE nr eE tr⟩
            · unfold heards
              rw [hz]
              exact eln_lst (eda_cons (ed_tupOf (el_var rfl ⟨_, hml, sw_ints _⟩)) eda_nil) (by simp)
          refine hl0 HC (Ex.refl _) _ fun hl HD nhl eD ⟨ys, hys, wys⟩ => ⟨hl, rfl, ⟨ys, SqL.of hys⟩, for_list (xs := ys) (fun j σ' H' => (∃ s16 s17, σ' = [some (.ref p), some (.ref st), some (.ref a0), some (.ref a1), some (.ref a2), some (.ref a3), some (.ref a4), some (.ref kl), some (.ref fl), some (.int (i : Int)), some (.str e.1), some (sv e.2.1), some (.str e.2.2), some (.bl (decide (e.1 ∈ D.hs))), some (.ref cn), some (.ref ml), s16, s17, none, none, none, none]) ∧ Ex HB H' ∧
            (H' hl = some (.lst ys) ∧ SwAll K H' ys ((heards D h c e).map tupI)) ∧ TL K H' fl ((dnPart D h c i ++ ((heards D h c e).take j).map (evOf D h c i e)).map pairD)) ⟨⟨_, _, rfl⟩, EC.trans eD, ⟨hys, wys⟩, by simpa using tfC.ex eD⟩ (fun j σ' H' _ pv => SqL.of pv.2.2.1.1) (fun j x σ' H' hx pv => ?_) (fun σ' H' pv => ?_)⟩
          · obtain ⟨⟨s16, s17, rfl⟩, EH, ⟨hy', wy'⟩, fl', hfl', wfl'⟩ := pv
            obtain ⟨dd, hdd, wd⟩ := swAll_get wy' hx
            rw [List.getElem?_map] at hdd
            obtain ⟨hs, hhs, rfl⟩ := Option.map_eq_some_iff.mp hdd
            have mhs := List.mem_of_getElem? hhs
            have okh := heards_ok g cl me hc bd mhs
            have EHH := eB.trans EH
            have nhf : hl ≠ fl := by
              obtain ⟨xs, q, _⟩ := tfC
              exact (ne_of_none q nhl).symm
            have tk1 : ((heards D h c e).take (j + 1)).map (evOf D h c i e) = ((heards D h c e).take j).map (evOf D h c i e) ++ [evOf D h c i e hs] := by
              rw [List.take_succ, hhs, List.map_append]
              rfl
            refine Noc.q_asgD (K := K) (d := evD (.deed (i : Int) (if inLost D.ls e = true then some hs else none))) (ed_tup (ds := [.str "deed", .int (i : Int), heardD (if inLost D.ls e = true then some hs else none)]) (eda_cons ed_str (eda_cons (ed_var rfl (.int _)) (eda_cons (ed_if (b := inLost D.ls e) (inl _ EHH _ rfl rfl) (fun hz => ?_) (fun hz => ?_)) eda_nil))) (by simp)) fun ev HE eE wE => ?_
            · rw [if_pos hz]
              exact ed_var rfl wd
            · rw [hz]
              exact ed_non
            have hflE := eE _ _ hfl'
            have lfl : fl'.length < 100000 := by
              rw [swAll_len wfl', List.length_map, List.length_append, List.length_map, List.length_take]
              have a1 := dnPart_len hlen i
              have a2 := heards_len cl g.s.2 bd
              have a3 := g.d
              have a4 : i * 7776 ≤ 9 * 7776 := Nat.mul_le_mul_right _ (by omega)
              omega
            refine s_appD (d := pairD (evOf D h c i e hs)) hflE (ev_var rfl) (ed_tup (ds := [evD _, stD _]) (eda_cons (ed_var rfl wE) (eda_cons (fun HF eF Q2 q2 => ⟨_, rfl, _, rfl, _, rfl, _, rfl, p, .ref st, _, D, h, c, i, e, hs, rfl, hps.ex ((EHH.trans eE).trans eF), Sw.ex ((EHH.trans eE).trans eF) _ _ hv0, he, Sw.ex (eE.trans eF) _ _ wd, cl, g, okh, fun v' HG eG wG => q2 v' HG eG wG⟩) eda_nil)) (by simp)) lfl fun v HF eF wF => ?_
            have hflF := eF _ _ hflE
            refine ⟨⟨_, _, rfl⟩, ((EH.trans eE).trans eF).mut nfl', ⟨by rw [upd_ne nhf]; exact eF _ _ (eE _ _ hy'), swAll_no hflF Mv.upd _ _ (noLs_all fun z mz => ?_) (SwAll.ex (eE.trans eF) _ _ wy')⟩, _, upd_same, ?_⟩
            · obtain ⟨l, _, rfl⟩ := List.mem_map.mp mz
              exact noL_ints l
            · rw [tk1, ← List.append_assoc, List.map_append]
              refine swAll_app (swAll_no hflF Mv.upd _ _ (noLs_all fun z mz => ?_) (SwAll.ex (eE.trans eF) _ _ wfl')) (.cons (sw_no hflF Mv.upd _ _ (pair_noL _ fun d q => nomatch q) wF) .nil)
              obtain ⟨x, mx, rfl⟩ := List.mem_map.mp mz
              refine pair_noL x fun d q => ?_
              rcases List.mem_append.mp mx with m | m
              · obtain ⟨k, o, ek⟩ := dnPart_deed _ x m
                rw [ek] at q
                cases q
              · obtain ⟨l, _, rfl⟩ := List.mem_map.mp m
                cases q
          · obtain ⟨⟨s16, s17, rfl⟩, EH, ⟨hy', wy'⟩, tfl⟩ := pv
            refine ⟨⟨_, _, _, _, _, _, _, _, _, rfl⟩, EH, ?_⟩
            rw [dnOf_can hc]
            have yl : ys.length = (heards D h c e).length := by rw [swAll_len wys]; exact List.length_map ..
            rw [yl, List.take_length] at tfl
            exact tfl
      · refine ⟨⟨_, _, _, _, _, _, _, _, _, rfl⟩, E7.trans e8, ?_⟩
        rw [dnOf_not hc, List.append_nil]
        exact tf7.ex e8
    · obtain ⟨⟨s9, s10, s11, s12, s13, s14, s15, s16, s17, rfl⟩, E3, tf3⟩ := pv
      have nflH : H fl = none := fresh_back eB nfl
      refine s_ret (ev_var rfl) fun H4 e4 => k fl H4 nflH ((eB.trans E3).trans e4) ?_
      have z : ((D.ds.length : Int)).toNat = D.ds.length := by simp
      rw [z] at tf3
      exact tf3.ex e4
end
end Dnx

/-! ### _law_next -/
namespace Nxt
open PySem PySem.Spec PyProof.Rows L2 Evl Gen Ent Rep Dat Nm Er Chk Gu Deed Pts Hear Lst Bk Cau EvD BadE EntR Lis Prd NmR Bmk EqB God Oth LwP Inf Stp Stq RZ Wth Sta Aft Af2 Ini Rna Led Noc Cho Beh Dnx
def fallOf (D : PartsD) (h : Str) (c : List Int) (n : Nat) : List (Evn × (Str × List Int)) := if c.getD n 0 > 0 then [(.fall (D.ss.getD n ""), (h, c.set n (c.getD n 0 - 1)))] else []
def fallPart (D : PartsD) (h : Str) (c : List Int) : Nat → List (Evn × (Str × List Int))
  | 0 => []
  | n + 1 => fallPart D h c n ++ fallOf D h c n
def nextP (D : PartsD) (h : Str) (c : List Int) : List (Evn × (Str × List Int)) := dnPart D h c D.ds.length ++ fallPart D h c D.ss.length
def notOther (x : Evn × (Str × List Int)) : Prop := ∀ d, x.1 ≠ .other d
theorem fallPart_no {D : PartsD} {h : Str} {c : List Int} : ∀ n, ∀ x ∈ fallPart D h c n, ∃ s, x.1 = .fall s
  | 0, x, m => by cases m
  | n + 1, x, m => by
    rcases List.mem_append.mp m with m | m
    · exact fallPart_no n x m
    · unfold fallOf at m
      split at m
      · obtain rfl : x = _ := by simpa using m
        exact ⟨_, rfl⟩
      · cases m
theorem fallPart_len {D : PartsD} {h : Str} {c : List Int} : ∀ n, (fallPart D h c n).length ≤ n
  | 0 => Nat.le_refl _
  | n + 1 => by
    have := fallPart_len (D := D) (h := h) (c := c) n
    show (fallPart D h c n ++ fallOf D h c n).length ≤ _
    rw [List.length_append]
    unfold fallOf
    split <;> simp <;> omega
theorem dn_noO {D : PartsD} {h : Str} {c : List Int} {n : Nat} {x : Evn × (Str × List Int)} (m : x ∈ dnPart D h c n) : notOther x := fun d q => by
  obtain ⟨k, o, e⟩ := dnPart_deed _ x m
  rw [e] at q
  cases q
theorem fall_noO {D : PartsD} {h : Str} {c : List Int} {n : Nat} {x : Evn × (Str × List Int)} (m : x ∈ fallPart D h c n) : notOther x := fun d q => by
  obtain ⟨s, e⟩ := fallPart_no _ x m
  rw [e] at q
  cases q
theorem dn_total {D : PartsD} {h : Str} {c : List Int} (g : GoD D) (cl : c.length = D.ss.length) (hh : h ∈ D.hs) (c5 : ∀ x ∈ c, 0 ≤ x ∧ x ≤ 5) : (dnPart D h c D.ds.length).length ≤ 77760 := by
  have hlen : ∀ n e, D.ds[n]? = some e → (dnOf D h c n e).length ≤ 7776 := fun n e he => by
    cases hc : canDo D.ss h c e.1 with
    | false =>
      rw [dnOf_not hc]
      simp
    | true =>
      rw [dnOf_can hc, List.length_map]
      exact heards_len cl g.s.2 (could_bd cl c5 hc (fun z q => g.ap _ q (by rw [← z]; exact hh)) g.dst)
  have := dnPart_len hlen D.ds.length
  have := g.d
  have : D.ds.length * 7776 ≤ 10 * 7776 := Nat.mul_le_mul_right _ g.d
  omega
def spNx (K : PySem.W.Frag) : Sp := fun vs H Q _ => ∃ (p : Addr) (v : V) (D : PartsD) (h : Str) (c : List Int), vs = [.ref p, v] ∧ PtS K H p D ∧ Sw K H v (stD (h, c)) ∧ c.length = D.ss.length ∧ GoD D ∧ h ∈ D.hs ∧ (∀ x ∈ c, 0 ≤ x ∧ x ≤ 5) ∧
  ∀ q H', H q = none → Ex H H' → TL K H' q ((nextP D h c).map Dnx.pairD) → Q (.ref q) H'
abbrev sNx : Stmt := top 41
abbrev NNx : List Str := ["_law_parts_here", "_law_state", "_law_found", "_law_at", "_law_later"]
theorem scNx : FnScope NNx ["_law_parts_here", "_law_state"] (defScope sNx) := ⟨rfl, rfl, rfl, by decide +kernel, rfl, by decide +kernel, by decide +kernel⟩
theorem sw_tupV {K : PySem.W.Frag} {H : Hp} {a : Addr} {l : List Int} (h : SqT K H a (VInt l)) : Sw K H (.ref a) (.tuple (l.map .int)) := .tup h (sw_ints l)
/-- t[:n], t[n + 1:] of a tuple of numbers, n within it -/
theorem ed_slA {K : PySem.W.Frag} {σ : L2.St} {H : Hp} {te : TE} {to : TO} {a : Addr} {c : List Int} {n : Nat} (h : Ev te σ H (.ref a)) (ha : SqT K H a (VInt c)) (hn : n < c.length) (ho : EvO to σ H (some (n : Int))) : ED K (L2.tSl (rSlT K) te tNoPart to) σ H (.tuple ((c.take n).map .int)) := fun H1 e Q q => by
  refine h H1 e _ fun H2 e2 => ho H2 (e.trans e2) _ fun H3 e3 => ⟨a, VInt c, rfl, ex_t ((e.trans e2).trans e3) ha, fun z => ?_, fun p np => ?_⟩
  · have := z.2
    rw [HT.sIx_nat, List.length_map] at this
    omega
  · refine q _ _ ((e2.trans e3).trans (Ex.new np)) (sw_tupV ?_)
    have : cutV (VInt c) none (some (n : Int)) = VInt (c.take n) := by
      rw [cut_take]
      exact (List.map_take ..).symm
    rw [this]
    exact SqT.of upd_same
theorem ed_slB {K : PySem.W.Frag} {σ : L2.St} {H : Hp} {te : TE} {to : TO} {a : Addr} {c : List Int} {n : Nat} (h : Ev te σ H (.ref a)) (ha : SqT K H a (VInt c)) (hn : n < c.length) (ho : EvO to σ H (some ((n + 1 : Nat) : Int))) : ED K (L2.tSl (rSlT K) te to tNoPart) σ H (.tuple ((c.drop (n + 1)).map .int)) := fun H1 e Q q => by
  refine h H1 e _ fun H2 e2 => ho H2 (e.trans e2) _ fun H3 e3 => ⟨a, VInt c, rfl, ex_t ((e.trans e2).trans e3) ha, fun z => ?_, fun p np => ?_⟩
  · have := z.1
    rw [HT.sIx_nat, List.length_map] at this
    omega
  · refine q _ _ ((e2.trans e3).trans (Ex.new np)) (sw_tupV ?_)
    have : cutV (VInt c) (some ((n + 1 : Nat) : Int)) none = VInt (c.drop (n + 1)) := by
      unfold cutV
      rw [HT.sIx_nat, HT.sIx_none, List.length_map, Nat.min_eq_left (by omega), List.take_of_length_le (by rw [List.length_drop, List.length_map]; exact Nat.le_refl _)]
      exact (List.map_drop ..).symm
    rw [this]
    exact SqT.of upd_same
section
variable {P : Program} {w : World} {K : PySem.W.Frag} {mg : Str → Option Value} {base : Heap}
set_option maxHeartbeats 4000000 in
theorem ok_nx {f : Addr} {fd : FuncData} (F : Fun K "_law_next" "_law_next" sNx f fd) (B : Bv mg) (DDn : Df P w K mg base CX0 2 "_law_deeds_next" ["_law_parts_here", "_law_state"] (spDn K)) : FnOk P w K mg base CX0 3 f fd ["_law_parts_here", "_law_state"] (spNx K) := by
  refine F.ok scNx (fun vs H Q E h => ?_) (fun cdv A outer s H vs Q E hr h => ?_)
  · obtain ⟨_, _, _, _, _, rfl, _⟩ := h
    rfl
  · obtain ⟨p, v, D, h, c, rfl, hp, hv, cl, g, hh, c5, k⟩ := h
    refine ⟨_, (pss_cons (ps_set (i := 2) scNx.nd rfl (Or.inl rfl) (pe_df DDn hr pass0 (pa_cons (pv 0) (pa_cons (pv 1) pa_nil))))
      (pss_cons (ps_for PassesOwn.never rfl (pi_range1 rfl B.range (pa_cons (pe_callB call_len_seq (by rfl) B.len PySem.boot_len (pa_cons (pe_ix ix_list (pv 0) pe_int (fun _ _ => rfl)) pa_nil)) pa_nil)) (pg_name (i := 3) scNx.nd rfl (Or.inl rfl)) (pss_one (ps_if (pt_cmpR op_gt (pe_ix ix_tup (pe_ix ix_tup (pv 1) pe_int (fun _ _ => rfl)) (pv 3) (fun _ _ => rfl)) pe_int (nomark _)) (pss_cons (ps_set (i := 4) scNx.nd rfl (Or.inl rfl) (pe_op op_catU (pe_op op_catU (pe_slice sl_tup (pe_ix ix_tup (pv 1) pe_int (fun _ _ => rfl)) po_none (po_some (pv 3))) (pe_tup (pa_cons (pe_op op_sub (pe_ix ix_tup (pe_ix ix_tup (pv 1) pe_int (fun _ _ => rfl)) (pv 3) (fun _ _ => rfl)) pe_int) pa_nil))) (pe_slice sl_tup (pe_ix ix_tup (pv 1) pe_int (fun _ _ => rfl)) (po_some (pe_op op_add (pv 3) pe_int)) po_none)))
      (pss_one (ps_expr (pe_bm PySem.F.plainAttrs_list PySem.F.slot_list_append PySem.F.type_list_append mt_append (pv 2) (pa_cons (pe_tup (pa_cons (pe_tup (pa_cons pe_str (pa_cons (pe_ix ix_list (pe_ix ix_list (pv 0) pe_int (fun _ _ => rfl)) (pv 3) (fun _ _ => rfl)) pa_nil))) (pa_cons (pe_tup (pa_cons (pe_ix ix_tup (pv 1) pe_int (fun _ _ => rfl)) (pa_cons (pv 4) pa_nil))) pa_nil))) pa_nil))))) pss_nil)))
      (pss_one (ps_ret (pv 2))))), ?_⟩
    refine q_asgX ?_
    refine ⟨_, rfl, _, rfl, p, v, D, h, c, rfl, hp, hv, cl, g, hh, c5, fun fl H1 nfl e1 tf => ?_⟩
    have hdl := dn_total g cl hh c5
    obtain ⟨a0, a1, a2, a3, a4, X2, X3, q0, qh, qs, q2, w2, q3, w3, q4⟩ := hp
    obtain ⟨st, ct, rfl, s1, s2⟩ := sw_st hv
    have hst : ∀ G, Ex H G → ∀ σ : L2.St, σ[0]? = some (some (.ref p)) → Ev (tOp (rIxL K) (tVar 0) (tC (.int 1))) σ G (.ref a1) := fun G a σ h0 => ev_op (ev_var h0) ev_c (rv_ixL (ex_l a q0) (atI_nat (j := 1) rfl))
    have hct : ∀ G, Ex H G → ∀ σ : L2.St, σ[1]? = some (some (.ref st)) → Ev (tOp (rIxT K) (tVar 1) (tC (.int 1))) σ G (.ref ct) := fun G a σ h0 => ev_op (ev_var h0) ev_c (rv_ixT (ex_t a s1) (atI_nat (j := 1) rfl))
    refine q_forR1 (n := (D.ss.length : Int)) (ea_cons (ev_is (ev_len (hst H1 e1 _ rfl) (ex_l e1 qs)) (by simp)) ea_nil) (by have := g.s.2; omega)
      (fun i σ' H' => (∃ s3 s4, σ' = [some (.ref p), some (.ref st), some (.ref fl), s3, s4]) ∧ Ex H H' ∧ TL K H' fl ((dnPart D h c D.ds.length ++ fallPart D h c i).map Dnx.pairD))
      (fun H2 e2 => ⟨⟨_, _, rfl⟩, e1.trans e2, by rw [show fallPart D h c 0 = [] from rfl, List.append_nil]; exact tf.ex e2⟩) (fun i σ' H2 hi pv => ?_) (fun σ' H2 pv => ?_)
    · obtain ⟨⟨s3, s4, rfl⟩, E2, tf2⟩ := pv
      have il : i < D.ss.length := by omega
      have ic : i < c.length := by omega
      have hci : ∀ G, Ex H G → ∀ σ : L2.St, σ[1]? = some (some (.ref st)) → σ[3]? = some (some (.int (i : Int))) → Ev (tOp (rIxT K) (tOp (rIxT K) (tVar 1) (tC (.int 1))) (tVar 3)) σ G (.int (c.getD i 0)) := fun G a σ h0 h3 => ev_op (hct G a σ h0) (ev_var h3) (rv_ixT (ex_t a s2) (atI_c ic))
      have gs : D.ss[i]? = some (D.ss[i]'il) := List.getElem?_eq_getElem il
      have gd : D.ss.getD i "" = D.ss[i] := by rw [List.getD_eq_getElem?_getD, gs]; rfl
      refine s_when (b := decide (c.getD i 0 > 0)) (et_test (ev_op (hci _ E2 _ rfl rfl) ev_c rv_I0)) (fun hz H3 e3 => ?_) (fun hz H3 e3 => ?_)
      · have hz' : c.getD i 0 > 0 := of_decide_eq_true hz
        have E3 := E2.trans e3
        have hfo : fallPart D h c (i + 1) = fallPart D h c i ++ [(.fall D.ss[i], (h, c.set i (c.getD i 0 - 1)))] := by
          show fallPart D h c i ++ fallOf D h c i = _
          unfold fallOf
          rw [if_pos hz', gd]
        have hset : (c.take i).map PyData.int ++ [PyData.int (c.getD i 0 - 1)] ++ (c.drop (i + 1)).map PyData.int = (c.set i (c.getD i 0 - 1)).map PyData.int := by
          rw [List.set_eq_take_append_cons_drop, if_pos ic]
          simp
        refine Noc.q_asgD (K := K) (d := tupI (c.set i (c.getD i 0 - 1))) ?_ fun lv H4 e4 wl => ?_
        · have c4 := g.s.2
          have b1 : (c.take i).length + 1 ≤ 40000 := by rw [List.length_take]; omega
          have b2 : ((c.take i).map PyData.int ++ [PyData.int (c.getD i 0 - 1)]).length + ((c.drop (i + 1)).map PyData.int).length ≤ 40000 := by
            simp only [List.length_append, List.length_map, List.length_take, List.length_drop, List.length_cons, List.length_nil]
            omega
          show ED K _ _ _ (.tuple ((c.set i (c.getD i 0 - 1)).map PyData.int))
          rw [← hset]
          refine ed_catU (ed_catU (ed_slA (hct H3 E3 _ rfl) (ex_t E3 s2) ic ?_) (ed_tup (eda_cons (fun H5 e5 Q5 q5 => ev_op (hci _ (E3.trans e5) _ rfl rfl) ev_c rv_I0 H5 (Ex.refl _) _ fun H6 e6 => q5 _ H6 e6 (.int _)) eda_nil) (by simp)) (by simpa using b1)) (ed_slB (hct H3 E3 _ rfl) (ex_t E3 s2) ic ?_) b2
          · exact fun H5 e5 Q5 q5 => ⟨_, rfl, _, rfl, q5 H5 (Ex.refl _)⟩
          · exact fun H5 e5 Q5 q5 => ⟨_, rfl, _, _, rfl, rfl, _, rfl, by have := q5 H5 (Ex.refl _); simpa using this⟩
        · obtain ⟨xs, hfl, wfl⟩ := tf2.ex (e3.trans e4)
          have E4 := E3.trans e4
          refine s_appD (K := K) (d := Dnx.pairD (.fall D.ss[i], (h, c.set i (c.getD i 0 - 1)))) hfl (ev_var rfl) (ed_tup (ds := [evD (.fall D.ss[i]), stD (h, c.set i (c.getD i 0 - 1))]) (eda_cons (ed_tup (ds := [.str "fall", .str D.ss[i]]) (eda_cons ed_str (eda_cons (fun H5 e5 Q5 q5 => ev_op (hst _ (E4.trans e5) _ rfl) (ev_var rfl) (rv_ixL (ex_l (E4.trans e5) qs) (atI_nat (by rw [List.getElem?_map, gs]; rfl))) H5 (Ex.refl _) _ fun H6 e6 => q5 _ H6 e6 (.str _)) eda_nil)) (by simp))
            (eda_cons (ed_tup (ds := [.str h, tupI (c.set i (c.getD i 0 - 1))]) (eda_cons (fun H5 e5 Q5 q5 => ev_op (ev_var rfl) ev_c (rv_ixT (ex_t (E4.trans e5) s1) (atI_nat (j := 0) rfl)) H5 (Ex.refl _) _ fun H6 e6 => q5 _ H6 e6 (.str _)) (eda_cons (ed_var rfl wl) eda_nil)) (by simp)) eda_nil)) (by simp)) ?_ fun v H5 e5 wv => ?_
          · rw [swAll_len wfl, List.length_map, List.length_append]
            have := fallPart_len (D := D) (h := h) (c := c) i
            have := g.s.2
            omega
          · refine ⟨⟨_, _, rfl⟩, (E4.trans e5).mut nfl, _, upd_same, ?_⟩
            rw [hfo, ← List.append_assoc, List.map_append]
            refine swAll_app (swAll_no (e5 _ _ hfl) Mv.upd _ _ (noLs_all fun z mz => ?_) (SwAll.ex e5 _ _ wfl)) (.cons (sw_no (e5 _ _ hfl) Mv.upd _ _ (pair_noL _ fun d q => nomatch q) wv) .nil)
            obtain ⟨x, mx, rfl⟩ := List.mem_map.mp mz
            exact pair_noL x ((List.mem_append.mp mx).elim dn_noO fall_noO)
      · refine ⟨⟨_, _, rfl⟩, E2.trans e3, ?_⟩
        have hfo : fallPart D h c (i + 1) = fallPart D h c i := by
          show fallPart D h c i ++ fallOf D h c i = _
          unfold fallOf
          rw [if_neg (of_decide_eq_false hz), List.append_nil]
        rw [hfo]
        exact tf2.ex e3
    · obtain ⟨⟨s3, s4, rfl⟩, E2, tf2⟩ := pv
      refine s_ret (ev_var rfl) fun H3 e3 => k fl H3 nfl (E2.trans e3) ?_
      have z : ((D.ss.length : Int)).toNat = D.ss.length := by simp
      rw [z] at tf2
      exact tf2.ex e3
end
end Nxt

/-! ### what comes next: each is allowed, and what lies behind it -/
namespace Nxp
open PySem PySem.Spec PyProof.Rows L2 Evl Gen Ent Rep Dat Nm Er Chk Gu Deed Pts Hear Lst Bk Cau EvD BadE EntR Lis Prd NmR Bmk EqB God Oth LwP Inf Stp Stq RZ Wth Sta Aft Af2 Ini Rna Led Noc Cho Beh Dnx Nxt
structure StOk (D : PartsD) (x : Str × List Int) : Prop where
  h : x.1 ∈ D.hs
  l : x.2.length = D.ss.length
  p : ∀ n ∈ x.2, 0 ≤ n
  s : x.2.sum ≤ 5
theorem sum_ge : ∀ {c : List Int}, (∀ n ∈ c, 0 ≤ n) → ∀ n ∈ c, n ≤ c.sum
  | [], _, n, m => by cases m
  | a :: c, h, n, m => by
    have hc : ∀ n ∈ c, 0 ≤ n := fun n m => h n (List.mem_cons_of_mem _ m)
    have h0 := h a (List.mem_cons_self ..)
    have hs : 0 ≤ c.sum := by
      clear m
      induction c with
      | nil => simp
      | cons b c ih =>
        have := ih (fun n m => h n (by rcases List.mem_cons.mp m with rfl | m <;> simp_all)) (fun n m => hc n (List.mem_cons_of_mem _ m))
        have := hc b (List.mem_cons_self ..)
        simp only [List.sum_cons]
        omega
    rw [List.sum_cons]
    rcases List.mem_cons.mp m with rfl | m
    · omega
    · have := sum_ge hc n m
      omega
theorem StOk.c5 {D : PartsD} {x : Str × List Int} (k : StOk D x) : ∀ n ∈ x.2, 0 ≤ n ∧ n ≤ 5 := fun n m => ⟨k.p n m, Int.le_trans (sum_ge k.p n m) k.s⟩
theorem sum_add : ∀ {c : List Int} {i : Nat} {y : Int}, i < c.length → (addAt c i y).sum = c.sum + y
  | a :: c, 0, y, _ => by
    show ((a + y) :: c).sum = _
    simp only [List.sum_cons]
    omega
  | a :: c, i + 1, y, h => by
    have e : addAt (a :: c) (i + 1) y = a :: addAt c i y := rfl
    rw [e, List.sum_cons, List.sum_cons, sum_add (by simpa using h)]
    omega
theorem addAt_len (c : List Int) (i : Nat) (y : Int) : (addAt c i y).length = c.length := by
  unfold addAt
  simp
theorem getD_add (c : List Int) (i j : Nat) (y : Int) (hj : j < c.length) : (addAt c i y).getD j 0 = c.getD j 0 + if i = j then y else 0 := by
  rw [List.getD_eq_getElem?_getD, addAt_get, List.getD_eq_getElem?_getD, List.getElem?_eq_getElem hj]
  by_cases h : i = j <;> simp [h]
section
variable {D : PartsD} {h : Str} {c : List Int} {e : En} {hs : List Int}
theorem move_eq (so : Option Str) (c : List Int) (i : Nat) (y : Int) : hearMove D so c i y = if y > 0 then addAt (addAt c i (-y)) (goal D so (D.ss.getD i "")) y else c := by
  unfold hearMove addAt
  rfl
theorem goal_lt (ok : OkH D h e hs) {i : Nat} (il : i < D.ss.length) (hp : hs.getD (i + 1) 0 > 0) : goal D e.2.1 (D.ss.getD i "") < D.ss.length := by
  obtain ⟨z, t, j, hz, hl, hj⟩ := ok.st i _ (List.getElem?_eq_getElem il) hp
  have gd : D.ss.getD i "" = D.ss[i] := by rw [List.getD_eq_getElem?_getD, List.getElem?_eq_getElem il]; rfl
  unfold goal
  rw [gd, hz]
  show ((look (goesOf D.rs) D.ss[i] z).bind (posN D.ss)).getD 0 < _
  rw [hl]
  show (posN D.ss t).getD 0 < _
  rw [hj]
  exact (pos_lt hj).1
theorem heard_sum (ok : OkH D h e hs) : ∀ (i : Nat) (c : List Int), i ≤ D.ss.length → c.length = D.ss.length → (heardAll D e.2.1 hs i c).sum = c.sum
  | 0, _, _, _ => rfl
  | i + 1, c, hi, cl => by
    have ih := heard_sum ok i c (by omega) cl
    have ml : (heardAll D e.2.1 hs i c).length = D.ss.length := by rw [heardAll_len, cl]
    show (hearMove D e.2.1 (heardAll D e.2.1 hs i c) i (hs.getD (i + 1) 0)).sum = _
    rw [move_eq]
    split
    · rename_i hp
      have gl := goal_lt ok (by omega : i < D.ss.length) hp
      rw [sum_add (by rw [addAt_len, ml]; exact gl), sum_add (by rw [ml]; omega), ih]
      omega
    · exact ih
theorem heard_ge (ok : OkH D h e hs) (hn : ∀ i, 0 ≤ hs.getD (i + 1) 0) : ∀ (i : Nat) (c : List Int), i ≤ D.ss.length → c.length = D.ss.length → ∀ k, k < D.ss.length → (heardAll D e.2.1 hs i c).getD k 0 ≥ c.getD k 0 - if k < i then hs.getD (k + 1) 0 else 0
  | 0, c, _, _, k, _ => by
    show c.getD k 0 ≥ _
    simp
  | i + 1, c, hi, cl, k, hk => by
    have ih := heard_ge ok hn i c (by omega) cl k hk
    have ml : (heardAll D e.2.1 hs i c).length = D.ss.length := by rw [heardAll_len, cl]
    show (hearMove D e.2.1 (heardAll D e.2.1 hs i c) i (hs.getD (i + 1) 0)).getD k 0 ≥ _
    rw [move_eq]
    have hki := hn i
    have hkk := hn k
    split
    · rename_i hp
      rw [getD_add _ _ _ _ (by rw [addAt_len, ml]; exact hk), getD_add _ _ _ _ (by rw [ml]; exact hk)]
      generalize (heardAll D e.2.1 hs i c).getD k 0 = m at ih ⊢
      by_cases q : i = k
      · subst q
        rw [if_neg (by omega)] at ih
        rw [if_pos rfl, if_pos (show i < i + 1 by omega)]
        split <;> omega
      · rw [if_neg q]
        by_cases r : k < i
        · rw [if_pos r] at ih
          rw [if_pos (show k < i + 1 by omega)]
          split <;> omega
        · rw [if_neg r] at ih
          rw [if_neg (show ¬ k < i + 1 by omega)]
          split <;> omega
    · rename_i hp
      by_cases q : k < i + 1
      · rw [if_pos q]
        by_cases r : k < i
        · rw [if_pos r] at ih
          exact ih
        · rw [if_neg r] at ih
          omega
      · rw [if_neg q]
        rw [if_neg (by omega)] at ih
        exact ih
theorem heards_nn (bd : ∀ m ∈ could D h c e, 0 ≤ m ∧ m ≤ 5) (cl : c.length = D.ss.length) (hm : hs ∈ heards D h c e) : hs.length = D.ss.length + 1 ∧ ∀ i, i < hs.length → 0 ≤ hs.getD i 0 ∧ hs.getD i 0 ≤ (could D h c e).getD i 0 := by
  unfold heards at hm
  split at hm
  · obtain ⟨l, w⟩ := choices_all bd hs hm
    refine ⟨by rw [l, could_len cl], fun i hi => ?_⟩
    have i2 : i < (could D h c e).length := by rw [← l]; exact hi
    rw [List.getD_eq_getElem?_getD, List.getD_eq_getElem?_getD, List.getElem?_eq_getElem hi, List.getElem?_eq_getElem i2]
    exact w i _ _ (List.getElem?_eq_getElem hi) (List.getElem?_eq_getElem i2)
  · obtain rfl : hs = could D h c e := by simpa using hm
    refine ⟨could_len cl, fun i hi => ⟨?_, Int.le_refl _⟩⟩
    rw [List.getD_eq_getElem?_getD, List.getElem?_eq_getElem hi]
    exact (bd _ (List.getElem_mem hi)).1
end
section
variable {D : PartsD} {h : Str} {c : List Int} {e : En} {hs : List Int}
theorem dn_mem {n : Nat} {x : Evn × (Str × List Int)} (m : x ∈ dnPart D h c n) : ∃ k e hs, D.ds[k]? = some e ∧ canDo D.ss h c e.1 = true ∧ hs ∈ heards D h c e ∧ x = evOf D h c k e hs := by
  induction n with
  | zero => cases m
  | succ n ih =>
    rcases List.mem_append.mp m with m | m
    · exact ih m
    · split at m
      · cases m
      · rename_i e he
        cases hc : canDo D.ss h c e.1 with
        | false =>
          rw [dnOf_not hc] at m
          cases m
        | true =>
          rw [dnOf_can hc] at m
          obtain ⟨hs, mh, rfl⟩ := List.mem_map.mp m
          exact ⟨n, e, hs, he, hc, mh, rfl⟩
theorem fall_mem {n : Nat} {x : Evn × (Str × List Int)} (m : x ∈ fallPart D h c n) : ∃ k, k < n ∧ c.getD k 0 > 0 ∧ x = (.fall (D.ss.getD k ""), (h, c.set k (c.getD k 0 - 1))) := by
  induction n with
  | zero => cases m
  | succ n ih =>
    rcases List.mem_append.mp m with m | m
    · obtain ⟨k, hk, r⟩ := ih m
      exact ⟨k, by omega, r⟩
    · unfold fallOf at m
      split at m
      · rename_i hp
        exact ⟨n, by omega, hp, by simpa using m⟩
      · cases m
theorem could_le (cl : c.length = D.ss.length) {k : Nat} (hk : k < D.ss.length) (hc : 0 ≤ c.getD k 0 - if D.ss[k] = e.1 then 1 else 0) : (could D h c e).getD (k + 1) 0 ≤ c.getD k 0 - if D.ss[k] = e.1 then 1 else 0 := by
  have kc : k < c.length := by omega
  have e1 : (could D h c e).getD (k + 1) 0 = hearOne (goesOf D.rs) e.2.1 e.1 (D.ss[k], c[k]) := by
    unfold could
    rw [List.getD_eq_getElem?_getD, List.getElem?_cons_succ, List.getElem?_map]
    have ez : (D.ss.zip c)[k]? = some (D.ss[k], c[k]) := by
      rw [List.getElem?_zip_eq_some]
      exact ⟨List.getElem?_eq_getElem _, List.getElem?_eq_getElem _⟩
    rw [ez]
    rfl
  have g0 : c.getD k 0 = c[k] := by rw [List.getD_eq_getElem?_getD, List.getElem?_eq_getElem kc]; rfl
  rw [e1]
  unfold hearOne
  dsimp only
  rw [g0] at hc ⊢
  split
  · exact Int.le_refl _
  · exact hc
theorem eh_of (hh : h ∈ D.hs) (g : GoD D) (ib : InB D.hs D.ss e) (hc : canDo D.ss h c e.1 = true) (m : e.1 ∈ D.hs) : e.1 = h := by
  have := can_eq (c := c) g hh ib
  rw [hc, decide_eq_true m] at this
  simpa using this
theorem pos_at (hm : e.1 ∉ D.hs) (ib : InB D.hs D.ss e) : posN D.ss e.1 = some (at_ D.ss e.1) ∧ posN D.ss e.2.2 = some (at_ D.ss e.2.2) := by
  obtain ⟨a, b⟩ := ib.resolve_left fun q => hm q.1
  obtain ⟨i, hi⟩ := pos_some a
  obtain ⟨j, hj⟩ := pos_some b
  unfold at_
  rw [hi, hj]
  exact ⟨rfl, rfl⟩
theorem could0 : (could D h c e).getD 0 0 ≤ 1 := by
  show (if _ then (1 : Int) else 0) ≤ 1
  split <;> omega
theorem next_ok (g : GoD D) (k : StOk D (h, c)) {x : Evn × (Str × List Int)} (m : x ∈ nextP D h c) : allowsE D h c x.1 = true ∧ x.2 = afterE D h c x.1 ∧ StOk D x.2 := by
  have cl : c.length = D.ss.length := k.l
  have hh : h ∈ D.hs := k.h
  rcases List.mem_append.mp m with m | m
  · obtain ⟨n, e, hs, he, hc, mh, rfl⟩ := dn_mem m
    have me := List.mem_of_getElem? he
    have ib := (g.od e me).2
    have bd := could_bd (h := h) cl k.c5 hc (fun z q => g.ap _ q (by rw [← z]; exact hh)) g.dst
    have okh := heards_ok g cl me hc bd mh
    obtain ⟨hl, hb⟩ := heards_nn bd cl mh
    have h0 := hb 0 (by omega)
    have c0 := could0 (D := D) (h := h) (c := c) (e := e)
    have nl : n < D.ds.length := (List.getElem?_eq_some_iff.mp he).1
    have leq : lawB D h c e hs = afterDeed D h c e hs := lawB_eq hh g.ap ib (eh_of hh g ib hc) (by constructor <;> intro q <;> omega)
    have hm : match D.ds[((n : Nat) : Int).toNat]? with
      | none => False
      | some e' => e' = e := by
      rw [Int.toNat_natCast, he]
    refine ⟨?_, ?_, ?_⟩
    · show allowsDeed D h c (n : Int) _ = true
      unfold allowsDeed
      rw [Int.toNat_natCast, he, decide_eq_true (by omega : (0 : Int) ≤ n), decide_eq_true (by omega : (n : Int) < D.ds.length)]
      show (canDo D.ss h c e.1 && _) = true
      rw [hc, Bool.true_and]
      unfold heards at mh
      split at mh
      · rename_i hi
        rw [if_pos hi, if_pos hi]
        show (decide (hs.length = (could D h c e).length) && (hs.zip (could D h c e)).all fun p => decide (0 ≤ p.1) && decide (p.1 ≤ p.2)) = true
        rw [decide_eq_true (by rw [hl, could_len cl]), Bool.true_and, List.all_eq_true]
        intro p mp
        obtain ⟨i, hi'⟩ := List.mem_iff_getElem?.mp mp
        obtain ⟨a, b⟩ := p
        rw [List.getElem?_zip_eq_some] at hi'
        have il : i < hs.length := (List.getElem?_eq_some_iff.mp hi'.1).1
        have := hb i il
        rw [List.getD_eq_getElem?_getD, List.getD_eq_getElem?_getD, hi'.1, hi'.2] at this
        simpa using this
      · rename_i hi
        rw [if_neg hi, if_neg hi]
        rfl
    · show lawB D h c e hs = afterE D h c (.deed (n : Int) _)
      rw [leq]
      unfold afterE
      dsimp only
      rw [Int.toNat_natCast, he]
      unfold heards at mh
      split at mh
      · rename_i hi
        rw [if_pos hi]
        rfl
      · rename_i hi
        rw [if_neg hi]
        obtain rfl : hs = could D h c e := by simpa using mh
        rfl
    · show StOk D (lawB D h c e hs)
      have hn : ∀ i, 0 ≤ hs.getD (i + 1) 0 := fun i => by
        by_cases q : i + 1 < hs.length
        · exact (hb _ q).1
        · rw [List.getD_eq_getElem?_getD, List.getElem?_eq_none (by omega)]
          exact Int.le_refl _
      have cp : ∀ i, i < D.ss.length → 0 ≤ c.getD i 0 := fun i hi => by
        rw [List.getD_eq_getElem?_getD, List.getElem?_eq_getElem (by omega)]
        exact k.p _ (List.getElem_mem _)
      have ge := heard_ge okh hn D.ss.length c (Nat.le_refl _) cl
      have hsum := heard_sum okh D.ss.length c (Nat.le_refl _) cl
      have ml : (heardAll D e.2.1 hs D.ss.length c).length = D.ss.length := by rw [heardAll_len, cl]
      unfold lawB
      by_cases hm' : e.1 ∈ D.hs
      · rw [if_pos hm']
        have ib2 := ib.resolve_right fun q => g.ap _ q.1 hm'
        refine ⟨ib2.2, ml, fun n mn => ?_, by rw [hsum]; exact k.s⟩
        obtain ⟨j, hj⟩ := List.mem_iff_getElem?.mp mn
        have jl : j < D.ss.length := by rw [← ml]; exact (List.getElem?_eq_some_iff.mp hj).1
        have g1 := ge j jl
        rw [if_pos jl, List.getD_eq_getElem?_getD, hj] at g1
        have ne : D.ss[j] ≠ e.1 := fun q => g.ap _ (List.getElem_mem jl) (by rw [q]; exact hm')
        have g2 := could_le (h := h) (e := e) cl jl (by rw [if_neg ne]; have := cp j jl; omega)
        rw [if_neg ne] at g2
        have g3 := (hb (j + 1) (by omega)).2
        simp only [Option.getD_some] at g1
        omega
      · rw [if_neg hm', heardAll_add]
        obtain ⟨p1, p2⟩ := pos_at hm' ib
        have l1 := (pos_lt p1).1
        have l2 := (pos_lt p2).1
        have cpos : c.getD (at_ D.ss e.1) 0 > 0 := by
          have := can_eq (c := c) g hh ib
          rw [hc, decide_eq_false hm'] at this
          simpa using this
        refine ⟨?_, by rw [addAt_len, addAt_len, ml], fun n mn => ?_, ?_⟩
        · show (if hs.getD 0 0 = 1 then (lookO (goesOf D.rs) h e.2.1).getD h else h) ∈ D.hs
          split
          · rename_i q
            obtain ⟨z, t, hz, lt⟩ := okh.ho (by omega)
            rw [hz]
            show (look (goesOf D.rs) h z).getD h ∈ D.hs
            rw [lt]
            obtain ⟨e', me', rfl⟩ := look_mem lt
            have ib' := (g.orr _ me').2
            exact (ib'.resolve_right fun q => g.ap _ q.1 hh).2
          · exact hh
        · obtain ⟨j, hj⟩ := List.mem_iff_getElem?.mp mn
          have jl : j < D.ss.length := by
            have := (List.getElem?_eq_some_iff.mp hj).1
            rw [addAt_len, addAt_len, ml] at this
            exact this
          have e1 : (addAt (addAt (heardAll D e.2.1 hs D.ss.length c) (at_ D.ss e.1) (-1)) (at_ D.ss e.2.2) 1).getD j 0 = n := by
            rw [List.getD_eq_getElem?_getD, hj]
            rfl
          rw [getD_add _ _ _ _ (by rw [addAt_len, ml]; exact jl), getD_add _ _ _ _ (by rw [ml]; exact jl)] at e1
          have g1 := ge j jl
          rw [if_pos jl] at g1
          have g3 := (hb (j + 1) (by omega)).2
          by_cases q : at_ D.ss e.1 = j
          · subst q
            have se : D.ss[at_ D.ss e.1] = e.1 := by
              have := (pos_lt p1).2
              rw [List.getElem?_eq_getElem l1] at this
              exact Option.some.inj this
            have g2 := could_le (h := h) (e := e) cl l1 (by rw [if_pos se]; omega)
            rw [if_pos se] at g2
            rw [if_pos rfl] at e1
            split at e1 <;> omega
          · have ne : D.ss[j] ≠ e.1 := fun z => q (by
              have := (pos_lt p1)
              exact (List.getElem?_inj this.1 g.dst).mp (by rw [this.2, List.getElem?_eq_getElem jl, z]))
            have g2 := could_le (h := h) (e := e) cl jl (by rw [if_neg ne]; have := cp j jl; omega)
            rw [if_neg ne] at g2
            rw [if_neg q] at e1
            split at e1 <;> omega
        · show (addAt (addAt _ _ _) _ _).sum ≤ 5
          rw [sum_add (by rw [addAt_len, ml]; exact l2), sum_add (by rw [ml]; exact l1), hsum]
          have := k.s
          dsimp only at this
          omega
  · obtain ⟨n, hn, hp, rfl⟩ := fall_mem m
    have gd : D.ss.getD n "" = D.ss[n] := by rw [List.getD_eq_getElem?_getD, List.getElem?_eq_getElem hn]; rfl
    have hpos : posN D.ss D.ss[n] = some n := by
      obtain ⟨i, hi⟩ := pos_some (List.getElem_mem hn)
      have := pos_lt hi
      have ij : i = n := (List.getElem?_inj this.1 g.dst).mp (by rw [this.2, List.getElem?_eq_getElem hn])
      rw [hi, ij]
    have ha : at_ D.ss D.ss[n] = n := by
      unfold at_
      rw [hpos]
      rfl
    rw [gd]
    refine ⟨?_, ?_, k.h, by rw [List.length_set]; exact cl, fun z mz => ?_, ?_⟩
    · show decide (manyAt D.ss c D.ss[n] > 0) = true
      unfold manyAt
      rw [hpos]
      exact decide_eq_true hp
    · show (h, _) = (h, c.set (at_ D.ss D.ss[n]) (c.getD (at_ D.ss D.ss[n]) 0 - 1))
      rw [ha]
    · rcases List.mem_or_eq_of_mem_set mz with q | rfl
      · exact k.p _ q
      · omega
    · show (c.set n (c.getD n 0 + -1)).sum ≤ 5
      have := sum_add (c := c) (i := n) (y := -1) (by omega)
      unfold addAt at this
      rw [this]
      have := k.s
      dsimp only at this
      omega
end
end Nxp

/-! ### events that read alike are the same -/
namespace Inj
open PySem PySem.Spec PyProof.Rows L2 Evl Gen Ent Rep Dat Nm Er Chk Gu Deed Pts Hear Lst Bk Cau EvD BadE EntR Lis Prd NmR Bmk EqB God Oth LwP Inf Stp Stq RZ Wth Sta Aft Af2 Ini Rna Led Noc Cho Beh Dnx Nxt Nxp
/-- the figures of a text -/
def dg (s : Str) : List Nat := s.cps.toList.filter fun c => decide (48 ≤ c) && decide (c ≤ 57)
theorem dg_app (a b : Str) : dg (a ++ b) = dg a ++ dg b := by
  unfold dg
  rw [Str.cps_append, Array.toList_append, List.filter_append]
theorem dg_join : ∀ ts : List Str, dg (Str.join ", " ts) = (ts.map dg).flatten
  | [] => rfl
  | [x] => by simp [Str.join]
  | x :: y :: r => by
    show dg (x ++ ", " ++ Str.join ", " (y :: r)) = _
    rw [dg_app, dg_app, dg_join (y :: r)]
    have : dg ", " = [] := by decide +kernel
    rw [this, List.append_nil]
    rfl
theorem dg_tup (ts : List Str) : dg (tupleText ts) = (ts.map dg).flatten := by
  unfold tupleText
  rw [dg_app, dg_app, dg_join]
  have h1 : dg "(" = [] := by decide +kernel
  have h2 : dg (Str.ofString (if (ts.length == 1) = true then ",)" else ")")) = [] := by
    split <;> decide +kernel
  rw [h1, h2]
  simp
theorem dg_fig : ∀ n : Nat, n ≤ 9 → dg (PyData.int (n : Int)).shown = [n + 48] := by
  intro n hn
  have : ∀ n ∈ List.range 10, dg (PyData.int ((n : Nat) : Int)).shown = [n + 48] := by decide +kernel
  exact this n (by simp; omega)
theorem dg_figs : ∀ l : List Int, (∀ x ∈ l, 0 ≤ x ∧ x ≤ 9) → ((PyData.shownAll (l.map .int)).map dg).flatten = l.map fun x => x.toNat + 48
  | [], _ => rfl
  | x :: l, h => by
    have hx := h x (List.mem_cons_self ..)
    obtain ⟨n, rfl⟩ := Int.eq_ofNat_of_zero_le hx.1
    show dg (PyData.int (n : Int)).shown ++ ((PyData.shownAll (l.map .int)).map dg).flatten = _
    rw [dg_fig n (by omega), dg_figs l fun x m => h x (List.mem_cons_of_mem _ m)]
    simp
/-- numbers that are written with one figure -/
def Small (e : Evn) : Prop := match e with
  | .deed n o => (0 ≤ n ∧ n ≤ 9) ∧ ∀ hs, o = some hs → 2 ≤ hs.length ∧ hs.length ≤ 10 ∧ ∀ x ∈ hs, 0 ≤ x ∧ x ≤ 9
  | .fall s => s ∈ allS
  | .other _ => False
theorem dg_deed {n : Int} {o : Option (List Int)} (h : Small (.deed n o)) : dg (evD (.deed n o)).shown = (n.toNat + 48) :: match o with
    | none => []
    | some hs => hs.map fun x => x.toNat + 48 := by
  obtain ⟨⟨h1, h2⟩, h3⟩ := h
  obtain ⟨k, rfl⟩ := Int.eq_ofNat_of_zero_le h1
  show dg (tupleText [(PyData.str "deed").shown, (PyData.int (k : Int)).shown, (heardD o).shown]) = _
  rw [dg_tup]
  show dg (PyData.str "deed").shown ++ (dg (PyData.int (k : Int)).shown ++ (dg (heardD o).shown ++ [])) = _
  have hd : dg (PyData.str "deed").shown = [] := by decide +kernel
  rw [hd, dg_fig k (by omega)]
  cases o with
  | none =>
    have : dg (PyData.none).shown = [] := by decide +kernel
    show [] ++ ([k + 48] ++ (dg (PyData.none).shown ++ [])) = _
    rw [this]
    rfl
  | some hs =>
    show [] ++ ([k + 48] ++ (dg (tupleText (PyData.shownAll (hs.map .int))) ++ [])) = _
    rw [dg_tup, dg_figs hs (h3 hs rfl).2.2]
    simp
theorem dg_fall {s : Str} (h : s ∈ allS) : dg (evD (.fall s)).shown = [] := by
  have : ∀ s ∈ allS, dg (evD (.fall s)).shown = [] := by decide +kernel
  exact this s h
theorem fall_inj {s t : Str} (h : s ∈ allS) (h2 : t ∈ allS) (e : (evD (.fall s)).shown = (evD (.fall t)).shown) : s = t := by
  have : ∀ s ∈ allS, ∀ t ∈ allS, (evD (.fall s)).shown = (evD (.fall t)).shown → s = t := by decide +kernel
  exact this s h t h2 e
theorem figs_inj : ∀ {a b : List Int}, (∀ x ∈ a, 0 ≤ x ∧ x ≤ 9) → (∀ x ∈ b, 0 ≤ x ∧ x ≤ 9) → (a.map fun x => x.toNat + 48) = (b.map fun x => x.toNat + 48) → a = b
  | [], [], _, _, _ => rfl
  | [], _ :: _, _, _, e => by cases e
  | _ :: _, [], _, _, e => by cases e
  | x :: a, y :: b, h1, h2, e => by
    simp only [List.map_cons, List.cons.injEq] at e
    have hx := h1 x (List.mem_cons_self ..)
    have hy := h2 y (List.mem_cons_self ..)
    rw [figs_inj (fun z m => h1 z (List.mem_cons_of_mem _ m)) (fun z m => h2 z (List.mem_cons_of_mem _ m)) e.2]
    have : x = y := by omega
    rw [this]
theorem ev_inj {a b : Evn} (ha : Small a) (hb : Small b) (e : (evD a).shown = (evD b).shown) : a = b := by
  cases a with
  | other _ => cases ha
  | fall s =>
    cases b with
    | other _ => cases hb
    | fall t => rw [fall_inj ha hb e]
    | deed n o =>
      have h1 := dg_fall ha
      rw [e, dg_deed hb] at h1
      cases h1
  | deed n o =>
    cases b with
    | other _ => cases hb
    | fall t =>
      have h1 := dg_fall hb
      rw [← e, dg_deed ha] at h1
      cases h1
    | deed m u =>
      have h1 := dg_deed ha
      rw [e, dg_deed hb] at h1
      obtain ⟨h2, h3⟩ := List.cons.inj h1
      have hn := ha.1
      have hm := hb.1
      have nm : n = m := by omega
      subst nm
      cases o with
      | none =>
        cases u with
        | none => rfl
        | some hs =>
          have l := (hb.2 hs rfl).1
          have : hs = [] := by
            cases hs with
            | nil => rfl
            | cons _ _ => cases h3
          rw [this] at l
          simp at l
      | some hs =>
        cases u with
        | none =>
          have l := (ha.2 hs rfl).1
          have : hs = [] := by
            cases hs with
            | nil => rfl
            | cons _ _ => cases h3
          rw [this] at l
          simp at l
        | some ks => rw [figs_inj (hb.2 ks rfl).2.2 (ha.2 hs rfl).2.2 h3]
theorem next_small {D : PartsD} {h : Str} {c : List Int} (g : GoD D) (k : StOk D (h, c)) (hS : ∀ s ∈ D.ss, s ∈ allS) {x : Evn × (Str × List Int)} (m : x ∈ nextP D h c) : Small x.1 := by
  have cl : c.length = D.ss.length := k.l
  have hh : h ∈ D.hs := k.h
  rcases List.mem_append.mp m with m | m
  · obtain ⟨n, e, hs, he, hc, mh, rfl⟩ := dn_mem m
    have bd := could_bd (h := h) cl k.c5 hc (fun z q => g.ap _ q (by rw [← z]; exact hh)) g.dst
    obtain ⟨hl, hb⟩ := heards_nn bd cl mh
    have nl : n < D.ds.length := (List.getElem?_eq_some_iff.mp he).1
    have g1 := g.d
    have g2 := g.s.1
    have g3 := g.s.2
    refine ⟨by omega, fun hs' e' => ?_⟩
    split at e'
    · obtain rfl := Option.some.inj e'
      refine ⟨by omega, by omega, fun x mx => ?_⟩
      obtain ⟨i, hi⟩ := List.mem_iff_getElem?.mp mx
      have il : i < hs.length := (List.getElem?_eq_some_iff.mp hi).1
      have h1 := hb i il
      have h2 := bd _ (List.getElem_mem (by rw [could_len cl]; omega : i < (could D h c e).length))
      rw [List.getD_eq_getElem?_getD, List.getD_eq_getElem?_getD, hi, List.getElem?_eq_getElem (by rw [could_len cl]; omega : i < (could D h c e).length)] at h1
      simp only [Option.getD_some] at h1
      omega
    · cases e'
  · obtain ⟨n, hn, hp, rfl⟩ := fall_mem m
    have gd : D.ss.getD n "" = D.ss[n] := by rw [List.getD_eq_getElem?_getD, List.getElem?_eq_getElem hn]; rfl
    show D.ss.getD n "" ∈ allS
    rw [gd]
    exact hS _ (List.getElem_mem hn)
theorem nice_fig (n : Nat) (hn : n ≤ 9) : Nice 20 0 (.int (n : Int)) := by
  have : ∀ n ∈ List.range 10, PyData.leavesShort 13 (.int ((n : Nat) : Int)) = true ∧ (PyData.int ((n : Nat) : Int)).showable = true ∧ (PyData.int ((n : Nat) : Int)).plain = true ∧ (PyData.int ((n : Nat) : Int)).weight ≤ 20 ∧ (PyData.int ((n : Nat) : Int)).depth ≤ 0 := by decide +kernel
  obtain ⟨a, b, c, d, e⟩ := this n (by simp; omega)
  exact ⟨a, b, c, d, e⟩
theorem nice_ints {l : List Int} (h : ∀ x ∈ l, 0 ≤ x ∧ x ≤ 9) (hl : l.length ≤ 10) : Nice 210 1 (tupI l) := Nice.tup (w := 20) (dp := 0) (n := 10) (fun d m => by
  obtain ⟨x, mx, rfl⟩ := List.mem_map.mp m
  obtain ⟨n, rfl⟩ := Int.eq_ofNat_of_zero_le (h x mx).1
  exact nice_fig n (by have := (h _ mx).2; omega)) (by rw [List.length_map]; exact hl)
theorem small_nice {e : Evn} (h : Small e) : Nice 633 2 (evD e) := by
  cases e with
  | other _ => cases h
  | fall s =>
    have hs : nmS s = true := by
      have : ∀ s ∈ allS, nmS s = true := by decide +kernel
      exact this s h
    exact (Nice.tup (w := 8) (dp := 0) (n := 2) (fun d m => by
      simp only [List.mem_cons, List.not_mem_nil, or_false] at m
      rcases m with rfl | rfl
      · exact nice_str (by decide +kernel)
      · exact nice_str hs) (by simp)).mono (by decide) (by decide)
  | deed n o =>
    obtain ⟨⟨h1, h2⟩, h3⟩ := h
    obtain ⟨k, rfl⟩ := Int.eq_ofNat_of_zero_le h1
    refine (Nice.tup (w := 210) (dp := 1) (n := 3) (fun d m => ?_) (by simp)).mono (by decide) (by decide)
    simp only [List.mem_cons, List.not_mem_nil, or_false] at m
    rcases m with rfl | rfl | rfl
    · exact (nice_str (by decide +kernel)).mono (by decide) (by decide)
    · exact (nice_fig k (by omega)).mono (by decide) (by decide)
    · cases o with
      | none => exact ⟨rfl, rfl, rfl, by simp [heardD, PyData.weight], by simp [heardD, PyData.depth]⟩
      | some hs => exact nice_ints (h3 hs rfl).2.2 (h3 hs rfl).2.1
end Inj

/-! ### _law_walked -/
namespace Wlk
open PySem PySem.Spec PyProof.Rows L2 Evl Gen Ent Rep Dat Nm Er Chk Gu Deed Pts Hear Lst Bk Cau EvD BadE EntR Lis Prd NmR Bmk EqB God Oth LwP Inf Stp Stq RZ Wth Sta Aft Af2 Ini Rna Led Noc Cho Beh Dnx Nxt Nxp Inj
def same (e : Evn) (x : Evn × (Str × List Int)) : Bool := decide ((evD x.1).shown = (evD e).shown)
def walkP (D : PartsD) : Str × List Int → List Evn → Option (Str × List Int)
  | x, [] => some x
  | x, e :: es => match (nextP D x.1 x.2).filter (same e) with
    | [] => none
    | y :: _ => walkP D y.2 es
def step1 (D : PartsD) (x : Str × List Int) (e : Evn) : Option (Str × List Int) := match (nextP D x.1 x.2).filter (same e) with
  | [] => none
  | y :: _ => some y.2
theorem walk_snoc (D : PartsD) : ∀ (es : List Evn) (x : Str × List Int) (e : Evn), walkP D x (es ++ [e]) = (walkP D x es).bind fun y => step1 D y e
  | [], x, e => by
    show (match (nextP D x.1 x.2).filter (same e) with
      | [] => none
      | y :: _ => some y.2) = _
    rfl
  | a :: es, x, e => by
    show (match (nextP D x.1 x.2).filter (same a) with
      | [] => none
      | y :: _ => walkP D y.2 (es ++ [e])) = (match (nextP D x.1 x.2).filter (same a) with
      | [] => none
      | y :: _ => walkP D y.2 es).bind _
    split
    · rfl
    · exact walk_snoc D es _ e
theorem walk_none (D : PartsD) : ∀ (es es' : List Evn) (x : Str × List Int), walkP D x es = none → walkP D x (es ++ es') = none
  | [], _, x, h => by cases h
  | a :: es, es', x, h => by
    have h' : (match (nextP D x.1 x.2).filter (same a) with
      | [] => none
      | y :: _ => walkP D y.2 es) = none := h
    show (match (nextP D x.1 x.2).filter (same a) with
      | [] => none
      | y :: _ => walkP D y.2 (es ++ es')) = none
    split at h'
    · rfl
    · exact walk_none D es es' _ h'
theorem shp_st {D : PartsD} (g : GoD D) {l : List (Str × List Int)} (h : ∀ x ∈ l, x.1 ∈ D.hs) : SeqAt.shaped (.list (l.map stD)) = true := by
  have ci : ∀ c : List Int, PyData.canLayAll0 (c.map .int) = true ∧ PyData.depthAll (c.map .int) ≤ 0 := fun c => by
    induction c with
    | nil => exact ⟨rfl, by simp [PyData.depthAll]⟩
    | cons n c ih => exact ⟨by simp [PyData.canLay0, PyData.canLayAll0, ih.1], by simp only [List.map_cons, PyData.depth, PyData.depthAll]; omega⟩
  have h2 : PyData.canLayAll0 (l.map stD) = true ∧ PyData.depthAll (l.map stD) ≤ 2 := by
    induction l with
    | nil => exact ⟨rfl, by simp [PyData.depthAll]⟩
    | cons x l ih =>
      have ih := ih fun y m => h y (List.mem_cons_of_mem _ m)
      have o := nm_ok (g.nh _ (h x (List.mem_cons_self ..)))
      have c := ci x.2
      exact ⟨by simp [stD, tupI, PyData.canLay0, PyData.canLayAll0, ih.1, o, c.1], by simp only [stD, tupI, List.map_cons, PyData.depth, PyData.depthAll]; omega⟩
  unfold SeqAt.shaped
  rw [Bool.and_eq_true]
  refine ⟨by simpa [PyData.canLay0] using h2.1, decide_eq_true ?_⟩
  have := h2.2
  simp only [PyData.depth]
  omega
theorem eqv_nil (l : List PyData) : PyData.eqv (.list l) (.list []) = l.isEmpty := by
  cases l <;> simp [PyData.eqv, PyData.eqvAll]
theorem g_name {i : Nat} {v : V} {σ : L2.St} {H : Hp} {Q : L2.St → Hp → Prop} (h : Q (σ.set i (some v)) H) : gName i v σ H Q := h
def spWa (K : PySem.W.Frag) : Sp := fun vs H Q _ => ∃ (p : Addr) (v r : V) (D : PartsD) (x : Str × List Int) (es : List Evn), vs = [.ref p, v, r] ∧ PtS K H p D ∧ GoD D ∧ (∀ s ∈ D.ss, s ∈ allS) ∧ StOk D x ∧ Sw K H v (stD x) ∧ Sw K H r (.list (es.map evD)) ∧ (∀ e ∈ es, Shw (evD e)) ∧
  (walkP D x es = none → ∀ H', Ex H H' → Q .non H') ∧ ∀ y, walkP D x es = some y → ∀ v' H', Ex H H' → Sw K H' v' (stD y) → Q v' H'
abbrev sWa : Stmt := top 43
abbrev NWa : List Str := ["_law_parts_here", "_law_state", "_law_run", "_law_here", "_law_event", "_law_same", "_law_one", "_law_later"]
theorem scWa : FnScope NWa ["_law_parts_here", "_law_state", "_law_run"] (defScope sWa) := ⟨rfl, rfl, rfl, by decide +kernel, rfl, by decide +kernel, by decide +kernel⟩
section
variable {P : Program} {w : World} {K : PySem.W.Frag} {mg : Str → Option Value} {base : Heap}
set_option maxHeartbeats 4000000 in
theorem ok_wa {f : Addr} {fd : FuncData} (F : Fun K "_law_walked" "_law_walked" sWa f fd) (B : Bv mg) (DNx : Df P w K mg base CX0 3 "_law_next" ["_law_parts_here", "_law_state"] (spNx K)) : FnG P w K mg base 4 f fd ["_law_parts_here", "_law_state", "_law_run"] (spWa K) := by
  refine fun_okG F scWa (fun vs H Q E h => ?_) (fun cdv A outer s H vs Q E gd hr h => ?_)
  · obtain ⟨_, _, _, _, _, _, rfl, _⟩ := h
    rfl
  · obtain ⟨p, v, r, D, x, es, rfl, hp, g, hS, hx, hv, hr', sh, kn, ks⟩ := h
    refine ⟨_, (pss_cons (ps_set (i := 3) scWa.nd rfl (Or.inl rfl) (pv 1))
      (pss_cons (ps_for PassesOwn.never rfl (pi_list (pv 2)) (pg_name (i := 4) scWa.nd rfl (Or.inr rfl)) (pss_cons (ps_setLc (i := 5) (own := [("_law_one", 6), ("_law_later", 7)]) (g := gTup K 2 (gCons (gName 6) (gCons (gName 7) gNil))) (tt := tTest (tOp rEq (tCB (rRepr K) (tCons (tVar 6) tNil)) (tCB (rRepr K) (tCons (tVar 4) tNil)))) (te := tVar 7) rfl scWa.nd rfl rfl (sw_true rfl rfl rfl rfl) (pi_list (pe_df DNx hr pass0 (pa_cons (pv 0) (pa_cons (pv 3) pa_nil)))) (blkOk_by (N := NWa) (sc := defScope sWa) (by decide +kernel)) (fun _ _ _ _ _ => (pg_tup rfl (pgs_cons (pg_name (i := 6) scWa.nd rfl (Or.inl rfl)) (pgs_cons (pg_name (i := 7) scWa.nd rfl (Or.inl rfl)) pgs_nil)))) (fun _ _ _ _ _ => (pts_one (pt_cmpR op_eq (pe_callB (id := "repr") (r := rRepr K) (call_repr gd (un64 hr)) (by rfl) B.repr (by decide +kernel) (pa_cons (pv 6) pa_nil)) (pe_callB (id := "repr") (r := rRepr K) (call_repr gd (un64 hr)) (by rfl) B.repr (by decide +kernel) (pa_cons (pv 4) pa_nil)) (nomark _)))) (fun _ _ _ _ _ => (pv 7)))
      (pss_cons (ps_if (pt_cmpR (op_eqD (un64 hr)) (pv 5) (pe_lst pa_nil) (nomark _)) (pss_one (ps_ret pe_non)) pss_nil)
      (pss_one (ps_set (i := 3) scWa.nd rfl (Or.inl rfl) (pe_ix ix_list (pv 5) pe_int (fun _ _ => rfl)))))))
      (pss_one (ps_ret (pv 3))))), ?_⟩
    obtain ⟨rl, rs, rfl, qr, wr⟩ := sw_list hr'
    refine q_asg (ev_var rfl) fun H1 e1 => ?_
    refine q_norm (σ' := [some (.ref p), some v, some (.ref rl), some v, none, none, none, none]) rfl ?_
    refine q_forL (ev_var rfl) (ex_l e1 qr) (fun i σ' H' => ∃ (hv : V) (y : Str × List Int) (s4 s5 : Option V), σ' = [some (.ref p), some v, some (.ref rl), some hv, s4, s5, none, none] ∧ Ex H H' ∧ walkP D x (es.take i) = some y ∧ StOk D y ∧ Sw K H' hv (stD y))
      (fun H2 e2 => ⟨v, x, _, _, rfl, e1.trans e2, rfl, hx, Sw.ex (e1.trans e2) _ _ hv⟩) (fun i σ' H' _ pv => by obtain ⟨_, _, _, _, _, e, _⟩ := pv; exact ex_l e qr) (fun i ev σ' H' hev pv => ?_) (fun σ' H' pv => ?_)
    · obtain ⟨hv', y, s4, s5, rfl, e2, wk, oy, wy⟩ := pv
      obtain ⟨dd, hdd, wd⟩ := swAll_get (SwAll.ex e2 _ _ wr) hev
      rw [List.getElem?_map] at hdd
      obtain ⟨e, he, rfl⟩ := Option.map_eq_some_iff.mp hdd
      have she := sh e (List.mem_of_getElem? he)
      have wk1 : walkP D x (es.take (i + 1)) = step1 D y e := by
        rw [List.take_succ, he]
        show walkP D x (es.take i ++ [e]) = _
        rw [walk_snoc, wk]
        rfl
      refine g_name ?_
      dsimp only
      refine q_norm (σ' := [some (.ref p), some v, some (.ref rl), some hv', some ev, s5, none, none]) rfl ?_
      refine q_asgX ?_
      refine ⟨_, rfl, _, rfl, p, hv', D, y.1, y.2, rfl, hp.ex e2, wy, oy.l, g, oy.h, oy.c5, fun q H3 nq e3 ⟨ys, hys, wys⟩ => ⟨q, rfl, ⟨ys, SqL.of hys⟩, fun Dl hD => lc_it (walk_list (xs := ys)) (fun j H' => Ex H3 H' ∧ ∃ zs, H' Dl = some (.lst zs) ∧ SwAll K H' zs ((((nextP D y.1 y.2).take j).filter (same e)).map fun z => stD z.2)) ⟨Ex.new hD, [], upd_same, .nil⟩ (fun j H' _ pv => SqL.of (pv.1 _ _ hys)) (fun j z H4 H5 hj pv yy => ?_) fun H4 pv => ?_⟩⟩
      · obtain ⟨e4, zs, hD4, wz⟩ := pv
        obtain ⟨rfl, hz⟩ := yy
        obtain ⟨dd, hdd, wd2⟩ := swAll_get (SwAll.ex e4 _ _ wys) hz
        rw [List.getElem?_map] at hdd
        obtain ⟨n, hn, rfl⟩ := Option.map_eq_some_iff.mp hdd
        obtain ⟨T, xs2, rfl, qT, wT⟩ := sw_tup wd2
        obtain ⟨v1, v2, rfl, u1, u2⟩ := sw_two wT
        have mn := List.mem_of_getElem? hn
        have sn := (small_nice (next_small g oy hS mn)).shw (by decide) (by decide)
        refine ⟨T, _, rfl, qT, rfl, _, _, rfl, _, _, rfl, rfl, rfl, ?_⟩
        have hrp : Ev (tOp rEq (tCB (rRepr K) (tCons (tVar 6) tNil)) (tCB (rRepr K) (tCons (tVar 4) tNil))) [some (.ref p), some v, some (.ref rl), some hv', some ev, s5, some v1, some v2] H5 (.bl (same e n)) :=
          ev_is (ev_op (ev_cb (ea_cons (ev_var rfl) ea_nil) fun H6 e6 Q6 q6 => ⟨_, _, rfl, Sw.ex e6 _ _ u1, sn.1, sn.2.1, sn.2.2, q6 H6 (Ex.refl _)⟩) (ev_cb (ea_cons (ev_var rfl) ea_nil) fun H6 e6 Q6 q6 => ⟨_, _, rfl, Sw.ex ((e3.trans e4).trans e6) _ _ wd, she.1, she.2.1, she.2.2, q6 H6 (Ex.refl _)⟩) (rv_eq rfl)) (by rw [vstr_eq]; rfl)
        have tk : ((nextP D y.1 y.2).take (j + 1)).filter (same e) = ((nextP D y.1 y.2).take j).filter (same e) ++ if same e n = true then [n] else [] := by
          rw [List.take_succ, hn, List.filter_append]
          congr 1
          cases q : same e n <;> simp [q]
        refine et_test hrp _ (Ex.refl _) _ fun H6 e6 => ?_
        have wz6 := SwAll.ex e6 _ _ wz
        have hD6 := e6 _ _ hD4
        cases hs : same e n with
        | false =>
          rw [if_neg (by decide)]
          refine ⟨e4.trans e6, zs, hD6, ?_⟩
          rw [tk, hs]
          simpa using wz6
        | true =>
          rw [if_pos rfl]
          have nl1 := dn_total g oy.l oy.h oy.c5
          have nl2 := fallPart_len (D := D) (h := y.1) (c := y.2) D.ss.length
          have nl3 := g.s.2
          refine ⟨_, rfl, zs, hD6, sz_lt ?_, (e4.trans e6).mut hD, _, upd_same, ?_⟩
          · rw [swAll_len wz6, List.length_map]
            refine Nat.lt_of_le_of_lt (List.length_filter_le _ _) (Nat.lt_of_le_of_lt (by rw [List.length_take]; exact Nat.min_le_right _ _) (?_ : (nextP D y.1 y.2).length < 100000))
            unfold nextP
            rw [List.length_append]
            omega
          · rw [tk, hs, if_pos rfl, List.map_append]
            refine swAll_app (swAll_no hD6 Mv.upd _ _ (noLs_all fun d md => ?_) wz6) (.cons (sw_no hD6 Mv.upd _ _ ?_ (Sw.ex e6 _ _ u2)) .nil)
            · obtain ⟨z, _, rfl⟩ := List.mem_map.mp md
              show (true && (noL (tupI z.2.2) && true)) = true
              rw [show noL (tupI z.2.2) = true from noL_ints _]
              rfl
            · show (true && (noL (tupI n.2.2) && true)) = true
              rw [show noL (tupI n.2.2) = true from noL_ints _]
              rfl
      · obtain ⟨e4, zs, hD4, wz⟩ := pv
        have yl : ys.length = (nextP D y.1 y.2).length := by rw [swAll_len wys]; exact List.length_map ..
        rw [yl, List.take_length] at wz
        have E4 := (e2.trans e3).trans e4
        have hin : ∀ z ∈ ((nextP D y.1 y.2).filter (same e)).map (·.2), z.1 ∈ D.hs := fun z mz => by
          obtain ⟨n, mn, rfl⟩ := List.mem_map.mp mz
          exact (next_ok g oy (List.mem_filter.mp mn).1).2.2.h
        have shp1 := shp_st g hin
        rw [List.map_map] at shp1
        have shp0 : SeqAt.shaped (.list []) = true := by rfl
        have wl : Sw K H4 (.ref Dl) (.list (((nextP D y.1 y.2).filter (same e)).map fun z => stD z.2)) := .lst (SqL.of hD4) wz
        refine q_norm (σ' := [some (.ref p), some v, some (.ref rl), some hv', some ev, some (.ref Dl), none, none]) rfl ?_
        refine q_when (b := (((nextP D y.1 y.2).filter (same e)).map fun z => stD z.2).isEmpty) (et_test fun H5 e5 Q5 q5 => ⟨_, rfl, by show 0 ≤ sizeLine; decide, fun pp npp => ⟨_, .list [], sw_dp _ _ (Sw.ex (e5.trans (Ex.new npp)) _ _ wl) (SeqAt.canLay_of_shaped shp1), .lst (SqL.of upd_same) .nil, shp1, shp0, by rw [eqv_nil]; exact q5 _ (Ex.new npp)⟩⟩) (fun hz H5 e5 => s_ret ev_c fun H6 e6 => ?_) (fun hz H5 e5 => ?_)
        · refine kn ?_ H6 ((E4.trans e5).trans e6)
          rw [← List.take_append_drop (i + 1) es]
          refine walk_none D _ _ _ ?_
          rw [wk1]
          unfold step1
          have : (nextP D y.1 y.2).filter (same e) = [] := by simpa using hz
          rw [this]
        · cases hf : (nextP D y.1 y.2).filter (same e) with
          | nil =>
            rw [hf] at hz
            cases hz
          | cons n l =>
            have mn : n ∈ nextP D y.1 y.2 := (List.mem_filter.mp (by rw [hf]; exact List.mem_cons_self .. : n ∈ (nextP D y.1 y.2).filter (same e))).1
            rw [hf] at wz
            refine ed_ix (K := K) (n := 0) (ds := ((n :: l).map fun z => stD z.2)) (d := stD n.2) (el_var rfl ⟨zs, e5 _ _ hD4, SwAll.ex e5 _ _ wz⟩) ev_c rfl H5 (Ex.refl _) _ fun v' H6 e6 w6 => ?_
            refine ⟨v', n.2, _, _, rfl, (E4.trans e5).trans e6, ?_, (next_ok g oy mn).2.2, w6⟩
            rw [wk1]
            unfold step1
            rw [hf]
    · obtain ⟨hv', y, s4, s5, rfl, e2, wk, oy, wy⟩ := pv
      have rl' : rs.length = es.length := by rw [swAll_len wr]; exact List.length_map ..
      rw [rl', List.take_length] at wk
      exact s_ret (ev_var rfl) fun H3 e3 => ks y wk hv' H3 (e2.trans e3) (Sw.ex e3 _ _ wy)
end
end Wlk

/-! ### _law_lot_drawn -/
namespace Lot
open PySem PySem.Spec PyProof.Rows L2 Evl Gen Ent Rep Dat Nm Er Chk Gu Deed Pts Hear Lst Bk Cau EvD BadE EntR Lis Prd NmR Bmk EqB God Oth LwP Inf Stp Stq RZ Wth Sta Aft Af2 Ini Rna Led Noc Cho Beh Dnx Nxt Nxp Inj Wlk
/-- the heap without g -/
def dl (H : Hp) (g : Addr) : Hp := fun b => if b = g then none else H b
theorem dl_ne {H : Hp} {g b : Addr} (h : b ≠ g) : dl H g b = H b := if_neg h
theorem dl_same {H : Hp} {g : Addr} : dl H g g = none := if_pos rfl
theorem dl_up {H : Hp} {g : Addr} : Ex (dl H g) H := fun b o h => by
  by_cases e : b = g
  · rw [e, dl_same] at h
    cases h
  · rw [dl_ne e] at h
    exact h
theorem dl_mv {H H' : Hp} {g : Addr} (e : Ex (dl H g) H') : Mv g H H' := fun b o n h => e b o (by rw [dl_ne n]; exact h)
theorem dl_of {H H' : Hp} {g : Addr} (m : Mv g H H') : Ex (dl H g) H' := fun b o h => by
  by_cases e : b = g
  · rw [e, dl_same] at h
    cases h
  · rw [dl_ne e] at h
    exact m b o e h
theorem dl_ex {A H : Hp} {g : Addr} (e : Ex A H) (n : A g = none) : Ex A (dl H g) := fun b o h => by
  rw [dl_ne (ne_of_none h n)]
  exact e b o h
def spLo (K : PySem.W.Frag) : Sp := fun vs H Q _ => ∃ (g p : Addr) (n : Int) (D : PartsD), vs = [.ref g, .ref p, .int 5] ∧ GenAt H g n ∧ n ≤ 100000000 ∧ PtS K (dl H g) p D ∧ GoD D ∧
  ∀ v' H' x, Mv g H H' → GenAt H' g (n + 100) → StOk D x → Sw K (dl H' g) v' (stD x) → Q v' H'
abbrev sLo : Stmt := top 44
abbrev NLo : List Str := ["_law_generator_here", "_law_parts_here", "_law_most", "_law_counts", "_law_turn", "_law_at"]
theorem scLo : FnScope NLo ["_law_generator_here", "_law_parts_here", "_law_most"] (defScope sLo) := ⟨rfl, rfl, rfl, by decide +kernel, rfl, by decide +kernel, by decide +kernel⟩
theorem eln_rep {K : PySem.W.Frag} {σ : L2.St} {H : Hp} {te tb : TE} {ds : List PyData} {k : Nat} (h : EL K te σ H ds) (h2 : Ev tb σ H (.int (k : Int))) (hz : ds.length * k ≤ 100000) (hk : k ≤ 100000) : ELN K (tOp rRep te tb) σ H (List.replicate k ds).flatten := fun H1 e Q q =>
  h H1 e _ fun p H2 e2 ⟨xs, w1, w2⟩ => h2 H2 (e.trans e2) _ fun H3 e3 =>
    ⟨p, (k : Int), xs, rfl, rfl, e3 _ _ w1, by omega, by omega, sz_of (by rw [swAll_len w2]; simpa using hz), fun r nr => by
      have en : ((k : Int)).toNat = k := by omega
      rw [en]
      exact q r _ (fresh_back (e2.trans e3) nr) ((e2.trans e3).trans (Ex.new nr)) ⟨_, upd_same, SwAll.ex (e3.trans (Ex.new nr)) _ _ (swAll_rep w2 k)⟩⟩
theorem sw_dl {K : PySem.W.Frag} {H : Hp} {g : Addr} {G : List V} {v : V} {d : PyData} (hg : H g = some (.lst G)) (n : noL d = true) (h : Sw K H v d) : Sw K (dl H g) v d := sw_no hg (fun b o nb hb => by rw [dl_ne nb]; exact hb) d v n h
theorem sum_rep : ∀ k : Nat, (List.replicate k (0 : Int)).sum = 0
  | 0 => rfl
  | k + 1 => by
    rw [List.replicate_succ, List.sum_cons, sum_rep k]
    rfl
section
variable {P : Program} {w : World} {K : PySem.W.Frag} {mg : Str → Option Value} {base : Heap}
set_option maxHeartbeats 4000000 in
theorem ok_lo {f : Addr} {fd : FuncData} (F : Fun K "_law_lot_drawn" "_law_lot_drawn" sLo f fd) (B : Bv mg) (DRn : Df P w K mg base CX0 2 "_law_random" ["_law_generator_here", "_law_bound"] spRand) : FnOk P w K mg base CX0 3 f fd ["_law_generator_here", "_law_parts_here", "_law_most"] (spLo K) := by
  refine F.ok scLo (fun vs H Q E h => ?_) (fun cdv A outer s H vs Q E hr h => ?_)
  · obtain ⟨_, _, _, _, rfl, _⟩ := h
    rfl
  · obtain ⟨g, p, n, D, rfl, ⟨G0, hG, gl0⟩, hn, hp, gd, k⟩ := h
    refine ⟨_, (pss_cons (ps_set (i := 3) scLo.nd rfl (Or.inl rfl) (pe_op op_rep (pe_lst (pa_cons pe_int pa_nil)) (pe_callB call_len_seq (by rfl) B.len PySem.boot_len (pa_cons (pe_ix ix_list (pv 1) pe_int (fun _ _ => rfl)) pa_nil))))
      (pss_cons (ps_for PassesOwn.never rfl (pi_range1 rfl B.range (pa_cons (pe_df DRn hr pass0 (pa_cons (pv 0) (pa_cons (pe_op op_add (pv 2) pe_int) pa_nil))) pa_nil)) (pg_name (i := 4) scLo.nd rfl (Or.inl rfl)) (pss_cons (ps_set (i := 5) scLo.nd rfl (Or.inl rfl) (pe_df DRn hr pass0 (pa_cons (pv 0) (pa_cons (pe_callB call_len_seq (by rfl) B.len PySem.boot_len (pa_cons (pv 3) pa_nil)) pa_nil))))
      (pss_one (ps_asg (pe_op op_add (pe_ix ix_list (pv 3) (pv 5) (fun _ _ => rfl)) pe_int) (pg_sub (pv 3) (pv 5) set_list)))))
      (pss_one (ps_ret (pe_tup (pa_cons (pe_ix ix_list (pe_ix ix_list (pv 1) pe_int (fun _ _ => rfl)) (pe_df DRn hr pass0 (pa_cons (pv 0) (pa_cons (pe_callB call_len_seq (by rfl) B.len PySem.boot_len (pa_cons (pe_ix ix_list (pv 1) pe_int (fun _ _ => rfl)) pa_nil)) pa_nil))) (fun _ _ => rfl)) (pa_cons (pe_callTy call_tuple_of (by rfl) B.tuple (by decide +kernel) (pa_cons (pv 3) pa_nil)) pa_nil))))))), ?_⟩
    have hB := dl_up (H := H) (g := g)
    have nB : dl H g g = none := dl_same
    obtain ⟨a0, a1, a2, a3, a4, X2, X3, q0, qh, qs, q2, w2, q3, w3, q4⟩ := hp
    have hst : ∀ G, Ex (dl H g) G → ∀ (σ : L2.St), σ[1]? = some (some (.ref p)) → ∀ (i : Nat) (a : Addr), [V.ref a0, .ref a1, .ref a2, .ref a3, .ref a4][i]? = some (.ref a) → Ev (tOp (rIxL K) (tVar 1) (tC (.int (i : Int)))) σ G (.ref a) := fun G e σ h1 i a hi => ev_op (ev_var h1) ev_c (rv_ixL (ex_l e q0) (atI_nat hi))
    refine q_asgX ?_
    have hrep : ELN K (tOp rRep (tLst (tCons (tC (.int 0)) tNil)) (tCB (rLenS K) (tCons (tOp (rIxL K) (tVar 1) (tC (.int 1))) tNil))) (start NLo [.ref g, .ref p, .int 5]) H ((List.replicate D.ss.length (0 : Int)).map .int) := by
      have := eln_rep (K := K) (σ := start NLo [.ref g, .ref p, .int 5]) (H := H) (te := tLst (tCons (tC (.int 0)) tNil)) (tb := tCB (rLenS K) (tCons (tOp (rIxL K) (tVar 1) (tC (.int 1))) tNil)) (ds := [.int 0]) (k := D.ss.length) (EvD.el_lst (eda_cons ed_int eda_nil) (by simp)) (ev_is (ev_len (hst H hB _ rfl 1 a1 rfl) (ex_l hB qs)) (by simp)) (by have := gd.s.2; simp; omega) (by have := gd.s.2; omega)
      have e : (List.replicate D.ss.length [PyData.int 0]).flatten = (List.replicate D.ss.length (0 : Int)).map PyData.int := by
        generalize D.ss.length = m
        induction m with
        | zero => rfl
        | succ m ih =>
          rw [List.replicate_succ, List.replicate_succ, List.flatten_cons, ih]
          rfl
      rw [← e]
      exact this
    refine hrep H (Ex.refl H) _ fun cn H1 ncn e1 ⟨cs, hcs, wcs⟩ => ?_
    rw [ints_inv wcs] at hcs
    have ncg : cn ≠ g := (ne_of_none hG ncn).symm
    have nBc : dl H g cn = none := by rw [dl_ne ncg]; exact ncn
    have E1 : Ex (dl H g) H1 := hB.trans e1
    have sl := gd.s
    refine sq_step ?_
    refine ⟨_, rfl, _, rfl, _, _, rfl, rfl, g, _, n, G0, rfl, by decide, by decide, e1 _ _ hG, gl0, by omega, fun z G1 z0 z1 gl1 => ⟨z, rfl, by omega, by omega, for_range (lo := 0) (n := z.toNat) (fun i σ' H' => ∃ (s4 s5 : Option V) (c : List Int), σ' = [some (.ref g), some (.ref p), some (.int 5), some (.ref cn), s4, s5] ∧ Ex (dl H g) H' ∧ H' cn = some (.lst (VInt c)) ∧ c.length = D.ss.length ∧ (∀ x ∈ c, 0 ≤ x) ∧ c.sum = i ∧ GenAt H' g (n + 3 + 3 * i))
      ⟨_, _, _, rfl, E1.mut nB, by rw [upd_ne ncg]; exact hcs, by simp, fun x m => by rw [List.eq_of_mem_replicate m]; exact Int.le_refl 0, sum_rep _, G1, upd_same, gl1.mono (by omega)⟩ (fun i σ' H' hi pv => ?_) (fun σ' H' pv => ?_)⟩⟩
    · obtain ⟨s4, s5, c, rfl, E2, hc, cl, cp, cs, G2, hG2, gl2⟩ := pv
      refine q_asgX ?_
      have clc : (VInt c).length = D.ss.length := by rw [List.length_map, cl]
      refine ⟨_, rfl, _, rfl, cn, VInt c, rfl, .inl (SqL.of hc), g, _, _, G2, rfl, by rw [clc]; omega, by rw [clc]; omega, hG2, gl2, by omega, fun y G3 y0 y1 gl3 => ?_⟩
      rw [clc] at y1
      have E3 : Ex (dl H g) (upd H' g (.lst G3)) := E2.mut nB
      have hc3 : upd H' g (.lst G3) cn = some (.lst (VInt c)) := by rw [upd_ne ncg]; exact hc
      have hG3 : upd H' g (.lst G3) g = some (.lst G3) := upd_same
      generalize upd H' g (.lst G3) = H3 at E3 hc3 hG3
      obtain ⟨j, rfl⟩ := Int.eq_ofNat_of_zero_le y0
      have jl : j < c.length := by omega
      refine s_setL (j := j) (v := .int (c.getD j 0 + 1)) hc3 (ev_op (ev_op (ev_var rfl) (ev_var rfl) (rv_ixL (SqL.of hc3) (atI_c jl))) ev_c rv_I0) (ev_var rfl) (ev_var rfl) (by rw [List.length_map]; exact jl) fun H4 e4 => ?_
      refine ⟨_, _, addAt c j 1, rfl, (E3.trans e4).mut nBc, ?_, by rw [addAt_len, cl], fun x mx => ?_, ?_, G3, ?_, gl3.mono (by omega)⟩
      · rw [upd_same]
        congr 2
        show (c.map V.int).set j _ = (c.set j _).map V.int
        rw [List.map_set]
      · rcases List.mem_or_eq_of_mem_set mx with q | rfl
        · exact cp _ q
        · have : 0 ≤ c.getD j 0 := by
            rw [List.getD_eq_getElem?_getD, List.getElem?_eq_getElem jl]
            exact cp _ (List.getElem_mem jl)
          omega
      · rw [sum_add jl, cs]
        simp
      · rw [upd_ne ncg.symm]
        exact e4 _ _ hG3
    · obtain ⟨s4, s5, c, rfl, E2, hc, cl, cp, cs, G2, hG2, gl2⟩ := pv
      have zz : ((z.toNat : Nat) : Int) = z := by omega
      rw [zz] at cs gl2
      have hh := gd.h
      have clh : (D.hs.map V.str).length = D.hs.length := List.length_map ..
      refine hst H' E2 _ rfl 0 a0 rfl H' (Ex.refl _) _ fun H3 e3 => ⟨_, rfl, hst H3 (E2.trans e3) _ rfl 0 a0 rfl H3 (Ex.refl _) _ fun H4 e4 => ⟨a0, D.hs.map V.str, rfl, .inl (ex_l ((E2.trans e3).trans e4) qh), g, _, _, G2, rfl, by rw [clh]; omega, by rw [clh]; omega, (e3.trans e4) _ _ hG2, gl2, by omega, fun y G3 y0 y1 gl3 => ?_⟩⟩
      have E4 := (E2.trans e3).trans e4
      have E5 : Ex (dl H g) (upd H4 g (.lst G3)) := E4.mut nB
      have hc5 : upd H4 g (.lst G3) cn = some (.lst (VInt c)) := by rw [upd_ne ncg]; exact (e3.trans e4) _ _ hc
      have hG5 : upd H4 g (.lst G3) g = some (.lst G3) := upd_same
      generalize upd H4 g (.lst G3) = H5 at E5 hc5 hG5
      obtain ⟨s, ms, as⟩ := at_str y0 y1
      refine ⟨a0, _, _, _, rfl, rfl, ex_l E5 qh, as, ?_⟩
      refine ed_tupOf (K := K) (el_var rfl ⟨_, hc5, sw_ints _⟩) H5 (Ex.refl _) _ fun tv H6 e6 w6 => ⟨by show 2 ≤ sizeLine; decide, fun r nr => ?_⟩
      have e7 : Ex H6 (upd H6 r (.tup [.str s, tv])) := Ex.new nr
      have w7 : Sw K (upd H6 r (.tup [.str s, tv])) (.ref r) (stD (s, c)) := .tup (SqT.of upd_same) (.cons (.str s) (.cons (Sw.ex e7 _ _ w6) .nil))
      have hG7 := e7 _ _ (e6 _ _ hG5)
      refine k _ _ (s, c) (dl_mv ((E5.trans e6).trans e7)) ⟨G3, hG7, gl3.mono (by omega)⟩ ⟨ms, cl, cp, by show c.sum ≤ 5; omega⟩ (sw_dl hG7 ?_ w7)
      show (true && (noL (tupI c) && true)) = true
      rw [show noL (tupI c) = true from noL_ints _]
      rfl
end
end Lot

/-! ### _law_drawn_run -/
namespace Drn
open PySem PySem.Spec PyProof.Rows L2 Evl Gen Ent Rep Dat Nm Er Chk Gu Deed Pts Hear Lst Bk Cau EvD BadE EntR Lis Prd NmR Bmk EqB God Oth LwP Inf Stp Stq RZ Wth Sta Aft Af2 Ini Rna Led Noc Cho Beh Dnx Nxt Nxp Inj Wlk Lot
inductive RunW (D : PartsD) (x : Str × List Int) : List Evn → Str × List Int → Prop
  | nil : RunW D x [] x
  | snoc {es : List Evn} {y : Str × List Int} {z : Evn × (Str × List Int)} : RunW D x es y → z ∈ nextP D y.1 y.2 → RunW D x (es ++ [z.1]) z.2
theorem RunW.ok {D : PartsD} {x y : Str × List Int} {es : List Evn} (g : GoD D) (k : StOk D x) (r : RunW D x es y) : StOk D y := by
  induction r with
  | nil => exact k
  | snoc _ m ih => exact (next_ok g ih m).2.2
theorem RunW.small {D : PartsD} {x y : Str × List Int} {es : List Evn} (g : GoD D) (hS : ∀ s ∈ D.ss, s ∈ allS) (k : StOk D x) (r : RunW D x es y) : ∀ e ∈ es, Small e := by
  induction r with
  | nil => exact fun e m => by cases m
  | snoc r m ih =>
    intro e me
    rcases List.mem_append.mp me with q | q
    · exact ih e q
    · obtain rfl : e = _ := by simpa using q
      exact next_small g (r.ok g k) hS m
theorem shp_pairs {D : PartsD} (g : GoD D) {l : List (Evn × (Str × List Int))} (h : ∀ x ∈ l, Small x.1 ∧ x.2.1 ∈ D.hs) : SeqAt.shaped (.list (l.map Dnx.pairD)) = true := by
  have ci : ∀ c : List Int, PyData.canLayAll0 (c.map .int) = true ∧ PyData.depthAll (c.map .int) ≤ 0 := fun c => by
    induction c with
    | nil => exact ⟨rfl, by simp [PyData.depthAll]⟩
    | cons n c ih => exact ⟨by simp [PyData.canLay0, PyData.canLayAll0, ih.1], by simp only [List.map_cons, PyData.depth, PyData.depthAll]; omega⟩
  have s1 : PyData.strOk "deed" = true := by decide +kernel
  have s2 : PyData.strOk "fall" = true := by decide +kernel
  have ce : ∀ e, Small e → (evD e).canLay0 = true ∧ (evD e).depth ≤ 2 := fun e he => by
    cases e with
    | other _ => cases he
    | fall s =>
      have o : PyData.strOk s = true := strs_ok s (by simp only [List.mem_append]; exact .inl (.inr he))
      exact ⟨by simp [evD, PyData.canLay0, PyData.canLayAll0, s2, o], by simp [evD, PyData.depth, PyData.depthAll]⟩
    | deed n o =>
      cases o with
      | none => exact ⟨by simp [evD, heardD, PyData.canLay0, PyData.canLayAll0, s1], by simp [evD, heardD, PyData.depth, PyData.depthAll]⟩
      | some hs => exact ⟨by simp [evD, heardD, PyData.canLay0, PyData.canLayAll0, s1, (ci hs).1], by have := (ci hs).2; simp only [evD, heardD, PyData.depth, PyData.depthAll]; omega⟩
  have h2 : PyData.canLayAll0 (l.map Dnx.pairD) = true ∧ PyData.depthAll (l.map Dnx.pairD) ≤ 3 := by
    induction l with
    | nil => exact ⟨rfl, by simp [PyData.depthAll]⟩
    | cons x l ih =>
      have ih := ih fun y m => h y (List.mem_cons_of_mem _ m)
      obtain ⟨a, b⟩ := h x (List.mem_cons_self ..)
      have o := nm_ok (g.nh _ b)
      have c := ci x.2.2
      have e := ce x.1 a
      exact ⟨by simp [Dnx.pairD, stD, tupI, PyData.canLay0, PyData.canLayAll0, ih.1, o, c.1, e.1], by simp only [Dnx.pairD, stD, tupI, List.map_cons, PyData.depth, PyData.depthAll]; omega⟩
  unfold SeqAt.shaped
  rw [Bool.and_eq_true]
  refine ⟨by simpa [PyData.canLay0] using h2.1, decide_eq_true ?_⟩
  have := h2.2
  simp only [PyData.depth]
  omega
theorem q_par {i j : Nat} {ta : TA} {σ : L2.St} {H : Hp} {tz : TS} {D : Ends} (h : ta σ H fun vs H1 => ∃ v w, vs = [v, w] ∧ tz D ((σ.set i (some v)).set j (some w)) H1) : tSeq (tPar i j ta) tz D σ H := h
theorem a_cons {te : TE} {ta : TA} {σ : L2.St} {H : Hp} {Q : List V → Hp → Prop} (h : te σ H fun v H1 => ta σ H1 fun vs H2 => Q (v :: vs) H2) : tCons te ta σ H Q := h
def PvD (K : PySem.W.Frag) (D : PartsD) (y : Str × List Int) (g Dl : Addr) (H3 : Hp) (N : Int) (j : Nat) (H' : Hp) : Prop := Ex (dl H3 g) H' ∧ GenAt H' g N ∧ ∃ (zs : List V) (L : List (Evn × (Str × List Int))), H' Dl = some (.lst zs) ∧ SwAll K (dl H' g) zs (L.map Dnx.pairD) ∧ (∀ z ∈ L, z ∈ nextP D y.1 y.2) ∧ L.length ≤ j
theorem noN {D : PartsD} {h : Str} {c : List Int} {z : Evn × (Str × List Int)} (mz : z ∈ nextP D h c) : notOther z := (List.mem_append.mp mz).elim dn_noO fall_noO
theorem noL_pairs {D : PartsD} {h : Str} {c : List Int} {L : List (Evn × (Str × List Int))} (mL : ∀ z ∈ L, z ∈ nextP D h c) : noLs (L.map Dnx.pairD) = true := noLs_all fun d md => by
  obtain ⟨z, mz, rfl⟩ := List.mem_map.mp md
  exact pair_noL z (noN (mL z mz))
section
variable {K : PySem.W.Frag} {D : PartsD} {y : Str × List Int} {g Dl : Addr} {H3 H4 H6 : Hp} {N : Int} {j : Nat}
theorem pv_ex (e : Ex H4 H6) (h : PvD K D y g Dl H3 N j H4) : PvD K D y g Dl H3 N j H6 := by
  obtain ⟨e4, ⟨G4, hG4, gl4⟩, zs, L, hz4, wz4, mL, lL⟩ := h
  exact ⟨e4.trans e, ⟨G4, e _ _ hG4, gl4⟩, zs, L, e _ _ hz4, SwAll.ex (dl_ex (dl_up.trans e) dl_same) _ _ wz4, mL, lL⟩
theorem pv_mono {N' : Int} {j' : Nat} (hN : N ≤ N') (hj : j ≤ j') (h : PvD K D y g Dl H3 N j H4) : PvD K D y g Dl H3 N' j' H4 := by
  obtain ⟨e4, gg, zs, L, hz4, wz4, mL, lL⟩ := h
  exact ⟨e4, gg.mono hN, zs, L, hz4, wz4, mL, by omega⟩
theorem dl_upd {H : Hp} {g : Addr} {o : HO} : dl (upd H g o) g = dl H g := by
  funext b
  by_cases q : b = g
  · rw [q, dl_same, dl_same]
  · rw [dl_ne q, dl_ne q, upd_ne q]
theorem pv_g {N' : Int} {G : List V} (nDg : Dl ≠ g) (gl : GenL N' G) (h : PvD K D y g Dl H3 N j H4) : PvD K D y g Dl H3 N' j (upd H4 g (.lst G)) := by
  obtain ⟨e4, _, zs, L, hz4, wz4, mL, lL⟩ := h
  exact ⟨e4.mut dl_same, ⟨G, upd_same, gl⟩, zs, L, by rw [upd_ne nDg]; exact hz4, by rw [dl_upd]; exact wz4, mL, lL⟩
theorem pv_add {z : V} {nx : Evn × (Str × List Int)} (nDg : Dl ≠ g) (nBD : dl H3 g Dl = none) (h : PvD K D y g Dl H3 N j H4) (wz : Sw K (dl H3 g) z (Dnx.pairD nx)) (mn : nx ∈ nextP D y.1 y.2) (jl : j < 77764) : ∃ acc, H4 Dl = some (.lst acc) ∧ acc.length < sizeLine ∧ PvD K D y g Dl H3 N (j + 1) (upd H4 Dl (.lst (acc ++ [z]))) := by
  obtain ⟨e4, ⟨G4, hG4, gl4⟩, zs, L, hz4, wz4, mL, lL⟩ := h
  have hz4' : dl H4 g Dl = some (.lst zs) := by rw [dl_ne nDg]; exact hz4
  have e5 : Mv Dl (dl H4 g) (dl (upd H4 Dl (.lst (zs ++ [z]))) g) := fun b o nb hb => by
    by_cases q : b = g
    · rw [q, dl_same] at hb
      cases hb
    · rw [dl_ne q] at hb ⊢
      rw [upd_ne nb]
      exact hb
  refine ⟨zs, hz4, sz_lt (by rw [swAll_len wz4, List.length_map]; omega), e4.mut nBD, ⟨G4, by rw [upd_ne nDg.symm]; exact hG4, gl4⟩, _, L ++ [nx], upd_same, ?_, fun x mx => ?_, by simp; omega⟩
  · rw [List.map_append]
    exact swAll_app (swAll_no hz4' e5 _ _ (noL_pairs mL) wz4) (.cons (sw_no hz4' e5 _ _ (pair_noL _ (noN mn)) (Sw.ex (dl_ex e4 dl_same) _ _ wz)) .nil)
  · rcases List.mem_append.mp mx with q | q
    · exact mL x q
    · obtain rfl : x = nx := by simpa using q
      exact mn
end
def spDr (K : PySem.W.Frag) : Sp := fun vs H Q _ => ∃ (g p : Addr) (n : Int) (v : V) (D : PartsD) (x : Str × List Int), vs = [.ref g, .ref p, v, .int 10] ∧ GenAt H g n ∧ n ≤ 100000000 ∧ PtS K (dl H g) p D ∧ GoD D ∧ (∀ s ∈ D.ss, s ∈ allS) ∧ StOk D x ∧ Sw K (dl H g) v (stD x) ∧
  ∀ q rn vh H' es y, Mv g H H' → GenAt H' g (n + 5000000) → RunW D x es y → es.length ≤ 10 → H' q = some (.lst [.ref rn, vh]) → q ≠ g → TL K (dl H' g) rn (es.map evD) → Q (.ref q) H'
abbrev sDr : Stmt := top 42
abbrev NDr : List Str := ["_law_generator_here", "_law_parts_here", "_law_state", "_law_most", "_law_run", "_law_here", "_law_turn", "_law_known", "_law_event", "_law_pair"]
theorem scDr : FnScope NDr ["_law_generator_here", "_law_parts_here", "_law_state", "_law_most"] (defScope sDr) := ⟨rfl, rfl, rfl, by decide +kernel, rfl, by decide +kernel, by decide +kernel⟩
section
variable {P : Program} {w : World} {K : PySem.W.Frag} {mg : Str → Option Value} {base : Heap}
set_option maxHeartbeats 4000000 in
theorem ok_dr {f : Addr} {fd : FuncData} (F : Fun K "_law_drawn_run" "_law_drawn_run" sDr f fd) (B : Bv mg) (DRn : Df P w K mg base CX0 2 "_law_random" ["_law_generator_here", "_law_bound"] spRand) (DNx : Df P w K mg base CX0 3 "_law_next" ["_law_parts_here", "_law_state"] (spNx K)) : FnOk P w K mg base CX0 4 f fd ["_law_generator_here", "_law_parts_here", "_law_state", "_law_most"] (spDr K) := by
  refine F.ok scDr (fun vs H Q E h => ?_) (fun cdv A outer s H vs Q E hr h => ?_)
  · obtain ⟨_, _, _, _, _, _, rfl, _⟩ := h
    rfl
  · obtain ⟨g, p, n, v, D, x, rfl, ⟨G0, hG, gl0⟩, hn, hp, gd, hS, ox, hv, k⟩ := h
    refine ⟨_, (pss_cons (ps_par (i := 4) (j := 5) rfl scDr.nd rfl rfl (by decide) rfl rfl (pa_cons (pe_lst pa_nil) (pa_cons (pv 2) pa_nil)) (by rfl))
      (pss_cons (ps_for PassesOwn.never rfl (pi_range1 rfl B.range (pa_cons (pv 3) pa_nil)) (pg_name (i := 6) scDr.nd rfl (Or.inl rfl)) (pss_cons (ps_setLc (i := 7) (own := [("_law_pair", 9)]) (g := gName 9) (tt := tOr (tTest (tOp rEq (tOp (rIxT K) (tOp (rIxT K) (tVar 9) (tC (.int 0))) (tC (.int 0))) (tC (.str "deed")))) (tTest (tOp rEq (tCall spRand [] E0 (tCons (tVar 0) (tCons (tC (.int 6)) tNil))) (tC (.int 0))))) (te := tVar 9) rfl scDr.nd rfl rfl (sw_true rfl rfl rfl rfl) (pi_list (pe_df DNx hr pass0 (pa_cons (pv 1) (pa_cons (pv 5) pa_nil)))) (blkOk_by (N := NDr) (sc := defScope sDr) (by decide +kernel)) (fun _ _ _ _ _ => (pg_name (i := 9) scDr.nd rfl (Or.inl rfl))) (fun _ _ _ _ _ => (pts_one (PW.pt (pw_or (pt_cmpR op_eq (pe_ix ix_tup (pe_ix ix_tup (pv 9) pe_int (fun _ _ => rfl)) pe_int (fun _ _ => rfl)) pe_str (nomark _)) (pw_or1 (pt_cmpR op_eq (pe_df DRn hr pass0 (pa_cons (pv 0) (pa_cons pe_int pa_nil))) pe_int (nomark _))))))) (fun _ _ _ _ _ => (pv 9)))
      (pss_one (ps_if (pt_cmpR (op_neD (un64 hr)) (pv 7) (pe_lst pa_nil) (nomark _)) (pss_cons (ps_asg (pe_ix ix_list (pv 7) (pe_df DRn hr pass0 (pa_cons (pv 0) (pa_cons (pe_callB call_len_seq (by rfl) B.len PySem.boot_len (pa_cons (pv 7) pa_nil)) pa_nil))) (fun _ _ => rfl)) (pg_tup rfl (pgs_cons (pg_name (i := 8) scDr.nd rfl (Or.inl rfl)) (pgs_cons (pg_name (i := 5) scDr.nd rfl (Or.inl rfl)) pgs_nil))))
      (pss_one (ps_expr (pe_bm PySem.F.plainAttrs_list PySem.F.slot_list_append PySem.F.type_list_append mt_append (pv 4) (pa_cons (pv 8) pa_nil))))) pss_nil))))
      (pss_one (ps_ret (pe_lst (pa_cons (pv 4) (pa_cons (pv 5) pa_nil))))))), ?_⟩
    have hB := dl_up (H := H) (g := g)
    have nB : dl H g g = none := dl_same
    have hl0 : ELN K (tLst tNil) (start NDr [.ref g, .ref p, v, .int 10]) H [] := eln_lst eda_nil (by simp)
    refine q_par (a_cons (hl0 H (Ex.refl H) _ fun rn H1 nrn e1 tl0 => ?_))
    obtain ⟨xs0, hrn, wrn⟩ := tl0
    refine ⟨_, rfl, _, _, rfl, ?_⟩
    cases wrn
    dsimp only
    have nrg : rn ≠ g := (ne_of_none hG nrn).symm
    have nBr : dl H g rn = none := by rw [dl_ne nrg]; exact nrn
    refine q_norm (σ' := [some (.ref g), some (.ref p), some v, some (.int 10), some (.ref rn), some v, none, none, none, none]) rfl ?_
    refine q_forR1 (n := 10) (ea_cons (ev_var rfl) ea_nil) (by omega) (fun i σ' H' => ∃ (hv : V) (s6 s7 s8 : Option V) (es : List Evn) (y : Str × List Int) (m : Int), σ' = [some (.ref g), some (.ref p), some v, some (.int 10), some (.ref rn), some hv, s6, s7, s8, none] ∧ Ex (dl H g) H' ∧ GenAt H' g m ∧ m ≤ n + 300010 * i ∧ RunW D x es y ∧ es.length ≤ i ∧ TL K (dl H' g) rn (es.map evD) ∧ Sw K (dl H' g) hv (stD y))
      (fun H2 e2 => ⟨v, _, _, _, [], x, n, rfl, hB.trans (e1.trans e2), ⟨G0, e2 _ _ (e1 _ _ hG), gl0⟩, by omega, .nil, Nat.le_refl _, ⟨[], by rw [dl_ne nrg]; exact e2 _ _ hrn, .nil⟩, Sw.ex (dl_ex (hB.trans (e1.trans e2)) nB) _ _ hv⟩) (fun i σ' Hs hi pv => ?_) (fun σ' H2 pv => ?_)
    · obtain ⟨hv', s6, s7, s8, es, y, m, rfl, Es, ⟨G1, hG1, gl1⟩, hm, rw_, el, ⟨rs, hrs, wrs⟩, wy⟩ := pv
      have oy := rw_.ok gd ox
      have Bs := dl_up (H := Hs) (g := g)
      have nBs : dl Hs g g = none := dl_same
      have Es' := dl_ex Es nB
      dsimp only
      refine q_norm (σ' := [some (.ref g), some (.ref p), some v, some (.int 10), some (.ref rn), some hv', some (.int (i : Int)), s7, s8, none]) rfl ?_
      refine q_asgX ?_
      refine ⟨_, rfl, _, rfl, p, hv', D, y.1, y.2, rfl, (hp.ex Es), Sw.ex Bs _ _ wy, oy.l, gd, oy.h, oy.c5, fun q H3 nq e3 ⟨ys, hys, wys⟩ => ⟨q, rfl, ⟨ys, SqL.of hys⟩, fun Dl hD => ?_⟩⟩
      have hG3 := e3 _ _ hG1
      have nqg : q ≠ g := (ne_of_none hG1 nq).symm
      have nDg : Dl ≠ g := (ne_of_none hG3 hD).symm
      have B3 := dl_up (H := H3) (g := g)
      have nB3 : dl H3 g g = none := dl_same
      have nBD : dl H3 g Dl = none := by rw [dl_ne nDg]; exact hD
      have Es3 : Ex (dl Hs g) (dl H3 g) := dl_ex (Bs.trans e3) nBs
      have noN : ∀ z ∈ nextP D y.1 y.2, notOther z := fun z mz => (List.mem_append.mp mz).elim dn_noO fall_noO
      have wys3 : SwAll K (dl H3 g) ys ((nextP D y.1 y.2).map Dnx.pairD) := swAll_no hG3 (fun b o nb hb => by rw [dl_ne nb]; exact hb) _ _ (noLs_all fun d md => by
        obtain ⟨z, mz, rfl⟩ := List.mem_map.mp md
        exact pair_noL z (noN z mz)) wys
      have hys3 : dl H3 g q = some (.lst ys) := by rw [dl_ne nqg]; exact hys
      have yl : ys.length = (nextP D y.1 y.2).length := by rw [swAll_len wys]; exact List.length_map ..
      have tot : (nextP D y.1 y.2).length ≤ 77764 := by
        have nl1 := dn_total gd oy.l oy.h oy.c5
        have nl2 := fallPart_len (D := D) (h := y.1) (c := y.2) D.ss.length
        have nl3 := gd.s.2
        unfold nextP
        rw [List.length_append]
        omega
      refine lc_it (walk_list (xs := ys)) (fun j H' => PvD K D y g Dl H3 (m + 3 * j) j H')
        ⟨B3.trans (Ex.new hD), ⟨G1, by rw [upd_ne nDg.symm]; exact hG3, gl1.mono (by omega)⟩, [], [], upd_same, .nil, (fun z mz => by simp at mz), Nat.le_refl _⟩ (fun j H' _ pv => SqL.of (pv.1 _ _ hys3)) (fun j z H4 H5 hj pv yy => ?_) fun H4 pv => ?_
      · obtain ⟨rfl, hz⟩ := yy
        obtain ⟨dd, hdd, wd3⟩ := swAll_get wys3 hz
        rw [List.getElem?_map] at hdd
        obtain ⟨nx, hnx, rfl⟩ := Option.map_eq_some_iff.mp hdd
        have mnx := List.mem_of_getElem? hnx
        have jl : j < 77764 := by omega
        obtain ⟨T, xs2, rfl, qT, wT⟩ := sw_tup wd3
        obtain ⟨v1, v2, rfl, u1, u2⟩ := sw_two wT
        have fin : ∀ (b : Bool) (H6 : Hp), PvD K D y g Dl H3 (m + 3 * ((j + 1 : Nat) : Int)) j H6 → (if b = true then (∃ yv, ([some (.ref g), some (.ref p), some v, some (.int 10), some (.ref rn), some hv', some (.int (i : Int)), s7, s8, some (.ref T)] : L2.St)[9]? = some (some yv) ∧ ∃ acc, H6 Dl = some (.lst acc) ∧ acc.length < sizeLine ∧ PvD K D y g Dl H3 (m + 3 * ((j + 1 : Nat) : Int)) (j + 1) (upd H6 Dl (.lst (acc ++ [yv])))) else PvD K D y g Dl H3 (m + 3 * ((j + 1 : Nat) : Int)) (j + 1) H6) := fun b H6 h6 => by
          cases b with
          | false => exact pv_mono (Int.le_refl _) (by omega) h6
          | true => exact ⟨_, rfl, pv_add nDg nBD h6 wd3 mnx jl⟩
        refine ⟨rfl, ?_⟩
        have kd : ∃ (te : Addr) (xs : List V) (kw : Str), v1 = .ref te ∧ SqT K (dl H3 g) te (.str kw :: xs) := by
          cases hq : nx.1 with
          | other d => exact absurd hq (noN nx mnx d)
          | fall s =>
            rw [hq] at u1
            obtain ⟨te, rfl, q⟩ := sw_fall u1
            exact ⟨te, _, _, rfl, q⟩
          | deed n o =>
            rw [hq] at u1
            obtain ⟨te, y2, rfl, q, _⟩ := sw_deed u1
            exact ⟨te, _, _, rfl, q⟩
        obtain ⟨te, xs, kw, rfl, qte⟩ := kd
        have e5 := pv.1
        have hk : Ev (tOp rEq (tOp (rIxT K) (tOp (rIxT K) (tVar 9) (tC (.int 0))) (tC (.int 0))) (tC (.str "deed"))) [some (.ref g), some (.ref p), some v, some (.int 10), some (.ref rn), some hv', some (.int (i : Int)), s7, s8, some (.ref T)] H5 (.bl (decide (kw = "deed"))) :=
          ev_is (ev_op (ev_op (ev_op (ev_var rfl) ev_c (rv_ixT (ex_t e5 qT) (atI_nat (j := 0) rfl))) ev_c (rv_ixT (ex_t e5 qte) (atI_nat (j := 0) rfl))) ev_c (rv_eq rfl)) (by rw [vstr_eq])
        refine et_test hk H5 (Ex.refl _) _ fun H6 e6 => ?_
        have pv6 := pv_ex e6 pv
        cases hb : decide (kw = "deed") with
        | true => exact fin true H6 (pv_mono (by omega) (Nat.le_refl _) pv6)
        | false =>
          have pv7 := pv6
          obtain ⟨_, ⟨G6, hG6, gl6⟩, _⟩ := pv7
          refine ⟨_, rfl, g, 6, _, G6, rfl, by decide, by decide, hG6, gl6, by omega, fun z G' z0 z1 gl' => ⟨rfl, _, rfl, ?_⟩⟩
          exact fin _ _ (pv_mono (by omega) (Nat.le_refl _) (pv_g nDg gl' pv6))
      · obtain ⟨e4, ⟨G4, hG4, gl4⟩, zs, L, hz4, wz4, mL, lL⟩ := pv
        rw [yl] at gl4 lL
        have shp1 := shp_pairs gd (l := L) fun z mz => ⟨next_small gd oy hS (mL z mz), (next_ok gd oy (mL z mz)).2.2.h⟩
        have shp0 : SeqAt.shaped (.list []) = true := by rfl
        have B4 := dl_up (H := H4) (g := g)
        have wl : Sw K H4 (.ref Dl) (.list (L.map Dnx.pairD)) := .lst (SqL.of hz4) (SwAll.ex B4 _ _ wz4)
        have Es4 : Ex (dl Hs g) H4 := Es3.trans e4
        have Eh4 : Ex (dl H g) H4 := Es'.trans Es4
        have gb : ∀ a : Int, a ≤ m + 3 * 77764 + 3 → a ≤ n + 300010 * ((i + 1 : Nat) : Int) := fun a ha => by omega
        refine q_norm (tz := tIfS _ _ _) (σ' := [some (.ref g), some (.ref p), some v, some (.int 10), some (.ref rn), some hv', some (.int (i : Int)), some (.ref Dl), s8, none]) rfl ?_
        refine s_when (b := !(L.map Dnx.pairD).isEmpty) (et_test fun H5 e5 Q5 q5 => ⟨_, rfl, by show 0 ≤ sizeLine; decide, fun pp npp => ⟨_, .list [], sw_dp _ _ (Sw.ex (e5.trans (Ex.new npp)) _ _ wl) (SeqAt.canLay_of_shaped shp1), .lst (SqL.of upd_same) .nil, shp1, shp0, by rw [eqv_nil]; exact q5 _ (Ex.new npp)⟩⟩) (fun hz H5 e5 => ?_) (fun hz H5 e5 => ?_)
        · have hz5 := e5 _ _ hz4
          have zl : zs.length = L.length := by rw [swAll_len wz4]; exact List.length_map ..
          have lp : 0 < L.length := by
            cases L with
            | nil => cases hz
            | cons _ _ => simp
          refine ⟨_, rfl, _, rfl, _, rfl, Dl, zs, rfl, .inl (SqL.of hz5), g, _, _, G4, rfl, by rw [zl]; omega, by rw [zl]; omega, e5 _ _ hG4, gl4, by omega, fun z G' z0 z1 gl' => ?_⟩
          rw [zl] at z1
          obtain ⟨j, rfl⟩ := Int.eq_ofNat_of_zero_le z0
          have jl : j < zs.length := by omega
          have E6 : Ex (dl H4 g) (upd H5 g (.lst G')) := (B4.trans e5).mut dl_same
          have hG6 : upd H5 g (.lst G') g = some (.lst G') := upd_same
          generalize upd H5 g (.lst G') = H6 at E6 hG6
          have hz6 : H6 Dl = some (.lst zs) := E6 _ _ (by rw [dl_ne nDg]; exact hz4)
          obtain ⟨dd, hdd, wd⟩ := swAll_get wz4 (List.getElem?_eq_getElem jl)
          rw [List.getElem?_map] at hdd
          obtain ⟨nx, hnx, rfl⟩ := Option.map_eq_some_iff.mp hdd
          have mnx := mL nx (List.mem_of_getElem? hnx)
          obtain ⟨T, xs2, hT, qT, wT⟩ := sw_tup wd
          obtain ⟨v1, v2, rfl, u1, u2⟩ := sw_two wT
          refine ⟨Dl, zs, _, _, rfl, rfl, SqL.of hz6, atI_nat (List.getElem?_eq_getElem jl), T, _, hT, ex_t E6 qT, rfl, _, _, rfl, _, _, rfl, rfl, ?_⟩
          have Es6 : Ex (dl Hs g) H6 := (dl_ex Es4 nBs).trans E6
          have hr6 := Es6 _ _ hrs
          refine s_app hr6 (ev_var rfl) (ev_var rfl) (by rw [swAll_len wrs, List.length_map]; omega) fun H7 e7 => ?_
          have Eh7 : Ex (dl H g) H7 := (Es'.trans Es6).trans e7
          have hr7 := e7 _ _ hr6
          have hG7 := e7 _ _ hG6
          have E47 : Ex (dl H4 g) (dl H7 g) := dl_ex (E6.trans e7) dl_same
          have hr7' : dl H7 g rn = some (.lst rs) := by rw [dl_ne nrg]; exact hr7
          have mvr : Mv rn (dl H7 g) (dl (upd H7 rn (.lst (rs ++ [v1]))) g) := fun b o nb hb => by
            by_cases q : b = g
            · rw [q, dl_same] at hb
              cases hb
            · rw [dl_ne q] at hb ⊢
              rw [upd_ne nb]
              exact hb
          have nev : noL (evD nx.1) = true := by
            have h1 := pair_noL nx (noN nx mnx)
            have h2 : (noL (evD nx.1) && (noL (stD nx.2) && true)) = true := h1
            rw [Bool.and_eq_true] at h2
            exact h2.1
          have nst : noL (stD nx.2) = true := by
            show (true && (noL (tupI nx.2.2) && true)) = true
            rw [show noL (tupI nx.2.2) = true from noL_ints _]
            rfl
          refine ⟨v2, _, _, _, es ++ [nx.1], nx.2, _, rfl, Eh7.mut nBr, ⟨G', by rw [upd_ne nrg.symm]; exact hG7, gl'⟩, gb _ (by omega), rw_.snoc mnx, by simp; omega, ⟨_, by rw [dl_ne nrg, upd_same], ?_⟩, sw_no hr7' mvr _ _ nst (Sw.ex E47 _ _ u2)⟩
          rw [List.map_append]
          refine swAll_app (swAll_no hr7' mvr _ _ (noLs_all fun d md => ?_) (SwAll.ex (dl_ex (Es6.trans e7) nBs) _ _ wrs)) (.cons (sw_no hr7' mvr _ _ nev (Sw.ex E47 _ _ u1)) .nil)
          obtain ⟨e, me, rfl⟩ := List.mem_map.mp md
          have se := rw_.small gd hS ox e me
          cases e with
          | other _ => cases se
          | fall s => rfl
          | deed k o =>
            cases o with
            | none => rfl
            | some hs =>
              show (true && (true && (noL (tupI hs) && true))) = true
              rw [show noL (tupI hs) = true from noL_ints _]
              rfl
        · have E5 := Es4.trans e5
          exact ⟨hv', _, _, _, es, y, _, rfl, Eh4.trans e5, ⟨G4, e5 _ _ hG4, gl4⟩, gb _ (by omega), rw_, by omega, ⟨rs, (dl_ex E5 nBs) _ _ hrs, SwAll.ex (dl_ex E5 nBs) _ _ wrs⟩, Sw.ex (dl_ex E5 nBs) _ _ wy⟩
    · obtain ⟨hv', s6, s7, s8, es, y, m, rfl, Es, ⟨G1, hG1, gl1⟩, hm, rw_, el, ⟨rs, hrs, wrs⟩, wy⟩ := pv
      refine ⟨_, rfl, _, rfl, by show 2 ≤ sizeLine; decide, fun q nq => ?_⟩
      have nqg : q ≠ g := (ne_of_none hG1 nq).symm
      have eq := Ex.new (o := .lst [.ref rn, hv']) nq
      exact k q rn hv' _ es y (dl_mv (Es.trans eq)) ⟨G1, eq _ _ hG1, gl1.mono (by simp at hm; omega)⟩ rw_ (by simpa using el) upd_same nqg ⟨rs, (dl_ex (dl_up.trans eq) dl_same) _ _ hrs, SwAll.ex (dl_ex (dl_up.trans eq) dl_same) _ _ wrs⟩
end
end Drn

/-! ### runs drawn: walked, led, and their sums -/
namespace Prw
open PySem PySem.Spec PyProof.Rows L2 Evl Gen Ent Rep Dat Nm Er Chk Gu Deed Pts Hear Lst Bk Cau EvD BadE EntR Lis Prd NmR Bmk EqB God Oth LwP Inf Stp Stq RZ Wth Sta Aft Af2 Ini Rna Led Noc Cho Beh Dnx Nxt Nxp Inj Wlk Lot Drn
def isFall : Evn → Bool
  | .fall _ => true
  | _ => false
def fallsOf (es : List Evn) : Int := ((es.filter isFall).length : Nat)
section
variable {D : PartsD} {x y : Str × List Int} {es : List Evn}
theorem next_sum {h : Str} {c : List Int} (g : GoD D) (k : StOk D (h, c)) {z : Evn × (Str × List Int)} (m : z ∈ nextP D h c) : z.2.2.sum = c.sum - if isFall z.1 = true then 1 else 0 := by
  have cl : c.length = D.ss.length := k.l
  have hh : h ∈ D.hs := k.h
  rcases List.mem_append.mp m with m | m
  · obtain ⟨n, e, hs, he, hc, mh, rfl⟩ := dn_mem m
    have me := List.mem_of_getElem? he
    have ib := (g.od e me).2
    have bd := could_bd (h := h) cl k.c5 hc (fun z q => g.ap _ q (by rw [← z]; exact hh)) g.dst
    have okh := heards_ok g cl me hc bd mh
    have hsum := heard_sum okh D.ss.length c (Nat.le_refl _) cl
    have ml : (heardAll D e.2.1 hs D.ss.length c).length = D.ss.length := by rw [heardAll_len, cl]
    show (lawB D h c e hs).2.sum = c.sum - 0
    unfold lawB
    by_cases hm' : e.1 ∈ D.hs
    · rw [if_pos hm']
      show (heardAll D e.2.1 hs D.ss.length c).sum = _
      rw [hsum]
      omega
    · rw [if_neg hm', heardAll_add]
      obtain ⟨p1, p2⟩ := pos_at hm' ib
      show (addAt (addAt _ _ _) _ _).sum = _
      rw [sum_add (by rw [addAt_len, ml]; exact (pos_lt p2).1), sum_add (by rw [ml]; exact (pos_lt p1).1), hsum]
      omega
  · obtain ⟨n, hn, hp, rfl⟩ := fall_mem m
    show (c.set n (c.getD n 0 + -1)).sum = c.sum - 1
    have := sum_add (c := c) (i := n) (y := -1) (by omega)
    unfold addAt at this
    rw [this]
    omega
theorem runw_take (r : RunW D x es y) : ∀ k, ∃ y', RunW D x (es.take k) y' := by
  induction r with
  | nil => exact fun k => ⟨x, by rw [List.take_nil]; exact .nil⟩
  | @snoc es y z r m ih =>
    intro k
    by_cases c : k ≤ es.length
    · rw [List.take_append_of_le_length c]
      exact ih k
    · rw [List.take_of_length_le (by rw [List.length_append]; show es.length + 1 ≤ k; omega)]
      exact ⟨_, r.snoc m⟩
theorem step1_eq (g : GoD D) (hS : ∀ s ∈ D.ss, s ∈ allS) (k : StOk D y) {z : Evn × (Str × List Int)} (m : z ∈ nextP D y.1 y.2) : step1 D y z.1 = some z.2 := by
  unfold step1
  cases hf : (nextP D y.1 y.2).filter (same z.1) with
  | nil =>
    have : z ∈ (nextP D y.1 y.2).filter (same z.1) := List.mem_filter.mpr ⟨m, decide_eq_true rfl⟩
    rw [hf] at this
    cases this
  | cons n l =>
    have mn := List.mem_filter.mp (by rw [hf]; exact List.mem_cons_self .. : n ∈ (nextP D y.1 y.2).filter (same z.1))
    have e := ev_inj (next_small g k hS mn.1) (next_small g k hS m) (of_decide_eq_true mn.2)
    show some n.2 = some z.2
    rw [(next_ok g k mn.1).2.1, (next_ok g k m).2.1, e]
theorem runw_walk (g : GoD D) (hS : ∀ s ∈ D.ss, s ∈ allS) (k : StOk D x) (r : RunW D x es y) : walkP D x es = some y := by
  induction r with
  | nil => rfl
  | @snoc es y z r m ih =>
    rw [walk_snoc, ih]
    exact step1_eq g hS (r.ok g k) m
theorem runw_run (g : GoD D) (k : StOk D x) (r : RunW D x es y) : runE D x es = some y := by
  induction r with
  | nil => rfl
  | @snoc es y z r m ih =>
    rw [runE_snoc, ih]
    have h := next_ok g (r.ok g k) m
    show (if allowsE D y.1 y.2 z.1 = true then some (afterE D y.1 y.2 z.1) else none) = some z.2
    rw [if_pos h.1, h.2.1]
theorem runw_sum (g : GoD D) (k : StOk D x) (r : RunW D x es y) : y.2.sum = x.2.sum - fallsOf es := by
  induction r with
  | nil => simp [fallsOf]
  | @snoc es y z r m ih =>
    rw [next_sum g (r.ok g k) m, ih]
    unfold fallsOf
    rw [List.filter_append, List.length_append]
    cases q : isFall z.1 <;> simp [q] <;> omega
theorem small_ok {e : Evn} (h : Small e) : EvOk e := by
  cases e with
  | other d => cases h
  | fall s => trivial
  | deed n o => trivial
end
end Prw

/-! ### _law_right -/
namespace Rig
open PySem PySem.Spec PyProof.Rows L2 Evl Gen Ent Rep Dat Nm Er Chk Gu Deed Pts Hear Lst Bk Cau EvD BadE EntR Lis Prd NmR Bmk EqB God Oth LwP Inf Stp Stq RZ Wth Sta Aft Af2 Ini Rna Led Noc Cho Beh Dnx Nxt Nxp Inj Wlk Lot Drn Prw
theorem lot_ok {D : PartsD} {x : Str × List Int} (k : StOk D x) : isLot D (lotD x.1 x.2) = true := by
  show (decide (x.1 ∈ D.hs) && (decide ((x.2.map PyData.int).length = D.ss.length) && (x.2.map PyData.int).all whNN)) = true
  rw [decide_eq_true k.h, List.length_map, decide_eq_true k.l, Bool.true_and, Bool.true_and, List.all_eq_true]
  intro d md
  obtain ⟨n, mn, rfl⟩ := List.mem_map.mp md
  exact decide_eq_true (k.p n mn)
theorem lot_nice {D : PartsD} {x : Str × List Int} (g : GoD D) (k : StOk D x) : Nice 432 2 (lotD x.1 x.2) := by
  have h4 := g.s.2
  have hl := k.l
  refine (Nice.tup (w := 210) (dp := 1) (n := 2) (fun d m => ?_) (by simp)).mono (by decide) (by decide)
  simp only [List.mem_cons, List.not_mem_nil, or_false] at m
  rcases m with rfl | rfl
  · exact (nice_str (g.nh _ k.h)).mono (by decide) (by decide)
  · exact Nice.lst (w := 20) (dp := 0) (n := 10) (fun d m => by
      obtain ⟨n, mn, rfl⟩ := List.mem_map.mp m
      obtain ⟨i, rfl⟩ := Int.eq_ofNat_of_zero_le (k.p n mn)
      exact nice_fig i (by have := (k.c5 _ mn).2; omega)) (by rw [List.length_map]; omega)
theorem lot_shp {D : PartsD} {x : Str × List Int} (g : GoD D) (k : StOk D x) : SeqAt.shaped (lotD x.1 x.2) = true := by
  have ci : ∀ c : List Int, PyData.canLayAll0 (c.map .int) = true ∧ PyData.depthAll (c.map .int) ≤ 0 := fun c => by
    induction c with
    | nil => exact ⟨rfl, by simp [PyData.depthAll]⟩
    | cons n c ih => exact ⟨by simp [PyData.canLay0, PyData.canLayAll0, ih.1], by simp only [List.map_cons, PyData.depth, PyData.depthAll]; omega⟩
  have o := nm_ok (g.nh _ k.h)
  have c := ci x.2
  unfold SeqAt.shaped
  rw [Bool.and_eq_true]
  exact ⟨by simp [lotD, PyData.canLay0, PyData.canLayAll0, o, c.1], decide_eq_true (by simp only [lotD, PyData.depth, PyData.depthAll]; omega)⟩
theorem ed_lot {K : PySem.W.Frag} {σ : L2.St} {H : Hp} {v : V} {x : Str × List Int} {i : Nat} (hi : σ[i]? = some (some v)) (w : Sw K H v (stD x)) : ED K (tTup (tCons (tOp (rIxT K) (tVar i) (tC (.int 0))) (tCons (tCB (fun xs H Q => ∃ p ys, xs = [.ref p] ∧ ((SqL K H p ys ∨ SqT K H p ys) ∧ ∀ l, H l = none → Q (.ref l) (upd H l (.lst ys)))) (tCons (tOp (rIxT K) (tVar i) (tC (.int 1))) tNil)) tNil))) σ H (lotD x.1 x.2) := by
  obtain ⟨s, ct, rfl, q1, q2⟩ := sw_st w
  refine ed_tup (eda_cons (fun H1 e Q q => ?_) (eda_cons (fun H1 e Q q => ?_) eda_nil)) (by simp)
  · exact ev_op (ev_var hi) ev_c (rv_ixT (ex_t e q1) (atI_nat (j := 0) rfl)) H1 (Ex.refl _) _ fun H2 e2 => q _ H2 e2 (.str _)
  · exact el_listT (ev_op (ev_var hi) ev_c (rv_ixT (ex_t e q1) (atI_nat (j := 1) rfl))) (ex_t e q2) H1 (Ex.refl _) _ fun p H2 _ e2 hp => q _ H2 e2 (.lst (SqL.of hp) (sw_ints _))
theorem ev_reprD {K : PySem.W.Frag} {σ : L2.St} {H : Hp} {te : TE} {d : PyData} (h : ED K te σ H d) (s : Shw d) : Ev (tCB (rRepr K) (tCons te tNil)) σ H (.str d.shown) := fun H1 e Q q => h H1 e _ fun v H2 e2 w => ⟨v, d, rfl, w, s.1, s.2.1, s.2.2, q H2 e2⟩
theorem ed_listT {K : PySem.W.Frag} {σ : L2.St} {H : Hp} {ta : TE} {p : Addr} {c : List Int} (ha : Ev ta σ H (.ref p)) (h : SqT K H p (VInt c)) : ED K (tCB (fun xs H Q => ∃ p ys, xs = [.ref p] ∧ ((SqL K H p ys ∨ SqT K H p ys) ∧ ∀ l, H l = none → Q (.ref l) (upd H l (.lst ys)))) (tCons ta tNil)) σ H (.list (c.map .int)) := fun H1 e Q q =>
  el_listT ha h H1 e _ fun p H2 _ e2 hp => q _ H2 e2 (.lst (SqL.of hp) (sw_ints _))
def spRi (K : PySem.W.Frag) (CB : Addr) : Sp := fun vs H Q _ => ∃ (bk p rl : Addr) (v : V) (D : PartsD) (x y : Str × List Int) (es : List Evn), vs = [.ref bk, .ref p, v, .ref rl] ∧ BkP K H CB bk D ∧ PtS K H p D ∧ GoD D ∧ (∀ s ∈ D.ss, s ∈ allS) ∧ StOk D x ∧ Sw K H v (stD x) ∧ TL K H rl (es.map evD) ∧ RunW D x es y ∧ es.length ≤ 10 ∧ ∀ H', Ex H H' → Q (.bl true) H'
abbrev sRi : Stmt := top 45
abbrev NRi : List Str := ["_law_book_here", "_law_parts_here", "_law_state", "_law_run", "_law_lot", "_law_size", "_law_house", "_law_counts", "_law_falls", "_law_turn", "_law_told", "_law_event"]
theorem scRi : FnScope NRi ["_law_book_here", "_law_parts_here", "_law_state", "_law_run"] (defScope sRi) := ⟨rfl, rfl, rfl, by decide +kernel, rfl, by decide +kernel, by decide +kernel⟩
section
variable {P : Program} {w : World} {K : PySem.W.Frag} {mg : Str → Option Value} {base : Heap}
set_option maxHeartbeats 4000000 in
theorem ok_ri {f CB CI CL CR : Addr} {fd : FuncData} (F : Fun K "_law_right" "_law_right" sRi f fd) (B : Bv mg) (DWa : DfG P w K mg base 4 "_law_walked" ["_law_parts_here", "_law_state", "_law_run"] (spWa K)) (DLd : Df P w K mg base (CX P w) 6 "led" ["book", "lot", "run"] (spLd K CB CI CL CR)) : FnG P w K mg base 8 f fd ["_law_book_here", "_law_parts_here", "_law_state", "_law_run"] (spRi K CB) := by
  refine fun_okG F scRi (fun vs H Q E h => ?_) (fun cdv A outer s H vs Q E gd hr h => ?_)
  · obtain ⟨_, _, _, _, _, _, _, _, rfl, _⟩ := h
    rfl
  · obtain ⟨bk, p, rl, v, D, x, y, es, rfl, hb, hp, g, hS, ox, hv, hrl, hrw, l10, k⟩ := h
    refine ⟨_, (pss_cons (ps_set (i := 4) scRi.nd rfl (Or.inl rfl) (pe_tup (pa_cons (pe_ix ix_tup (pv 2) pe_int (fun _ _ => rfl)) (pa_cons (pe_callTy call_list_of (by rfl) B.list (by decide +kernel) (pa_cons (pe_ix ix_tup (pv 2) pe_int (fun _ _ => rfl)) pa_nil)) pa_nil))))
      (pss_cons (ps_for PassesOwn.never rfl (pi_range1 rfl B.range (pa_cons (pe_op op_add (pe_callB call_len_seq (by rfl) B.len PySem.boot_len (pa_cons (pv 3) pa_nil)) pe_int) pa_nil)) (pg_name (i := 5) scRi.nd rfl (Or.inl rfl)) (pss_cons (ps_asg (pe_dfG DWa gd hr (pa_cons (pv 1) (pa_cons (pv 2) (pa_cons (pe_slice sl_list (pv 3) po_none (po_some (pv 5))) pa_nil)))) (pg_tup rfl (pgs_cons (pg_name (i := 6) scRi.nd rfl (Or.inl rfl)) (pgs_cons (pg_name (i := 7) scRi.nd rfl (Or.inl rfl)) pgs_nil))))
      (pss_cons (ps_set (i := 8) scRi.nd rfl (Or.inl rfl) (pe_callB call_len_seq (by rfl) B.len PySem.boot_len (pa_cons (pe_lc (own := [("_law_event", 11)]) (g := gName 11) (tt := tTest (tOp rEq (tOp (rIxT K) (tVar 11) (tC (.int 0))) (tC (.str "fall")))) (te := tVar 11) rfl scRi.nd (pi_list (pe_slice sl_list (pv 3) po_none (po_some (pv 5)))) (blkOk_by (N := NRi) (sc := defScope sRi) (by decide +kernel)) (fun _ _ _ _ _ => (pg_name (i := 11) scRi.nd rfl (Or.inl rfl))) (fun _ _ _ _ _ => (pts_one (pt_cmpR op_eq (pe_ix ix_tup (pv 11) pe_int (fun _ _ => rfl)) pe_str (nomark _)))) (fun _ _ _ _ _ => (pv 11))) pa_nil)))
      (pss_cons (ps_for PassesOwn.never rfl (pi_range1 rfl B.range (pa_cons pe_int pa_nil)) (pg_name (i := 9) scRi.nd rfl (Or.inl rfl)) (pss_cons (ps_set (i := 10) scRi.nd rfl (Or.inl rfl) (pe_df DLd hr passF (pa_cons (pv 0) (pa_cons (pv 4) (pa_cons (pe_slice sl_list (pv 3) po_none (po_some (pv 5))) pa_nil)))))
      (pss_cons (ps_if (PW.pt (pw_or (pt_cmpR op_ne (pe_callB (id := "repr") (r := rRepr K) (call_repr gd (un64 hr)) (by rfl) B.repr (by decide +kernel) (pa_cons (pv 10) pa_nil)) (pe_callB (id := "repr") (r := rRepr K) (call_repr gd (un64 hr)) (by rfl) B.repr (by decide +kernel) (pa_cons (pe_tup (pa_cons (pv 6) (pa_cons (pe_callTy call_list_of (by rfl) B.list (by decide +kernel) (pa_cons (pv 7) pa_nil)) pa_nil))) pa_nil)) (nomark _)) (pw_or1 (pt_cmpR op_ne (pe_callB (cr_sumU rfl) (by rfl) B.sum (by decide +kernel) (pa_cons (pe_ix ix_tup (pv 10) pe_int (fun _ _ => rfl)) pa_nil)) (pe_op op_sub (pe_callB (cr_sumU rfl) (by rfl) B.sum (by decide +kernel) (pa_cons (pe_ix ix_tup (pv 2) pe_int (fun _ _ => rfl)) pa_nil)) (pv 8)) (nomark _))))) (pss_one (ps_ret pe_bl)) pss_nil)
      (pss_one (ps_expr (pe_bm PySem.F.plainAttrs_list PySem.F.slot_list_append PySem.F.type_list_append mt_append (pe_ix ix_tup (pv 10) pe_int (fun _ _ => rfl)) (pa_cons pe_non pa_nil)))))))
      (pss_one (ps_if (pt_cmpR (op_neD (un64 hr)) (pv 4) (pe_tup (pa_cons (pe_ix ix_tup (pv 2) pe_int (fun _ _ => rfl)) (pa_cons (pe_callTy call_list_of (by rfl) B.list (by decide +kernel) (pa_cons (pe_ix ix_tup (pv 2) pe_int (fun _ _ => rfl)) pa_nil)) pa_nil))) (nomark _)) (pss_one (ps_ret pe_bl)) pss_nil))))))
      (pss_one (ps_ret pe_bl)))), ?_⟩
    refine Noc.q_asgD (K := K) (ed_lot rfl hv) fun lv H1 e1 wl => ?_
    refine q_norm (σ' := [some (.ref bk), some (.ref p), some v, some (.ref rl), some lv, none, none, none, none, none, none, none]) rfl ?_
    obtain ⟨rs, hrs, wrs⟩ := hrl
    have rsl : rs.length = es.length := by rw [swAll_len wrs]; exact List.length_map ..
    have hb1 := BookD.ex e1 hb
    refine q_forR1 (n := (es.length : Int) + 1) (ea_cons (ev_is (ev_op (ev_len (ev_var rfl) (SqL.of (e1 _ _ hrs))) ev_c rv_I0) (by rw [rsl])) ea_nil) (by omega)
      (fun i σ' H' => (∃ s5 s6 s7 s8 s9 s10 s11, σ' = [some (.ref bk), some (.ref p), some v, some (.ref rl), some lv, s5, s6, s7, s8, s9, s10, s11]) ∧ Ex H1 H') (fun H2 e2 => ⟨⟨_, _, _, _, _, _, _, rfl⟩, e2⟩) (fun i σ' H2 hi pv => ?_) (fun σ' H2 pv => ?_)
    · obtain ⟨⟨s5, s6, s7, s8, s9, s10, s11, rfl⟩, e2⟩ := pv
      obtain ⟨z, rz⟩ := runw_take hrw i
      have oz := rz.ok g ox
      have hw := runw_walk g hS ox rz
      have hrun := runw_run g ox rz
      have hsum := runw_sum g ox rz
      have sml := rz.small g hS ox
      have E2 := e1.trans e2
      have tl : ∀ G, Ex H G → TL K G rl (es.map evD) := fun G a => ⟨rs, a _ _ hrs, SwAll.ex a _ _ wrs⟩
      have hsl : ∀ G, Ex H G → ∀ σ : L2.St, σ[3]? = some (some (.ref rl)) → σ[5]? = some (some (.int (i : Int))) → EL K (L2.tSl (rSlL K) (tVar 3) tNoPart (tPart (tVar 5))) σ G ((es.take i).map evD) := fun G a σ h3 h5 => by
        have := el_sl (K := K) (n := i) (th := tPart (tVar 5)) (el_var h3 (tl G a)) fun H3 e3 Q3 q3 => ⟨_, h5, _, rfl, q3 H3 (Ex.refl _)⟩
        rw [← List.map_take] at this
        exact this
      dsimp only
      refine q_norm (σ' := [some (.ref bk), some (.ref p), some v, some (.ref rl), some lv, some (.int (i : Int)), s6, s7, s8, s9, s10, s11]) rfl ?_
      refine ⟨_, rfl, _, rfl, hsl H2 E2 _ rfl rfl H2 (Ex.refl _) _ fun sp H3 e3 tsl => ?_⟩
      refine ⟨p, v, .ref sp, D, x, es.take i, rfl, hp.ex (E2.trans e3), g, hS, ox, Sw.ex (E2.trans e3) _ _ hv, tsl.sw, fun e me => (small_nice (sml e me)).shw (by decide) (by decide), fun hn => (by rw [hw] at hn; cases hn), fun z' hz v' H4 e4 wz => ?_⟩
      rw [hw] at hz
      obtain rfl := Option.some.inj hz
      obtain ⟨zs, zc, rfl, qz1, qz2⟩ := sw_st wz
      refine ⟨zs, _, rfl, qz1, rfl, _, _, rfl, _, _, rfl, rfl, ?_⟩
      dsimp only
      refine q_norm (σ' := [some (.ref bk), some (.ref p), some v, some (.ref rl), some lv, some (.int (i : Int)), some (.str z.1), some (.ref zc), s8, s9, s10, s11]) rfl ?_
      have E4 := (e2.trans e3).trans e4
      have EH4 := e1.trans E4
      refine q_asgX ?_
      refine hsl H4 EH4 _ rfl rfl H4 (Ex.refl _) _ fun sq H5 e5 ⟨ys, hys, wys⟩ => ⟨sq, rfl, ⟨ys, SqL.of hys⟩, fun Dl hD => lc_it (walk_list (xs := ys)) (fun j H' => Ex H5 H' ∧ ∃ zs, H' Dl = some (.lst zs) ∧ zs.length = (((es.take i).take j).filter isFall).length) ⟨Ex.new hD, [], upd_same, rfl⟩ (fun j H' _ pv => SqL.of (pv.1 _ _ hys)) (fun j u H6 H7 hj pv yy => ?_) fun H6 pv => ?_⟩
      · obtain ⟨e6, zs', hD6, lz⟩ := pv
        obtain ⟨rfl, hu⟩ := yy
        obtain ⟨dd, hdd, wd⟩ := swAll_get (SwAll.ex e6 _ _ wys) hu
        rw [List.getElem?_map] at hdd
        obtain ⟨e, he, rfl⟩ := Option.map_eq_some_iff.mp hdd
        have se := sml e (List.mem_of_getElem? he)
        have kd : ∃ (te : Addr) (xs : List V) (kw : Str), u = .ref te ∧ SqT K H7 te (.str kw :: xs) ∧ decide (kw = "fall") = isFall e := by
          cases e with
          | other d => cases se
          | fall s =>
            obtain ⟨te, rfl, q⟩ := sw_fall wd
            exact ⟨te, _, _, rfl, q, decide_eq_true rfl⟩
          | deed n o =>
            obtain ⟨te, y2, rfl, q, _⟩ := sw_deed wd
            exact ⟨te, _, _, rfl, q, (by decide +kernel : decide (("deed" : Str) = "fall") = false)⟩
        obtain ⟨te, xs, kw, rfl, qte, ek⟩ := kd
        refine ⟨rfl, ?_⟩
        have hk : Ev (tOp rEq (tOp (rIxT K) (tVar 11) (tC (.int 0))) (tC (.str "fall"))) [some (.ref bk), some (.ref p), some v, some (.ref rl), some lv, some (.int (i : Int)), some (.str z.1), some (.ref zc), s8, s9, s10, some (.ref te)] H7 (.bl (isFall e)) :=
          ev_is (ev_op (ev_op (ev_var rfl) ev_c (rv_ixT qte (atI_nat (j := 0) rfl))) ev_c (rv_eq rfl)) (by rw [vstr_eq, ek])
        refine et_test hk H7 (Ex.refl _) _ fun H8 e8 => ?_
        have tk : ((es.take i).take (j + 1)).filter isFall = ((es.take i).take j).filter isFall ++ if isFall e = true then [e] else [] := by
          rw [List.take_succ, he, List.filter_append]
          congr 1
          cases q : isFall e <;> simp [q]
        have lt1 : (((es.take i).take j).filter isFall).length ≤ 10 := Nat.le_trans (List.length_filter_le _ _) (by simp only [List.length_take]; omega)
        cases q : isFall e with
        | false =>
          rw [if_neg (by decide)]
          refine ⟨e6.trans e8, zs', e8 _ _ hD6, ?_⟩
          rw [tk, q, lz]
          simp
        | true =>
          rw [if_pos rfl]
          refine ⟨_, rfl, zs', e8 _ _ hD6, sz_lt (by rw [lz]; omega), (e6.trans e8).mut hD, _, upd_same, ?_⟩
          rw [tk, q, List.length_append, List.length_append, lz]
          simp
      · obtain ⟨e6, zs', hD6, lz⟩ := pv
        have yl : ys.length = (es.take i).length := by rw [swAll_len wys]; exact List.length_map ..
        rw [yl, List.take_length] at lz
        refine ⟨Dl, zs', rfl, .inl (SqL.of hD6), ?_⟩
        have E6 := (E4.trans e5).trans e6
        have fz : (zs'.length : Int) = fallsOf (es.take i) := by
          unfold fallsOf
          rw [lz]
        rw [fz]
        dsimp only
        refine q_norm (σ' := [some (.ref bk), some (.ref p), some v, some (.ref rl), some lv, some (.int (i : Int)), some (.str z.1), some (.ref zc), some (.int (fallsOf (es.take i))), s9, s10, s11]) rfl ?_
        have qzc : ∀ G, Ex H4 G → SqT K G zc (VInt z.2) := fun G a => ex_t a qz2
        refine q_forR1 (n := 2) (ea_cons ev_c ea_nil) (by omega) (fun j σ' H' => (∃ s9 s10, σ' = [some (.ref bk), some (.ref p), some v, some (.ref rl), some lv, some (.int (i : Int)), some (.str z.1), some (.ref zc), some (.int (fallsOf (es.take i))), s9, s10, s11]) ∧ Ex H4 H') (fun H7 e7 => ⟨⟨_, _, rfl⟩, (e5.trans e6).trans e7⟩) (fun j σ' H7 hj pv => ?_) (fun σ' H7 pv => ?_)
        · obtain ⟨⟨s9, s10, rfl⟩, e7⟩ := pv
          have E7 := EH4.trans e7
          refine q_norm (σ' := [some (.ref bk), some (.ref p), some v, some (.ref rl), some lv, some (.int (i : Int)), some (.str z.1), some (.ref zc), some (.int (fallsOf (es.take i))), some (.int (j : Int)), s10, s11]) rfl ?_
          refine q_asgX ?_
          refine ⟨_, rfl, _, rfl, hsl H7 E7 _ rfl rfl H7 (Ex.refl _) _ fun sr H8 e8 tsr => ?_⟩
          have E8 := E7.trans e8
          refine ⟨.ref bk, lv, .ref sr, rfl, .inr ⟨bk, D, lotD x.1 x.2, rfl, BookD.ex E8 hb, g, Sw.ex ((E4.trans e7).trans e8) _ _ wl, fun hf => (by rw [lot_ok ox] at hf; cases hf), fun _ => ⟨x.1, x.2, rfl, .inr ⟨es.take i, tsr.sw, fun e me => small_ok (sml e me), fun hn => (by rw [show runE D (x.1, x.2) (es.take i) = some z from hrun] at hn; cases hn), fun z' hz t H9 nt e9 lt => ?_⟩⟩⟩⟩
          rw [show runE D (x.1, x.2) (es.take i) = some z from hrun] at hz
          obtain rfl := Option.some.inj hz
          obtain ⟨cl, ht, hcl, ncl⟩ := lt
          have E9 := E8.trans e9
          have e49 := (e7.trans e8).trans e9
          refine q_norm (σ' := [some (.ref bk), some (.ref p), some v, some (.ref rl), some lv, some (.int (i : Int)), some (.str z.1), some (.ref zc), some (.int (fallsOf (es.take i))), some (.int (j : Int)), some (.ref t), s11]) rfl ?_
          have wt : Sw K H9 (.ref t) (lotD z.1 z.2) := .tup (SqT.of ht) (.cons (.str _) (.cons (.lst (SqL.of hcl) (sw_ints _)) .nil))
          have shz := (lot_nice g oz).shw (by decide) (by decide)
          obtain ⟨sst, sct, rfl, q1, q2⟩ := sw_st hv
          refine q_when (b := false) (et_is (et_or (a := false) (b := false) (et_test (ev_is (ev_op (ev_reprD (ed_var rfl wt) shz) (ev_reprD (ed_tup (ds := [.str z.1, .list (z.2.map .int)]) (eda_cons (ed_var rfl (.str _)) (eda_cons (ed_listT (ev_var rfl) (qzc _ e49)) eda_nil)) (by simp)) shz) (rv_ne rfl)) (by simp [lotD]))) fun _ => et_test (ev_is (ev_op (ev_cb (vs := [.ref cl]) (ea_cons (ev_op (ev_var rfl) ev_c (rv_ixT (SqT.of ht) (atI_nat (j := 1) rfl))) ea_nil) fun HA eA Q2 q2' => .inl ⟨cl, z.2, rfl, SqL.of (eA _ _ hcl), q2' HA (Ex.refl _)⟩) (ev_op (ev_cb (vs := [.ref sct]) (ea_cons (ev_op (ev_var rfl) ev_c (rv_ixT (ex_t E9 q1) (atI_nat (j := 1) rfl))) ea_nil) fun HA eA Q2 q2' => .inr ⟨sct, x.2, rfl, ex_t (E9.trans eA) q2, q2' HA (Ex.refl _)⟩) (ev_var rfl) rv_I0) (rv_ne rfl)) (by rw [hsum]; simp))) rfl) (fun z => nomatch z) (fun _ HA eA => ?_)
          refine s_app (eA _ _ hcl) (ev_op (ev_var rfl) ev_c (rv_ixT (SqT.of (eA _ _ ht)) (atI_nat (j := 1) rfl))) ev_c (by rw [List.length_map, oz.l]; have := g.s.2; omega) fun HB eB => ⟨⟨_, _, rfl⟩, ((e49.trans eA).trans eB).mut (fresh_back (e7.trans e8) ncl)⟩
        · obtain ⟨⟨s9, s10, rfl⟩, e7⟩ := pv
          have E7 := EH4.trans e7
          have shl := lot_shp g ox
          refine s_when (b := false) (et_test fun H8 e8 Q8 q8 => ⟨_, rfl, ed_lot rfl hv H8 (E7.trans e8) _ fun v2 H9 e9 w9 => ⟨lotD x.1 x.2, lotD x.1 x.2, sw_dp _ _ (Sw.ex (((E4.trans e7).trans e8).trans e9) _ _ wl) (SeqAt.canLay_of_shaped shl), sw_dp _ _ w9 (SeqAt.canLay_of_shaped shl), shl, shl, by rw [SeqAt.eqv_refl _ (SeqAt.canLay_of_shaped shl)]; exact q8 H9 e9⟩⟩) (fun z => nomatch z) (fun _ H8 e8 => ⟨⟨_, _, _, _, _, _, _, rfl⟩, (E4.trans e7).trans e8⟩)
    · obtain ⟨⟨s5, s6, s7, s8, s9, s10, s11, rfl⟩, e2⟩ := pv
      exact s_ret ev_c fun H3 e3 => k H3 ((e1.trans e2).trans e3)
end
end Rig

/-! ### _law_caught -/
namespace Cak
open PySem PySem.Spec PyProof.Rows L2 Evl Gen ExV Ent Rep Dat Nm Er Chk Gu Deed Pts Hear Lst Bk TryK KEr MkS Cau EvD BadE EntR Lis Prd NmR Bmk EqB God Oth LwP Inf Stp Stq RZ Wth Sta Aft Af2 Ini Rna Led Noc Cho Beh Dnx Nxt Nxp Inj Wlk Lot Drn Prw Rig
/-- isinstance of a caught error or of data -/
def rKU (K : PySem.W.Frag) : List V → Hp → VK → Prop := fun xs H Q => rKIs K xs H Q ∨ rIsi K xs H Q
theorem call_kU {X : Cx} : CallR X (.builtin "isinstance") (rKU X.K) := by
  intro pins s σ H xs us Q I r h
  rcases h with h | h
  · exact call_kIs pins s σ H xs us Q I r h
  · exact call_isi pins s σ H xs us Q I r h
structure ErK3 (K : PySem.W.Frag) (mg : Str → Option Value) (C0 CB1 CL CR : Addr) : Prop where
  g0 : mg "HushError" = some (.ref C0)
  gB : mg "InvalidBook" = some (.ref CB1)
  gL : mg "InvalidLot" = some (.ref CL)
  gR : mg "InvalidRun" = some (.ref CR)
  e1 : PySem.W.exmOne K (.ref CB1) (.ref C0) = some true
  e2 : PySem.W.exmOne K (.ref CL) (.ref C0) = some true
  e3 : PySem.W.exmOne K (.ref CR) (.ref C0) = some true
  i1 : IsC K CB1
  i2 : IsC K CL
  i3 : IsC K CR
  n1 : PySem.W.findIn K (.ref CB1) "value" = some none
  n2 : PySem.W.findIn K (.ref CL) "value" = some none
  n3 : PySem.W.findIn K (.ref CR) "value" = some none
  k11 : PySem.W.kitOne K (.ref CB1) (.ref CB1) = some true
  k12 : PySem.W.kitOne K (.ref CB1) (.ref CL) = some false
  k13 : PySem.W.kitOne K (.ref CB1) (.ref CR) = some false
  k21 : PySem.W.kitOne K (.ref CL) (.ref CB1) = some false
  k22 : PySem.W.kitOne K (.ref CL) (.ref CL) = some true
  k23 : PySem.W.kitOne K (.ref CL) (.ref CR) = some false
  k31 : PySem.W.kitOne K (.ref CR) (.ref CB1) = some false
  k32 : PySem.W.kitOne K (.ref CR) (.ref CL) = some false
  k33 : PySem.W.kitOne K (.ref CR) (.ref CR) = some true
  z1 : PySem.W.kitOne K (.type "NoneType") (.ref CB1) = some false
  z2 : PySem.W.kitOne K (.type "NoneType") (.ref CL) = some false
  z3 : PySem.W.kitOne K (.type "NoneType") (.ref CR) = some false
/-- what is caught: 0 a book, 1 a lot, 2 a run, 3 nothing -/
inductive Out where
  | err (i : Nat) (v : V) (d : PyData)
  | fine
def outI : Out → Nat
  | .err i _ _ => i
  | .fine => 3
def outD : Out → PyData
  | .err _ _ d => .str d.shown
  | .fine => .none
/-- led's outcome -/
def Led3 (K : PySem.W.Frag) (H : Hp) (CB : Addr) (vb vl vr : V) (o : Out) : Prop :=
  (∃ d, o = .err 0 vb d ∧ Sw K H vb d ∧ Shw d) ∨ ∃ (bk : Addr) (D : PartsD) (dl : PyData), vb = .ref bk ∧ BkP K H CB bk D ∧ GoD D ∧ Sw K H vl dl ∧
    ((o = .err 1 vl dl ∧ isLot D dl = false ∧ Shw dl) ∨ (isLot D dl = true ∧ ∃ h c, dl = lotD h c ∧
      ((∃ d, o = .err 2 vr d ∧ Sw K H vr d ∧ isList d = false ∧ Shw d) ∨ (∃ es : List Evn, Sw K H vr (.list (es.map evD)) ∧ (∀ e ∈ es, EvOk e) ∧
        ((o = .err 2 vr (.list (es.map evD)) ∧ Shw (.list (es.map evD)) ∧ runE D (h, c) es = none) ∨ (o = .fine ∧ ∃ x, runE D (h, c) es = some x))))))
def spCk (K : PySem.W.Frag) (CB : Addr) : Sp := fun vs H Q _ => ∃ (vb vl vr : V) (o : Out), vs = [vb, vl, vr] ∧ Led3 K H CB vb vl vr o ∧ ∀ q H', H q = none → Ex H H' → TL K H' q [.int (outI o : Int), outD o] → Q (.ref q) H'
abbrev sCk : Stmt := top 46
abbrev NCk : List Str := ["_law_book_here", "_law_lot", "_law_run", "_law_caught_here", "error", "_law_kinds"]
theorem scCk : FnScope NCk ["_law_book_here", "_law_lot", "_law_run"] (defScope sCk) := ⟨rfl, rfl, rfl, by decide +kernel, rfl, by decide +kernel, by decide +kernel⟩
section
variable {P : Program} {w : World} {K : PySem.W.Frag} {mg : Str → Option Value} {base : Heap}
set_option maxHeartbeats 4000000 in
theorem ok_ck {f C0 CB CB1 CL CR : Addr} {fd : FuncData} (F : Fun K "_law_caught" "_law_caught" sCk f fd) (B : Bv mg) (T : ErK3 K mg C0 CB1 CL CR) (DLd : Df P w K mg base (CX P w) 6 "led" ["book", "lot", "run"] (spLd K CB CB1 CL CR)) : FnG P w K mg base 8 f fd ["_law_book_here", "_law_lot", "_law_run"] (spCk K CB) := by
  obtain ⟨fL, fdL, G1, mL, kL, bL⟩ := DLd.ex
  refine fun_okG F scCk (fun vs H Q E h => ?_) (fun cdv A outer s H vs Q E gd hr h => ?_)
  · obtain ⟨_, _, _, _, rfl, _⟩ := h
    rfl
  · obtain ⟨vb, vl, vr, o, rfl, ho, k⟩ := h
    refine ⟨_, (pss_cons (ps_set (i := 3) scCk.nd rfl (Or.inl rfl) pe_non)
      (pss_cons (ps_try_keep (i := 4) rfl rfl scCk.nd rfl rfl ⟨rfl, by decide, .inl T.g0⟩ takes0 (fun W pn xe tk _ => (pss_one (ps_expr (pe_callS (X := Cx.tr _ pn xe) G1 (hr.mono (by decide)) rfl mL kL bL (fun σ => passAt tk σ) (pa_cons (pv 0) (pa_cons (pv 1) (pa_cons (pv 2) pa_nil))))))) (fun a oe cls d pn _ _ => (pss_one (ps_set (i := 3) scCk.nd rfl (Or.inl rfl) (pv 4)))))
      (pss_cons (ps_set (i := 5) scCk.nd rfl (Or.inl rfl) (pe_lst (pa_cons (pe_callB (id := "isinstance") (r := rKU K) call_kU (by rfl) B.isi (by decide +kernel) (pa_cons (pv 3) (pa_cons (pe_glob (v := V.ref CB1) (by rfl) T.gB rfl) pa_nil))) (pa_cons (pe_callB (id := "isinstance") (r := rKU K) call_kU (by rfl) B.isi (by decide +kernel) (pa_cons (pv 3) (pa_cons (pe_glob (v := V.ref CL) (by rfl) T.gL rfl) pa_nil))) (pa_cons (pe_callB (id := "isinstance") (r := rKU K) call_kU (by rfl) B.isi (by decide +kernel) (pa_cons (pv 3) (pa_cons (pe_glob (v := V.ref CR) (by rfl) T.gR rfl) pa_nil))) (pa_cons pe_bl pa_nil))))))
      (pss_one (ps_ret (pe_lst (pa_cons (pe_bm PySem.F.plainAttrs_list PySem.F.slot_list_index PySem.F.type_list_index mt_index (pv 5) (pa_cons pe_bl pa_nil)) (pa_cons (pe_ifExp (pt_cmpR op_isN (pv 3) pe_non (nomark _)) pe_non (pe_callB (id := "repr") (r := rRepr K) (call_repr gd (un64 hr)) (by rfl) B.repr (by decide +kernel) (pa_cons (pe_kF (pv 3)) pa_nil))) pa_nil)))))))), ?_⟩
    have tail : ∀ (y3 : V) (G : Hp) (j : Nat) (b1 b2 b3 : Bool) (dd : PyData), Ex H G → [V.bl b1, .bl b2, .bl b3, .bl true][j]? = some (.bl true) → (∀ m z', m < j → [V.bl b1, .bl b2, .bl b3, .bl true][m]? = some z' → eqV z' (.bl true) = false) →
        (∀ (CC : Addr) (bb : Bool), (CC, bb) ∈ [(CB1, b1), (CL, b2), (CR, b3)] → Ev (tCB (rKU K) (tCons (tVar 3) (tCons (tC (.ref CC)) tNil))) [some vb, some vl, some vr, some y3, none, none] G (.bl bb)) →
        (∀ kl G1, Ex G G1 → ED K (tIf (tTest (tOp (fun x y H Q => y = .non ∧ Q (.bl (decide (x = .non))) H) (tVar 3) (tC .non))) (tC .non) (tCB (rRepr K) (tCons (tKF K "value" (tVar 3)) tNil))) [some vb, some vl, some vr, some y3, none, some kl] G1 dd) →
        (∀ q H', H q = none → Ex H H' → TL K H' q [.int (j : Int), dd] → Q (.ref q) H') →
        tSeq (tAsg (tLst (tCons (tCB (rKU K) (tCons (tVar 3) (tCons (tC (.ref CB1)) tNil))) (tCons (tCB (rKU K) (tCons (tVar 3) (tCons (tC (.ref CL)) tNil))) (tCons (tCB (rKU K) (tCons (tVar 3) (tCons (tC (.ref CR)) tNil))) (tCons (tC (.bl true)) tNil))))) (gName 5)) (tRet (tLst (tCons (tBM K "list" (rIndex K) (tVar 5) (tCons (tC (.bl true)) tNil)) (tCons (tIf (tTest (tOp (fun x y H Q => y = .non ∧ Q (.bl (decide (x = .non))) H) (tVar 3) (tC .non))) (tC .non) (tCB (rRepr K) (tCons (tKF K "value" (tVar 3)) tNil))) tNil)))) { nx := fun x H' => Q .non H', rt := Q } [some vb, some vl, some vr, some y3, none, none] G := by
      intro y3 G j b1 b2 b3 dd eG hj hm isI hd kk
      refine q_asgL (xs := [.bl b1, .bl b2, .bl b3, .bl true]) (Evl.el_lst (ea_cons (isI CB1 b1 (by simp)) (ea_cons (isI CL b2 (by simp)) (ea_cons (isI CR b3 (by simp)) (ea_cons ev_c ea_nil)))) (by simp)) fun kl G1 nkl e1 hkl => ?_
      have hl : ELN K (tLst (tCons (tBM K "list" (rIndex K) (tVar 5) (tCons (tC (.bl true)) tNil)) (tCons (tIf (tTest (tOp (fun x y H Q => y = .non ∧ Q (.bl (decide (x = .non))) H) (tVar 3) (tC .non))) (tC .non) (tCB (rRepr K) (tCons (tKF K "value" (tVar 3)) tNil))) tNil))) [some vb, some vl, some vr, some y3, none, some (.ref kl)] G1 [.int (j : Int), dd] := by
        refine eln_lst (eda_cons (fun G2 e2 Q2 q2 => ⟨_, rfl, .inl ⟨rfl, _, SqL.of (e2 _ _ hkl)⟩, kl, _, .bl true, j, .bl true, rfl, rfl, SqL.of (e2 _ _ hkl), rfl, rfl, hj, rfl, hm, q2 _ G2 (Ex.refl _) (.int _)⟩) (eda_cons (hd _ G1 e1) eda_nil)) (by simp)
      exact hl G1 (Ex.refl _) _ fun q G2 nq e2 tq => kk q G2 (fresh_back (eG.trans e1) nq) ((eG.trans e1).trans e2) tq
    have okF : ∀ G, Ex H G → o = .fine → tSeq (tAsg (tLst (tCons (tCB (rKU K) (tCons (tVar 3) (tCons (tC (.ref CB1)) tNil))) (tCons (tCB (rKU K) (tCons (tVar 3) (tCons (tC (.ref CL)) tNil))) (tCons (tCB (rKU K) (tCons (tVar 3) (tCons (tC (.ref CR)) tNil))) (tCons (tC (.bl true)) tNil))))) (gName 5)) (tRet (tLst (tCons (tBM K "list" (rIndex K) (tVar 5) (tCons (tC (.bl true)) tNil)) (tCons (tIf (tTest (tOp (fun x y H Q => y = .non ∧ Q (.bl (decide (x = .non))) H) (tVar 3) (tC .non))) (tC .non) (tCB (rRepr K) (tCons (tKF K "value" (tVar 3)) tNil))) tNil)))) { nx := fun x H' => Q .non H', rt := Q } [some vb, some vl, some vr, some .non, none, none] G := by
      intro G eG ho
      subst ho
      have zi : ∀ CC : Addr, PySem.W.kitOne K (.type "NoneType") (.ref CC) = some false → Ev (tCB (rKU K) (tCons (tVar 3) (tCons (tC (.ref CC)) tNil))) [some vb, some vl, some vr, some .non, none, none] G (.bl false) := fun CC kk =>
        ev_cb (ea_cons (ev_var rfl) (ea_cons ev_c ea_nil)) fun H1 e7 Q1 q => .inr ⟨.non, .ref CC, .type "NoneType", .ref CC, false, rfl, .own CC, sw_ty (d := .none) .non, kk, q H1 (Ex.refl H1)⟩
      refine tail .non G 3 false false false .none eG rfl (fun m z' hm hz => ?_) (fun CC bb m => ?_) (fun kl G1 e1 => ?_) k
      · match m, hm, hz with
        | 0, _, hz => cases hz; rfl
        | 1, _, hz => cases hz; rfl
        | 2, _, hz => cases hz; rfl
      · simp only [List.mem_cons, List.not_mem_nil, or_false, Prod.mk.injEq] at m
        rcases m with ⟨rfl, rfl⟩ | ⟨rfl, rfl⟩ | ⟨rfl, rfl⟩
        · exact zi _ T.z1
        · exact zi _ T.z2
        · exact zi _ T.z3
      · exact ed_if (b := true) (et_test (ev_op (ev_var rfl) ev_c fun H1 _ Q1 q => ⟨rfl, q H1 (Ex.refl H1)⟩)) (fun _ => ed_non) (fun z => nomatch z)
    refine ⟨_, rfl, _, rfl, _, rfl, vb, vl, vr, rfl, ?_⟩
    have fin : ∀ (Cx : Addr) (i : Nat) (v : V) (d : PyData) (b1 b2 b3 : Bool), IsC K Cx → PySem.W.findIn K (.ref Cx) "value" = some none → PySem.W.kitOne K (.ref Cx) (.ref CB1) = some b1 → PySem.W.kitOne K (.ref Cx) (.ref CL) = some b2 → PySem.W.kitOne K (.ref Cx) (.ref CR) = some b3 → PySem.W.exmOne K (.ref Cx) (.ref C0) = some true →
        Sw K H v d → Shw d → o = .err i v d → [V.bl b1, .bl b2, .bl b3, .bl true][i]? = some (.bl true) → (∀ m z', m < i → [V.bl b1, .bl b2, .bl b3, .bl true][m]? = some z' → eqV z' (.bl true) = false) → ∀ dd H', H dd = none → Ex H H' → H' dd = some (.xd [("value", v)]) →
        wKeep K (.ref C0) 4 (fun a cls d => tAsg (tVar 4) (gName 3)) (fun _ _ _ _ => False) { nx := tSeq (tAsg (tLst (tCons (tCB (rKU K) (tCons (tVar 3) (tCons (tC (.ref CB1)) tNil))) (tCons (tCB (rKU K) (tCons (tVar 3) (tCons (tC (.ref CL)) tNil))) (tCons (tCB (rKU K) (tCons (tVar 3) (tCons (tC (.ref CR)) tNil))) (tCons (tC (.bl true)) tNil))))) (gName 5)) (tRet (tLst (tCons (tBM K "list" (rIndex K) (tVar 5) (tCons (tC (.bl true)) tNil)) (tCons (tIf (tTest (tOp (fun x y H Q => y = .non ∧ Q (.bl (decide (x = .non))) H) (tVar 3) (tC .non))) (tC .non) (tCB (rRepr K) (tCons (tKF K "value" (tVar 3)) tNil))) tNil)))) { nx := fun x H' => Q .non H', rt := Q }, rt := Q } (.ref Cx) (some dd) [some vb, some vl, some vr, some .non, none, none] H' := by
      intro Cx i v d b1 b2 b3 ic no k1 k2 k3 ex hv hsh ho hj hm dd H' nd e hd
      subst ho
      refine ⟨true, ex, (fun z => nomatch z), fun _ a na => ⟨_, rfl, ?_⟩⟩
      have hke : KErr (upd H' a (ExK (.ref Cx) (some dd) a)) a Cx "value" v := ⟨dd, upd_same, by rw [upd_ne (ne_of_none hd na)]; exact hd⟩
      have e3 := Ex.new (o := ExK (.ref Cx) (some dd) a) na
      have hv3 := Sw.ex (e.trans e3) _ _ hv
      have e4 := e.trans e3
      refine tail (.ref a) _ i b1 b2 b3 (.str d.shown) e4 hj hm (fun CC bb m => ?_) (fun kl G1 e1 => ?_) k
      · have isI : ∀ (CC : Addr) (bb : Bool), PySem.W.kitOne K (.ref Cx) (.ref CC) = some bb → Ev (tCB (rKU K) (tCons (tVar 3) (tCons (tC (.ref CC)) tNil))) [some vb, some vl, some vr, some (.ref a), none, none] (upd H' a (ExK (.ref Cx) (some dd) a)) (.bl bb) := fun CC bb kk =>
          ev_cb (ea_cons (ev_var rfl) (ea_cons ev_c ea_nil)) fun H1 e7 Q1 q => .inl ⟨a, Cx, _, v, _, _, bb, rfl, hke.ex e7, ic, .own CC, kk, q H1 (Ex.refl H1)⟩
        simp only [List.mem_cons, List.not_mem_nil, or_false, Prod.mk.injEq] at m
        rcases m with ⟨rfl, rfl⟩ | ⟨rfl, rfl⟩ | ⟨rfl, rfl⟩
        · exact isI _ _ k1
        · exact isI _ _ k2
        · exact isI _ _ k3
      · refine ed_if (b := false) (et_test (ev_op (ev_var rfl) ev_c fun H1 _ Q1 q => ⟨rfl, q H1 (Ex.refl H1)⟩)) (fun z => nomatch z) (fun _ G2 e2 Q2 q2 => ?_)
        exact ⟨_, rfl, a, Cx, v, rfl, (hke.ex e1).ex e2, ic.xf, no, v, d, rfl, Sw.ex (e1.trans e2) _ _ hv3, hsh.1, hsh.2.1, hsh.2.2, q2 _ G2 (Ex.refl _) (.str _)⟩
    have fin0 : ∀ (v : V) (d : PyData), Sw K H v d → Shw d → o = .err 0 v d → Bad CB1 v H (fun cls d H => wKeep K (.ref C0) 4 (fun a cls d => tAsg (tVar 4) (gName 3)) (fun _ _ _ _ => False) { nx := tSeq (tAsg (tLst (tCons (tCB (rKU K) (tCons (tVar 3) (tCons (tC (.ref CB1)) tNil))) (tCons (tCB (rKU K) (tCons (tVar 3) (tCons (tC (.ref CL)) tNil))) (tCons (tCB (rKU K) (tCons (tVar 3) (tCons (tC (.ref CR)) tNil))) (tCons (tC (.bl true)) tNil))))) (gName 5)) (tRet (tLst (tCons (tBM K "list" (rIndex K) (tVar 5) (tCons (tC (.bl true)) tNil)) (tCons (tIf (tTest (tOp (fun x y H Q => y = .non ∧ Q (.bl (decide (x = .non))) H) (tVar 3) (tC .non))) (tC .non) (tCB (rRepr K) (tCons (tKF K "value" (tVar 3)) tNil))) tNil)))) { nx := fun x H' => Q .non H', rt := Q }, rt := Q } cls d [some vb, some vl, some vr, some .non, none, none] H) := fun v d hv hs ho =>
      fin CB1 0 v d true false false T.i1 T.n1 T.k11 T.k12 T.k13 T.e1 hv hs ho rfl (fun m z' hm => absurd hm (Nat.not_lt_zero m))
    have fin1 : ∀ (v : V) (d : PyData), Sw K H v d → Shw d → o = .err 1 v d → Bad CL v H (fun cls d H => wKeep K (.ref C0) 4 (fun a cls d => tAsg (tVar 4) (gName 3)) (fun _ _ _ _ => False) { nx := tSeq (tAsg (tLst (tCons (tCB (rKU K) (tCons (tVar 3) (tCons (tC (.ref CB1)) tNil))) (tCons (tCB (rKU K) (tCons (tVar 3) (tCons (tC (.ref CL)) tNil))) (tCons (tCB (rKU K) (tCons (tVar 3) (tCons (tC (.ref CR)) tNil))) (tCons (tC (.bl true)) tNil))))) (gName 5)) (tRet (tLst (tCons (tBM K "list" (rIndex K) (tVar 5) (tCons (tC (.bl true)) tNil)) (tCons (tIf (tTest (tOp (fun x y H Q => y = .non ∧ Q (.bl (decide (x = .non))) H) (tVar 3) (tC .non))) (tC .non) (tCB (rRepr K) (tCons (tKF K "value" (tVar 3)) tNil))) tNil)))) { nx := fun x H' => Q .non H', rt := Q }, rt := Q } cls d [some vb, some vl, some vr, some .non, none, none] H) := fun v d hv hs ho =>
      fin CL 1 v d false true false T.i2 T.n2 T.k21 T.k22 T.k23 T.e2 hv hs ho rfl (fun m z' hm hz => by
        match m, hm, hz with
        | 0, _, hz => cases hz; rfl)
    have fin2 : ∀ (v : V) (d : PyData), Sw K H v d → Shw d → o = .err 2 v d → Bad CR v H (fun cls d H => wKeep K (.ref C0) 4 (fun a cls d => tAsg (tVar 4) (gName 3)) (fun _ _ _ _ => False) { nx := tSeq (tAsg (tLst (tCons (tCB (rKU K) (tCons (tVar 3) (tCons (tC (.ref CB1)) tNil))) (tCons (tCB (rKU K) (tCons (tVar 3) (tCons (tC (.ref CL)) tNil))) (tCons (tCB (rKU K) (tCons (tVar 3) (tCons (tC (.ref CR)) tNil))) (tCons (tC (.bl true)) tNil))))) (gName 5)) (tRet (tLst (tCons (tBM K "list" (rIndex K) (tVar 5) (tCons (tC (.bl true)) tNil)) (tCons (tIf (tTest (tOp (fun x y H Q => y = .non ∧ Q (.bl (decide (x = .non))) H) (tVar 3) (tC .non))) (tC .non) (tCB (rRepr K) (tCons (tKF K "value" (tVar 3)) tNil))) tNil)))) { nx := fun x H' => Q .non H', rt := Q }, rt := Q } cls d [some vb, some vl, some vr, some .non, none, none] H) := fun v d hv hs ho =>
      fin CR 2 v d false false true T.i3 T.n3 T.k31 T.k32 T.k33 T.e3 hv hs ho rfl (fun m z' hm hz => by
        match m, hm, hz with
        | 0, _, hz => cases hz; rfl
        | 1, _, hz => cases hz; rfl)
    rcases ho with ⟨d, rfl, hd, hs⟩ | ⟨bk, D, dl, rfl, hb, g, hl, ho⟩
    · exact .inl ⟨d, hd, fin0 vb d hd hs rfl⟩
    · refine .inr ⟨bk, D, dl, rfl, hb, g, hl, fun hf => ?_, fun hg => ?_⟩
      · rcases ho with ⟨ho, _, hs⟩ | ⟨hg, _⟩
        · exact fin1 vl dl hl hs ho
        · rw [hf] at hg
          cases hg
      · rcases ho with ⟨_, hf, _⟩ | ⟨_, h, c, rfl, ho⟩
        · rw [hf] at hg
          cases hg
        · refine ⟨h, c, rfl, ?_⟩
          rcases ho with ⟨d, ho, hd, hi, hs⟩ | ⟨es, hd, hok, ho⟩
          · exact .inl ⟨d, hd, hi, fin2 vr d hd hs ho⟩
          · refine .inr ⟨es, hd, hok, fun hn => ?_, fun x hx p H' np e lt => ?_⟩
            · rcases ho with ⟨ho, hs, _⟩ | ⟨_, x, hx⟩
              · exact fin2 vr _ hd hs ho
              · rw [hx] at hn
                cases hn
            · rcases ho with ⟨_, _, hn⟩ | ⟨ho, _⟩
              · rw [hx] at hn
                cases hn
              · exact okF H' e ho
end
end Cak

/-! ### _law_refused -/
namespace Ref
open PySem PySem.Spec PyProof.Rows L2 Evl Gen ExV Ent Rep Dat Nm Er Chk Gu Deed Pts Hear Lst Bk TryK KEr MkS Cau EvD BadE EntR Lis Prd NmR Bmk EqB God Oth LwP Inf Stp Stq RZ Wth Sta Aft Af2 Ini Rna Led Noc Cho Beh Dnx Nxt Nxp Inj Wlk Lot Drn Prw Rig Cak
def zeros (n : Nat) : List PyData := List.replicate n (.int 0)
def badBooks : List PyData := [.none, .int 3, .list [], .tuple [], .dict [], .str "book", .bool true]
def badLots (n : Nat) : List PyData := [.none, .int 3, .tuple [], .str "lot", .tuple [.str "zz", .list (zeros n)], .tuple [.str "idle", .list (zeros n ++ [.int 0])], .tuple [.str "idle", .list ((zeros n).drop 1 ++ [.int (-1)])], .dict []]
def badRuns : List PyData := [.none, .int 3, .tuple [], .str "run", .dict [], .list [.none], .list [.tuple [.str "fall", .str "lacks"]], .list [.tuple [.str "deed", .int 99, .none]], .list [.list [.str "fall", .str "lacks"]]]
theorem books_ok : ∀ d ∈ badBooks, okB d = true := by decide +kernel
theorem lots_ok : ∀ n ∈ [1, 2, 3, 4], ∀ d ∈ badLots n, okB d = true := by decide +kernel
theorem runs_ok : ∀ d ∈ badRuns, okB d = true := by decide +kernel
theorem lots_no : ∀ k ∈ [1, 2, 3], ∀ n ∈ [1, 2, 3, 4], ∀ d ∈ badLots n, isLot ⟨allH.take k, allS.take n, [], [], []⟩ d = false := by decide +kernel
theorem el_drop {K : PySem.W.Frag} {σ : L2.St} {H : Hp} {te : TE} {ds : List PyData} {n : Nat} {tl : TO} (h : EL K te σ H ds) (h2 : EvO tl σ H (some (n : Int))) : EL K (L2.tSl (rSlL K) te tl tNoPart) σ H (ds.drop n) := fun H1 e Q q =>
  h H1 e _ fun p H2 e2 ⟨xs, w1, w2⟩ => h2 H2 (e.trans e2) _ fun H3 e3 => ⟨p, xs, rfl, SqL.of (e3 _ _ w1), fun r nr => by
    have cd : cutV xs (some (n : Int)) none = xs.drop n := by
      unfold cutV
      rw [HT.sIx_nat, HT.sIx_none]
      by_cases c : n ≤ xs.length
      · rw [Nat.min_eq_left c, List.take_of_length_le (by rw [List.length_drop]; exact Nat.le_refl _)]
      · rw [Nat.min_eq_right (by omega), Nat.sub_self, List.take_zero, List.drop_eq_nil_of_le (by omega)]
    rw [cd]
    have wd : ∀ (n : Nat) (xs : List V) (ds : List PyData), SwAll K H2 xs ds → SwAll K H2 (xs.drop n) (ds.drop n) := by
      intro n
      induction n with
      | zero => exact fun _ _ h => h
      | succ n ih =>
        intro xs ds h
        cases h with
        | nil => exact .nil
        | cons _ b => exact ih _ _ b
    exact q r _ ((e2.trans e3).trans (Ex.new nr)) ⟨_, upd_same, SwAll.ex (e3.trans (Ex.new nr)) _ _ (wd n _ _ w2)⟩⟩
theorem shp_out {i : Int} {d : PyData} (h : PyData.strOk d.shown = true) : SeqAt.shaped (.list [.int i, .str d.shown]) = true := by
  simp [SeqAt.shaped, PyData.canLay0, PyData.canLayAll0, PyData.depth, PyData.depthAll, h]
/-- caught(..) != [i, repr(bad)] is false -/
theorem ev_ck {K : PySem.W.Frag} {σ : L2.St} {H : Hp} {CB : Addr} {ta : TA} {te : TE} {i : Nat} {d : PyData} {E : XK} (ha : ∀ H1, Ex H H1 → ∀ Q : List V → Hp → Prop, (∀ vb vl vr H2 o, Ex H1 H2 → Led3 K H2 CB vb vl vr o → outI o = i → outD o = .str d.shown → Q [vb, vl, vr] H2) → ta σ H1 Q)
    (hd : ED K te σ H d) (ok : okB d = true) : Ev (tOp (rNeD K) (tCall (spCk K CB) [] E ta) (tLst (tCons (tC (.int (i : Int))) (tCons (tCB (rRepr K) (tCons te tNil)) tNil)))) σ H (.bl false) := fun H1 e Q q =>
  ha H1 e _ fun vb vl vr H2 o e2 ho oi od => ⟨vb, vl, vr, o, rfl, ho, fun r H3 nr e3 tr => by
    obtain ⟨hs, so⟩ := okB_ok ok
    refine hd H3 ((e.trans e2).trans e3) _ fun v H4 e4 hv => ⟨v, d, rfl, hv, hs.1, hs.2.1, hs.2.2, by show 2 ≤ sizeLine; decide, fun r2 nr2 => ?_⟩
    have e5 := Ex.new (o := .lst [.int (i : Int), .str d.shown]) nr2
    have sh := shp_out (i := (i : Int)) so
    rw [oi, od] at tr
    refine ⟨.list [.int (i : Int), .str d.shown], .list [.int (i : Int), .str d.shown], sw_dp _ _ (TL.sw ((tr.ex e4).ex e5)) (SeqAt.canLay_of_shaped sh), .lst (SqL.of upd_same) (.cons (.int _) (.cons (.str _) .nil)), sh, sh, ?_⟩
    rw [SeqAt.eqv_refl _ (SeqAt.canLay_of_shaped sh)]
    exact q _ (((e2.trans e3).trans e4).trans e5)⟩
theorem zeros_eq (n : Nat) : zeros n = (List.replicate n (0 : Int)).map PyData.int := by
  unfold zeros
  rw [List.map_replicate]
theorem run_alt {D : PartsD} (hd : D.ds.length ≤ 10) (n : Nat) : ∀ d ∈ badRuns, isList d = false ∨ ∃ e, d = .list [evD e] ∧ EvOk e ∧ allowsE D "idle" (List.replicate n 0) e = false := fun d md => by
  simp only [badRuns, List.mem_cons, List.not_mem_nil, or_false] at md
  rcases md with rfl | rfl | rfl | rfl | rfl | rfl | rfl | rfl | rfl
  · exact .inl rfl
  · exact .inl rfl
  · exact .inl rfl
  · exact .inl rfl
  · exact .inl rfl
  · exact .inr ⟨.other .none, rfl, rfl, rfl⟩
  · refine .inr ⟨.fall "lacks", rfl, trivial, ?_⟩
    show decide (manyAt D.ss (List.replicate n 0) "lacks" > 0) = false
    unfold manyAt
    split
    · rfl
    · rename_i i _
      have : (List.replicate n (0 : Int)).getD i 0 = 0 := by
        rw [List.getD_eq_getElem?_getD]
        by_cases c : i < n
        · rw [List.getElem?_replicate, if_pos c]
          rfl
        · rw [List.getElem?_eq_none (by simp; omega)]
          rfl
      refine decide_eq_false ?_
      show ¬ ((List.replicate n (0 : Int)).getD i 0 > 0)
      rw [this]
      decide
  · refine .inr ⟨.deed 99 none, rfl, trivial, ?_⟩
    show allowsDeed D "idle" (List.replicate n 0) 99 none = false
    unfold allowsDeed
    rw [decide_eq_false (by omega : ¬ (99 : Int) < D.ds.length)]
    simp
  · exact .inr ⟨.other (.list [.str "fall", .str "lacks"]), rfl, rfl, rfl⟩
def spRf (K : PySem.W.Frag) (CB : Addr) : Sp := fun vs H Q _ => ∃ (bk p : Addr) (D : PartsD), vs = [.ref bk, .ref p] ∧ BkP K H CB bk D ∧ PtS K H p D ∧ GoD D ∧ PartsOk 3 4 D ∧ ∀ H', Ex H H' → Q (.bl true) H'
abbrev sRf : Stmt := top 47
abbrev NRf : List Str := ["_law_book_here", "_law_parts_here", "_law_good", "_law_bad"]
theorem scRf : FnScope NRf ["_law_book_here", "_law_parts_here"] (defScope sRf) := ⟨rfl, rfl, rfl, by decide +kernel, rfl, by decide +kernel, by decide +kernel⟩
section
variable {P : Program} {w : World} {K : PySem.W.Frag} {mg : Str → Option Value} {base : Heap}
set_option maxHeartbeats 4000000 in
theorem ok_rf {f CB : Addr} {fd : FuncData} (F : Fun K "_law_refused" "_law_refused" sRf f fd) (B : Bv mg) (DCk : DfG P w K mg base 8 "_law_caught" ["_law_book_here", "_law_lot", "_law_run"] (spCk K CB)) : FnG P w K mg base 9 f fd ["_law_book_here", "_law_parts_here"] (spRf K CB) := by
  refine fun_okG F scRf (fun vs H Q E h => ?_) (fun cdv A outer s H vs Q E gd hr h => ?_)
  · obtain ⟨_, _, _, rfl, _⟩ := h
    rfl
  · obtain ⟨bk, p, D, rfl, hb, hp, g, po, k⟩ := h
    refine ⟨_, (pss_cons (ps_set (i := 2) scRf.nd rfl (Or.inl rfl) (pe_op op_rep (pe_lst (pa_cons pe_int pa_nil)) (pe_callB call_len_seq (by rfl) B.len PySem.boot_len (pa_cons (pe_ix ix_list (pv 1) pe_int (fun _ _ => rfl)) pa_nil))))
      (pss_cons (ps_for PassesOwn.never rfl (pi_list (pe_lst (pa_cons pe_non (pa_cons pe_int (pa_cons (pe_lst pa_nil) (pa_cons (pe_tup pa_nil) (pa_cons pe_dnewK (pa_cons pe_str (pa_cons pe_bl pa_nil))))))))) (pg_name (i := 3) scRf.nd rfl (Or.inl rfl)) (pss_one (ps_if (pt_cmpR (op_neD (un64 hr)) (pe_dfG DCk gd hr (pa_cons (pv 3) (pa_cons pe_non (pa_cons pe_non pa_nil)))) (pe_lst (pa_cons pe_int (pa_cons (pe_callB (id := "repr") (r := rRepr K) (call_repr gd (un64 hr)) (by rfl) B.repr (by decide +kernel) (pa_cons (pv 3) pa_nil)) pa_nil))) (nomark _)) (pss_one (ps_ret pe_bl)) pss_nil)))
      (pss_cons (ps_for PassesOwn.never rfl (pi_list (pe_lst (pa_cons pe_non (pa_cons pe_int (pa_cons (pe_tup pa_nil) (pa_cons pe_str (pa_cons (pe_tup (pa_cons pe_str (pa_cons (pv 2) pa_nil))) (pa_cons (pe_tup (pa_cons (pe_ix ix_list (pe_ix ix_list (pv 1) pe_int (fun _ _ => rfl)) pe_int (fun _ _ => rfl)) (pa_cons (pe_op op_cat (pv 2) (pe_lst (pa_cons pe_int pa_nil))) pa_nil))) (pa_cons (pe_tup (pa_cons (pe_ix ix_list (pe_ix ix_list (pv 1) pe_int (fun _ _ => rfl)) pe_int (fun _ _ => rfl)) (pa_cons (pe_op op_cat (pe_slice sl_list (pv 2) (po_some pe_int) po_none) (pe_lst (pa_cons (pe_un un_neg pe_int) pa_nil))) pa_nil))) (pa_cons pe_dnewK pa_nil)))))))))) (pg_name (i := 3) scRf.nd rfl (Or.inl rfl)) (pss_one (ps_if (pt_cmpR (op_neD (un64 hr)) (pe_dfG DCk gd hr (pa_cons (pv 0) (pa_cons (pv 3) (pa_cons pe_non pa_nil)))) (pe_lst (pa_cons pe_int (pa_cons (pe_callB (id := "repr") (r := rRepr K) (call_repr gd (un64 hr)) (by rfl) B.repr (by decide +kernel) (pa_cons (pv 3) pa_nil)) pa_nil))) (nomark _)) (pss_one (ps_ret pe_bl)) pss_nil)))
      (pss_cons (ps_for PassesOwn.never rfl (pi_list (pe_lst (pa_cons pe_non (pa_cons pe_int (pa_cons (pe_tup pa_nil) (pa_cons pe_str (pa_cons pe_dnewK (pa_cons (pe_lst (pa_cons pe_non pa_nil)) (pa_cons (pe_lst (pa_cons (pe_tup (pa_cons pe_str (pa_cons (pe_ix ix_list (pe_ix ix_list (pv 1) pe_int (fun _ _ => rfl)) pe_int (fun _ _ => rfl)) pa_nil))) pa_nil)) (pa_cons (pe_lst (pa_cons (pe_tup (pa_cons pe_str (pa_cons pe_int (pa_cons pe_non pa_nil)))) pa_nil)) (pa_cons (pe_lst (pa_cons (pe_lst (pa_cons pe_str (pa_cons pe_str pa_nil))) pa_nil)) pa_nil))))))))))) (pg_name (i := 3) scRf.nd rfl (Or.inl rfl)) (pss_one (ps_if (pt_cmpR (op_neD (un64 hr)) (pe_dfG DCk gd hr (pa_cons (pv 0) (pa_cons (pe_tup (pa_cons (pe_ix ix_list (pe_ix ix_list (pv 1) pe_int (fun _ _ => rfl)) pe_int (fun _ _ => rfl)) (pa_cons (pv 2) pa_nil))) (pa_cons (pv 3) pa_nil)))) (pe_lst (pa_cons pe_int (pa_cons (pe_callB (id := "repr") (r := rRepr K) (call_repr gd (un64 hr)) (by rfl) B.repr (by decide +kernel) (pa_cons (pv 3) pa_nil)) pa_nil))) (nomark _)) (pss_one (ps_ret pe_bl)) pss_nil)))
      (pss_one (ps_ret (pe_cmpR (op_eqD (un64 hr)) (pe_dfG DCk gd hr (pa_cons (pv 0) (pa_cons (pe_tup (pa_cons (pe_ix ix_list (pe_ix ix_list (pv 1) pe_int (fun _ _ => rfl)) pe_int (fun _ _ => rfl)) (pa_cons (pv 2) pa_nil))) (pa_cons (pe_lst pa_nil) pa_nil)))) (pe_lst (pa_cons pe_int (pa_cons pe_non pa_nil))) (nomark _)))))))), ?_⟩
    obtain ⟨kh, kh1, kh2, eh⟩ := po.hs
    obtain ⟨n, n1, n2, es⟩ := po.ss
    have kin : kh ∈ [1, 2, 3] := by simp; omega
    have nin : n ∈ [1, 2, 3, 4] := by simp; omega
    have sl : D.ss.length = n := by rw [es, List.length_take]; show min n 4 = n; omega
    have h0 : (D.hs.map V.str)[0]? = some (.str "idle") := by
      rw [eh]
      match kh, kh1 with
      | k + 1, _ => rfl
    have s0 : (D.ss.map V.str)[0]? = some (.str "lacks") := by
      rw [es]
      match n, n1 with
      | k + 1, _ => rfl
    have lotno : ∀ d ∈ badLots n, isLot D d = false := fun d md => by
      have := lots_no kh kin n nin d md
      have e : isLot D d = isLot ⟨allH.take kh, allS.take n, [], [], []⟩ d := by
        unfold isLot
        rw [← eh, ← es]
      rw [e]
      exact this
    have hp0 := hp
    obtain ⟨a0, a1, a2, a3, a4, X2, X3, q0, qh, qs, q2, w2, q3, w3, q4⟩ := hp
    have hst : ∀ G, Ex H G → ∀ (σ : L2.St), σ[1]? = some (some (.ref p)) → ∀ (i : Nat) (a : Addr), [V.ref a0, .ref a1, .ref a2, .ref a3, .ref a4][i]? = some (.ref a) → Ev (tOp (rIxL K) (tVar 1) (tC (.int (i : Int)))) σ G (.ref a) := fun G e σ h1 i a hi => ev_op (ev_var h1) ev_c (rv_ixL (ex_l e q0) (atI_nat hi))
    have hid : ∀ G, Ex H G → ∀ (σ : L2.St), σ[1]? = some (some (.ref p)) → ED K (tOp (rIxL K) (tOp (rIxL K) (tVar 1) (tC (.int 0))) (tC (.int 0))) σ G (.str "idle") := fun G e σ h1 G2 e2 Q2 q2 => ev_op (hst G2 (e.trans e2) σ h1 0 a0 rfl) ev_c (rv_ixL (ex_l (e.trans e2) qh) (atI_nat (j := 0) h0)) G2 (Ex.refl _) _ fun G3 e3 => q2 _ G3 e3 (.str _)
    have hla : ∀ G, Ex H G → ∀ (σ : L2.St), σ[1]? = some (some (.ref p)) → ED K (tOp (rIxL K) (tOp (rIxL K) (tVar 1) (tC (.int 1))) (tC (.int 0))) σ G (.str "lacks") := fun G e σ h1 G2 e2 Q2 q2 => ev_op (hst G2 (e.trans e2) σ h1 1 a1 rfl) ev_c (rv_ixL (ex_l (e.trans e2) qs) (atI_nat (j := 0) s0)) G2 (Ex.refl _) _ fun G3 e3 => q2 _ G3 e3 (.str _)
    have fz : ∀ m : Nat, (List.replicate m [PyData.int 0]).flatten = zeros m := fun m => by
      induction m with
      | zero => rfl
      | succ m ih =>
        rw [List.replicate_succ, List.flatten_cons, ih]
        rfl
    refine q_asgX ?_
    have hrep := eln_rep (K := K) (σ := start NRf [.ref bk, .ref p]) (H := H) (te := tLst (tCons (tC (.int 0)) tNil)) (tb := tCB (rLenS K) (tCons (tOp (rIxL K) (tVar 1) (tC (.int 1))) tNil)) (ds := [.int 0]) (k := n) (EvD.el_lst (eda_cons ed_int eda_nil) (by simp)) (ev_is (ev_len (hst H (Ex.refl _) _ rfl 1 a1 rfl) qs) (by simp [sl])) (by simp; omega) (by omega)
    rw [fz] at hrep
    refine hrep H (Ex.refl _) _ fun gl H1 ngl e1 tg => ?_
    dsimp only
    refine q_norm (σ' := [some (.ref bk), some (.ref p), some (.ref gl), none]) rfl ?_
    have oz : StOk D ("idle", List.replicate n 0) := ⟨by
      rw [List.getElem?_map] at h0
      obtain ⟨s, hs, q⟩ := Option.map_eq_some_iff.mp h0
      cases q
      exact List.mem_of_getElem? hs, by simp [sl], fun x mx => by rw [List.eq_of_mem_replicate mx]; exact Int.le_refl 0, by show (List.replicate n (0 : Int)).sum ≤ 5; rw [sum_rep]; omega⟩
    have slp : ∀ (σ' : L2.St), (∃ s3, σ' = [some (.ref bk), some (.ref p), some (.ref gl), s3]) → ∃ s3, σ' = [some (.ref bk), some (.ref p), some (.ref gl), s3] := fun _ h => h
    refine q_forE (K := K) (ds := badBooks) (EvD.el_lst (eda_cons ed_non (eda_cons ed_int (eda_cons (ed_lst eda_nil (by simp)) (eda_cons (ed_tup eda_nil (by simp)) (eda_cons ed_dict (eda_cons ed_str (eda_cons ed_bl eda_nil))))))) (by simp [badBooks])) (fun σ' => ∃ s3, σ' = [some (.ref bk), some (.ref p), some (.ref gl), s3]) ⟨_, rfl⟩ (fun H2 e2 i x d σ' H' hd sl' e3 wx => ?_) (fun σ' H2 sl' e2 => ?_)
    · obtain ⟨s3, rfl⟩ := sl'
      have okd := books_ok d (List.mem_of_getElem? hd)
      refine s_when (b := false) (et_test (ev_ck (i := 0) (d := d) (CB := CB) (fun H4 e4 Q4 q4 => ⟨x, rfl, q4 x .non .non H4 (.err 0 x d) (Ex.refl _) (.inl ⟨d, rfl, Sw.ex e4 _ _ wx, (okB_ok okd).1⟩) rfl rfl⟩) (ed_var rfl wx) okd)) (fun z => nomatch z) (fun _ H4 e4 => ⟨⟨_, rfl⟩, e3.trans e4⟩)
    obtain ⟨s3, rfl⟩ := sl'
    have E2 := e1.trans e2
    have tg2 := tg.ex e2
    refine q_forE (K := K) (ds := badLots n) (EvD.el_lst (eda_cons ed_non (eda_cons ed_int (eda_cons (ed_tup eda_nil (by simp)) (eda_cons ed_str (eda_cons (ed_tup (eda_cons ed_str (eda_cons (ed_of (el_var rfl tg2)) eda_nil)) (by simp)) (eda_cons (ed_tup (eda_cons (hid _ E2 _ rfl) (eda_cons (ed_of (el_cat (el_var rfl tg2) (EvD.el_lst (eda_cons ed_int eda_nil) (by simp)) (by simp [zeros]; omega))) eda_nil)) (by simp))
      (eda_cons (ed_tup (eda_cons (hid _ E2 _ rfl) (eda_cons (ed_of (el_cat (el_drop (n := 1) (el_var rfl tg2) (fun H3 e3 Q3 q3 => ⟨_, rfl, q3 H3 (Ex.refl _)⟩)) (EvD.el_lst (eda_cons (fun H3 e3 Q3 q3 => ⟨1, rfl, q3 _ H3 (Ex.refl _) (.int _)⟩) eda_nil) (by simp)) (by simp [zeros]; omega))) eda_nil)) (by simp)) (eda_cons ed_dict eda_nil)))))))) (by simp [badLots])) (fun σ' => ∃ s3, σ' = [some (.ref bk), some (.ref p), some (.ref gl), s3]) ⟨_, rfl⟩ (fun H3 e3 i x d σ' H' hd sl' e4 wx => ?_) (fun σ' H3 sl' e3 => ?_)
    · obtain ⟨s3, rfl⟩ := sl'
      have md := List.mem_of_getElem? hd
      have okd := lots_ok n nin d md
      have E4 := (E2.trans e3).trans e4
      refine s_when (b := false) (et_test (ev_ck (i := 1) (d := d) (CB := CB) (fun H4 e5 Q4 q4 => ⟨_, rfl, x, rfl, q4 (.ref bk) x .non H4 (.err 1 x d) (Ex.refl _) (.inr ⟨bk, D, d, rfl, BookD.ex (E4.trans e5) hb, g, Sw.ex e5 _ _ wx, .inl ⟨rfl, lotno d md, (okB_ok okd).1⟩⟩) rfl rfl⟩) (ed_var rfl wx) okd)) (fun z => nomatch z) (fun _ H4 e5 => ⟨⟨_, rfl⟩, e4.trans e5⟩)
    obtain ⟨s3, rfl⟩ := sl'
    have E3 := E2.trans e3
    have edl : ∀ G, Ex H2 G → ∀ (s3 : Option V), ED K (tTup (tCons (tOp (rIxL K) (tOp (rIxL K) (tVar 1) (tC (.int 0))) (tC (.int 0))) (tCons (tVar 2) tNil))) [some (.ref bk), some (.ref p), some (.ref gl), s3] G (lotD "idle" (List.replicate n 0)) := fun G a s3 => by
      show ED K _ _ _ (.tuple [.str "idle", .list ((List.replicate n (0 : Int)).map PyData.int)])
      rw [← zeros_eq]
      exact ed_tup (eda_cons (hid G (E2.trans a) _ rfl) (eda_cons (ed_of (el_var rfl (tg2.ex a))) eda_nil)) (by simp)
    refine q_forE (K := K) (ds := badRuns) (EvD.el_lst (eda_cons ed_non (eda_cons ed_int (eda_cons (ed_tup eda_nil (by simp)) (eda_cons ed_str (eda_cons ed_dict (eda_cons (ed_lst (eda_cons ed_non eda_nil) (by simp)) (eda_cons (ed_lst (eda_cons (ed_tup (eda_cons ed_str (eda_cons (hla _ E3 _ rfl) eda_nil)) (by simp)) eda_nil) (by simp)) (eda_cons (ed_lst (eda_cons (ed_tup (eda_cons ed_str (eda_cons ed_int (eda_cons ed_non eda_nil))) (by simp)) eda_nil) (by simp)) (eda_cons (ed_lst (eda_cons (ed_lst (eda_cons ed_str (eda_cons ed_str eda_nil)) (by simp)) eda_nil) (by simp)) eda_nil))))))))) (by simp [badRuns])) (fun σ' => ∃ s3, σ' = [some (.ref bk), some (.ref p), some (.ref gl), s3]) ⟨_, rfl⟩ (fun H4 e4 i x d σ' H' hd sl' e5 wx => ?_) (fun σ' H4 sl' e4 => ?_)
    · obtain ⟨s3, rfl⟩ := sl'
      have md := List.mem_of_getElem? hd
      have okd := runs_ok d md
      have E5 := (E3.trans e4).trans e5
      have sd := (okB_ok okd).1
      refine s_when (b := false) (et_test (ev_ck (i := 2) (d := d) (CB := CB) (fun H6 e6 Q4 q4 => ⟨_, rfl, edl H6 (((e3.trans e4).trans e5).trans e6) _ H6 (Ex.refl _) _ fun lv H7 e7 wl => ⟨x, rfl, q4 (.ref bk) lv x H7 (.err 2 x d) e7 (.inr ⟨bk, D, _, rfl, BookD.ex ((E5.trans e6).trans e7) hb, g, wl, .inr ⟨lot_ok oz, "idle", _, rfl, ?_⟩⟩) rfl rfl⟩⟩) (ed_var rfl wx) okd)) (fun z => nomatch z) (fun _ H6 e6 => ⟨⟨_, rfl⟩, e5.trans e6⟩)
      have wx7 := Sw.ex (e6.trans e7) _ _ wx
      rcases run_alt g.d n d md with hi | ⟨e, rfl, eo, ea⟩
      · exact .inl ⟨d, rfl, wx7, hi, sd⟩
      · refine .inr ⟨[e], wx7, (fun e' m => by rw [List.mem_singleton.mp m]; exact eo), .inl ⟨rfl, sd, ?_⟩⟩
        show (if allowsE D "idle" (List.replicate n 0) e = true then _ else none) = none
        rw [ea]
        rfl
    obtain ⟨s3, rfl⟩ := sl'
    have E4 := E3.trans e4
    have sh : SeqAt.shaped (.list [.int 3, .none]) = true := by decide +kernel
    refine s_ret (v := .bl true) (fun H5 e5 Q5 q5 => ?_) fun H5 e5 => k H5 (E4.trans e5)
    refine ⟨_, rfl, edl H5 ((e3.trans e4).trans e5) _ H5 (Ex.refl _) _ fun lv H6 e6 wl => ?_⟩
    have hl0 : ELN K (tLst tNil) [some (.ref bk), some (.ref p), some (.ref gl), s3] H6 [] := eln_lst eda_nil (by simp)
    refine hl0 H6 (Ex.refl _) _ fun el H7 nel e7 tel => ?_
    refine ⟨.ref bk, lv, .ref el, .fine, rfl, .inr ⟨bk, D, _, rfl, BookD.ex (((E4.trans e5).trans e6).trans e7) hb, g, Sw.ex e7 _ _ wl, .inr ⟨lot_ok oz, "idle", _, rfl, .inr ⟨[], tel.sw, (fun e m => by simp at m), .inr ⟨rfl, _, rfl⟩⟩⟩⟩, fun r H8 nr e8 tr => ?_⟩
    refine ⟨by show 2 ≤ sizeLine; decide, fun r2 nr2 => ?_⟩
    have e9 := Ex.new (o := .lst [.int 3, .non]) nr2
    refine ⟨.list [.int 3, .none], .list [.int 3, .none], sw_dp _ _ (TL.sw (tr.ex e9)) (SeqAt.canLay_of_shaped sh), .lst (SqL.of upd_same) (.cons (.int _) (.cons .non .nil)), sh, sh, ?_⟩
    rw [SeqAt.eqv_refl _ (SeqAt.canLay_of_shaped sh)]
    exact q5 _ (((e6.trans e7).trans e8).trans e9)
end
end Ref

/-! ### the law's book: made, and asked for != -/
namespace LwN
open PySem PySem.Spec PyProof.Rows L2 Evl Gen ExV Ent Rep Dat Nm Er Chk Gu Deed Pts Hear Lst Bk TryK KEr MkS Cau EvD BadE EntR Lis Prd NmR Bmk EqB OwnQ RevQ God Oth LwP Inf Stp Stq RZ Wth Sta Aft Af2 Ini Rna Led Noc Cho Beh Dnx Nxt Nxp Inj Wlk Lot Drn Prw Rig Cak Ref
theorem make_book {K : PySem.W.Frag} {CL CI C : Addr} {ta : TA} {d1 d2 d3 d4 d5 : PyData} {i : Nat} {tz : TS} {D : Ends} {σ : L2.St} {H : Hp} (h : EDA K ta σ H [d1, d2, d3, d4, d5]) (hb : bookErr d1 d2 d3 d4 d5 = none) (ft : Fit5 d1 d2 d3 d4 d5)
    (k : ∀ x H4 H5, Ex H H4 → Ex H4 H5 → BookN K H4 H5 C x d1 d2 d3 d4 d5 → tz D (σ.set i (some (.ref x))) H5) : tSeq (tAsg (tMake C (spInit K CL CI C) [] (fun _ _ _ => False) ta) (gName i)) tz D σ H := by
  refine h H (Ex.refl _) (fun vs H1 => ∀ x dx, H1 x = none → H1 dx = none → dx ≠ x → spInit K CL CI C (.ref x :: (vs ++ [])) (upd (upd H1 dx (.own x)) x (.ins C dx [])) (fun v H2 => v = .non ∧ (fun (u : V) (G : Hp) => tz D (σ.set i (some u)) G) (.ref x) H2) (fun _ _ _ => False)) fun vs H4 e4 hw x dx nx ndx ne => ?_
  cases hw with
  | cons w1 hw =>
  cases hw with
  | cons w2 hw =>
  cases hw with
  | cons w3 hw =>
  cases hw with
  | cons w4 hw =>
  cases hw with
  | cons w5 hw =>
  cases hw
  exact made (Q := fun (u : V) (G : Hp) => tz D (σ.set i (some u)) G) hb ft ⟨w1, w2, w3, w4, w5⟩ nx ndx ne fun H5 e5 nb => k x H4 H5 e4 e5 nb
theorem bkp_ins {K : PySem.W.Frag} {H : Hp} {C a : Addr} {D : PartsD} (h : BkP K H C a D) : ∃ dx fs, H a = some (.ins C dx fs) := by
  obtain ⟨_, ⟨dx, _, _, _, _, _, h0, _⟩, _⟩ := h
  exact ⟨dx, _, h0⟩
def eqP (D L : PartsD) : Bool := eq5 (strsD D.hs) (strsD D.ss) (.list (D.ds.map enD)) (.list (D.rs.map enD)) (strsD D.ls) (strsD L.hs) (strsD L.ss) (.list (L.ds.map enD)) (.list (L.rs.map enD)) (strsD L.ls)
section
variable {K : PySem.W.Frag} {C a b : Addr} {D L : PartsD} {σ : L2.St} {H : Hp} {ta : TE}
theorem sp_book {Q : VK} {E : XK} (B : BkP K H C a D) (g : GoD D) (B2 : BkP K H C b L) (g2 : GoD L) (k : ∀ H', Ex H H' → Q (.bl (eqP D L)) H') : spEqB K C [.ref a, .ref b] H Q E :=
  ⟨a, .ref b, _, _, _, _, _, rfl, B, good_shp g, .inl ⟨b, _, _, _, _, _, rfl, B2, good_shp g2, k⟩⟩
theorem ev_neSame {i : Nat} {E : XK} (ha : Ev ta σ H (.ref a)) (hi : σ[i]? = some (some (.ref b))) (B : BkP K H C a D) (g : GoD D) (h : SL K H b (D5 D)) : Ev (tOp (rOwnNe K C (spEqB K C)) ta (tCall (spLB K C) [] E (tCons (tVar i) tNil))) σ H (.bl false) := fun H1 e Q q =>
  ha H1 e _ fun H2 e2 => by
    have E2 := e.trans e2
    obtain ⟨xs, x1, x2⟩ := h
    refine ⟨_, hi, b, _, _, _, _, _, rfl, ⟨xs, ex_l E2 x1, SwAll.ex E2 _ _ x2⟩, good_fit g, good_none g, fun c H3 nc e3 nb => ?_⟩
    have B3 : BkP K H3 C a D := BookD.ex (E2.trans e3) B
    obtain ⟨dx, fs, hj⟩ := bkp_ins B3
    have B4 : BkP K H3 C c D := nb.is
    obtain ⟨dy, gs, hk⟩ := bkp_ins B4
    refine ⟨a, dx, fs, rfl, hj, .inl ⟨c, dy, gs, rfl, hk⟩, sp_book B3 g B4 g fun H' e' => ⟨_, rfl, ?_⟩⟩
    have z : eqP D D = true := eq_self g
    rw [z]
    exact q H' ((e2.trans e3).trans e')
end
end LwN

/-! ### the law -/
namespace Lwk
open PySem PySem.Spec PyProof.Rows L2 Evl Gen ExV Ent Rep Dat Nm Er Chk Gu Deed Pts Hear Lst Bk TryK KEr MkS Cau EvD BadE EntR Lis Prd NmR Bmk EqB OwnQ RevQ God Oth LwP Inf Stp Stq RZ Wth Sta Aft Af2 Ini Rna Led Noc Cho Beh Dnx Nxt Nxp Inj Wlk Lot Drn Prw Rig Cak Ref LwN
abbrev sLw : Stmt := top 48
abbrev NLw : List Str := ["_law_script", "_law_index", "_law_generator_here", "_law_parts_here", "_law_book_here", "_law_turn", "_law_state", "_law_hearings", "_law_deeds", "_law_some", "_law_run", "_law_told", "_law_due", "_law_size"]
theorem scLw : FnScope NLw ["_law_script"] (defScope sLw) := ⟨rfl, rfl, rfl, by decide +kernel, rfl, by decide +kernel, by decide +kernel⟩
def spLaw (K : PySem.W.Frag) : Sp := fun vs H Q _ => ∃ (a : Addr) (ns : List Int), vs = [.ref a] ∧ SqL K H a (VInt ns) ∧ ns.length ≤ 63 ∧ ∀ H', Q (.bl true) H'
structure LawT (P : Program) (w : World) (K : PySem.W.Frag) (mg : Str → Option Value) (base : Heap) (CL CI C CB1 CL3 CR3 : Addr) : Prop where
  gen : Df P w K mg base CX0 2 "_law_generator" ["_law_script", "_law_index"] (spGen K)
  parts : Df P w K mg base CX0 4 "_law_parts" ["_law_generator_here", "_law_wide", "_law_high"] spParts
  lb : Df P w K mg base CX0 7 "_law_book" ["_law_parts_here"] (spLB K C)
  lot : Df P w K mg base CX0 3 "_law_lot_drawn" ["_law_generator_here", "_law_parts_here", "_law_most"] (spLo K)
  drn : Df P w K mg base CX0 4 "_law_drawn_run" ["_law_generator_here", "_law_parts_here", "_law_state", "_law_most"] (spDr K)
  right : DfG P w K mg base 8 "_law_right" ["_law_book_here", "_law_parts_here", "_law_state", "_law_run"] (spRi K C)
  ref : DfG P w K mg base 9 "_law_refused" ["_law_book_here", "_law_parts_here"] (spRf K C)
  led : Df P w K mg base (CX P w) 6 "led" ["book", "lot", "run"] (spLd K C CB1 CL3 CR3)
  bk : BkC P w K mg base CL CI C
  eq : ∃ f fd, QC K C f ∧ FnOk P w K mg base CX0 1 f fd ["self", "other"] (spEqB K C) ∧ Binds K fd ["self", "other"] []
def ds4 : List En := [("a", some "x", "b"), ("g", some "x", "g"), ("c", some "y", "c"), ("b", none, "a")]
def rs4 : List En := [("a", some "x", "b"), ("b", some "x", "c"), ("c", some "x", "a"), ("h", some "x", "g"), ("g", some "y", "h")]
def D4 : PartsD := ⟨["h", "g"], ["a", "b", "c"], ds4, rs4, ["y"]⟩
def es4 : List Evn := [.deed 0 none, .deed 1 none, .deed 2 (some [1, 0, 0, 0]), .deed 3 none, .fall "c"]
def due4 : List (Str × List Int) := [("h", [3, 2, 1]), ("g", [1, 3, 2]), ("g", [2, 1, 3]), ("h", [2, 1, 3]), ("h", [3, 0, 3]), ("h", [3, 0, 2])]
def lotP (x : Str × List Int) : PyData := lotD x.1 x.2
theorem run4 : ∀ k ∈ List.range 6, runE D4 ("h", [3, 2, 1]) (es4.take k) = due4[k]? := by decide +kernel
theorem lot4 : isLot D4 (lotD "h" [3, 2, 1]) = true := by decide +kernel
theorem shp4 : SeqAt.shaped (.list (due4.map lotP)) = true := by decide +kernel
theorem good4 : GoD D4 := by
  refine ⟨by decide, by decide, by decide, by decide, by decide, by decide +kernel, by decide +kernel, by decide +kernel, by decide +kernel, by decide +kernel, by decide +kernel, by decide +kernel, fun e m => ?_, fun e m => ?_, by decide +kernel⟩
  · have h : ∀ e ∈ D4.ds, (e.2.1 = none ∨ ∃ z ∈ (["x", "y"] : List Str), e.2.1 = some z) ∧ ((e.1 ∈ D4.hs ∧ e.2.2 ∈ D4.hs) ∨ (e.1 ∈ D4.ss ∧ e.2.2 ∈ D4.ss)) := by decide +kernel
    obtain ⟨h1, h2⟩ := h e m
    refine ⟨fun z hz => ?_, h2⟩
    rcases h1 with h1 | ⟨y, my, h1⟩
    · rw [h1] at hz
      cases hz
    · rw [h1] at hz
      cases hz
      exact (by decide +kernel : ∀ y ∈ (["x", "y"] : List Str), nmS y = true) _ my
  · have h : ∀ e ∈ D4.rs, (∃ z ∈ (["x", "y"] : List Str), e.2.1 = some z) ∧ ((e.1 ∈ D4.hs ∧ e.2.2 ∈ D4.hs) ∨ (e.1 ∈ D4.ss ∧ e.2.2 ∈ D4.ss)) := by decide +kernel
    obtain ⟨⟨z, mz, h1⟩, h2⟩ := h e m
    exact ⟨⟨z, h1, (by decide +kernel : ∀ y ∈ (["x", "y"] : List Str), nmS y = true) _ mz⟩, h2⟩
section
variable {P : Program} {w : World} {K : PySem.W.Frag} {mg : Str → Option Value} {base : Heap}
set_option maxHeartbeats 16000000 in
theorem ok_law {f CL CI C CB1 CL3 CR3 : Addr} {fd : FuncData} (F : Fun K "law" "law" sLw f fd) (B : Bv mg) (T : LawT P w K mg base CL CI C CB1 CL3 CR3) : FnG P w K mg base 10 f fd ["_law_script"] (spLaw K) := by
  obtain ⟨fI, fdI, M, G, bG⟩ := T.bk.ex
  obtain ⟨fQ, fdQ, QQ, FQ, bQ⟩ := T.eq
  refine fun_okG F scLw (fun vs H Q E h => ?_) (fun cdv A outer s H vs Q E gd hr h => ?_)
  · obtain ⟨a, ns, rfl, _⟩ := h
    rfl
  · obtain ⟨a, ns, rfl, hS, hl, kq⟩ := h
    refine ⟨_, (pss_cons (ps_for PassesOwn.never rfl (pi_range1 rfl B.range (pa_cons pe_int pa_nil)) (pg_name (i := 1) scLw.nd rfl (Or.inl rfl)) (pss_cons (ps_set (i := 2) scLw.nd rfl (Or.inl rfl) (pe_df T.gen hr pass0 (pa_cons (pv 0) (pa_cons (pv 1) pa_nil))))
      (pss_cons (ps_set (i := 3) scLw.nd rfl (Or.inl rfl) (pe_df T.parts hr pass0 (pa_cons (pv 2) (pa_cons pe_int (pa_cons pe_int pa_nil)))))
      (pss_cons (ps_set (i := 4) scLw.nd rfl (Or.inl rfl) (pe_df T.lb hr pass0 (pa_cons (pv 3) pa_nil)))
      (pss_cons (ps_for PassesOwn.never rfl (pi_range1 rfl B.range (pa_cons pe_int pa_nil)) (pg_name (i := 5) scLw.nd rfl (Or.inl rfl)) (pss_cons (ps_set (i := 6) scLw.nd rfl (Or.inl rfl) (pe_df T.lot hr pass0 (pa_cons (pv 2) (pa_cons (pv 3) (pa_cons pe_int pa_nil)))))
      (pss_one (ps_if (pt_not (pt_val (pe_dfG T.right gd hr (pa_cons (pv 4) (pa_cons (pv 3) (pa_cons (pv 6) (pa_cons (pe_ix ix_list (pe_df T.drn hr pass0 (pa_cons (pv 2) (pa_cons (pv 3) (pa_cons (pv 6) (pa_cons pe_int pa_nil))))) pe_int (fun _ _ => rfl)) pa_nil))))))) (pss_one (ps_ret pe_bl)) pss_nil))))
      (pss_one (ps_if (PW.pt (pw_or (pt_not (pt_val (pe_dfG T.ref gd hr (pa_cons (pv 4) (pa_cons (pv 3) pa_nil))))) (pw_or1 (pt_cmpR (op_ownNe QQ FQ bQ (hr.mono (by decide))) (pv 4) (pe_df T.lb hr pass0 (pa_cons (pv 3) pa_nil)) (nomark _))))) (pss_one (ps_ret pe_bl)) pss_nil)))))))
      (pss_cons (ps_set (i := 7) scLw.nd rfl (Or.inl rfl) (pe_lst (pa_cons (pe_tup (pa_cons pe_str (pa_cons pe_str (pa_cons pe_str pa_nil)))) (pa_cons (pe_tup (pa_cons pe_str (pa_cons pe_str (pa_cons pe_str pa_nil)))) (pa_cons (pe_tup (pa_cons pe_str (pa_cons pe_str (pa_cons pe_str pa_nil)))) (pa_cons (pe_tup (pa_cons pe_str (pa_cons pe_str (pa_cons pe_str pa_nil)))) (pa_cons (pe_tup (pa_cons pe_str (pa_cons pe_str (pa_cons pe_str pa_nil)))) pa_nil)))))))
      (pss_cons (ps_set (i := 8) scLw.nd rfl (Or.inl rfl) (pe_lst (pa_cons (pe_tup (pa_cons pe_str (pa_cons pe_str (pa_cons pe_str pa_nil)))) (pa_cons (pe_tup (pa_cons pe_str (pa_cons pe_str (pa_cons pe_str pa_nil)))) (pa_cons (pe_tup (pa_cons pe_str (pa_cons pe_str (pa_cons pe_str pa_nil)))) (pa_cons (pe_tup (pa_cons pe_str (pa_cons pe_non (pa_cons pe_str pa_nil)))) pa_nil))))))
      (pss_cons (ps_set (i := 9) scLw.nd rfl (Or.inr rfl) (pe_make M G (hr.mono (by decide)) (by rfl) T.bk.g bG .nil passF (pa_cons (pe_lst (pa_cons pe_str (pa_cons pe_str pa_nil))) (pa_cons (pe_lst (pa_cons pe_str (pa_cons pe_str (pa_cons pe_str pa_nil)))) (pa_cons (pv 8) (pa_cons (pv 7) (pa_cons (pe_lst (pa_cons pe_str pa_nil)) pa_nil)))))))
      (pss_cons (ps_set (i := 10) scLw.nd rfl (Or.inr rfl) (pe_lst (pa_cons (pe_tup (pa_cons pe_str (pa_cons pe_int (pa_cons pe_non pa_nil)))) (pa_cons (pe_tup (pa_cons pe_str (pa_cons pe_int (pa_cons pe_non pa_nil)))) (pa_cons (pe_tup (pa_cons pe_str (pa_cons pe_int (pa_cons (pe_tup (pa_cons pe_int (pa_cons pe_int (pa_cons pe_int (pa_cons pe_int pa_nil))))) pa_nil)))) (pa_cons (pe_tup (pa_cons pe_str (pa_cons pe_int (pa_cons pe_non pa_nil)))) (pa_cons (pe_tup (pa_cons pe_str (pa_cons pe_str pa_nil))) pa_nil)))))))
      (pss_cons (ps_setLc (i := 11) (own := [("_law_size", 13)]) (g := gName 13) (tt := tYes) (te := tCall (spLd K C CB1 CL3 CR3) [] (fun _ _ _ => False) (tCons (tVar 9) (tCons (tTup (tCons (tC (.str "h")) (tCons (tLst (tCons (tC (.int 3)) (tCons (tC (.int 2)) (tCons (tC (.int 1)) tNil)))) tNil))) (tCons (L2.tSl (rSlL K) (tVar 10) tNoPart (tPart (tVar 13))) tNil)))) rfl scLw.nd rfl rfl (sw_true rfl rfl rfl rfl) (pi_range1 rfl B.range (pa_cons pe_int pa_nil)) (blkOk_by (N := NLw) (sc := defScope sLw) (by decide +kernel)) (fun _ _ _ _ _ => (pg_name (i := 13) scLw.nd rfl (Or.inl rfl))) (fun _ _ _ _ _ => pts_nil) (fun _ _ _ _ _ => (pe_df T.led hr passF (pa_cons (pv 9) (pa_cons (pe_tup (pa_cons pe_str (pa_cons (pe_lst (pa_cons pe_int (pa_cons pe_int (pa_cons pe_int pa_nil)))) pa_nil))) (pa_cons (pe_slice sl_list (pv 10) po_none (po_some (pv 13))) pa_nil))))))
      (pss_cons (ps_set (i := 12) scLw.nd rfl (Or.inl rfl) (pe_lst (pa_cons (pe_tup (pa_cons pe_str (pa_cons (pe_lst (pa_cons pe_int (pa_cons pe_int (pa_cons pe_int pa_nil)))) pa_nil))) (pa_cons (pe_tup (pa_cons pe_str (pa_cons (pe_lst (pa_cons pe_int (pa_cons pe_int (pa_cons pe_int pa_nil)))) pa_nil))) (pa_cons (pe_tup (pa_cons pe_str (pa_cons (pe_lst (pa_cons pe_int (pa_cons pe_int (pa_cons pe_int pa_nil)))) pa_nil))) (pa_cons (pe_tup (pa_cons pe_str (pa_cons (pe_lst (pa_cons pe_int (pa_cons pe_int (pa_cons pe_int pa_nil)))) pa_nil))) (pa_cons (pe_tup (pa_cons pe_str (pa_cons (pe_lst (pa_cons pe_int (pa_cons pe_int (pa_cons pe_int pa_nil)))) pa_nil))) (pa_cons (pe_tup (pa_cons pe_str (pa_cons (pe_lst (pa_cons pe_int (pa_cons pe_int (pa_cons pe_int pa_nil)))) pa_nil))) pa_nil))))))))
      (pss_one (ps_ret (pe_cmpR (op_eqD (un64 hr)) (pv 11) (pv 12) (nomark _))))))))))), ?_⟩
    refine q_forR1 (n := 5) (ea_cons ev_c ea_nil) ⟨by decide, by decide⟩ (fun _ σ' H' => (∃ s1 s2 s3 s4 s5 s6, σ' = [some (.ref a), s1, s2, s3, s4, s5, s6, none, none, none, none, none, none, none]) ∧ Ex H H') (fun H1 e1 => ⟨⟨_, _, _, _, _, _, rfl⟩, e1⟩) (fun i σ' H' hi pv => ?_) (fun σ' H' pv => ?_)
    · obtain ⟨⟨s1, s2, s3, s4, s5, s6, rfl⟩, e0⟩ := pv
      have hi' : i < 5 := by omega
      dsimp only
      refine q_norm (σ' := [some (.ref a), some (.int (i : Int)), s2, s3, s4, s5, s6, none, none, none, none, none, none, none]) rfl ?_
      refine ⟨_, rfl, _, rfl, a, ns, i, rfl, ex_l e0 hS, hl, by omega, fun gg G0 ng hG => ?_⟩
      refine ⟨_, rfl, gg, 3, 4, (1000 * i : Int), rfl, ⟨G0, upd_same, hG⟩, by omega, ⟨by decide, by decide⟩, ⟨by decide, by decide⟩, fun p H2 D a0 a1 a2 a3 a4 R2 R3 mv hG2 hP ok nn => ?_⟩
      have g : GoD D := (goodD ok (by decide) (by decide)).1
      have e2 : Ex H' H2 := fun b u hb => mv b u (ne_of_none hb ng) (by rw [upd_ne (ne_of_none hb ng)]; exact hb)
      have nH2 : H gg = none := fresh_back e0 ng
      obtain ⟨G2, hG2', gl2⟩ := hG2
      have ngs : ∀ b ∈ [p, a0, a1, a2, a3, a4], b ≠ gg := fun b m q => by
        have := nn b m
        rw [q, upd_same] at this
        cases this
      have hS' : ∀ s ∈ D.ss, s ∈ allS := fun s ms => by
        obtain ⟨k, _, _, es⟩ := ok.ss
        rw [es] at ms
        exact List.mem_of_mem_take ms
      have sl2 : ∀ G, Ex H2 G → SL K G p (D5 D) := fun G e => by
        have hPe := hP.ex e
        exact ⟨_, SqL.of hPe.p, .cons (.lst (SqL.of hPe.h0) (sw_strs _)) (.cons (.lst (SqL.of hPe.h1) (sw_strs _)) (.cons (.lst (SqL.of hPe.h2) (sw_tups hPe.t2)) (.cons (.lst (SqL.of hPe.h3) (sw_tups hPe.t3)) (.cons (.lst (SqL.of hPe.h4) (sw_strs _)) .nil))))⟩
      obtain ⟨ps, ps1, ps2⟩ := sl2 H2 (Ex.refl _)
      refine ⟨_, rfl, p, _, _, _, _, _, rfl, ⟨ps, ps1, ps2⟩, good_fit g, good_none g, fun x H3 nx e3 nb => ?_⟩
      have hG3 := e3 _ _ hG2'
      have nenl : ∀ l : List En, noLs (l.map enD) = true := fun l => noLs_all fun d md => by
        obtain ⟨e, _, rfl⟩ := List.mem_map.mp md
        obtain ⟨e1, e2, e3⟩ := e
        cases e2 <;> rfl
      have nstr : ∀ l : List Str, noLs (l.map PyData.str) = true := fun l => noLs_all fun d md => by
        obtain ⟨e, _, rfl⟩ := List.mem_map.mp md
        rfl
      have mvd : Mv gg H3 (dl H3 gg) := fun b o nb hb => by rw [dl_ne nb]; exact hb
      have hP3 := hP.ex e3
      have pt3 : PtS K (dl H3 gg) p D := ⟨a0, a1, a2, a3, a4, R2.map V.ref, R3.map V.ref, SqL.of (by rw [dl_ne (ngs p (by simp))]; exact hP3.p), SqL.of (by rw [dl_ne (ngs a0 (by simp))]; exact hP3.h0), SqL.of (by rw [dl_ne (ngs a1 (by simp))]; exact hP3.h1), SqL.of (by rw [dl_ne (ngs a2 (by simp))]; exact hP3.h2), swAll_no hG3 mvd _ _ (nenl _) (sw_tups hP3.t2), SqL.of (by rw [dl_ne (ngs a3 (by simp))]; exact hP3.h3), swAll_no hG3 mvd _ _ (nenl _) (sw_tups hP3.t3), SqL.of (by rw [dl_ne (ngs a4 (by simp))]; exact hP3.h4)⟩
      have bk3 : BkP K (dl H3 gg) C x D := by
        obtain ⟨BB, ⟨dx, b1, b2, b3, b4, b5, z0, ⟨z1, z2, z3, z4, z5⟩, ⟨y1, y2, y3, y4, y5⟩⟩, w1, w2, w3, w4, w5⟩ := nb
        have nb' : ∀ b : Addr, H2 b = none → b ≠ gg := fun b q => (ne_of_none hG2' q).symm
        refine ⟨BB, ⟨dx, b1, b2, b3, b4, b5, ?_, ?_, ?_, ?_, ?_, ?_⟩, swAll_no hG3 mvd _ _ (nstr _) w1, swAll_no hG3 mvd _ _ (nstr _) w2, swAll_no hG3 mvd _ _ (nenl _) w3, swAll_no hG3 mvd _ _ (nenl _) w4, swAll_no hG3 mvd _ _ (nstr _) w5⟩
        · rw [dl_ne (ne_of z0 hG3 (by intro q; cases q))]
          exact z0
        · rw [dl_ne (nb' _ y1)]
          exact z1
        · rw [dl_ne (nb' _ y2)]
          exact z2
        · rw [dl_ne (nb' _ y3)]
          exact z3
        · rw [dl_ne (nb' _ y4)]
          exact z4
        · rw [dl_ne (nb' _ y5)]
          exact z5
      have eB : Ex H (dl H3 gg) := dl_ex ((e0.trans e2).trans e3) nH2
      have nBg : dl H3 gg gg = none := dl_same
      have upB := dl_up (H := H3) (g := gg)
      have sl3 : ∀ G, Ex (dl H3 gg) G → SL K G p (D5 D) := fun G e => by
        obtain ⟨b0, b1, b2, b3, b4, Y2, Y3, z0, z1, z2, z3, w3, z4, w4, z5⟩ := pt3.ex e
        exact ⟨_, z0, .cons (.lst z1 (sw_strs _)) (.cons (.lst z2 (sw_strs _)) (.cons (.lst z3 w3) (.cons (.lst z4 w4) (.cons (.lst z5 (sw_strs _)) .nil))))⟩
      refine g_name ?_
      dsimp only
      refine q_norm (σ' := [some (.ref a), some (.int (i : Int)), some (.ref gg), some (.ref p), some (.ref x), s5, s6, none, none, none, none, none, none, none]) rfl ?_
      refine q_forR1 (n := 4) (ea_cons ev_c ea_nil) ⟨by decide, by decide⟩ (fun j σ' H' => (∃ s5 s6, σ' = [some (.ref a), some (.int (i : Int)), some (.ref gg), some (.ref p), some (.ref x), s5, s6, none, none, none, none, none, none, none]) ∧ Ex (dl H3 gg) H' ∧ GenAt H' gg (1000 * i + 400 + 5000100 * j)) (fun H4 e4 => ⟨⟨_, _, rfl⟩, upB.trans e4, G2, e4 _ _ hG3, gl2.mono (by omega)⟩) (fun j σ' H4 hj pv => ?_) (fun σ' H4 pv => ?_)
      · obtain ⟨⟨t5, t6, rfl⟩, e4, gen4⟩ := pv
        dsimp only
        refine q_norm (σ' := [some (.ref a), some (.int (i : Int)), some (.ref gg), some (.ref p), some (.ref x), some (.int (j : Int)), t6, none, none, none, none, none, none, none]) rfl ?_
        refine q_asgX ?_
        refine ⟨_, rfl, _, rfl, gg, p, _, D, rfl, gen4, by omega, pt3.ex (dl_ex e4 nBg), g, fun v' H5 y mv5 gen5 oy wy => ?_⟩
        have e5 : Ex (dl H3 gg) H5 := (dl_ex e4 nBg).trans (dl_of mv5)
        refine q_norm (tz := tIfS _ _ _) (σ' := [some (.ref a), some (.int (i : Int)), some (.ref gg), some (.ref p), some (.ref x), some (.int (j : Int)), some v', none, none, none, none, none, none, none]) rfl ?_
        refine ⟨_, rfl, _, rfl, _, rfl, _, rfl, _, rfl, _, rfl, gg, p, _, v', D, y, rfl, gen5, by omega, pt3.ex (dl_ex e5 nBg), g, hS', oy, wy, fun q rn vh H6 es z mv6 gen6 rw6 el6 hq6 nq6 tl6 => ?_⟩
        have e56 : Ex (dl H5 gg) H6 := dl_of mv6
        have e6 : Ex (dl H3 gg) H6 := (dl_ex e5 nBg).trans e56
        refine ⟨q, _, 0, .ref rn, rfl, rfl, SqL.of hq6, atI_nat (j := 0) rfl, x, p, rn, v', D, y, z, es, rfl, BookD.ex e6 bk3, pt3.ex e6, g, hS', oy, Sw.ex e56 _ _ wy, tl6.ex dl_up, rw6, el6, fun H7 e7 => ⟨true, rfl, ?_⟩⟩
        obtain ⟨G6, hG6, gl6⟩ := gen6
        exact ⟨⟨_, _, rfl⟩, e6.trans e7, G6, e7 _ _ hG6, gl6.mono (by omega)⟩
      · obtain ⟨⟨t5, t6, rfl⟩, e4, gen4⟩ := pv
        have hrf : Ev (tCall (spRf K C) [] E0 (tCons (tVar 4) (tCons (tVar 3) tNil))) [some (.ref a), some (.int (i : Int)), some (.ref gg), some (.ref p), some (.ref x), t5, t6, none, none, none, none, none, none, none] H4 (.bl true) := fun H5 e5 Q5 q5 => ⟨_, rfl, _, rfl, x, p, D, rfl, BookD.ex (e4.trans e5) bk3, pt3.ex (e4.trans e5), g, ok, fun H6 e6 => q5 H6 e6⟩
        refine s_when (b := false) (et_or (a := false) (b := false) (et_not (a := true) (et_test hrf)) fun _ => et_test (ev_neSame (ev_var rfl) rfl (BookD.ex e4 bk3) g (sl3 H4 e4))) (fun z => nomatch z) (fun _ H5 e5 => ⟨⟨_, _, _, _, _, _, rfl⟩, eB.trans (e4.trans e5)⟩)
    · obtain ⟨⟨s1, s2, s3, s4, s5, s6, rfl⟩, e0⟩ := pv
      refine q_asgX ?_
      refine EvD.el_lst (K := K) (ds := rs4.map enD) (eda_cons (ed_tup (eda_cons ed_str (eda_cons ed_str (eda_cons ed_str eda_nil))) (by simp)) (eda_cons (ed_tup (eda_cons ed_str (eda_cons ed_str (eda_cons ed_str eda_nil))) (by simp)) (eda_cons (ed_tup (eda_cons ed_str (eda_cons ed_str (eda_cons ed_str eda_nil))) (by simp)) (eda_cons (ed_tup (eda_cons ed_str (eda_cons ed_str (eda_cons ed_str eda_nil))) (by simp)) (eda_cons (ed_tup (eda_cons ed_str (eda_cons ed_str (eda_cons ed_str eda_nil))) (by simp)) eda_nil))))) (by simp [rs4]) H' (Ex.refl _) _ fun c7 H1 e1 t7 => ?_
      refine q_asgX ?_
      refine EvD.el_lst (K := K) (ds := ds4.map enD) (eda_cons (ed_tup (eda_cons ed_str (eda_cons ed_str (eda_cons ed_str eda_nil))) (by simp)) (eda_cons (ed_tup (eda_cons ed_str (eda_cons ed_str (eda_cons ed_str eda_nil))) (by simp)) (eda_cons (ed_tup (eda_cons ed_str (eda_cons ed_str (eda_cons ed_str eda_nil))) (by simp)) (eda_cons (ed_tup (eda_cons ed_str (eda_cons ed_non (eda_cons ed_str eda_nil))) (by simp)) eda_nil)))) (by simp [ds4]) H1 (Ex.refl _) _ fun c8 H2 e2 t8 => ?_
      refine q_norm (σ' := [some (.ref a), s1, s2, s3, s4, s5, s6, some (.ref c7), some (.ref c8), none, none, none, none, none]) rfl ?_
      refine make_book (d1 := strsD D4.hs) (d2 := strsD D4.ss) (d3 := .list (D4.ds.map enD)) (d4 := .list (D4.rs.map enD)) (d5 := strsD D4.ls) (eda_cons (ed_lst (eda_cons ed_str (eda_cons ed_str eda_nil)) (by simp [D4])) (eda_cons (ed_lst (eda_cons ed_str (eda_cons ed_str (eda_cons ed_str eda_nil))) (by simp [D4])) (eda_cons (ed_of (el_var rfl t8)) (eda_cons (ed_of (el_var rfl (t7.ex e2))) (eda_cons (ed_lst (eda_cons ed_str eda_nil) (by simp [D4])) eda_nil))))) (good_none good4) (good_fit good4) fun x H3 H4 e3 e4 nb => ?_
      have bkx := nb.is
      refine q_asgX ?_
      refine eln_lst (K := K) (ds := es4.map evD) (eda_cons (ed_tup (eda_cons ed_str (eda_cons ed_int (eda_cons ed_non eda_nil))) (by simp)) (eda_cons (ed_tup (eda_cons ed_str (eda_cons ed_int (eda_cons ed_non eda_nil))) (by simp)) (eda_cons (ed_tup (eda_cons ed_str (eda_cons ed_int (eda_cons (ed_tup (eda_cons ed_int (eda_cons ed_int (eda_cons ed_int (eda_cons ed_int eda_nil)))) (by simp)) eda_nil))) (by simp)) (eda_cons (ed_tup (eda_cons ed_str (eda_cons ed_int (eda_cons ed_non eda_nil))) (by simp)) (eda_cons (ed_tup (eda_cons ed_str (eda_cons ed_str eda_nil)) (by simp)) eda_nil))))) (by simp [es4]) H4 (Ex.refl _) _ fun rl H5 nrl e5 trl => ?_
      refine q_norm (σ' := [some (.ref a), s1, s2, s3, s4, s5, s6, some (.ref c7), some (.ref c8), some (.ref x), some (.ref rl), none, none, none]) rfl ?_
      refine q_asgX ?_
      refine ⟨6, rfl, by decide, by decide, fun Dl hD => lc_range (lo := 0) (n := 6) (fun j G => Ex H5 G ∧ ∃ zs, G Dl = some (.lst zs) ∧ SwAll K (dl G Dl) zs ((due4.take j).map lotP)) ⟨Ex.new hD, [], upd_same, .nil⟩ (fun j G hj pv => ?_) fun G pv => ?_⟩
      · obtain ⟨eG, zs, hz, wz⟩ := pv
        refine ⟨rfl, ?_⟩
        have hrl : EL K (tVar 10) [some (.ref a), s1, s2, s3, s4, s5, s6, some (.ref c7), some (.ref c8), some (.ref x), some (.ref rl), none, none, some (.int (0 + (j : Int)))] G (es4.map evD) := el_var rfl (trl.ex eG)
        have hsl : EL K (L2.tSl (rSlL K) (tVar 10) tNoPart (tPart (tVar 13))) [some (.ref a), s1, s2, s3, s4, s5, s6, some (.ref c7), some (.ref c8), some (.ref x), some (.ref rl), none, none, some (.int (0 + (j : Int)))] G ((es4.take j).map evD) := by
          have := el_sl (K := K) (n := j) (th := tPart (tVar 13)) (σ := [some (.ref a), s1, s2, s3, s4, s5, s6, some (.ref c7), some (.ref c8), some (.ref x), some (.ref rl), none, none, some (.int (0 + (j : Int)))]) hrl fun H6 e6 Q6 q6 => ⟨_, rfl, _, rfl, by rw [Int.zero_add]; exact q6 H6 (Ex.refl _)⟩
          rw [← List.map_take] at this
          exact this
        have hlot : ED K (tTup (tCons (tC (.str "h")) (tCons (tLst (tCons (tC (.int 3)) (tCons (tC (.int 2)) (tCons (tC (.int 1)) tNil)))) tNil))) [some (.ref a), s1, s2, s3, s4, s5, s6, some (.ref c7), some (.ref c8), some (.ref x), some (.ref rl), none, none, some (.int (0 + (j : Int)))] G (lotD "h" [3, 2, 1]) := ed_tup (eda_cons ed_str (eda_cons (ed_lst (eda_cons ed_int (eda_cons ed_int (eda_cons ed_int eda_nil))) (by simp)) eda_nil)) (by simp)
        refine ⟨_, rfl, hlot G (Ex.refl _) _ fun lv G1 f1 wl => hsl G1 f1 _ fun sp G2 f2 tsp => ?_⟩
        have jr : j ∈ List.range 6 := List.mem_range.mpr hj
        have r4 := run4 j jr
        obtain ⟨du, hdu⟩ : ∃ du, due4[j]? = some du := ⟨_, List.getElem?_eq_getElem (by show j < 6; exact hj)⟩
        rw [hdu] at r4
        have eok : ∀ e ∈ es4.take j, EvOk e := fun e m => by
          have h : ∀ e ∈ es4, Small e ∨ True := fun _ _ => .inr trivial
          have m' := List.mem_of_mem_take m
          simp only [es4, List.mem_cons, List.not_mem_nil, or_false] at m'
          rcases m' with rfl | rfl | rfl | rfl | rfl <;> trivial
        refine ⟨.ref x, lv, .ref sp, rfl, .inr ⟨x, D4, _, rfl, BookD.ex (((e5.trans eG).trans f1).trans f2) bkx, good4, Sw.ex f2 _ _ wl, fun hf => (by rw [lot4] at hf; cases hf), fun _ => ⟨"h", [3, 2, 1], rfl, .inr ⟨es4.take j, tsp.sw, eok, fun hn => (by rw [r4] at hn; cases hn), fun y hy t G3 nt f3 lt => ?_⟩⟩⟩⟩
        rw [r4] at hy
        obtain rfl := Option.some.inj hy
        obtain ⟨cl, ht, hcl, ncl⟩ := lt
        have fG := (f1.trans f2).trans f3
        have hz2 := f2 _ _ (f1 _ _ hz)
        have hz3 := f3 _ _ hz2
        have nt' : t ≠ Dl := (ne_of_none hz2 nt).symm
        have nc' : cl ≠ Dl := (ne_of_none hz2 ncl).symm
        have wt : Sw K (dl G3 Dl) (.ref t) (lotP du) := .tup (SqT.of (by rw [dl_ne nt']; exact ht)) (.cons (.str _) (.cons (.lst (SqL.of (by rw [dl_ne nc']; exact hcl)) (sw_ints _)) .nil))
        refine ⟨zs, hz3, sz_lt (by rw [swAll_len wz]; simp only [List.length_map, List.length_take]; omega), (eG.trans fG).mut hD, _, upd_same, ?_⟩
        have edl : Ex (dl G Dl) (dl G3 Dl) := dl_ex (dl_up.trans fG) dl_same
        rw [dl_upd, List.take_succ, hdu, List.map_append]
        exact swAll_app (SwAll.ex edl _ _ wz) (.cons wt .nil)
      · obtain ⟨eG, zs, hz, wz⟩ := pv
        have wz' : Sw K G (.ref Dl) (.list (due4.map lotP)) := by
          have : due4.take 6 = due4 := rfl
          rw [this] at wz
          exact .lst (SqL.of hz) (SwAll.ex dl_up _ _ wz)
        have elot : ∀ (σ : L2.St) (h : Str) (i1 i2 i3 : Int) (H : Hp), ED K (tTup (tCons (tC (.str h)) (tCons (tLst (tCons (tC (.int i1)) (tCons (tC (.int i2)) (tCons (tC (.int i3)) tNil)))) tNil))) σ H (lotP (h, [i1, i2, i3])) := fun σ h i1 i2 i3 H => ed_tup (eda_cons ed_str (eda_cons (ed_lst (eda_cons ed_int (eda_cons ed_int (eda_cons ed_int eda_nil))) (by simp)) eda_nil)) (by simp)
        refine g_name ?_
        dsimp only
        refine Noc.q_asgD (K := K) (d := .list (due4.map lotP)) (ed_lst (ds := due4.map lotP) (eda_cons (elot _ _ _ _ _ _) (eda_cons (elot _ _ _ _ _ _) (eda_cons (elot _ _ _ _ _ _) (eda_cons (elot _ _ _ _ _ _) (eda_cons (elot _ _ _ _ _ _) (eda_cons (elot _ _ _ _ _ _) eda_nil)))))) (by simp [due4])) fun dv G1 f1 wd => ?_
        refine s_ret (v := .bl true) (fun G2 f2 Q2 q2 => ⟨_, rfl, _, rfl, .list (due4.map lotP), .list (due4.map lotP), sw_dp _ _ (Sw.ex (f1.trans f2) _ _ wz') (SeqAt.canLay_of_shaped shp4), sw_dp _ _ (Sw.ex f2 _ _ wd) (SeqAt.canLay_of_shaped shp4), shp4, shp4, ?_⟩) fun G2 f2 => kq G2
        rw [SeqAt.eqv_refl _ (SeqAt.canLay_of_shaped shp4)]
        exact q2 G2 (Ex.refl _)
end
end Lwk

/-! ### the errors of lots and runs -/
namespace Er3
open PySem PySem.Spec PyProof.Rows L2 Evl ExV Gen Er
theorem scInvalidBook : FnScope ["self", "value"] ["self", "value"] (defScope (inClass (top 4) 0)) := ⟨rfl, rfl, rfl, by decide +kernel, rfl, by decide +kernel, by decide +kernel⟩
theorem scInvalidLot : FnScope ["self", "value"] ["self", "value"] (defScope (inClass (top 5) 0)) := ⟨rfl, rfl, rfl, by decide +kernel, rfl, by decide +kernel, by decide +kernel⟩
theorem scInvalidRun : FnScope ["self", "value"] ["self", "value"] (defScope (inClass (top 6) 0)) := ⟨rfl, rfl, rfl, by decide +kernel, rfl, by decide +kernel, by decide +kernel⟩
section
variable {P : Program} {w : World} {K : PySem.W.Frag} {mg : Str → Option Value} {base : Heap}
theorem erC_InvalidBook {fI C : Addr} {fd : FuncData} (F : FunD K "__init__" "InvalidBook.__init__" (defArgs (inClass (top 4) 0)) (defBody (inClass (top 4) 0)) (defScope (inClass (top 4) 0)) [V.non] [] fI fd) (O : Own K C fI) (no : PySem.W.findIn K (.ref C) "value" = some none) (gC : mg "InvalidBook" = some (.ref C)) : ErC P w K mg base "InvalidBook" "value" C := by
  obtain ⟨d1, r1, B1⟩ := F.binds1 (ps := ["self", "value"]) 2 1 (by simp) rfl (fun T kV doc pm an cdv ct us its h1 h2 => match us, its, h1, h2 with | [_, _], [_], _, _ => ⟨_, rfl, rfl⟩)
  cases r1
  refine ⟨⟨fI, fd, O, F.ok scInvalidBook (fun vs H Q E h => ?_) (fun cdv A outer s H vs Q E hr h => ?_), B1⟩, gC⟩
  · obtain ⟨a, y, rfl, _⟩ := h
    rfl
  · obtain ⟨a, y, rfl, ha, k⟩ := h
    exact ⟨_, pss_one (ps_ost (pv 0) (pv 1)), _, rfl, _, rfl, a, C, rfl, O.ox, no, .inl ⟨ha, k⟩⟩
theorem erC_InvalidLot {fI C : Addr} {fd : FuncData} (F : FunD K "__init__" "InvalidLot.__init__" (defArgs (inClass (top 5) 0)) (defBody (inClass (top 5) 0)) (defScope (inClass (top 5) 0)) [V.non] [] fI fd) (O : Own K C fI) (no : PySem.W.findIn K (.ref C) "value" = some none) (gC : mg "InvalidLot" = some (.ref C)) : ErC P w K mg base "InvalidLot" "value" C := by
  obtain ⟨d1, r1, B1⟩ := F.binds1 (ps := ["self", "value"]) 2 1 (by simp) rfl (fun T kV doc pm an cdv ct us its h1 h2 => match us, its, h1, h2 with | [_, _], [_], _, _ => ⟨_, rfl, rfl⟩)
  cases r1
  refine ⟨⟨fI, fd, O, F.ok scInvalidLot (fun vs H Q E h => ?_) (fun cdv A outer s H vs Q E hr h => ?_), B1⟩, gC⟩
  · obtain ⟨a, y, rfl, _⟩ := h
    rfl
  · obtain ⟨a, y, rfl, ha, k⟩ := h
    exact ⟨_, pss_one (ps_ost (pv 0) (pv 1)), _, rfl, _, rfl, a, C, rfl, O.ox, no, .inl ⟨ha, k⟩⟩
theorem erC_InvalidRun {fI C : Addr} {fd : FuncData} (F : FunD K "__init__" "InvalidRun.__init__" (defArgs (inClass (top 6) 0)) (defBody (inClass (top 6) 0)) (defScope (inClass (top 6) 0)) [V.non] [] fI fd) (O : Own K C fI) (no : PySem.W.findIn K (.ref C) "value" = some none) (gC : mg "InvalidRun" = some (.ref C)) : ErC P w K mg base "InvalidRun" "value" C := by
  obtain ⟨d1, r1, B1⟩ := F.binds1 (ps := ["self", "value"]) 2 1 (by simp) rfl (fun T kV doc pm an cdv ct us its h1 h2 => match us, its, h1, h2 with | [_, _], [_], _, _ => ⟨_, rfl, rfl⟩)
  cases r1
  refine ⟨⟨fI, fd, O, F.ok scInvalidRun (fun vs H Q E h => ?_) (fun cdv A outer s H vs Q E hr h => ?_), B1⟩, gC⟩
  · obtain ⟨a, y, rfl, _⟩ := h
    rfl
  · obtain ⟨a, y, rfl, ha, k⟩ := h
    exact ⟨_, pss_one (ps_ost (pv 0) (pv 1)), _, rfl, _, rfl, a, C, rfl, O.ox, no, .inl ⟨ha, k⟩⟩
end
end Er3

/-! ### what the top has left -/
namespace Fi
open PySem PySem.Spec PyProof.Rows L2 Evl ExV Gen Ent Rep Dat Nm Er Chk Gu Deed Pts Hear Lst Bk Cau EvD BadE EntR Lis Prd NmR Bmk EqB OwnQ RevQ God Oth LwP Inf Stp Stq RZ Wth Sta Aft Af2 Ini Rna Led Noc Cho Beh Dnx Nxt Nxp Inj Wlk Lot Drn Prw Rig Cak Ref LwN Lwk Er3
theorem mro_of {K : PySem.W.Frag} {C N : Addr} {nm q : Str} {bs bm : List Value} {sn : List Str} {sb : List Value} {ab hd : Bool} {co : Option Bool} {dd : Option Addr} {ka kb kc kd ke : Option Value} {n : String}
    (xL : K.lookup C = some (excClassObj nm q C N bs bm hd sn sb ab co dd ka kb kc kd ke n)) (b : Value) : PySem.W.mroIn K C b = some ((Value.ref C :: bm).contains b) := by
  have hc : PySem.W.clsIn K C = some { name := nm, bases := bs, mro := .ref C :: bm, ns := N, qualname := q, hasDict := hd, slotNames := sn, subclasses := sb, abstract := ab, collection := co, hasDel := false } := by
    unfold PySem.W.clsIn
    rw [xL] <;> rfl
  unfold PySem.W.mroIn
  rw [hc, Option.bind_some]
  rfl
theorem kit_of2 {K : PySem.W.Frag} {C : Value} {D : Addr} {b : Bool} (hc : PySem.W.isClsIn K D = true) (ht : PySem.W.typeIn K (.ref D) = some (.type "type")) (hs : PySem.W.subIn K C (.ref D) = some b) (he : C = .ref D → b = true) : PySem.W.kitOne K C (.ref D) = some b ∧ PySem.W.kitCls K C (.ref D) = some b := by
  have q : PySem.W.kitCls K C (.ref D) = some b := by
    have h2 : ((PySem.W.clsIn K D).isSome && PySem.W.typeIn K (.ref D) == some (.type "type")) = true := by
      have h3 : (PySem.W.clsIn K D).isSome = true := hc
      rw [h3, ht]
      rfl
    show (if ((PySem.W.clsIn K D).isSome && PySem.W.typeIn K (.ref D) == some (.type "type")) = true then PySem.W.subIn K C (.ref D) else none) = some b
    rw [if_pos h2]
    exact hs
  refine ⟨?_, q⟩
  unfold PySem.W.kitOne
  by_cases e : C = .ref D
  · rw [he e, if_pos (by simp [e])]
  · rw [if_neg (by simpa using e)]
    exact q
theorem exm_of {K : PySem.W.Frag} {C D : Value} (h1 : PySem.W.subIn K D (.type "BaseException") = some true) (h2 : PySem.W.kitCls K C D = some true) : PySem.W.exmOne K C D = some true := by
  unfold PySem.W.exmOne
  rw [h1, if_pos (by rfl)]
  exact h2
theorem kit_ty2 {K : PySem.W.Frag} {D : Addr} {t : String} (hc : PySem.W.isClsIn K D = true) (ht : PySem.W.typeIn K (.ref D) = some (.type "type")) (hs : PySem.W.subIn K (.type t) (.ref D) = some false) : PySem.W.kitOne K (.type t) (.ref D) = some false :=
  (kit_of2 hc ht hs fun z => by cases z).1
set_option maxHeartbeats 8000000 in
theorem all_mk {l : PySem.W.OpenLaw} {w : World} {K : PySem.W.Frag} {h : Heap} {mg : Str → Option Value} {fa : Addr} (X : K.In h) (G : h.Ns mainGlobals mg) (hfa : mg "law" = some (.ref fa))
    {CH NH : Addr} {nmH qH : Str} {bsH : List Value} {snH : List Str} {sbH : List Value} {abH : Bool} {coH : Option Bool} {ddH : Option Addr} {kaH kbH kcH kdH keH : Option Value}
    {CL NL : Addr} {nmL qL : Str} {bsL : List Value} {snL : List Str} {sbL : List Value} {abL : Bool} {coL : Option Bool} {ddL : Option Addr} {kaL kbL kcL kdL keL : Option Value}
    {TL : Addr} {toL : Value} {tdL : Option Addr} {tnL : Nat} {tsL : Array (Option Value)}
    {fIL : Addr} {odIL anIL : Option Addr} {slIL : Array (Option Value)} {ocIL kVIL dcIL pmIL cdIL ctIL : Value}
    {CE NE : Addr} {nmE qE : Str} {bsE : List Value} {snE : List Str} {sbE : List Value} {abE : Bool} {coE : Option Bool} {ddE : Option Addr} {kaE kbE kcE kdE keE : Option Value}
    {TE : Addr} {toE : Value} {tdE : Option Addr} {tnE : Nat} {tsE : Array (Option Value)}
    {fIE : Addr} {odIE anIE : Option Addr} {slIE : Array (Option Value)} {ocIE kVIE dcIE pmIE cdIE ctIE : Value}
    {CP NP : Addr} {nmP qP : Str} {bsP : List Value} {snP : List Str} {sbP : List Value} {abP : Bool} {coP : Option Bool} {ddP : Option Addr} {kaP kbP kcP kdP keP : Option Value}
    {TP : Addr} {toP : Value} {tdP : Option Addr} {tnP : Nat} {tsP : Array (Option Value)}
    {fIP : Addr} {odIP anIP : Option Addr} {slIP : Array (Option Value)} {ocIP kVIP dcIP pmIP cdIP ctIP : Value}
    {CQ NQ : Addr} {nmQ qQ : Str} {bsQ : List Value} {snQ : List Str} {sbQ : List Value} {abQ : Bool} {coQ : Option Bool} {ddQ : Option Addr} {kaQ kbQ kcQ kdQ keQ : Option Value}
    {TQ : Addr} {toQ : Value} {tdQ : Option Addr} {tnQ : Nat} {tsQ : Array (Option Value)}
    {fIQ : Addr} {odIQ anIQ : Option Addr} {slIQ : Array (Option Value)} {ocIQ kVIQ dcIQ pmIQ cdIQ ctIQ : Value}
    {CR NR : Addr} {nmR qR : Str} {bsR : List Value} {snR : List Str} {sbR : List Value} {abR : Bool} {coR : Option Bool} {ddR : Option Addr} {kaR kbR kcR kdR keR : Option Value}
    {TR : Addr} {toR : Value} {tdR : Option Addr} {tnR : Nat} {tsR : Array (Option Value)}
    {fIR : Addr} {odIR anIR : Option Addr} {slIR : Array (Option Value)} {ocIR kVIR dcIR pmIR cdIR ctIR : Value}
    {CB : Addr}
    {fBI : Addr} {odBI anBI : Option Addr} {slBI : Array (Option Value)} {ocBI kVBI dcBI pmBI cdBI ctBI : Value}
    {fM1 : Addr} {odM1 anM1 : Option Addr} {slM1 : Array (Option Value)} {ocM1 kVM1 dcM1 pmM1 cdM1 ctM1 : Value}
    {fM2 : Addr} {odM2 anM2 : Option Addr} {slM2 : Array (Option Value)} {ocM2 kVM2 dcM2 pmM2 cdM2 ctM2 : Value}
    {fM3 : Addr} {odM3 anM3 : Option Addr} {slM3 : Array (Option Value)} {ocM3 kVM3 dcM3 pmM3 cdM3 ctM3 : Value}
    {fM4 : Addr} {odM4 anM4 : Option Addr} {slM4 : Array (Option Value)} {ocM4 kVM4 dcM4 pmM4 cdM4 ctM4 : Value}
    {fM5 : Addr} {odM5 anM5 : Option Addr} {slM5 : Array (Option Value)} {ocM5 kVM5 dcM5 pmM5 cdM5 ctM5 : Value}
    {fEq : Addr} {odEq anEq : Option Addr} {slEq : Array (Option Value)} {ocEq kVEq dcEq pmEq cdEq ctEq : Value}
    {CS : Addr}
    {fSI : Addr} {odSI anSI : Option Addr} {slSI : Array (Option Value)} {ocSI kVSI dcSI pmSI cdSI ctSI : Value}
    {fS3 : Addr} {odS3 anS3 : Option Addr} {slS3 : Array (Option Value)} {ocS3 kVS3 dcS3 pmS3 cdS3 ctS3 : Value}
    {fS4 : Addr} {odS4 anS4 : Option Addr} {slS4 : Array (Option Value)} {ocS4 kVS4 dcS4 pmS4 cdS4 ctS4 : Value}
    {fS5 : Addr} {odS5 anS5 : Option Addr} {slS5 : Array (Option Value)} {ocS5 kVS5 dcS5 pmS5 cdS5 ctS5 : Value}
    {fS6 : Addr} {odS6 anS6 : Option Addr} {slS6 : Array (Option Value)} {ocS6 kVS6 dcS6 pmS6 cdS6 ctS6 : Value}
    {fS7 : Addr} {odS7 anS7 : Option Addr} {slS7 : Array (Option Value)} {ocS7 kVS7 dcS7 pmS7 cdS7 ctS7 : Value}
    {fS9 : Addr} {odS9 anS9 : Option Addr} {slS9 : Array (Option Value)} {ocS9 kVS9 dcS9 pmS9 cdS9 ctS9 : Value}
    {fS10 : Addr} {odS10 anS10 : Option Addr} {slS10 : Array (Option Value)} {ocS10 kVS10 dcS10 pmS10 cdS10 ctS10 : Value}
    {fCe : Addr} {odCe anCe : Option Addr} {slCe : Array (Option Value)} {ocCe kVCe dcCe pmCe cdCe ctCe : Value}
    {fHa : Addr} {odHa anHa : Option Addr} {slHa : Array (Option Value)} {ocHa kVHa dcHa pmHa cdHa ctHa : Value}
    {fGe : Addr} {odGe anGe : Option Addr} {slGe : Array (Option Value)} {ocGe kVGe dcGe pmGe cdGe ctGe : Value}
    {fRa : Addr} {odRa anRa : Option Addr} {slRa : Array (Option Value)} {ocRa kVRa dcRa pmRa cdRa ctRa : Value}
    {fEn : Addr} {odEn anEn : Option Addr} {slEn : Array (Option Value)} {ocEn kVEn dcEn pmEn cdEn ctEn : Value}
    {fPa : Addr} {odPa anPa : Option Addr} {slPa : Array (Option Value)} {ocPa kVPa dcPa pmPa cdPa ctPa : Value}
    {fLb : Addr} {odLb anLb : Option Addr} {slLb : Array (Option Value)} {ocLb kVLb dcLb pmLb cdLb ctLb : Value}
    {fCo : Addr} {odCo anCo : Option Addr} {slCo : Array (Option Value)} {ocCo kVCo dcCo pmCo cdCo ctCo : Value}
    {fBh : Addr} {odBh anBh : Option Addr} {slBh : Array (Option Value)} {ocBh kVBh dcBh pmBh cdBh ctBh : Value}
    {fDx : Addr} {odDx anDx : Option Addr} {slDx : Array (Option Value)} {ocDx kVDx dcDx pmDx cdDx ctDx : Value}
    {fNx : Addr} {odNx anNx : Option Addr} {slNx : Array (Option Value)} {ocNx kVNx dcNx pmNx cdNx ctNx : Value}
    {fDr : Addr} {odDr anDr : Option Addr} {slDr : Array (Option Value)} {ocDr kVDr dcDr pmDr cdDr ctDr : Value}
    {fWk : Addr} {odWk anWk : Option Addr} {slWk : Array (Option Value)} {ocWk kVWk dcWk pmWk cdWk ctWk : Value}
    {fLo : Addr} {odLo anLo : Option Addr} {slLo : Array (Option Value)} {ocLo kVLo dcLo pmLo cdLo ctLo : Value}
    {fRi : Addr} {odRi anRi : Option Addr} {slRi : Array (Option Value)} {ocRi kVRi dcRi pmRi cdRi ctRi : Value}
    {fCa : Addr} {odCa anCa : Option Addr} {slCa : Array (Option Value)} {ocCa kVCa dcCa pmCa cdCa ctCa : Value}
    {fRf : Addr} {odRf anRf : Option Addr} {slRf : Array (Option Value)} {ocRf kVRf dcRf pmRf cdRf ctRf : Value}
    {fLa : Addr} {odLa anLa : Option Addr} {slLa : Array (Option Value)} {ocLa kVLa dcLa pmLa cdLa ctLa : Value}
    {fNa : Addr} {odNa anNa : Option Addr} {slNa : Array (Option Value)} {ocNa kVNa dcNa pmNa cdNa ctNa : Value}
    {fCm : Addr} {odCm anCm : Option Addr} {slCm : Array (Option Value)} {ocCm kVCm dcCm pmCm cdCm ctCm : Value}
    {fCn : Addr} {odCn anCn : Option Addr} {slCn : Array (Option Value)} {ocCn kVCn dcCn pmCn cdCn ctCn : Value}
    {fDe : Addr} {odDe anDe : Option Addr} {slDe : Array (Option Value)} {ocDe kVDe dcDe pmDe cdDe ctDe : Value}
    {fHe : Addr} {odHe anHe : Option Addr} {slHe : Array (Option Value)} {ocHe kVHe dcHe pmHe cdHe ctHe : Value}
    {fAl : Addr} {odAl anAl : Option Addr} {slAl : Array (Option Value)} {ocAl kVAl dcAl pmAl cdAl ctAl : Value}
    {fCd : Addr} {odCd anCd : Option Addr} {slCd : Array (Option Value)} {ocCd kVCd dcCd pmCd cdCd ctCd : Value}
    {fCh : Addr} {odCh anCh : Option Addr} {slCh : Array (Option Value)} {ocCh kVCh dcCh pmCh cdCh ctCh : Value}
    {fWh : Addr} {odWh anWh : Option Addr} {slWh : Array (Option Value)} {ocWh kVWh dcWh pmWh cdWh ctWh : Value}
    {fCb : Addr} {odCb anCb : Option Addr} {slCb : Array (Option Value)} {ocCb kVCb dcCb pmCb cdCb ctCb : Value}
    {fWi : Addr} {odWi anWi : Option Addr} {slWi : Array (Option Value)} {ocWi kVWi dcWi pmWi cdWi ctWi : Value}
    {fIc : Addr} {odIc anIc : Option Addr} {slIc : Array (Option Value)} {ocIc kVIc dcIc pmIc cdIc ctIc : Value}
    {fIl : Addr} {odIl anIl : Option Addr} {slIl : Array (Option Value)} {ocIl kVIl dcIl pmIl cdIl ctIl : Value}
    {fCl : Addr} {odCl anCl : Option Addr} {slCl : Array (Option Value)} {ocCl kVCl dcCl pmCl cdCl ctCl : Value}
    {fBi : Addr} {odBi anBi : Option Addr} {slBi : Array (Option Value)} {ocBi kVBi dcBi pmBi cdBi ctBi : Value}
    {fLd : Addr} {odLd anLd : Option Addr} {slLd : Array (Option Value)} {ocLd kVLd dcLd pmLd cdLd ctLd : Value}
    (aCH : PySem.W.nsIn K mainGlobals "HushError" = some (some (.ref CH)))
    (xLH : K.lookup CH = some (excClassObj nmH qH CH NH bsH [.type "ValueError", .type "Exception", .type "BaseException", .type "object"] true snH sbH abH coH ddH kaH kbH kcH kdH keH "ValueError.__new__"))
    (gaH : PySem.W.findIn K (.ref CH) "__getattribute__" = some (some (.builtin "BaseException.__getattribute__")))
    (ggH : PySem.W.findIn K (.ref CH) "__getattr__" = some none)
    (haH : PySem.W.findIn K (.ref CH) "__class__" = some (some (.builtin "object.__class__")))
    (kCH : PySem.W.keepIn K (.ref CH) = true)
    (exH : PySem.W.subIn K (.ref CH) (.type "BaseException") = some true)
    (tyH : PySem.W.typeIn K (.ref CH) = some (.type "type"))
    (hdH : PySem.W.hasDictIn K CH = true)
    (icH : PySem.W.isClsIn K CH = true)
    (aCL : PySem.W.nsIn K mainGlobals "InvalidList" = some (some (.ref CL)))
    (xLL : K.lookup CL = some (excClassObj nmL qL CL NL bsL [.ref CH, .type "ValueError", .type "Exception", .type "BaseException", .type "object"] true snL sbL abL coL ddL kaL kbL kcL kdL keL "ValueError.__new__"))
    (gaL : PySem.W.findIn K (.ref CL) "__getattribute__" = some (some (.builtin "BaseException.__getattribute__")))
    (ggL : PySem.W.findIn K (.ref CL) "__getattr__" = some none)
    (haL : PySem.W.findIn K (.ref CL) "__class__" = some (some (.builtin "object.__class__")))
    (kCL : PySem.W.keepIn K (.ref CL) = true)
    (exL : PySem.W.subIn K (.ref CL) (.type "BaseException") = some true)
    (tyL : PySem.W.typeIn K (.ref CL) = some (.type "type"))
    (hdL : PySem.W.hasDictIn K CL = true)
    (icL : PySem.W.isClsIn K CL = true)
    (saL : PySem.W.findIn K (.ref CL) "__setattr__" = some (some (.builtin "object.__setattr__")))
    (iCL : PySem.W.findIn K (.ref CL) "__init__" = some (some (.ref fIL)))
    (tIL : PySem.W.typeIn K (.ref fIL) = some (.type "function"))
    (noL : PySem.W.findIn K (.ref CL) "value" = some none)
    (lIL : K.lookup fIL = some ⟨ocIL, odIL, .func (PySem.W.fnOf "__init__" "InvalidList.__init__" (defArgs (inClass (top 2) 0)) (defBody (inClass (top 2) 0)) (defScope (inClass (top 2) 0)) (.ref TL) kVIL dcIL pmIL anIL cdIL ctIL), slIL⟩)
    (cIL : PySem.W.codeIn K cdIL "InvalidList.__init__" = true)
    (kIL : PySem.W.keepIn K (.ref fIL) = true)
    (lTL : K.lookup TL = some ⟨toL, tdL, .seq #[.none] tnL, tsL⟩)
    (aCE : PySem.W.nsIn K mainGlobals "InvalidItem" = some (some (.ref CE)))
    (xLE : K.lookup CE = some (excClassObj nmE qE CE NE bsE [.ref CH, .type "ValueError", .type "Exception", .type "BaseException", .type "object"] true snE sbE abE coE ddE kaE kbE kcE kdE keE "ValueError.__new__"))
    (gaE : PySem.W.findIn K (.ref CE) "__getattribute__" = some (some (.builtin "BaseException.__getattribute__")))
    (ggE : PySem.W.findIn K (.ref CE) "__getattr__" = some none)
    (haE : PySem.W.findIn K (.ref CE) "__class__" = some (some (.builtin "object.__class__")))
    (kCE : PySem.W.keepIn K (.ref CE) = true)
    (exE : PySem.W.subIn K (.ref CE) (.type "BaseException") = some true)
    (tyE : PySem.W.typeIn K (.ref CE) = some (.type "type"))
    (hdE : PySem.W.hasDictIn K CE = true)
    (icE : PySem.W.isClsIn K CE = true)
    (saE : PySem.W.findIn K (.ref CE) "__setattr__" = some (some (.builtin "object.__setattr__")))
    (iCE : PySem.W.findIn K (.ref CE) "__init__" = some (some (.ref fIE)))
    (tIE : PySem.W.typeIn K (.ref fIE) = some (.type "function"))
    (noE : PySem.W.findIn K (.ref CE) "value" = some none)
    (lIE : K.lookup fIE = some ⟨ocIE, odIE, .func (PySem.W.fnOf "__init__" "InvalidItem.__init__" (defArgs (inClass (top 3) 0)) (defBody (inClass (top 3) 0)) (defScope (inClass (top 3) 0)) (.ref TE) kVIE dcIE pmIE anIE cdIE ctIE), slIE⟩)
    (cIE : PySem.W.codeIn K cdIE "InvalidItem.__init__" = true)
    (kIE : PySem.W.keepIn K (.ref fIE) = true)
    (lTE : K.lookup TE = some ⟨toE, tdE, .seq #[.none] tnE, tsE⟩)
    (aCP : PySem.W.nsIn K mainGlobals "InvalidBook" = some (some (.ref CP)))
    (xLP : K.lookup CP = some (excClassObj nmP qP CP NP bsP [.ref CH, .type "ValueError", .type "Exception", .type "BaseException", .type "object"] true snP sbP abP coP ddP kaP kbP kcP kdP keP "ValueError.__new__"))
    (gaP : PySem.W.findIn K (.ref CP) "__getattribute__" = some (some (.builtin "BaseException.__getattribute__")))
    (ggP : PySem.W.findIn K (.ref CP) "__getattr__" = some none)
    (haP : PySem.W.findIn K (.ref CP) "__class__" = some (some (.builtin "object.__class__")))
    (kCP : PySem.W.keepIn K (.ref CP) = true)
    (exP : PySem.W.subIn K (.ref CP) (.type "BaseException") = some true)
    (tyP : PySem.W.typeIn K (.ref CP) = some (.type "type"))
    (hdP : PySem.W.hasDictIn K CP = true)
    (icP : PySem.W.isClsIn K CP = true)
    (saP : PySem.W.findIn K (.ref CP) "__setattr__" = some (some (.builtin "object.__setattr__")))
    (iCP : PySem.W.findIn K (.ref CP) "__init__" = some (some (.ref fIP)))
    (tIP : PySem.W.typeIn K (.ref fIP) = some (.type "function"))
    (noP : PySem.W.findIn K (.ref CP) "value" = some none)
    (lIP : K.lookup fIP = some ⟨ocIP, odIP, .func (PySem.W.fnOf "__init__" "InvalidBook.__init__" (defArgs (inClass (top 4) 0)) (defBody (inClass (top 4) 0)) (defScope (inClass (top 4) 0)) (.ref TP) kVIP dcIP pmIP anIP cdIP ctIP), slIP⟩)
    (cIP : PySem.W.codeIn K cdIP "InvalidBook.__init__" = true)
    (kIP : PySem.W.keepIn K (.ref fIP) = true)
    (lTP : K.lookup TP = some ⟨toP, tdP, .seq #[.none] tnP, tsP⟩)
    (aCQ : PySem.W.nsIn K mainGlobals "InvalidLot" = some (some (.ref CQ)))
    (xLQ : K.lookup CQ = some (excClassObj nmQ qQ CQ NQ bsQ [.ref CH, .type "ValueError", .type "Exception", .type "BaseException", .type "object"] true snQ sbQ abQ coQ ddQ kaQ kbQ kcQ kdQ keQ "ValueError.__new__"))
    (gaQ : PySem.W.findIn K (.ref CQ) "__getattribute__" = some (some (.builtin "BaseException.__getattribute__")))
    (ggQ : PySem.W.findIn K (.ref CQ) "__getattr__" = some none)
    (haQ : PySem.W.findIn K (.ref CQ) "__class__" = some (some (.builtin "object.__class__")))
    (kCQ : PySem.W.keepIn K (.ref CQ) = true)
    (exQ : PySem.W.subIn K (.ref CQ) (.type "BaseException") = some true)
    (tyQ : PySem.W.typeIn K (.ref CQ) = some (.type "type"))
    (hdQ : PySem.W.hasDictIn K CQ = true)
    (icQ : PySem.W.isClsIn K CQ = true)
    (saQ : PySem.W.findIn K (.ref CQ) "__setattr__" = some (some (.builtin "object.__setattr__")))
    (iCQ : PySem.W.findIn K (.ref CQ) "__init__" = some (some (.ref fIQ)))
    (tIQ : PySem.W.typeIn K (.ref fIQ) = some (.type "function"))
    (noQ : PySem.W.findIn K (.ref CQ) "value" = some none)
    (lIQ : K.lookup fIQ = some ⟨ocIQ, odIQ, .func (PySem.W.fnOf "__init__" "InvalidLot.__init__" (defArgs (inClass (top 5) 0)) (defBody (inClass (top 5) 0)) (defScope (inClass (top 5) 0)) (.ref TQ) kVIQ dcIQ pmIQ anIQ cdIQ ctIQ), slIQ⟩)
    (cIQ : PySem.W.codeIn K cdIQ "InvalidLot.__init__" = true)
    (kIQ : PySem.W.keepIn K (.ref fIQ) = true)
    (lTQ : K.lookup TQ = some ⟨toQ, tdQ, .seq #[.none] tnQ, tsQ⟩)
    (aCR : PySem.W.nsIn K mainGlobals "InvalidRun" = some (some (.ref CR)))
    (xLR : K.lookup CR = some (excClassObj nmR qR CR NR bsR [.ref CH, .type "ValueError", .type "Exception", .type "BaseException", .type "object"] true snR sbR abR coR ddR kaR kbR kcR kdR keR "ValueError.__new__"))
    (gaR : PySem.W.findIn K (.ref CR) "__getattribute__" = some (some (.builtin "BaseException.__getattribute__")))
    (ggR : PySem.W.findIn K (.ref CR) "__getattr__" = some none)
    (haR : PySem.W.findIn K (.ref CR) "__class__" = some (some (.builtin "object.__class__")))
    (kCR : PySem.W.keepIn K (.ref CR) = true)
    (exR : PySem.W.subIn K (.ref CR) (.type "BaseException") = some true)
    (tyR : PySem.W.typeIn K (.ref CR) = some (.type "type"))
    (hdR : PySem.W.hasDictIn K CR = true)
    (icR : PySem.W.isClsIn K CR = true)
    (saR : PySem.W.findIn K (.ref CR) "__setattr__" = some (some (.builtin "object.__setattr__")))
    (iCR : PySem.W.findIn K (.ref CR) "__init__" = some (some (.ref fIR)))
    (tIR : PySem.W.typeIn K (.ref fIR) = some (.type "function"))
    (noR : PySem.W.findIn K (.ref CR) "value" = some none)
    (lIR : K.lookup fIR = some ⟨ocIR, odIR, .func (PySem.W.fnOf "__init__" "InvalidRun.__init__" (defArgs (inClass (top 6) 0)) (defBody (inClass (top 6) 0)) (defScope (inClass (top 6) 0)) (.ref TR) kVIR dcIR pmIR anIR cdIR ctIR), slIR⟩)
    (cIR : PySem.W.codeIn K cdIR "InvalidRun.__init__" = true)
    (kIR : PySem.W.keepIn K (.ref fIR) = true)
    (lTR : K.lookup TR = some ⟨toR, tdR, .seq #[.none] tnR, tsR⟩)
    (mPH : PySem.W.mroIn K CP (.ref CH) = some true)
    (mPQ : PySem.W.mroIn K CP (.ref CQ) = some false)
    (mPR : PySem.W.mroIn K CP (.ref CR) = some false)
    (znP : PySem.W.subIn K (.type "NoneType") (.ref CP) = some false)
    (mQH : PySem.W.mroIn K CQ (.ref CH) = some true)
    (mQP : PySem.W.mroIn K CQ (.ref CP) = some false)
    (mQR : PySem.W.mroIn K CQ (.ref CR) = some false)
    (znQ : PySem.W.subIn K (.type "NoneType") (.ref CQ) = some false)
    (mRH : PySem.W.mroIn K CR (.ref CH) = some true)
    (mRP : PySem.W.mroIn K CR (.ref CP) = some false)
    (mRQ : PySem.W.mroIn K CR (.ref CQ) = some false)
    (znR : PySem.W.subIn K (.type "NoneType") (.ref CR) = some false)
    (exB : PySem.W.subIn K (.ref CH) (.type "BaseException") = some true)
    (hn : PySem.W.specialIn K (.builtin "object.__class__") "__get__" = some (some (.builtin "getset_descriptor.__get__")))
    (ht : PySem.W.takesIn K (.builtin "object.__class__") = some true)
    (aB : PySem.W.nsIn K mainGlobals "Book" = some (some (.ref CB)))
    (mB : PySem.W.makesIn K CB = true)
    (kB : PySem.W.keepIn K (.ref CB) = true)
    (pgB : PySem.W.plainGet K CB Str.empty = true)
    (hdB : PySem.W.hasDictIn K CB = true)
    (poB : PySem.W.plainOver K CB = true)
    (saB : PySem.W.findIn K (.ref CB) "__setattr__" = some (some (.builtin "object.__setattr__")))
    (nB1 : PySem.W.findIn K (.ref CB) "_houses" = some none)
    (nB2 : PySem.W.findIn K (.ref CB) "_stands" = some none)
    (nB3 : PySem.W.findIn K (.ref CB) "_deeds" = some none)
    (nB4 : PySem.W.findIn K (.ref CB) "_hearings" = some none)
    (nB5 : PySem.W.findIn K (.ref CB) "_lost" = some none)
    (haB : PySem.W.findIn K (.ref CB) "__class__" = some (some (.builtin "object.__class__")))
    (hmB : PySem.W.mroIn K CB (.type "object") = some true)
    (icB : PySem.W.isClsIn K CB = true)
    (tyB : PySem.W.typeIn K (.ref CB) = some (.type "type"))
    (kn_NoneType : PySem.W.subIn K (.type "NoneType") (.ref CB) = some false)
    (nf_NoneType : PySem.W.notFirst K CB (.type "NoneType") = true)
    (sb_NoneType : PySem.W.subIn K (.ref CB) (.type "NoneType") = some false)
    (kn_bool : PySem.W.subIn K (.type "bool") (.ref CB) = some false)
    (nf_bool : PySem.W.notFirst K CB (.type "bool") = true)
    (sb_bool : PySem.W.subIn K (.ref CB) (.type "bool") = some false)
    (kn_int : PySem.W.subIn K (.type "int") (.ref CB) = some false)
    (nf_int : PySem.W.notFirst K CB (.type "int") = true)
    (sb_int : PySem.W.subIn K (.ref CB) (.type "int") = some false)
    (kn_str : PySem.W.subIn K (.type "str") (.ref CB) = some false)
    (nf_str : PySem.W.notFirst K CB (.type "str") = true)
    (sb_str : PySem.W.subIn K (.ref CB) (.type "str") = some false)
    (kn_list : PySem.W.subIn K (.type "list") (.ref CB) = some false)
    (nf_list : PySem.W.notFirst K CB (.type "list") = true)
    (sb_list : PySem.W.subIn K (.ref CB) (.type "list") = some false)
    (kn_tuple : PySem.W.subIn K (.type "tuple") (.ref CB) = some false)
    (nf_tuple : PySem.W.notFirst K CB (.type "tuple") = true)
    (sb_tuple : PySem.W.subIn K (.ref CB) (.type "tuple") = some false)
    (kn_dict : PySem.W.subIn K (.type "dict") (.ref CB) = some false)
    (nf_dict : PySem.W.notFirst K CB (.type "dict") = true)
    (sb_dict : PySem.W.subIn K (.ref CB) (.type "dict") = some false)
    (neB : PySem.W.findIn K (.ref CB) "__ne__" = some (some (.builtin "object.__ne__")))
    (atBI : PySem.W.findIn K (.ref CB) "__init__" = some (some (.ref fBI)))
    (fnBI : PySem.W.isFn K (.ref fBI) = true)
    (lBI : K.lookup fBI = some ⟨ocBI, odBI, .func (PySem.W.fnOf "__init__" "Book.__init__" (defArgs (inClass (top 18) 0)) (defBody (inClass (top 18) 0)) (defScope (inClass (top 18) 0)) .none kVBI dcBI pmBI anBI cdBI ctBI), slBI⟩)
    (cBI : PySem.W.codeIn K cdBI "Book.__init__" = true)
    (kBI : PySem.W.keepIn K (.ref fBI) = true)
    (atM1 : PySem.W.findIn K (.ref CB) "houses" = some (some (.ref fM1)))
    (fnM1 : PySem.W.isFn K (.ref fM1) = true)
    (lM1 : K.lookup fM1 = some ⟨ocM1, odM1, .func (PySem.W.fnOf "houses" "Book.houses" (defArgs (inClass (top 18) 1)) (defBody (inClass (top 18) 1)) (defScope (inClass (top 18) 1)) .none kVM1 dcM1 pmM1 anM1 cdM1 ctM1), slM1⟩)
    (cM1 : PySem.W.codeIn K cdM1 "Book.houses" = true)
    (kM1 : PySem.W.keepIn K (.ref fM1) = true)
    (atM2 : PySem.W.findIn K (.ref CB) "stands" = some (some (.ref fM2)))
    (fnM2 : PySem.W.isFn K (.ref fM2) = true)
    (lM2 : K.lookup fM2 = some ⟨ocM2, odM2, .func (PySem.W.fnOf "stands" "Book.stands" (defArgs (inClass (top 18) 2)) (defBody (inClass (top 18) 2)) (defScope (inClass (top 18) 2)) .none kVM2 dcM2 pmM2 anM2 cdM2 ctM2), slM2⟩)
    (cM2 : PySem.W.codeIn K cdM2 "Book.stands" = true)
    (kM2 : PySem.W.keepIn K (.ref fM2) = true)
    (atM3 : PySem.W.findIn K (.ref CB) "deeds" = some (some (.ref fM3)))
    (fnM3 : PySem.W.isFn K (.ref fM3) = true)
    (lM3 : K.lookup fM3 = some ⟨ocM3, odM3, .func (PySem.W.fnOf "deeds" "Book.deeds" (defArgs (inClass (top 18) 3)) (defBody (inClass (top 18) 3)) (defScope (inClass (top 18) 3)) .none kVM3 dcM3 pmM3 anM3 cdM3 ctM3), slM3⟩)
    (cM3 : PySem.W.codeIn K cdM3 "Book.deeds" = true)
    (kM3 : PySem.W.keepIn K (.ref fM3) = true)
    (atM4 : PySem.W.findIn K (.ref CB) "hearings" = some (some (.ref fM4)))
    (fnM4 : PySem.W.isFn K (.ref fM4) = true)
    (lM4 : K.lookup fM4 = some ⟨ocM4, odM4, .func (PySem.W.fnOf "hearings" "Book.hearings" (defArgs (inClass (top 18) 4)) (defBody (inClass (top 18) 4)) (defScope (inClass (top 18) 4)) .none kVM4 dcM4 pmM4 anM4 cdM4 ctM4), slM4⟩)
    (cM4 : PySem.W.codeIn K cdM4 "Book.hearings" = true)
    (kM4 : PySem.W.keepIn K (.ref fM4) = true)
    (atM5 : PySem.W.findIn K (.ref CB) "lost" = some (some (.ref fM5)))
    (fnM5 : PySem.W.isFn K (.ref fM5) = true)
    (lM5 : K.lookup fM5 = some ⟨ocM5, odM5, .func (PySem.W.fnOf "lost" "Book.lost" (defArgs (inClass (top 18) 5)) (defBody (inClass (top 18) 5)) (defScope (inClass (top 18) 5)) .none kVM5 dcM5 pmM5 anM5 cdM5 ctM5), slM5⟩)
    (cM5 : PySem.W.codeIn K cdM5 "Book.lost" = true)
    (kM5 : PySem.W.keepIn K (.ref fM5) = true)
    (atEq : PySem.W.findIn K (.ref CB) "__eq__" = some (some (.ref fEq)))
    (fnEq : PySem.W.isFn K (.ref fEq) = true)
    (lEq : K.lookup fEq = some ⟨ocEq, odEq, .func (PySem.W.fnOf "__eq__" "Book.__eq__" (defArgs (inClass (top 18) 7)) (defBody (inClass (top 18) 7)) (defScope (inClass (top 18) 7)) .none kVEq dcEq pmEq anEq cdEq ctEq), slEq⟩)
    (cEq : PySem.W.codeIn K cdEq "Book.__eq__" = true)
    (kEq : PySem.W.keepIn K (.ref fEq) = true)
    (aS : PySem.W.nsIn K mainGlobals "Steps" = some (some (.ref CS)))
    (mS : PySem.W.makesIn K CS = true)
    (kS : PySem.W.keepIn K (.ref CS) = true)
    (pgS : PySem.W.plainGet K CS Str.empty = true)
    (hdS : PySem.W.hasDictIn K CS = true)
    (poS : PySem.W.plainOver K CS = true)
    (saS : PySem.W.findIn K (.ref CS) "__setattr__" = some (some (.builtin "object.__setattr__")))
    (nS1 : PySem.W.findIn K (.ref CS) "_stands" = some none)
    (nS2 : PySem.W.findIn K (.ref CS) "_deeds" = some none)
    (nS3 : PySem.W.findIn K (.ref CS) "_lost" = some none)
    (nS4 : PySem.W.findIn K (.ref CS) "_index" = some none)
    (nS5 : PySem.W.findIn K (.ref CS) "_goes_to" = some none)
    (atSI : PySem.W.findIn K (.ref CS) "__init__" = some (some (.ref fSI)))
    (fnSI : PySem.W.isFn K (.ref fSI) = true)
    (lSI : K.lookup fSI = some ⟨ocSI, odSI, .func (PySem.W.fnOf "__init__" "Steps.__init__" (defArgs (inClass (top 23) 0)) (defBody (inClass (top 23) 0)) (defScope (inClass (top 23) 0)) .none kVSI dcSI pmSI anSI cdSI ctSI), slSI⟩)
    (cSI : PySem.W.codeIn K cdSI "Steps.__init__" = true)
    (kSI : PySem.W.keepIn K (.ref fSI) = true)
    (atS3 : PySem.W.findIn K (.ref CS) "allows" = some (some (.ref fS3)))
    (fnS3 : PySem.W.isFn K (.ref fS3) = true)
    (lS3 : K.lookup fS3 = some ⟨ocS3, odS3, .func (PySem.W.fnOf "allows" "Steps.allows" (defArgs (inClass (top 23) 3)) (defBody (inClass (top 23) 3)) (defScope (inClass (top 23) 3)) .none kVS3 dcS3 pmS3 anS3 cdS3 ctS3), slS3⟩)
    (cS3 : PySem.W.codeIn K cdS3 "Steps.allows" = true)
    (kS3 : PySem.W.keepIn K (.ref fS3) = true)
    (atS4 : PySem.W.findIn K (.ref CS) "after" = some (some (.ref fS4)))
    (fnS4 : PySem.W.isFn K (.ref fS4) = true)
    (lS4 : K.lookup fS4 = some ⟨ocS4, odS4, .func (PySem.W.fnOf "after" "Steps.after" (defArgs (inClass (top 23) 4)) (defBody (inClass (top 23) 4)) (defScope (inClass (top 23) 4)) .none kVS4 dcS4 pmS4 anS4 cdS4 ctS4), slS4⟩)
    (cS4 : PySem.W.codeIn K cdS4 "Steps.after" = true)
    (kS4 : PySem.W.keepIn K (.ref fS4) = true)
    (atS5 : PySem.W.findIn K (.ref CS) "_many_at" = some (some (.ref fS5)))
    (fnS5 : PySem.W.isFn K (.ref fS5) = true)
    (lS5 : K.lookup fS5 = some ⟨ocS5, odS5, .func (PySem.W.fnOf "_many_at" "Steps._many_at" (defArgs (inClass (top 23) 5)) (defBody (inClass (top 23) 5)) (defScope (inClass (top 23) 5)) .none kVS5 dcS5 pmS5 anS5 cdS5 ctS5), slS5⟩)
    (cS5 : PySem.W.codeIn K cdS5 "Steps._many_at" = true)
    (kS5 : PySem.W.keepIn K (.ref fS5) = true)
    (atS6 : PySem.W.findIn K (.ref CS) "_can_do" = some (some (.ref fS6)))
    (fnS6 : PySem.W.isFn K (.ref fS6) = true)
    (lS6 : K.lookup fS6 = some ⟨ocS6, odS6, .func (PySem.W.fnOf "_can_do" "Steps._can_do" (defArgs (inClass (top 23) 6)) (defBody (inClass (top 23) 6)) (defScope (inClass (top 23) 6)) .none kVS6 dcS6 pmS6 anS6 cdS6 ctS6), slS6⟩)
    (cS6 : PySem.W.codeIn K cdS6 "Steps._can_do" = true)
    (kS6 : PySem.W.keepIn K (.ref fS6) = true)
    (atS7 : PySem.W.findIn K (.ref CS) "_could_hear" = some (some (.ref fS7)))
    (fnS7 : PySem.W.isFn K (.ref fS7) = true)
    (lS7 : K.lookup fS7 = some ⟨ocS7, odS7, .func (PySem.W.fnOf "_could_hear" "Steps._could_hear" (defArgs (inClass (top 23) 7)) (defBody (inClass (top 23) 7)) (defScope (inClass (top 23) 7)) .none kVS7 dcS7 pmS7 anS7 cdS7 ctS7), slS7⟩)
    (cS7 : PySem.W.codeIn K cdS7 "Steps._could_hear" = true)
    (kS7 : PySem.W.keepIn K (.ref fS7) = true)
    (atS9 : PySem.W.findIn K (.ref CS) "_allows_deed" = some (some (.ref fS9)))
    (fnS9 : PySem.W.isFn K (.ref fS9) = true)
    (lS9 : K.lookup fS9 = some ⟨ocS9, odS9, .func (PySem.W.fnOf "_allows_deed" "Steps._allows_deed" (defArgs (inClass (top 23) 9)) (defBody (inClass (top 23) 9)) (defScope (inClass (top 23) 9)) .none kVS9 dcS9 pmS9 anS9 cdS9 ctS9), slS9⟩)
    (cS9 : PySem.W.codeIn K cdS9 "Steps._allows_deed" = true)
    (kS9 : PySem.W.keepIn K (.ref fS9) = true)
    (atS10 : PySem.W.findIn K (.ref CS) "_after_deed" = some (some (.ref fS10)))
    (fnS10 : PySem.W.isFn K (.ref fS10) = true)
    (lS10 : K.lookup fS10 = some ⟨ocS10, odS10, .func (PySem.W.fnOf "_after_deed" "Steps._after_deed" (defArgs (inClass (top 23) 10)) (defBody (inClass (top 23) 10)) (defScope (inClass (top 23) 10)) .none kVS10 dcS10 pmS10 anS10 cdS10 ctS10), slS10⟩)
    (cS10 : PySem.W.codeIn K cdS10 "Steps._after_deed" = true)
    (kS10 : PySem.W.keepIn K (.ref fS10) = true)
    (aCe : PySem.W.nsIn K mainGlobals "_law_cell" = some (some (.ref fCe)))
    (lCe : K.lookup fCe = some ⟨ocCe, odCe, .func (PySem.W.fnOf "_law_cell" "_law_cell" (defArgs sCell) (defBody sCell) (defScope sCell) .none kVCe dcCe pmCe anCe cdCe ctCe), slCe⟩)
    (cCe : PySem.W.codeIn K cdCe "_law_cell" = true)
    (kCe : PySem.W.keepIn K (.ref fCe) = true)
    (aHa : PySem.W.nsIn K mainGlobals "_law_hash" = some (some (.ref fHa)))
    (lHa : K.lookup fHa = some ⟨ocHa, odHa, .func (PySem.W.fnOf "_law_hash" "_law_hash" (defArgs sHash) (defBody sHash) (defScope sHash) .none kVHa dcHa pmHa anHa cdHa ctHa), slHa⟩)
    (cHa : PySem.W.codeIn K cdHa "_law_hash" = true)
    (kHa : PySem.W.keepIn K (.ref fHa) = true)
    (aGe : PySem.W.nsIn K mainGlobals "_law_generator" = some (some (.ref fGe)))
    (lGe : K.lookup fGe = some ⟨ocGe, odGe, .func (PySem.W.fnOf "_law_generator" "_law_generator" (defArgs sGen) (defBody sGen) (defScope sGen) .none kVGe dcGe pmGe anGe cdGe ctGe), slGe⟩)
    (cGe : PySem.W.codeIn K cdGe "_law_generator" = true)
    (kGe : PySem.W.keepIn K (.ref fGe) = true)
    (aRa : PySem.W.nsIn K mainGlobals "_law_random" = some (some (.ref fRa)))
    (lRa : K.lookup fRa = some ⟨ocRa, odRa, .func (PySem.W.fnOf "_law_random" "_law_random" (defArgs sRand) (defBody sRand) (defScope sRand) .none kVRa dcRa pmRa anRa cdRa ctRa), slRa⟩)
    (cRa : PySem.W.codeIn K cdRa "_law_random" = true)
    (kRa : PySem.W.keepIn K (.ref fRa) = true)
    (aEn : PySem.W.nsIn K mainGlobals "_law_entry_drawn" = some (some (.ref fEn)))
    (lEn : K.lookup fEn = some ⟨ocEn, odEn, .func (PySem.W.fnOf "_law_entry_drawn" "_law_entry_drawn" (defArgs (top 35)) (defBody (top 35)) (defScope (top 35)) .none kVEn dcEn pmEn anEn cdEn ctEn), slEn⟩)
    (cEn : PySem.W.codeIn K cdEn "_law_entry_drawn" = true)
    (kEn : PySem.W.keepIn K (.ref fEn) = true)
    (aPa : PySem.W.nsIn K mainGlobals "_law_parts" = some (some (.ref fPa)))
    (lPa : K.lookup fPa = some ⟨ocPa, odPa, .func (PySem.W.fnOf "_law_parts" "_law_parts" (defArgs (top 36)) (defBody (top 36)) (defScope (top 36)) .none kVPa dcPa pmPa anPa cdPa ctPa), slPa⟩)
    (cPa : PySem.W.codeIn K cdPa "_law_parts" = true)
    (kPa : PySem.W.keepIn K (.ref fPa) = true)
    (aLb : PySem.W.nsIn K mainGlobals "_law_book" = some (some (.ref fLb)))
    (lLb : K.lookup fLb = some ⟨ocLb, odLb, .func (PySem.W.fnOf "_law_book" "_law_book" (defArgs (top 37)) (defBody (top 37)) (defScope (top 37)) .none kVLb dcLb pmLb anLb cdLb ctLb), slLb⟩)
    (cLb : PySem.W.codeIn K cdLb "_law_book" = true)
    (kLb : PySem.W.keepIn K (.ref fLb) = true)
    (aCo : PySem.W.nsIn K mainGlobals "_law_choices" = some (some (.ref fCo)))
    (lCo : K.lookup fCo = some ⟨ocCo, odCo, .func (PySem.W.fnOf "_law_choices" "_law_choices" (defArgs (top 38)) (defBody (top 38)) (defScope (top 38)) .none kVCo dcCo pmCo anCo cdCo ctCo), slCo⟩)
    (cCo : PySem.W.codeIn K cdCo "_law_choices" = true)
    (kCo : PySem.W.keepIn K (.ref fCo) = true)
    (aBh : PySem.W.nsIn K mainGlobals "_law_behind" = some (some (.ref fBh)))
    (lBh : K.lookup fBh = some ⟨ocBh, odBh, .func (PySem.W.fnOf "_law_behind" "_law_behind" (defArgs (top 39)) (defBody (top 39)) (defScope (top 39)) .none kVBh dcBh pmBh anBh cdBh ctBh), slBh⟩)
    (cBh : PySem.W.codeIn K cdBh "_law_behind" = true)
    (kBh : PySem.W.keepIn K (.ref fBh) = true)
    (aDx : PySem.W.nsIn K mainGlobals "_law_deeds_next" = some (some (.ref fDx)))
    (lDx : K.lookup fDx = some ⟨ocDx, odDx, .func (PySem.W.fnOf "_law_deeds_next" "_law_deeds_next" (defArgs (top 40)) (defBody (top 40)) (defScope (top 40)) .none kVDx dcDx pmDx anDx cdDx ctDx), slDx⟩)
    (cDx : PySem.W.codeIn K cdDx "_law_deeds_next" = true)
    (kDx : PySem.W.keepIn K (.ref fDx) = true)
    (aNx : PySem.W.nsIn K mainGlobals "_law_next" = some (some (.ref fNx)))
    (lNx : K.lookup fNx = some ⟨ocNx, odNx, .func (PySem.W.fnOf "_law_next" "_law_next" (defArgs (top 41)) (defBody (top 41)) (defScope (top 41)) .none kVNx dcNx pmNx anNx cdNx ctNx), slNx⟩)
    (cNx : PySem.W.codeIn K cdNx "_law_next" = true)
    (kNx : PySem.W.keepIn K (.ref fNx) = true)
    (aDr : PySem.W.nsIn K mainGlobals "_law_drawn_run" = some (some (.ref fDr)))
    (lDr : K.lookup fDr = some ⟨ocDr, odDr, .func (PySem.W.fnOf "_law_drawn_run" "_law_drawn_run" (defArgs (top 42)) (defBody (top 42)) (defScope (top 42)) .none kVDr dcDr pmDr anDr cdDr ctDr), slDr⟩)
    (cDr : PySem.W.codeIn K cdDr "_law_drawn_run" = true)
    (kDr : PySem.W.keepIn K (.ref fDr) = true)
    (aWk : PySem.W.nsIn K mainGlobals "_law_walked" = some (some (.ref fWk)))
    (lWk : K.lookup fWk = some ⟨ocWk, odWk, .func (PySem.W.fnOf "_law_walked" "_law_walked" (defArgs (top 43)) (defBody (top 43)) (defScope (top 43)) .none kVWk dcWk pmWk anWk cdWk ctWk), slWk⟩)
    (cWk : PySem.W.codeIn K cdWk "_law_walked" = true)
    (kWk : PySem.W.keepIn K (.ref fWk) = true)
    (aLo : PySem.W.nsIn K mainGlobals "_law_lot_drawn" = some (some (.ref fLo)))
    (lLo : K.lookup fLo = some ⟨ocLo, odLo, .func (PySem.W.fnOf "_law_lot_drawn" "_law_lot_drawn" (defArgs (top 44)) (defBody (top 44)) (defScope (top 44)) .none kVLo dcLo pmLo anLo cdLo ctLo), slLo⟩)
    (cLo : PySem.W.codeIn K cdLo "_law_lot_drawn" = true)
    (kLo : PySem.W.keepIn K (.ref fLo) = true)
    (aRi : PySem.W.nsIn K mainGlobals "_law_right" = some (some (.ref fRi)))
    (lRi : K.lookup fRi = some ⟨ocRi, odRi, .func (PySem.W.fnOf "_law_right" "_law_right" (defArgs (top 45)) (defBody (top 45)) (defScope (top 45)) .none kVRi dcRi pmRi anRi cdRi ctRi), slRi⟩)
    (cRi : PySem.W.codeIn K cdRi "_law_right" = true)
    (kRi : PySem.W.keepIn K (.ref fRi) = true)
    (aCa : PySem.W.nsIn K mainGlobals "_law_caught" = some (some (.ref fCa)))
    (lCa : K.lookup fCa = some ⟨ocCa, odCa, .func (PySem.W.fnOf "_law_caught" "_law_caught" (defArgs (top 46)) (defBody (top 46)) (defScope (top 46)) .none kVCa dcCa pmCa anCa cdCa ctCa), slCa⟩)
    (cCa : PySem.W.codeIn K cdCa "_law_caught" = true)
    (kCa : PySem.W.keepIn K (.ref fCa) = true)
    (aRf : PySem.W.nsIn K mainGlobals "_law_refused" = some (some (.ref fRf)))
    (lRf : K.lookup fRf = some ⟨ocRf, odRf, .func (PySem.W.fnOf "_law_refused" "_law_refused" (defArgs (top 47)) (defBody (top 47)) (defScope (top 47)) .none kVRf dcRf pmRf anRf cdRf ctRf), slRf⟩)
    (cRf : PySem.W.codeIn K cdRf "_law_refused" = true)
    (kRf : PySem.W.keepIn K (.ref fRf) = true)
    (aLa : PySem.W.nsIn K mainGlobals "law" = some (some (.ref fLa)))
    (lLa : K.lookup fLa = some ⟨ocLa, odLa, .func (PySem.W.fnOf "law" "law" (defArgs (top 48)) (defBody (top 48)) (defScope (top 48)) .none kVLa dcLa pmLa anLa cdLa ctLa), slLa⟩)
    (cLa : PySem.W.codeIn K cdLa "law" = true)
    (kLa : PySem.W.keepIn K (.ref fLa) = true)
    (aNa : PySem.W.nsIn K mainGlobals "is_name" = some (some (.ref fNa)))
    (lNa : K.lookup fNa = some ⟨ocNa, odNa, .func (PySem.W.fnOf "is_name" "is_name" (defArgs (top 9)) (defBody (top 9)) (defScope (top 9)) .none kVNa dcNa pmNa anNa cdNa ctNa), slNa⟩)
    (cNa : PySem.W.codeIn K cdNa "is_name" = true)
    (kNa : PySem.W.keepIn K (.ref fNa) = true)
    (aCm : PySem.W.nsIn K mainGlobals "check_many" = some (some (.ref fCm)))
    (lCm : K.lookup fCm = some ⟨ocCm, odCm, .func (PySem.W.fnOf "check_many" "check_many" (defArgs (top 11)) (defBody (top 11)) (defScope (top 11)) .none kVCm dcCm pmCm anCm cdCm ctCm), slCm⟩)
    (cCm : PySem.W.codeIn K cdCm "check_many" = true)
    (kCm : PySem.W.keepIn K (.ref fCm) = true)
    (aCn : PySem.W.nsIn K mainGlobals "check_names" = some (some (.ref fCn)))
    (lCn : K.lookup fCn = some ⟨ocCn, odCn, .func (PySem.W.fnOf "check_names" "check_names" (defArgs (top 12)) (defBody (top 12)) (defScope (top 12)) .none kVCn dcCn pmCn anCn cdCn ctCn), slCn⟩)
    (cCn : PySem.W.codeIn K cdCn "check_names" = true)
    (kCn : PySem.W.keepIn K (.ref fCn) = true)
    (aDe : PySem.W.nsIn K mainGlobals "is_deed" = some (some (.ref fDe)))
    (lDe : K.lookup fDe = some ⟨ocDe, odDe, .func (PySem.W.fnOf "is_deed" "is_deed" (defArgs (top 13)) (defBody (top 13)) (defScope (top 13)) .none kVDe dcDe pmDe anDe cdDe ctDe), slDe⟩)
    (cDe : PySem.W.codeIn K cdDe "is_deed" = true)
    (kDe : PySem.W.keepIn K (.ref fDe) = true)
    (aHe : PySem.W.nsIn K mainGlobals "is_hearing" = some (some (.ref fHe)))
    (lHe : K.lookup fHe = some ⟨ocHe, odHe, .func (PySem.W.fnOf "is_hearing" "is_hearing" (defArgs (top 14)) (defBody (top 14)) (defScope (top 14)) .none kVHe dcHe pmHe anHe cdHe ctHe), slHe⟩)
    (cHe : PySem.W.codeIn K cdHe "is_hearing" = true)
    (kHe : PySem.W.keepIn K (.ref fHe) = true)
    (aAl : PySem.W.nsIn K mainGlobals "is_heard_already" = some (some (.ref fAl)))
    (lAl : K.lookup fAl = some ⟨ocAl, odAl, .func (PySem.W.fnOf "is_heard_already" "is_heard_already" (defArgs (top 15)) (defBody (top 15)) (defScope (top 15)) .none kVAl dcAl pmAl anAl cdAl ctAl), slAl⟩)
    (cAl : PySem.W.codeIn K cdAl "is_heard_already" = true)
    (kAl : PySem.W.keepIn K (.ref fAl) = true)
    (aCd : PySem.W.nsIn K mainGlobals "check_deeds" = some (some (.ref fCd)))
    (lCd : K.lookup fCd = some ⟨ocCd, odCd, .func (PySem.W.fnOf "check_deeds" "check_deeds" (defArgs (top 16)) (defBody (top 16)) (defScope (top 16)) .none kVCd dcCd pmCd anCd cdCd ctCd), slCd⟩)
    (cCd : PySem.W.codeIn K cdCd "check_deeds" = true)
    (kCd : PySem.W.keepIn K (.ref fCd) = true)
    (aCh : PySem.W.nsIn K mainGlobals "check_hearings" = some (some (.ref fCh)))
    (lCh : K.lookup fCh = some ⟨ocCh, odCh, .func (PySem.W.fnOf "check_hearings" "check_hearings" (defArgs (top 17)) (defBody (top 17)) (defScope (top 17)) .none kVCh dcCh pmCh anCh cdCh ctCh), slCh⟩)
    (cCh : PySem.W.codeIn K cdCh "check_hearings" = true)
    (kCh : PySem.W.keepIn K (.ref fCh) = true)
    (aWh : PySem.W.nsIn K mainGlobals "is_whole" = some (some (.ref fWh)))
    (lWh : K.lookup fWh = some ⟨ocWh, odWh, .func (PySem.W.fnOf "is_whole" "is_whole" (defArgs (top 8)) (defBody (top 8)) (defScope (top 8)) .none kVWh dcWh pmWh anWh cdWh ctWh), slWh⟩)
    (cWh : PySem.W.codeIn K cdWh "is_whole" = true)
    (kWh : PySem.W.keepIn K (.ref fWh) = true)
    (aCb : PySem.W.nsIn K mainGlobals "check_book" = some (some (.ref fCb)))
    (lCb : K.lookup fCb = some ⟨ocCb, odCb, .func (PySem.W.fnOf "check_book" "check_book" (defArgs (top 19)) (defBody (top 19)) (defScope (top 19)) .none kVCb dcCb pmCb anCb cdCb ctCb), slCb⟩)
    (cCb : PySem.W.codeIn K cdCb "check_book" = true)
    (kCb : PySem.W.keepIn K (.ref fCb) = true)
    (aWi : PySem.W.nsIn K mainGlobals "within" = some (some (.ref fWi)))
    (lWi : K.lookup fWi = some ⟨ocWi, odWi, .func (PySem.W.fnOf "within" "within" (defArgs (top 22)) (defBody (top 22)) (defScope (top 22)) .none kVWi dcWi pmWi anWi cdWi ctWi), slWi⟩)
    (cWi : PySem.W.codeIn K cdWi "within" = true)
    (kWi : PySem.W.keepIn K (.ref fWi) = true)
    (aIc : PySem.W.nsIn K mainGlobals "is_counts" = some (some (.ref fIc)))
    (lIc : K.lookup fIc = some ⟨ocIc, odIc, .func (PySem.W.fnOf "is_counts" "is_counts" (defArgs (top 25)) (defBody (top 25)) (defScope (top 25)) .none kVIc dcIc pmIc anIc cdIc ctIc), slIc⟩)
    (cIc : PySem.W.codeIn K cdIc "is_counts" = true)
    (kIc : PySem.W.keepIn K (.ref fIc) = true)
    (aIl : PySem.W.nsIn K mainGlobals "is_lot" = some (some (.ref fIl)))
    (lIl : K.lookup fIl = some ⟨ocIl, odIl, .func (PySem.W.fnOf "is_lot" "is_lot" (defArgs (top 26)) (defBody (top 26)) (defScope (top 26)) .none kVIl dcIl pmIl anIl cdIl ctIl), slIl⟩)
    (cIl : PySem.W.codeIn K cdIl "is_lot" = true)
    (kIl : PySem.W.keepIn K (.ref fIl) = true)
    (aCl : PySem.W.nsIn K mainGlobals "check_lot" = some (some (.ref fCl)))
    (lCl : K.lookup fCl = some ⟨ocCl, odCl, .func (PySem.W.fnOf "check_lot" "check_lot" (defArgs (top 27)) (defBody (top 27)) (defScope (top 27)) .none kVCl dcCl pmCl anCl cdCl ctCl), slCl⟩)
    (cCl : PySem.W.codeIn K cdCl "check_lot" = true)
    (kCl : PySem.W.keepIn K (.ref fCl) = true)
    (aBi : PySem.W.nsIn K mainGlobals "lot_behind" = some (some (.ref fBi)))
    (lBi : K.lookup fBi = some ⟨ocBi, odBi, .func (PySem.W.fnOf "lot_behind" "lot_behind" (defArgs (top 28)) (defBody (top 28)) (defScope (top 28)) .none kVBi dcBi pmBi anBi cdBi ctBi), slBi⟩)
    (cBi : PySem.W.codeIn K cdBi "lot_behind" = true)
    (kBi : PySem.W.keepIn K (.ref fBi) = true)
    (aLd : PySem.W.nsIn K mainGlobals "led" = some (some (.ref fLd)))
    (lLd : K.lookup fLd = some ⟨ocLd, odLd, .func (PySem.W.fnOf "led" "led" (defArgs (top 29)) (defBody (top 29)) (defScope (top 29)) .none kVLd dcLd pmLd anLd cdLd ctLd), slLd⟩)
    (cLd : PySem.W.codeIn K cdLd "led" = true)
    (kLd : PySem.W.keepIn K (.ref fLd) = true)
    (nd : [CP, CQ, CR].Nodup)
    (z_len : PySem.W.nsIn K mainGlobals "len" = some none)
    (z_int : PySem.W.nsIn K mainGlobals "int" = some none)
    (z_max : PySem.W.nsIn K mainGlobals "max" = some none)
    (z_range : PySem.W.nsIn K mainGlobals "range" = some none)
    (z_isinstance : PySem.W.nsIn K mainGlobals "isinstance" = some none)
    (z_repr : PySem.W.nsIn K mainGlobals "repr" = some none)
    (z_list : PySem.W.nsIn K mainGlobals "list" = some none)
    (z_str : PySem.W.nsIn K mainGlobals "str" = some none)
    (z_tuple : PySem.W.nsIn K mainGlobals "tuple" = some none)
    (z_all : PySem.W.nsIn K mainGlobals "all" = some none)
    (z_enumerate : PySem.W.nsIn K mainGlobals "enumerate" = some none)
    (z_sorted : PySem.W.nsIn K mainGlobals "sorted" = some none)
    (z_set : PySem.W.nsIn K mainGlobals "set" = some none)
    (z_zip : PySem.W.nsIn K mainGlobals "zip" = some none)
    (z_dict : PySem.W.nsIn K mainGlobals "dict" = some none)
    (z_sum : PySem.W.nsIn K mainGlobals "sum" = some none)
    (z_bool : PySem.W.nsIn K mainGlobals "bool" = some none)
    : ∃ fd : FuncData, (∀ (s : Shared) (v : Value), BindsTo s fd ⟨[v], []⟩ [("_law_script", v)]) ∧ ∀ base : Heap, K.In base → base.Ns mainGlobals mg → FnG l.prog w K mg base 10 fa fd ["_law_script"] (spLaw K) := by
  have e := hfa.symm.trans (PySem.W.mg_of X G aLa)
  cases e
  have OL : Own K CL fIL := ⟨⟨⟨_, _, _, _, _, _, _, _, _, _, _, _, _, _, _, xLL, by show PySem.HandSPX.refsVE PySem.HandSPX.veTail = true; decide +kernel⟩, saL, exL, tyL, kCL⟩, iCL, tIL⟩
  have FDL : FunD K "__init__" "InvalidList.__init__" (defArgs (inClass (top 2) 0)) (defBody (inClass (top 2) 0)) (defScope (inClass (top 2) 0)) [V.non] [] fIL _ := ⟨⟨ocIL, odIL, _, kVIL, dcIL, pmIL, anIL, cdIL, ctIL, slIL, rfl, lIL, cIL, .inr ⟨by simp, TL, _, [.none], tnL, rfl, lTL, rfl, .cons rfl .nil⟩, .inl rfl⟩, kIL⟩
  have ISL : IsC K CL := ⟨icL, ⟨gaL, ggL, exL, hdL⟩, haL, hn, ht, by rw [mro_of xLL]; rfl⟩
  have OE : Own K CE fIE := ⟨⟨⟨_, _, _, _, _, _, _, _, _, _, _, _, _, _, _, xLE, by show PySem.HandSPX.refsVE PySem.HandSPX.veTail = true; decide +kernel⟩, saE, exE, tyE, kCE⟩, iCE, tIE⟩
  have FDE : FunD K "__init__" "InvalidItem.__init__" (defArgs (inClass (top 3) 0)) (defBody (inClass (top 3) 0)) (defScope (inClass (top 3) 0)) [V.non] [] fIE _ := ⟨⟨ocIE, odIE, _, kVIE, dcIE, pmIE, anIE, cdIE, ctIE, slIE, rfl, lIE, cIE, .inr ⟨by simp, TE, _, [.none], tnE, rfl, lTE, rfl, .cons rfl .nil⟩, .inl rfl⟩, kIE⟩
  have ISE : IsC K CE := ⟨icE, ⟨gaE, ggE, exE, hdE⟩, haE, hn, ht, by rw [mro_of xLE]; rfl⟩
  have OP : Own K CP fIP := ⟨⟨⟨_, _, _, _, _, _, _, _, _, _, _, _, _, _, _, xLP, by show PySem.HandSPX.refsVE PySem.HandSPX.veTail = true; decide +kernel⟩, saP, exP, tyP, kCP⟩, iCP, tIP⟩
  have FDP : FunD K "__init__" "InvalidBook.__init__" (defArgs (inClass (top 4) 0)) (defBody (inClass (top 4) 0)) (defScope (inClass (top 4) 0)) [V.non] [] fIP _ := ⟨⟨ocIP, odIP, _, kVIP, dcIP, pmIP, anIP, cdIP, ctIP, slIP, rfl, lIP, cIP, .inr ⟨by simp, TP, _, [.none], tnP, rfl, lTP, rfl, .cons rfl .nil⟩, .inl rfl⟩, kIP⟩
  have ISP : IsC K CP := ⟨icP, ⟨gaP, ggP, exP, hdP⟩, haP, hn, ht, by rw [mro_of xLP]; rfl⟩
  have OQ : Own K CQ fIQ := ⟨⟨⟨_, _, _, _, _, _, _, _, _, _, _, _, _, _, _, xLQ, by show PySem.HandSPX.refsVE PySem.HandSPX.veTail = true; decide +kernel⟩, saQ, exQ, tyQ, kCQ⟩, iCQ, tIQ⟩
  have FDQ : FunD K "__init__" "InvalidLot.__init__" (defArgs (inClass (top 5) 0)) (defBody (inClass (top 5) 0)) (defScope (inClass (top 5) 0)) [V.non] [] fIQ _ := ⟨⟨ocIQ, odIQ, _, kVIQ, dcIQ, pmIQ, anIQ, cdIQ, ctIQ, slIQ, rfl, lIQ, cIQ, .inr ⟨by simp, TQ, _, [.none], tnQ, rfl, lTQ, rfl, .cons rfl .nil⟩, .inl rfl⟩, kIQ⟩
  have ISQ : IsC K CQ := ⟨icQ, ⟨gaQ, ggQ, exQ, hdQ⟩, haQ, hn, ht, by rw [mro_of xLQ]; rfl⟩
  have OR : Own K CR fIR := ⟨⟨⟨_, _, _, _, _, _, _, _, _, _, _, _, _, _, _, xLR, by show PySem.HandSPX.refsVE PySem.HandSPX.veTail = true; decide +kernel⟩, saR, exR, tyR, kCR⟩, iCR, tIR⟩
  have FDR : FunD K "__init__" "InvalidRun.__init__" (defArgs (inClass (top 6) 0)) (defBody (inClass (top 6) 0)) (defScope (inClass (top 6) 0)) [V.non] [] fIR _ := ⟨⟨ocIR, odIR, _, kVIR, dcIR, pmIR, anIR, cdIR, ctIR, slIR, rfl, lIR, cIR, .inr ⟨by simp, TR, _, [.none], tnR, rfl, lTR, rfl, .cons rfl .nil⟩, .inl rfl⟩, kIR⟩
  have ISR : IsC K CR := ⟨icR, ⟨gaR, ggR, exR, hdR⟩, haR, hn, ht, by rw [mro_of xLR]; rfl⟩
  have FCe := fun_mk (st := sCell) lCe cCe kCe
  have bCe := FCe.binds (ps := ["_law_script", "_law_index"]) fun _ _ _ _ _ _ us hl => match us, hl with | [_, _], _ => rfl
  have FHa := fun_mk (st := sHash) lHa cHa kHa
  have bHa := FHa.binds (ps := ["_law_seed", "_law_index"]) fun _ _ _ _ _ _ us hl => match us, hl with | [_, _], _ => rfl
  have FGe := fun_mk (st := sGen) lGe cGe kGe
  have bGe := FGe.binds (ps := ["_law_script", "_law_index"]) fun _ _ _ _ _ _ us hl => match us, hl with | [_, _], _ => rfl
  have FRa := fun_mk (st := sRand) lRa cRa kRa
  have bRa := FRa.binds (ps := ["_law_generator_here", "_law_bound"]) fun _ _ _ _ _ _ us hl => match us, hl with | [_, _], _ => rfl
  have FEn := fun_mk (st := (top 35)) lEn cEn kEn
  have bEn := FEn.binds (ps := ["_law_generator_here", "_law_houses", "_law_stands", "_law_sounds"]) fun _ _ _ _ _ _ us hl => match us, hl with | [_, _, _, _], _ => rfl
  have FPa := fun_mk (st := (top 36)) lPa cPa kPa
  have bPa := FPa.binds (ps := ["_law_generator_here", "_law_wide", "_law_high"]) fun _ _ _ _ _ _ us hl => match us, hl with | [_, _, _], _ => rfl
  have FLb := fun_mk (st := (top 37)) lLb cLb kLb
  have bLb := FLb.binds (ps := ["_law_parts_here"]) fun _ _ _ _ _ _ us hl => match us, hl with | [_], _ => rfl
  have FCo := fun_mk (st := (top 38)) lCo cCo kCo
  have bCo := FCo.binds (ps := ["_law_most"]) fun _ _ _ _ _ _ us hl => match us, hl with | [_], _ => rfl
  have FBh := fun_mk (st := (top 39)) lBh cBh kBh
  have bBh := FBh.binds (ps := ["_law_parts_here", "_law_state", "_law_number", "_law_heard"]) fun _ _ _ _ _ _ us hl => match us, hl with | [_, _, _, _], _ => rfl
  have FDx := fun_mk (st := (top 40)) lDx cDx kDx
  have bDx := FDx.binds (ps := ["_law_parts_here", "_law_state"]) fun _ _ _ _ _ _ us hl => match us, hl with | [_, _], _ => rfl
  have FNx := fun_mk (st := (top 41)) lNx cNx kNx
  have bNx := FNx.binds (ps := ["_law_parts_here", "_law_state"]) fun _ _ _ _ _ _ us hl => match us, hl with | [_, _], _ => rfl
  have FDr := fun_mk (st := (top 42)) lDr cDr kDr
  have bDr := FDr.binds (ps := ["_law_generator_here", "_law_parts_here", "_law_state", "_law_most"]) fun _ _ _ _ _ _ us hl => match us, hl with | [_, _, _, _], _ => rfl
  have FWk := fun_mk (st := (top 43)) lWk cWk kWk
  have bWk := FWk.binds (ps := ["_law_parts_here", "_law_state", "_law_run"]) fun _ _ _ _ _ _ us hl => match us, hl with | [_, _, _], _ => rfl
  have FLo := fun_mk (st := (top 44)) lLo cLo kLo
  have bLo := FLo.binds (ps := ["_law_generator_here", "_law_parts_here", "_law_most"]) fun _ _ _ _ _ _ us hl => match us, hl with | [_, _, _], _ => rfl
  have FRi := fun_mk (st := (top 45)) lRi cRi kRi
  have bRi := FRi.binds (ps := ["_law_book_here", "_law_parts_here", "_law_state", "_law_run"]) fun _ _ _ _ _ _ us hl => match us, hl with | [_, _, _, _], _ => rfl
  have FCa := fun_mk (st := (top 46)) lCa cCa kCa
  have bCa := FCa.binds (ps := ["_law_book_here", "_law_lot", "_law_run"]) fun _ _ _ _ _ _ us hl => match us, hl with | [_, _, _], _ => rfl
  have FRf := fun_mk (st := (top 47)) lRf cRf kRf
  have bRf := FRf.binds (ps := ["_law_book_here", "_law_parts_here"]) fun _ _ _ _ _ _ us hl => match us, hl with | [_, _], _ => rfl
  have FLa := fun_mk (st := (top 48)) lLa cLa kLa
  have FNa := fun_mk (st := (top 9)) lNa cNa kNa
  have bNa := FNa.binds (ps := ["value"]) fun _ _ _ _ _ _ us hl => match us, hl with | [_], _ => rfl
  have FCm := fun_mk (st := (top 11)) lCm cCm kCm
  have bCm := FCm.binds (ps := ["value", "least", "most"]) fun _ _ _ _ _ _ us hl => match us, hl with | [_, _, _], _ => rfl
  have FCn := fun_mk (st := (top 12)) lCn cCn kCn
  have bCn := FCn.binds (ps := ["names", "taken"]) fun _ _ _ _ _ _ us hl => match us, hl with | [_, _], _ => rfl
  have FDe := fun_mk (st := (top 13)) lDe cDe kDe
  have bDe := FDe.binds (ps := ["houses", "stands", "value"]) fun _ _ _ _ _ _ us hl => match us, hl with | [_, _, _], _ => rfl
  have FHe := fun_mk (st := (top 14)) lHe cHe kHe
  have bHe := FHe.binds (ps := ["houses", "stands", "value"]) fun _ _ _ _ _ _ us hl => match us, hl with | [_, _, _], _ => rfl
  have FAl := fun_mk (st := (top 15)) lAl cAl kAl
  have bAl := FAl.binds (ps := ["hearing", "hearings"]) fun _ _ _ _ _ _ us hl => match us, hl with | [_, _], _ => rfl
  have FCd := fun_mk (st := (top 16)) lCd cCd kCd
  have bCd := FCd.binds (ps := ["houses", "stands", "deeds"]) fun _ _ _ _ _ _ us hl => match us, hl with | [_, _, _], _ => rfl
  have FCh := fun_mk (st := (top 17)) lCh cCh kCh
  have bCh := FCh.binds (ps := ["houses", "stands", "hearings"]) fun _ _ _ _ _ _ us hl => match us, hl with | [_, _, _], _ => rfl
  have FWh := fun_mk (st := (top 8)) lWh cWh kWh
  have bWh := FWh.binds (ps := ["value"]) fun _ _ _ _ _ _ us hl => match us, hl with | [_], _ => rfl
  have FCb := fun_mk (st := (top 19)) lCb cCb kCb
  have bCb := FCb.binds (ps := ["value"]) fun _ _ _ _ _ _ us hl => match us, hl with | [_], _ => rfl
  have FWi := fun_mk (st := (top 22)) lWi cWi kWi
  have bWi := FWi.binds (ps := ["bounds", "value"]) fun _ _ _ _ _ _ us hl => match us, hl with | [_, _], _ => rfl
  have FIc := fun_mk (st := (top 25)) lIc cIc kIc
  have bIc := FIc.binds (ps := ["book", "value"]) fun _ _ _ _ _ _ us hl => match us, hl with | [_, _], _ => rfl
  have FIl := fun_mk (st := (top 26)) lIl cIl kIl
  have bIl := FIl.binds (ps := ["book", "value"]) fun _ _ _ _ _ _ us hl => match us, hl with | [_, _], _ => rfl
  have FCl := fun_mk (st := (top 27)) lCl cCl kCl
  have bCl := FCl.binds (ps := ["book", "value"]) fun _ _ _ _ _ _ us hl => match us, hl with | [_, _], _ => rfl
  have FBi := fun_mk (st := (top 28)) lBi cBi kBi
  have bBi := FBi.binds (ps := ["steps", "lot", "value"]) fun _ _ _ _ _ _ us hl => match us, hl with | [_, _, _], _ => rfl
  have FLd := fun_mk (st := (top 29)) lLd cLd kLd
  have bLd := FLd.binds (ps := ["book", "lot", "run"]) fun _ _ _ _ _ _ us hl => match us, hl with | [_, _, _], _ => rfl
  have FBI := fun_mk (st := (inClass (top 18) 0)) lBI cBI kBI
  have bBI := FBI.binds (ps := ["self", "houses", "stands", "deeds", "hearings", "lost"]) fun _ _ _ _ _ _ us hl => match us, hl with | [_, _, _, _, _, _], _ => rfl
  have FM1 := fun_mk (st := (inClass (top 18) 1)) lM1 cM1 kM1
  have bM1 := FM1.binds (ps := ["self"]) fun _ _ _ _ _ _ us hl => match us, hl with | [_], _ => rfl
  have FM2 := fun_mk (st := (inClass (top 18) 2)) lM2 cM2 kM2
  have bM2 := FM2.binds (ps := ["self"]) fun _ _ _ _ _ _ us hl => match us, hl with | [_], _ => rfl
  have FM3 := fun_mk (st := (inClass (top 18) 3)) lM3 cM3 kM3
  have bM3 := FM3.binds (ps := ["self"]) fun _ _ _ _ _ _ us hl => match us, hl with | [_], _ => rfl
  have FM4 := fun_mk (st := (inClass (top 18) 4)) lM4 cM4 kM4
  have bM4 := FM4.binds (ps := ["self"]) fun _ _ _ _ _ _ us hl => match us, hl with | [_], _ => rfl
  have FM5 := fun_mk (st := (inClass (top 18) 5)) lM5 cM5 kM5
  have bM5 := FM5.binds (ps := ["self"]) fun _ _ _ _ _ _ us hl => match us, hl with | [_], _ => rfl
  have FEq := fun_mk (st := (inClass (top 18) 7)) lEq cEq kEq
  have bEq := FEq.binds (ps := ["self", "other"]) fun _ _ _ _ _ _ us hl => match us, hl with | [_, _], _ => rfl
  have FSI := fun_mk (st := (inClass (top 23) 0)) lSI cSI kSI
  have bSI := FSI.binds (ps := ["self", "book"]) fun _ _ _ _ _ _ us hl => match us, hl with | [_, _], _ => rfl
  have FS3 := fun_mk (st := (inClass (top 23) 3)) lS3 cS3 kS3
  have bS3 := FS3.binds (ps := ["self", "lot", "event"]) fun _ _ _ _ _ _ us hl => match us, hl with | [_, _, _], _ => rfl
  have FS4 := fun_mk (st := (inClass (top 23) 4)) lS4 cS4 kS4
  have bS4 := FS4.binds (ps := ["self", "lot", "event"]) fun _ _ _ _ _ _ us hl => match us, hl with | [_, _, _], _ => rfl
  have FS5 := fun_mk (st := (inClass (top 23) 5)) lS5 cS5 kS5
  have bS5 := FS5.binds (ps := ["self", "lot", "place"]) fun _ _ _ _ _ _ us hl => match us, hl with | [_, _, _], _ => rfl
  have FS6 := fun_mk (st := (inClass (top 23) 6)) lS6 cS6 kS6
  have bS6 := FS6.binds (ps := ["self", "lot", "deed"]) fun _ _ _ _ _ _ us hl => match us, hl with | [_, _, _], _ => rfl
  have FS7 := fun_mk (st := (inClass (top 23) 7)) lS7 cS7 kS7
  have bS7 := FS7.binds (ps := ["self", "lot", "deed"]) fun _ _ _ _ _ _ us hl => match us, hl with | [_, _, _], _ => rfl
  have FS9 := fun_mk (st := (inClass (top 23) 9)) lS9 cS9 kS9
  have bS9 := FS9.binds (ps := ["self", "lot", "number", "heard"]) fun _ _ _ _ _ _ us hl => match us, hl with | [_, _, _, _], _ => rfl
  have FS10 := fun_mk (st := (inClass (top 23) 10)) lS10 cS10 kS10
  have bS10 := FS10.binds (ps := ["self", "lot", "deed", "heard"]) fun _ _ _ _ _ _ us hl => match us, hl with | [_, _, _, _], _ => rfl
  have TG : GTxt mg K fCe fHa fGe fRa := ⟨PySem.W.mg_none_of X G z_len, PySem.W.mg_none_of X G z_int, PySem.W.mg_none_of X G z_max, PySem.W.mg_none_of X G z_range, PySem.W.mg_of X G aCe, PySem.W.mg_of X G aHa, PySem.W.mg_of X G aGe, PySem.W.mg_of X G aRa, kCe, kHa, kGe, kRa⟩
  have B : Bt mg := ⟨PySem.W.mg_none_of X G z_isinstance, PySem.W.mg_none_of X G z_str, PySem.W.mg_none_of X G z_list, PySem.W.mg_none_of X G z_tuple, PySem.W.mg_none_of X G z_len, PySem.W.mg_none_of X G z_all, PySem.W.mg_none_of X G z_enumerate, PySem.W.mg_none_of X G z_sorted, PySem.W.mg_none_of X G z_set, PySem.W.mg_none_of X G z_repr, PySem.W.mg_none_of X G z_range⟩
  have Bu_ : Bu mg := ⟨B, PySem.W.mg_none_of X G z_int, PySem.W.mg_none_of X G z_zip, PySem.W.mg_none_of X G z_dict, PySem.W.mg_none_of X G z_sum⟩
  have Bv_ : Bv mg := ⟨Bu_, PySem.W.mg_none_of X G z_bool⟩
  simp only [List.nodup_cons, List.mem_cons, List.not_mem_nil, not_or, or_false, not_false_eq_true, List.nodup_nil, and_true] at nd
  have nPQ : Value.ref CP ≠ .ref CQ := fun z => nd.1.1 (Value.ref.inj z)
  have nPR : Value.ref CP ≠ .ref CR := fun z => nd.1.2 (Value.ref.inj z)
  have nQR : Value.ref CQ ≠ .ref CR := fun z => nd.2 (Value.ref.inj z)
  have kkB : PySem.W.kitOne K (.ref CB) (.ref CB) = some true := by
    unfold PySem.W.kitOne
    rw [if_pos (by simp)]
  have ePH := exm_of exB (kit_of2 (C := .ref CP) icH tyH mPH fun _ => rfl).2
  have kPP : PySem.W.kitOne K (.ref CP) (.ref CP) = some true := by
    unfold PySem.W.kitOne
    rw [if_pos (by simp)]
  have kPQ := (kit_of2 (C := .ref CP) icQ tyQ mPQ fun z => (nPQ z).elim).1
  have kPR := (kit_of2 (C := .ref CP) icR tyR mPR fun z => (nPR z).elim).1
  have eQH := exm_of exB (kit_of2 (C := .ref CQ) icH tyH mQH fun _ => rfl).2
  have kQQ : PySem.W.kitOne K (.ref CQ) (.ref CQ) = some true := by
    unfold PySem.W.kitOne
    rw [if_pos (by simp)]
  have kQP := (kit_of2 (C := .ref CQ) icP tyP mQP fun z => (nPQ z.symm).elim).1
  have kQR := (kit_of2 (C := .ref CQ) icR tyR mQR fun z => (nQR z).elim).1
  have eRH := exm_of exB (kit_of2 (C := .ref CR) icH tyH mRH fun _ => rfl).2
  have kRR : PySem.W.kitOne K (.ref CR) (.ref CR) = some true := by
    unfold PySem.W.kitOne
    rw [if_pos (by simp)]
  have kRP := (kit_of2 (C := .ref CR) icP tyP mRP fun z => (nPR z.symm).elim).1
  have kRQ := (kit_of2 (C := .ref CR) icQ tyQ mRQ fun z => (nQR z.symm).elim).1
  have TE : ErK3 K mg CH CP CQ CR := ⟨PySem.W.mg_of X G aCH, PySem.W.mg_of X G aCP, PySem.W.mg_of X G aCQ, PySem.W.mg_of X G aCR, ePH, eQH, eRH, ISP, ISQ, ISR, noP, noQ, noR, kPP, kPQ, kPR, kQP, kQQ, kQR, kRP, kRQ, kRR, kit_ty2 icP tyP znP, kit_ty2 icQ tyQ znQ, kit_ty2 icR tyR znR⟩
  have cB : BC K CB := ⟨⟨pgB, hdB, poB, saB⟩, nB1, nB2, nB3, nB4, nB5⟩
  have eB : BE K CB := ⟨cB, haB, hn, ht, hmB, kkB, fun d => by cases d <;> exact kit_ty2 icB tyB (by assumption)⟩
  have qB : QC K CB fEq := ⟨atEq, fnEq, neB, hmB, fun d => by cases d <;> assumption, fun d => by cases d <;> assumption⟩
  refine ⟨PySem.W.fnOf "law" "law" (defArgs (top 48)) (defBody (top 48)) (defScope (top 48)) .none kVLa dcLa pmLa anLa cdLa ctLa, fun s v => .of_eq rfl, fun base _ _ => ?_⟩
  have gL := erC_InvalidList (P := l.prog) (w := w) (base := base) FDL OL noL (PySem.W.mg_of X G aCL)
  have gE := erC_InvalidItem (P := l.prog) (w := w) (base := base) FDE OE noE (PySem.W.mg_of X G aCE)
  have GNa := ok_name (P := l.prog) (w := w) (base := base) FNa B
  have GDe := Deed.ok_deed (P := l.prog) (w := w) (base := base) FDe B GNa (PySem.W.mg_of X G aNa) kNa bNa
  have GHe := Hear.ok_hear (P := l.prog) (w := w) (base := base) FHe GDe (PySem.W.mg_of X G aDe) kDe bDe
  have GAl := Hear.ok_alr (P := l.prog) (w := w) (mg := mg) (base := base) FAl
  have TC : Chks l.prog w K mg base CL CE := ⟨⟨fCm, _, Chk.ok_many FCm B gL, PySem.W.mg_of X G aCm, kCm, bCm⟩, ⟨fCn, _, Chk.ok_names FCn B gE GNa (PySem.W.mg_of X G aNa) kNa bNa, PySem.W.mg_of X G aCn, kCn, bCn⟩,
    ⟨fCd, _, Lst.ok_deeds FCd gE GDe (PySem.W.mg_of X G aDe) kDe bDe, PySem.W.mg_of X G aCd, kCd, bCd⟩, ⟨fCh, _, Lst.ok_hears FCh B gE GHe (PySem.W.mg_of X G aHe) kHe bHe GAl (PySem.W.mg_of X G aAl) kAl bAl, PySem.W.mg_of X G aCh, kCh, bCh⟩⟩
  have BK : BkC l.prog w K mg base CL CE CB := ⟨⟨fBI, _, ⟨mB, atBI, fnBI, kB⟩, Bk.ok_init FBI B TC cB, bBI⟩, PySem.W.mg_of X G aB, cB⟩
  have GRa := ok_rand (P := l.prog) (w := w) (base := base) FRa TG FHa bHa
  have GEn := Ent.ok_entry (P := l.prog) (w := w) (base := base) FEn TG GRa bRa
  have gP := erC_InvalidBook (P := l.prog) (w := w) (base := base) FDP OP noP (PySem.W.mg_of X G aCP)
  have gQ := erC_InvalidLot (P := l.prog) (w := w) (base := base) FDQ OQ noQ (PySem.W.mg_of X G aCQ)
  have gR := erC_InvalidRun (P := l.prog) (w := w) (base := base) FDR OR noR (PySem.W.mg_of X G aCR)
  have cS : SC K CS := ⟨⟨pgS, hdS, poS, saS⟩, nS1, nS2, nS3, nS4, nS5⟩
  have HM1 := Bmk.ok_houses (P := l.prog) (w := w) (base := base) FM1 B cB
  have HM2 := Bmk.ok_stands (P := l.prog) (w := w) (base := base) FM2 B cB
  have HM3 := Bmk.ok_deeds (P := l.prog) (w := w) (base := base) FM3 B cB
  have HM4 := Bmk.ok_hearings (P := l.prog) (w := w) (base := base) FM4 B cB
  have HM5 := Bmk.ok_lost (P := l.prog) (w := w) (base := base) FM5 B cB
  have GWh := ok_whole (P := l.prog) (w := w) (base := base) FWh Bv_
  have dWh : Df l.prog w K mg base CX0 1 "is_whole" ["value"] (spWhole K) := ⟨fWh, _, GWh, PySem.W.mg_of X G aWh, kWh, bWh⟩
  have GWi := ok_within (P := l.prog) (w := w) (base := base) FWi Bv_ GWh (PySem.W.mg_of X G aWh) kWh bWh
  have GMA := Stp.ok_ma (P := l.prog) (w := w) (base := base) FS5 B cS
  have GCa := Stq.ok_can (P := l.prog) (w := w) (base := base) FS6 cS ⟨atS5, fnS5, kS5⟩ GMA bS5
  have GCo := Stq.ok_co (P := l.prog) (w := w) (base := base) FS7 Bu_ cS
  have GAD := Sta.ok_ad (P := l.prog) (w := w) (base := base) FS9 Bv_ cS ⟨atS6, fnS6, kS6⟩ GCa bS6 ⟨atS7, fnS7, kS7⟩ GCo bS7 GWh (PySem.W.mg_of X G aWh) kWh bWh GWi (PySem.W.mg_of X G aWi) kWi bWi
  have GSA := Sta.ok_al (P := l.prog) (w := w) (base := base) FS3 Bv_ cS ⟨atS5, fnS5, kS5⟩ GMA bS5 ⟨atS9, fnS9, kS9⟩ GAD bS9
  have GAF := Aft.ok_af (P := l.prog) (w := w) (base := base) FS10 Bv_ cS
  have GA2 := Af2.ok_a2 (P := l.prog) (w := w) (base := base) FS4 Bv_ cS ⟨atS7, fnS7, kS7⟩ GCo bS7 ⟨atS10, fnS10, kS10⟩ GAF bS10
  have GSI := Ini.ok_ii (P := l.prog) (w := w) (base := base) FSI Bv_ cS cB ⟨atM2, fnM2, kM2⟩ HM2 bM2 ⟨atM3, fnM3, kM3⟩ HM3 bM3 ⟨atM5, fnM5, kM5⟩ HM5 bM5 ⟨atM4, fnM4, kM4⟩ HM4 bM4
  have dIc : Df l.prog w K mg base CX0 2 "is_counts" ["book", "value"] (spIC K CB) := ⟨fIc, _, Rna.ok_ic FIc Bv_ eB ⟨atM2, fnM2, kM2⟩ HM2 bM2 dWh, PySem.W.mg_of X G aIc, kIc, bIc⟩
  have dIl : Df l.prog w K mg base CX0 3 "is_lot" ["book", "value"] (spIL K CB) := ⟨fIl, _, Rna.ok_il FIl Bv_ eB ⟨atM1, fnM1, kM1⟩ HM1 bM1 dIc, PySem.W.mg_of X G aIl, kIl, bIl⟩
  have dCl : Df l.prog w K mg base (CX l.prog w) 4 "check_lot" ["book", "value"] (spCL K CB CQ) := ⟨fCl, _, Rna.ok_cl FCl Bv_ gQ dIl, PySem.W.mg_of X G aCl, kCl, bCl⟩
  have dCb : Df l.prog w K mg base (CX l.prog w) 3 "check_book" ["value"] (spCB K CB CP) := ⟨fCb, _, Rna.ok_cb FCb Bv_ gP eB (PySem.W.mg_of X G aB), PySem.W.mg_of X G aCb, kCb, bCb⟩
  have dBi : Df l.prog w K mg base CX0 5 "lot_behind" ["steps", "lot", "value"] (spLb K CS) := ⟨fBi, _, Led.ok_lb FBi Bv_ cS ⟨atS3, fnS3, kS3⟩ GSA bS3 ⟨atS4, fnS4, kS4⟩ GA2 bS4, PySem.W.mg_of X G aBi, kBi, bBi⟩
  have dLd : Df l.prog w K mg base (CX l.prog w) 6 "led" ["book", "lot", "run"] (spLd K CB CP CQ CR) := ⟨fLd, _, Led.ok_ld FLd Bv_ gR eB dCb dCl dBi ⟨mS, atSI, fnSI, kS⟩ GSI (PySem.W.mg_of X G aS) bSI, PySem.W.mg_of X G aLd, kLd, bLd⟩
  have dRa : Df l.prog w K mg base CX0 2 "_law_random" ["_law_generator_here", "_law_bound"] spRand := ⟨fRa, _, GRa, PySem.W.mg_of X G aRa, kRa, bRa⟩
  have dCo : Df l.prog w K mg base CX0 1 "_law_choices" ["_law_most"] (spCh K) := ⟨fCo, _, Cho.ok_ch FCo Bv_, PySem.W.mg_of X G aCo, kCo, bCo⟩
  have dBh : Df l.prog w K mg base CX0 1 "_law_behind" ["_law_parts_here", "_law_state", "_law_number", "_law_heard"] (spBe K) := ⟨fBh, _, Beh.ok_be FBh Bv_, PySem.W.mg_of X G aBh, kBh, bBh⟩
  have dDx : Df l.prog w K mg base CX0 2 "_law_deeds_next" ["_law_parts_here", "_law_state"] (spDn K) := ⟨fDx, _, Dnx.ok_dn FDx Bv_ dCo dBh, PySem.W.mg_of X G aDx, kDx, bDx⟩
  have dNx : Df l.prog w K mg base CX0 3 "_law_next" ["_law_parts_here", "_law_state"] (spNx K) := ⟨fNx, _, Nxt.ok_nx FNx Bv_ dDx, PySem.W.mg_of X G aNx, kNx, bNx⟩
  have dWk : DfG l.prog w K mg base 4 "_law_walked" ["_law_parts_here", "_law_state", "_law_run"] (spWa K) := ⟨fWk, _, Wlk.ok_wa FWk Bv_ dNx, PySem.W.mg_of X G aWk, kWk, bWk⟩
  have dCa : DfG l.prog w K mg base 8 "_law_caught" ["_law_book_here", "_law_lot", "_law_run"] (spCk K CB) := ⟨fCa, _, Cak.ok_ck FCa Bv_ TE dLd, PySem.W.mg_of X G aCa, kCa, bCa⟩
  have T : Lwk.LawT l.prog w K mg base CL CE CB CP CQ CR := {
    gen := ⟨fGe, _, ok_gen FGe TG FCe bCe, PySem.W.mg_of X G aGe, kGe, bGe⟩
    parts := ⟨fPa, _, ok_parts FPa TG GRa bRa GEn bEn (PySem.W.mg_of X G aEn) kEn, PySem.W.mg_of X G aPa, kPa, bPa⟩
    lb := ⟨fLb, _, Bmk.ok_lb FLb B BK, PySem.W.mg_of X G aLb, kLb, bLb⟩
    lot := ⟨fLo, _, Lot.ok_lo FLo Bv_ dRa, PySem.W.mg_of X G aLo, kLo, bLo⟩
    drn := ⟨fDr, _, Drn.ok_dr FDr Bv_ dRa dNx, PySem.W.mg_of X G aDr, kDr, bDr⟩
    right := ⟨fRi, _, Rig.ok_ri FRi Bv_ dWk dLd, PySem.W.mg_of X G aRi, kRi, bRi⟩
    ref := ⟨fRf, _, Ref.ok_rf FRf Bv_ dCa, PySem.W.mg_of X G aRf, kRf, bRf⟩
    led := dLd
    bk := BK
    eq := ⟨fEq, _, qB, EqB.ok_eq FEq B eB (PySem.W.mg_of X G aB), bEq⟩ }
  exact Lwk.ok_law FLa Bv_ T
end Fi

open PySem PySem.W PyProof.Rows
set_option maxRecDepth 100000 in
set_option maxHeartbeats 0 in
theorem PySem.Challenge.cw_hushedasks_k16_lots_behind_runs_holds : PySem.Challenge.rw_hushedasks_k16_lots_behind_runs.Holds := by
  w_on; o_law; k_head; (case hw => w_witness2)
  k_fill
  refine Gu.walkG (l := PySem.Challenge.rw_hushedasks_k16_lots_behind_runs) (n := 63) (k := 10) (x := "_law_script") (sp := Lwk.spLaw) rfl (by decide) rfl ⟨rfl, by decide, by decide⟩ (fun w h Y => PySem.W.kIn_of Y) ?F ?S
  case F =>
    intro w mg fa h KX G hmg
    refine' Fi.all_mk KX G hmg ?aCH ?xLH ?gaH ?ggH ?haH ?kCH ?exH ?tyH ?hdH ?icH ?aCL ?xLL ?gaL ?ggL ?haL ?kCL ?exL ?tyL ?hdL ?icL ?saL ?iCL ?tIL ?noL ?lIL ?cIL ?kIL ?lTL ?aCE ?xLE ?gaE ?ggE ?haE ?kCE ?exE ?tyE ?hdE ?icE ?saE ?iCE ?tIE ?noE ?lIE ?cIE ?kIE ?lTE ?aCP ?xLP ?gaP ?ggP ?haP ?kCP ?exP ?tyP ?hdP ?icP ?saP ?iCP ?tIP ?noP ?lIP ?cIP ?kIP ?lTP ?aCQ ?xLQ ?gaQ ?ggQ ?haQ ?kCQ ?exQ ?tyQ ?hdQ ?icQ ?saQ ?iCQ ?tIQ ?noQ ?lIQ ?cIQ ?kIQ ?lTQ ?aCR ?xLR ?gaR ?ggR ?haR ?kCR ?exR ?tyR ?hdR ?icR ?saR ?iCR ?tIR ?noR ?lIR ?cIR ?kIR ?lTR ?mPH ?mPQ ?mPR ?znP ?mQH ?mQP ?mQR ?znQ ?mRH ?mRP ?mRQ ?znR ?exB ?hn ?ht ?aB ?mB ?kB ?pgB ?hdB ?poB ?saB ?nB1 ?nB2 ?nB3 ?nB4 ?nB5 ?haB ?hmB ?icB ?tyB ?kn_NoneType ?nf_NoneType ?sb_NoneType ?kn_bool ?nf_bool ?sb_bool ?kn_int ?nf_int ?sb_int ?kn_str ?nf_str ?sb_str ?kn_list ?nf_list ?sb_list ?kn_tuple ?nf_tuple ?sb_tuple ?kn_dict ?nf_dict ?sb_dict ?neB ?atBI ?fnBI ?lBI ?cBI ?kBI ?atM1 ?fnM1 ?lM1 ?cM1 ?kM1 ?atM2 ?fnM2 ?lM2 ?cM2 ?kM2 ?atM3 ?fnM3 ?lM3 ?cM3 ?kM3 ?atM4 ?fnM4 ?lM4 ?cM4 ?kM4 ?atM5 ?fnM5 ?lM5 ?cM5 ?kM5 ?atEq ?fnEq ?lEq ?cEq ?kEq ?aS ?mS ?kS ?pgS ?hdS ?poS ?saS ?nS1 ?nS2 ?nS3 ?nS4 ?nS5 ?atSI ?fnSI ?lSI ?cSI ?kSI ?atS3 ?fnS3 ?lS3 ?cS3 ?kS3 ?atS4 ?fnS4 ?lS4 ?cS4 ?kS4 ?atS5 ?fnS5 ?lS5 ?cS5 ?kS5 ?atS6 ?fnS6 ?lS6 ?cS6 ?kS6 ?atS7 ?fnS7 ?lS7 ?cS7 ?kS7 ?atS9 ?fnS9 ?lS9 ?cS9 ?kS9 ?atS10 ?fnS10 ?lS10 ?cS10 ?kS10 ?aCe ?lCe ?cCe ?kCe ?aHa ?lHa ?cHa ?kHa ?aGe ?lGe ?cGe ?kGe ?aRa ?lRa ?cRa ?kRa ?aEn ?lEn ?cEn ?kEn ?aPa ?lPa ?cPa ?kPa ?aLb ?lLb ?cLb ?kLb ?aCo ?lCo ?cCo ?kCo ?aBh ?lBh ?cBh ?kBh ?aDx ?lDx ?cDx ?kDx ?aNx ?lNx ?cNx ?kNx ?aDr ?lDr ?cDr ?kDr ?aWk ?lWk ?cWk ?kWk ?aLo ?lLo ?cLo ?kLo ?aRi ?lRi ?cRi ?kRi ?aCa ?lCa ?cCa ?kCa ?aRf ?lRf ?cRf ?kRf ?aLa ?lLa ?cLa ?kLa ?aNa ?lNa ?cNa ?kNa ?aCm ?lCm ?cCm ?kCm ?aCn ?lCn ?cCn ?kCn ?aDe ?lDe ?cDe ?kDe ?aHe ?lHe ?cHe ?kHe ?aAl ?lAl ?cAl ?kAl ?aCd ?lCd ?cCd ?kCd ?aCh ?lCh ?cCh ?kCh ?aWh ?lWh ?cWh ?kWh ?aCb ?lCb ?cCb ?kCb ?aWi ?lWi ?cWi ?kWi ?aIc ?lIc ?cIc ?kIc ?aIl ?lIl ?cIl ?kIl ?aCl ?lCl ?cCl ?kCl ?aBi ?lBi ?cBi ?kBi ?aLd ?lLd ?cLd ?kLd ?nd ?z_len ?z_int ?z_max ?z_range ?z_isinstance ?z_repr ?z_list ?z_str ?z_tuple ?z_all ?z_enumerate ?z_sorted ?z_set ?z_zip ?z_dict ?z_sum ?z_bool
    (case aCH => k_is)
    (case xLH => k_is)
    (case gaH => k_is)
    (case ggH => k_is)
    (case haH => k_is)
    (case kCH => k_is)
    (case exH => k_is)
    (case tyH => k_is)
    (case hdH => k_is)
    (case icH => k_is)
    (case aCL => k_is)
    (case xLL => k_is)
    (case gaL => k_is)
    (case ggL => k_is)
    (case haL => k_is)
    (case kCL => k_is)
    (case exL => k_is)
    (case tyL => k_is)
    (case hdL => k_is)
    (case icL => k_is)
    (case saL => k_is)
    (case iCL => k_is)
    (case tIL => k_is)
    (case noL => k_is)
    (case lIL => k_is)
    (case cIL => k_is)
    (case kIL => k_is)
    (case lTL => k_is)
    (case aCE => k_is)
    (case xLE => k_is)
    (case gaE => k_is)
    (case ggE => k_is)
    (case haE => k_is)
    (case kCE => k_is)
    (case exE => k_is)
    (case tyE => k_is)
    (case hdE => k_is)
    (case icE => k_is)
    (case saE => k_is)
    (case iCE => k_is)
    (case tIE => k_is)
    (case noE => k_is)
    (case lIE => k_is)
    (case cIE => k_is)
    (case kIE => k_is)
    (case lTE => k_is)
    (case aCP => k_is)
    (case xLP => k_is)
    (case gaP => k_is)
    (case ggP => k_is)
    (case haP => k_is)
    (case kCP => k_is)
    (case exP => k_is)
    (case tyP => k_is)
    (case hdP => k_is)
    (case icP => k_is)
    (case saP => k_is)
    (case iCP => k_is)
    (case tIP => k_is)
    (case noP => k_is)
    (case lIP => k_is)
    (case cIP => k_is)
    (case kIP => k_is)
    (case lTP => k_is)
    (case aCQ => k_is)
    (case xLQ => k_is)
    (case gaQ => k_is)
    (case ggQ => k_is)
    (case haQ => k_is)
    (case kCQ => k_is)
    (case exQ => k_is)
    (case tyQ => k_is)
    (case hdQ => k_is)
    (case icQ => k_is)
    (case saQ => k_is)
    (case iCQ => k_is)
    (case tIQ => k_is)
    (case noQ => k_is)
    (case lIQ => k_is)
    (case cIQ => k_is)
    (case kIQ => k_is)
    (case lTQ => k_is)
    (case aCR => k_is)
    (case xLR => k_is)
    (case gaR => k_is)
    (case ggR => k_is)
    (case haR => k_is)
    (case kCR => k_is)
    (case exR => k_is)
    (case tyR => k_is)
    (case hdR => k_is)
    (case icR => k_is)
    (case saR => k_is)
    (case iCR => k_is)
    (case tIR => k_is)
    (case noR => k_is)
    (case lIR => k_is)
    (case cIR => k_is)
    (case kIR => k_is)
    (case lTR => k_is)
    (case mPH => k_is)
    (case mPQ => k_is)
    (case mPR => k_is)
    (case znP => k_is)
    (case mQH => k_is)
    (case mQP => k_is)
    (case mQR => k_is)
    (case znQ => k_is)
    (case mRH => k_is)
    (case mRP => k_is)
    (case mRQ => k_is)
    (case znR => k_is)
    (case exB => k_is)
    (case hn => k_is)
    (case ht => k_is)
    (case aB => k_is)
    (case mB => k_is)
    (case kB => k_is)
    (case pgB => k_is)
    (case hdB => k_is)
    (case poB => k_is)
    (case saB => k_is)
    (case nB1 => k_is)
    (case nB2 => k_is)
    (case nB3 => k_is)
    (case nB4 => k_is)
    (case nB5 => k_is)
    (case haB => k_is)
    (case hmB => k_is)
    (case icB => k_is)
    (case tyB => k_is)
    (case kn_NoneType => k_is)
    (case nf_NoneType => k_is)
    (case sb_NoneType => k_is)
    (case kn_bool => k_is)
    (case nf_bool => k_is)
    (case sb_bool => k_is)
    (case kn_int => k_is)
    (case nf_int => k_is)
    (case sb_int => k_is)
    (case kn_str => k_is)
    (case nf_str => k_is)
    (case sb_str => k_is)
    (case kn_list => k_is)
    (case nf_list => k_is)
    (case sb_list => k_is)
    (case kn_tuple => k_is)
    (case nf_tuple => k_is)
    (case sb_tuple => k_is)
    (case kn_dict => k_is)
    (case nf_dict => k_is)
    (case sb_dict => k_is)
    (case neB => k_is)
    (case atBI => k_is)
    (case fnBI => k_is)
    (case lBI => k_is)
    (case cBI => k_is)
    (case kBI => k_is)
    (case atM1 => k_is)
    (case fnM1 => k_is)
    (case lM1 => k_is)
    (case cM1 => k_is)
    (case kM1 => k_is)
    (case atM2 => k_is)
    (case fnM2 => k_is)
    (case lM2 => k_is)
    (case cM2 => k_is)
    (case kM2 => k_is)
    (case atM3 => k_is)
    (case fnM3 => k_is)
    (case lM3 => k_is)
    (case cM3 => k_is)
    (case kM3 => k_is)
    (case atM4 => k_is)
    (case fnM4 => k_is)
    (case lM4 => k_is)
    (case cM4 => k_is)
    (case kM4 => k_is)
    (case atM5 => k_is)
    (case fnM5 => k_is)
    (case lM5 => k_is)
    (case cM5 => k_is)
    (case kM5 => k_is)
    (case atEq => k_is)
    (case fnEq => k_is)
    (case lEq => k_is)
    (case cEq => k_is)
    (case kEq => k_is)
    (case aS => k_is)
    (case mS => k_is)
    (case kS => k_is)
    (case pgS => k_is)
    (case hdS => k_is)
    (case poS => k_is)
    (case saS => k_is)
    (case nS1 => k_is)
    (case nS2 => k_is)
    (case nS3 => k_is)
    (case nS4 => k_is)
    (case nS5 => k_is)
    (case atSI => k_is)
    (case fnSI => k_is)
    (case lSI => k_is)
    (case cSI => k_is)
    (case kSI => k_is)
    (case atS3 => k_is)
    (case fnS3 => k_is)
    (case lS3 => k_is)
    (case cS3 => k_is)
    (case kS3 => k_is)
    (case atS4 => k_is)
    (case fnS4 => k_is)
    (case lS4 => k_is)
    (case cS4 => k_is)
    (case kS4 => k_is)
    (case atS5 => k_is)
    (case fnS5 => k_is)
    (case lS5 => k_is)
    (case cS5 => k_is)
    (case kS5 => k_is)
    (case atS6 => k_is)
    (case fnS6 => k_is)
    (case lS6 => k_is)
    (case cS6 => k_is)
    (case kS6 => k_is)
    (case atS7 => k_is)
    (case fnS7 => k_is)
    (case lS7 => k_is)
    (case cS7 => k_is)
    (case kS7 => k_is)
    (case atS9 => k_is)
    (case fnS9 => k_is)
    (case lS9 => k_is)
    (case cS9 => k_is)
    (case kS9 => k_is)
    (case atS10 => k_is)
    (case fnS10 => k_is)
    (case lS10 => k_is)
    (case cS10 => k_is)
    (case kS10 => k_is)
    (case aCe => k_is)
    (case lCe => k_is)
    (case cCe => k_is)
    (case kCe => k_is)
    (case aHa => k_is)
    (case lHa => k_is)
    (case cHa => k_is)
    (case kHa => k_is)
    (case aGe => k_is)
    (case lGe => k_is)
    (case cGe => k_is)
    (case kGe => k_is)
    (case aRa => k_is)
    (case lRa => k_is)
    (case cRa => k_is)
    (case kRa => k_is)
    (case aEn => k_is)
    (case lEn => k_is)
    (case cEn => k_is)
    (case kEn => k_is)
    (case aPa => k_is)
    (case lPa => k_is)
    (case cPa => k_is)
    (case kPa => k_is)
    (case aLb => k_is)
    (case lLb => k_is)
    (case cLb => k_is)
    (case kLb => k_is)
    (case aCo => k_is)
    (case lCo => k_is)
    (case cCo => k_is)
    (case kCo => k_is)
    (case aBh => k_is)
    (case lBh => k_is)
    (case cBh => k_is)
    (case kBh => k_is)
    (case aDx => k_is)
    (case lDx => k_is)
    (case cDx => k_is)
    (case kDx => k_is)
    (case aNx => k_is)
    (case lNx => k_is)
    (case cNx => k_is)
    (case kNx => k_is)
    (case aDr => k_is)
    (case lDr => k_is)
    (case cDr => k_is)
    (case kDr => k_is)
    (case aWk => k_is)
    (case lWk => k_is)
    (case cWk => k_is)
    (case kWk => k_is)
    (case aLo => k_is)
    (case lLo => k_is)
    (case cLo => k_is)
    (case kLo => k_is)
    (case aRi => k_is)
    (case lRi => k_is)
    (case cRi => k_is)
    (case kRi => k_is)
    (case aCa => k_is)
    (case lCa => k_is)
    (case cCa => k_is)
    (case kCa => k_is)
    (case aRf => k_is)
    (case lRf => k_is)
    (case cRf => k_is)
    (case kRf => k_is)
    (case aLa => k_is)
    (case lLa => k_is)
    (case cLa => k_is)
    (case kLa => k_is)
    (case aNa => k_is)
    (case lNa => k_is)
    (case cNa => k_is)
    (case kNa => k_is)
    (case aCm => k_is)
    (case lCm => k_is)
    (case cCm => k_is)
    (case kCm => k_is)
    (case aCn => k_is)
    (case lCn => k_is)
    (case cCn => k_is)
    (case kCn => k_is)
    (case aDe => k_is)
    (case lDe => k_is)
    (case cDe => k_is)
    (case kDe => k_is)
    (case aHe => k_is)
    (case lHe => k_is)
    (case cHe => k_is)
    (case kHe => k_is)
    (case aAl => k_is)
    (case lAl => k_is)
    (case cAl => k_is)
    (case kAl => k_is)
    (case aCd => k_is)
    (case lCd => k_is)
    (case cCd => k_is)
    (case kCd => k_is)
    (case aCh => k_is)
    (case lCh => k_is)
    (case cCh => k_is)
    (case kCh => k_is)
    (case aWh => k_is)
    (case lWh => k_is)
    (case cWh => k_is)
    (case kWh => k_is)
    (case aCb => k_is)
    (case lCb => k_is)
    (case cCb => k_is)
    (case kCb => k_is)
    (case aWi => k_is)
    (case lWi => k_is)
    (case cWi => k_is)
    (case kWi => k_is)
    (case aIc => k_is)
    (case lIc => k_is)
    (case cIc => k_is)
    (case kIc => k_is)
    (case aIl => k_is)
    (case lIl => k_is)
    (case cIl => k_is)
    (case kIl => k_is)
    (case aCl => k_is)
    (case lCl => k_is)
    (case cCl => k_is)
    (case kCl => k_is)
    (case aBi => k_is)
    (case lBi => k_is)
    (case cBi => k_is)
    (case kBi => k_is)
    (case aLd => k_is)
    (case lLd => k_is)
    (case cLd => k_is)
    (case kLd => k_is)
    (case nd => decide)
    (case z_len => k_is)
    (case z_int => k_is)
    (case z_max => k_is)
    (case z_range => k_is)
    (case z_isinstance => k_is)
    (case z_repr => k_is)
    (case z_list => k_is)
    (case z_str => k_is)
    (case z_tuple => k_is)
    (case z_all => k_is)
    (case z_enumerate => k_is)
    (case z_sorted => k_is)
    (case z_set => k_is)
    (case z_zip => k_is)
    (case z_dict => k_is)
    (case z_sum => k_is)
    (case z_bool => k_is)
  case S =>
    intro K H a ns hl hS
    exact ⟨a, ns, rfl, hS, hl, fun _ => rfl⟩
