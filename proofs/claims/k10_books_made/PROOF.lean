import PyProof.Rows.All
import Wide.All
import OpenK.AllK
import Wide.FinOn
import HandS.ForMost
import HandS.Wide
import HandS.WideBits
import HandS.IsInst
import HandS.ExcInit
import HandS.Defaults
import HandS.ExcValue
import HandS.ExcField
import HandS.MakeKw
import HandS.Evl
import HandS.Style
import HandS.Deep
import HandS.Flow
import HandS.Walk
import HandS.Set
import HandS.SetTxt0
import HandS.SetBool
import HandS.Strs
import PyProof.Rows.SortStr
import HandS.WordsExc
import HandS.OwnEq
import KE.KExcIs
import KE.DataCmp
import KE.DataEq
import PySem.Challenge.RW_hushedasks_k10_books_made
set_option Elab.async false
set_option linter.all false
set_option maxRecDepth 100000
namespace Gen
open PySem PySem.Spec PyProof.Rows L2
abbrev VInt (l : List Int) : List V := l.map V.int
def top (i : Nat) : Stmt := PySem.Challenge.pw_hushedasks_k10_books_made.main.body.getD i (.Pass ⟨0, 0, 0, 0⟩)
abbrev sCell : Stmt := top 16
abbrev sHash : Stmt := top 17
abbrev sGen : Stmt := top 18
abbrev sRand : Stmt := top 19
/-! ### numbers -/
theorem op_powW {X : Cx} : OpR X (binaryOp .Pow) (rI (fun i j => 0 ≤ j ∧ (Builtin.Int.intBits i : Int) * j ≤ 2 ^ 27) fun i j => .int (i ^ j.toNat)) := opI fun _ _ _ _ _ _ _ hc q => pow_int hc.1 hc.2 q
theorem nab_lt {z : Int} {n : Nat} (h0 : 0 ≤ z) (h : z < ((2 ^ n : Nat) : Int)) : z.natAbs < 2 ^ n := by omega
theorem bits_le {z : Int} {n : Nat} (hn : 0 < n) (h : z.natAbs < 2 ^ n) : Builtin.Int.intBits z ≤ n := by
  unfold Builtin.Int.intBits
  split
  · omega
  · have := PySem.Flt.log2_lt_of hn h
    omega
theorem mod31 {x m : Int} (h0 : 0 < m) (h1 : m ≤ 2147483648) : (x % m).natAbs < 2 ^ 31 := nab_lt (Int.emod_nonneg _ (by omega)) (by have := Int.emod_lt_of_pos x h0; omega)
theorem upd_self {H : Hp} {p : Addr} {o : HO} (h : H p = some o) : upd H p o = H := by
  funext b
  by_cases e : b = p
  · rw [e, upd_same, h]
  · rw [upd_ne e]
/-! ### the promises -/
def spCell (K : PySem.W.Frag) : Sp := fun vs H Q _ => ∃ (a : Addr) (ns : List Int) (i : Nat), vs = [.ref a, .int (i : Int)] ∧ SqL K H a (VInt ns) ∧ ns.length ≤ 63 ∧ ∀ z : Int, Q (.int z) H
def spHash : Sp := fun vs H Q _ => ∃ s i : Int, vs = [.int s, .int i] ∧ 0 ≤ s ∧ s < 2147483647 ∧ 0 ≤ i ∧ i < 1099511627776 ∧ ∀ z : Int, 0 ≤ z → z < 2147483587 → Q (.int z) H
/-- a generator's list: at most n drawn -/
def GenL (n : Int) (g : List V) : Prop := ∃ a b c : Int, g = VInt [a, b, c] ∧ 0 ≤ a ∧ a < 10 ^ 600 ∧ 0 ≤ b ∧ b < 2147483647 ∧ 0 ≤ c ∧ c ≤ n
theorem GenL.mono {n m : Int} {g : List V} (h : GenL n g) (hm : n ≤ m) : GenL m g := by
  obtain ⟨a, b, c, e, h1, h2, h3, h4, h5, h6⟩ := h
  exact ⟨a, b, c, e, h1, h2, h3, h4, h5, by omega⟩
def spGen (K : PySem.W.Frag) : Sp := fun vs H Q _ => ∃ (a : Addr) (ns : List Int) (i : Nat), vs = [.ref a, .int (i : Int)] ∧ SqL K H a (VInt ns) ∧ ns.length ≤ 63 ∧ i ≤ 1000 ∧ ∀ p g, H p = none → GenL (1000 * i) g → Q (.ref p) (upd H p (.lst g))
def spRand : Sp := fun vs H Q _ => ∃ (p : Addr) (b n : Int) (g : List V), vs = [.ref p, .int b] ∧ 1 ≤ b ∧ b < 1152921504606846976 ∧ H p = some (.lst g) ∧ GenL n g ∧ n ≤ 1000000000 ∧
  ∀ (z : Int) (g' : List V), 0 ≤ z → z < b → GenL (n + 3) g' → Q (.int z) (upd H p (.lst g'))
structure GTxt (mg : Str → Option Value) (K : PySem.W.Frag) (fC fH fG fR : Addr) : Prop where
  len : mg "len" = none
  int : mg "int" = none
  max : mg "max" = none
  range : mg "range" = none
  gC : mg "_law_cell" = some (.ref fC)
  gH : mg "_law_hash" = some (.ref fH)
  gG : mg "_law_generator" = some (.ref fG)
  gR : mg "_law_random" = some (.ref fR)
  kC : PySem.W.keepIn K (.ref fC) = true
  kH : PySem.W.keepIn K (.ref fH) = true
  kG : PySem.W.keepIn K (.ref fG) = true
  kR : PySem.W.keepIn K (.ref fR) = true
section
variable {P : Program} {w : World} {K : PySem.W.Frag} {mg : Str → Option Value} {base : Heap} {fC fH fG fR : Addr}
theorem scC : FnScope ["_law_script", "_law_index"] ["_law_script", "_law_index"] (defScope sCell) := ⟨rfl, rfl, rfl, by decide +kernel, rfl, by decide +kernel, by decide +kernel⟩
theorem ok_cell {f : Addr} {fd : FuncData} (F : Fun K "_law_cell" "_law_cell" sCell f fd) (T : GTxt mg K fC fH fG fR) : FnOk P w K mg base CX0 1 f fd ["_law_script", "_law_index"] (spCell K) := by
  refine F.ok scC (fun vs H Q E h => ?_) (fun cdv A outer s H vs Q E hr h => ?_)
  · obtain ⟨a, ns, i, rfl, _⟩ := h
    rfl
  · obtain ⟨a, ns, i, rfl, hS, hl, k⟩ := h
    refine ⟨_, pss_cons (ps_if (pt_cmpR op_lt (pv 1) (pe_callB call_len_seq (by rfl) T.len PySem.boot_len (pa_cons (pv 0) pa_nil)) (nomark _))
      (pss_one (ps_ret (pe_ix ix_list (pv 0) (pv 1) (fun _ _ => rfl)))) pss_nil) (pss_one (ps_ret pe_int)), ?_⟩
    refine ⟨_, rfl, _, rfl, a, _, rfl, .inl hS, _, _, rfl, rfl, _, rfl, ?_⟩
    refine ite2 (fun c => ?_) (fun _ => k 0)
    have c' : i < ns.length := by
      have := of_decide_eq_true c
      rw [List.length_map] at this
      omega
    refine ⟨_, rfl, _, rfl, a, _, _, V.int ns[i], rfl, rfl, hS, atI_nat ?_, k _⟩
    rw [List.getElem?_map, List.getElem?_eq_getElem c']
    rfl

theorem scH : FnScope ["_law_seed", "_law_index", "_law_mixed"] ["_law_seed", "_law_index"] (defScope sHash) := ⟨rfl, rfl, rfl, by decide +kernel, rfl, by decide +kernel, by decide +kernel⟩
theorem ok_hash {f : Addr} {fd : FuncData} (F : Fun K "_law_hash" "_law_hash" sHash f fd) (T : GTxt mg K fC fH fG fR) : FnOk P w K mg base CX0 1 f fd ["_law_seed", "_law_index"] spHash := by
  refine F.ok scH (fun vs H Q E h => ?_) (fun cdv A outer s H vs Q E hr h => ?_)
  · obtain ⟨a, i, rfl, _⟩ := h
    rfl
  · obtain ⟨a, i, rfl, ha0, ha1, hi0, hi1, k⟩ := h
    refine ⟨_, pss_cons (ps_set (i := 2) scH.nd rfl (Or.inl rfl) (pe_op op_mod
        (pe_callTy call_int1 (by rfl) T.int (by decide +kernel) (pa_cons (pe_op op_add (pe_op op_add (pe_op op_add (pe_op op_mulX (pv 0) pe_int) (pe_op op_mulX (pe_op op_mulX pe_int (pv 1)) (pv 1))) (pv 1)) pe_int) pa_nil)) pe_int))
      (pss_cons (ps_set (i := 2) scH.nd rfl (Or.inl rfl) (pe_op op_mod (pe_callTy call_int1 (by rfl) T.int (by decide +kernel) (pa_cons (pe_op op_add (pe_op op_mulX (pv 2) (pv 2)) pe_int) pa_nil)) pe_int))
      (pss_one (ps_ret (pe_op op_mod (pe_callTy call_int1 (by rfl) T.int (by decide +kernel) (pa_cons (pe_op op_mulX (pv 2) pe_int) pa_nil)) pe_int)))), ?_⟩
    have b1 : a.natAbs < 2 ^ 31 := nab_lt ha0 (by omega)
    have b2 : i.natAbs < 2 ^ 40 := nab_lt hi0 (by omega)
    have b3 : (7919 * i : Int).natAbs < 2 ^ 60 := nab_lt (by omega) (by omega)
    refine ⟨_, rfl, _, _, rfl, rfl, mulx_ok b1 (b := 31) (by decide) (by decide), _, rfl, _, _, rfl, rfl, mulx_ok (a := 13) (by decide) b2 (by decide), _, rfl, _, _, rfl, rfl, mulx_ok b3 b2 (by decide), _, _, rfl, rfl, _, rfl, _, _, rfl, rfl, _, _, rfl, rfl, .inl ⟨_, rfl, ?_⟩⟩
    refine ⟨_, _, rfl, rfl, (by show (0 : Int) < 2147483647; decide), ?_⟩
    refine ⟨_, rfl, _, rfl, _, _, rfl, rfl, mulx_ok (a := 31) (b := 31) (mod31 (by decide) (by decide)) (mod31 (by decide) (by decide)) (by decide), _, _, rfl, rfl, .inl ⟨_, rfl, _, _, rfl, rfl, (by show (0 : Int) < 2147483629; decide), ?_⟩⟩
    refine ⟨_, rfl, _, _, rfl, rfl, mulx_ok (a := 31) (b := 31) (mod31 (by decide) (by decide)) (by decide) (by decide), .inl ⟨_, rfl, _, _, rfl, rfl, (by show (0 : Int) < 2147483587; decide), ?_⟩⟩
    exact k _ (Int.emod_nonneg _ (by decide)) (Int.emod_lt_of_pos _ (by decide))
theorem scG : FnScope ["_law_script", "_law_index", "_law_seed"] ["_law_script", "_law_index"] (defScope sGen) := ⟨rfl, rfl, rfl, by decide +kernel, rfl, by decide +kernel, by decide +kernel⟩
theorem ok_gen {f : Addr} {fd fdC : FuncData} (F : Fun K "_law_generator" "_law_generator" sGen f fd) (T : GTxt mg K fC fH fG fR) (FC : Fun K "_law_cell" "_law_cell" sCell fC fdC) (bC : Binds K fdC ["_law_script", "_law_index"] []) :
    FnOk P w K mg base CX0 2 f fd ["_law_script", "_law_index"] (spGen K) := by
  have GC : FnOk P w K mg base CX0 1 fC fdC ["_law_script", "_law_index"] (spCell K) := ok_cell FC T
  refine F.ok scG (fun vs H Q E h => ?_) (fun cdv A outer s H vs Q E hr h => ?_)
  · obtain ⟨a, ns, i, rfl, _⟩ := h
    rfl
  · obtain ⟨a, ns, i, rfl, hS, hl, hi, k⟩ := h
    refine ⟨_, pss_cons (ps_set (i := 2) scG.nd rfl (Or.inl rfl) (pe_call GC hr rfl T.gC T.kC bC .nil pass0 (pa_cons (pv 0) (pa_cons (pv 1) pa_nil))))
      (pss_one (ps_ret (pe_lst (pa_cons (pe_op op_mod (pe_callTy call_int1 (by rfl) T.int (by decide +kernel) (pa_cons (pe_callB (call_max2 rfl) (by rfl) T.max (by decide +kernel) (pa_cons (pe_op op_sub (pv 2) (pe_op op_pow pe_int pe_int)) (pa_cons pe_int pa_nil))) pa_nil)) (pe_op op_powW (pe_op op_pow pe_int pe_int) pe_int))
        (pa_cons (pe_op op_mod (pe_callTy call_int1 (by rfl) T.int (by decide +kernel) (pa_cons (pv 2) pa_nil)) pe_int) (pa_cons (pe_op op_mulX pe_int (pv 1)) pa_nil)))))), ?_⟩
    refine ⟨_, rfl, _, rfl, a, ns, i, rfl, hS, hl, fun z => ?_⟩
    refine ⟨_, rfl, _, _, rfl, rfl, ?_, _, _, rfl, rfl, _, _, rfl, .inl ⟨_, rfl, ?_⟩⟩
    · exact ⟨by decide, by decide, by decide⟩
    refine ⟨_, _, rfl, rfl, ?_, ?_⟩
    · exact ⟨by decide, by decide, by decide⟩
    refine ⟨_, _, rfl, rfl, ⟨by decide, ?_⟩, _, _, rfl, rfl, ?_, ?_⟩
    · decide +kernel
    · show (0 : Int) < (10 ^ 60) ^ 10
      decide +kernel
    refine ⟨_, rfl, .inl ⟨_, rfl, _, _, rfl, rfl, (by show (0 : Int) < 2147483647; decide), ?_⟩⟩
    refine ⟨_, rfl, _, _, rfl, rfl, mulx_ok (a := 10) (b := 10) (by decide) (by omega) (by decide), ?_⟩
    refine ⟨by show 3 ≤ sizeLine; decide, fun p hp => ?_⟩
    refine k p _ hp ⟨_, _, _, rfl, Int.emod_nonneg _ (by decide +kernel), ?_, Int.emod_nonneg _ (by decide), Int.emod_lt_of_pos _ (by decide), by omega, Int.le_refl _⟩
    refine Int.lt_of_lt_of_le (Int.emod_lt_of_pos _ (by decide +kernel)) ?_
    decide +kernel

theorem lt_pow3 {d : Int} {i : Nat} (h0 : 0 ≤ d) (hi : i ≤ 3) (h : d < (4294967296 : Int) ^ i) : d.natAbs < 2 ^ 100 := by
  refine nab_lt h0 (Int.lt_of_lt_of_le h ?_)
  match i, hi with
  | 0, _ => decide
  | 1, _ => decide
  | 2, _ => decide
  | 3, _ => decide
  | (n + 4), h => omega
theorem step_pow {d h : Int} {i : Nat} (h0 : 0 ≤ d) (hd : d < (4294967296 : Int) ^ i) (g0 : 0 ≤ h) (g1 : h < 2147483587) : d * 2147483587 + h < (4294967296 : Int) ^ (i + 1) := by
  rw [Int.pow_succ]
  generalize (4294967296 : Int) ^ i = M at *
  omega
theorem scR : FnScope ["_law_generator_here", "_law_bound", "_law_drawn", "_law_turn"] ["_law_generator_here", "_law_bound"] (defScope sRand) := ⟨rfl, rfl, rfl, by decide +kernel, rfl, by decide +kernel, by decide +kernel⟩
theorem ok_rand {f : Addr} {fd fdH : FuncData} (F : Fun K "_law_random" "_law_random" sRand f fd) (T : GTxt mg K fC fH fG fR) (FH : Fun K "_law_hash" "_law_hash" sHash fH fdH) (bH : Binds K fdH ["_law_seed", "_law_index"] []) :
    FnOk P w K mg base CX0 2 f fd ["_law_generator_here", "_law_bound"] spRand := by
  have GH : FnOk P w K mg base CX0 1 fH fdH ["_law_seed", "_law_index"] spHash := ok_hash FH T
  refine F.ok scR (fun vs H Q E h => ?_) (fun cdv A outer s H vs Q E hr h => ?_)
  · obtain ⟨p, b, n, g, rfl, _⟩ := h
    rfl
  · obtain ⟨p, b, n, g, rfl, hb1, hb2, hp, ⟨g0, g1, g2, rfl, ha0, ha1, hs0, hs1, hc0, hc1⟩, hn, k⟩ := h
    refine ⟨_, pss_cons (ps_if (pt_cmpR op_gt (pe_ix ix_list (pv 0) pe_int (fun _ _ => rfl)) pe_int (nomark _))
      (pss_cons (ps_set (i := 2) scR.nd rfl (Or.inl rfl) (pe_op op_mod (pe_callTy call_int1 (by rfl) T.int (by decide +kernel) (pa_cons (pe_ix ix_list (pv 0) pe_int (fun _ _ => rfl)) pa_nil)) (pv 1)))
        (pss_cons (ps_asg (pe_op op_fdivW (pe_ix ix_list (pv 0) pe_int (fun _ _ => rfl)) (pv 1)) (pg_sub (pv 0) pe_int set_list))
        (pss_one (ps_ret (pv 2))))) pss_nil)
      (pss_cons (ps_set (i := 2) scR.nd rfl (Or.inl rfl) pe_int)
      (pss_cons (ps_for PassesOwn.never rfl (pi_range1 rfl T.range (pa_cons (pe_op op_add pe_int (pe_op op_fdiv (pe_bits (pv 1)) pe_int)) pa_nil)) (pg_name (i := 3) scR.nd rfl (Or.inl rfl))
        (pss_cons (ps_asg (pe_op op_add (pe_ix ix_list (pv 0) pe_int (fun _ _ => rfl)) pe_int) (pg_sub (pv 0) pe_int set_list))
        (pss_one (ps_set (i := 2) scR.nd rfl (Or.inl rfl) (pe_op op_add (pe_op op_mulX (pv 2) pe_int) (pe_call GH hr rfl T.gH T.kH bH .nil pass0 (pa_cons (pe_ix ix_list (pv 0) pe_int (fun _ _ => rfl)) (pa_cons (pe_ix ix_list (pv 0) pe_int (fun _ _ => rfl)) pa_nil))))))))
      (pss_one (ps_ret (pe_op op_mod (pe_callTy call_int1 (by rfl) T.int (by decide +kernel) (pa_cons (pv 2) pa_nil)) (pv 1)))))), ?_⟩
    refine ⟨_, rfl, p, _, _, V.int g0, rfl, rfl, SqL.of hp, atI_nat (j := 0) rfl, _, _, rfl, rfl, _, rfl, ?_⟩
    refine ite2 (fun c => ?_) (fun _ => ?_)
    · have c' : 0 < g0 := of_decide_eq_true c
      refine ⟨_, rfl, p, _, _, V.int g0, rfl, rfl, SqL.of hp, atI_nat (j := 0) rfl, .inl ⟨_, rfl, ?_⟩⟩
      refine ⟨_, rfl, _, _, rfl, rfl, (by show 0 < b; omega), ?_⟩
      refine ⟨_, rfl, p, _, _, V.int g0, rfl, rfl, SqL.of hp, atI_nat (j := 0) rfl, _, rfl, _, _, rfl, rfl, wide_div (b := 60) (by omega) (nab_lt (by omega) (by omega)) (by decide) (by decide), ?_⟩
      refine ⟨_, rfl, p, _, _, 0, rfl, rfl, hp, rfl, ?_⟩
      refine ⟨_, rfl, ?_⟩
      refine k _ _ (Int.emod_nonneg _ (by omega)) (Int.emod_lt_of_pos _ (by omega)) ⟨g0 / b, g1, g2, rfl, Int.ediv_nonneg (by omega) (by omega), Int.lt_of_le_of_lt (Int.ediv_le_self _ (by omega)) ha1, hs0, hs1, hc0, by omega⟩
    · have hbits : Builtin.Int.intBits b ≤ 60 := bits_le (by decide) (nab_lt (by omega) (by omega))
      have hm : (1 + ((Builtin.Int.intBits b : Nat) : Int) / 30) = ((1 + Builtin.Int.intBits b / 30 : Nat) : Int) := by omega
      have hm3 : 1 + Builtin.Int.intBits b / 30 ≤ 3 := by omega
      refine ⟨_, rfl, _, rfl, _, _, rfl, rfl, ⟨by decide, by decide⟩, _, _, rfl, rfl, ?_⟩
      refine ⟨_, rfl, by omega, by omega, ?_⟩
      have e : (1 + ((Builtin.Int.intBits b : Nat) : Int) / 30).toNat = 1 + Builtin.Int.intBits b / 30 := by omega
      refine for_range (lo := 0) (n := (1 + ((Builtin.Int.intBits b : Nat) : Int) / 30 - 0).toNat) (fun i σ H' => ∃ (d c : Int) (v : Option V), σ = [some (.ref p), some (.int b), some (.int d), v] ∧ H' = upd H p (.lst (VInt [g0, g1, c])) ∧ 0 ≤ d ∧ d < (4294967296 : Int) ^ i ∧ g2 ≤ c ∧ c ≤ g2 + i) ?_ ?_ ?_
      · exact ⟨0, g2, none, rfl, (upd_self hp).symm, Int.le_refl _, by decide, Int.le_refl _, by omega⟩
      · rintro i σ H' hi ⟨d, c, v, rfl, rfl, hd0, hd1, hcl, hcu⟩
        have hi3 : i < 3 := by omega
        refine ⟨_, rfl, p, _, _, V.int c, rfl, rfl, SqL.of upd_same, atI_nat (j := 2) rfl, _, _, rfl, rfl, ?_⟩
        refine ⟨_, rfl, p, _, _, 2, rfl, rfl, upd_same, rfl, ?_⟩
        rw [upd_upd]
        refine ⟨_, rfl, _, _, rfl, rfl, mulx_ok (a := 100) (b := 31) (lt_pow3 hd0 (by omega) hd1) (by decide) (by decide), ?_⟩
        refine ⟨_, rfl, p, _, _, V.int g1, rfl, rfl, SqL.of upd_same, atI_nat (j := 1) rfl, ?_⟩
        refine ⟨_, rfl, p, _, _, V.int (c + 1), rfl, rfl, SqL.of upd_same, atI_nat (j := 2) rfl, ?_⟩
        refine ⟨_, _, rfl, hs0, hs1, by omega, by omega, fun z hz0 hz1 => ⟨_, _, rfl, rfl, ?_⟩⟩
        refine ⟨_, _, _, rfl, rfl, by omega, step_pow hd0 hd1 hz0 hz1, by omega, by omega⟩
      · rintro σ H' ⟨d, c, v, rfl, rfl, hd0, hd1, hcl, hcu⟩
        refine ⟨_, rfl, .inl ⟨_, rfl, _, rfl, _, _, rfl, rfl, (by show 0 < b; omega), ?_⟩⟩
        refine k _ _ (Int.emod_nonneg _ (by omega)) (Int.emod_lt_of_pos _ (by omega)) ⟨g0, g1, c, rfl, ha0, ha1, hs0, hs1, by omega, by omega⟩
end
end Gen

/-! drawing an entry of a book -/
namespace Ent
open PySem PySem.Spec PyProof.Rows L2 Evl Gen
abbrev sEntry : Stmt := top 20
/-- all but what stands at l is as it was -/
def Mv (l : Addr) (H H' : Hp) : Prop := ∀ b o, b ≠ l → H b = some o → H' b = some o
theorem Mv.of {l : Addr} {H H' : Hp} (e : Ex H H') : Mv l H H' := fun b o _ z => e b o z
theorem Mv.trans {l : Addr} {H H1 H2 : Hp} (a : Mv l H H1) (b : Mv l H1 H2) : Mv l H H2 := fun c o n z => b c o n (a c o n z)
theorem Mv.upd {l : Addr} {H : Hp} {o : HO} : Mv l H (upd H l o) := fun b u n z => by
  rw [upd_ne n]
  exact z
theorem at_any {xs : List V} {z : Int} (h0 : 0 ≤ z) (h1 : z < (xs.length : Int)) : ∃ v, v ∈ xs ∧ atI xs z = some v := by
  have hj : z.toNat < xs.length := by omega
  refine ⟨xs[z.toNat], List.getElem_mem hj, ?_⟩
  have q := atI_nat (xs := xs) (j := z.toNat) (List.getElem?_eq_getElem hj)
  rw [show ((z.toNat : Nat) : Int) = z by omega] at q
  exact q
theorem at_str {l : List Str} {z : Int} (h0 : 0 ≤ z) (h1 : z < ((l.map V.str).length : Int)) : ∃ s, s ∈ l ∧ atI (l.map V.str) z = some (.str s) := by
  obtain ⟨v, hv, ha⟩ := at_any h0 h1
  obtain ⟨s, hs, rfl⟩ := List.mem_map.mp hv
  exact ⟨s, hs, ha⟩
/-- a generator stands at g -/
def GenAt (H : Hp) (g : Addr) (n : Int) : Prop := ∃ G, H g = some (.lst G) ∧ GenL n G
theorem GenAt.mono {H : Hp} {g : Addr} {n m : Int} (h : GenAt H g n) (hm : n ≤ m) : GenAt H g m := by
  obtain ⟨G, h1, h2⟩ := h
  exact ⟨G, h1, h2.mono hm⟩
def spEntry : Sp := fun vs H Q _ => ∃ (g hs ss ws : Addr) (n : Int) (hl sl : List Str) (wl : List V), vs = [.ref g, .ref hs, .ref ss, .ref ws] ∧ GenAt H g n ∧ n ≤ 100000000 ∧ H hs = some (.lst (hl.map V.str)) ∧ H ss = some (.lst (sl.map V.str)) ∧ H ws = some (.lst wl) ∧
  (hs ≠ g ∧ ss ≠ g ∧ ws ≠ g) ∧ (1 ≤ hl.length ∧ hl.length ≤ 10) ∧ (1 ≤ sl.length ∧ sl.length ≤ 10) ∧ (1 ≤ wl.length ∧ wl.length ≤ 10) ∧
  ∀ p H' place w other, H p = none → Mv g H H' → GenAt H' g (n + 12) → H' p = some (.tup [.str place, w, .str other]) → w ∈ wl → ((place ∈ hl ∧ other ∈ hl) ∨ (place ∈ sl ∧ other ∈ sl)) → Q (.ref p) H'
section
variable {P : Program} {w : World} {K : PySem.W.Frag} {mg : Str → Option Value} {base : Heap} {fC fH fG fR : Addr} {fdR : FuncData}
theorem scE : FnScope ["_law_generator_here", "_law_houses", "_law_stands", "_law_sounds", "_law_names", "_law_place", "_law_other"] ["_law_generator_here", "_law_houses", "_law_stands", "_law_sounds"] (defScope sEntry) := ⟨rfl, rfl, rfl, by decide +kernel, rfl, by decide +kernel, by decide +kernel⟩
set_option maxHeartbeats 1000000 in
theorem ok_entry {f : Addr} {fd : FuncData} (F : Fun K "_law_entry_drawn" "_law_entry_drawn" sEntry f fd) (TG : GTxt mg K fC fH fG fR) (GR : FnOk P w K mg base CX0 2 fR fdR ["_law_generator_here", "_law_bound"] spRand) (bR : Binds K fdR ["_law_generator_here", "_law_bound"] []) :
    FnOk P w K mg base CX0 3 f fd ["_law_generator_here", "_law_houses", "_law_stands", "_law_sounds"] spEntry := by
  refine F.ok scE (fun vs H Q E h => ?_) (fun cdv A outer s H vs Q E hr h => ?_)
  · obtain ⟨g, hs, ss, ws, n, hl, sl, wl, rfl, _⟩ := h
    rfl
  · obtain ⟨g, hs, ss, ws, n, hl, sl, wl, rfl, ⟨G0, hG, gl0⟩, hn, hhs, hss, hws, ⟨ng1, ng2, ng3⟩, l1, l2, ⟨b0, b1⟩, kq⟩ := h
    refine ⟨_, (pss_cons (ps_set (i := 4) scE.nd rfl (Or.inl rfl) (pe_ifExp (pt_cmpR op_eq (pe_call GR hr (by rfl) TG.gR TG.kR bR .nil pass0 (pa_cons (pv 0) (pa_cons pe_int pa_nil))) pe_int (nomark _)) (pv 1) (pv 2)))
      (pss_cons (ps_par (i := 5) (j := 6) rfl scE.nd rfl rfl (by decide) rfl rfl (pa_cons (pe_ix ix_list (pv 4) (pe_call GR hr (by rfl) TG.gR TG.kR bR .nil pass0 (pa_cons (pv 0) (pa_cons (pe_callB call_len_seq (by rfl) TG.len PySem.boot_len (pa_cons (pv 4) pa_nil)) pa_nil))) (fun _ _ => rfl)) (pa_cons (pe_ix ix_list (pv 4) (pe_call GR hr (by rfl) TG.gR TG.kR bR .nil pass0 (pa_cons (pv 0) (pa_cons (pe_callB call_len_seq (by rfl) TG.len PySem.boot_len (pa_cons (pv 4) pa_nil)) pa_nil))) (fun _ _ => rfl)) pa_nil)) (by rfl))
      (pss_one (ps_ret (pe_tup (pa_cons (pv 5) (pa_cons (pe_ix ix_list (pv 3) (pe_call GR hr (by rfl) TG.gR TG.kR bR .nil pass0 (pa_cons (pv 0) (pa_cons (pe_callB call_len_seq (by rfl) TG.len PySem.boot_len (pa_cons (pv 3) pa_nil)) pa_nil))) (fun _ _ => rfl)) (pa_cons (pv 6) pa_nil)))))))), ?_⟩
    refine ⟨_, rfl, g, _, _, G0, rfl, by decide, by decide, hG, gl0, by omega, fun z1 G1 x0 x1 gl1 => ⟨rfl, _, rfl, ?_⟩⟩
    have m1 : Mv g H (upd H g (.lst G1)) := Mv.upd
    refine ite2 (fun _ => ?_) (fun _ => ?_)
    · -- hs
      have n1 := m1 _ _ ng1 hhs
      obtain ⟨a0, a1⟩ := l1
      refine ⟨_, rfl, ?_⟩
      refine ⟨_, rfl, _, rfl, _, rfl, hs, _, rfl, .inl (SqL.of n1), g, _, _, G1, rfl, by rw [List.length_map]; omega, by rw [List.length_map]; omega, upd_same, gl1, by omega, fun z2 G2 y0 y1 gl2 => ?_⟩
      rw [upd_upd]
      have m2 : Mv g H (upd H g (.lst G2)) := Mv.upd
      have n2 := m2 _ _ ng1 hhs
      obtain ⟨place, ip, ap⟩ := at_str y0 y1
      refine ⟨hs, _, _, _, rfl, rfl, SqL.of n2, ap, ?_⟩
      refine ⟨_, rfl, _, rfl, _, rfl, hs, _, rfl, .inl (SqL.of n2), g, _, _, G2, rfl, by rw [List.length_map]; omega, by rw [List.length_map]; omega, upd_same, gl2, by omega, fun z3 G3 w0 w1 gl3 => ?_⟩
      rw [upd_upd]
      have m3 : Mv g H (upd H g (.lst G3)) := Mv.upd
      have n3 := m3 _ _ ng1 hhs
      obtain ⟨other, io, ao⟩ := at_str w0 w1
      refine ⟨hs, _, _, _, rfl, rfl, SqL.of n3, ao, _, _, rfl, ?_⟩
      have s3 := m3 _ _ ng3 hws
      refine ⟨_, rfl, _, rfl, _, rfl, _, rfl, ws, _, rfl, .inl (SqL.of s3), g, _, _, G3, rfl, by omega, by omega, upd_same, gl3, by omega, fun z4 G4 u0 u1 gl4 => ?_⟩
      rw [upd_upd]
      have m4 : Mv g H (upd H g (.lst G4)) := Mv.upd
      have s4 := m4 _ _ ng3 hws
      obtain ⟨w, iw, aw⟩ := at_any u0 u1
      refine ⟨ws, _, _, _, rfl, rfl, SqL.of s4, aw, _, rfl, by show 3 ≤ sizeLine; decide, fun p np => ?_⟩
      have pg : p ≠ g := (ne_of_none upd_same np).symm
      have np0 : H p = none := by
        rw [upd_ne pg] at np
        exact np
      exact kq p _ place w other np0 (m4.trans (Mv.of (Ex.new np))) ⟨G4, by rw [upd_ne pg.symm, upd_same], gl4.mono (by omega)⟩ upd_same iw (.inl ⟨ip, io⟩)
    · -- ss
      have n1 := m1 _ _ ng2 hss
      obtain ⟨a0, a1⟩ := l2
      refine ⟨_, rfl, ?_⟩
      refine ⟨_, rfl, _, rfl, _, rfl, ss, _, rfl, .inl (SqL.of n1), g, _, _, G1, rfl, by rw [List.length_map]; omega, by rw [List.length_map]; omega, upd_same, gl1, by omega, fun z2 G2 y0 y1 gl2 => ?_⟩
      rw [upd_upd]
      have m2 : Mv g H (upd H g (.lst G2)) := Mv.upd
      have n2 := m2 _ _ ng2 hss
      obtain ⟨place, ip, ap⟩ := at_str y0 y1
      refine ⟨ss, _, _, _, rfl, rfl, SqL.of n2, ap, ?_⟩
      refine ⟨_, rfl, _, rfl, _, rfl, ss, _, rfl, .inl (SqL.of n2), g, _, _, G2, rfl, by rw [List.length_map]; omega, by rw [List.length_map]; omega, upd_same, gl2, by omega, fun z3 G3 w0 w1 gl3 => ?_⟩
      rw [upd_upd]
      have m3 : Mv g H (upd H g (.lst G3)) := Mv.upd
      have n3 := m3 _ _ ng2 hss
      obtain ⟨other, io, ao⟩ := at_str w0 w1
      refine ⟨ss, _, _, _, rfl, rfl, SqL.of n3, ao, _, _, rfl, ?_⟩
      have s3 := m3 _ _ ng3 hws
      refine ⟨_, rfl, _, rfl, _, rfl, _, rfl, ws, _, rfl, .inl (SqL.of s3), g, _, _, G3, rfl, by omega, by omega, upd_same, gl3, by omega, fun z4 G4 u0 u1 gl4 => ?_⟩
      rw [upd_upd]
      have m4 : Mv g H (upd H g (.lst G4)) := Mv.upd
      have s4 := m4 _ _ ng3 hws
      obtain ⟨w, iw, aw⟩ := at_any u0 u1
      refine ⟨ws, _, _, _, rfl, rfl, SqL.of s4, aw, _, rfl, by show 3 ≤ sizeLine; decide, fun p np => ?_⟩
      have pg : p ≠ g := (ne_of_none upd_same np).symm
      have np0 : H p = none := by
        rw [upd_ne pg] at np
        exact np
      exact kq p _ place w other np0 (m4.trans (Mv.of (Ex.new np))) ⟨G4, by rw [upd_ne pg.symm, upd_same], gl4.mono (by omega)⟩ upd_same iw (.inr ⟨ip, io⟩)
end
end Ent
/-! the drawn parts of a book -/
namespace Pts
open PySem PySem.Spec PyProof.Rows L2 Evl Gen Ent
abbrev sParts : Stmt := top 21
abbrev En := Str × Option Str × Str
def sv : Option Str → V
  | none => .non
  | some s => .str s
def enV (e : En) : List V := [.str e.1, sv e.2.1, .str e.2.2]
/-- tuples stand, one for each row of values -/
def Tups (H : Hp) : List Addr → List (List V) → Prop := Paired fun t xs => H t = some (.tup xs)
theorem Tups.mv {H H' : Hp} {l : Addr} {ys : List V} (hl : H l = some (.lst ys)) (m : Mv l H H') : ∀ {R : List Addr} {X : List (List V)}, Tups H R X → Tups H' R X
  | _, _, .nil => .nil
  | _, _, .cons h t => .cons (m _ _ (ne_of h hl (by intro z; cases z)) h) (Tups.mv hl m t)
theorem Tups.ex {H H' : Hp} (e : Ex H H') : ∀ {R : List Addr} {X : List (List V)}, Tups H R X → Tups H' R X
  | _, _, .nil => .nil
  | _, _, .cons h t => .cons (e _ _ h) (Tups.ex e t)
theorem _root_.Ent.Mv.mut {g d : Addr} {H H' : Hp} {o : HO} (m : Mv g H H') (hd : H d = none) : Mv g H (upd H' d o) := fun b u n z => by
  rw [upd_ne (ne_of_none z hd)]
  exact m b u n z
theorem _root_.Ent.GenAt.mv {H H' : Hp} {g l : Addr} {n : Int} (h : GenAt H g n) (ng : g ≠ l) (m : Mv l H H') : GenAt H' g n := by
  obtain ⟨G, h1, h2⟩ := h
  exact ⟨G, m _ _ ng h1, h2⟩
theorem _root_.Ent.GenAt.ex {H H' : Hp} {g : Addr} {n : Int} (h : GenAt H g n) (e : Ex H H') : GenAt H' g n := by
  obtain ⟨G, h1, h2⟩ := h
  exact ⟨G, e _ _ h1, h2⟩
def allH : List Str := ["idle", "mends", "done"]
def allS : List Str := ["lacks", "waits", "has", "off"]
def allL : List (List Str) := [[], ["mend"], ["ask"], ["mend", "ask"], ["none"]]
structure PartsD where
  hs : List Str
  ss : List Str
  ds : List En
  rs : List En
  ls : List Str
def InOne (D : PartsD) (e : En) : Prop := (e.1 ∈ D.hs ∧ e.2.2 ∈ D.hs) ∨ (e.1 ∈ D.ss ∧ e.2.2 ∈ D.ss)
structure PartsOk (w h : Nat) (D : PartsD) : Prop where
  hs : ∃ k, 1 ≤ k ∧ k ≤ w ∧ D.hs = allH.take k
  ss : ∃ k, 1 ≤ k ∧ k ≤ h ∧ D.ss = allS.take k
  d1 : 1 ≤ D.ds.length ∧ D.ds.length ≤ 5
  ds : ∀ e ∈ D.ds, (e.2.1 = none ∨ e.2.1 = some "ask" ∨ e.2.1 = some "mend") ∧ InOne D e
  r1 : D.rs.length ≤ 7
  rs : ∀ e ∈ D.rs, (e.2.1 = some "ask" ∨ e.2.1 = some "mend") ∧ InOne D e
  nd : (D.rs.map fun e => (e.1, e.2.1)).Nodup
  ls : D.ls ∈ allL
structure PartsAt (H : Hp) (p : Addr) (D : PartsD) (a0 a1 a2 a3 a4 : Addr) (R2 R3 : List Addr) : Prop where
  p : H p = some (.lst [.ref a0, .ref a1, .ref a2, .ref a3, .ref a4])
  h0 : H a0 = some (.lst (D.hs.map V.str))
  h1 : H a1 = some (.lst (D.ss.map V.str))
  h2 : H a2 = some (.lst (R2.map V.ref))
  t2 : Tups H R2 (D.ds.map enV)
  h3 : H a3 = some (.lst (R3.map V.ref))
  t3 : Tups H R3 (D.rs.map enV)
  h4 : H a4 = some (.lst (D.ls.map V.str))
theorem cut_str {l : List Str} {n : Nat} : cutV (l.map V.str) none (some ((n : Nat) : Int)) = (l.take n).map V.str := by
  unfold cutV
  rw [HT.sIx_none, HT.sIx_nat, List.drop_zero, Nat.sub_zero, List.map_take]
  by_cases h : n ≤ (l.map V.str).length
  · rw [Nat.min_eq_left h]
  · rw [Nat.min_eq_right (by omega), List.take_of_length_le (Nat.le_refl _), List.take_of_length_le (by omega)]
/-- what is known so far: pairs of texts -/
def Kn (ks : List (Str × Option Str)) : List (List V) := ks.map fun k => [.str k.1, sv k.2]
def knD (k : Str × Option Str) : PyData := .tuple [.str k.1, match k.2 with | none => .none | some s => .str s]
theorem kn_dp {K : PySem.W.Frag} {H : Hp} : ∀ {R : List Addr} {ks : List (Str × Option Str)}, Tups H R (Kn ks) → DpAll K H (R.map V.ref) (ks.map knD)
  | _, [], .nil => .nil
  | _, k :: ks, .cons h t => by
    refine .cons (.tup (SqT.of h) (.cons (.str _) (.cons ?_ .nil))) (kn_dp t)
    obtain ⟨a, b⟩ := k
    cases b with
    | none => exact .non
    | some s => exact .str s
theorem kn_depth (k : Str × Option Str) : (knD k).depth = 1 := by
  obtain ⟨a, b⟩ := k
  cases b <;> simp [knD, PyData.depth, PyData.depthAll]
theorem un65 {k : Nat} {A : Around} (hr : Room k A) : A.units + 65 < cLine := by
  have := hr.un
  omega
/-- a pair that can be laid -/
def KnOk (k : Str × Option Str) : Prop := PyData.strOk k.1 = true ∧ ∀ s, k.2 = some s → PyData.strOk s = true
theorem kn_lay (k : Str × Option Str) (h : KnOk k) : (knD k).canLay0 = true := by
  obtain ⟨a, b⟩ := k
  obtain ⟨h1, h2⟩ := h
  dsimp only at h1 h2
  cases b with
  | none => simp [knD, PyData.canLay0, PyData.canLayAll0, h1]
  | some s => simp [knD, PyData.canLay0, PyData.canLayAll0, h1, h2 s rfl]
theorem kn_shaped (k : Str × Option Str) (h : KnOk k) : SeqAt.shaped (knD k) = true := by
  show ((knD k).canLay0 && decide ((knD k).depth ≤ 64)) = true
  rw [kn_lay k h, kn_depth]
  rfl
theorem kns_lay : ∀ ks : List (Str × Option Str), (∀ k ∈ ks, KnOk k) → PyData.canLayAll0 (ks.map knD) = true
  | [], _ => by simp [PyData.canLayAll0]
  | k :: ks, h => by
    simp only [List.map_cons, PyData.canLayAll0, kn_lay k (h k (List.mem_cons_self ..)), kns_lay ks (fun z m => h z (List.mem_cons_of_mem _ m))]
    rfl
theorem kns_depth : ∀ ks : List (Str × Option Str), PyData.depthAll (ks.map knD) ≤ 1
  | [] => by simp [PyData.depthAll]
  | k :: ks => by
    have h1 := kns_depth ks
    have h2 := kn_depth k
    simp only [List.map_cons, PyData.depthAll]
    omega
theorem kns_shaped (ks : List (Str × Option Str)) (h : ∀ k ∈ ks, KnOk k) : SeqAt.shaped (.list (ks.map knD)) = true := by
  have h1 := kns_depth ks
  have h2 : PyData.depth (.list (ks.map knD)) ≤ 64 := by
    simp only [PyData.depth]
    omega
  show (PyData.canLay0 (.list (ks.map knD)) && decide (PyData.depth (.list (ks.map knD)) ≤ 64)) = true
  rw [Bool.and_eq_true]
  exact ⟨by simp only [PyData.canLay0]; exact kns_lay ks h, decide_eq_true h2⟩
theorem str_beq (a c : Str) : (a == c) = decide (a = c) := by
  by_cases h : a = c
  · subst h
    simp
  · simp [h]
theorem kn_eqv (k l : Str × Option Str) : PyData.eqv (knD k) (knD l) = decide (k = l) := by
  obtain ⟨a, b⟩ := k
  obtain ⟨c, d⟩ := l
  cases b <;> cases d <;> simp [knD, PyData.eqv, PyData.eqvAll, Prod.mk.injEq, str_beq]
theorem kn_any (ks : List (Str × Option Str)) (k : Str × Option Str) : ((ks.map knD).any fun z => PyData.eqv z (knD k)) = decide (k ∈ ks) := by
  induction ks with
  | nil => simp
  | cons l ks ih =>
    rw [List.map_cons, List.any_cons, ih, kn_eqv]
    by_cases e : l = k
    · subst e
      simp
    · have e' : ¬ k = l := fun z => e z.symm
      simp [e, e']
theorem strs_ok : ∀ s ∈ allH ++ allS ++ (["ask", "mend"] : List Str), PyData.strOk s = true := by decide +kernel
/-- a drawn number, told over any heap behind -/
theorem drew {H : Hp} {g : Addr} {n b : Int} {Q : VK} {E : XK} (hG : GenAt H g n) (hn : n ≤ 1000000000) (h1 : 1 ≤ b) (h2 : b < 1000) (k : ∀ z H', 0 ≤ z → z < b → Mv g H H' → GenAt H' g (n + 3) → Q (.int z) H') : spRand [.ref g, .int b] H Q E := by
  obtain ⟨G, hg, gl⟩ := hG
  exact ⟨g, b, n, G, rfl, h1, by omega, hg, gl, hn, fun z G' z0 z1 gl' => k z _ z0 z1 Mv.upd ⟨G', upd_same, gl'⟩⟩
theorem _root_.Ent.Mv.back {g p : Addr} {H H' : Hp} {n : Int} (m : Mv g H H') (hg : GenAt H' g n) (np : H' p = none) : H p = none := by
  obtain ⟨G, h1, _⟩ := hg
  cases h : H p with
  | none => rfl
  | some o =>
    have := m p o (fun e => by rw [e, h1] at np; cases np) h
    rw [this] at np
    cases np
def key (e : En) : Str × Option Str := (e.1, e.2.1)
/-- what stands while the parts are drawn -/
structure PI (H0 H : Hp) (g a0 a1 a2 a3 a4 : Addr) (n : Int) (hs ss : List Str) (ds rs : List En) (ks : List (Str × Option Str)) : Prop where
  mv : Mv g H0 H
  gen : GenAt H g n
  h0 : H a0 = some (.lst (hs.map V.str))
  h1 : H a1 = some (.lst (ss.map V.str))
  h2 : ∃ R, H a2 = some (.lst (R.map V.ref)) ∧ Tups H R (ds.map enV)
  h3 : ∃ R, H a3 = some (.lst (R.map V.ref)) ∧ Tups H R (rs.map enV)
  h4 : ∃ R, H a4 = some (.lst (R.map V.ref)) ∧ Tups H R (Kn ks)
  nd : [g, a0, a1, a2, a3, a4].Nodup
  fr : ∀ a ∈ [a0, a1, a2, a3, a4], H0 a = none
section
variable {H0 H H' : Hp} {g a0 a1 a2 a3 a4 p : Addr} {n m : Int} {hs ss : List Str} {ds rs : List En} {ks : List (Str × Option Str)} {e : En} {k : Str × Option Str}
theorem PI.move (P : PI H0 H g a0 a1 a2 a3 a4 n hs ss ds rs ks) (v : Mv g H H') (hg : GenAt H' g m) : PI H0 H' g a0 a1 a2 a3 a4 m hs ss ds rs ks := by
  obtain ⟨G, hG, _⟩ := P.gen
  have nd := P.nd
  simp only [List.nodup_cons, List.mem_cons, List.not_mem_nil, not_or, or_false] at nd
  obtain ⟨⟨n0, n1, n2, n3, n4⟩, _⟩ := nd
  obtain ⟨R2, x2, y2⟩ := P.h2
  obtain ⟨R3, x3, y3⟩ := P.h3
  obtain ⟨R4, x4, y4⟩ := P.h4
  exact ⟨P.mv.trans v, hg, v _ _ (Ne.symm n0) P.h0, v _ _ (Ne.symm n1) P.h1, ⟨R2, v _ _ (Ne.symm n2) x2, y2.mv hG v⟩, ⟨R3, v _ _ (Ne.symm n3) x3, y3.mv hG v⟩, ⟨R4, v _ _ (Ne.symm n4) x4, y4.mv hG v⟩, P.nd, P.fr⟩
theorem PI.ex (P : PI H0 H g a0 a1 a2 a3 a4 n hs ss ds rs ks) (v : Ex H H') : PI H0 H' g a0 a1 a2 a3 a4 n hs ss ds rs ks := P.move (Mv.of v) (P.gen.ex v)
theorem PI.le (P : PI H0 H g a0 a1 a2 a3 a4 n hs ss ds rs ks) (h : n ≤ m) : PI H0 H g a0 a1 a2 a3 a4 m hs ss ds rs ks := P.move (Mv.of (Ex.refl H)) (P.gen.mono h)
theorem tups_upd {l : Addr} {ys zs : List V} (hl : H l = some (.lst ys)) {R : List Addr} {Y : List (List V)} (t : Tups H R Y) : Tups (upd H l (.lst zs)) R Y := t.mv hl Mv.upd
theorem tups_app {q : Addr} {xs : List V} {R : List Addr} {Y : List (List V)} (t : Tups H R Y) (h : H q = some (.tup xs)) : Tups H (R ++ [q]) (Y ++ [xs]) := by
  induction t with
  | nil => exact .cons h .nil
  | cons a _ ih => exact .cons a ih
theorem _root_.Pts.Tups.len {R : List Addr} {Y : List (List V)} (t : Tups H R Y) : R.length = Y.length := by
  induction t with
  | nil => rfl
  | cons _ _ ih => simp [ih]
theorem PI.app2 (P : PI H0 H g a0 a1 a2 a3 a4 n hs ss ds rs ks) (hp : H p = some (.tup (enV e))) {R : List Addr} (h2 : H a2 = some (.lst (R.map V.ref))) (t2 : Tups H R (ds.map enV)) :
    PI H0 (upd H a2 (.lst (R.map V.ref ++ [.ref p]))) g a0 a1 a2 a3 a4 n hs ss (ds ++ [e]) rs ks := by
  obtain ⟨G, hG, gl⟩ := P.gen
  have nd := P.nd
  have f2 := P.fr a2 (by simp)
  simp only [List.nodup_cons, List.mem_cons, List.not_mem_nil, not_or, or_false] at nd
  obtain ⟨⟨n0, n1, n2, n3, n4⟩, ⟨m1, m2, m3, m4⟩, ⟨l2, l3, l4⟩, ⟨k3, k4⟩, _⟩ := nd
  obtain ⟨R3, x3, y3⟩ := P.h3
  obtain ⟨R4, x4, y4⟩ := P.h4
  refine ⟨P.mv.mut f2, ⟨G, by rw [upd_ne n2]; exact hG, gl⟩, by rw [upd_ne m2]; exact P.h0, by rw [upd_ne l2]; exact P.h1, ⟨R ++ [p], by rw [upd_same, List.map_append] <;> rfl, ?_⟩, ⟨R3, by rw [upd_ne (Ne.symm k3)]; exact x3, tups_upd h2 y3⟩, ⟨R4, by rw [upd_ne (Ne.symm k4)]; exact x4, tups_upd h2 y4⟩, P.nd, P.fr⟩
  rw [List.map_append]
  exact tups_upd h2 (tups_app t2 hp)
theorem PI.app3 (P : PI H0 H g a0 a1 a2 a3 a4 n hs ss ds rs ks) (hp : H p = some (.tup (enV e))) {R : List Addr} (h3 : H a3 = some (.lst (R.map V.ref))) (t3 : Tups H R (rs.map enV)) :
    PI H0 (upd H a3 (.lst (R.map V.ref ++ [.ref p]))) g a0 a1 a2 a3 a4 n hs ss ds (rs ++ [e]) ks := by
  obtain ⟨G, hG, gl⟩ := P.gen
  have nd := P.nd
  have f3 := P.fr a3 (by simp)
  simp only [List.nodup_cons, List.mem_cons, List.not_mem_nil, not_or, or_false] at nd
  obtain ⟨⟨n0, n1, n2, n3, n4⟩, ⟨m1, m2, m3, m4⟩, ⟨l2, l3, l4⟩, ⟨k3, k4⟩, j4, _⟩ := nd
  obtain ⟨R2, x2, y2⟩ := P.h2
  obtain ⟨R4, x4, y4⟩ := P.h4
  refine ⟨P.mv.mut f3, ⟨G, by rw [upd_ne n3]; exact hG, gl⟩, by rw [upd_ne m3]; exact P.h0, by rw [upd_ne l3]; exact P.h1, ⟨R2, by rw [upd_ne k3]; exact x2, tups_upd h3 y2⟩,
    ⟨R ++ [p], by rw [upd_same, List.map_append] <;> rfl, ?_⟩, ⟨R4, by rw [upd_ne (Ne.symm j4)]; exact x4, tups_upd h3 y4⟩, P.nd, P.fr⟩
  rw [List.map_append]
  exact tups_upd h3 (tups_app t3 hp)
theorem PI.app4 {q : Addr} (P : PI H0 H g a0 a1 a2 a3 a4 n hs ss ds rs ks) (hq : H q = some (.tup [.str k.1, sv k.2])) {S : List Addr} (h4 : H a4 = some (.lst (S.map V.ref))) (t4 : Tups H S (Kn ks)) :
    PI H0 (upd H a4 (.lst (S.map V.ref ++ [.ref q]))) g a0 a1 a2 a3 a4 n hs ss ds rs (ks ++ [k]) := by
  obtain ⟨G, hG, gl⟩ := P.gen
  have nd := P.nd
  have f4 := P.fr a4 (by simp)
  simp only [List.nodup_cons, List.mem_cons, List.not_mem_nil, not_or, or_false] at nd
  obtain ⟨⟨n0, n1, n2, n3, n4⟩, ⟨m1, m2, m3, m4⟩, ⟨l2, l3, l4⟩, ⟨k3, k4⟩, j4, _⟩ := nd
  obtain ⟨R2, x2, y2⟩ := P.h2
  obtain ⟨R3, x3, y3⟩ := P.h3
  refine ⟨P.mv.mut f4, ⟨G, by rw [upd_ne n4]; exact hG, gl⟩, by rw [upd_ne m4]; exact P.h0, by rw [upd_ne l4]; exact P.h1, ⟨R2, by rw [upd_ne k4]; exact x2, tups_upd h4 y2⟩,
    ⟨R3, by rw [upd_ne j4]; exact x3, tups_upd h4 y3⟩, ⟨S ++ [q], by rw [upd_same, List.map_append] <;> rfl, ?_⟩, P.nd, P.fr⟩
  unfold Kn
  rw [List.map_append]
  exact tups_upd h4 (tups_app t4 hq)
end
def spParts : Sp := fun vs H Q _ => ∃ (g : Addr) (w h : Nat) (n : Int), vs = [.ref g, .int (w : Int), .int (h : Int)] ∧ GenAt H g n ∧ n ≤ 1000000 ∧ (1 ≤ w ∧ w ≤ 3) ∧ (1 ≤ h ∧ h ≤ 4) ∧
  ∀ p H' D a0 a1 a2 a3 a4 R2 R3, Mv g H H' → GenAt H' g (n + 400) → PartsAt H' p D a0 a1 a2 a3 a4 R2 R3 → PartsOk w h D → (∀ a ∈ [p, a0, a1, a2, a3, a4], H a = none) → Q (.ref p) H'
abbrev NPa : List Str := ["_law_generator_here", "_law_wide", "_law_high", "_law_houses", "_law_stands", "_law_deeds", "_law_hearings", "_law_known", "_law_turn", "_law_place", "_law_sound", "_law_other", "_law_lost"]
theorem scPa : FnScope NPa ["_law_generator_here", "_law_wide", "_law_high"] (defScope sParts) := ⟨rfl, rfl, rfl, by decide +kernel, rfl, by decide +kernel, by decide +kernel⟩
theorem step3 {H : Hp} {g l a : Addr} {n m : Int} {o1 o2 : HO} {G1 : List V} (hG : GenAt H g n) (nl : H l = none) (gl : GenL m G1) (na : upd (upd H l o1) g (.lst G1) a = none) :
    l ≠ g ∧ Mv g H (upd (upd (upd H l o1) g (.lst G1)) a o2) ∧ GenAt (upd (upd (upd H l o1) g (.lst G1)) a o2) g m ∧ H a = none ∧ a ≠ g := by
  obtain ⟨G0, hg, _⟩ := hG
  have n1 : l ≠ g := (ne_of_none hg nl).symm
  have n2 : a ≠ g := (ne_of_none upd_same na).symm
  have m1 : Mv g H (upd (upd H l o1) g (.lst G1)) := (Mv.of (Ex.new nl)).trans Mv.upd
  refine ⟨n1, m1.trans (Mv.of (Ex.new na)), ⟨G1, by rw [upd_ne n2.symm, upd_same], gl⟩, ?_, n2⟩
  exact m1.back ⟨G1, upd_same, gl⟩ na
theorem cut_all {l : List Str} {z : Int} (h : 0 ≤ z) : cutV (l.map V.str) none (some (1 + z)) = (l.take (1 + z).toNat).map V.str := by
  have e : (1 + z) = (((1 + z).toNat : Nat) : Int) := by omega
  rw [e, cut_str]
  have e2 : (((1 + z).toNat : Nat) : Int).toNat = (1 + z).toNat := by omega
  rw [e2]
def sd : V → Option Str
  | .str s => some s
  | _ => none
def okD (hs ss : List Str) (e : En) : Prop := (e.2.1 = none ∨ e.2.1 = some "ask" ∨ e.2.1 = some "mend") ∧ ((e.1 ∈ hs ∧ e.2.2 ∈ hs) ∨ (e.1 ∈ ss ∧ e.2.2 ∈ ss))
def okR (hs ss : List Str) (e : En) : Prop := (e.2.1 = some "ask" ∨ e.2.1 = some "mend") ∧ ((e.1 ∈ hs ∧ e.2.2 ∈ hs) ∨ (e.1 ∈ ss ∧ e.2.2 ∈ ss))
theorem okR_kn {hs ss : List Str} {e : En} (h1 : ∀ s ∈ hs, s ∈ allH) (h2 : ∀ s ∈ ss, s ∈ allS) (h : okR hs ss e) : KnOk (key e) := by
  obtain ⟨a, b⟩ := h
  have q := strs_ok
  refine ⟨?_, fun s hs => ?_⟩
  · rcases b with ⟨x, _⟩ | ⟨x, _⟩
    · exact q _ (List.mem_append_left _ (List.mem_append_left _ (h1 _ x)))
    · exact q _ (List.mem_append_left _ (List.mem_append_right _ (h2 _ x)))
  · have hs' : e.2.1 = some s := hs
    rcases a with x | x <;> rw [x] at hs' <;> cases hs' <;> decide +kernel
theorem q_drawSl {K : PySem.W.Frag} {D : Ends} {tz : TS} {σ : L2.St} {H : Hp} {g : Addr} {i j : Nat} {n b : Int} {l : List Str} {tl : TE} (hG : GenAt H g n) (hn : n ≤ 1000100) (hb : 1 ≤ b ∧ b < 1000) (s0 : σ[0]? = some (some (.ref g))) (si : σ[i]? = some (some (.int b)))
    (hl : EvL tl σ H (l.map V.str)) (k : ∀ a H1 (z : Int), H a = none → Mv g H H1 → GenAt H1 g (n + 3) → H1 a = some (.lst ((l.take (1 + z).toNat).map V.str)) → 0 ≤ z → z < b → tz D (σ.set j (some (.ref a))) H1) :
    tSeq (tAsg (tSl (rSlL K) tl tNoPart (tPart (tOp (rI0 fun i j => V.int (i + j)) (tC (.int 1)) (tCall spRand [] E0 (tCons (tVar 0) (tCons (tVar i) tNil)))))) (gName j)) tz D σ H := by
  refine hl H (Ex.refl H) _ fun p H1 np e1 hp => ?_
  obtain ⟨G1, hG1, gl1⟩ := hG.ex e1
  have n1 : p ≠ g := by
    obtain ⟨G0, hg, _⟩ := hG
    exact (ne_of_none hg np).symm
  refine ⟨_, s0, _, si, g, b, n, G1, rfl, by omega, by omega, hG1, gl1, by omega, fun z1 G1' z10 z11 gl1' => ⟨_, _, rfl, rfl, _, rfl, p, l.map V.str, rfl, SqL.of ?_, fun a0 na0 => ?_⟩⟩
  · rw [upd_ne n1]
    exact hp
  · have n2 : a0 ≠ g := (ne_of_none upd_same na0).symm
    have m1 : Mv g H (upd H1 g (.lst G1')) := (Mv.of e1).trans Mv.upd
    refine k a0 _ z1 (m1.back ⟨G1', upd_same, gl1'⟩ na0) (m1.trans (Mv.of (Ex.new na0))) ⟨G1', by rw [upd_ne n2.symm, upd_same], gl1'⟩ ?_ z10 z11
    rw [cut_all z10]
    exact upd_same
section
variable {P : Program} {w : World} {K : PySem.W.Frag} {mg : Str → Option Value} {base : Heap} {fC fH fG fR fE : Addr} {fdR fdE : FuncData}
set_option maxHeartbeats 2000000 in
theorem ok_parts {f : Addr} {fd : FuncData} (F : Fun K "_law_parts" "_law_parts" sParts f fd) (TG : GTxt mg K fC fH fG fR) (GR : FnOk P w K mg base CX0 2 fR fdR ["_law_generator_here", "_law_bound"] spRand) (bR : Binds K fdR ["_law_generator_here", "_law_bound"] [])
    (GE : FnOk P w K mg base CX0 3 fE fdE ["_law_generator_here", "_law_houses", "_law_stands", "_law_sounds"] spEntry) (bE : Binds K fdE ["_law_generator_here", "_law_houses", "_law_stands", "_law_sounds"] []) (mE : mg "_law_entry_drawn" = some (.ref fE)) (kE : PySem.W.keepIn K (.ref fE) = true) :
    FnOk P w K mg base CX0 4 f fd ["_law_generator_here", "_law_wide", "_law_high"] spParts := by
  refine F.ok scPa (fun vs H Q E h => ?_) (fun cdv A outer s H vs Q E hr h => ?_)
  · obtain ⟨g, hs, ss, n, rfl, _⟩ := h
    rfl
  · obtain ⟨g, wi, hi, n, rfl, hG, hn, ⟨w1, w2⟩, ⟨i1, i2⟩, kq⟩ := h
    refine ⟨_, (pss_cons (ps_set (i := 3) scPa.nd rfl (Or.inl rfl) (pe_slice sl_list (pe_lst (pa_cons pe_str (pa_cons pe_str (pa_cons pe_str pa_nil)))) po_none (po_some (pe_op op_add pe_int (pe_call GR (hr.mono (by decide)) (by rfl) TG.gR TG.kR bR .nil pass0 (pa_cons (pv 0) (pa_cons (pv 1) pa_nil)))))))
      (pss_cons (ps_set (i := 4) scPa.nd rfl (Or.inl rfl) (pe_slice sl_list (pe_lst (pa_cons pe_str (pa_cons pe_str (pa_cons pe_str (pa_cons pe_str pa_nil))))) po_none (po_some (pe_op op_add pe_int (pe_call GR (hr.mono (by decide)) (by rfl) TG.gR TG.kR bR .nil pass0 (pa_cons (pv 0) (pa_cons (pv 2) pa_nil)))))))
      (pss_cons (ps_par3 (i := 5) (j := 6) (l := 7) rfl scPa.nd rfl rfl rfl (by decide) (by decide) (by decide) rfl rfl rfl (pa_cons (pe_lst pa_nil) (pa_cons (pe_lst pa_nil) (pa_cons (pe_lst pa_nil) pa_nil))) (by rfl))
      (pss_cons (ps_for PassesOwn.never rfl (pi_range1 rfl TG.range (pa_cons (pe_op op_add pe_int (pe_call GR (hr.mono (by decide)) (by rfl) TG.gR TG.kR bR .nil pass0 (pa_cons (pv 0) (pa_cons pe_int pa_nil)))) pa_nil)) (pg_name (i := 8) scPa.nd rfl (Or.inl rfl)) (pss_one (ps_expr (pe_bm PySem.F.plainAttrs_list PySem.F.slot_list_append PySem.F.type_list_append mt_append (pv 5) (pa_cons (pe_call GE hr (by rfl) mE kE bE .nil pass0 (pa_cons (pv 0) (pa_cons (pv 3) (pa_cons (pv 4) (pa_cons (pe_lst (pa_cons pe_str (pa_cons pe_str (pa_cons pe_str (pa_cons pe_non pa_nil))))) pa_nil))))) pa_nil)))))
      (pss_cons (ps_for PassesOwn.never rfl (pi_range1 rfl TG.range (pa_cons (pe_call GR (hr.mono (by decide)) (by rfl) TG.gR TG.kR bR .nil pass0 (pa_cons (pv 0) (pa_cons pe_int pa_nil))) pa_nil)) (pg_name (i := 8) scPa.nd rfl (Or.inl rfl)) (pss_cons (ps_asg (pe_call GE hr (by rfl) mE kE bE .nil pass0 (pa_cons (pv 0) (pa_cons (pv 3) (pa_cons (pv 4) (pa_cons (pe_lst (pa_cons pe_str (pa_cons pe_str pa_nil))) pa_nil))))) (pg_tup rfl (pgs_cons (pg_name (i := 9) scPa.nd rfl (Or.inl rfl)) (pgs_cons (pg_name (i := 10) scPa.nd rfl (Or.inl rfl)) (pgs_cons (pg_name (i := 11) scPa.nd rfl (Or.inl rfl)) pgs_nil)))))
      (pss_one (ps_if (pt_cmpR (op_notInD (un65 hr)) (pe_tup (pa_cons (pv 9) (pa_cons (pv 10) pa_nil))) (pv 7) (by rfl)) (pss_cons (ps_expr (pe_bm PySem.F.plainAttrs_list PySem.F.slot_list_append PySem.F.type_list_append mt_append (pv 7) (pa_cons (pe_tup (pa_cons (pv 9) (pa_cons (pv 10) pa_nil))) pa_nil)))
      (pss_one (ps_expr (pe_bm PySem.F.plainAttrs_list PySem.F.slot_list_append PySem.F.type_list_append mt_append (pv 6) (pa_cons (pe_tup (pa_cons (pv 9) (pa_cons (pv 10) (pa_cons (pv 11) pa_nil)))) pa_nil))))) pss_nil))))
      (pss_cons (ps_set (i := 12) scPa.nd rfl (Or.inl rfl) (pe_ix ix_list (pe_lst (pa_cons (pe_lst pa_nil) (pa_cons (pe_lst (pa_cons pe_str pa_nil)) (pa_cons (pe_lst (pa_cons pe_str pa_nil)) (pa_cons (pe_lst (pa_cons pe_str (pa_cons pe_str pa_nil))) (pa_cons (pe_lst (pa_cons pe_str pa_nil)) pa_nil)))))) (pe_call GR (hr.mono (by decide)) (by rfl) TG.gR TG.kR bR .nil pass0 (pa_cons (pv 0) (pa_cons pe_int pa_nil))) (fun _ _ => rfl)))
      (pss_one (ps_ret (pe_lst (pa_cons (pv 3) (pa_cons (pv 4) (pa_cons (pv 5) (pa_cons (pv 6) (pa_cons (pv 12) pa_nil)))))))))))))), ?_⟩
    refine q_drawSl (l := allH) hG (by omega) ⟨by omega, by omega⟩ rfl rfl (el_lst (ea_cons ev_c (ea_cons ev_c (ea_cons ev_c ea_nil))) (by decide)) fun a0 HA z0 f0 m0 g0 h0 z00 z01 => ?_
    refine q_drawSl (l := allS) g0 (by omega) ⟨by omega, by omega⟩ rfl rfl (el_lst (ea_cons ev_c (ea_cons ev_c (ea_cons ev_c (ea_cons ev_c ea_nil)))) (by decide)) fun a1 HB z1 f1 m1 g1 h1 z10 z11 => ?_
    refine ⟨by show 0 ≤ sizeLine; decide, fun a2 na2 => ⟨by show 0 ≤ sizeLine; decide, fun a3 na3 => ⟨by show 0 ≤ sizeLine; decide, fun a4 na4 => ⟨_, _, _, rfl, ?_⟩⟩⟩⟩
    obtain ⟨hs, ehs⟩ : ∃ hs, hs = allH.take (1 + z0).toNat := ⟨_, rfl⟩
    obtain ⟨ss, ess⟩ : ∃ ss, ss = allS.take (1 + z1).toNat := ⟨_, rfl⟩
    rw [← ehs] at h0
    rw [← ess] at h1
    have lhs : 1 ≤ hs.length ∧ hs.length ≤ 10 := by
      rw [ehs, List.length_take]
      show 1 ≤ min _ 3 ∧ min _ 3 ≤ 10
      omega
    have lss : 1 ≤ ss.length ∧ ss.length ≤ 10 := by
      rw [ess, List.length_take]
      show 1 ≤ min _ 4 ∧ min _ 4 ≤ 10
      omega
    have PI0 : PI H (upd (upd (upd HB a2 (.lst [])) a3 (.lst [])) a4 (.lst [])) g a0 a1 a2 a3 a4 (n + 6) hs ss [] [] [] := by
      obtain ⟨G0, hg0, _⟩ := hG
      obtain ⟨GA, hgA, _⟩ := g0
      obtain ⟨GB, hgB, glB⟩ := g1
      have x0 : a0 ≠ g := (ne_of_none hg0 f0).symm
      have y0 : HB a0 = some (.lst (hs.map V.str)) := m1 _ _ x0 h0
      have e2 : Ex HB (upd HB a2 (.lst [])) := Ex.new na2
      have e3 : Ex (upd HB a2 (.lst [])) (upd (upd HB a2 (.lst [])) a3 (.lst [])) := Ex.new na3
      have e4 : Ex (upd (upd HB a2 (.lst [])) a3 (.lst [])) (upd (upd (upd HB a2 (.lst [])) a3 (.lst [])) a4 (.lst [])) := Ex.new na4
      have mB : Mv g H HB := m0.trans m1
      have bk : ∀ p, HB p = none → H p = none := fun p => mB.back ⟨GB, hgB, glB⟩
      have f2 := bk _ na2
      have f3' := fresh_back e2 na3
      have f4' := fresh_back (e2.trans e3) na4
      refine ⟨mB.trans (Mv.of ((e2.trans e3).trans e4)), ⟨GB, ((e2.trans e3).trans e4) _ _ hgB, glB.mono (by omega)⟩, ((e2.trans e3).trans e4) _ _ y0, ((e2.trans e3).trans e4) _ _ h1, ⟨[], e4 _ _ (e3 _ _ upd_same), .nil⟩, ⟨[], e4 _ _ upd_same, .nil⟩, ⟨[], upd_same, .nil⟩, ?_, ?_⟩
      · have g_0 : g ≠ a0 := x0.symm
        have g_1 : g ≠ a1 := ne_of_none hgA f1
        have g_2 : g ≠ a2 := ne_of_none hgB na2
        have g_3 : g ≠ a3 := ne_of_none hgB f3'
        have g_4 : g ≠ a4 := ne_of_none hgB f4'
        have p01 : a0 ≠ a1 := ne_of_none h0 f1
        have p02 : a0 ≠ a2 := ne_of_none y0 na2
        have p03 : a0 ≠ a3 := ne_of_none y0 f3'
        have p04 : a0 ≠ a4 := ne_of_none y0 f4'
        have p12 : a1 ≠ a2 := ne_of_none h1 na2
        have p13 : a1 ≠ a3 := ne_of_none h1 f3'
        have p14 : a1 ≠ a4 := ne_of_none h1 f4'
        have p23 : a2 ≠ a3 := ne_of_none upd_same na3
        have p24 : a2 ≠ a4 := ne_of_none (e3 _ _ upd_same) na4
        have p34 : a3 ≠ a4 := ne_of_none upd_same na4
        simp [g_0, g_1, g_2, g_3, g_4, p01, p02, p03, p04, p12, p13, p14, p23, p24, p34]
      · intro a ha
        simp only [List.mem_cons, List.not_mem_nil, or_false] at ha
        rcases ha with rfl | rfl | rfl | rfl | rfl
        · exact f0
        · exact m0.back ⟨GA, hgA, by assumption⟩ f1
        · exact f2
        · exact bk _ f3'
        · exact bk _ f4'
    have oh : ∀ s ∈ hs, s ∈ allH := fun s h => by rw [ehs] at h; exact List.mem_of_mem_take h
    have os : ∀ s ∈ ss, s ∈ allS := fun s h => by rw [ess] at h; exact List.mem_of_mem_take h
    generalize upd (upd (upd HB a2 (.lst [])) a3 (.lst [])) a4 (.lst []) = HC at PI0
    have ⟨GC, hgC, glC⟩ := PI0.gen
    dsimp only
    refine ⟨_, rfl, g, _, n + 6, GC, rfl, by decide, by decide, hgC, glC, by omega, fun z2 G2 z20 z21 gl2 => ⟨_, _, rfl, rfl, _, rfl, by omega, by omega, for_range (lo := 0) (n := (1 + z2).toNat) (fun i σ H' => ∃ t8 ds, σ = [some (.ref g), some (.int (wi : Int)), some (.int (hi : Int)), some (.ref a0), some (.ref a1), some (.ref a2), some (.ref a3), some (.ref a4), t8, none, none, none, none] ∧ PI H H' g a0 a1 a2 a3 a4 (n + 9 + 13 * (i : Int)) hs ss ds [] [] ∧ ds.length = i ∧ ∀ e ∈ ds, okD hs ss e) ?_ ?_ ?_⟩⟩
    · refine ⟨_, [], rfl, (PI0.move Mv.upd ⟨G2, upd_same, gl2⟩).le (by omega), rfl, fun e he => nomatch he⟩
    · rintro i σ H1 hi' ⟨t8, ds, rfl, PP, le, ok⟩
      obtain ⟨R, h2, t2⟩ := PP.h2
      refine ⟨_, rfl, .inl ⟨rfl, _, SqL.of h2⟩, _, rfl, _, rfl, _, rfl, by show 4 ≤ sizeLine; decide, fun l nl => ?_⟩
      have e1 : Ex H1 (upd H1 l (.lst [.str "ask", .str "mend", .str "ask", .non])) := Ex.new nl
      have PE := PP.ex e1
      have nd := PE.nd
      simp only [List.nodup_cons, List.mem_cons, List.not_mem_nil, not_or, or_false] at nd
      obtain ⟨⟨n0, n1, n2, n3, n4⟩, _⟩ := nd
      have ⟨GD, hgD, _⟩ := PP.gen
      refine ⟨g, a0, a1, l, n + 9 + 13 * (i : Int), hs, ss, [.str "ask", .str "mend", .str "ask", .non], rfl, PE.gen, by omega, PE.h0, PE.h1, upd_same, ⟨Ne.symm n0, Ne.symm n1, (ne_of_none hgD nl).symm⟩, lhs, lss, by decide, fun p H2 place w other np mv ga hp hw side => ?_⟩
      have PF := PE.move mv ga
      have hwi : ∃ sw, w = sv sw ∧ (sw = none ∨ sw = some "ask" ∨ sw = some "mend") := by
        simp only [List.mem_cons, List.not_mem_nil, or_false] at hw
        rcases hw with rfl | rfl | rfl | rfl
        · exact ⟨some "ask", rfl, .inr (.inl rfl)⟩
        · exact ⟨some "mend", rfl, .inr (.inr rfl)⟩
        · exact ⟨some "ask", rfl, .inr (.inl rfl)⟩
        · exact ⟨none, rfl, .inl rfl⟩
      obtain ⟨sw, rfl, hsw⟩ := hwi
      obtain ⟨R', h2', t2'⟩ := PF.h2
      have lR : R'.length = ds.length := by
        rw [Tups.len t2', List.length_map]
      refine ⟨a2, R'.map V.ref, .ref p, rfl, rfl, h2', by rw [List.length_map]; exact sz_lt (by omega), ⟨_, ds ++ [(place, sw, other)], rfl, (PF.app2 (e := (place, sw, other)) hp h2' t2').le (by omega), by simp [le], fun e he => ?_⟩⟩
      rcases List.mem_append.mp he with he | he
      · exact ok e he
      · obtain rfl : e = (place, sw, other) := by simpa using he
        exact ⟨hsw, side⟩
    · rintro σ H1 ⟨t8, ds, rfl, PP, lds, okds⟩
      dsimp only
      have ⟨GD, hgD, glD⟩ := PP.gen
      refine ⟨_, rfl, g, _, _, GD, rfl, by decide, by decide, hgD, glD, by omega, fun z3 G3 z30 z31 gl3 => ⟨_, rfl, by omega, by omega, for_range (lo := 0) (n := z3.toNat) (fun i σ H' => ∃ t8 t9 t10 t11 rs, σ = [some (.ref g), some (.int (wi : Int)), some (.int (hi : Int)), some (.ref a0), some (.ref a1), some (.ref a2), some (.ref a3), some (.ref a4), t8, t9, t10, t11, none] ∧ PI H H' g a0 a1 a2 a3 a4 (n + 77 + 13 * (i : Int)) hs ss ds rs (rs.map key) ∧ rs.length ≤ i ∧ (∀ e ∈ rs, okR hs ss e) ∧ (rs.map key).Nodup) ?_ ?_ ?_⟩⟩
      · refine ⟨_, _, _, _, [], rfl, (PP.move Mv.upd ⟨G3, upd_same, gl3⟩).le (by omega), Nat.zero_le _, (fun e he => nomatch he), List.nodup_nil⟩
      · rintro i σ H2 hi' ⟨t8, t9, t10, t11, rs, rfl, PQ, lrs, okrs, ndrs⟩
        refine ⟨_, rfl, _, rfl, _, rfl, by show 2 ≤ sizeLine; decide, fun l nl => ?_⟩
        have PE := PQ.ex (Ex.new (o := .lst [.str "mend", .str "ask"]) nl)
        have nd := PE.nd
        simp only [List.nodup_cons, List.mem_cons, List.not_mem_nil, not_or, or_false] at nd
        obtain ⟨⟨n0, n1, n2, n3, n4⟩, _⟩ := nd
        have ⟨GF, hgF, _⟩ := PQ.gen
        refine ⟨g, a0, a1, l, n + 77 + 13 * (i : Int), hs, ss, [.str "mend", .str "ask"], rfl, PE.gen, by omega, PE.h0, PE.h1, upd_same, ⟨Ne.symm n0, Ne.symm n1, (ne_of_none hgF nl).symm⟩, lhs, lss, by decide, fun p H3 place w other np mv ga hp hw side => ?_⟩
        have PF := PE.move mv ga
        have hwi : ∃ sw, w = sv sw ∧ (sw = some "ask" ∨ sw = some "mend") := by
          simp only [List.mem_cons, List.not_mem_nil, or_false] at hw
          rcases hw with rfl | rfl
          · exact ⟨some "mend", rfl, .inr rfl⟩
          · exact ⟨some "ask", rfl, .inl rfl⟩
        obtain ⟨sw, rfl, hsw⟩ := hwi
        refine ⟨p, _, rfl, SqT.of hp, rfl, _, _, rfl, _, _, rfl, _, _, rfl, rfl, ?_⟩
        obtain ⟨S, h4, t4⟩ := PF.h4
        have kall : ∀ k ∈ rs.map key, KnOk k := fun k hk => by
          obtain ⟨e, he, rfl⟩ := List.mem_map.mp hk
          exact okR_kn oh os (okrs e he)
        have kone : KnOk (place, sw) := okR_kn (e := (place, sw, other)) oh os ⟨hsw, side⟩
        refine ⟨_, rfl, _, rfl, by show 2 ≤ sizeLine; decide, fun q nq => ?_⟩
        have eq1 : Ex H3 (upd H3 q (.tup [.str place, sv sw])) := Ex.new nq
        refine ⟨_, rfl, knD (place, sw), (rs.map key).map knD, ?_, .lst (SqL.of (eq1 _ _ h4)) (kn_dp (t4.ex eq1)), kn_shaped _ kone, kns_shaped _ kall, _, rfl, ?_⟩
        · refine .tup (SqT.of upd_same) (.cons (.str _) (.cons ?_ .nil))
          cases sw with
          | none => exact .non
          | some s => exact .str s
        · rw [kn_any]
          by_cases hm : (place, sw) ∈ rs.map key
          · have e9 : (!decide ((place, sw) ∈ rs.map key)) = false := by simp [hm]
            rw [e9]
            refine ⟨_, _, _, _, rs, rfl, (PF.ex eq1).le (by omega), by omega, okrs, ndrs⟩
          · have e9 : (!decide ((place, sw) ∈ rs.map key)) = true := by simp [hm]
            rw [e9]
            obtain ⟨S', h4', t4'⟩ := (PF.ex eq1).h4
            have lS : S'.length = rs.length := by rw [Tups.len t4']; simp [Kn]
            refine ⟨_, rfl, .inl ⟨rfl, _, SqL.of h4'⟩, _, rfl, _, rfl, by show 2 ≤ sizeLine; decide, fun q2 nq2 => ?_⟩
            have eq2 := Ex.new (o := .tup [.str place, sv sw]) nq2
            have P4 := ((PF.ex eq1).ex eq2).app4 (k := (place, sw)) upd_same (eq2 _ _ h4') (t4'.ex eq2)
            refine ⟨a4, _, _, rfl, rfl, eq2 _ _ h4', by rw [List.length_map]; exact sz_lt (by omega), ?_⟩
            obtain ⟨R', h3', t3'⟩ := P4.h3
            refine ⟨_, rfl, .inl ⟨rfl, _, SqL.of h3'⟩, _, rfl, _, rfl, _, rfl, by show 3 ≤ sizeLine; decide, fun p2 np2 => ?_⟩
            have lR : R'.length = rs.length := by rw [Tups.len t3', List.length_map]
            have eq3 := Ex.new (o := .tup [.str place, sv sw, .str other]) np2
            have P3 := (P4.ex eq3).app3 (e := (place, sw, other)) upd_same (eq3 _ _ h3') (t3'.ex eq3)
            refine ⟨a3, _, _, rfl, rfl, eq3 _ _ h3', by rw [List.length_map]; exact sz_lt (by omega), _, _, _, _, rs ++ [(place, sw, other)], rfl, ?_, ?_, ?_, ?_⟩
            · rw [List.map_append]
              exact P3.le (by omega)
            · rw [List.length_append]
              show _ + 1 ≤ _
              omega
            · intro e he
              rcases List.mem_append.mp he with he | he
              · exact okrs e he
              · obtain rfl : e = (place, sw, other) := by simpa using he
                exact ⟨hsw, side⟩
            · rw [List.map_append]
              refine List.nodup_append.mpr ⟨ndrs, by simp, fun x hx y hy => ?_⟩
              obtain rfl : y = (place, sw) := by simpa [key] using hy
              exact fun z => hm (by rw [← z]; exact hx)
      · rintro σ H2 ⟨t8, t9, t10, t11, rs, rfl, PQ, lrs, okrs, ndrs⟩
        dsimp only
        refine ⟨by show 0 ≤ sizeLine; decide, fun b0 n0 => ⟨by show 1 ≤ sizeLine; decide, fun b1 n1 => ⟨by show 1 ≤ sizeLine; decide, fun b2 n2 => ⟨by show 2 ≤ sizeLine; decide, fun b3 n3 => ⟨by show 1 ≤ sizeLine; decide, fun b4 n4 => ⟨by show 5 ≤ sizeLine; decide, fun lo nlo => ?_⟩⟩⟩⟩⟩⟩
        have x0 : Ex H2 (upd H2 b0 (.lst [])) := Ex.new n0
        have x1 := Ex.new (o := .lst [.str "mend"]) n1
        have x2 := Ex.new (o := .lst [.str "ask"]) n2
        have x3 := Ex.new (o := .lst [.str "mend", .str "ask"]) n3
        have x4 := Ex.new (o := .lst [.str "none"]) n4
        have x5 := Ex.new (o := .lst [.ref b0, .ref b1, .ref b2, .ref b3, .ref b4]) nlo
        have f0' := n0
        have f1' := fresh_back x0 n1
        have f2' := fresh_back (x0.trans x1) n2
        have f3' := fresh_back ((x0.trans x1).trans x2) n3
        have f4' := fresh_back (((x0.trans x1).trans x2).trans x3) n4
        have PX := PQ.ex (((((x0.trans x1).trans x2).trans x3).trans x4).trans x5)
        have X0 := ((((x1.trans x2).trans x3).trans x4).trans x5) _ _ (upd_same (H := H2) (a := b0) (o := .lst []))
        have X1 := (((x2.trans x3).trans x4).trans x5) _ _ upd_same
        have X2 := ((x3.trans x4).trans x5) _ _ upd_same
        have X3 := (x4.trans x5) _ _ upd_same
        have X4 := x5 _ _ upd_same
        obtain ⟨GX, hgX, glX⟩ := PX.gen
        refine ⟨_, rfl, g, _, _, GX, rfl, by decide, by decide, hgX, glX, by omega, fun z4 G4 z40 z41 gl4 => ?_⟩
        have mG : Mv g (upd (upd (upd (upd (upd (upd H2 b0 (.lst [])) b1 (.lst [.str "mend"])) b2 (.lst [.str "ask"])) b3 (.lst [.str "mend", .str "ask"])) b4 (.lst [.str "none"])) lo (.lst [.ref b0, .ref b1, .ref b2, .ref b3, .ref b4])) _ := Mv.upd (o := .lst G4)
        have PY := PX.move mG ⟨G4, upd_same, gl4⟩
        have gb : ∀ b, H2 b = none → b ≠ g := fun b hb => by
          obtain ⟨GQ, hgQ, _⟩ := PQ.gen
          exact (ne_of_none hgQ hb).symm
        have glo : lo ≠ g := (ne_of_none (((((x0.trans x1).trans x2).trans x3).trans x4) _ _ PQ.gen.choose_spec.1) nlo).symm
        have Y0 := mG _ _ (gb _ f0') X0
        have Y1 := mG _ _ (gb _ f1') X1
        have Y2 := mG _ _ (gb _ f2') X2
        have Y3 := mG _ _ (gb _ f3') X3
        have Y4 := mG _ _ (gb _ f4') X4
        have Yo := mG _ _ glo upd_same
        have hat : ∃ b L, atI [V.ref b0, .ref b1, .ref b2, .ref b3, .ref b4] z4 = some (.ref b) ∧ H2 b = none ∧ L ∈ allL ∧ upd (upd (upd (upd (upd (upd (upd H2 b0 (.lst [])) b1 (.lst [.str "mend"])) b2 (.lst [.str "ask"])) b3 (.lst [.str "mend", .str "ask"])) b4 (.lst [.str "none"])) lo (.lst [.ref b0, .ref b1, .ref b2, .ref b3, .ref b4])) g (.lst G4) b = some (.lst (L.map V.str)) := by
          have : z4 = 0 ∨ z4 = 1 ∨ z4 = 2 ∨ z4 = 3 ∨ z4 = 4 := by omega
          rcases this with rfl | rfl | rfl | rfl | rfl
          · exact ⟨b0, [], rfl, f0', by decide, Y0⟩
          · exact ⟨b1, ["mend"], rfl, f1', by decide, Y1⟩
          · exact ⟨b2, ["ask"], rfl, f2', by decide, Y2⟩
          · exact ⟨b3, ["mend", "ask"], rfl, f3', by decide, Y3⟩
          · exact ⟨b4, ["none"], rfl, f4', by decide, Y4⟩
        obtain ⟨b, L, hat, fb, hL, Yb⟩ := hat
        refine ⟨lo, _, _, _, rfl, rfl, SqL.of Yo, hat, ?_⟩
        obtain ⟨R2, h2, t2⟩ := PY.h2
        obtain ⟨R3, h3, t3⟩ := PY.h3
        refine ⟨_, rfl, _, rfl, _, rfl, _, rfl, _, rfl, by show 5 ≤ sizeLine; decide, fun p np => ?_⟩
        have xp := Ex.new (o := .lst [.ref a0, .ref a1, .ref a2, .ref a3, .ref b]) np
        have PZ := PY.ex xp
        refine kq p _ ⟨hs, ss, ds, rs, L⟩ a0 a1 a2 a3 b R2 R3 PZ.mv (PZ.gen.mono (by omega)) ⟨upd_same, PZ.h0, PZ.h1, xp _ _ h2, t2.ex xp, xp _ _ h3, t3.ex xp, xp _ _ Yb⟩ ⟨⟨_, by omega, by omega, ehs⟩, ⟨_, by omega, by omega, ess⟩, by show 1 ≤ ds.length ∧ ds.length ≤ 5; omega, okds, by show rs.length ≤ 7; omega, okrs, ndrs, hL⟩ ?_
        have bk : ∀ a, H2 a = none → H a = none := fun a => PQ.mv.back PQ.gen
        have fr := PQ.fr
        simp only [List.mem_cons, List.not_mem_nil, or_false, forall_eq_or_imp, forall_eq] at fr ⊢
        refine ⟨?_, fr.1, fr.2.1, fr.2.2.1, fr.2.2.2.1, bk _ fb⟩
        exact bk _ (fresh_back (((((x0.trans x1).trans x2).trans x3).trans x4).trans x5) (mG.back ⟨G4, upd_same, gl4⟩ np))
end
end Pts
/-! ### a call of an own exception class with keywords too -/
namespace PySem
namespace KwX
open PySem.W PySem.Calls PyProof.Rows PySem.HandSPX Builtin Builtin.ObjectAttr
section
variable {M : Model} {A : Around} {E : Value → Shared → Prop} {hp : Heap} {ge : Array GenState} {dr : Drawn} {tk : Nat} {oz : OsState}
variable {cn cq : Str} {C nsA : Addr} {bl ml ml0 : List Value} {hd : Bool} {slo : List Str} {subs : List Value} {abst : Bool} {cl : Option Bool} {di : Option Addr} {s0 s1 s2 s3 s5 : Option Value} {nB nI iI : String}
theorem kw_check_new (F : ExcBaseFacts nB nI iI ml0) (hT : ∀ T : String, ml.contains (.type T) = ml0.contains (.type T)) {us : List Value} {kv : List (Str × Value)} {Q : Unit → Shared → Prop}
    (gC : hp.get? C = some (excClassObj cn cq C nsA bl ml hd slo subs abst cl di s0 s1 s2 s3 s5 nI)) (hq : Q () ⟨hp, ge, dr, tk, oz⟩) :
    wpAny M A (checkBuiltinCall nI ⟨.ref C :: us, kv⟩) Q E ⟨hp, ge, dr, tk, oz⟩ := by
  have c1 : (Value.ref C :: ml).contains (.type nB) = true := by
    rw [List.contains_cons, hT, F.hasB, Bool.or_true]
  have _st := F.noStar
  simp only [checkBuiltinCall, F.newKind, F.newRow, F.newSplit]
  repeat (first
    | refine wpAny_loadPart_at gC ?_
    | (refine wpAny_isSubtype_exc gC ?_; rw [c1])
    | refine wpAny_staticBase_exc gC ?_
    | refine wpAny_madeBy_exc gC ?_
    | simp only [bne_self_eq_false, Bool.false_eq_true, if_false]
    | wp_step)
  exact hq
end
section
variable {prog : Program} {w : World} {A : Around} {E : Value → Shared → Prop} {R : Result → Shared → Prop} {hp : Heap} {ge : Array GenState} {dr : Drawn} {tk : Nat} {oz : OsState}
variable {cn cq : Str} {C nsA : Addr} {bl ml ml0 : List Value} {hd : Bool} {slo : List Str} {subs : List Value} {abst : Bool} {cl : Option Bool} {di : Option Addr} {s0 s1 s2 s3 s5 : Option Value} {nB nI iI : String}
theorem kw_new (F : ExcBaseFacts nB nI iI ml0) (hT : ∀ T : String, ml.contains (.type T) = ml0.contains (.type T)) {us : List Value} {kv : List (Str × Value)}
    (gC : hp.get? C = some (excClassObj cn cq C nsA bl ml hd slo subs abst cl di s0 s1 s2 s3 s5 nI)) (hz : us.length ≤ sizeLine)
    (hq : R (.ok (.ret (.ref (hp.objs.size + 1)))) ⟨(hp.push (W.kdv_tup us)).push (excO C hp.objs.size), ge, dr, tk, oz⟩) :
    codeAny (model prog w) A (.builtin nI ⟨.ref C :: us, kv⟩) R ⟨hp, ge, dr, tk, oz⟩ := by
  have e1 := F.ends
  have c1 : (Value.ref C :: ml).contains (.type nB) = true := by
    rw [List.contains_cons, hT, F.hasB, Bool.or_true]
  have c2 : (Value.ref C :: ml).contains (.type "AttributeError") = false := by
    rw [List.contains_cons, hT, F.noAttr]
    rfl
  have c3 : (Value.ref C :: ml).contains (.type "NameError") = false := by
    rw [List.contains_cons, hT, F.noName]
    rfl
  refine codeAny_builtinAt F.entry ?_
  unfold Builtin.«BaseException.__new__»
  refine wpAt_bind ?_
  show wpAt _ _ _ (stack >>= _) _ _ _
  refine wpAt_bind (wpAt_stack fun _ _ => wpAt_of_wpAny ?_)
  wp_walk
  refine wpAt_of_wpAny ?_
  rw [F.owner]
  repeat (first
    | with_reducible refine wpAny_madeHere_exc F.canon gC ?_
    | with_reducible refine wpAny_loadPart_at gC ?_
    | (with_reducible refine wpAny_isSubtype_exc gC ?_; first | rw [c1] | rw [c2] | rw [c3])
    | wp_step)
  show R _ _
  rw [Heap.size_push]
  exact hq
theorem kw_tcall (F : ExcBaseFacts nB nI iI ml0) (hT : ∀ T : String, ml.contains (.type T) = ml0.contains (.type T)) {us : List Value} {kv : List (Str × Value)} {fI : Addr} {Q : Fin → Shared → Prop}
    (gC : hp.get? C = some (excClassObj cn cq C nsA bl ml hd slo subs abst cl di s0 s1 s2 s3 s5 nI)) (hz : us.length ≤ sizeLine)
    (li : W.Looks (model prog w) hp (typeLookup (.ref C) "__init__") (some (.ref fI))) (lb : ∀ self, W.Looks (model prog w) hp (bindSpecial (.ref fI) self) (.ref fI, [self]))
    (hq : codeAny (model prog w) A (.call (.ref fI) ⟨.ref (hp.objs.size + 1) :: us, kv⟩)
      (fun r s' => match r with
        | .ok (.ret v) => v = .none ∧ Q (.done (.ret (.ref (hp.objs.size + 1)))) s'
        | .ok _ => False
        | .error e => E e s') ⟨(hp.push (W.kdv_tup us)).push (excO C hp.objs.size), ge, dr, tk, oz⟩) :
    wpAny (model prog w) A (Builtin.«type.__call__» ⟨.ref C :: us, kv⟩) Q E ⟨hp, ge, dr, tk, oz⟩ := by
  repeat (first
    | with_reducible refine wpAny_loadPart_at gC ?_
    | with_reducible refine wpAny_madeBy_exc gC ?_
    | wp_step)
  refine codeAny_call_builtin_code (Code.quiet_builtin _ F.quiet) (kw_check_new F hT gC ?_)
  refine kw_new F hT gC hz ?_
  show wpAny _ _ _ _ _ _
  have kk : ∀ b o, hp.get? b = some o → ((hp.push (W.kdv_tup us)).push (excO C hp.objs.size)).get? b = some o :=
    fun b o z => Heap.get?_push_of_some _ (Heap.get?_push_of_some _ z)
  have gC2 := kk _ _ gC
  have gx : ((hp.push (W.kdv_tup us)).push (excO C hp.objs.size)).get? (hp.objs.size + 1) = some (excO C hp.objs.size) := by heap_get
  have c4 : (Value.ref C :: ml).contains (.ref C) = true := by simp
  have l1 := li.keeps kk
  have l2 := (lb (.ref (hp.objs.size + 1))).keeps kk
  unfold isInstance
  repeat (first
    | with_reducible refine wpAny_loadPart_at gx ?_
    | (with_reducible refine wpAny_isSubtype_exc gC2 ?_; rw [c4])
    | wp_step)
  show wpAny _ _ (typeLookup (.ref C) _) _ _ _
  refine l1.at ?_
  refine wpAny_holding (wpAny_bind (l2.at ?_))
  refine wpAny_bind (wpAny_call (codeAny_mono hq fun r s' z => ?_))
  rcases r with er | (v | _ | _ | _)
  all_goals first
    | exact z
    | exact False.elim z
    | (obtain ⟨rfl, z'⟩ := z; exact wpAny_pure (wpAny_pure z'))
    | (obtain ⟨rfl, z'⟩ := z; wp_walk; exact z')
    | (obtain ⟨rfl, z'⟩ := z; wp_walk)
theorem kw_own (F : ExcBaseFacts nB nI iI ml0) (hT : ∀ T : String, ml.contains (.type T) = ml0.contains (.type T)) {us : List Value} {kv : List (Str × Value)} {fI : Addr}
    (gC : hp.get? C = some (excClassObj cn cq C nsA bl ml hd slo subs abst cl di s0 s1 s2 s3 s5 nI)) (hz : us.length ≤ sizeLine)
    (li : W.Looks (model prog w) hp (typeLookup (.ref C) "__init__") (some (.ref fI))) (lb : ∀ self, W.Looks (model prog w) hp (bindSpecial (.ref fI) self) (.ref fI, [self]))
    (hq : codeAny (model prog w) (A.under (.builtin "type.__call__" ⟨.ref C :: us, kv⟩)) (.call (.ref fI) ⟨.ref (hp.objs.size + 1) :: us, kv⟩) (W.InitBack (hp.objs.size + 1) R)
      ⟨(hp.push (W.kdv_tup us)).push (excO C hp.objs.size), ge, dr, tk, oz⟩) :
    codeAny (model prog w) A (.call (.ref C) ⟨us, kv⟩) R ⟨hp, ge, dr, tk, oz⟩ := by
  have _t1 := tc_lookup
  have _t2 := tc_bind (.ref C)
  have _t3 := tc_sub
  have ty : (⟨hp, ge, dr, tk, oz⟩ : Shared).TypeIs (.ref C) "type" := ⟨_, gC, rfl⟩
  refine codeAny_of_tree ?_
  show wpAny _ _ (callAny (.ref C) _) _ _ _
  repeat (any_goals (first
    | assumption
    | with_reducible refine wpAny_loadPart_at gC ?_
    | wp_step))
  refine ⟨rfl, ?_⟩
  have ck : ∀ {Q : Unit → Shared → Prop} {A' : Around} {E' : Value → Shared → Prop}, Q () ⟨hp, ge, dr, tk, oz⟩ → wpAny (model prog w) A' (checkBuiltinCall "type.__call__" ⟨.ref C :: us, kv⟩) Q E' ⟨hp, ge, dr, tk, oz⟩ := by
    intro Q A' E' q
    simp only [checkBuiltinCall, tc_kind, tc_split]
    repeat (any_goals (first
      | assumption
      | with_reducible refine wpAny_loadPart_at gC ?_
      | with_reducible refine wpAny_onRaise ?_
      | with_reducible refine wpAny_map ?_
      | wp_step))
  refine codeAny_call_builtin_at (Code.quiet_builtin _ (by decide +kernel)) entry_typeCall (ck (kw_tcall F hT gC hz li lb ?_))
  refine codeAny_mono hq fun r s' z => ?_
  rcases r with e | (v | _ | _ | _) <;> exact z
end
end KwX
end PySem
/-! ### errors of own classes as values -/
namespace ExV
open PySem PySem.Spec PyProof.Rows L2 Evl
/-- at a: an error of the class at C; its field -/
def ErrAt (H : Hp) (a C : Addr) (f : Str) (y : V) : Prop := ∃ dx, H a = some (exo a C (some dx)) ∧ H dx = some (exd dx [(f, y)])
theorem ErrAt.ex {H H' : Hp} {a C : Addr} {f : Str} {y : V} (e : Ex H H') (h : ErrAt H a C f y) : ErrAt H' a C f y := by
  obtain ⟨dx, h1, h2⟩ := h
  exact ⟨dx, e _ _ h1, e _ _ h2⟩
/-- what the written part says of a class with its own __init__ -/
structure Own (K : PySem.W.Frag) (C fI : Addr) : Prop where
  ox : OexC K C
  iC : PySem.W.findIn K (.ref C) "__init__" = some (some (.ref fI))
  tI : PySem.W.typeIn K (.ref fI) = some (.type "function")
def spInitE (C : Addr) (f : Str) : Sp := fun vs H Q _ => ∃ a y, vs = [.ref a, y] ∧ H a = some (exo a C none) ∧ ∀ dx, H dx = none → dx ≠ a → Q .non (upd (upd H dx (exd dx [(f, y)])) a (exo a C (some dx)))
section
variable {X : Cx} {k : Nat} {fI C : Addr} {fd : FuncData} {f : Str} {x : Str} {p pos apos : Pos} {e : Expr}
theorem run_err {pins : List (Addr × Obj)} {σ : L2.St} {H : Hp} {s : Shared} {Q : VK} {us : List Value} {kv : List (Str × Value)} {y : V} {u : Value} (O : Own X.K C fI) (F1 : FnOk X.prog X.w X.K X.mg X.base CX0 k fI fd ["self", f] (spInitE C f)) (hr : Room (k + 1) X.A)
    (I : Inv X pins σ H s) (r : RelV y u) (hz : us.length ≤ sizeLine) (hb : ∀ (s : Shared) (self : Value), X.K.In s.heap → BindsTo s fd ⟨self :: us, kv⟩ ((["self", f] : List Str).zip [self, u]))
    (h : ∀ a H2, H a = none → Ex H H2 → ErrAt H2 a C f y → Q (.ref a) H2) : wpAny (model X.prog X.w) X.A (call (.ref C) us kv) (EP X pins σ Q) X.xe s := by
  obtain ⟨nm, q, N, bs, bm, sn, sub, ab, col, dd, k0, k1, k2, k3, k5, hC, hbm⟩ := O.ox.cls
  obtain ⟨hp, g, dr, tk, os⟩ := s
  have hsz : hp.objs.size ≤ hp.objs.size + 1 := Nat.le_succ _
  have hn : H (hp.objs.size + 1) = none := I.hok.fresh hsz
  have hsp : spInitE C f [.ref (hp.objs.size + 1), y] (upd H (hp.objs.size + 1) (exo (hp.objs.size + 1) C none)) (fun v H2 => v = .non ∧ Q (.ref (hp.objs.size + 1)) H2) E0 := by
    refine ⟨_, y, rfl, upd_same, fun dx hd ne => ⟨rfl, ?_⟩⟩
    have hd' : H dx = none := by
      rw [upd_ne ne] at hd
      exact hd
    refine h _ _ hn (fun b o z => ?_) ⟨dx, upd_same, ?_⟩
    · have n1 : b ≠ hp.objs.size + 1 := ne_of_none z hn
      have n2 : b ≠ dx := ne_of_none z hd'
      rw [upd_ne n1, upd_ne n2, upd_ne n1]
      exact z
    · rw [upd_ne ne, upd_same]
  have kk : ∀ b o, hp.get? b = some o → ((hp.push (PySem.W.kdv_tup us)).push (PySem.HandSPX.excO C hp.objs.size)).get? b = some o :=
    fun b o z => Heap.get?_push_of_some _ (Heap.get?_push_of_some _ z)
  have gx : ((hp.push (PySem.W.kdv_tup us)).push (PySem.HandSPX.excO C hp.objs.size)).get? (hp.objs.size + 1) = some (PySem.HandSPX.excO C hp.objs.size) := by heap_get
  have I2 : Inv X pins σ (upd H (hp.objs.size + 1) (exo (hp.objs.size + 1) C none)) ⟨(hp.push (PySem.W.kdv_tup us)).push (PySem.HandSPX.excO C hp.objs.size), g, dr, tk, os⟩ :=
    I.laid (t' := tk) (a := hp.objs.size + 1) (o := exo (hp.objs.size + 1) C none) (h' := (hp.push (PySem.W.kdv_tup us)).push (PySem.HandSPX.excO C hp.objs.size)) kk hsz (exo_ok gx)
  have r2 : Vals [V.ref (hp.objs.size + 1), y] [Value.ref (hp.objs.size + 1), u] := .cons rfl (.cons r .nil)
  refine wpAny_call (PySem.KwX.kw_own F.excBase_ValueError (fun Y => PySem.HandSPX.refsVE_contains Y bm hbm) (I.kIn _ _ hC) hz (PySem.W.looks_findIn I.kIn O.iC) (fun self => PySem.W.bind_fn I.kIn self O.tI)
    (codeAny_mono (F1.run _ X.stack _ _ ⟨Value.ref (hp.objs.size + 1) :: us, kv⟩ [Value.ref (hp.objs.size + 1), u] [V.ref (hp.objs.size + 1), y] _ E0 (hr.make C us kv) (I2.env0.make C us kv) (hb _ _ I2.kIn) r2 hsp) fun r s' hq' => ?_))
  cases r with
  | error er => exact False.elim hq'
  | ok fl =>
    cases fl with
    | ret u' =>
      obtain ⟨v, H', I3, rv, ev, q3⟩ := I2.after hq'
      subst ev
      exact ⟨rv, ⟨V.ref (hp.objs.size + 1), H', I3, rfl, q3⟩⟩
    | next => exact False.elim hq'
    | brk => exact False.elim hq'
    | cont => exact False.elim hq'
/-- C(e) | C(f = e) | C() -/
def tErr (C : Addr) (f : Str) (ta : TA) : TE := fun σ H Q => ta σ H fun vs H1 => ∃ y, vs = [y] ∧ ∀ a H2, H1 a = none → Ex H1 H2 → ErrAt H2 a C f y → Q (.ref a) H2
def tErr0 (C : Addr) (f : Str) : TE := fun _ H Q => ∀ a H2, H a = none → Ex H H2 → ErrAt H2 a C f .non → Q (.ref a) H2
theorem pe_err (O : Own X.K C fI) (F1 : FnOk X.prog X.w X.K X.mg X.base CX0 k fI fd ["self", f] (spInitE C f)) (hr : Room (k + 1) X.A) (hm : X.mg x = some (.ref C)) (hg : Gl X x) {ta : TA} (ha : PA X [e] ta)
    (hb : ∀ (s : Shared) (self u : Value), X.K.In s.heap → BindsTo s fd ⟨[self, u], []⟩ ((["self", f] : List Str).zip [self, u])) (hdb : (x == ("__debug__" : Str)) = false := by decide)
    (he : starEach (e :: []) X.env = (false, eval e X.env) :: starEach [] X.env := by rfl) (hpl : (backTo pos (starEach [] X.env)).any (·.1) = false := by rfl) :
    PE X (.Call (.Name x p) [e] [] pos) (tErr C f ta) := by
  refine ⟨fun pins s σ H Q I h => ?_⟩
  refine wpAny_Call_Name_kw (ld_glob I hg hm ?_ hdb)
  refine PySem.W.callWith_K (h₀ := X.base) I.ok.mod.kin O.ox.kC (thn (ha.run pos pins s σ H _ I h) fun us s1 ⟨vs, H1, I1, r, y, ev, q⟩ => ⟨I1.kIn, ?_⟩) he hpl
  subst ev
  cases r with
  | cons ry rn =>
    cases rn
    exact run_err O F1 hr I1 ry (by show 1 ≤ sizeLine; decide) (fun s self kin => hb s self _ kin) q
theorem pe_errK (O : Own X.K C fI) (F1 : FnOk X.prog X.w X.K X.mg X.base CX0 k fI fd ["self", f] (spInitE C f)) (hr : Room (k + 1) X.A) (hm : X.mg x = some (.ref C)) (hg : Gl X x) {kws : List Keyword} {tk : TA} (hk : PK X kws tk)
    (hb : ∀ (s : Shared) (self u : Value), X.K.In s.heap → BindsTo s fd ⟨[self], [(f, u)]⟩ ((["self", f] : List Str).zip [self, u])) (hdb : (x == ("__debug__" : Str)) = false := by decide)
    (hall : (backToKw pos (keywordEach kws X.env)).all (·.1.isSome) = true := by rfl) (hks : (backToKw pos (keywordEach kws X.env)).filterMap (·.1) = [f] := by rfl)
    (hpl : ((backTo pos (starEach [] X.env)).any (·.1) || (backToKw pos (keywordEach kws X.env)).any (·.1.isNone)) = false := by rfl) :
    PE X (.Call (.Name x p) [] kws pos) (tErr C f tk) := by
  refine ⟨fun pins s σ H Q I h => ?_⟩
  refine wpAny_Call_Name_kw (ld_glob I hg hm ?_ hdb)
  refine PySem.W.callWith_KW0 (h₀ := X.base) I.ok.mod.kin O.ox.kC hall ?_ hpl
  refine thn (hk.run pos pins s σ H _ I h) fun ws s1 ⟨vs, H1, I1, r, y, ev, q⟩ => ⟨I1.kIn, ?_⟩
  subst ev
  rw [hks]
  cases r with
  | cons ry rn =>
    cases rn
    exact run_err (us := []) O F1 hr I1 ry (Nat.zero_le _) (fun s self kin => hb s self _ kin) q
theorem pe_err0 (O : Own X.K C fI) (F1 : FnOk X.prog X.w X.K X.mg X.base CX0 k fI fd ["self", f] (spInitE C f)) (hr : Room (k + 1) X.A) (hm : X.mg x = some (.ref C)) (hg : Gl X x)
    (hb : ∀ (s : Shared) (self : Value), X.K.In s.heap → BindsTo s fd ⟨[self], []⟩ ((["self", f] : List Str).zip [self, .none])) (hdb : (x == ("__debug__" : Str)) = false := by decide) :
    PE X (.Call (.Name x p) [] [] pos) (tErr0 C f) := by
  refine ⟨fun pins s σ H Q I h => ?_⟩
  refine wpAny_Call_Name_kw (ld_glob I hg hm ?_ hdb)
  exact PySem.W.callWith_K0 I.kIn O.ox.kC (run_err (us := []) (kv := []) (y := .non) (u := .none) O F1 hr I rfl (Nat.zero_le _) hb h)
end

/-! ### their fields, isinstance -/
/-- e.f -/
def tErrF (K : PySem.W.Frag) (f : Str) (te : TE) : TE := fun σ H Q => te σ H fun x H1 => ∃ a C y, x = .ref a ∧ ErrAt H1 a C f y ∧ XfC K C ∧ PySem.W.findIn K (.ref C) f = some none ∧ Q y H1
theorem instAt_err {X : Cx} {pins : List (Addr × Obj)} {σ : L2.St} {H : Hp} {s : Shared} {a C dx : Addr} {fs : List (Str × V)} (I : Inv X pins σ H s) (h1 : H a = some (exo a C (some dx))) (h2 : H dx = some (exd dx fs)) :
    ∃ (oe od : Obj) (mA : Str → Option Value), PySem.W.InstAt s.heap a oe C (some od) ∧ (∀ g, PySem.W.lookIn g od = some (mA g)) ∧ ∀ g, RelO (fs.lookup g) (mA g) := by
  obtain ⟨t1, ho⟩ := exo_at I.hok h1
  obtain ⟨mA, hns, rel⟩ := exd_at I.hok h2
  obtain ⟨od, hod, hl⟩ := lookIn_ns hns
  exact ⟨_, od, mA, ⟨ho, rfl, rfl, hod⟩, hl, rel⟩
theorem pe_errF {X : Cx} {f : Str} {e : Expr} {te : TE} {pos : Pos} (he : PE X e te) (hb : attributeBase e f X.env (eval e X.env) = eval e X.env := by rfl) : PE X (.Attribute e f pos) (tErrF X.K f te) := by
  refine ⟨fun pins s σ H Q I h => ?_⟩
  refine attr_of hb (thn (he.run pins s σ H _ I h) fun u s1 hh => ?_)
  obtain ⟨x, H1, I1, rx, a, C, y, ex, ⟨dx, h1, h2⟩, T, hno, q⟩ := hh
  subst ex
  obtain rfl : u = Value.ref a := rx
  obtain ⟨oe, od, mA, J, hl, rel⟩ := instAt_err I1 h1 h2
  obtain ⟨v, hv, rv⟩ := RelO.some_of (v := y) (o := mA f) (by have r := rel f; simp [List.lookup] at r; exact r)
  exact HandSPX.exc_get I1.kIn J T.ga T.gg T.exC (PySem.W.findObj_own T.hdC hno rfl (by rw [hl, hv])) (handed_of rv) ⟨y, H1, I1.tok _, rv, q⟩
/-- an error stands at a: its class, its dict or none -/
def ErrIs (H : Hp) (a C : Addr) : Prop := H a = some (exo a C none) ∨ ∃ dx fs, H a = some (exo a C (some dx)) ∧ H dx = some (exd dx fs)
theorem ErrAt.is {H : Hp} {a C : Addr} {f : Str} {y : V} (h : ErrAt H a C f y) : ErrIs H a C := by
  obtain ⟨dx, h1, h2⟩ := h
  exact .inr ⟨dx, _, h1, h2⟩
theorem ErrIs.ex {H H' : Hp} {a C : Addr} (e : Ex H H') (h : ErrIs H a C) : ErrIs H' a C := by
  rcases h with h | ⟨dx, fs, h1, h2⟩
  · exact .inl (e _ _ h)
  · exact .inr ⟨dx, fs, e _ _ h1, e _ _ h2⟩
structure IsC (K : PySem.W.Frag) (C : Addr) : Prop where
  cl : (PySem.W.clsIn K C).isSome = true
  xf : XfC K C
  ha : PySem.W.findIn K (.ref C) "__class__" = some (some (.builtin "object.__class__"))
  hn : PySem.W.specialIn K (.builtin "object.__class__") "__get__" = some (some (.builtin "getset_descriptor.__get__"))
  ht : PySem.W.takesIn K (.builtin "object.__class__") = some true
  hm : PySem.W.mroIn K C (.type "object") = some true
def rErrIs (K : PySem.W.Frag) : List V → Hp → VK → Prop := fun xs H Q => ∃ a C c u b, xs = [.ref a, c] ∧ ErrIs H a C ∧ IsC K C ∧ ClsV c u ∧ PySem.W.kitOne K (.ref C) u = some b ∧ Q (.bl b) H
theorem call_errIs {X : Cx} : CallR X (.builtin "isinstance") (rErrIs X.K) := by
  intro pins s σ H xs us Q I r h
  obtain ⟨a, C, c, u, b, rfl, he, T, k, e, q⟩ := h
  obtain ⟨u1, u2, rfl, r1, r2⟩ := vals2 r
  obtain rfl := k.eq r2
  obtain rfl : u1 = Value.ref a := r1
  rcases he with h1 | ⟨dx, fs, h1, h2⟩
  · obtain ⟨t1, ho⟩ := exo_at I.hok h1
    have J : PySem.W.InstAt s.heap a _ C none := ⟨ho, rfl, rfl, trivial⟩
    exact PySem.W.kia_one (PySem.W.kitx_exc T.cl T.xf.ga T.xf.gg T.xf.exC T.ha T.hn T.ht T.hm) I.kIn J e (fun z => nomatch z) fun tk => ⟨.bl b, H, I.tok tk, rfl, q⟩
  · obtain ⟨oe, od, mA, J, _, _⟩ := instAt_err I h1 h2
    exact PySem.W.kia_one (PySem.W.kitx_exc T.cl T.xf.ga T.xf.gg T.xf.exC T.ha T.hn T.ht T.hm) I.kIn J e (fun z => nomatch z) fun tk => ⟨.bl b, H, I.tok tk, rfl, q⟩
/-! ### C(), C without an own __init__ -/
def tBare (C : Addr) : TE := fun _ H Q => ∀ a H2, H a = none → Ex H H2 → ErrIs H2 a C → Q (.ref a) H2
theorem pe_bare {X : Cx} {C : Addr} {bmB : List Value} {B newId initId : String} {x : Str} {p pos : Pos} (F : ExcBaseFacts B newId initId bmB) (q : PySem.W.excIn X.K C bmB newId = true) (gC : X.mg x = some (.ref C)) (kC : PySem.W.keepIn X.K (.ref C) = true) (hg : Gl X x)
    (hdb : (x == ("__debug__" : Str)) = false := by decide) : PE X (.Call (.Name x p) [] [] pos) (tBare C) := by
  refine ⟨fun pins s σ H Q I h => ?_⟩
  refine wpAny_Call_Name_kw (ld_glob I hg gC ?_ hdb)
  refine PySem.W.callWith_K0 I.kIn kC ?_
  show wpAny _ _ (call (.ref C) []) _ _ _
  obtain ⟨bm, N, nm, qn, bs, hdct, sn, sub, ab, col, dd, k0, k1, k2, k3, k5, mN, hC, hN, hni, T⟩ := exc_obj I.kIn q
  obtain ⟨hp, g, d, t, os⟩ := s
  refine wpAny_call_exc_subT F T hC hN hni (fun h' a hm => ?_) (by show 0 ≤ sizeLine; omega)
  have hn : H a = none := I.hok.gone hm.new
  obtain ⟨t1, ht, _, _⟩ := hm.there
  exact ⟨.ref a, upd H a (exo a C none), I.laidN hm.keeps hm.new hn (exo_ok ht), rfl, h a _ hn (Ex.new hn) (.inl upd_same)⟩
end ExV
/-! ### repr of data that stand in the heap: nested lists, tuples, dicts -/
namespace Rep
open PySem PySem.Spec PyProof.Rows L2 Evl
def keyD : Key → PyData
  | .inl i => .int i
  | .inr x => .str x
mutual
inductive Sw (K : PySem.W.Frag) (H : Hp) : V → PyData → Prop
  | non : Sw K H .non .none
  | bl (b : Bool) : Sw K H (.bl b) (.bool b)
  | int (i : Int) : Sw K H (.int i) (.int i)
  | str (x : Str) : Sw K H (.str x) (.str x)
  | lst {a : Addr} {xs : List V} {ds : List PyData} : SqL K H a xs → SwAll K H xs ds → Sw K H (.ref a) (.list ds)
  | tup {a : Addr} {xs : List V} {ds : List PyData} : SqT K H a xs → SwAll K H xs ds → Sw K H (.ref a) (.tuple ds)
  | dct {a : Addr} {kvs : List (Key × V)} {ds : List (PyData × PyData)} : H a = some (.dK kvs) → SwKv K H kvs ds → Sw K H (.ref a) (.dict ds)
inductive SwAll (K : PySem.W.Frag) (H : Hp) : List V → List PyData → Prop
  | nil : SwAll K H [] []
  | cons {v : V} {vs : List V} {d : PyData} {ds : List PyData} : Sw K H v d → SwAll K H vs ds → SwAll K H (v :: vs) (d :: ds)
inductive SwKv (K : PySem.W.Frag) (H : Hp) : List (Key × V) → List (PyData × PyData) → Prop
  | nil : SwKv K H [] []
  | cons {k : Key} {v : V} {kvs : List (Key × V)} {d : PyData} {ds : List (PyData × PyData)} : Sw K H v d → SwKv K H kvs ds → SwKv K H ((k, v) :: kvs) ((keyD k, d) :: ds)
end
theorem SwAll.rep {K : PySem.W.Frag} {H : Hp} {v : V} {d : PyData} (h : Sw K H v d) : ∀ n : Nat, SwAll K H (List.replicate n v) (List.replicate n d)
  | 0 => .nil
  | n + 1 => .cons h (SwAll.rep h n)
mutual
theorem Sw.ex {K : PySem.W.Frag} {H H' : Hp} (e : Ex H H') : ∀ (d : PyData) (v : V), Sw K H v d → Sw K H' v d
  | .none, _, h => by cases h; exact .non
  | .bool b, _, h => by cases h; exact .bl b
  | .int i, _, h => by cases h; exact .int i
  | .str x, _, h => by cases h; exact .str x
  | .list ds, _, h => by
    cases h with
    | lst hs ha => exact .lst (ex_l e hs) (SwAll.ex e ds _ ha)
  | .tuple ds, _, h => by
    cases h with
    | tup hs ha => exact .tup (ex_t e hs) (SwAll.ex e ds _ ha)
  | .dict ds, _, h => by
    cases h with
    | dct hs ha => exact .dct (e _ _ hs) (SwKv.ex e ds _ ha)
theorem SwAll.ex {K : PySem.W.Frag} {H H' : Hp} (e : Ex H H') : ∀ (ds : List PyData) (vs : List V), SwAll K H vs ds → SwAll K H' vs ds
  | [], _, h => by cases h; exact .nil
  | d :: ds, _, h => by
    cases h with
    | cons h1 h2 => exact .cons (Sw.ex e d _ h1) (SwAll.ex e ds _ h2)
theorem SwKv.ex {K : PySem.W.Frag} {H H' : Hp} (e : Ex H H') : ∀ (ds : List (PyData × PyData)) (kvs : List (Key × V)), SwKv K H kvs ds → SwKv K H' kvs ds
  | [], _, h => by cases h; exact .nil
  | (_, d) :: ds, _, h => by
    cases h with
    | cons h1 h2 => exact .cons (Sw.ex e d _ h1) (SwKv.ex e ds _ h2)
end
theorem more_ent {P : Program} {w : World} {as as' : List Addr} {h : Heap} {d d' : Nat} (hs : ∀ b ∈ as, b ∈ as') (hd : d ≤ d') : ∀ {es : List DictEntry} {ps : List Str}, ReprEntriesK P w as h d es ps → ReprEntriesK P w as' h d' es ps
  | _, _, .nil => .nil
  | _, _, .cons a b c => .cons ((a.more hs).level_le hd) ((b.more hs).level_le hd) (more_ent hs hd c)
def Shows (P : Program) (w : World) (h : Heap) (u : Value) (d : PyData) : Prop := (∃ as, Reads h u d as) ∧ ∃ bs, ReadAtMost h d.depth bs ∧ ReprK P w bs h d.depth u d.shown
def ShowsAll (P : Program) (w : World) (h : Heap) (us : List Value) (ds : List PyData) : Prop := (∃ as, ReadsAll h us ds as) ∧ ∃ bs, ReadAtMost h (PyData.depthAll ds) bs ∧ ReprAllK P w bs h (PyData.depthAll ds) us (PyData.shownAll ds)
section
variable {X : Cx} {pins : List (Addr × Obj)} {σ : L2.St} {H : Hp} {s : Shared}
theorem key_shows {k : Key} {u : Value} (hk : keyIs k u = true) (hz : (keyD k).shown.length ≤ sizeLine) (hs : (keyD k).showable = true) : Shows X.prog X.w s.heap u (keyD k) := by
  rcases keyIs_shape hk with ⟨i, t, rfl, rfl⟩ | ⟨x, t, rfl, rfl⟩
  · exact ⟨⟨_, Reads.int i t⟩, [], (fun _ h => nomatch h), by simp only [keyD, PyData.shown]; exact .of_is (ReprIs.int t (by simpa [keyD, PyData.showable] using hs)) _ _ _⟩
  · exact ⟨⟨_, Reads.str x t⟩, [], (fun _ h => nomatch h), by simp only [keyD, PyData.shown]; exact .of_is (ReprIs.str x t (by simpa only [keyD, PyData.shown] using hz)) _ _ _⟩
theorem depth_key (k : Key) : (keyD k).depth = 0 := by cases k <;> simp only [keyD, PyData.depth]
mutual
theorem sw_shows (I : Inv X pins σ H s) : ∀ (d : PyData) (v : V) (u : Value), Sw X.K H v d → RelV v u → d.showable = true → d.shown.length ≤ sizeLine → Shows X.prog X.w s.heap u d
  | .none, _, _, h, r, _, _ => by
    cases h
    cases r
    exact ⟨⟨_, Reads.none⟩, [], (fun _ h => nomatch h), by simp only [PyData.shown]; exact .of_is ReprIs.none _ _ _⟩
  | .bool b, _, _, h, r, _, _ => by
    cases h
    cases r
    exact ⟨⟨_, Reads.bool b⟩, [], (fun _ h => nomatch h), by simp only [PyData.shown]; exact .of_is (ReprIs.bool b) _ _ _⟩
  | .int i, _, _, h, r, hs, _ => by
    cases h
    obtain ⟨t, rfl⟩ := r
    exact ⟨⟨_, Reads.int i t⟩, [], (fun _ h => nomatch h), by simp only [PyData.shown]; exact .of_is (ReprIs.int t (by simpa [PyData.showable] using hs)) _ _ _⟩
  | .str x, _, _, h, r, _, hz => by
    cases h
    obtain ⟨t, rfl⟩ := r
    exact ⟨⟨_, Reads.str x t⟩, [], (fun _ h => nomatch h), by simp only [PyData.shown]; exact .of_is (ReprIs.str x t (by simpa only [PyData.shown] using hz)) _ _ _⟩
  | .list ds, _, _, h, r, hs, hz => by
    cases h with
    | lst hq ha =>
      cases r
      obtain ⟨its, rv, ⟨o, n, h1, h2, _, h3⟩, _⟩ := I.list hq
      have hz' : (listText (PyData.shownAll ds)).length ≤ sizeLine := by simpa only [PyData.shown] using hz
      obtain ⟨⟨as, hr⟩, bs, hb, hk⟩ := sw_showsAll I ds _ its ha rv (by simpa [PyData.showable] using hs) (fun t ht => Nat.le_trans (listText_mem_le ht) hz')
      have rr := Reads.list h1 h2 h3 hr
      have na : _ ∉ bs := not_mem_of_deeper rr (by simp only [PyData.depth]; omega) hb
      refine ⟨⟨_, rr⟩, _ :: bs, ReadAtMost.cons rr (by simp only [PyData.depth]; omega) hb, ?_⟩
      simp only [PyData.depth, PyData.shown]
      cases its with
      | nil =>
        have hr' : ReadsAll s.heap [] ds as := hr
        cases hr'
        simp only [PyData.shownAll, listText_nil]
        exact ReprK.listEmpty h1 h2 h3
      | cons y l => exact ReprK.list h1 h2 h3 na (by simpa using hk.length_eq) fun i z e => hk.item i z (by simpa using e)
  | .tuple ds, _, _, h, r, hs, hz => by
    cases h with
    | tup hq ha =>
      cases r
      obtain ⟨its, rv, ⟨o, h1, h2, n, h3⟩, _⟩ := I.tuple hq
      have hz' : (tupleText (PyData.shownAll ds)).length ≤ sizeLine := by simpa only [PyData.shown] using hz
      obtain ⟨⟨as, hr⟩, bs, hb, hk⟩ := sw_showsAll I ds _ its ha rv (by simpa [PyData.showable] using hs) (fun t ht => Nat.le_trans (tupleText_mem_le ht) hz')
      have rr := Reads.tuple h1 h2 h3 hr
      have na : _ ∉ bs := not_mem_of_deeper rr (by simp only [PyData.depth]; omega) hb
      refine ⟨⟨_, rr⟩, _ :: bs, ReadAtMost.cons rr (by simp only [PyData.depth]; omega) hb, ?_⟩
      simp only [PyData.depth, PyData.shown]
      exact ReprK.tuple h1 h2 h3 na hk
  | .dict ds, _, _, h, r, hs, hz => by
    cases h with
    | dct hq ha =>
      cases r
      obtain ⟨_, hsys, vs, rv, o, es, ep, h1, h2, h3, _, hp, _⟩ := dk_of I.hok hq
      have hz' : (dictText (PyData.shownKv ds)).length ≤ sizeLine := by simpa only [PyData.shown] using hz
      obtain ⟨⟨as1, r1⟩, ⟨as2, r2⟩, bs, hb, hk⟩ := sw_showsKv I ds _ vs es.toList ha rv hp (by simpa [PyData.showable] using hs) (fun t ht => Nat.le_trans (dictText_mem_le ht) hz')
      have rr := Reads.dict h1 h2.1 h3 r1 r2
      have na : _ ∉ bs := not_mem_of_deeper rr (by simp only [PyData.depth]; omega) hb
      refine ⟨⟨_, rr⟩, _ :: bs, ReadAtMost.cons rr (by simp only [PyData.depth]; omega) hb, ?_⟩
      simp only [PyData.depth, PyData.shown]
      exact ReprK.dict h1 h2.1 h3 hsys na hk
theorem sw_showsAll (I : Inv X pins σ H s) : ∀ (ds : List PyData) (vs : List V) (us : List Value), SwAll X.K H vs ds → Vals vs us → PyData.showableAll ds = true → (∀ t ∈ PyData.shownAll ds, t.length ≤ sizeLine) → ShowsAll X.prog X.w s.heap us ds
  | [], _, _, h, r, _, _ => by
    cases h
    cases r
    exact ⟨⟨_, ReadsAll.nil⟩, [], (fun _ h => nomatch h), by simp only [PyData.shownAll]; exact .nil⟩
  | d :: ds, _, _, h, r, hs, hz => by
    cases h with
    | cons h1 h2 =>
      cases r with
      | cons r1 r2 =>
        have hs' : d.showable = true ∧ PyData.showableAll ds = true := by simpa [PyData.showableAll] using hs
        obtain ⟨⟨a1, q1⟩, b1, g1, k1⟩ := sw_shows I d _ _ h1 r1 hs'.1 (hz _ (by simp only [PyData.shownAll]; exact List.mem_cons_self ..))
        obtain ⟨⟨a2, q2⟩, b2, g2, k2⟩ := sw_showsAll I ds _ _ h2 r2 hs'.2 (fun t ht => hz t (by simp only [PyData.shownAll]; exact List.mem_cons_of_mem _ ht))
        refine ⟨⟨_, ReadsAll.cons q1 q2⟩, b1 ++ b2, ?_, ?_⟩
        · simp only [PyData.depthAll]
          exact (g1.mono (Nat.le_max_left _ _)).append (g2.mono (Nat.le_max_right _ _))
        · simp only [PyData.depthAll, PyData.shownAll]
          exact .cons ((k1.more fun b z => List.mem_append_left _ z).level_le (Nat.le_max_left _ _)) (k2.more_le (fun b z => List.mem_append_right _ z) (Nat.le_max_right _ _))
theorem sw_showsKv (I : Inv X pins σ H s) : ∀ (ds : List (PyData × PyData)) (kvs : List (Key × V)) (vs : List (Key × Value)) (es : List DictEntry), SwKv X.K H kvs ds → KV kvs vs → Pairs (mixKind X.prog X.w) es vs → PyData.showableKv ds = true → (∀ t ∈ PyData.shownKv ds, t.length ≤ sizeLine) →
    (∃ as, ReadsAll s.heap (es.map (·.key)) (ds.map (·.1)) as) ∧ (∃ as, ReadsAll s.heap (es.map (·.val)) (ds.map (·.2)) as) ∧ ∃ bs, ReadAtMost s.heap (PyData.depthKv ds) bs ∧ ReprEntriesK X.prog X.w bs s.heap (PyData.depthKv ds) es (PyData.shownKv ds)
  | [], _, _, _, h, r, p, _, _ => by
    cases h
    cases r
    cases p
    exact ⟨⟨_, ReadsAll.nil⟩, ⟨_, ReadsAll.nil⟩, [], (fun _ h => nomatch h), by simp only [PyData.shownKv]; exact .nil⟩
  | (kd, d) :: ds, _, _, _, h, r, p, hs, hz => by
    cases h with
    | cons h1 h2 =>
      cases r with
      | cons r1 r2 =>
        cases p with
        | cons p1 p2 p3 =>
          rename_i k v kvs q vs e es
          obtain ⟨qk, qv⟩ := q
          obtain ⟨e1, rv⟩ := r1
          dsimp only at e1 p1 p2 rv
          subst e1
          have hs' : ((keyD k).showable = true ∧ d.showable = true) ∧ PyData.showableKv ds = true := by simpa [PyData.showableKv] using hs
          have ht : ((keyD k).shown ++ ": " ++ d.shown).length ≤ sizeLine := hz _ (by simp only [PyData.shownKv]; exact List.mem_cons_self ..)
          have l1 : (keyD k).shown.length ≤ ((keyD k).shown ++ ": " ++ d.shown).length := by simp only [Str.length_append]; omega
          have l2 : d.shown.length ≤ ((keyD k).shown ++ ": " ++ d.shown).length := by simp only [Str.length_append]; omega
          obtain ⟨⟨a0, q0⟩, b0, g0, k0⟩ := key_shows (X := X) (s := s) p1 (Nat.le_trans l1 ht) hs'.1.1
          obtain ⟨⟨a1, q1⟩, b1, g1, k1⟩ := sw_shows I d v e.val h1 (by rw [p2]; exact rv) hs'.1.2 (Nat.le_trans l2 ht)
          obtain ⟨⟨a2, q2⟩, ⟨a3, q3⟩, b2, g2, k2⟩ := sw_showsKv I ds _ _ _ h2 r2 p3 hs'.2 (fun t m => hz t (by simp only [PyData.shownKv]; exact List.mem_cons_of_mem _ m))
          have m0 : (keyD k).depth ≤ max (max (keyD k).depth d.depth) (PyData.depthKv ds) := Nat.le_trans (Nat.le_max_left _ _) (Nat.le_max_left _ _)
          have m1 : d.depth ≤ max (max (keyD k).depth d.depth) (PyData.depthKv ds) := Nat.le_trans (Nat.le_max_right _ _) (Nat.le_max_left _ _)
          have m2 : PyData.depthKv ds ≤ max (max (keyD k).depth d.depth) (PyData.depthKv ds) := Nat.le_max_right _ _
          refine ⟨⟨_, ReadsAll.cons q0 q2⟩, ⟨_, ReadsAll.cons q1 q3⟩, b0 ++ (b1 ++ b2), ?_, ?_⟩
          · simp only [PyData.depthKv]
            exact (g0.mono m0).append ((g1.mono m1).append (g2.mono m2))
          · simp only [PyData.depthKv, PyData.shownKv]
            refine .cons ((k0.more fun b z => List.mem_append_left _ z).level_le m0) ((k1.more fun b z => List.mem_append_right _ (List.mem_append_left _ z)).level_le m1) ?_
            exact more_ent (fun b z => List.mem_append_right _ (List.mem_append_right _ z)) m2 k2
end
theorem sw_by (I : Inv X pins σ H s) {a : Addr} {d : PyData} (h : Sw X.K H (.ref a) d) (hs : d.showable = true) (hz : d.shown.length ≤ sizeLine) : ∃ T idr, ShowsBy X.prog X.w s.heap a d T idr := by
  cases h with
  | lst hq ha =>
    rename_i xs ds
    obtain ⟨its, rv, ⟨o, n, h1, h2, _, h3⟩, _⟩ := I.list hq
    have hz' : (listText (PyData.shownAll ds)).length ≤ sizeLine := by simpa only [PyData.shown] using hz
    obtain ⟨⟨as, hr⟩, bs, hb, hk⟩ := sw_showsAll I ds _ its ha rv (by simpa [PyData.showable] using hs) (fun t ht => Nat.le_trans (listText_mem_le ht) hz')
    have na : a ∉ bs := not_mem_of_deeper (Reads.list h1 h2 h3 hr) (by simp only [PyData.depth]; omega) hb
    refine ⟨"list", "list.__repr__", F.slot_list_repr.toG, F.slot_list_str, F.slot_list_format, fun s' kp => ⟨o, kp _ _ h1, h2⟩, fun A E s' Q gd hu kp hQ => ?_⟩
    simp only [PyData.depth] at hu
    simp only [PyData.shown] at hQ
    cases its with
    | nil =>
      have hr' : ReadsAll s.heap [] ds as := hr
      cases hr'
      simp only [PyData.shownAll, listText_nil] at hQ
      exact call_list_repr_empty ⟨o, kp _ _ h1, h2⟩ (kp _ _ h1) h3 (hQ s'.heap _ _ fun _ _ z => z)
    | cons y l => exact call_list_reprK h1 h2 h3 na (by simpa using hk.length_eq) (fun i z e => hk.item i z (by simpa using e)) gd (fun b _ => Clear.nil b) hu kp hQ hz'
  | tup hq ha =>
    rename_i xs ds
    obtain ⟨its, rv, ⟨o, h1, h2, n, h3⟩, _⟩ := I.tuple hq
    have hz' : (tupleText (PyData.shownAll ds)).length ≤ sizeLine := by simpa only [PyData.shown] using hz
    obtain ⟨⟨as, hr⟩, bs, hb, hk⟩ := sw_showsAll I ds _ its ha rv (by simpa [PyData.showable] using hs) (fun t ht => Nat.le_trans (tupleText_mem_le ht) hz')
    have na : a ∉ bs := not_mem_of_deeper (Reads.tuple h1 h2 h3 hr) (by simp only [PyData.depth]; omega) hb
    refine ⟨"tuple", "tuple.__repr__", F.slot_tuple_repr, F.slot_tuple_str, F.slot_tuple_format, fun s' kp => ⟨o, kp _ _ h1, h2⟩, fun A E s' Q gd hu kp hQ => ?_⟩
    simp only [PyData.depth] at hu
    simp only [PyData.shown] at hQ
    exact call_tuple_reprK h1 h2 h3 na hk gd (fun b _ => Clear.nil b) hu kp hQ hz'
  | dct hq ha =>
    rename_i kvs ds
    obtain ⟨_, hsys, vs, rv, o, es, ep, h1, h2, h3, _, hp, _⟩ := dk_of I.hok hq
    have hz' : (dictText (PyData.shownKv ds)).length ≤ sizeLine := by simpa only [PyData.shown] using hz
    obtain ⟨⟨as1, r1⟩, ⟨as2, r2⟩, bs, hb, hk⟩ := sw_showsKv I ds _ vs es.toList ha rv hp (by simpa [PyData.showable] using hs) (fun t ht => Nat.le_trans (dictText_mem_le ht) hz')
    have na : a ∉ bs := not_mem_of_deeper (Reads.dict h1 h2.1 h3 r1 r2) (by simp only [PyData.depth]; omega) hb
    refine ⟨"dict", "dict.__repr__", F.slot_dict_repr, F.slot_dict_str, F.slot_dict_format, fun s' kp => ⟨o, kp _ _ h1, h2.1⟩, fun A E s' Q gd hu kp hQ => ?_⟩
    simp only [PyData.depth] at hu
    simp only [PyData.shown] at hQ
    exact call_dict_reprK h1 h2.1 h3 hsys na hk gd (fun b _ => Clear.nil b) hu kp hQ hz'
/-- repr(x), no container being shown yet -/
def rRepr (K : PySem.W.Frag) : List V → Hp → VK → Prop := fun xs H Q => ∃ v d, xs = [v] ∧ Sw K H v d ∧ d.showable = true ∧ d.shown.length ≤ sizeLine ∧ d.depth ≤ 60 ∧ Q (.str d.shown) H
theorem call_repr (gd : X.A.guards = some []) (hu : X.A.units + 64 < cLine) : CallR X (.builtin "repr") (rRepr X.K) := by
  intro pins s σ H xs us Q I r h
  obtain ⟨v, d, rfl, hsw, hs, hz, hd, q⟩ := h
  obtain ⟨u, rfl, rv⟩ := vals1 r
  have fin : ∀ (h' : Heap) (tk : Nat) (t : Tok), (∀ b o, s.heap.get? b = some o → h'.get? b = some o) → EP X pins σ Q (.str d.shown t) { s with heap := h', toks := tk } := fun h' tk t kp => ⟨.str d.shown, H, I.kept kp, ⟨_, rfl⟩, q⟩
  cases v with
  | non =>
    cases hsw
    cases rv
    simp only [PyData.shown] at fin
    exact PySem.P.repr_of_none (fin _ _ _ fun _ _ z => z)
  | bl b =>
    cases hsw
    cases rv
    simp only [PyData.shown] at fin
    exact PySem.P.repr_of_bool (fin _ _ _ fun _ _ z => z)
  | int i =>
    cases hsw
    obtain ⟨t, rfl⟩ := rv
    simp only [PyData.shown] at fin
    exact PySem.P.repr_of_int (by simpa [PyData.showable] using hs) (fin _ _ _ fun _ _ z => z)
  | str x =>
    cases hsw
    obtain ⟨t, rfl⟩ := rv
    simp only [PyData.shown] at fin hz
    exact PySem.P.repr_of_str (fin _ _ _ fun _ _ z => z) hz
  | ref a =>
    cases rv
    obtain ⟨T, idr, S⟩ := sw_by I hsw hs hz
    exact call_repr_slot (by omega) (S.typeIs s fun _ _ z => z) S.slotRepr (S.call X.A.in1 _ s _ gd (by show X.A.units + 1 + d.depth < cLine; omega) (fun _ _ z => z) fun h' u tk kp => ⟨_, _, rfl, fin h' tk u kp⟩)
  | byt b => cases hsw
  | flt b => cases hsw
  | ty n => cases hsw
end
end Rep
/-! ### defs that ask who else is being shown (repr): promises where no container is being shown yet -/
namespace Gu
open PySem PySem.Spec PyProof.Rows L2
structure FnG (P : Program) (w : World) (K : PySem.W.Frag) (mg : Str → Option Value) (base : Heap) (k : Nat) (f : Addr) (fd : FuncData) (ps : List Str) (sp : Sp) : Prop where
  len : ∀ vs H Q E, sp vs H Q E → vs.length = ps.length
  run : ∀ (A : Around) (outer : List Env) (s : Shared) (H : Hp) (args : Args) (us : List Value) (vs : List V) (Q : VK) (E : XK), A.guards = some [] → Room k A → Env0 P w K mg base A outer s H → BindsTo s fd args (ps.zip us) → Vals vs us → sp vs H Q E →
    codeAny (model P w) A (.call (.ref f) args) (CR CX0 outer P w H s Q E) s
theorem FnG.of {P : Program} {w : World} {K : PySem.W.Frag} {mg : Str → Option Value} {base : Heap} {k : Nat} {f : Addr} {fd : FuncData} {ps : List Str} {sp : Sp} (F : FnOk P w K mg base CX0 k f fd ps sp) : FnG P w K mg base k f fd ps sp :=
  ⟨F.len, fun A outer s H args us vs Q E _ => F.run A outer s H args us vs Q E⟩
theorem FnG.mono {P : Program} {w : World} {K : PySem.W.Frag} {mg : Str → Option Value} {base : Heap} {j k : Nat} {f : Addr} {fd : FuncData} {ps : List Str} {sp : Sp} (F : FnG P w K mg base j f fd ps sp) (h : j ≤ k) : FnG P w K mg base k f fd ps sp :=
  ⟨F.len, fun A outer s H args us vs Q E g hr => F.run A outer s H args us vs Q E g (hr.mono h)⟩
section
variable {P : Program} {w : World} {K : PySem.W.Frag} {mg : Str → Option Value} {base : Heap}
theorem fng_of {k : Nat} {f : Addr} {nm qual : Str} {params : Arguments} {body : List Stmt} {scope : Scope} {dV kV doc pm cdv ct oc : Value} {an od : Option Addr} {osl : Array (Option Value)} {N ps : List Str} {sp : Sp}
    (lk : K.lookup f = some ⟨oc, od, .func (PySem.W.fnOf nm qual params body scope dV kV doc pm an cdv ct), osl⟩) (cr : PySem.W.codeIn K cdv qual = true) (S : FnScope N ps scope) (len : ∀ vs H Q E, sp vs H Q E → vs.length = ps.length)
    (bd : ∀ (A : Around) (outer : List Env) (s : Shared) (H : Hp) (vs : List V) (Q : VK) (E : XK), A.guards = some [] → Room k (A.deeper (envOfC qual scope s.heap.objs.size f cdv)) → sp vs H Q E →
      ∃ t, PSs (cxOf CX0 P w K mg base N qual scope f cdv A outer s H E) body t ∧ t { nx := fun _ H' => Q .non H', rt := Q } (start N vs) H) :
    FnG P w K mg base (k + 1) f (PySem.W.fnOf nm qual params body scope dV kV doc pm an cdv ct) ps sp := by
  refine ⟨len, fun A outer s H args us vs Q E gd hr e0 hb rv hsp => ?_⟩
  have hl := len _ _ _ _ hsp
  have kin : K.In s.heap := e0.mod.kin.keeps fun b o z => (e0.bs b o z).1
  have lim : s.heap.NoLimit := e0.mod.nolimit.keeps fun b o z => (e0.bs b o z).1
  have kinds : ∀ y ∈ ps.zip us, scope.names.lookup y.1 = some .local ∨ (scope.names.lookup y.1 = some .cell ∧ ((cellsFrom (s.heap.objs.size + 1) scope.names []).lookup y.1).isSome = true) := by
    rintro ⟨n, v⟩ hy
    rcases S.par n (List.of_mem_zip hy).1 with q | q
    · exact .inl q
    · exact .inr ⟨q, PySem.W.cellsFrom_some _ _ _ (.inl q)⟩
  refine codeAny_call_function hr.depth (kin _ _ lk) rfl S.co S.gen rfl (PySem.W.codeRec_of kin cr) (hb _ _ _ _ ?_)
  refine wpAny_newFunctionEnv_cells S.kind kinds fun env he s1 ic => ?_
  subst he
  refine ⟨lim.keeps ic.toInCall.keep, codeAny_func ?_⟩
  obtain ⟨t, ht, hq⟩ := bd A outer s H vs Q E gd (hr.deeper _) hsp
  have I : Inv (cxOf CX0 P w K mg base N qual scope f cdv A outer s H E) [] (start N vs) H s1 := inv_start S hr.hd e0 hl rv ic
  refine wpAny_mono (ht.run [] s1 (start N vs) H _ I hq) (fun fl s' hs => ?_) fun e s' hs => hs
  cases fl with
  | ret u =>
    obtain ⟨v, σ', H', J, r', q⟩ := hs
    exact ⟨v, H', J.os, J.bare, J.base, J.hok, r', q⟩
  | next =>
    obtain ⟨σ', H', J, q⟩ := hs
    exact ⟨V.non, H', J.os, J.bare, J.base, J.hok, rfl, q⟩
  | brk => exact False.elim hs.choose_spec.choose_spec.2
  | cont => exact False.elim hs.choose_spec.choose_spec.2
theorem fun_okG {x qual : Str} {st : Stmt} {f : Addr} {fd : FuncData} {N ps : List Str} {k : Nat} {sp : Sp} (F : Fun K x qual st f fd) (S : FnScope N ps (defScope st)) (len : ∀ vs H Q E, sp vs H Q E → vs.length = ps.length)
    (bd : ∀ (cdv : Value) (A : Around) (outer : List Env) (s : Shared) (H : Hp) (vs : List V) (Q : VK) (E : XK), A.guards = some [] → Room k (A.deeper (envOfC qual (defScope st) s.heap.objs.size f cdv)) → sp vs H Q E →
      ∃ t, PSs (cxOf CX0 P w K mg base N qual (defScope st) f cdv A outer s H E).nox (defBody st) t ∧ t { nx := fun _ H' => Q .non H', rt := Q } (start N vs) H) : FnG P w K mg base (k + 1) f fd ps sp := by
  obtain ⟨oc, od, kV, doc, pm, an, cdv, ct, osl, rfl, lk, cr⟩ := F.ex
  refine fng_of lk cr S len fun A outer s H vs Q E gd hr hsp => ?_
  obtain ⟨t, h, q⟩ := bd cdv A outer s H vs Q E gd hr hsp
  exact ⟨t, h.nox, q⟩
end
section
variable {X : Cx} {k : Nat} {f : Addr} {fd : FuncData} {ps : List Str} {sp : Sp} {dvs : List V} {ds : List Value} {E : XK} {x : Str} {p pos : Pos} {e : Expr} {es : List Expr} {t : TA}
theorem pe_callG (F : FnG X.prog X.w X.K X.mg X.base k f fd ps sp) (gd : X.A.guards = some []) (hr : Room k X.A) (hg : Gl X x) (hm : X.mg x = some (.ref f)) (hk : PySem.W.keepIn X.K (.ref f) = true) (hb : Binds X.K fd ps ds) (hd : Vals dvs ds)
    (ha : PA X (e :: es) t) (hdb : (x == ("__debug__" : Str)) = false := by decide) (he : starEach (e :: es) X.env = (false, eval e X.env) :: starEach es X.env := by rfl) (hpl : (backTo pos (starEach es X.env)).any (·.1) = false := by rfl) :
    PE X (.Call (.Name x p) (e :: es) [] pos) (tCall sp dvs E0 t) := by
  refine ⟨fun pins s σ H Q I h => ?_⟩
  refine wpAny_Call_Name_kw (ld_glob I hg hm ?_ hdb)
  refine PySem.W.callWith_K (h₀ := X.base) I.ok.mod.kin hk (thn (ha.run pos pins s σ H _ I h) fun us s1 ⟨vs, H1, I1, rv, q⟩ => ⟨I1.kIn, ?_⟩) he hpl
  show wpAny _ _ (call (.ref f) us) _ _ _
  have r2 : Vals (vs ++ dvs) (us ++ ds) := rv.append hd
  have hl : (us ++ ds).length = ps.length := by
    rw [← r2.length]
    exact F.len _ _ _ _ q
  refine wpAny_call (codeAny_mono (F.run X.A X.stack s1 H1 ⟨us, []⟩ (us ++ ds) (vs ++ dvs) Q E0 gd hr I1.env0 (hb s1 us I1.kIn hl) r2 q) fun r s' hq => ?_)
  cases r with
  | error er => exact False.elim hq
  | ok fl =>
    cases fl with
    | ret u => exact I1.after hq
    | next => exact False.elim hq
    | brk => exact False.elim hq
    | cont => exact False.elim hq
end
theorem law_callG {P : Program} {w : World} {K : PySem.W.Frag} {mg mb : Str → Option Value} {k : Nat} {fa a : Addr} {fd : FuncData} {x : Str} {sp : Sp} {s1 : Shared} {vs : List Value} {ns : List Int} (kin : K.In s1.heap) (hns : s1.heap.Ns mainGlobals mg)
    (hb : s1.heap.Ns builtinsNs mb) (hbb : ∀ x : Str, x ≠ "__name__" → mb x = bootBuiltins x) (hlim : s1.heap.NoLimit) (hg : s1.gens = #[]) (ha : s1.heap.get? a = some { cls := .type "list", data := .seq vs.toArray }) (hi : IntsAre vs ns) (hl : ns.length ≤ sizeLine)
    (hr : Room k callerA) (F : ∀ base : Heap, K.In base → base.Ns mainGlobals mg → FnG P w K mg base k fa fd [x] sp) (hbind : ∀ (s : Shared) (u : Value), BindsTo s fd ⟨[u], []⟩ [(x, u)])
    (hsp : ∀ H : Hp, Only H → SqL K H a (ns.map V.int) → sp [.ref a] H (fun v _ => v = .bl true) fun _ _ _ => False) :
    codeAny (model P w) callerA (.call (.ref fa) ⟨[.ref a], []⟩) (fun r s' => r = .ok (.ret (.bool true)) ∧ OldK s1.heap s'.heap ∧ s'.os = s1.os ∧ AllBare s'.gens) s1 := by
  have rv := vals_ints hi
  have lv := hi.length
  have main : ∀ H : Hp, Only H → SqL K H a (ns.map V.int) → HOk P w H s1.heap → (∀ b, H b ≠ none → b = a) → (H a ≠ none → K.lookup a = none) →
      codeAny (model P w) callerA (.call (.ref fa) ⟨[.ref a], []⟩) (fun r s' => r = .ok (.ret (.bool true)) ∧ OldK s1.heap s'.heap ∧ s'.os = s1.os ∧ AllBare s'.gens) s1 := by
    intro H hO hS hok hA hK
    have keep1 : ∀ {b : Addr} {o : Obj} {es : Array DictEntry} {ep : Nat}, s1.heap.get? b = some o → o.data = .dict es ep → H b = none := by
      intro b o es ep z d
      cases q : H b with
      | none => rfl
      | some u =>
        obtain rfl : b = a := hA b (by rw [q]; simp)
        rw [ha] at z
        cases z
        have d' : Data.seq vs.toArray _ = Data.dict es ep := d
        cases d'
    have nsK : ∀ {b : Addr} {m : Str → Option Value}, s1.heap.Ns b m → (hidT s1.heap H).Ns b m := fun {b m} ⟨o, es, ep, z, d, r⟩ => ⟨o, es, ep, hidT_get z (keep1 z d), d, r⟩
    have kb : K.In (hidT s1.heap H) := by
      intro b o z
      refine hidT_get (kin b o z) ?_
      cases q : H b with
      | none => rfl
      | some u =>
        obtain rfl : b = a := hA b (by rw [q]; simp)
        rw [hK (by rw [q]; simp)] at z
        cases z
    have hM : Mod K mg (hidT s1.heap H) := ⟨kb, nsK hns, ⟨mb, nsK hb, hbb⟩, let ⟨mc, h1, h2⟩ := hlim; ⟨mc, nsK h1, h2⟩⟩
    have e0 : Env0 P w K mg (hidT s1.heap H) callerA [] s1 H := ⟨rfl, hM, fun b o z => of_hidT z, Nat.le_of_eq (hidT_size _ _), trivial, fun b z => absurd (show b ∈ ([] : List Addr) from z) (by simp), hok, .of_eq hg⟩
    refine codeAny_mono ((F _ kb (nsK hns)).run callerA [] s1 H ⟨[.ref a], []⟩ [.ref a] [.ref a] _ _ rfl hr e0 (hbind s1 (.ref a)) (.cons rfl .nil) (hsp H hO hS)) fun r s' h => ?_
    cases r with
    | error er => exact False.elim h
    | ok fl =>
      cases fl with
      | next => exact False.elim h
      | brk => exact False.elim h
      | cont => exact False.elim h
      | ret u =>
        obtain ⟨v, H', os, bare, un, hok', r', q⟩ := h
        obtain rfl : v = .bl true := q
        obtain rfl : u = Value.bool true := r'
        refine ⟨rfl, OldK.of_keep fun b o z => ?_, os, bare⟩
        cases q : H b with
        | none => exact un.keep b o z q (fun y => absurd (show b ∈ ([] : List Addr) from y) (by simp)) (by simp)
        | some u =>
          rcases hO b with y | ⟨ob, xs, y⟩
          · rw [q] at y
            cases y
          · have y2 := un.frzs b ob _ y
            obtain ⟨e1, _⟩ := hok b _ y
            obtain ⟨e2, _⟩ := hok' b _ y2
            rw [z] at e1
            cases e1
            exact e2
  cases hk : K.lookup a with
  | some o =>
    have z := kin a o hk
    rw [ha] at z
    cases z
    exact main (fun _ => none) (fun _ => .inl rfl) (.inr ⟨_, vs.toArray, _, hk, rfl, rfl, rfl, by rw [List.size_toArray, lv]; exact hl, by simpa using rv⟩) (fun b u z => by cases (show (none : Option HO) = some u from z)) (fun b z => absurd rfl z) fun z => absurd rfl z
  | none =>
    refine main (fun b => if b = a then some (.frz { cls := .type "list", data := .seq vs.toArray } (.lst (ns.map V.int))) else none) (fun b => ?_) (.inl (.inr ⟨{ cls := .type "list", data := .seq vs.toArray }, if_pos rfl⟩)) (fun b u z => ?_) (fun b z => ?_) fun _ => hk
    · by_cases hq : b = a
      · exact .inr ⟨_, _, if_pos hq⟩
      · exact .inl (if_neg hq)
    · by_cases hq : b = a
      · cases (if_pos hq).symm.trans z
        subst hq
        exact ⟨ha, by rw [List.length_map]; exact hl, vs, _, rv, ha⟩
      · cases (if_neg hq).symm.trans z
    · by_cases hq : b = a
      · exact hq
      · exact absurd (if_neg hq) z
theorem walkG {l : PySem.W.OpenLaw} {n k : Nat} {q : Program} {loose : List Str} {XP : (Str → Option Value) → Heap → Prop} {YP : World → Heap → Prop} {d : DefRec} {K : Params → PySem.W.Frag} {sp : PySem.W.Frag → Sp} {x : Str}
    (hn : l.most = some n) (hn2 : n ≤ sizeLine) (hdf : d.params.defaults = []) (hr : Room k callerA) (hY : ∀ (w : World) (h : Heap), YP w h → (K w.params).In h)
    (F : ∀ (w : World) (mg : Str → Option Value) (fa : Addr) (h : Heap), (K w.params).In h → h.Ns mainGlobals mg → mg d.name = some (.ref fa) →
      ∃ fd : FuncData, (∀ (s : Shared) (u : Value), BindsTo s fd ⟨[u], []⟩ [(x, u)]) ∧ ∀ base : Heap, (K w.params).In base → base.Ns mainGlobals mg → FnG l.prog w (K w.params) mg base k fa fd [x] (sp (K w.params)))
    (hsp : ∀ (K : PySem.W.Frag) (H : Hp) (a : Addr) (ns : List Int), ns.length ≤ n → SqL K H a (ns.map V.int) → sp K [.ref a] H (fun v _ => v = .bl true) fun _ _ _ => False) :
    PySem.W.WalkO q loose XP YP l.row.toRowW d [] (fun f vs => PySem.call f vs) := by
  refine Att.attach_call hn hdf fun w s₀ s1 mg mb fa o pm cd doc a vs ns G Y ho hd hcd hmg hobj hints hlen hg => ?_
  have kin := hY w _ Y
  obtain ⟨fd, hb, hF⟩ := F w mg fa _ kin G.T.g hmg
  exact law_callG kin G.T.g G.T.b G.T.builtins G.T.nolimit hg hobj hints (Nat.le_trans hlen hn2) hr hF hb fun H _ hS => hsp _ H a ns hlen hS
end Gu
/-! ### data of any kind: a text and a dict are not equal -/
namespace Dat
open PySem PySem.Spec PyProof.Rows PySem.SeqAt
open AutoSeq1 (wpAny_loadPart')
open MeetsSeq MeetsSeq2 MeetsSeq3 SeqRoads2
theorem dict_declines_str (a : Addr) (es : Array DictEntry) (ep : Nat) (dd : Option Addr) (sl : Array (Option Value)) (b : Str) (u : Tok) :
    Meets (Builtin.«dict.__eq__» ⟨[.ref a, .str b u], []⟩) (fun _ R s => s.heap.get? a = some { cls := .type "dict", dict := dd, data := .dict es ep, slots := sl } ∧ R (.ok (.ret .notImplemented)) s) :=
  .of_wp fun prog w A R s h => by
    obtain ⟨hp, g, d, tk, os⟩ := s
    obtain ⟨ha, h⟩ := h
    have f1 := F.sub_str_dict
    wp_walk using wpAny_loadPart' ha
    exact ⟨_, rfl, h⟩
theorem str_declines_dict (a : Addr) (es : Array DictEntry) (ep : Nat) (dd : Option Addr) (sl : Array (Option Value)) (b : Str) (u : Tok) :
    Meets (Builtin.«str.__eq__» ⟨[.str b u, .ref a], []⟩) (fun _ R s => s.heap.get? a = some { cls := .type "dict", dict := dd, data := .dict es ep, slots := sl } ∧ R (.ok (.ret .notImplemented)) s) :=
  .of_wp fun prog w A R s h => by
    obtain ⟨hp, g, d, tk, os⟩ := s
    obtain ⟨ha, h⟩ := h
    wp_walk using wpAny_loadPart' ha, wpAny_load ha
    exact ⟨_, rfl, h⟩
theorem rc_str_dict {A : Around} {s : Shared} {a : Addr} {o : Obj} {es : Array DictEntry} {ep : Nat} (b : Str) (u : Tok) (ho : s.heap.get? a = some o) (hc : o.cls = .type "dict") (hd : o.data = .dict es ep) (hu : A.units < cLine) : RcAt A s (.str b u) (.ref a) false := fun prog w E Q h => by
  obtain ⟨cls, dd, data, sl⟩ := o
  dsimp only at hc hd
  subst hc hd
  exact rc_eq_decline_or (k := false) (typeIs_str s b u) ⟨_, ho, rfl⟩ (by decide) F.sub_dict_str F.slot_str_eq F.slot_dict_eq_refl
    (fun _ hq => call_meets F.slot_str_eq (typeIs_str s b u) F.entry_str_eq (F.args_str_eq_2 _ _) (str_declines_dict a es ep dd sl b u) ⟨ho, hq⟩)
    (fun _ hq => call_meets F.slot_dict_eq_refl ⟨_, ho, rfl⟩ F.entry_dict_eq (F.args_dict_eq_2 _ _) (dict_declines_str a es ep dd sl b u) ⟨ho, hq⟩)
    (fun _ hq => wpAny_of_eq (rfl : isSame (.str b u) (.ref a) = pure false) hq) (.inr hu) h
theorem at_str_dict {A : Around} {s : Shared} {a : Addr} {o : Obj} {es : Array DictEntry} {ep : Nat} (b : Str) (u : Tok) (ho : s.heap.get? a = some o) (hc : o.cls = .type "dict") (hd : o.data = .dict es ep) (hu : A.units < cLine) : EqAt A s (.str b u) (.ref a) false := fun prog w E Q h => by
  unfold eqBool
  refine wpAny_holding (wpAny_ite_split (fun z => absurd (eq_of_beq z) nofun) fun _ => ?_)
  exact wpAny_bind (rc_str_dict b u ho hc hd hu prog w E _ (wpAny_truthy_bool h))
end Dat
/-! ### data of any kind: what kind, whether among texts, whether a name -/
namespace Dat
open PySem PySem.Spec PyProof.Rows L2 Evl Rep
def tyD : PyData → String
  | .none => "NoneType"
  | .bool _ => "bool"
  | .int _ => "int"
  | .str _ => "str"
  | .list _ => "list"
  | .tuple _ => "tuple"
  | .dict _ => "dict"
theorem sw_ty {K : PySem.W.Frag} {H : Hp} {v : V} {d : PyData} (h : Sw K H v d) : TyX K H v (.type (tyD d)) := by
  cases h with
  | non => exact .base .non
  | bl b => exact .base (.bl b)
  | int i => exact .base (.int i)
  | str x => exact .base (.str x)
  | lst h _ =>
    rcases h with (h | ⟨o, h⟩) | ⟨o, its, n, h1, h2, _⟩
    · exact .base (.lst h)
    · exact .base (.frz h)
    · exact .kList h1 h2
  | tup h _ =>
    rcases h with (h | ⟨o, h⟩) | ⟨o, its, n, h1, h2, _⟩
    · exact .base (.tup h)
    · exact .fTuple h
    · exact .kTuple h1 h2
  | dct h _ => exact .base (.dK h)
def isStr : PyData → Bool
  | .str _ => true
  | _ => false
def isList : PyData → Bool
  | .list _ => true
  | _ => false
def isTup : PyData → Bool
  | .tuple _ => true
  | _ => false
theorem kit_str (K : PySem.W.Frag) (d : PyData) : PySem.W.kitOne K (.type (tyD d)) (.type "str") = some (isStr d) := by
  cases d
  · exact kit_ty (a := "NoneType") (b := "str") (r := false) (by decide +kernel)
  · exact kit_ty (a := "bool") (b := "str") (r := false) (by decide +kernel)
  · exact kit_ty (a := "int") (b := "str") (r := false) (by decide +kernel)
  · exact kit_ty (a := "str") (b := "str") (r := true) (by decide +kernel)
  · exact kit_ty (a := "list") (b := "str") (r := false) (by decide +kernel)
  · exact kit_ty (a := "tuple") (b := "str") (r := false) (by decide +kernel)
  · exact kit_ty (a := "dict") (b := "str") (r := false) (by decide +kernel)
theorem kit_list (K : PySem.W.Frag) (d : PyData) : PySem.W.kitOne K (.type (tyD d)) (.type "list") = some (isList d) := by
  cases d
  · exact kit_ty (a := "NoneType") (b := "list") (r := false) (by decide +kernel)
  · exact kit_ty (a := "bool") (b := "list") (r := false) (by decide +kernel)
  · exact kit_ty (a := "int") (b := "list") (r := false) (by decide +kernel)
  · exact kit_ty (a := "str") (b := "list") (r := false) (by decide +kernel)
  · exact kit_ty (a := "list") (b := "list") (r := true) (by decide +kernel)
  · exact kit_ty (a := "tuple") (b := "list") (r := false) (by decide +kernel)
  · exact kit_ty (a := "dict") (b := "list") (r := false) (by decide +kernel)
theorem kit_tup (K : PySem.W.Frag) (d : PyData) : PySem.W.kitOne K (.type (tyD d)) (.type "tuple") = some (isTup d) := by
  cases d
  · exact kit_ty (a := "NoneType") (b := "tuple") (r := false) (by decide +kernel)
  · exact kit_ty (a := "bool") (b := "tuple") (r := false) (by decide +kernel)
  · exact kit_ty (a := "int") (b := "tuple") (r := false) (by decide +kernel)
  · exact kit_ty (a := "str") (b := "tuple") (r := false) (by decide +kernel)
  · exact kit_ty (a := "list") (b := "tuple") (r := false) (by decide +kernel)
  · exact kit_ty (a := "tuple") (b := "tuple") (r := true) (by decide +kernel)
  · exact kit_ty (a := "dict") (b := "tuple") (r := false) (by decide +kernel)
theorem ev_isi {K : PySem.W.Frag} {σ : L2.St} {H : Hp} {te : TE} {v : V} {d : PyData} {T : String} {b : Bool} (he : Ev te σ H v) (h : Sw K H v d) (k : PySem.W.kitOne K (.type (tyD d)) (.type T) = some b) :
    Ev (tCB (rIsi K) (tCons te (tCons (tC (.ty T)) tNil))) σ H (.bl b) := fun H1 e Q q =>
  he H1 e _ fun H2 e2 => ⟨v, .ty T, .type (tyD d), .type T, b, rfl, .ty T, sw_ty (Sw.ex (e.trans e2) d v h), k, q H2 e2⟩
/-! in -/
def sIn (l : List Str) : PyData → Bool
  | .str s => decide (s ∈ l)
  | _ => false
def rInS (K : PySem.W.Frag) : R2 := fun x y H Q => ∃ d l a, Sw K H x d ∧ y = .ref a ∧ SqL K H a (l.map V.str) ∧ Q (.bl (sIn l d)) H
def isS (l : Str) : Value → Bool
  | .str b _ => b == l
  | _ => false
theorem any_strs {l : List Str} : ∀ {us : List Value} {x : Str}, Vals (l.map V.str) us → us.any (isS x) = decide (x ∈ l) := by
  induction l with
  | nil => intro us x r; cases r; rfl
  | cons y l ih =>
    intro us x r
    cases r with
    | cons r1 r2 =>
      obtain ⟨t, rfl⟩ := r1
      rw [List.any_cons, ih r2]
      show ((y == x) || _) = _
      by_cases e : y = x
      · subst e
        simp
      · have e' : ¬ x = y := fun z => e z.symm
        simp [e, e']
theorem vals_strs {l : List Str} : ∀ {us : List Value}, Vals (l.map V.str) us → ∀ u ∈ us, ∃ b t, u = .str b t := by
  induction l with
  | nil => intro us r u hu; cases r; cases hu
  | cons y l ih =>
    intro us r u hu
    cases r with
    | cons r1 r2 =>
      cases hu with
      | head => obtain ⟨t, rfl⟩ := r1; exact ⟨_, _, rfl⟩
      | tail _ hu => exact ih r2 u hu
theorem op_inS {X : Cx} (hu : X.A.units + 65 < cLine) : OpR X (compareOp .In) (rInS X.K) := by
  intro pins s σ H x y v u Q I rx ry h
  obtain ⟨d, l, a, hd, rfl, hl, q⟩ := h
  obtain rfl : u = .ref a := ry
  obtain ⟨its, rv, ht, _⟩ := I.list hl
  have hu1 : X.A.in1.units < cLine := by show X.A.units + 1 < cLine; omega
  have hst := vals_strs rv
  have fin : ∀ e : Value → Bool, (∀ y ∈ its, SeqAt.EqAt X.A.in1 s y v (e y)) → its.any e = sIn l d → wpAny (model X.prog X.w) X.A (compareOp .In v (.ref a)) (EP X pins σ Q) X.xe s := fun e he hb =>
    SeqAt.in_listAt (items := its.toArray) e ht.isList (fun y hy => he y (by simpa using hy)) (by
      have : its.toArray.any e = its.any e := by simp
      rw [this, hb]
      exact ⟨.bl _, H, I, rfl, q⟩)
  have no : sIn l d = false → (∀ b t, SeqAt.EqAt X.A.in1 s (.str b t) v false) → wpAny (model X.prog X.w) X.A (compareOp .In v (.ref a)) (EP X pins σ Q) X.xe s := fun h0 h1 =>
    fin (fun _ => false) (fun y hy => by obtain ⟨b, t, rfl⟩ := hst y hy; exact h1 b t) (by rw [h0]; simp)
  cases hd with
  | non => cases rx; exact no rfl fun b t => SeqAt.EqAt.str_none b t
  | bl y => cases rx; exact no rfl fun b t => SeqAt.EqAt.str_bool b t y
  | int i => obtain ⟨t0, rfl⟩ := rx; exact no rfl fun b t => SeqAt.EqAt.str_int b t i t0
  | str z =>
    obtain ⟨t0, rfl⟩ := rx
    refine fin (isS z) (fun y hy => ?_) (any_strs rv)
    obtain ⟨b, t, rfl⟩ := hst y hy
    exact SeqAt.EqAt.str_str b t z t0
  | lst hs _ =>
    cases rx
    obtain ⟨its2, _, ht2, _⟩ := I.list hs
    exact no rfl fun b t => SeqAt.EqAt.str_list b t ht2.isList hu1
  | tup hs _ =>
    cases rx
    obtain ⟨its2, _, ht2, _⟩ := I.tuple hs
    exact no rfl fun b t => SeqAt.EqAt.str_tuple b t ht2 hu1
  | dct hs _ =>
    cases rx
    obtain ⟨_, _, vs, rv2, o, es, ep, h1, h2, h3, _⟩ := dk_of I.hok hs
    exact no rfl fun b t => at_str_dict b t h1 h2.1 h3 hu1
theorem ev_in {K : PySem.W.Frag} {σ : L2.St} {H : Hp} {ta tb : TE} {x : V} {d : PyData} {l : List Str} {a : Addr} (ha : Ev ta σ H x) (hb : Ev tb σ H (.ref a)) (hx : Sw K H x d) (hl : SqL K H a (l.map V.str)) : Ev (tOp (rInS K) ta tb) σ H (.bl (sIn l d)) := fun H1 e Q q =>
  ha H1 e _ fun H2 e2 => hb H2 (e.trans e2) _ fun H3 e3 => ⟨d, l, a, Sw.ex ((e.trans e2).trans e3) d x hx, rfl, ex_l ((e.trans e2).trans e3) hl, q H3 (e2.trans e3)⟩
end Dat
/-! ### is_name -/
namespace Nm
open PySem PySem.Spec PyProof.Rows L2 Evl Gen Rep Dat
/-- the built-in names that the program speaks of -/
structure Bt (mg : Str → Option Value) : Prop where
  isi : mg "isinstance" = none
  str : mg "str" = none
  list : mg "list" = none
  tuple : mg "tuple" = none
  len : mg "len" = none
  all : mg "all" = none
  enum : mg "enumerate" = none
  sorted : mg "sorted" = none
  set : mg "set" = none
  repr : mg "repr" = none
  range : mg "range" = none
/-- a small letter -/
def low (c : Nat) : Bool := decide (97 ≤ c) && decide (c ≤ 122)
def nmS (z : Str) : Bool := decide (1 ≤ z.length) && decide (z.length ≤ 8) && z.cps.toList.all low
def isNm : PyData → Bool
  | .str z => nmS z
  | _ => false
/-- a text of it, if it is one, is no longer than that -/
def Fit (d : PyData) : Prop := ∀ z, d = .str z → z.length ≤ 40000
/-- comprehensions over a text -/
theorem el_lcS {σ : L2.St} {H : Hp} {tl te : TE} {t : TT} {z : Str} {j : Nat} {vs : List Nat} (f : Nat → Bool) (v : Nat → V) (h : Ev tl σ H (.str z)) (hz : z.length ≤ 40000) (hw : ∀ x, wipe ((wipe σ vs).set j (some x)) vs = wipe σ vs)
    (ht : ∀ (i c : Nat) H1, Ex H H1 → z.cps[i]? = some c → EvT t ((wipe σ vs).set j (some (.str ⟨#[c]⟩))) H1 (f i)) (he : ∀ (i c : Nat) H1, Ex H H1 → z.cps[i]? = some c → f i = true → Ev te ((wipe σ vs).set j (some (.str ⟨#[c]⟩))) H1 (v i)) :
    EvL (tLc (iStr tl) (gName j) t te vs) σ H (given z.length f v) := fun H0 e Q q => h H0 e _ fun H1 e1 => ⟨z, rfl, fun Dl hD =>
  lc_it (walk_str (z := z)) (Cw H1 f v Dl) ⟨hD, Ex.new hD, upd_same⟩ (fun _ _ _ _ => trivial) (fun i x H' H'' hi p y => by
    obtain ⟨rfl, c, hc, rfl⟩ := y
    have hi' : i < z.length := hi
    exact ⟨hw _, cw_turn p (by omega) (ht i c H1 (e.trans e1) hc) (fun hf => he i c H1 (e.trans e1) hc hf)⟩) (fun H' p => q Dl H' (fresh_back e1 p.1) (e1.trans p.2.1) p.2.2)⟩
/-- a call on values whose one argument is a new list -/
theorem ev_cbL {r : List V → Hp → VK → Prop} {te : TE} {σ : L2.St} {H : Hp} {xs : List V} {z : V} (h : EvL te σ H xs) (hr : ∀ p H1, H1 p = some (.lst xs) → Ex H H1 → ∀ Q : VK, Q z H1 → r [.ref p] H1 Q) : Ev (tCB r (tCons te tNil)) σ H z := fun H1 e Q q =>
  h H1 e _ fun p H2 _ e2 hp => hr p H2 hp (e.trans e2) Q (q H2 e2)
theorem rv_le {H : Hp} {i j : Int} : RV (rI0 fun i j => .bl (decide (i ≤ j))) (.int i) (.int j) H (.bl (decide (i ≤ j))) := rv_I0
theorem ev_chain {r r' : R2} {ta tb tc : TE} {σ : L2.St} {H : Hp} {x y z : V} {a b : Bool} (ha : Ev ta σ H x) (hb : Ev tb σ H y) (hc : Ev tc σ H z) (h1 : RV r x y H (.bl a)) (h2 : RV r' y z H (.bl b)) : Ev (tChain r r' ta tb tc) σ H (.bl (a && b)) := fun H1 e Q q =>
  ha H1 e _ fun H2 e2 => hb H2 (e.trans e2) _ fun H3 e3 => h1 H3 ((e.trans e2).trans e3) _ fun H4 e4 => ⟨a, rfl, by
    cases a with
    | true =>
      show tc σ H4 _
      exact hc H4 (((e.trans e2).trans e3).trans e4) _ fun H5 e5 => h2 H5 ((((e.trans e2).trans e3).trans e4).trans e5) _ fun H6 e6 => q H6 ((((e2.trans e3).trans e4).trans e5).trans e6)
    | false => exact q H4 ((e2.trans e3).trans e4)⟩
abbrev rLeS : R2 := fun x y H Q => ∃ i j, x = .str i ∧ y = .str j ∧ Q (.bl (!decide (j.cps.toList < i.cps.toList))) H
theorem rv_leS {H : Hp} {i j : Str} : RV rLeS (.str i) (.str j) H (.bl (!decide (j.cps.toList < i.cps.toList))) := fun H1 _ _ q => ⟨i, j, rfl, rfl, q H1 (Ex.refl H1)⟩
theorem lex1 (a c : Nat) : ([a] < [c]) = (a < c) := by
  simp [List.cons_lt_cons_iff]
theorem letters (z : Str) (v : Nat → V) (h : ∀ i c, z.cps[i]? = some c → v i = .bl (low c)) : given z.length (fun _ => true) v = (z.cps.toList.map low).map V.bl := by
  unfold given
  rw [List.filter_eq_self.mpr (fun _ _ => rfl)]
  apply List.ext_getElem
  · simp [Str.length]
  · intro i h1 h2
    have hi : i < z.cps.size := by simpa [Str.length] using h1
    have e := h i z.cps[i] (Array.getElem?_eq_getElem hi)
    simp [e]
def spName (K : PySem.W.Frag) : Sp := fun vs H Q _ => ∃ v d, vs = [v] ∧ Sw K H v d ∧ Fit d ∧ ∀ H', Ex H H' → Q (.bl (isNm d)) H'
abbrev sName : Stmt := top 5
theorem scNm : FnScope ["value", "letter"] ["value"] (defScope sName) := ⟨rfl, rfl, rfl, by decide +kernel, rfl, by decide +kernel, by decide +kernel⟩
section
variable {P : Program} {w : World} {K : PySem.W.Frag} {mg : Str → Option Value} {base : Heap}
theorem ok_name {f : Addr} {fd : FuncData} (F : Fun K "is_name" "is_name" sName f fd) (B : Bt mg) : FnOk P w K mg base CX0 1 f fd ["value"] (spName K) := by
  refine F.ok scNm (fun vs H Q E h => ?_) (fun cdv A outer s H vs Q E hr h => ?_)
  · obtain ⟨v, d, rfl, _⟩ := h
    rfl
  · obtain ⟨v, d, rfl, hd, ft, kq⟩ := h
    refine ⟨_, (pss_cons (ps_if (PW.pt (pw_or (pt_not (pt_val (pe_callB call_isi (by rfl) B.isi (by decide +kernel) (pa_cons (pv 0) (pa_cons (pe_bltn (v := .ty "str") (by rfl) B.str (by decide +kernel) rfl) pa_nil))))) (pw_or1 (pt_not (pt_chain op_le op_le pe_int (pe_callB call_len_str (by rfl) B.len PySem.boot_len (pa_cons (pv 0) pa_nil)) pe_int))))) (pss_one (ps_ret pe_bl)) pss_nil)
      (pss_one (ps_ret (pe_callB (cr_all rfl) (by rfl) B.all (by decide +kernel) (pa_cons (pe_lc (own := [("letter", 1)]) (g := gName 1) (tt := tYes) rfl scNm.nd (pi_str (pv 0)) (blkOk_by (N := ["value", "letter"]) (sc := defScope sName) (by decide +kernel)) (fun _ _ _ _ _ => pg_name (i := 1) scNm.nd rfl (Or.inl rfl)) (fun _ _ _ _ _ => pts_nil) (fun _ _ _ _ _ => pe_chain op_le_str op_le_str pe_str (pv 1) pe_str)) pa_nil))))), ?_⟩
    have h1 : Ev (tCB (rIsi K) (tCons (tVar 0) (tCons (tC (.ty "str")) tNil))) (start ["value", "letter"] [v]) H (.bl (isStr d)) := ev_isi (ev_var rfl) hd (kit_str K d)
    cases hs : isStr d with
    | false =>
      refine q_when (b := true) (et_is (et_or (et_not (et_B h1)) (b := true) (fun z => ?_)) (by rw [hs]; rfl)) (fun _ H1 e1 => s_ret ev_c fun H2 e2 => ?_) (fun z => nomatch z)
      · rw [hs] at z
        cases z
      · have hn : isNm d = false := by cases d <;> first | rfl | cases hs
        have q := kq H2 (e1.trans e2)
        rw [hn] at q
        exact q
    | true =>
      obtain ⟨z, rfl⟩ : ∃ z, d = .str z := by cases d <;> first | exact ⟨_, rfl⟩ | cases hs
      cases hd with
      | str =>
        have hz := ft z rfl
        have h2 : Ev (tChain (rI0 fun i j => .bl (decide (i ≤ j))) (rI0 fun i j => .bl (decide (i ≤ j))) (tC (.int 1)) (tCB (fun xs H Q => ∃ z, xs = [.str z] ∧ z.length ≤ sizeLine ∧ Q (.int z.length) H) (tCons (tVar 0) tNil)) (tC (.int 8))) (start ["value", "letter"] [V.str z]) H (.bl (decide ((1 : Int) ≤ z.length) && decide ((z.length : Int) ≤ 8))) :=
          ev_chain ev_c (ev_cb (ea_cons (ev_var rfl) ea_nil) fun H1 _ Q q => ⟨z, rfl, sz_of (by omega), q H1 (Ex.refl H1)⟩) ev_c rv_le rv_le
        refine q_when (b := !(decide ((1 : Int) ≤ z.length) && decide ((z.length : Int) ≤ 8))) (et_is (et_or (et_not (et_B h1)) (fun _ => et_not (et_test h2))) (by rw [hs]; rfl)) (fun hb H1 e1 => s_ret ev_c fun H2 e2 => ?_) (fun hb H1 e1 => ?_)
        · have q := kq H2 (e1.trans e2)
          have hn : isNm (.str z) = false := by
            show (decide (1 ≤ z.length) && decide (z.length ≤ 8) && _) = false
            have : (decide (1 ≤ z.length) && decide (z.length ≤ 8)) = false := by
              rw [Bool.not_eq_true'] at hb
              rw [← hb]
              congr 1 <;> exact decide_eq_decide.mpr (by omega)
            rw [this]
            rfl
          rw [hn] at q
          exact q
        · have hl := letters z (fun i => .bl (low (z.cps.getD i 0))) (fun i c hc => by
            have : z.cps.getD i 0 = c := by
              rw [Array.getD_eq_getD_getElem?, hc]
              rfl
            rw [this])
          refine s_ret (v := .bl (isNm (.str z))) (fun H2 e2 Q2 q2 => ?_) fun H2 e2 => kq H2 (e1.trans e2)
          have hLc : EvL (tLc (iStr (tVar 0)) (gName 1) tYes (tChain rLeS rLeS (tC (.str "a")) (tVar 1) (tC (.str "z"))) [1]) (start ["value", "letter"] [V.str z]) H _ := el_lcS (fun _ => true) (fun i => .bl (low (z.cps.getD i 0))) (ev_var rfl) hz (fun _ => rfl) (fun i c H3 e3 hc H4 e4 Q4 q4 => q4 H4 (Ex.refl H4)) (fun i c H3 e3 hc _ => ?_)
          · have he : (z.cps.toList.map low).all id = isNm (.str z) := by
              show _ = (decide (1 ≤ z.length) && decide (z.length ≤ 8) && z.cps.toList.all low)
              have : (decide (1 ≤ z.length) && decide (z.length ≤ 8)) = true := by
                rw [Bool.not_eq_false'] at hb
                rw [← hb]
                congr 1 <;> exact decide_eq_decide.mpr (by omega)
              rw [this, List.all_map]
              rfl
            rw [hl] at hLc
            exact ev_cbL hLc (fun p H3 hp _ Q3 q3 => ⟨p, _, rfl, SqL.of hp, by rw [he]; exact q3⟩) H2 (e1.trans e2) _ q2
          · have hc' : z.cps.getD i 0 = c := by
              rw [Array.getD_eq_getD_getElem?, hc]
              rfl
            rw [hc']
            refine ev_is (ev_chain ev_c (ev_var rfl) ev_c rv_leS rv_leS) ?_
            congr 1
            show (!decide ([c] < [97]) && !decide ([122] < [c])) = low c
            simp only [lex1]
            unfold low
            congr 1
            · rw [← decide_not]; exact decide_eq_decide.mpr (by omega)
            · rw [← decide_not]; exact decide_eq_decide.mpr (by omega)
end
end Nm
/-! ### raising own errors, and their classes -/
namespace Er
open PySem PySem.Spec PyProof.Rows L2 Evl ExV Gen
section
variable {X : Cx} {k i : Nat} {fI C : Addr} {fd : FuncData} {f : Str} {x : Str} {p pos pos2 : Pos} {e : Expr} {W : WX}
/-- raise C(y), y at slot i: what is raised has a new dict that holds the field -/
def tRaiseE (C : Addr) (f : Str) (W : WX) (i : Nat) : TS := fun _ σ H => ∃ y, σ[i]? = some (some y) ∧ ∀ d H2, H d = none → Ex H H2 → H2 d = some (.xd [(f, y)]) → W (.ref C) (some d) σ H2
theorem ps_raiseE (hc : X.calm = true) (O : Own X.K C fI) (F1 : FnOk X.prog X.w X.K X.mg X.base CX0 k fI fd ["self", f] (spInitE C f)) (hr : Room (k + 1) X.A) (hb : Binds X.K fd ["self", f] []) (hm : X.mg x = some (.ref C)) (hg : Gl X x) (tk : Takes X W) (ha : PA X [e] (tCons (tVar i) tNil))
    (hdb : (x == ("__debug__" : Str)) = false := by decide) (he : starEach (e :: []) X.env = (false, eval e X.env) :: starEach [] X.env := by rfl) (hpl : (backTo pos (starEach [] X.env)).any (·.1) = false := by rfl) :
    PS X (.Raise (some (.Call (.Name x p) [e] [] pos)) none pos2) (tRaiseE C f W i) := by
  have base := ps_raise (pos := pos2) hc tk (pmk_oex (p := p) (pos := pos) O.ox O.iC O.tI F1 hr hb .nil pass0 hg hm ha hdb he hpl)
  refine ⟨fun pins s σ H D I h => base.run pins s σ H D I ?_⟩
  obtain ⟨y, hy, q⟩ := h
  refine ⟨y, hy, by show 1 ≤ 1000; decide, fun a ha => ⟨a, y, rfl, upd_same, fun dx hd ne => ⟨rfl, dx, [(f, y)], upd_same, by rw [upd_ne ne, upd_same], ?_, ?_⟩⟩⟩
  · rw [upd_ne ne] at hd
    exact hd
  · rw [upd_ne ne] at hd
    refine q dx _ hd (fun b o hb => ?_) upd_same
    have n1 : b ≠ dx := ne_of_none hb hd
    have n2 : b ≠ a := ne_of_none hb ha
    rw [upd_ne n1, del_ne n2, upd_ne n2, upd_ne n1, upd_ne n2]
    exact hb
end
section
variable {P : Program} {w : World} {K : PySem.W.Frag} {mg : Str → Option Value} {base : Heap}
/-- an error's class: its facts, and its __init__ -/
structure ErC (P : Program) (w : World) (K : PySem.W.Frag) (mg : Str → Option Value) (base : Heap) (x f : Str) (C : Addr) : Prop where
  ex : ∃ fI fd, Own K C fI ∧ FnOk P w K mg base CX0 1 fI fd ["self", f] (spInitE C f) ∧ Binds K fd ["self", f] []
  gC : mg x = some (.ref C)
end
section
variable {X : Cx} {i : Nat} {C : Addr} {f x : Str} {p pos pos2 : Pos} {e : Expr} {W : WX}
theorem ps_rE (c : ErC X.prog X.w X.K X.mg X.base x f C) (hc : X.calm = true) (hr : Room 2 X.A) (hg : Gl X x) (tk : Takes X W) (ha : PA X [e] (tCons (tVar i) tNil))
    (hdb : (x == ("__debug__" : Str)) = false := by decide) (he : starEach (e :: []) X.env = (false, eval e X.env) :: starEach [] X.env := by rfl) (hpl : (backTo pos (starEach [] X.env)).any (·.1) = false := by rfl) :
    PS X (.Raise (some (.Call (.Name x p) [e] [] pos)) none pos2) (tRaiseE C f W i) := by
  obtain ⟨fI, fd, O, F1, hb⟩ := c.ex
  exact ps_raiseE hc O F1 hr hb c.gC hg tk ha hdb he hpl
end
section
variable {P : Program} {w : World} {K : PySem.W.Frag} {mg : Str → Option Value} {base : Heap}
theorem scInvalidList : FnScope ["self", "value"] ["self", "value"] (defScope (inClass (top 2) 0)) := ⟨rfl, rfl, rfl, by decide +kernel, rfl, by decide +kernel, by decide +kernel⟩
theorem erC_InvalidList {fI C : Addr} {fd : FuncData} (F : FunD K "__init__" "InvalidList.__init__" (defArgs (inClass (top 2) 0)) (defBody (inClass (top 2) 0)) (defScope (inClass (top 2) 0)) [V.non] [] fI fd) (O : Own K C fI) (no : PySem.W.findIn K (.ref C) "value" = some none) (gC : mg "InvalidList" = some (.ref C)) : ErC P w K mg base "InvalidList" "value" C := by
  obtain ⟨d1, r1, B1⟩ := F.binds1 (ps := ["self", "value"]) 2 1 (by simp) rfl (fun T kV doc pm an cdv ct us its h1 h2 => match us, its, h1, h2 with | [_, _], [_], _, _ => ⟨_, rfl, rfl⟩)
  cases r1
  refine ⟨⟨fI, fd, O, F.ok scInvalidList (fun vs H Q E h => ?_) (fun cdv A outer s H vs Q E hr h => ?_), B1⟩, gC⟩
  · obtain ⟨a, y, rfl, _⟩ := h
    rfl
  · obtain ⟨a, y, rfl, ha, k⟩ := h
    exact ⟨_, pss_one (ps_ost (pv 0) (pv 1)), _, rfl, _, rfl, a, C, rfl, O.ox, no, .inl ⟨ha, k⟩⟩
theorem scInvalidItem : FnScope ["self", "value"] ["self", "value"] (defScope (inClass (top 3) 0)) := ⟨rfl, rfl, rfl, by decide +kernel, rfl, by decide +kernel, by decide +kernel⟩
theorem erC_InvalidItem {fI C : Addr} {fd : FuncData} (F : FunD K "__init__" "InvalidItem.__init__" (defArgs (inClass (top 3) 0)) (defBody (inClass (top 3) 0)) (defScope (inClass (top 3) 0)) [V.non] [] fI fd) (O : Own K C fI) (no : PySem.W.findIn K (.ref C) "value" = some none) (gC : mg "InvalidItem" = some (.ref C)) : ErC P w K mg base "InvalidItem" "value" C := by
  obtain ⟨d1, r1, B1⟩ := F.binds1 (ps := ["self", "value"]) 2 1 (by simp) rfl (fun T kV doc pm an cdv ct us its h1 h2 => match us, its, h1, h2 with | [_, _], [_], _, _ => ⟨_, rfl, rfl⟩)
  cases r1
  refine ⟨⟨fI, fd, O, F.ok scInvalidItem (fun vs H Q E h => ?_) (fun cdv A outer s H vs Q E hr h => ?_), B1⟩, gC⟩
  · obtain ⟨a, y, rfl, _⟩ := h
    rfl
  · obtain ⟨a, y, rfl, ha, k⟩ := h
    exact ⟨_, pss_one (ps_ost (pv 0) (pv 1)), _, rfl, _, rfl, a, C, rfl, O.ox, no, .inl ⟨ha, k⟩⟩
end
end Er
/-! ### check_many, check_names -/
namespace Chk
open PySem PySem.Spec PyProof.Rows L2 Evl Gen Rep Dat Nm Er
/-- C(v) is what may be raised -/
def Bad (C : Addr) (v : V) (H : Hp) (E : XK) : Prop := ∀ d H', H d = none → Ex H H' → H' d = some (.xd [("value", v)]) → E (.ref C) (some d) H'
theorem Bad.ex {C : Addr} {v : V} {H H' : Hp} {E : XK} (b : Bad C v H E) (e : Ex H H') : Bad C v H' E := fun d H2 hd e2 h => b d H2 (fresh_back e hd) (e.trans e2) h
def many (d : PyData) (a b : Int) : Bool := match d with
  | .list ds => decide (a ≤ ds.length) && decide ((ds.length : Int) ≤ b)
  | _ => false
theorem un65 {k : Nat} {A : Around} (hr : Room k A) : A.units + 65 < cLine := by
  have := hr.un
  omega
def spMany (K : PySem.W.Frag) (CL : Addr) : Sp := fun vs H Q E => ∃ v d a b, vs = [v, .int a, .int b] ∧ Sw K H v d ∧ (many d a b = true → ∀ H', Ex H H' → Q .non H') ∧ (many d a b = false → Bad CL v H E)
abbrev sMany : Stmt := top 7
theorem scMy : FnScope ["value", "least", "most"] ["value", "least", "most"] (defScope sMany) := ⟨rfl, rfl, rfl, by decide +kernel, rfl, by decide +kernel, by decide +kernel⟩
theorem swAll_len {K : PySem.W.Frag} {H : Hp} : ∀ {xs : List V} {ds : List PyData}, SwAll K H xs ds → xs.length = ds.length
  | [], _, h => by cases h; rfl
  | x :: xs, _, h => by
    cases h with
    | cons a b => simp [swAll_len b]
section
variable {P : Program} {w : World} {K : PySem.W.Frag} {mg : Str → Option Value} {base : Heap}
theorem ok_many {f CL : Addr} {fd : FuncData} (F : Fun K "check_many" "check_many" sMany f fd) (B : Bt mg) (c : ErC P w K mg base "InvalidList" "value" CL) : FnOk P w K mg base (CX P w) 3 f fd ["value", "least", "most"] (spMany K CL) := by
  refine F.okX scMy (fun vs H Q E h => ?_) (fun cdv A outer s H vs Q E hr h => ?_)
  · obtain ⟨v, d, a, b, rfl, _⟩ := h
    rfl
  · obtain ⟨v, d, a, b, rfl, hd, kq, ke⟩ := h
    refine ⟨_, (pss_one (ps_if (PW.pt (pw_or (pt_not (pt_val (pe_callB call_isi (by rfl) B.isi (by decide +kernel) (pa_cons (pv 0) (pa_cons (pe_bltn (v := .ty "list") (by rfl) B.list (by decide +kernel) rfl) pa_nil))))) (pw_or1 (pt_not (pt_chain op_le op_le (pv 1) (pe_callB call_len_seq (by rfl) B.len PySem.boot_len (pa_cons (pv 0) pa_nil)) (pv 2)))))) (pss_one (ps_rE c rfl hr rfl (takes_of rfl rfl rfl rfl) (pa_cons (pv 0) pa_nil))) pss_nil)), ?_⟩
    have h1 : Ev (tCB (rIsi K) (tCons (tVar 0) (tCons (tC (.ty "list")) tNil))) (start ["value", "least", "most"] [v, .int a, .int b]) H (.bl (isList d)) := ev_isi (ev_var rfl) hd (kit_list K d)
    have fin : ∀ {t : TS} {bb : Bool} {tt : TT}, t = tIfS tt (tRaiseE CL "value" (fun cls d _ H => E cls d H) 0) tNext → EvT tt (start ["value", "least", "most"] [v, .int a, .int b]) H bb → bb = !many d a b → t { nx := fun _ H' => Q .non H', rt := Q } (start ["value", "least", "most"] [v, .int a, .int b]) H := by
      intro t bb tt et ev hb
      subst et hb
      refine s_when ev (fun hm H1 e1 => ?_) (fun hm H1 e1 => kq (by simpa using hm) H1 e1)
      exact ⟨v, rfl, fun dd H2 n2 e2 h2 => ke (by simpa using hm) dd H2 (fresh_back e1 n2) (e1.trans e2) h2⟩
    cases hs : isList d with
    | false =>
      refine fin rfl (et_or (et_not (et_B h1)) (b := true) (fun z => ?_)) ?_
      · rw [hs] at z
        cases z
      · rw [hs]
        cases d <;> first | rfl | cases hs
    | true =>
      obtain ⟨ds, rfl⟩ : ∃ ds, d = .list ds := by cases d <;> first | exact ⟨_, rfl⟩ | cases hs
      cases hd with
      | lst hq ha =>
        refine fin rfl (et_or (et_not (et_B h1)) (fun _ => et_not (et_test (ev_chain (ev_var rfl) (ev_len (ev_var rfl) hq) (ev_var rfl) rv_le rv_le)))) ?_
        rw [hs, swAll_len ha]
        rfl
end
/-! check_names -/
theorem swAll_get {K : PySem.W.Frag} {H : Hp} : ∀ {xs : List V} {ds : List PyData} {i : Nat} {x : V}, SwAll K H xs ds → xs[i]? = some x → ∃ d, ds[i]? = some d ∧ Sw K H x d
  | [], _, _, _, _, z => by simp at z
  | y :: xs, _, i, x, h, z => by
    cases h with
    | cons a b =>
      cases i with
      | zero =>
        have z' : y = x := by simpa using z
        subst z'
        exact ⟨_, rfl, a⟩
      | succ i =>
        have z' : xs[i]? = some x := by simpa using z
        obtain ⟨d, h1, h2⟩ := swAll_get b z'
        exact ⟨d, by simpa using h1, h2⟩
theorem swAll_take {K : PySem.W.Frag} {H : Hp} : ∀ {xs : List V} {ds : List PyData} (n : Nat), SwAll K H xs ds → SwAll K H (xs.take n) (ds.take n)
  | [], _, n, h => by cases h; simp; exact .nil
  | y :: xs, _, 0, h => by simp; exact .nil
  | y :: xs, _, n + 1, h => by
    cases h with
    | cons a b => exact .cons a (swAll_take n b)
def txt : PyData → Str
  | .str z => z
  | _ => ""
theorem strs_of {K : PySem.W.Frag} {H : Hp} : ∀ {xs : List V} {ds : List PyData}, SwAll K H xs ds → (∀ d ∈ ds, isNm d = true) → xs = (ds.map txt).map V.str
  | [], _, h, _ => by cases h; rfl
  | y :: xs, _, h, g => by
    cases h with
    | cons a b =>
      rename_i d ds
      have gd := g d (List.mem_cons_self ..)
      rw [List.map_cons, List.map_cons, ← strs_of b fun z m => g z (List.mem_cons_of_mem _ m)]
      cases a with
      | str z => rfl
      | non => cases gd
      | bl _ => cases gd
      | int _ => cases gd
      | lst _ _ => cases gd
      | tup _ _ => cases gd
      | dct _ _ => cases gd
/-- the i-th of ds is no name for these taken ones, or stands ahead already -/
def badN (tk : List Str) (ds : List PyData) (i : Nat) : Bool := match ds[i]? with
  | none => false
  | some d => !isNm d || (sIn tk d || sIn ((ds.take i).map txt) d)
/-- the first place of a list that is bad -/
def firstBad (n : Nat) (bad : Nat → Bool) : Option Nat := (List.range n).find? bad
theorem first_none {n : Nat} {bad : Nat → Bool} (h : ∀ j, j < n → bad j = false) : firstBad n bad = none := by
  unfold firstBad
  rw [List.find?_eq_none]
  intro j hj
  rw [h j (by simpa using hj)]
  decide
theorem first_some {n i : Nat} {bad : Nat → Bool} (hi : i < n) (hb : bad i = true) (h : ∀ j, j < i → bad j = false) : firstBad n bad = some i := by
  unfold firstBad
  rw [List.find?_eq_some_iff_append]
  refine ⟨hb, List.range i, (List.range' (i + 1) (n - i - 1)), ?_, fun a ha => by rw [h a (by simpa using ha)]; rfl⟩
  have : List.range n = List.range' 0 n := List.range_eq_range'
  rw [this, List.range_eq_range']
  have e : n = i + (1 + (n - i - 1)) := by omega
  conv => lhs; rw [e]
  rw [← List.range'_append_1, ← List.range'_append_1]
  simp
def spNames (K : PySem.W.Frag) (CI : Addr) : Sp := fun vs H Q E => ∃ (a t : Addr) (xs : List V) (ds : List PyData) (tk : List Str), vs = [.ref a, .ref t] ∧ SqL K H a xs ∧ SwAll K H xs ds ∧ (∀ d ∈ ds, Fit d) ∧ ds.length ≤ 40000 ∧ SqL K H t (tk.map V.str) ∧
  (firstBad ds.length (badN tk ds) = none → ∀ H', Ex H H' → Q .non H') ∧ (∀ i x, firstBad ds.length (badN tk ds) = some i → xs[i]? = some x → Bad CI x H E)
abbrev sNames : Stmt := top 8
theorem scNs : FnScope ["names", "taken", "at", "item"] ["names", "taken"] (defScope sNames) := ⟨rfl, rfl, rfl, by decide +kernel, rfl, by decide +kernel, by decide +kernel⟩
theorem spv_name {K : PySem.W.Frag} {H : Hp} {v : V} {d : PyData} (hd : Sw K H v d) (ft : Fit d) : SpV (spName K) [v] H (.bl (isNm d)) := fun H1 e Q q E => ⟨v, d, rfl, Sw.ex e d v hd, ft, fun H' e' => q H' e'⟩
theorem cut_take {xs : List V} {n : Nat} : cutV xs none (some ((n : Nat) : Int)) = xs.take n := by
  unfold cutV
  rw [HT.sIx_none, HT.sIx_nat, List.drop_zero, Nat.sub_zero]
  by_cases h : n ≤ xs.length
  · rw [Nat.min_eq_left h]
  · rw [Nat.min_eq_right (by omega), List.take_of_length_le (Nat.le_refl _), List.take_of_length_le (by omega)]
section
variable {P : Program} {w : World} {K : PySem.W.Frag} {mg : Str → Option Value} {base : Heap}
theorem ok_names {f CI fN : Addr} {fd fdN : FuncData} (F : Fun K "check_names" "check_names" sNames f fd) (B : Bt mg) (c : ErC P w K mg base "InvalidItem" "value" CI)
    (GN : FnOk P w K mg base CX0 1 fN fdN ["value"] (spName K)) (mN : mg "is_name" = some (.ref fN)) (kN : PySem.W.keepIn K (.ref fN) = true) (bN : Binds K fdN ["value"] []) : FnOk P w K mg base (CX P w) 3 f fd ["names", "taken"] (spNames K CI) := by
  refine F.okX scNs (fun vs H Q E h => ?_) (fun cdv A outer s H vs Q E hr h => ?_)
  · obtain ⟨a, t, xs, ds, tk, rfl, _⟩ := h
    rfl
  · obtain ⟨a, t, xs, ds, tk, rfl, ha, hx, ft, hn, ht, kq, ke⟩ := h
    refine ⟨_, (pss_one (ps_for (passes_of rfl) rfl (pi_enum (by rfl) B.enum (pa_cons (pv 0) pa_nil)) (pg_tup rfl (pgs_cons (pg_name (i := 2) scNs.nd rfl (Or.inl rfl)) (pgs_cons (pg_name (i := 3) scNs.nd rfl (Or.inl rfl)) pgs_nil))) (pss_one (ps_if (PW.pt (pw_or (pt_not (pt_val (pe_call GN (hr.mono (by decide)) (by rfl) mN kN bN .nil pass0 (pa_cons (pv 3) pa_nil)))) (pw_or (pt_cmpR (op_inS (un65 hr)) (pv 3) (pv 1) (by rfl)) (pw_or1 (pt_cmpR (op_inS (un65 hr)) (pv 3) (pe_slice sl_list (pv 0) po_none (po_some (pv 2))) (by rfl)))))) (pss_one (ps_rE c rfl hr rfl (takes_of rfl rfl rfl rfl) (pa_cons (pv 3) pa_nil))) pss_nil)))), ?_⟩
    have hl := swAll_len hx
    refine ⟨_, rfl, a, xs, rfl, ha, for_it (walk_enum (xs := xs)) (fun i σ H' => ∃ s2 s3, σ = [some (.ref a), some (.ref t), s2, s3] ∧ Ex H H' ∧ ∀ j, j < i → badN tk ds j = false) ⟨_, _, rfl, Ex.refl H, fun j hj => by omega⟩ (fun i σ H' _ p => ?_) ?_ (fun σ H' p => ?_)⟩
    · obtain ⟨s2, s3, rfl, e, _⟩ := p
      exact ex_l e ha
    · rintro i x σ H1 H2 hi ⟨s2, s3, rfl, e1, nb⟩ ⟨T, ix, y, rfl, nT, rfl, hix, hy⟩
      obtain rfl : V.int (i : Nat) = ix := Option.some.inj hix
      obtain ⟨d, hd, hyd⟩ := swAll_get hx hy
      have fd' : Fit d := ft d (List.mem_of_getElem? hd)
      have eT : Ex H1 (upd H1 T (.tup [.int (i : Nat), y])) := Ex.new nT
      have e2 := e1.trans eT
      have pre : ∀ z ∈ ds.take i, isNm z = true := fun z hz => by
        obtain ⟨j, hj, rfl⟩ := List.mem_iff_getElem.mp hz
        rw [List.length_take] at hj
        have q := nb j (by omega)
        rw [List.getElem_take]
        unfold badN at q
        rw [List.getElem?_eq_getElem (by omega)] at q
        simp only [Bool.or_eq_false_iff, Bool.not_eq_false'] at q
        exact q.1
      have hst := strs_of (swAll_take i hx) pre
      refine ⟨T, _, rfl, SqT.of upd_same, rfl, _, _, rfl, _, _, rfl, rfl, ?_⟩
      refine s_when (b := badN tk ds i) ?_ (fun hb H3 e3 => ?_) (fun hb H3 e3 => ?_)
      · have eb : badN tk ds i = (!isNm d || (sIn tk d || sIn ((ds.take i).map txt) d)) := by unfold badN; rw [hd]
        rw [eb]
        refine et_or (et_not (et_B (ev_call (ea_cons (ev_var rfl) ea_nil) (spv_name (Sw.ex e2 d y hyd) fd')))) fun _ => et_or (et_test (ev_in (ev_var rfl) (ev_var rfl) (Sw.ex e2 d y hyd) (ex_l e2 ht))) fun _ => ?_
        refine et_test (ev_opL (ev_var rfl) (el_sl (ev_var rfl) eo_none (eo_some (ev_var rfl)) (ex_l e2 ha)) fun p H4 hp e4 => fun H5 e5 Q5 q5 => ?_)
        rw [cut_take, hst] at hp
        exact ⟨d, _, p, Sw.ex ((e2.trans e4).trans e5) d y hyd, rfl, SqL.of (e5 _ _ hp), q5 H5 (Ex.refl H5)⟩
      · refine ⟨y, rfl, fun dd H4 n4 e4 h4 => ke i y (first_some (by omega) hb nb) hy dd H4 (fresh_back (e2.trans e3) n4) ((e2.trans e3).trans e4) h4⟩
      · refine ⟨_, _, rfl, e2.trans e3, fun j hj => ?_⟩
        by_cases hj2 : j < i
        · exact nb j hj2
        · obtain rfl : j = i := by omega
          exact hb
    · obtain ⟨s2, s3, rfl, e, nb⟩ := p
      exact kq (first_none fun j hj => nb j (by omega)) H' e
end
end Chk
/-! ### deeds and hearings -/
namespace Deed
open PySem PySem.Spec PyProof.Rows L2 Evl Gen Rep Dat Nm Er Chk
/-- the sound of an entry is none, or a name -/
def sndOk : PyData → Bool
  | .none => true
  | d => isNm d
def isDeedT (hs ss : List Str) : List PyData → Bool
  | [p, s, o] => sndOk s && ((sIn hs p && sIn hs o) || (sIn ss p && sIn ss o))
  | _ => false
def isDeed (hs ss : List Str) : PyData → Bool
  | .tuple xs => isDeedT hs ss xs
  | _ => false
def isNone : PyData → Bool
  | .none => true
  | _ => false
/-- what a tuple holds fits -/
def FitT (d : PyData) : Prop := ∀ xs, d = .tuple xs → ∀ x ∈ xs, Fit x
theorem isNone_is {K : PySem.W.Frag} {H : Hp} {v : V} {d : PyData} (h : Sw K H v d) : decide (v = .non) = isNone d := by
  cases h <;> simp [isNone]
abbrev rNotN : R2 := fun x y H Q => y = .non ∧ Q (.bl (!decide (x = .non))) H
theorem ev_notN {σ : L2.St} {H : Hp} {te : TE} {x : V} {b : Bool} (h : Ev te σ H x) (e : (!decide (x = .non)) = b) : Ev (tOp rNotN te (tC .non)) σ H (.bl b) := ev_op h ev_c fun H1 _ Q q => ⟨rfl, by rw [e]; exact q H1 (Ex.refl H1)⟩
/-- len of a tuple -/
theorem ev_lenT {K : PySem.W.Frag} {σ : L2.St} {H : Hp} {te : TE} {p : Addr} {xs : List V} (ha : Ev te σ H (.ref p)) (h : SqT K H p xs) : Ev (tCB (rLenS K) (tCons te tNil)) σ H (.int (xs.length : Int)) := fun H1 e Q q =>
  ha H1 e _ fun H2 e2 => ⟨p, xs, rfl, Or.inr (ex_t (e.trans e2) h), q H2 e2⟩
def spDeed (K : PySem.W.Frag) : Sp := fun vs H Q _ => ∃ (h t : Addr) (v : V) (hs ss : List Str) (d : PyData), vs = [.ref h, .ref t, v] ∧ SqL K H h (hs.map V.str) ∧ SqL K H t (ss.map V.str) ∧ Sw K H v d ∧ FitT d ∧ ∀ H', Ex H H' → Q (.bl (isDeed hs ss d)) H'
abbrev sDeed : Stmt := top 9
abbrev NDe : List Str := ["houses", "stands", "value", "place", "sound", "other"]
theorem scDe : FnScope NDe ["houses", "stands", "value"] (defScope sDeed) := ⟨rfl, rfl, rfl, by decide +kernel, rfl, by decide +kernel, by decide +kernel⟩
section
variable {P : Program} {w : World} {K : PySem.W.Frag} {mg : Str → Option Value} {base : Heap}
theorem ok_deed {f fN : Addr} {fd fdN : FuncData} (F : Fun K "is_deed" "is_deed" sDeed f fd) (B : Bt mg)
    (GN : FnOk P w K mg base CX0 1 fN fdN ["value"] (spName K)) (mN : mg "is_name" = some (.ref fN)) (kN : PySem.W.keepIn K (.ref fN) = true) (bN : Binds K fdN ["value"] []) : FnOk P w K mg base CX0 2 f fd ["houses", "stands", "value"] (spDeed K) := by
  refine F.ok scDe (fun vs H Q E h => ?_) (fun cdv A outer s H vs Q E hr h => ?_)
  · obtain ⟨h, t, v, hs, ss, d, rfl, _⟩ := h
    rfl
  · obtain ⟨h, t, v, hs, ss, d, rfl, hh, ht, hd, ft, kq⟩ := h
    refine ⟨_, (pss_cons (ps_if (PW.pt (pw_or (pt_not (pt_val (pe_callB call_isi (by rfl) B.isi (by decide +kernel) (pa_cons (pv 2) (pa_cons (pe_bltn (v := .ty "tuple") (by rfl) B.tuple (by decide +kernel) rfl) pa_nil))))) (pw_or1 (pt_cmpR op_ne (pe_callB call_len_seq (by rfl) B.len PySem.boot_len (pa_cons (pv 2) pa_nil)) pe_int (nomark _))))) (pss_one (ps_ret pe_bl)) pss_nil)
      (pss_cons (ps_asg (pv 2) (pg_tup rfl (pgs_cons (pg_name (i := 3) scDe.nd rfl (Or.inl rfl)) (pgs_cons (pg_name (i := 4) scDe.nd rfl (Or.inl rfl)) (pgs_cons (pg_name (i := 5) scDe.nd rfl (Or.inl rfl)) pgs_nil)))))
      (pss_cons (ps_if (PW.pt (pw_and (pt_cmpR op_notN (pv 4) pe_non (nomark _)) (pw_and1 (pt_not (pt_val (pe_call GN (hr.mono (by decide)) (by rfl) mN kN bN .nil pass0 (pa_cons (pv 4) pa_nil))))))) (pss_one (ps_ret pe_bl)) pss_nil)
      (pss_one (ps_ret (pe_or (pe_and (pe_cmpR (op_inS (un65 hr)) (pv 3) (pv 0) (by rfl)) (pe_one (pe_cmpR (op_inS (un65 hr)) (pv 5) (pv 0) (by rfl)))) (pe_one (pe_and (pe_cmpR (op_inS (un65 hr)) (pv 3) (pv 1) (by rfl)) (pe_one (pe_cmpR (op_inS (un65 hr)) (pv 5) (pv 1) (by rfl))))))))))), ?_⟩
    have h1 : Ev (tCB (rIsi K) (tCons (tVar 2) (tCons (tC (.ty "tuple")) tNil))) (start NDe [.ref h, .ref t, v]) H (.bl (isTup d)) := ev_isi (ev_var rfl) hd (kit_tup K d)
    cases hs1 : isTup d with
    | false =>
      refine q_when (b := true) (et_is (et_or (et_not (et_B h1)) (b := true) (fun z => ?_)) (by rw [hs1]; rfl)) (fun _ H1 e1 => s_ret ev_c fun H2 e2 => ?_) (fun z => nomatch z)
      · rw [hs1] at z
        cases z
      · have hn : isDeed hs ss d = false := by cases d <;> first | rfl | cases hs1
        have q := kq H2 (e1.trans e2)
        rw [hn] at q
        exact q
    | true =>
      obtain ⟨ds, rfl⟩ : ∃ ds, d = .tuple ds := by cases d <;> first | exact ⟨_, rfl⟩ | cases hs1
      cases hd with
      | tup hq ha =>
        rename_i a xs
        have hl := swAll_len ha
        refine q_when (b := !decide (xs.length = 3)) (et_is (et_or (et_not (et_B h1)) (fun _ => et_test (ev_op (ev_lenT (ev_var rfl) hq) ev_c (rv_ne (by rfl))))) ?_) (fun hb H1 e1 => s_ret ev_c fun H2 e2 => ?_) (fun hb H1 e1 => ?_)
        · rw [hs1]
          show (!decide (V.int (xs.length : Int) = V.int 3)) = _
          congr 1
          exact decide_eq_decide.mpr ⟨fun z => by injection z with z; omega, fun z => by rw [z]; rfl⟩
        · have hn : isDeed hs ss (.tuple ds) = false := by
            show isDeedT hs ss ds = false
            have : ds.length ≠ 3 := by
              rw [← hl]
              simpa using hb
            match ds, this with
            | [], _ => rfl
            | [_], _ => rfl
            | [_, _], _ => rfl
            | [_, _, _], z => exact absurd rfl z
            | _ :: _ :: _ :: _ :: _, _ => rfl
          have q := kq H2 (e1.trans e2)
          rw [hn] at q
          exact q
        · have l3 : xs.length = 3 := by simpa using hb
          obtain ⟨x, y, z, rfl⟩ : ∃ x y z, xs = [x, y, z] := by
            match xs, l3 with
            | [x, y, z], _ => exact ⟨x, y, z, rfl⟩
          cases ha with
          | cons hx ha =>
            cases ha with
            | cons hy ha =>
              cases ha with
              | cons hz ha =>
                cases ha
                rename_i dx dy dz
                have fy : Fit dy := ft _ rfl dy (by simp)
                refine ⟨_, rfl, a, _, rfl, ex_t e1 hq, rfl, _, _, rfl, _, _, rfl, _, _, rfl, rfl, ?_⟩
                dsimp only
                have fin : ∀ H2, Ex H1 H2 → sndOk dy = true → tRet (tOrV (tAndV (tOp (rInS K) (tVar 3) (tVar 0)) (tOp (rInS K) (tVar 5) (tVar 0))) (tAndV (tOp (rInS K) (tVar 3) (tVar 1)) (tOp (rInS K) (tVar 5) (tVar 1)))) { nx := fun _ H' => Q .non H', rt := Q } [some (.ref h), some (.ref t), some (.ref a), some x, some y, some z] H2 := fun H2 e2 hs2 => by
                  have e := e1.trans e2
                  refine s_ret (v := .bl (isDeed hs ss (.tuple [dx, dy, dz]))) (ev_is (ev_orV (ev_andV (ev_in (ev_var rfl) (ev_var rfl) (Sw.ex e _ _ hx) (ex_l e hh)) (fun _ => ev_in (ev_var rfl) (ev_var rfl) (Sw.ex e _ _ hz) (ex_l e hh))) (fun _ => ev_andV (ev_in (ev_var rfl) (ev_var rfl) (Sw.ex e _ _ hx) (ex_l e ht)) (fun _ => ev_in (ev_var rfl) (ev_var rfl) (Sw.ex e _ _ hz) (ex_l e ht)))) ?_) fun H3 e3 => kq H3 (e.trans e3)
                  show _ = V.bl (sndOk dy && _)
                  rw [hs2]
                  rfl
                refine q_when (b := !sndOk dy) (et_is (et_and (et_test (ev_notN (ev_var rfl) rfl)) fun hb2 => et_not (et_B (ev_call (ea_cons (ev_var rfl) ea_nil) (spv_name (Sw.ex e1 _ _ hy) fy)))) ?_) (fun hb2 H2 e2 => s_ret ev_c fun H3 e3 => ?_) (fun hb2 H2 e2 => ?_)
                · rw [isNone_is hy]
                  cases dy <;> rfl
                · have hn : isDeed hs ss (.tuple [dx, dy, dz]) = false := by
                    show (sndOk dy && _) = false
                    rw [show sndOk dy = false by simpa using hb2]
                    rfl
                  have q := kq H3 ((e1.trans e2).trans e3)
                  rw [hn] at q
                  exact q
                · exact fin H2 e2 (by simpa using hb2)
end
end Deed
/-! ### hearings -/
namespace Hear
open PySem PySem.Spec PyProof.Rows L2 Evl Gen Rep Dat Nm Er Chk Deed Ent Pts
def sndSome : PyData → Bool
  | .tuple [_, .none, _] => false
  | _ => true
def isHear (hs ss : List Str) (d : PyData) : Bool := isDeed hs ss d && sndSome d
def spHear (K : PySem.W.Frag) : Sp := fun vs H Q _ => ∃ (h t : Addr) (v : V) (hs ss : List Str) (d : PyData), vs = [.ref h, .ref t, v] ∧ SqL K H h (hs.map V.str) ∧ SqL K H t (ss.map V.str) ∧ Sw K H v d ∧ FitT d ∧ ∀ H', Ex H H' → Q (.bl (isHear hs ss d)) H'
theorem spv_deed {K : PySem.W.Frag} {H : Hp} {h t : Addr} {v : V} {hs ss : List Str} {d : PyData} (hh : SqL K H h (hs.map V.str)) (ht : SqL K H t (ss.map V.str)) (hd : Sw K H v d) (ft : FitT d) : SpV (spDeed K) [.ref h, .ref t, v] H (.bl (isDeed hs ss d)) :=
  fun H1 e Q q E => ⟨h, t, v, hs, ss, d, rfl, ex_l e hh, ex_l e ht, Sw.ex e _ _ hd, ft, fun H' e' => q H' e'⟩
theorem spv_hear {K : PySem.W.Frag} {H : Hp} {h t : Addr} {v : V} {hs ss : List Str} {d : PyData} (hh : SqL K H h (hs.map V.str)) (ht : SqL K H t (ss.map V.str)) (hd : Sw K H v d) (ft : FitT d) : SpV (spHear K) [.ref h, .ref t, v] H (.bl (isHear hs ss d)) :=
  fun H1 e Q q E => ⟨h, t, v, hs, ss, d, rfl, ex_l e hh, ex_l e ht, Sw.ex e _ _ hd, ft, fun H' e' => q H' e'⟩
abbrev sHear : Stmt := top 10
theorem scHe : FnScope ["houses", "stands", "value"] ["houses", "stands", "value"] (defScope sHear) := ⟨rfl, rfl, rfl, by decide +kernel, rfl, by decide +kernel, by decide +kernel⟩
abbrev sAlr : Stmt := top 11
theorem scAl : FnScope ["hearing", "hearings", "earlier"] ["hearing", "hearings"] (defScope sAlr) := ⟨rfl, rfl, rfl, by decide +kernel, rfl, by decide +kernel, by decide +kernel⟩
abbrev E3 := Str × Str × Str
def e3D (e : E3) : PyData := .tuple [.str e.1, .str e.2.1, .str e.2.2]
def k3 (e : E3) : Str × Option Str := (e.1, some e.2.1)
def spAlr (K : PySem.W.Frag) : Sp := fun vs H Q _ => ∃ (v : V) (l : Addr) (xs : List V) (e : E3) (es : List E3), vs = [v, .ref l] ∧ Sw K H v (e3D e) ∧ SqL K H l xs ∧ SwAll K H xs (es.map e3D) ∧ KnOk (k3 e) ∧ (∀ z ∈ es, KnOk (k3 z)) ∧ es.length ≤ 40000 ∧ ∀ H', Ex H H' → Q (.bl (decide (k3 e ∈ es.map k3))) H'
theorem sw_e3 {K : PySem.W.Frag} {H : Hp} {v : V} {e : E3} (h : Sw K H v (e3D e)) : ∃ a, v = .ref a ∧ SqT K H a [.str e.1, .str e.2.1, .str e.2.2] := by
  unfold e3D at h
  cases h with
  | tup hq ha =>
    cases ha with
    | cons h1 ha =>
      cases ha with
      | cons h2 ha =>
        cases ha with
        | cons h3 ha =>
          cases ha
          cases h1
          cases h2
          cases h3
          exact ⟨_, rfl, hq⟩
section
variable {P : Program} {w : World} {K : PySem.W.Frag} {mg : Str → Option Value} {base : Heap}
theorem ok_hear {f fD : Addr} {fd fdD : FuncData} (F : Fun K "is_hearing" "is_hearing" sHear f fd)
    (GD : FnOk P w K mg base CX0 2 fD fdD ["houses", "stands", "value"] (spDeed K)) (mD : mg "is_deed" = some (.ref fD)) (kD : PySem.W.keepIn K (.ref fD) = true) (bD : Binds K fdD ["houses", "stands", "value"] []) : FnOk P w K mg base CX0 3 f fd ["houses", "stands", "value"] (spHear K) := by
  refine F.ok scHe (fun vs H Q E h => ?_) (fun cdv A outer s H vs Q E hr h => ?_)
  · obtain ⟨h, t, v, hs, ss, d, rfl, _⟩ := h
    rfl
  · obtain ⟨h, t, v, hs, ss, d, rfl, hh, ht, hd, ft, kq⟩ := h
    refine ⟨_, (pss_one (ps_ret (pe_and (pe_call GD (hr.mono (by decide)) (by rfl) mD kD bD .nil pass0 (pa_cons (pv 0) (pa_cons (pv 1) (pa_cons (pv 2) pa_nil)))) (pe_one (pe_cmpR op_notN (pe_ix ix_tup (pv 2) pe_int (fun _ _ => rfl)) pe_non (nomark _)))))), ?_⟩
    refine s_ret (v := .bl (isHear hs ss d)) (ev_andV (ev_call (ea_cons (ev_var rfl) (ea_cons (ev_var rfl) (ea_cons (ev_var rfl) ea_nil))) (spv_deed hh ht hd ft)) fun hb => ?_) kq
    cases d with
    | tuple ds =>
      match ds, hb, hd with
      | [dx, dy, dz], _, hd =>
        cases hd with
        | tup hq ha =>
          cases ha with
          | cons hx ha =>
            cases ha with
            | cons hy ha =>
              refine ev_notN (ev_op (ev_var rfl) ev_c (rv_ixT hq (atI_nat (j := 1) rfl))) ?_
              rw [isNone_is hy]
              cases dy <;> rfl
    | none => cases hb
    | bool _ => cases hb
    | int _ => cases hb
    | str _ => cases hb
    | list _ => cases hb
    | dict _ => cases hb
theorem ok_alr {f : Addr} {fd : FuncData} (F : Fun K "is_heard_already" "is_heard_already" sAlr f fd) : FnOk P w K mg base CX0 1 f fd ["hearing", "hearings"] (spAlr K) := by
  refine F.ok scAl (fun vs H Q E h => ?_) (fun cdv A outer s H vs Q E hr h => ?_)
  · obtain ⟨v, l, xs, e, es, rfl, _⟩ := h
    rfl
  · obtain ⟨v, l, xs, e, es, rfl, hv, hl, ha, oe, oes, hn, kq⟩ := h
    obtain ⟨a, rfl, hq⟩ := sw_e3 hv
    have hln := swAll_len ha
    rw [List.length_map] at hln
    refine ⟨_, (pss_one (ps_ret (pe_cmpR (op_inD (Chk.un65 hr)) (pe_slice sl_tup (pv 0) po_none (po_some pe_int)) (pe_lc (own := [("earlier", 2)]) (g := gName 2) (tt := tYes) rfl scAl.nd (pi_list (pv 1)) (blkOk_by (N := ["hearing", "hearings", "earlier"]) (sc := defScope sAlr) (by decide +kernel)) (fun _ _ _ _ _ => pg_name (i := 2) scAl.nd rfl (Or.inl rfl)) (fun _ _ _ _ _ => pts_nil) (fun _ _ _ _ _ => (pe_slice (r := rSlT K) sl_tup (pv 2) po_none (po_some pe_int)))) (by rfl)))), ?_⟩
    refine ⟨_, rfl, _, rfl, a, _, rfl, hq, (show ¬ (HT.sIx 3 0 none = 0 ∧ HT.sIx 3 3 (some 2) = 3) by decide), fun p np => ?_⟩
    have hp : upd H p (.tup (cutV [.str e.1, .str e.2.1, .str e.2.2] none (some 2))) p = some (.tup [.str e.1, .str e.2.1]) := upd_same
    have eH := Ex.new (o := .tup (cutV [.str e.1, .str e.2.1, .str e.2.2] none (some 2))) np
    generalize upd H p (.tup (cutV [.str e.1, .str e.2.1, .str e.2.2] none (some 2))) = H1 at hp eH
    refine ⟨_, rfl, l, rfl, ⟨_, ex_l eH hl⟩, fun D hD => lc_list (xs := xs) (fun i H' => Ex H1 H' ∧ H1 D = none ∧ ∃ R, H' D = some (.lst (R.map V.ref)) ∧ R.length = i ∧ Tups H' R (Kn ((es.take i).map k3))) ⟨Ex.new hD, hD, [], upd_same, rfl, .nil⟩ (fun i H' _ p => ex_l (eH.trans p.1) hl) (fun i x H2 hx p => ?_) fun H2 p => ?_⟩
    · obtain ⟨e2, nD, R, hR, lR, tR⟩ := p
      obtain ⟨d, hd, hsw⟩ := swAll_get ha hx
      obtain ⟨z, hz, rfl⟩ : ∃ z, es[i]? = some z ∧ d = e3D z := by
        rw [List.getElem?_map] at hd
        cases hz : es[i]? with
        | none => rw [hz] at hd; cases hd
        | some z => rw [hz] at hd; exact ⟨z, rfl, (Option.some.inj hd).symm⟩
      obtain ⟨b, rfl, hb⟩ := sw_e3 hsw
      refine ⟨rfl, ⟨_, rfl, _, rfl, b, _, rfl, ex_t (eH.trans e2) hb, (show ¬ (HT.sIx 3 0 none = 0 ∧ HT.sIx 3 3 (some 2) = 3) by decide), fun q nq => ?_⟩⟩
      have e3 := Ex.new (o := .tup (cutV [.str z.1, .str z.2.1, .str z.2.2] none (some 2))) nq
      have hDl := e3 _ _ hR
      have hil := (List.getElem?_eq_some_iff.mp hx).1
      refine ⟨_, hDl, by rw [List.length_map]; exact sz_lt (by omega), (e2.trans e3).mut nD, nD, R ++ [q], by rw [upd_same, List.map_append] <;> rfl, by rw [List.length_append, lR] <;> rfl, ?_⟩
      have et : (es.take (i + 1)).map k3 = (es.take i).map k3 ++ [k3 z] := by
        rw [List.take_succ, hz, List.map_append]
        rfl
      rw [et]
      unfold Kn
      rw [List.map_append]
      exact tups_upd hDl (tups_app (tR.ex e3) (upd_same (o := .tup (cutV [.str z.1, .str z.2.1, .str z.2.2] none (some 2)))))
    · obtain ⟨e2, nD, R, hR, lR, tR⟩ := p
      rw [List.take_of_length_le (by omega)] at tR
      have kall : ∀ k ∈ es.map k3, KnOk k := fun k hk => by
        obtain ⟨z, hz, rfl⟩ := List.mem_map.mp hk
        exact oes z hz
      refine ⟨knD (k3 e), (es.map k3).map knD, .tup (SqT.of (e2 _ _ hp)) (.cons (.str _) (.cons (.str _) .nil)), .lst (SqL.of hR) (kn_dp tR), kn_shaped _ oe, kns_shaped _ kall, ?_⟩
      rw [kn_any]
      exact kq H2 (eH.trans e2)
end
end Hear
/-! ### check_deeds, check_hearings -/
namespace Lst
open PySem PySem.Spec PyProof.Rows L2 Evl Gen Rep Dat Nm Er Chk Deed Pts Hear
def badD (hs ss : List Str) (ds : List PyData) (i : Nat) : Bool := match ds[i]? with
  | none => false
  | some d => !isDeed hs ss d
def keyH : PyData → Str × Option Str
  | .tuple [.str a, .str b, _] => (a, some b)
  | _ => ("", none)
def badH (hs ss : List Str) (ds : List PyData) (i : Nat) : Bool := match ds[i]? with
  | none => false
  | some d => !isHear hs ss d || decide (keyH d ∈ (ds.take i).map keyH)
theorem nm_ok {z : Str} (h : nmS z = true) : PyData.strOk z = true := by
  unfold nmS at h
  rw [Bool.and_eq_true, Bool.and_eq_true] at h
  have h3 := h.2
  unfold PyData.strOk
  rw [← Array.all_toList]
  rw [List.all_eq_true] at h3 ⊢
  intro c hc
  have := h3 c hc
  unfold low at this
  simp only [Bool.and_eq_true, decide_eq_true_eq] at this ⊢
  omega
theorem sIn_str {l : List Str} {d : PyData} (h : sIn l d = true) : ∃ s, d = .str s ∧ s ∈ l := by
  cases d with
  | str s => exact ⟨s, rfl, of_decide_eq_true h⟩
  | none => cases h
  | bool _ => cases h
  | int _ => cases h
  | list _ => cases h
  | tuple _ => cases h
  | dict _ => cases h
theorem hear_e3 {hs ss : List Str} {d : PyData} (h1 : ∀ s ∈ hs, nmS s = true) (h2 : ∀ s ∈ ss, nmS s = true) (h : isHear hs ss d = true) : ∃ e : E3, d = e3D e ∧ KnOk (k3 e) ∧ keyH d = k3 e := by
  unfold isHear at h
  rw [Bool.and_eq_true] at h
  obtain ⟨hd, hn⟩ := h
  cases d with
  | tuple xs =>
    match xs, hd, hn with
    | [p, s, o], hd, hn =>
      have hd' : (sndOk s && ((sIn hs p && sIn hs o) || (sIn ss p && sIn ss o))) = true := hd
      simp only [Bool.and_eq_true, Bool.or_eq_true] at hd'
      obtain ⟨hs1, hp⟩ := hd'
      obtain ⟨z, rfl, hz⟩ : ∃ z, s = .str z ∧ nmS z = true := by
        cases s with
        | str z => exact ⟨z, rfl, hs1⟩
        | none => cases hn
        | bool _ => cases hs1
        | int _ => cases hs1
        | list _ => cases hs1
        | tuple _ => cases hs1
        | dict _ => cases hs1
      obtain ⟨a, b, rfl, rfl, ha⟩ : ∃ a b, p = .str a ∧ o = .str b ∧ nmS a = true := by
        rcases hp with ⟨x, y⟩ | ⟨x, y⟩
        · obtain ⟨a, rfl, ma⟩ := sIn_str x
          obtain ⟨b, rfl, _⟩ := sIn_str y
          exact ⟨a, b, rfl, rfl, h1 _ ma⟩
        · obtain ⟨a, rfl, ma⟩ := sIn_str x
          obtain ⟨b, rfl, _⟩ := sIn_str y
          exact ⟨a, b, rfl, rfl, h2 _ ma⟩
      exact ⟨(a, z, b), rfl, ⟨nm_ok ha, fun s hs => by cases hs; exact nm_ok hz⟩, rfl⟩
  | none => cases hd
  | bool _ => cases hd
  | int _ => cases hd
  | str _ => cases hd
  | list _ => cases hd
  | dict _ => cases hd
theorem hears_e3 {hs ss : List Str} (h1 : ∀ s ∈ hs, nmS s = true) (h2 : ∀ s ∈ ss, nmS s = true) : ∀ {ds : List PyData}, (∀ d ∈ ds, isHear hs ss d = true) → ∃ es : List E3, ds = es.map e3D ∧ (∀ e ∈ es, KnOk (k3 e)) ∧ ds.map keyH = es.map k3
  | [], _ => ⟨[], rfl, (fun e he => nomatch he), rfl⟩
  | d :: ds, h => by
    obtain ⟨e, rfl, h3, h4⟩ := hear_e3 h1 h2 (h d (List.mem_cons_self ..))
    obtain ⟨es, rfl, h5, h6⟩ := hears_e3 h1 h2 fun z m => h z (List.mem_cons_of_mem _ m)
    refine ⟨e :: es, rfl, fun z m => ?_, by rw [List.map_cons, List.map_cons, h4, h6]⟩
    rcases List.mem_cons.mp m with rfl | m
    · exact h3
    · exact h5 z m
def spDeeds (K : PySem.W.Frag) (CI : Addr) : Sp := fun vs H Q E => ∃ (h t a : Addr) (hs ss : List Str) (xs : List V) (ds : List PyData), vs = [.ref h, .ref t, .ref a] ∧ SqL K H h (hs.map V.str) ∧ SqL K H t (ss.map V.str) ∧ SqL K H a xs ∧ SwAll K H xs ds ∧ (∀ d ∈ ds, FitT d) ∧ ds.length ≤ 40000 ∧
  (firstBad ds.length (badD hs ss ds) = none → ∀ H', Ex H H' → Q .non H') ∧ (∀ i x, firstBad ds.length (badD hs ss ds) = some i → xs[i]? = some x → Bad CI x H E)
def spHears (K : PySem.W.Frag) (CI : Addr) : Sp := fun vs H Q E => ∃ (h t a : Addr) (hs ss : List Str) (xs : List V) (ds : List PyData), vs = [.ref h, .ref t, .ref a] ∧ SqL K H h (hs.map V.str) ∧ SqL K H t (ss.map V.str) ∧ SqL K H a xs ∧ SwAll K H xs ds ∧ (∀ d ∈ ds, FitT d) ∧ ds.length ≤ 40000 ∧
  (∀ s ∈ hs, nmS s = true) ∧ (∀ s ∈ ss, nmS s = true) ∧
  (firstBad ds.length (badH hs ss ds) = none → ∀ H', Ex H H' → Q .non H') ∧ (∀ i x, firstBad ds.length (badH hs ss ds) = some i → xs[i]? = some x → Bad CI x H E)
abbrev sDeeds : Stmt := top 12
theorem scDs : FnScope ["houses", "stands", "deeds", "item"] ["houses", "stands", "deeds"] (defScope sDeeds) := ⟨rfl, rfl, rfl, by decide +kernel, rfl, by decide +kernel, by decide +kernel⟩
abbrev sHears : Stmt := top 13
theorem scHs : FnScope ["houses", "stands", "hearings", "at", "item"] ["houses", "stands", "hearings"] (defScope sHears) := ⟨rfl, rfl, rfl, by decide +kernel, rfl, by decide +kernel, by decide +kernel⟩
section
variable {P : Program} {w : World} {K : PySem.W.Frag} {mg : Str → Option Value} {base : Heap}
theorem ok_deeds {f CI fD : Addr} {fd fdD : FuncData} (F : Fun K "check_deeds" "check_deeds" sDeeds f fd) (c : ErC P w K mg base "InvalidItem" "value" CI)
    (GD : FnOk P w K mg base CX0 2 fD fdD ["houses", "stands", "value"] (spDeed K)) (mD : mg "is_deed" = some (.ref fD)) (kD : PySem.W.keepIn K (.ref fD) = true) (bD : Binds K fdD ["houses", "stands", "value"] []) : FnOk P w K mg base (CX P w) 4 f fd ["houses", "stands", "deeds"] (spDeeds K CI) := by
  refine F.okX scDs (fun vs H Q E h => ?_) (fun cdv A outer s H vs Q E hr h => ?_)
  · obtain ⟨h, t, a, hs, ss, xs, ds, rfl, _⟩ := h
    rfl
  · obtain ⟨h, t, a, hs, ss, xs, ds, rfl, hh, ht, ha, hx, ft, hn, kq, ke⟩ := h
    refine ⟨_, (pss_one (ps_for (passes_of rfl) rfl (pi_list (pv 2)) (pg_name (i := 3) scDs.nd rfl (Or.inl rfl)) (pss_one (ps_if (pt_not (pt_val (pe_call GD (hr.mono (by decide)) (by rfl) mD kD bD .nil pass0 (pa_cons (pv 0) (pa_cons (pv 1) (pa_cons (pv 3) pa_nil)))))) (pss_one (ps_rE c rfl (hr.mono (by decide)) rfl (takes_of rfl rfl rfl rfl) (pa_cons (pv 3) pa_nil))) pss_nil)))), ?_⟩
    have hl := swAll_len hx
    refine ⟨_, rfl, a, rfl, ⟨xs, ha⟩, for_list (xs := xs) (fun i σ H' => ∃ s3, σ = [some (.ref h), some (.ref t), some (.ref a), s3] ∧ Ex H H' ∧ ∀ j, j < i → badD hs ss ds j = false) ⟨_, rfl, Ex.refl H, fun j hj => by omega⟩ (fun i σ H' _ p => ?_) ?_ (fun σ H' p => ?_)⟩
    · obtain ⟨s3, rfl, e, _⟩ := p
      exact ex_l e ha
    · rintro i y σ H1 hy ⟨s3, rfl, e1, nb⟩
      obtain ⟨d, hd, hyd⟩ := swAll_get hx hy
      have fd' : FitT d := ft d (List.mem_of_getElem? hd)
      have hi := (List.getElem?_eq_some_iff.mp hy).1
      refine s_when (b := badD hs ss ds i) ?_ (fun hb H3 e3 => ?_) (fun hb H3 e3 => ?_)
      · have eb : badD hs ss ds i = !isDeed hs ss d := by unfold badD; rw [hd]
        rw [eb]
        exact et_not (et_B (ev_call (ea_cons (ev_var rfl) (ea_cons (ev_var rfl) (ea_cons (ev_var rfl) ea_nil))) (spv_deed (ex_l e1 hh) (ex_l e1 ht) (Sw.ex e1 d y hyd) fd')))
      · exact ⟨y, rfl, fun dd H4 n4 e4 h4 => ke i y (first_some (by omega) hb nb) hy dd H4 (fresh_back (e1.trans e3) n4) ((e1.trans e3).trans e4) h4⟩
      · refine ⟨_, rfl, e1.trans e3, fun j hj => ?_⟩
        by_cases hj2 : j < i
        · exact nb j hj2
        · obtain rfl : j = i := by omega
          exact hb
    · obtain ⟨s3, rfl, e, nb⟩ := p
      exact kq (first_none fun j hj => nb j (by omega)) H' e
theorem spv_alr {K : PySem.W.Frag} {H : Hp} {v : V} {l : Addr} {xs : List V} {e : E3} {es : List E3} (hv : Sw K H v (e3D e)) (hl : SqL K H l xs) (ha : SwAll K H xs (es.map e3D)) (oe : KnOk (k3 e)) (oes : ∀ z ∈ es, KnOk (k3 z)) (hn : es.length ≤ 40000) :
    SpV (spAlr K) [v, .ref l] H (.bl (decide (k3 e ∈ es.map k3))) := fun H1 x Q q E => ⟨v, l, xs, e, es, rfl, Sw.ex x _ _ hv, ex_l x hl, SwAll.ex x _ _ ha, oe, oes, hn, fun H' e' => q H' e'⟩
theorem ok_hears {f CI fH fA : Addr} {fd fdH fdA : FuncData} (F : Fun K "check_hearings" "check_hearings" sHears f fd) (B : Bt mg) (c : ErC P w K mg base "InvalidItem" "value" CI)
    (GH : FnOk P w K mg base CX0 3 fH fdH ["houses", "stands", "value"] (spHear K)) (mH : mg "is_hearing" = some (.ref fH)) (kH : PySem.W.keepIn K (.ref fH) = true) (bH : Binds K fdH ["houses", "stands", "value"] [])
    (GA : FnOk P w K mg base CX0 1 fA fdA ["hearing", "hearings"] (spAlr K)) (mA : mg "is_heard_already" = some (.ref fA)) (kA : PySem.W.keepIn K (.ref fA) = true) (bA : Binds K fdA ["hearing", "hearings"] []) : FnOk P w K mg base (CX P w) 4 f fd ["houses", "stands", "hearings"] (spHears K CI) := by
  refine F.okX scHs (fun vs H Q E h => ?_) (fun cdv A outer s H vs Q E hr h => ?_)
  · obtain ⟨h, t, a, hs, ss, xs, ds, rfl, _⟩ := h
    rfl
  · obtain ⟨h, t, a, hs, ss, xs, ds, rfl, hh, ht, ha, hx, ft, hn, n1, n2, kq, ke⟩ := h
    refine ⟨_, (pss_one (ps_for (passes_of rfl) rfl (pi_enum (by rfl) B.enum (pa_cons (pv 2) pa_nil)) (pg_tup rfl (pgs_cons (pg_name (i := 3) scHs.nd rfl (Or.inl rfl)) (pgs_cons (pg_name (i := 4) scHs.nd rfl (Or.inl rfl)) pgs_nil))) (pss_one (ps_if (PW.pt (pw_or (pt_not (pt_val (pe_call GH (hr.mono (by decide)) (by rfl) mH kH bH .nil pass0 (pa_cons (pv 0) (pa_cons (pv 1) (pa_cons (pv 4) pa_nil)))))) (pw_or1 (pt_val (pe_call GA (hr.mono (by decide)) (by rfl) mA kA bA .nil pass0 (pa_cons (pv 4) (pa_cons (pe_slice sl_list (pv 2) po_none (po_some (pv 3))) pa_nil))))))) (pss_one (ps_rE c rfl (hr.mono (by decide)) rfl (takes_of rfl rfl rfl rfl) (pa_cons (pv 4) pa_nil))) pss_nil)))), ?_⟩
    have hl := swAll_len hx
    refine ⟨_, rfl, a, xs, rfl, ha, for_it (walk_enum (xs := xs)) (fun i σ H' => ∃ s3 s4, σ = [some (.ref h), some (.ref t), some (.ref a), s3, s4] ∧ Ex H H' ∧ ∀ j, j < i → badH hs ss ds j = false) ⟨_, _, rfl, Ex.refl H, fun j hj => by omega⟩ (fun i σ H' _ p => ?_) ?_ (fun σ H' p => ?_)⟩
    · obtain ⟨s3, s4, rfl, e, _⟩ := p
      exact ex_l e ha
    · rintro i x σ H1 H2 hi ⟨s3, s4, rfl, e1, nb⟩ ⟨T, ix, y, rfl, nT, rfl, hix, hy⟩
      obtain rfl : V.int (i : Nat) = ix := Option.some.inj hix
      obtain ⟨d, hd, hyd⟩ := swAll_get hx hy
      have fd' : FitT d := ft d (List.mem_of_getElem? hd)
      have eT : Ex H1 (upd H1 T (.tup [.int (i : Nat), y])) := Ex.new nT
      have e2 := e1.trans eT
      have pre : ∀ z ∈ ds.take i, isHear hs ss z = true := fun z hz => by
        obtain ⟨j, hj, rfl⟩ := List.mem_iff_getElem.mp hz
        rw [List.length_take] at hj
        have q := nb j (by omega)
        rw [List.getElem_take]
        unfold badH at q
        rw [List.getElem?_eq_getElem (by omega)] at q
        simp only [Bool.or_eq_false_iff, Bool.not_eq_false'] at q
        exact q.1
      obtain ⟨es, hes, oes, kes⟩ := hears_e3 n1 n2 pre
      refine ⟨T, _, rfl, SqT.of upd_same, rfl, _, _, rfl, _, _, rfl, rfl, ?_⟩
      refine s_when (b := badH hs ss ds i) ?_ (fun hb H3 e3 => ?_) (fun hb H3 e3 => ?_)
      · have eb : badH hs ss ds i = (!isHear hs ss d || decide (keyH d ∈ (ds.take i).map keyH)) := by unfold badH; rw [hd]
        rw [eb]
        refine et_or (et_not (et_B (ev_call (ea_cons (ev_var rfl) (ea_cons (ev_var rfl) (ea_cons (ev_var rfl) ea_nil))) (spv_hear (ex_l e2 hh) (ex_l e2 ht) (Sw.ex e2 d y hyd) fd')))) fun hb => ?_
        obtain ⟨e, rfl, oe, ke3⟩ := hear_e3 n1 n2 (by simpa using hb)
        rw [ke3, kes]
        have hxs := SwAll.ex e2 _ _ (swAll_take i hx)
        rw [hes] at hxs
        have les : es.length ≤ 40000 := by
          have : (ds.take i).length = es.length := by rw [hes, List.length_map]
          rw [List.length_take] at this
          omega
        refine et_B (fun H4 e4 Q4 q4 => ?_)
        refine ⟨_, rfl, _, rfl, _, rfl, _, rfl, a, xs, rfl, ex_l (e2.trans e4) ha, fun p np => ?_⟩
        have e5 := Ex.new (o := .lst (cutV xs none (some ((i : Nat) : Int)))) np
        refine spv_alr (Sw.ex (e4.trans e5) _ _ (Sw.ex e2 _ _ hyd)) (SqL.of (upd_same (o := .lst (cutV xs none (some ((i : Nat) : Int)))))) ?_ oe oes les _ (Ex.refl _) _ (fun H6 e6 => q4 H6 (e5.trans e6)) E0
        rw [cut_take]
        rw [cut_take] at e5
        exact SwAll.ex (e4.trans e5) _ _ hxs
      · exact ⟨y, rfl, fun dd H4 n4 e4 h4 => ke i y (first_some (by omega) hb nb) hy dd H4 (fresh_back (e2.trans e3) n4) ((e2.trans e3).trans e4) h4⟩
      · refine ⟨_, _, rfl, e2.trans e3, fun j hj => ?_⟩
        by_cases hj2 : j < i
        · exact nb j hj2
        · obtain rfl : j = i := by omega
          exact hb
    · obtain ⟨s3, s4, rfl, e, nb⟩ := p
      exact kq (first_none fun j hj => nb j (by omega)) H' e
end
end Lst
/-! ### a book is made -/
namespace Bk
open PySem PySem.Spec PyProof.Rows L2 Evl Gen Ent Rep Dat Nm Er Chk Deed Pts Hear Lst
/-- a def of the top that keeps a promise -/
structure Df (P : Program) (w : World) (K : PySem.W.Frag) (mg : Str → Option Value) (base : Heap) (cx : CXT) (k : Nat) (x : Str) (ps : List Str) (sp : Sp) : Prop where
  ex : ∃ f fd, FnOk P w K mg base cx k f fd ps sp ∧ mg x = some (.ref f) ∧ PySem.W.keepIn K (.ref f) = true ∧ Binds K fd ps []
section
variable {X : Cx} {cx : CXT} {k j : Nat} {ps : List Str} {sp : Sp} {E : XK} {x : Str} {p pos : Pos} {e : Expr} {es : List Expr} {t : TA}
theorem pe_df (D : Df X.prog X.w X.K X.mg X.base cx k x ps sp) (hr : Room j X.A) (hx : Passes cx X E) (ha : PA X (e :: es) t) (hk : k ≤ j := by decide) (hg : Gl X x := by rfl) (hdb : (x == ("__debug__" : Str)) = false := by decide)
    (he : starEach (e :: es) X.env = (false, eval e X.env) :: starEach es X.env := by rfl) (hpl : (backTo pos (starEach es X.env)).any (·.1) = false := by rfl) :
    PE X (.Call (.Name x p) (e :: es) [] pos) (tCall sp [] E t) := by
  obtain ⟨f, fd, G, hm, hkp, hb⟩ := D.ex
  exact pe_call G (hr.mono hk) hg hm hkp hb .nil hx ha hdb he hpl
end
/-- the items of a list -/
def items : PyData → List PyData
  | .list ds => ds
  | _ => []
abbrev Er := Option (Bool × PyData)
def manyE (d : PyData) (a b : Int) : Er := if many d a b then none else some (true, d)
def itemE (ds : List PyData) (bad : Nat → Bool) : Er := match firstBad ds.length bad with
  | none => none
  | some i => some (false, ds.getD i .none)
def orE (a b : Er) : Er := match a with
  | none => b
  | some e => some e
/-- the first thing that is wrong with what a book is made of: a list, or an item -/
def bookErr (d1 d2 d3 d4 d5 : PyData) : Er :=
  orE (manyE d1 1 3) (orE (itemE (items d1) (badN [] (items d1))) (orE (manyE d2 1 4) (orE (itemE (items d2) (badN ((items d1).map txt) (items d2)))
    (orE (manyE d3 0 10) (orE (itemE (items d3) (badD ((items d1).map txt) ((items d2).map txt) (items d3)))
      (orE (manyE d4 0 12) (orE (itemE (items d4) (badH ((items d1).map txt) ((items d2).map txt) (items d4))) (orE (manyE d5 0 4) (itemE (items d5) (badN [] (items d5)))))))))))
/-- all in it fits: names' lists, entries' lists -/
def FitN (d : PyData) : Prop := ∀ x ∈ items d, Fit x
def FitE (d : PyData) : Prop := ∀ x ∈ items d, FitT x
/-- what a book holds: five lists' values -/
structure BD where
  h : List V
  s : List V
  d : List V
  r : List V
  l : List V
def IsBook (H : Hp) (C p : Addr) (B : BD) : Prop := ∃ dx b1 b2 b3 b4 b5, H p = some (.ins C dx [("_houses", .ref b1), ("_stands", .ref b2), ("_deeds", .ref b3), ("_hearings", .ref b4), ("_lost", .ref b5)]) ∧
  H b1 = some (.lst B.h) ∧ H b2 = some (.lst B.s) ∧ H b3 = some (.lst B.d) ∧ H b4 = some (.lst B.r) ∧ H b5 = some (.lst B.l)
/-- the same, and its lists are new since H -/
def NewBook (H0 H : Hp) (C p : Addr) (B : BD) : Prop := ∃ dx b1 b2 b3 b4 b5, H p = some (.ins C dx [("_houses", .ref b1), ("_stands", .ref b2), ("_deeds", .ref b3), ("_hearings", .ref b4), ("_lost", .ref b5)]) ∧
  (H b1 = some (.lst B.h) ∧ H b2 = some (.lst B.s) ∧ H b3 = some (.lst B.d) ∧ H b4 = some (.lst B.r) ∧ H b5 = some (.lst B.l)) ∧ (H0 b1 = none ∧ H0 b2 = none ∧ H0 b3 = none ∧ H0 b4 = none ∧ H0 b5 = none)
theorem NewBook.is {H0 H : Hp} {C p : Addr} {B : BD} (h : NewBook H0 H C p B) : IsBook H C p B := by
  obtain ⟨dx, b1, b2, b3, b4, b5, h0, ⟨h1, h2, h3, h4, h5⟩, _⟩ := h
  exact ⟨dx, b1, b2, b3, b4, b5, h0, h1, h2, h3, h4, h5⟩
/-- the list that a value is -/
def Src (K : PySem.W.Frag) (H : Hp) (v : V) (xs : List V) : Prop := ∃ a, v = .ref a ∧ SqL K H a xs
theorem mv_back {H H' : Hp} {p b : Addr} (m : Mv p H H') (ne : b ≠ p) (n : H' b = none) : H b = none := by
  cases e : H b with
  | none => rfl
  | some o =>
    have := m b o ne e
    rw [n] at this
    cases this
/-- the class: its facts -/
structure BC (K : PySem.W.Frag) (C : Addr) : Prop where
  cl : Cls K C
  n1 : NoAttr K C "_houses"
  n2 : NoAttr K C "_stands"
  n3 : NoAttr K C "_deeds"
  n4 : NoAttr K C "_hearings"
  n5 : NoAttr K C "_lost"
/-- Book.__init__ -/
def spInit (K : PySem.W.Frag) (CL CI C : Addr) : Sp := fun vs H Q E => ∃ (p dx : Addr) (v1 v2 v3 v4 v5 : V) (d1 d2 d3 d4 d5 : PyData), vs = [.ref p, v1, v2, v3, v4, v5] ∧ H p = some (.ins C dx []) ∧
  (Sw K H v1 d1 ∧ Sw K H v2 d2 ∧ Sw K H v3 d3 ∧ Sw K H v4 d4 ∧ Sw K H v5 d5) ∧ (FitN d1 ∧ FitN d2 ∧ FitE d3 ∧ FitE d4 ∧ FitN d5) ∧
  (bookErr d1 d2 d3 d4 d5 = none → ∀ H' B, Mv p H H' → NewBook H H' C p B → (Src K H v1 B.h ∧ Src K H v2 B.s ∧ Src K H v3 B.d ∧ Src K H v4 B.r ∧ Src K H v5 B.l) → SwAll K H' B.h (items d1) → SwAll K H' B.s (items d2) → SwAll K H' B.d (items d3) → SwAll K H' B.r (items d4) → SwAll K H' B.l (items d5) → Q .non H') ∧
  (∀ b d, bookErr d1 d2 d3 d4 d5 = some (b, d) → ∀ v, Sw K H v d → Bad (if b then CL else CI) v H E)
abbrev sInit : Stmt := inClass (top 14) 0
abbrev NIn : List Str := ["self", "houses", "stands", "deeds", "hearings", "lost"]
theorem scIn : FnScope NIn NIn (defScope sInit) := ⟨rfl, rfl, rfl, by decide +kernel, rfl, by decide +kernel, by decide +kernel⟩
theorem many_list {d : PyData} {a b : Int} (h : many d a b = true) : ∃ ds, d = .list ds ∧ (ds.length : Int) ≤ b := by
  cases d with
  | list ds =>
    refine ⟨ds, rfl, ?_⟩
    have h' : (decide (a ≤ ds.length) && decide ((ds.length : Int) ≤ b)) = true := h
    simp at h'
    exact h'.2
  | none => cases h
  | bool _ => cases h
  | int _ => cases h
  | str _ => cases h
  | tuple _ => cases h
  | dict _ => cases h
theorem sw_list {K : PySem.W.Frag} {H : Hp} {v : V} {ds : List PyData} (h : Sw K H v (.list ds)) : ∃ a xs, v = .ref a ∧ SqL K H a xs ∧ SwAll K H xs ds := by
  cases h with
  | lst hq ha => exact ⟨_, _, rfl, hq, ha⟩
theorem names_all {tk : List Str} {ds : List PyData} (h : firstBad ds.length (badN tk ds) = none) : ∀ d ∈ ds, isNm d = true := by
  intro d hd
  unfold firstBad at h
  rw [List.find?_eq_none] at h
  obtain ⟨i, hi, rfl⟩ := List.mem_iff_getElem.mp hd
  have q := h i (by simpa using hi)
  unfold badN at q
  rw [List.getElem?_eq_getElem hi] at q
  simp only [Bool.or_eq_true, Bool.not_eq_true', not_or, Bool.not_eq_false] at q
  exact q.1
theorem txt_nm {ds : List PyData} (h : ∀ d ∈ ds, isNm d = true) : ∀ s ∈ ds.map txt, nmS s = true := by
  intro s hs
  obtain ⟨d, hd, rfl⟩ := List.mem_map.mp hs
  have q := h d hd
  cases d with
  | str z => exact q
  | none => cases q
  | bool _ => cases q
  | int _ => cases q
  | list _ => cases q
  | tuple _ => cases q
  | dict _ => cases q
theorem sql_mv {K : PySem.W.Frag} {H H' : Hp} {p C dx a : Addr} {fs : List (Str × V)} {xs : List V} (hp : H p = some (.ins C dx fs)) (m : Mv p H H') (h : SqL K H a xs) : SqL K H' a xs := by
  rcases h with (h | ⟨o, h⟩) | h
  · exact .inl (.inl (m _ _ (ne_of h hp (by intro z; cases z)) h))
  · exact .inl (.inr ⟨o, m _ _ (ne_of h hp (by intro z; cases z)) h⟩)
  · exact .inr h
theorem sqt_mv {K : PySem.W.Frag} {H H' : Hp} {p C dx a : Addr} {fs : List (Str × V)} {xs : List V} (hp : H p = some (.ins C dx fs)) (m : Mv p H H') (h : SqT K H a xs) : SqT K H' a xs := by
  rcases h with (h | ⟨o, h⟩) | h
  · exact .inl (.inl (m _ _ (ne_of h hp (by intro z; cases z)) h))
  · exact .inl (.inr ⟨o, m _ _ (ne_of h hp (by intro z; cases z)) h⟩)
  · exact .inr h
section
variable {K : PySem.W.Frag} {H H' : Hp} {p C dx : Addr} {fs : List (Str × V)} (hp : H p = some (.ins C dx fs)) (m : Mv p H H')
include hp m
mutual
theorem sw_mv : ∀ (d : PyData) (v : V), Sw K H v d → Sw K H' v d
  | .none, _, h => by cases h; exact .non
  | .bool b, _, h => by cases h; exact .bl b
  | .int i, _, h => by cases h; exact .int i
  | .str x, _, h => by cases h; exact .str x
  | .list ds, _, h => by
    cases h with
    | lst hs ha => exact .lst (sql_mv hp m hs) (swAll_mv ds _ ha)
  | .tuple ds, _, h => by
    cases h with
    | tup hs ha => exact .tup (sqt_mv hp m hs) (swAll_mv ds _ ha)
  | .dict ds, _, h => by
    cases h with
    | dct hs ha => exact .dct (m _ _ (ne_of hs hp (by intro z; cases z)) hs) (swKv_mv ds _ ha)
theorem swAll_mv : ∀ (ds : List PyData) (vs : List V), SwAll K H vs ds → SwAll K H' vs ds
  | [], _, h => by cases h; exact .nil
  | d :: ds, _, h => by
    cases h with
    | cons h1 h2 => exact .cons (sw_mv d _ h1) (swAll_mv ds _ h2)
theorem swKv_mv : ∀ (ds : List (PyData × PyData)) (kvs : List (Key × V)), SwKv K H kvs ds → SwKv K H' kvs ds
  | [], _, h => by cases h; exact .nil
  | (_, d) :: ds, _, h => by
    cases h with
    | cons h1 h2 => exact .cons (sw_mv d _ h1) (swKv_mv ds _ h2)
end
end
theorem store {H : Hp} {p b C dx : Addr} {fs : List (Str × V)} {X : List V} {f : Str} (hp : H p = some (.ins C dx fs)) (nb : H b = none) :
    b ≠ p ∧ upd (upd H b (.lst X)) p (.ins C dx (putF f (.ref b) fs)) p = some (.ins C dx (putF f (.ref b) fs)) ∧ upd (upd H b (.lst X)) p (.ins C dx (putF f (.ref b) fs)) b = some (.lst X) ∧ Mv p H (upd (upd H b (.lst X)) p (.ins C dx (putF f (.ref b) fs))) := by
  have n : b ≠ p := (ne_of_none hp nb).symm
  refine ⟨n, upd_same, by rw [upd_ne n, upd_same], (Mv.of (Ex.new nb)).trans Mv.upd⟩
theorem fields5 (a b c d e : V) : putF "_lost" e (putF "_hearings" d (putF "_deeds" c (putF "_stands" b (putF "_houses" a [])))) = ([("_houses", a), ("_stands", b), ("_deeds", c), ("_hearings", d), ("_lost", e)] : List (Str × V)) := by rfl
section
variable {P : Program} {w : World} {K : PySem.W.Frag} {mg : Str → Option Value} {base : Heap}
/-- the checks, each with its promise -/
structure Chks (P : Program) (w : World) (K : PySem.W.Frag) (mg : Str → Option Value) (base : Heap) (CL CI : Addr) : Prop where
  many : Df P w K mg base (CX P w) 3 "check_many" ["value", "least", "most"] (spMany K CL)
  names : Df P w K mg base (CX P w) 3 "check_names" ["names", "taken"] (spNames K CI)
  deeds : Df P w K mg base (CX P w) 4 "check_deeds" ["houses", "stands", "deeds"] (spDeeds K CI)
  hears : Df P w K mg base (CX P w) 4 "check_hearings" ["houses", "stands", "hearings"] (spHears K CI)
set_option maxHeartbeats 2000000 in
theorem ok_init {f CL CI C : Addr} {fd : FuncData} (F : Fun K "__init__" "Book.__init__" sInit f fd) (B : Bt mg) (T : Chks P w K mg base CL CI) (c : BC K C) : FnOk P w K mg base (CX P w) 5 f fd NIn (spInit K CL CI C) := by
  refine F.okX scIn (fun vs H Q E h => ?_) (fun cdv A outer s H vs Q E hr h => ?_)
  · obtain ⟨p, dx, v1, v2, v3, v4, v5, d1, d2, d3, d4, d5, rfl, _⟩ := h
    rfl
  · obtain ⟨p, dx, v1, v2, v3, v4, v5, d1, d2, d3, d4, d5, rfl, hp, ⟨w1, w2, w3, w4, w5⟩, ⟨f1, f2, f3, f4, f5⟩, kq, ke⟩ := h
    refine ⟨_, (pss_cons (ps_expr (pe_df T.many hr (passes_call (takes_of rfl rfl rfl rfl) (fun _ _ _ _ h => h)) (pa_cons (pv 1) (pa_cons pe_int (pa_cons pe_int pa_nil)))))
      (pss_cons (ps_expr (pe_df T.names hr (passes_call (takes_of rfl rfl rfl rfl) (fun _ _ _ _ h => h)) (pa_cons (pv 1) (pa_cons (pe_lst pa_nil) pa_nil))))
      (pss_cons (ps_expr (pe_df T.many hr (passes_call (takes_of rfl rfl rfl rfl) (fun _ _ _ _ h => h)) (pa_cons (pv 2) (pa_cons pe_int (pa_cons pe_int pa_nil)))))
      (pss_cons (ps_expr (pe_df T.names hr (passes_call (takes_of rfl rfl rfl rfl) (fun _ _ _ _ h => h)) (pa_cons (pv 2) (pa_cons (pv 1) pa_nil))))
      (pss_cons (ps_expr (pe_df T.many hr (passes_call (takes_of rfl rfl rfl rfl) (fun _ _ _ _ h => h)) (pa_cons (pv 3) (pa_cons pe_int (pa_cons pe_int pa_nil)))))
      (pss_cons (ps_expr (pe_df T.deeds hr (passes_call (takes_of rfl rfl rfl rfl) (fun _ _ _ _ h => h)) (pa_cons (pv 1) (pa_cons (pv 2) (pa_cons (pv 3) pa_nil)))))
      (pss_cons (ps_expr (pe_df T.many hr (passes_call (takes_of rfl rfl rfl rfl) (fun _ _ _ _ h => h)) (pa_cons (pv 4) (pa_cons pe_int (pa_cons pe_int pa_nil)))))
      (pss_cons (ps_expr (pe_df T.hears hr (passes_call (takes_of rfl rfl rfl rfl) (fun _ _ _ _ h => h)) (pa_cons (pv 1) (pa_cons (pv 2) (pa_cons (pv 4) pa_nil)))))
      (pss_cons (ps_expr (pe_df T.many hr (passes_call (takes_of rfl rfl rfl rfl) (fun _ _ _ _ h => h)) (pa_cons (pv 5) (pa_cons pe_int (pa_cons pe_int pa_nil)))))
      (pss_cons (ps_expr (pe_df T.names hr (passes_call (takes_of rfl rfl rfl rfl) (fun _ _ _ _ h => h)) (pa_cons (pv 5) (pa_cons (pe_lst pa_nil) pa_nil))))
      (pss_cons (ps_fld (pv 0) (pe_callTy call_list_of (by rfl) B.list (by decide +kernel) (pa_cons (pv 1) pa_nil)) rfl)
      (pss_cons (ps_fld (pv 0) (pe_callTy call_list_of (by rfl) B.list (by decide +kernel) (pa_cons (pv 2) pa_nil)) rfl)
      (pss_cons (ps_fld (pv 0) (pe_callTy call_list_of (by rfl) B.list (by decide +kernel) (pa_cons (pv 3) pa_nil)) rfl)
      (pss_cons (ps_fld (pv 0) (pe_callTy call_list_of (by rfl) B.list (by decide +kernel) (pa_cons (pv 4) pa_nil)) rfl)
      (pss_one (ps_fld (pv 0) (pe_callTy call_list_of (by rfl) B.list (by decide +kernel) (pa_cons (pv 5) pa_nil)) rfl)))))))))))))))), ?_⟩
    have kb : ∀ (b : Bool) (d : PyData) (v : V) (H' : Hp), bookErr d1 d2 d3 d4 d5 = some (b, d) → Sw K H v d → Ex H H' → Bad (if b then CL else CI) v H' E := fun b d v H' h s e => (ke b d h v s).ex e
    -- houses
    refine ⟨_, rfl, v1, d1, 1, 3, rfl, w1, fun g1 H1 e1 => ?_, fun g1 => kb true d1 v1 _ (by simp [bookErr, orE, manyE, g1]) w1 (Ex.refl H)⟩
    obtain ⟨l1, rfl, z1⟩ := many_list g1
    obtain ⟨a1, x1, rfl, q1, s1⟩ := sw_list w1
    refine ⟨_, rfl, by show 0 ≤ sizeLine; decide, fun t1 nt1 => ?_⟩
    have y1 := e1.trans (Ex.new (o := .lst []) nt1)
    refine ⟨a1, t1, x1, l1, [], rfl, ex_l y1 q1, SwAll.ex y1 _ _ s1, f1, by omega, SqL.of upd_same, fun g2 H2 e2 => ?_, fun i x hf hx => ?_⟩
    rotate_left
    · obtain ⟨d, hd, hs⟩ := swAll_get s1 hx
      exact kb false d x _ (by simp [bookErr, orE, manyE, itemE, items, g1, hf, List.getD_eq_getElem?_getD, hd]) hs y1
    have Y1 := y1.trans e2
    have A1 := names_all g2
    have E1 := strs_of s1 A1
    -- stands
    refine ⟨_, rfl, v2, d2, 1, 4, rfl, Sw.ex Y1 _ _ w2, fun g3 H3 e3 => ?_, fun g3 => kb true d2 v2 _ (by simp [bookErr, orE, manyE, itemE, items, g1, g2, g3]) w2 Y1⟩
    obtain ⟨l2, rfl, z2⟩ := many_list g3
    obtain ⟨a2, x2, rfl, q2, s2⟩ := sw_list w2
    have Y2 := Y1.trans e3
    refine ⟨_, rfl, _, rfl, a2, a1, x2, l2, l1.map txt, rfl, ex_l Y2 q2, SwAll.ex Y2 _ _ s2, f2, by omega, by rw [← E1]; exact ex_l Y2 q1, fun g4 H4 e4 => ?_, fun i x hf hx => ?_⟩
    rotate_left
    · obtain ⟨d, hd, hs⟩ := swAll_get s2 hx
      exact kb false d x _ (by simp [bookErr, orE, manyE, itemE, items, g1, g2, g3, hf, List.getD_eq_getElem?_getD, hd]) hs Y2
    have Y3 := Y2.trans e4
    have A2 := names_all g4
    have E2 := strs_of s2 A2
    -- deeds
    refine ⟨_, rfl, v3, d3, 0, 10, rfl, Sw.ex Y3 _ _ w3, fun g5 H5 e5 => ?_, fun g5 => kb true d3 v3 _ (by simp [bookErr, orE, manyE, itemE, items, g1, g2, g3, g4, g5]) w3 Y3⟩
    obtain ⟨l3, rfl, z3⟩ := many_list g5
    obtain ⟨a3, x3, rfl, q3, s3⟩ := sw_list w3
    have Y4 := Y3.trans e5
    refine ⟨_, rfl, _, rfl, _, rfl, a1, a2, a3, l1.map txt, l2.map txt, x3, l3, rfl, by rw [← E1]; exact ex_l Y4 q1, by rw [← E2]; exact ex_l Y4 q2, ex_l Y4 q3, SwAll.ex Y4 _ _ s3, f3, by omega, fun g6 H6 e6 => ?_, fun i x hf hx => ?_⟩
    rotate_left
    · obtain ⟨d, hd, hs⟩ := swAll_get s3 hx
      exact kb false d x _ (by simp [bookErr, orE, manyE, itemE, items, g1, g2, g3, g4, g5, hf, List.getD_eq_getElem?_getD, hd]) hs Y4
    have Y5 := Y4.trans e6
    -- hearings
    refine ⟨_, rfl, v4, d4, 0, 12, rfl, Sw.ex Y5 _ _ w4, fun g7 H7 e7 => ?_, fun g7 => kb true d4 v4 _ (by simp [bookErr, orE, manyE, itemE, items, g1, g2, g3, g4, g5, g6, g7]) w4 Y5⟩
    obtain ⟨l4, rfl, z4⟩ := many_list g7
    obtain ⟨a4, x4, rfl, q4, s4⟩ := sw_list w4
    have Y6 := Y5.trans e7
    refine ⟨_, rfl, _, rfl, _, rfl, a1, a2, a4, l1.map txt, l2.map txt, x4, l4, rfl, by rw [← E1]; exact ex_l Y6 q1, by rw [← E2]; exact ex_l Y6 q2, ex_l Y6 q4, SwAll.ex Y6 _ _ s4, f4, by omega, txt_nm A1, txt_nm A2, fun g8 H8 e8 => ?_, fun i x hf hx => ?_⟩
    rotate_left
    · obtain ⟨d, hd, hs⟩ := swAll_get s4 hx
      exact kb false d x _ (by simp [bookErr, orE, manyE, itemE, items, g1, g2, g3, g4, g5, g6, g7, hf, List.getD_eq_getElem?_getD, hd]) hs Y6
    have Y7 := Y6.trans e8
    -- lost
    refine ⟨_, rfl, v5, d5, 0, 4, rfl, Sw.ex Y7 _ _ w5, fun g9 H9 e9 => ?_, fun g9 => kb true d5 v5 _ (by simp [bookErr, orE, manyE, itemE, items, g1, g2, g3, g4, g5, g6, g7, g8, g9]) w5 Y7⟩
    obtain ⟨l5, rfl, z5⟩ := many_list g9
    obtain ⟨a5, x5, rfl, q5, s5⟩ := sw_list w5
    have Y8 := Y7.trans e9
    refine ⟨_, rfl, by show 0 ≤ sizeLine; decide, fun t2 nt2 => ?_⟩
    have Y9 := Y8.trans (Ex.new (o := .lst []) nt2)
    refine ⟨a5, t2, x5, l5, [], rfl, ex_l Y9 q5, SwAll.ex Y9 _ _ s5, f5, by omega, SqL.of upd_same, fun g0 HA eA => ?_, fun i x hf hx => ?_⟩
    rotate_left
    · obtain ⟨d, hd, hs⟩ := swAll_get s5 hx
      exact kb false d x _ (by simp [bookErr, orE, manyE, itemE, items, g1, g2, g3, g4, g5, g6, g7, g8, g9, hf, List.getD_eq_getElem?_getD, hd]) hs Y9
    have YA := Y9.trans eA
    -- the fields
    have hpA := YA _ _ hp
    have m0 : Mv p H HA := Mv.of YA
    refine ⟨_, rfl, a1, x1, rfl, .inl (ex_l YA q1), fun b1 nb1 => ⟨_, rfl, p, C, dx, _, rfl, by rw [upd_ne (ne_of_none hpA nb1)]; exact hpA, c.cl, c.n1, by decide, ?_⟩⟩
    obtain ⟨i1, j1, k1, m1⟩ := store (f := "_houses") (X := x1) hpA nb1
    generalize upd (upd HA b1 (.lst x1)) p (.ins C dx (putF "_houses" (.ref b1) [])) = HB at j1 k1 m1
    have M1 := m0.trans m1
    have P2 := j1
    refine ⟨_, rfl, a2, x2, rfl, .inl (sql_mv hp M1 q2), fun b2 nb2 => ⟨_, rfl, p, C, dx, _, rfl, by rw [upd_ne (ne_of_none P2 nb2)]; exact P2, c.cl, c.n2, (by show 1 < 1000; decide), ?_⟩⟩
    obtain ⟨i2, j2, k2, m2⟩ := store (f := "_stands") (X := x2) P2 nb2
    generalize upd (upd HB b2 (.lst x2)) p (.ins C dx (putF "_stands" (.ref b2) (putF "_houses" (.ref b1) []))) = HC at j2 k2 m2
    have M2 := M1.trans m2
    have P3 := j2
    refine ⟨_, rfl, a3, x3, rfl, .inl (sql_mv hp M2 q3), fun b3 nb3 => ⟨_, rfl, p, C, dx, _, rfl, by rw [upd_ne (ne_of_none P3 nb3)]; exact P3, c.cl, c.n3, (by show 2 < 1000; decide), ?_⟩⟩
    obtain ⟨i3, j3, k3, m3⟩ := store (f := "_deeds") (X := x3) P3 nb3
    generalize upd (upd HC b3 (.lst x3)) p (.ins C dx (putF "_deeds" (.ref b3) (putF "_stands" (.ref b2) (putF "_houses" (.ref b1) [])))) = HD at j3 k3 m3
    have M3 := M2.trans m3
    have P4 := j3
    refine ⟨_, rfl, a4, x4, rfl, .inl (sql_mv hp M3 q4), fun b4 nb4 => ⟨_, rfl, p, C, dx, _, rfl, by rw [upd_ne (ne_of_none P4 nb4)]; exact P4, c.cl, c.n4, (by show 3 < 1000; decide), ?_⟩⟩
    obtain ⟨i4, j4, k4, m4⟩ := store (f := "_hearings") (X := x4) P4 nb4
    generalize upd (upd HD b4 (.lst x4)) p (.ins C dx (putF "_hearings" (.ref b4) (putF "_deeds" (.ref b3) (putF "_stands" (.ref b2) (putF "_houses" (.ref b1) []))))) = HE at j4 k4 m4
    have M4 := M3.trans m4
    have P5 := j4
    refine ⟨_, rfl, a5, x5, rfl, .inl (sql_mv hp M4 q5), fun b5 nb5 => ⟨_, rfl, p, C, dx, _, rfl, by rw [upd_ne (ne_of_none P5 nb5)]; exact P5, c.cl, c.n5, (by show 4 < 1000; decide), ?_⟩⟩
    obtain ⟨i5, j5, k5, m5⟩ := store (f := "_lost") (X := x5) P5 nb5
    generalize upd (upd HE b5 (.lst x5)) p (.ins C dx (putF "_lost" (.ref b5) (putF "_hearings" (.ref b4) (putF "_deeds" (.ref b3) (putF "_stands" (.ref b2) (putF "_houses" (.ref b1) [])))))) = HF at j5 k5 m5
    have M5 := M4.trans m5
    dsimp only
    rw [fields5] at j5
    have z1' := m5 _ _ i1 (m4 _ _ i1 (m3 _ _ i1 (m2 _ _ i1 k1)))
    have z2' := m5 _ _ i2 (m4 _ _ i2 (m3 _ _ i2 k2))
    have z3' := m5 _ _ i3 (m4 _ _ i3 k3)
    have z4' := m5 _ _ i4 k4
    exact kq (by simp [bookErr, orE, manyE, itemE, items, g1, g2, g3, g4, g5, g6, g7, g8, g9, g0]) HF ⟨x1, x2, x3, x4, x5⟩ M5 ⟨dx, b1, b2, b3, b4, b5, j5, ⟨z1', z2', z3', z4', k5⟩, mv_back m0 i1 nb1, mv_back M1 i2 nb2, mv_back M2 i3 nb3, mv_back M3 i4 nb4, mv_back M4 i5 nb5⟩ ⟨⟨_, rfl, q1⟩, ⟨_, rfl, q2⟩, ⟨_, rfl, q3⟩, ⟨_, rfl, q4⟩, ⟨_, rfl, q5⟩⟩ (swAll_mv hp M5 _ _ s1) (swAll_mv hp M5 _ _ s2) (swAll_mv hp M5 _ _ s3) (swAll_mv hp M5 _ _ s4) (swAll_mv hp M5 _ _ s5)
end
end Bk
/-! ### a caught error that is kept beyond its suite -/
namespace TryK
open PySem PySem.Spec PyProof.Rows L2
/-- at a an exception stands: its class, its own dict -/
def ExK (cls : Value) (d : Option Addr) (a : Addr) : HO := .ext fun h => ∃ (oe : Obj) (vs : Array Value), h.get? a = some oe ∧ Zc cls d oe ∧ oe.data = .fields vs
theorem exK_ok {P : Program} {w : World} {H : Hp} {h : Heap} {a : Addr} {cls : Value} {d : Option Addr} {oe : Obj} {vs : Array Value} (e : h.get? a = some oe) (z : Zc cls d oe) (hv : oe.data = .fields vs) : ObjOk P w H h a (ExK cls d a) :=
  ⟨⟨oe, vs, e, z, hv⟩, ⟨oe, e⟩, fun _ _ ⟨o, v, q, r⟩ k => ⟨o, v, k o q, r⟩⟩
theorem exK_at {P : Program} {w : World} {H : Hp} {h : Heap} {a : Addr} {cls : Value} {d : Option Addr} (x : HOk P w H h) (e : H a = some (ExK cls d a)) : ∃ (oe : Obj) (vs : Array Value), h.get? a = some oe ∧ Zc cls d oe ∧ oe.data = .fields vs := by
  have q : ObjOk P w H h a (ExK cls d a) := x a _ e
  exact q.1
section
variable {X : Cx} {pins : List (Addr × Obj)} {σ : L2.St} {H : Hp} {s : Shared}
/-- an object that came since the entry is tracked from now on -/
theorem track {a : Addr} {oe : Obj} {vs : Array Value} {o : HO} (I : Inv X pins σ H s) (ha : s.heap.get? a = some oe) (hv : oe.data = .fields vs) (hn : H a = none) (h0 : ∀ u, X.s_0.heap.get? a = some u → a ∈ X.ex) (hL : a ≠ X.env.locals)
    (hp : ∀ p ∈ X.pn ++ pins, p.1 ≠ a) (new : ObjOk X.prog X.w (upd H a o) s.heap a o) : Inv X pins σ (upd H a o) s where
  ok := I.ok
  os := I.os
  bare := I.bare
  base := {
    keep := I.base.keep
    slot := I.base.slot
    free := fun b u q n hx => by
      rw [upd_ne fun z => hx (by subst z; exact h0 u q)]
      exact I.base.free b u q n hx
    there := I.base.there
    tups := fun b xs q => by
      rw [upd_ne (ne_of_none (I.base.tups b xs q) hn)]
      exact I.base.tups b xs q
    frzs := fun b u xs q => by
      rw [upd_ne (ne_of_none (I.base.frzs b u xs q) hn)]
      exact I.base.frzs b u xs q
    tbls := fun b ps q => by
      obtain ⟨more, e⟩ := I.base.tbls b ps q
      exact ⟨more, by rw [upd_ne (ne_of_none e hn)]; exact e⟩ }
  loc := I.loc
  cell := I.cell
  free := by
    rw [upd_ne hL.symm]
    exact I.free
  freeC := fun x c e => by
    have ne : c ≠ a := fun z => by
      subst z
      obtain ⟨v, o', q1, q2⟩ := I.cell x c e
      rw [ha] at q1
      cases q1
      rw [hv] at q2
      cases q2
    rw [upd_ne ne]
    exact I.freeC x c e
  pin := fun p m => by
    obtain ⟨q1, q2, q3⟩ := I.pin p m
    exact ⟨q1, by rw [upd_ne (hp p m)]; exact q2, q3⟩
  hok := I.hok.laidN (fun _ _ q => q) hn new
  len := I.len
end
/-- what the clause wishes of what the body raises: caught, the suite runs, the name goes, and the error stands tracked -/
def wKeep (K : PySem.W.Frag) (c : Value) (i : Nat) (ts : Addr → Value → Option Addr → TS) (Wout : WX) (D : Ends) : WX := fun cls d σ H =>
  ∃ b, PySem.W.exmOne K cls c = some b ∧ (b = false → Wout cls d σ H) ∧
    (b = true → ∀ a, H a = none → ts a cls d { nx := fun σ' H' => D.nx (σ'.set i none) (upd H' a (ExK cls d a)), rt := D.rt, bk := fun σ' H' => D.bk (σ'.set i none) H', ct := fun σ' H' => D.ct (σ'.set i none) H' } (σ.set i (some (.ref a))) H)
section
variable {X : Cx} {x n : Str} {c : Value} {i : Nat} {body rest : List Stmt} {st₀ : Stmt} {q1 q2 q3 : Pos} {tb : WX → TS} {ts : Addr → Value → Option Addr → TS} {Wout : WX}
set_option maxHeartbeats 2000000 in
theorem ps_try_keep (hs : X.stack = X.env :: X.outer) (hf : X.env.frame = some X.env.locals) (hN : X.N.Nodup) (hi : X.N[i]? = some n) (hl : X.env.kindOf n = some .local) (hc : Names X x c) (tk : Takes X Wout)
    (hb : ∀ (W : WX) (pn : List (Addr × Obj)) (xe : Value → Shared → Prop), Takes (X.tr pn xe) W → PassesOwn (model X.prog X.w) X.A X.env xe → PSs (X.tr pn xe) body (tb W))
    (hu : ∀ (a : Addr) (oe : Obj) (cls : Value) (d : Option Addr) (pn : List (Addr × Obj)), Zc cls d oe → (∃ vs, oe.data = .fields vs) → PSs (X.suite a ((a, oe) :: pn)) (st₀ :: rest) (ts a cls d)) :
    PS X (.Try body [.ExceptHandler (some (.Name x q1)) (some n) (st₀ :: rest) q2] [] [] q3) (fun D σ H => tb (wKeep X.K c i ts Wout D) D σ H) := by
  constructor
  intro pins s σ H D I0 h
  have okX := I0.ok
  have frames : X.A.frames = some (X.env :: X.outer) := by
    rw [okX.frames, hs]
  refine wpAny_Try_except (wpAny_mono ((hb (wKeep X.K c i ts Wout D) (X.pn ++ pins) (fun e z => wpAny (model X.prog X.w) X.A (noteFrame e X.env) (fun _ z1 => wpAny (model X.prog X.w) X.A (setFlight e none)
    (fun _ z2 => wpAny (model X.prog X.w) X.A (handleBy e X.env [.ExceptHandler (some (.Name x q1)) (some n) (st₀ :: rest) q2]) (SP X pins D) X.xe z2) X.xe z1) X.xe z) (fun v z fly => ?_) PassesOwn.looking).run [] s σ H D (I0.toTry _) h) (fun fl z done => ?_) (fun v z raised => raised))
  rotate_left
  · -- the body ran through
    cases fl with
    | next =>
      obtain ⟨τ, G, IG, k⟩ := done
      exact wpAny_execs_nil ⟨τ, G, IG.ofTry okX, k⟩
    | ret v =>
      obtain ⟨y, τ, G, IG, ry, k⟩ := done
      exact ⟨y, τ, G, IG.ofTry okX, ry, k⟩
    | brk =>
      obtain ⟨τ, G, IG, k⟩ := done
      exact ⟨τ, G, IG.ofTry okX, k⟩
    | cont =>
      obtain ⟨τ, G, IG, k⟩ := done
      exact ⟨τ, G, IG.ofTry okX, k⟩
  · -- something is in the air
    obtain ⟨a, B, t0, pt, τ, G, cls, d, ev, It, inB, slots, air, an, os, bare, b, hm, out, caught⟩ := fly
    subst ev
    have J := It.ofTry okX
    rw [hs] at air
    refine Sky.land Zc.steady frames hf air fun h1 ground up1 => ?_
    have J1 : Inv X pins τ G { z with heap := h1 } := J.landed inB ground.1 (slots.trans up1) os bare
    obtain ⟨oe, vs, at1, z1, dat1⟩ := ground.there
    have noFrame : a ∉ frs (X.env :: X.outer) := fun hm => by
      obtain ⟨_, u, e, nf⟩ := ground.2.2.1.mem hm
      rw [at1] at e
      cases e
      exact nf _ dat1
    have notL : a ≠ X.env.locals := fun e => noFrame (List.mem_filterMap.mpr ⟨X.env, List.mem_cons_self, by rw [hf, e]⟩)
    have notF : a ∉ X.fs := fun m => by
      obtain ⟨e, he, q⟩ := List.mem_filterMap.mp m
      exact noFrame (List.mem_filterMap.mpr ⟨e, List.mem_cons_of_mem _ he, q⟩)
    have fresh : t0.heap.get? a = none := by
      cases e : t0.heap.get? a with
      | none => rfl
      | some u =>
        have := inB a u e (by rw [hs]; exact noFrame)
        rw [ground.2.1] at this
        cases this
    have S1 := J1.suite at1 dat1 an notL notF
    refine wpAny_handleBy_cons (codeAny_handlers_test ?_) (by intro q; cases q)
    have isC : PySem.W.Looks (model X.prog X.w) h1 (typeOf (.ref a)) cls := fun A Q E s k q => wpAny_typeOf_ref (k _ _ at1) (by rw [z1.1]; exact q)
    have answer := PySem.W.exm_one (M := model X.prog X.w) (J1.kIn) isC hm
    have named : ∀ {Q : Value → Shared → Prop} {E : Value → Shared → Prop}, Q c { z with heap := h1 } → wpAny (model X.prog X.w) (X.A.mark (some (.ref a))) (eval (.Name x q1) X.env) Q E { z with heap := h1 } := fun {Q E} q => by
      obtain ⟨g, dbg, m | ⟨m, v, nn⟩⟩ := hc
      · exact ld_glob (X := X.suite a ((a, oe) :: (X.pn ++ pins))) S1 g m q dbg
      · exact ld_blt (X := X.suite a ((a, oe) :: (X.pn ++ pins))) S1 g m v q nn dbg
    refine named (answer.here ?_)
    cases b with
    | false =>
      refine (show wpAny _ X.A (handleBy (.ref a) X.env []) _ _ _ from wpAny_handleBy_nil ?_)
      obtain ⟨_, _, _, oe2, vs2, T, oT, ts2, g1, g2, g3, g4, _⟩ := id ground
      unfold PySem.passOn
      refine wpAny_bind (wpAny_field g1 g3 g4 ?_)
      rw [if_neg (show ¬ ((Value.ref T == Value.none) = true) from by simp)]
      have onward : wpAny (model X.prog X.w) X.A (setFlight (.ref a) X.env.frame) (fun _ z4 => wpAny (model X.prog X.w) X.A (throw (.ref a) : Sem Flow) (SP X pins D) X.xe z4) X.xe { z with heap := h1 } := by
        rw [hf]
        exact HandSPX.setFlight_upZ ground fun h2 air2 up2 => wpAny_throw (tk _ _ ⟨a, B, t0, pins, τ, G, cls, d, rfl, J, inB, (slots.trans up1).trans up2, .inr (.inr (by rw [hs]; exact air2)), an, os, bare, out rfl⟩)
      first
        | exact wpAny_bind (wpAny_pure (wpAny_bind onward))
        | exact wpAny_bind onward
    | true =>
      refine codeAny_handlers_suite_as (HandSPX.lands_againZ ground fun h2 ground2 up2 => ?_)
      have J2 : Inv X pins τ G { z with heap := h2 } := J.landed inB ground2.1 ((slots.trans up1).trans up2) os bare
      obtain ⟨of, vf, at2, z2, dat2⟩ := ground2.there
      have S2 := J2.suite at2 dat2 an notL notF
      refine store_ok (X := X.suite a ((a, of) :: (X.pn ++ pins))) (v := .ref a) S2 hN hi (.inl hl) rfl (fun s3 S3 => ?_) (.inr hl)
      refine wpAny_mono ((hu a of cls d (X.pn ++ pins) z2 ⟨_, dat2⟩).run [] s3 _ G _ S3 (caught rfl a an)) (fun fl s4 done => ?_) (fun _ _ k => False.elim k)
      have gone : ∀ {τ4 : L2.St} {G4 : Hp} {Q : Shared → Prop}, Inv X pins τ4 G4 s4 → (∀ s5, Inv X pins (τ4.set i none) G4 s5 → Q s5) → wpAny (model X.prog X.w) X.A (do bindName X.env n .none; unbindBehindTheSuite X.env n q2) (fun _ s5 => Q s5) X.xe s4 :=
        fun {τ4 G4 Q} K4 k => gone_ok K4 hN hi hl k
      cases fl with
      | next =>
        obtain ⟨τ4, G4, S4, k⟩ := done
        obtain ⟨at4, an4, _⟩ := S4.pin (a, of) (List.mem_append_left _ List.mem_cons_self)
        have I4 := S4.unsuite okX
        have I5 : Inv X pins τ4 (upd G4 a (ExK cls d a)) s4 := track I4 at4 dat2 an4 (fun u q => by
          by_cases m : a ∈ X.ex
          · exact m
          · obtain ⟨u', e⟩ := J.base.there a u q m
            rw [fresh] at e
            cases e) notL (fun p m e => by
              have e2 := (J.pin p m).1
              rw [e, fresh] at e2
              cases e2) (exK_ok at4 z2 dat2)
        exact gone I5 fun s5 K5 => ⟨_, _, K5, k⟩
      | ret v =>
        obtain ⟨y, τ4, G4, S4, ry, k⟩ := done
        exact gone (S4.unsuite okX) fun s5 K5 => ⟨_, _, _, K5, ry, k⟩
      | brk =>
        obtain ⟨τ4, G4, S4, k⟩ := done
        exact gone (S4.unsuite okX) fun s5 K5 => ⟨_, _, K5, k⟩
      | cont =>
        obtain ⟨τ4, G4, S4, k⟩ := done
        exact gone (S4.unsuite okX) fun s5 K5 => ⟨_, _, K5, k⟩
end
end TryK
/-! ### kept errors: what they are, what they hold -/
namespace KEr
open PySem PySem.Spec PyProof.Rows L2 Evl ExV TryK
/-- at a: a kept error of the class at C; its value -/
def KErr (H : Hp) (a C : Addr) (f : Str) (v : V) : Prop := ∃ d, H a = some (ExK (.ref C) (some d) a) ∧ H d = some (.xd [(f, v)])
theorem KErr.ex {H H' : Hp} {a C : Addr} {f : Str} {v : V} (e : Ex H H') (h : KErr H a C f v) : KErr H' a C f v := by
  obtain ⟨d, h1, h2⟩ := h
  exact ⟨d, e _ _ h1, e _ _ h2⟩
theorem kerr_inst {X : Cx} {pins : List (Addr × Obj)} {σ : L2.St} {H : Hp} {s : Shared} {a C : Addr} {f : Str} {v : V} (I : Inv X pins σ H s) (h : KErr H a C f v) :
    ∃ (oe od : Obj) (mA : Str → Option Value), PySem.W.InstAt s.heap a oe C (some od) ∧ (∀ g, PySem.W.lookIn g od = some (mA g)) ∧ ∀ g, RelO ([(f, v)].lookup g) (mA g) := by
  obtain ⟨d, h1, h2⟩ := h
  obtain ⟨oe, vs, e, z, dv⟩ := exK_at I.hok h1
  have hx : ObjOk X.prog X.w H s.heap d (.xd [(f, v)]) := I.hok d _ h2
  obtain ⟨mA, ns, r⟩ := hx
  obtain ⟨od, ho, hl⟩ := lookIn_ns ns
  exact ⟨oe, od, mA, ⟨e, z.1, by unfold PySem.W.notCls; rw [dv] <;> rfl, by rw [z.2]; exact ho⟩, hl, r⟩
/-- e.f -/
def tKF (K : PySem.W.Frag) (f : Str) (te : TE) : TE := fun σ H Q => te σ H fun x H1 => ∃ a C y, x = .ref a ∧ KErr H1 a C f y ∧ XfC K C ∧ PySem.W.findIn K (.ref C) f = some none ∧ Q y H1
theorem pe_kF {X : Cx} {f : Str} {e : Expr} {te : TE} {pos : Pos} (he : PE X e te) (hb : attributeBase e f X.env (eval e X.env) = eval e X.env := by rfl) : PE X (.Attribute e f pos) (tKF X.K f te) := by
  refine ⟨fun pins s σ H Q I h => attr_of hb (thn (he.run pins s σ H _ I h) fun u s1 hh => ?_)⟩
  obtain ⟨x, H1, I1, rx, a, C, y, ex, hk, T, hno, q⟩ := hh
  subst ex
  obtain rfl : u = Value.ref a := rx
  obtain ⟨oe, od, mA, J, hl, rel⟩ := kerr_inst I1 hk
  obtain ⟨v, hv, rv⟩ := RelO.some_of (v := y) (o := mA f) (by have r := rel f; simp [List.lookup] at r; exact r)
  exact HandSPX.exc_get I1.kIn J T.ga T.gg T.exC (PySem.W.findObj_own T.hdC hno rfl (by rw [hl, hv])) (handed_of rv) ⟨y, H1, I1.tok _, rv, q⟩
/-- isinstance(e, c) -/
def rKIs (K : PySem.W.Frag) : List V → Hp → VK → Prop := fun xs H Q => ∃ a C f v c u b, xs = [.ref a, c] ∧ KErr H a C f v ∧ IsC K C ∧ ClsV c u ∧ PySem.W.kitOne K (.ref C) u = some b ∧ Q (.bl b) H
theorem call_kIs {X : Cx} : CallR X (.builtin "isinstance") (rKIs X.K) := by
  intro pins s σ H xs us Q I r h
  obtain ⟨a, C, f, v, c, u, b, rfl, hk, T, k, e, q⟩ := h
  obtain ⟨u1, u2, rfl, r1, r2⟩ := vals2 r
  obtain rfl := k.eq r2
  obtain rfl : u1 = Value.ref a := r1
  obtain ⟨oe, od, mA, J, _, _⟩ := kerr_inst I hk
  exact PySem.W.kia_one (PySem.W.kitx_exc T.cl T.xf.ga T.xf.gg T.xf.exC T.ha T.hn T.ht T.hm) I.kIn J e (fun z => nomatch z) fun tk => ⟨.bl b, H, I.tok tk, rfl, q⟩
end KEr
/-! ### a new instance, by an __init__ that may raise, in a try: what is raised is wished for at the caller's slots -/
namespace MkS
open PySem PySem.Spec PyProof.Rows L2
section
variable {X : Cx} {CX : CXT} {k : Nat} {f C : Addr} {fd : FuncData} {ps : List Str} {sp : Sp} {E : L2.St → XK} {x : Str} {p pos : Pos} {e : Expr} {es : List Expr} {t : TA}
def tMakeS (C : Addr) (sp : Sp) (E : L2.St → XK) (t : TA) : TE := fun σ H Q => t σ H fun vs H1 => ∀ x dx, H1 x = none → H1 dx = none → dx ≠ x →
  sp (.ref x :: vs) (upd (upd H1 dx (.own x)) x (.ins C dx [])) (fun v H2 => v = .non ∧ Q (.ref x) H2) (E σ)
theorem pe_makeS (M : Mk X.K C f) (F : FnOk X.prog X.w X.K X.mg X.base CX k f fd ps sp) (hr : Room (k + 1) X.A) (hg : Gl X x) (hm : X.mg x = some (.ref C)) (hb : Binds X.K fd ps []) (hx : ∀ σ, PassesAt CX X σ (E σ)) (ha : PA X (e :: es) t)
    (hdb : (x == ("__debug__" : Str)) = false := by decide) (he : starEach (e :: es) X.env = (false, eval e X.env) :: starEach es X.env := by rfl) (hpl : (backTo pos (starEach es X.env)).any (·.1) = false := by rfl) :
    PE X (.Call (.Name x p) (e :: es) [] pos) (tMakeS C sp E t) := by
  constructor
  intro pins s σ H Q I h
  refine wpAny_Call_Name_kw (ld_glob I hg hm (PySem.W.callWith_K (h₀ := X.base) I.ok.mod.kin M.kp (thn (ha.run pos pins s σ H _ I h) fun us z ⟨vs, H1, J, rv, q⟩ => ⟨J.kIn, ?_⟩) he hpl) hdb)
  have want := q (z.heap.objs.size + 1) z.heap.objs.size (J.hok.fresh (Nat.le_succ _)) (J.hok.fresh (Nat.le_refl _)) (Nat.ne_of_lt (Nat.lt_succ_self _))
  have J2 := Inv.made (C := C) J
  have all : Vals (V.ref (z.heap.objs.size + 1) :: vs) (Value.ref (z.heap.objs.size + 1) :: us) := .cons rfl rv
  have many : ((Value.ref (z.heap.objs.size + 1) :: us) ++ []).length = ps.length := by
    rw [List.append_nil, ← F.len _ _ _ _ want]
    exact all.length.symm
  have bound := hb _ (Value.ref (z.heap.objs.size + 1) :: us) J2.kIn many
  rw [List.append_nil] at bound
  have ran := F.run _ X.stack _ _ ⟨Value.ref (z.heap.objs.size + 1) :: us, []⟩ _ _ _ (E σ) (hr.make C us []) (J2.env0.make C us []) bound all want
  show wpAny _ _ (call (.ref C) us) _ _ _
  refine wpAny_call (make_map (f := f) J.kIn M.makes M.init (beq_iff_eq.mp M.fn) (codeAny_mono ran fun r z2 done => ?_))
  cases r with
  | ok fl =>
    cases fl with
    | ret u =>
      obtain ⟨v, H2, J3, ru, hv, k2⟩ := J2.after done
      subst hv
      exact ⟨ru, V.ref (z.heap.objs.size + 1), H2, J3, rfl, k2⟩
    | next => exact done.elim
    | brk => exact done.elim
    | cont => exact done.elim
  | error er => exact hx σ pins _ _ er z2 J2 done
end
end MkS
/-! ### _law_caught -/
namespace Cau
open PySem PySem.Spec PyProof.Rows L2 Evl Gen Ent ExV Rep Dat Nm Er Chk Gu Deed Pts Hear Lst Bk TryK KEr MkS
/-- what is known of the errors' classes -/
structure ErK (K : PySem.W.Frag) (mg : Str → Option Value) (C0 CL CI : Addr) : Prop where
  g0 : mg "HushError" = some (.ref C0)
  gL : mg "InvalidList" = some (.ref CL)
  gI : mg "InvalidItem" = some (.ref CI)
  eL : PySem.W.exmOne K (.ref CL) (.ref C0) = some true
  eI : PySem.W.exmOne K (.ref CI) (.ref C0) = some true
  iL : IsC K CL
  iI : IsC K CI
  nL : PySem.W.findIn K (.ref CL) "value" = some none
  nI : PySem.W.findIn K (.ref CI) "value" = some none
  kLL : PySem.W.kitOne K (.ref CL) (.ref CL) = some true
  kLI : PySem.W.kitOne K (.ref CL) (.ref CI) = some false
  kIL : PySem.W.kitOne K (.ref CI) (.ref CL) = some false
  kII : PySem.W.kitOne K (.ref CI) (.ref CI) = some true
/-- the class is called by its name -/
structure BkC (P : Program) (w : World) (K : PySem.W.Frag) (mg : Str → Option Value) (base : Heap) (CL CI C : Addr) : Prop where
  ex : ∃ f fd, Mk K C f ∧ FnOk P w K mg base (CX P w) 5 f fd NIn (spInit K CL CI C) ∧ Binds K fd NIn []
  g : mg "Book" = some (.ref C)
  c : BC K C
/-- it can be shown -/
def Shw (d : PyData) : Prop := d.showable = true ∧ d.shown.length ≤ sizeLine ∧ d.depth ≤ 60
def Fit5 (d1 d2 d3 d4 d5 : PyData) : Prop := FitN d1 ∧ FitN d2 ∧ FitE d3 ∧ FitE d4 ∧ FitN d5
def spCau (K : PySem.W.Frag) : Sp := fun vs H Q _ => ∃ (p : Addr) (v1 v2 v3 v4 v5 : V) (d1 d2 d3 d4 d5 : PyData), vs = [.ref p] ∧ SqL K H p [v1, v2, v3, v4, v5] ∧
  (Sw K H v1 d1 ∧ Sw K H v2 d2 ∧ Sw K H v3 d3 ∧ Sw K H v4 d4 ∧ Sw K H v5 d5) ∧ Fit5 d1 d2 d3 d4 d5 ∧
  (bookErr d1 d2 d3 d4 d5 = none → ∀ H', Ex H H' → Q .non H') ∧
  (∀ b d, bookErr d1 d2 d3 d4 d5 = some (b, d) → Shw d ∧ ∀ q H', H q = none → Ex H H' → H' q = some (.lst [.bl b, .bl (!b), .str d.shown]) → Q (.ref q) H')
abbrev sCau : Stmt := top 25
abbrev NCa : List Str := ["_law_lists_here", "_law_caught_here", "error"]
theorem scCa : FnScope NCa ["_law_lists_here"] (defScope sCau) := ⟨rfl, rfl, rfl, by decide +kernel, rfl, by decide +kernel, by decide +kernel⟩
theorem un64 {k : Nat} {A : Around} (hr : Room k A) : A.units + 64 < cLine := by
  have := hr.un
  omega
section
variable {P : Program} {w : World} {K : PySem.W.Frag} {mg : Str → Option Value} {base : Heap}
set_option maxHeartbeats 2000000 in
theorem ok_cau {f C0 CL CI C : Addr} {fd : FuncData} (F : Fun K "_law_caught" "_law_caught" sCau f fd) (B : Bt mg) (T : ErK K mg C0 CL CI) (c : BkC P w K mg base CL CI C) : FnG P w K mg base 7 f fd ["_law_lists_here"] (spCau K) := by
  obtain ⟨fI, fdI, M, G, bG⟩ := c.ex
  refine fun_okG F scCa (fun vs H Q E h => ?_) (fun cdv A outer s H vs Q E gd hr h => ?_)
  · obtain ⟨p, v1, v2, v3, v4, v5, d1, d2, d3, d4, d5, rfl, _⟩ := h
    rfl
  · obtain ⟨p, v1, v2, v3, v4, v5, d1, d2, d3, d4, d5, rfl, hp, ⟨w1, w2, w3, w4, w5⟩, ⟨f1, f2, f3, f4, f5⟩, kq, ke⟩ := h
    refine ⟨_, (pss_cons (ps_set (i := 1) scCa.nd rfl (Or.inl rfl) pe_non)
      (pss_cons (ps_try_keep (i := 2) rfl rfl scCa.nd rfl rfl ⟨rfl, by decide, .inl T.g0⟩ takes0 (fun W pn xe tk _ => (pss_one (ps_expr (pe_makeS (X := Cx.tr _ pn xe) M G (hr.mono (by decide)) rfl c.g bG (fun σ => passAt tk σ) (pa_cons (pe_ix (r := rIxL K) ix_list (pv 0) pe_int (fun _ _ => rfl)) (pa_cons (pe_ix (r := rIxL K) ix_list (pv 0) pe_int (fun _ _ => rfl)) (pa_cons (pe_ix (r := rIxL K) ix_list (pv 0) pe_int (fun _ _ => rfl)) (pa_cons (pe_ix (r := rIxL K) ix_list (pv 0) pe_int (fun _ _ => rfl)) (pa_cons (pe_ix (r := rIxL K) ix_list (pv 0) pe_int (fun _ _ => rfl)) pa_nil))))))))) (fun a oe cls d pn _ _ => (pss_one (ps_set (i := 1) scCa.nd rfl (Or.inl rfl) (pv 2)))))
      (pss_cons (ps_if (pt_cmpR op_isN (pv 1) pe_non (nomark _)) (pss_one (ps_ret pe_non)) pss_nil)
      (pss_one (ps_ret (pe_lst (pa_cons (pe_callB (id := "isinstance") (r := rKIs K) call_kIs (by rfl) B.isi (by decide +kernel) (pa_cons (pv 1) (pa_cons (pe_glob (v := V.ref CL) (by rfl) T.gL rfl) pa_nil))) (pa_cons (pe_callB (id := "isinstance") (r := rKIs K) call_kIs (by rfl) B.isi (by decide +kernel) (pa_cons (pv 1) (pa_cons (pe_glob (v := V.ref CI) (by rfl) T.gI rfl) pa_nil))) (pa_cons (pe_callB (id := "repr") (r := rRepr K) (call_repr gd (un64 hr)) (by rfl) B.repr (by decide +kernel) (pa_cons (pe_kF (pv 1)) pa_nil)) pa_nil))))))))), ?_⟩
    refine ⟨_, rfl, p, _, _, v1, rfl, rfl, hp, rfl, _, rfl, p, _, _, v2, rfl, rfl, hp, rfl, _, rfl, p, _, _, v3, rfl, rfl, hp, rfl, _, rfl, p, _, _, v4, rfl, rfl, hp, rfl, _, rfl, p, _, _, v5, rfl, rfl, hp, rfl, fun x dx nx ndx ne => ?_⟩
    have e1 : Ex H (upd (upd H dx (.own x)) x (.ins C dx [])) := fun a o ha => by
      rw [upd_ne (ne_of_none ha nx), upd_ne (ne_of_none ha ndx)]
      exact ha
    refine ⟨x, dx, v1, v2, v3, v4, v5, d1, d2, d3, d4, d5, rfl, upd_same, ⟨Sw.ex e1 _ _ w1, Sw.ex e1 _ _ w2, Sw.ex e1 _ _ w3, Sw.ex e1 _ _ w4, Sw.ex e1 _ _ w5⟩, ⟨f1, f2, f3, f4, f5⟩, fun hb H' Bd mv _ _ _ _ _ _ _ => ⟨rfl, ?_⟩, fun b d hb v hv dd H' nd e hd => ?_⟩
    · have e2 : Ex H H' := fun a o ha => mv a o (ne_of_none ha nx) (e1 a o ha)
      dsimp only
      refine q_when (b := true) (et_test (ev_op (ev_var rfl) ev_c fun H1 _ Q1 q => ⟨rfl, q H1 (Ex.refl H1)⟩)) (fun _ H3 e3 => s_ret ev_c fun H4 e4 => kq hb H4 ((e2.trans e3).trans e4)) (fun z => nomatch z)
    · obtain ⟨hsh, kq2⟩ := ke b d hb
      have e2 := e1.trans e
      have fin : ∀ Cx : Addr, IsC K Cx → PySem.W.findIn K (.ref Cx) "value" = some none → PySem.W.kitOne K (.ref Cx) (.ref CL) = some b → PySem.W.kitOne K (.ref Cx) (.ref CI) = some (!b) → PySem.W.exmOne K (.ref Cx) (.ref C0) = some true →
          wKeep K (.ref C0) 2 (fun a cls d => tAsg (tVar 2) (gName 1)) (fun _ _ _ _ => False) { nx := tSeq (tIfS (tTest (tOp (fun x y H Q => y = .non ∧ Q (.bl (decide (x = .non))) H) (tVar 1) (tC .non))) (tRet (tC .non)) tNext) (tRet (tLst (tCons (tCB (rKIs K) (tCons (tVar 1) (tCons (tC (.ref CL)) tNil))) (tCons (tCB (rKIs K) (tCons (tVar 1) (tCons (tC (.ref CI)) tNil))) (tCons (tCB (rRepr K) (tCons (tKF K "value" (tVar 1)) tNil)) tNil))))) { nx := fun x H' => Q .non H', rt := Q }, rt := Q } (.ref Cx) (some dd) [some (.ref p), some .non, none] H' := by
        intro Cx ic no k1 k2 ex
        refine ⟨true, ex, (fun z => nomatch z), fun _ a na => ⟨_, rfl, ?_⟩⟩
        have hke : KErr (upd H' a (ExK (.ref Cx) (some dd) a)) a Cx "value" v := ⟨dd, upd_same, by rw [upd_ne (ne_of_none hd na)]; exact hd⟩
        have e3 := Ex.new (o := ExK (.ref Cx) (some dd) a) na
        have hv3 := Sw.ex (e.trans e3) _ _ hv
        have e4 := e2.trans e3
        dsimp only
        refine q_when (b := false) (et_test (ev_op (ev_var rfl) ev_c fun H1 _ Q1 q => ⟨rfl, q H1 (Ex.refl H1)⟩)) (fun z => nomatch z) (fun _ H6 e6 => ?_)
        have isI : ∀ (CC : Addr) (bb : Bool), PySem.W.kitOne K (.ref Cx) (.ref CC) = some bb → Ev (tCB (rKIs K) (tCons (tVar 1) (tCons (tC (.ref CC)) tNil))) [some (.ref p), some (.ref a), none] (upd H' a (ExK (.ref Cx) (some dd) a)) (.bl bb) := fun CC bb kk =>
          ev_cb (ea_cons (ev_var rfl) (ea_cons ev_c ea_nil)) fun H1 e7 Q1 q => ⟨a, Cx, _, v, _, _, bb, rfl, hke.ex e7, ic, .own CC, kk, q H1 (Ex.refl H1)⟩
        have rp : Ev (tCB (rRepr K) (tCons (tKF K "value" (tVar 1)) tNil)) [some (.ref p), some (.ref a), none] (upd H' a (ExK (.ref Cx) (some dd) a)) (.str d.shown) := ev_cb (ea_cons (fun H1 e7 Q1 q => ⟨_, rfl, a, Cx, v, rfl, hke.ex e7, ic.xf, no, q H1 (Ex.refl H1)⟩) ea_nil) fun H1 e7 Q1 q => ⟨v, d, rfl, Sw.ex e7 _ _ hv3, hsh.1, hsh.2.1, hsh.2.2, q H1 (Ex.refl H1)⟩
        refine s_retL (el_lst (ea_cons ((isI CL b k1).mono e6) (ea_cons ((isI CI (!b) k2).mono e6) (ea_cons (rp.mono e6) ea_nil))) (by simp)) fun q H7 nq e7 hq => kq2 q H7 (fresh_back (e4.trans e6) nq) ((e4.trans e6).trans e7) hq
      cases b with
      | true => exact fin CL T.iL T.nL T.kLL T.kLI T.eL
      | false => exact fin CI T.iI T.nI T.kIL T.kII T.eI
end
end Cau
/-! ### what evaluates to data -/
namespace EvD
open PySem PySem.Spec PyProof.Rows L2 Evl Gen Ent Rep Dat Nm Er Chk Gu Deed Pts Hear Lst Bk Cau
/-- a tracked list of such data -/
def TL (K : PySem.W.Frag) (H : Hp) (p : Addr) (ds : List PyData) : Prop := ∃ xs, H p = some (.lst xs) ∧ SwAll K H xs ds
theorem TL.ex {K : PySem.W.Frag} {H H' : Hp} {p : Addr} {ds : List PyData} (e : Ex H H') (h : TL K H p ds) : TL K H' p ds := by
  obtain ⟨xs, h1, h2⟩ := h
  exact ⟨xs, e _ _ h1, SwAll.ex e _ _ h2⟩
theorem TL.sw {K : PySem.W.Frag} {H : Hp} {p : Addr} {ds : List PyData} (h : TL K H p ds) : Sw K H (.ref p) (.list ds) := by
  obtain ⟨xs, h1, h2⟩ := h
  exact .lst (SqL.of h1) h2
def ED (K : PySem.W.Frag) (te : TE) (σ : L2.St) (H : Hp) (d : PyData) : Prop := ∀ H1, Ex H H1 → ∀ Q : VK, (∀ v H2, Ex H1 H2 → Sw K H2 v d → Q v H2) → te σ H1 Q
def EDA (K : PySem.W.Frag) (ta : TA) (σ : L2.St) (H : Hp) (ds : List PyData) : Prop := ∀ H1, Ex H H1 → ∀ Q : List V → Hp → Prop, (∀ vs H2, Ex H1 H2 → SwAll K H2 vs ds → Q vs H2) → ta σ H1 Q
def EL (K : PySem.W.Frag) (te : TE) (σ : L2.St) (H : Hp) (ds : List PyData) : Prop := ∀ H1, Ex H H1 → ∀ Q : VK, (∀ p H2, Ex H1 H2 → TL K H2 p ds → Q (.ref p) H2) → te σ H1 Q
section
variable {K : PySem.W.Frag} {σ : L2.St} {H H' : Hp} {ta tr : TA} {te tb tl : TE} {t : TT} {v : V} {d : PyData} {ds es : List PyData}
theorem ED.mono (e : Ex H H') (h : ED K te σ H d) : ED K te σ H' d := fun H1 a Q q => h H1 (e.trans a) Q q
theorem EL.mono (e : Ex H H') (h : EL K te σ H ds) : EL K te σ H' ds := fun H1 a Q q => h H1 (e.trans a) Q q
theorem ed_c (h : ∀ H, Sw K H v d) : ED K (tC v) σ H d := fun H1 _ Q q => q v H1 (Ex.refl H1) (h H1)
theorem ed_non : ED K (tC .non) σ H .none := ed_c fun _ => .non
theorem ed_bl {b : Bool} : ED K (tC (.bl b)) σ H (.bool b) := ed_c fun _ => .bl b
theorem ed_int {i : Int} : ED K (tC (.int i)) σ H (.int i) := ed_c fun _ => .int i
theorem ed_str {s : Str} : ED K (tC (.str s)) σ H (.str s) := ed_c fun _ => .str s
theorem ed_var {i : Nat} (hi : σ[i]? = some (some v)) (h : Sw K H v d) : ED K (tVar i) σ H d := fun H1 e Q q => ⟨v, hi, q v H1 (Ex.refl H1) (Sw.ex e _ _ h)⟩
theorem el_var {i : Nat} {p : Addr} (hi : σ[i]? = some (some (.ref p))) (h : TL K H p ds) : EL K (tVar i) σ H ds := fun H1 e Q q => ⟨_, hi, q p H1 (Ex.refl H1) (h.ex e)⟩
theorem eda_nil : EDA K tNil σ H [] := fun H1 _ Q q => q [] H1 (Ex.refl H1) .nil
theorem eda_cons (h : ED K te σ H d) (r : EDA K tr σ H ds) : EDA K (tCons te tr) σ H (d :: ds) := fun H1 e Q q =>
  h H1 e _ fun v H2 e2 w => r H2 (e.trans e2) _ fun vs H3 e3 ws => q (v :: vs) H3 (e2.trans e3) (.cons (Sw.ex e3 _ _ w) ws)
theorem el_lst (h : EDA K ta σ H ds) (hz : ds.length ≤ 100000) : EL K (tLst ta) σ H ds := fun H1 e Q q =>
  h H1 e _ fun vs H2 e2 w => ⟨sz_of (by rw [swAll_len w]; exact hz), fun p np => q p _ (e2.trans (Ex.new np)) ⟨vs, upd_same, SwAll.ex (Ex.new np) _ _ w⟩⟩
theorem ed_of (h : EL K te σ H ds) : ED K te σ H (.list ds) := fun H1 e Q q => h H1 e _ fun p H2 e2 w => q _ H2 e2 w.sw
theorem ed_lst (h : EDA K ta σ H ds) (hz : ds.length ≤ 100000) : ED K (tLst ta) σ H (.list ds) := ed_of (el_lst h hz)
theorem ed_tup (h : EDA K ta σ H ds) (hz : ds.length ≤ 100000) : ED K (tTup ta) σ H (.tuple ds) := fun H1 e Q q =>
  h H1 e _ fun vs H2 e2 w => ⟨sz_of (by rw [swAll_len w]; exact hz), fun p np => q _ _ (e2.trans (Ex.new np)) (.tup (SqT.of upd_same) (SwAll.ex (Ex.new np) _ _ w))⟩
theorem ed_dict : ED K tDNewK σ H (.dict []) := fun H1 e Q q p np => q _ _ (Ex.new np) (.dct upd_same .nil)
theorem swAll_app {xs ys : List V} : ∀ {ds es : List PyData}, SwAll K H xs ds → SwAll K H ys es → SwAll K H (xs ++ ys) (ds ++ es) := by
  induction xs with
  | nil => intro ds es a b; cases a; exact b
  | cons x xs ih =>
    intro ds es a b
    cases a with
    | cons p q => exact .cons p (ih q b)
theorem el_cat (h : EL K te σ H ds) (h2 : EL K tb σ H es) (hz : ds.length + es.length ≤ 100000) : EL K (tOp rCat te tb) σ H (ds ++ es) := fun H1 e Q q =>
  h H1 e _ fun p H2 e2 ⟨xs, w1, w2⟩ => h2 H2 (e.trans e2) _ fun p2 H3 e3 ⟨ys, u1, u2⟩ =>
    ⟨p, p2, xs, ys, rfl, rfl, e3 _ _ w1, u1, sz_of (by rw [swAll_len w2, swAll_len u2]; exact hz), fun r nr => q r _ ((e2.trans e3).trans (Ex.new nr)) ⟨_, upd_same, SwAll.ex (Ex.new nr) _ _ (swAll_app (SwAll.ex e3 _ _ w2) u2)⟩⟩
theorem swAll_rep {xs : List V} (a : SwAll K H xs ds) : ∀ n : Nat, SwAll K H (List.replicate n xs).flatten (List.replicate n ds).flatten
  | 0 => .nil
  | n + 1 => by
    rw [List.replicate_succ, List.replicate_succ, List.flatten_cons, List.flatten_cons]
    exact swAll_app a (swAll_rep a n)
theorem el_rep {k : Nat} (h : EL K te σ H ds) (h2 : Ev tb σ H (.int (k : Int))) (hz : ds.length * k ≤ 100000) (hk : k ≤ 100000) : EL K (tOp rRep te tb) σ H (List.replicate k ds).flatten := fun H1 e Q q =>
  h H1 e _ fun p H2 e2 ⟨xs, w1, w2⟩ => h2 H2 (e.trans e2) _ fun H3 e3 =>
    ⟨p, (k : Int), xs, rfl, rfl, e3 _ _ w1, by omega, by omega, sz_of (by rw [swAll_len w2]; simpa using hz), fun r nr => by
      have en : ((k : Int)).toNat = k := by omega
      rw [en]
      exact q r _ ((e2.trans e3).trans (Ex.new nr)) ⟨_, upd_same, SwAll.ex (e3.trans (Ex.new nr)) _ _ (swAll_rep w2 k)⟩⟩
theorem el_sl {n : Nat} {th : TO} (h : EL K te σ H ds) (h2 : EvO th σ H (some (n : Int))) : EL K (tSl (rSlL K) te tNoPart th) σ H (ds.take n) := fun H1 e Q q =>
  h H1 e _ fun p H2 e2 ⟨xs, w1, w2⟩ => h2 H2 (e.trans e2) _ fun H3 e3 => ⟨p, xs, rfl, SqL.of (e3 _ _ w1), fun r nr => by
    rw [cut_take]
    exact q r _ ((e2.trans e3).trans (Ex.new nr)) ⟨_, upd_same, SwAll.ex (e3.trans (Ex.new nr)) _ _ (swAll_take n w2)⟩⟩
theorem ed_tupOf (h : EL K te σ H ds) : ED K (tCB (fun xs H Q => ∃ p ys, xs = [.ref p] ∧ ((SqL K H p ys ∧ ∀ l, H l = none → Q (.ref l) (upd H l (.tup ys))) ∨ (SqT K H p ys ∧ Q (.ref p) H))) (tCons te tNil)) σ H (.tuple ds) := fun H1 e Q q =>
  h H1 e _ fun p H2 e2 ⟨xs, w1, w2⟩ => ⟨p, xs, rfl, .inl ⟨SqL.of w1, fun r nr => q _ _ (e2.trans (Ex.new nr)) (.tup (SqT.of upd_same) (SwAll.ex (Ex.new nr) _ _ w2))⟩⟩
theorem el_if {b : Bool} (h : EvT t σ H b) (h1 : b = true → EL K te σ H ds) (h2 : b = false → EL K tb σ H ds) : EL K (tIf t te tb) σ H ds := fun H1 e Q q => h H1 e _ fun H2 e2 => by
  cases b with
  | true =>
    show te σ H2 Q
    exact h1 rfl H2 (e.trans e2) Q fun p H3 e3 => q p H3 (e2.trans e3)
  | false =>
    show tb σ H2 Q
    exact h2 rfl H2 (e.trans e2) Q fun p H3 e3 => q p H3 (e2.trans e3)
theorem ed_ix {n : Nat} {ti : TE} (h : EL K te σ H ds) (hi : Ev ti σ H (.int (n : Int))) (hd : ds[n]? = some d) : ED K (tOp (rIxL K) te ti) σ H d := fun H1 e Q q =>
  h H1 e _ fun p H2 e2 ⟨xs, w1, w2⟩ => hi H2 (e.trans e2) _ fun H3 e3 => by
    have hl := swAll_len w2
    have hn := (List.getElem?_eq_some_iff.mp hd).1
    have hx : xs[n]? = some xs[n] := List.getElem?_eq_getElem (by omega)
    obtain ⟨d', hd', hs⟩ := swAll_get w2 hx
    rw [hd] at hd'
    cases hd'
    exact ⟨p, xs, _, _, rfl, rfl, SqL.of (e3 _ _ w1), atI_nat hx, q _ H3 (e2.trans e3) (Sw.ex e3 _ _ hs)⟩
/-- a loop over such a list -/
theorem q_forE {tu tz : TS} {D : Ends} {j : Nat} (h : EL K tl σ H ds) (Sl : L2.St → Prop) (s0 : Sl σ)
    (hs : ∀ H2, Ex H H2 → ∀ (i : Nat) (x : V) (d : PyData) (σ' : L2.St) (H' : Hp), ds[i]? = some d → Sl σ' → Ex H2 H' → Sw K H' x d → tu { D with nx := fun σ3 H3 => Sl σ3 ∧ Ex H2 H3, ct := fun σ3 H3 => Sl σ3 ∧ Ex H2 H3, bk := tz D } (σ'.set j (some x)) H')
    (hd : ∀ σ' H', Sl σ' → Ex H H' → tz D σ' H') : tSeq (tFor (iList K tl) (gName j) tu) tz D σ H :=
  h H (Ex.refl H) _ fun p H2 e2 ⟨xs, w1, w2⟩ => ⟨p, rfl, ⟨xs, SqL.of w1⟩, for_list (xs := xs) (fun _ σ' H' => Sl σ' ∧ Ex H2 H') ⟨s0, Ex.refl H2⟩ (fun i σ' H' _ q => SqL.of (q.2 _ _ w1)) (fun i x σ' H' hx q => by
    obtain ⟨d, hd', hw⟩ := swAll_get w2 hx
    exact hs H2 e2 i x d σ' H' hd' q.1 q.2 (Sw.ex q.2 _ _ hw)) (fun σ' H' q => hd σ' H' q.1 (e2.trans q.2))⟩
theorem s_forE {tu : TS} {D : Ends} {j : Nat} (h : EL K tl σ H ds) (Sl : L2.St → Prop) (s0 : Sl σ)
    (hs : ∀ H2, Ex H H2 → ∀ (i : Nat) (x : V) (d : PyData) (σ' : L2.St) (H' : Hp), ds[i]? = some d → Sl σ' → Ex H2 H' → Sw K H' x d → tu { D with nx := fun σ3 H3 => Sl σ3 ∧ Ex H2 H3, ct := fun σ3 H3 => Sl σ3 ∧ Ex H2 H3, bk := D.nx } (σ'.set j (some x)) H')
    (hd : ∀ σ' H', Sl σ' → Ex H H' → D.nx σ' H') : tFor (iList K tl) (gName j) tu D σ H :=
  h H (Ex.refl H) _ fun p H2 e2 ⟨xs, w1, w2⟩ => ⟨p, rfl, ⟨xs, SqL.of w1⟩, for_list (xs := xs) (fun _ σ' H' => Sl σ' ∧ Ex H2 H') ⟨s0, Ex.refl H2⟩ (fun i σ' H' _ q => SqL.of (q.2 _ _ w1)) (fun i x σ' H' hx q => by
    obtain ⟨d, hd', hw⟩ := swAll_get w2 hx
    exact hs H2 e2 i x d σ' H' hd' q.1 q.2 (Sw.ex q.2 _ _ hw)) (fun σ' H' q => hd σ' H' q.1 (e2.trans q.2))⟩
/-- what _law_caught tells is what is told behind it -/
theorem et_cau {d1 d2 d3 d4 d5 : PyData} {b : Bool} {E : XK} (hl : EL K tl σ H [d1, d2, d3, d4, d5]) (f : Fit5 d1 d2 d3 d4 d5) (hb : bookErr d1 d2 d3 d4 d5 = some (b, d)) (hs : Shw d) (ho : PyData.strOk d.shown = true) (he : ED K te σ H d) :
    EvT (tTest (tOp (rNeD K) (tCall (spCau K) [] E (tCons tl tNil)) (tLst (tCons (tC (.bl b)) (tCons (tC (.bl (!b))) (tCons (tCB (rRepr K) (tCons te tNil)) tNil)))))) σ H false := fun H1 e Q q =>
  hl H1 e _ fun p H2 e2 ⟨xs, w1, w2⟩ => by
    cases w2 with
    | cons a1 w2 =>
      cases w2 with
      | cons a2 w2 =>
        cases w2 with
        | cons a3 w2 =>
          cases w2 with
          | cons a4 w2 =>
            cases w2 with
            | cons a5 w2 =>
              cases w2
              refine ⟨p, _, _, _, _, _, d1, d2, d3, d4, d5, rfl, SqL.of w1, ⟨a1, a2, a3, a4, a5⟩, f, (fun z => by rw [hb] at z; cases z), fun b' d' z => ?_⟩
              rw [hb] at z
              cases z
              refine ⟨hs, fun r H3 nr e3 hr => ?_⟩
              refine he H3 ((e.trans e2).trans e3) _ fun v H4 e4 hv => ⟨v, d, rfl, hv, hs.1, hs.2.1, hs.2.2, by show 3 ≤ sizeLine; decide, fun r2 nr2 => ?_⟩
              have e5 := Ex.new (o := .lst [.bl b, .bl (!b), .str d.shown]) nr2
              have sh : SeqAt.shaped (.list [.bool b, .bool (!b), .str d.shown]) = true := by
                simp [SeqAt.shaped, PyData.canLay0, PyData.canLayAll0, PyData.depth, PyData.depthAll, ho]
              refine ⟨.list [.bool b, .bool (!b), .str d.shown], .list [.bool b, .bool (!b), .str d.shown], .lst (SqL.of (e5 _ _ (e4 _ _ hr))) (.cons (.bl _) (.cons (.bl _) (.cons (.str _) .nil))), .lst (SqL.of upd_same) (.cons (.bl _) (.cons (.bl _) (.cons (.str _) .nil))), sh, sh, false, ?_, q _ (((e2.trans e3).trans e4).trans e5)⟩
              rw [SeqAt.eqv_refl _ (SeqAt.canLay_of_shaped sh)]
              rfl
end
end EvD
/-! ### _law_bad_entries -/
namespace BadE
open PySem PySem.Spec PyProof.Rows L2 Evl Gen Ent Rep Dat Nm Er Chk Gu Deed Pts Hear Lst Bk Cau EvD
def badA : List PyData := [.none, (.int 3), (.str "ask"), (.tuple []), (.tuple [(.str "lacks"), (.str "ask")]), (.tuple [(.str "lacks"), (.str "ask"), (.str "lacks"), (.int 0)]), (.list [(.str "lacks"), (.str "ask"), (.str "lacks")]), (.dict [])]
def badB : List PyData := [(.tuple [(.str "zz"), (.str "ask"), (.str "lacks")]), (.tuple [(.str "lacks"), (.str "ask"), (.str "zz")]), (.tuple [(.str "lacks"), (.str "ask"), (.str "idle")]), (.tuple [(.str "idle"), (.str "ask"), (.str "lacks")])]
def badC : List PyData := [(.tuple [(.str "lacks"), (.str "Ask"), (.str "lacks")]), (.tuple [(.str "lacks"), (.str ""), (.str "lacks")]), (.tuple [(.str "lacks"), (.str "abcdefghi"), (.str "lacks")]), (.bool true)]
def badDs : List PyData := [(.tuple [(.str "lacks"), (.int 3), (.str "lacks")]), (.tuple [(.str "lacks"), (.list [(.str "ask")]), (.str "lacks")]), (.tuple [(.list [(.str "lacks")]), (.str "ask"), (.str "lacks")])]
def badE : PyData := (.tuple [(.str "idle"), (.str "a1"), (.str "idle")])
def badF : List PyData := [(.tuple [(.str "lacks"), (.str "ask"), .none]), (.tuple [.none, (.str "ask"), .none]), (.tuple [(.str "lacks"), (.str "a\n"), (.str "lacks")]), (.tuple [(.dict []), (.str "ask"), (.dict [])])]
def badG (b : Bool) : List PyData := if b then [] else [(.tuple [(.str "lacks"), .none, (.str "lacks")]), (.tuple [(.str "idle"), .none, (.str "idle")])]
def bads (b : Bool) : List PyData := ((((((badA ++ badB) ++ badC) ++ badDs) ++ [badE]) ++ badF)) ++ badG b
def spBad (K : PySem.W.Frag) : Sp := fun vs H Q _ => ∃ b : Bool, vs = [.bl b] ∧ ∀ p H', Ex H H' → TL K H' p (bads b) → Q (.ref p) H'
abbrev sBad : Stmt := top 26
theorem scBe : FnScope ["_law_silent", "_law_found"] ["_law_silent"] (defScope sBad) := ⟨rfl, rfl, rfl, by decide +kernel, rfl, by decide +kernel, by decide +kernel⟩
/-- as el_cat, told where the new list's items stood before it -/
theorem cat_new {K : PySem.W.Frag} {σ : L2.St} {H : Hp} {te tb : TE} {ds es : List PyData} {D : Ends} {i : Nat} {tz : TS} (h : EL K te σ H ds) (h2 : EL K tb σ H es) (hz : ds.length + es.length ≤ 100000)
    (k : ∀ p xs Hb H2, Ex H Hb → Hb p = none → H2 = upd Hb p (.lst xs) → SwAll K Hb xs (ds ++ es) → tz D (σ.set i (some (.ref p))) H2) : tSeq (tAsg (tOp rCat te tb) (gName i)) tz D σ H :=
  h H (Ex.refl H) _ fun p H2 e2 ⟨xs, w1, w2⟩ => h2 H2 e2 _ fun p2 H3 e3 ⟨ys, u1, u2⟩ =>
    ⟨p, p2, xs, ys, rfl, rfl, e3 _ _ w1, u1, sz_of (by rw [swAll_len w2, swAll_len u2]; exact hz), fun r nr => k r _ H3 _ (e2.trans e3) nr rfl (swAll_app (SwAll.ex e3 _ _ w2) u2)⟩
theorem q_asgE {K : PySem.W.Frag} {σ : L2.St} {H : Hp} {te : TE} {ds : List PyData} {D : Ends} {i : Nat} {tz : TS} (h : EL K te σ H ds) (k : ∀ p H2, Ex H H2 → TL K H2 p ds → tz D (σ.set i (some (.ref p))) H2) : tSeq (tAsg te (gName i)) tz D σ H :=
  h H (Ex.refl H) _ fun p H2 e2 w => k p H2 e2 w
theorem s_retE {K : PySem.W.Frag} {σ : L2.St} {H : Hp} {te : TE} {ds : List PyData} {D : Ends} (h : EL K te σ H ds) (k : ∀ p H2, Ex H H2 → TL K H2 p ds → D.rt (.ref p) H2) : tRet te D σ H := h H (Ex.refl H) _ k
section
variable {P : Program} {w : World} {K : PySem.W.Frag} {mg : Str → Option Value} {base : Heap}
theorem ok_bad {f : Addr} {fd : FuncData} (F : Fun K "_law_bad_entries" "_law_bad_entries" sBad f fd) : FnOk P w K mg base CX0 1 f fd ["_law_silent"] (spBad K) := by
  refine F.ok scBe (fun vs H Q E h => ?_) (fun cdv A outer s H vs Q E hr h => ?_)
  · obtain ⟨b, rfl, _⟩ := h
    rfl
  · obtain ⟨b, rfl, kq⟩ := h
    refine ⟨_, (pss_cons (ps_set (i := 1) scBe.nd rfl (Or.inl rfl) (pe_lst (pa_cons pe_non (pa_cons pe_int (pa_cons pe_str (pa_cons (pe_tup pa_nil) (pa_cons (pe_tup (pa_cons pe_str (pa_cons pe_str pa_nil))) (pa_cons (pe_tup (pa_cons pe_str (pa_cons pe_str (pa_cons pe_str (pa_cons pe_int pa_nil))))) (pa_cons (pe_lst (pa_cons pe_str (pa_cons pe_str (pa_cons pe_str pa_nil)))) (pa_cons pe_dnewK pa_nil))))))))))
      (pss_cons (ps_set (i := 1) scBe.nd rfl (Or.inl rfl) (pe_op op_cat (pv 1) (pe_lst (pa_cons (pe_tup (pa_cons pe_str (pa_cons pe_str (pa_cons pe_str pa_nil)))) (pa_cons (pe_tup (pa_cons pe_str (pa_cons pe_str (pa_cons pe_str pa_nil)))) (pa_cons (pe_tup (pa_cons pe_str (pa_cons pe_str (pa_cons pe_str pa_nil)))) (pa_cons (pe_tup (pa_cons pe_str (pa_cons pe_str (pa_cons pe_str pa_nil)))) pa_nil)))))))
      (pss_cons (ps_set (i := 1) scBe.nd rfl (Or.inl rfl) (pe_op op_cat (pv 1) (pe_lst (pa_cons (pe_tup (pa_cons pe_str (pa_cons pe_str (pa_cons pe_str pa_nil)))) (pa_cons (pe_tup (pa_cons pe_str (pa_cons pe_str (pa_cons pe_str pa_nil)))) (pa_cons (pe_tup (pa_cons pe_str (pa_cons pe_str (pa_cons pe_str pa_nil)))) (pa_cons pe_bl pa_nil)))))))
      (pss_cons (ps_set (i := 1) scBe.nd rfl (Or.inl rfl) (pe_op op_cat (pv 1) (pe_lst (pa_cons (pe_tup (pa_cons pe_str (pa_cons pe_int (pa_cons pe_str pa_nil)))) (pa_cons (pe_tup (pa_cons pe_str (pa_cons (pe_lst (pa_cons pe_str pa_nil)) (pa_cons pe_str pa_nil)))) (pa_cons (pe_tup (pa_cons (pe_lst (pa_cons pe_str pa_nil)) (pa_cons pe_str (pa_cons pe_str pa_nil)))) pa_nil))))))
      (pss_cons (ps_expr (pe_bm PySem.F.plainAttrs_list PySem.F.slot_list_append PySem.F.type_list_append mt_append (pv 1) (pa_cons (pe_tup (pa_cons pe_str (pa_cons pe_str (pa_cons pe_str pa_nil)))) pa_nil)))
      (pss_cons (ps_set (i := 1) scBe.nd rfl (Or.inl rfl) (pe_op op_cat (pv 1) (pe_lst (pa_cons (pe_tup (pa_cons pe_str (pa_cons pe_str (pa_cons pe_non pa_nil)))) (pa_cons (pe_tup (pa_cons pe_non (pa_cons pe_str (pa_cons pe_non pa_nil)))) (pa_cons (pe_tup (pa_cons pe_str (pa_cons pe_str (pa_cons pe_str pa_nil)))) (pa_cons (pe_tup (pa_cons pe_dnewK (pa_cons pe_str (pa_cons pe_dnewK pa_nil)))) pa_nil)))))))
      (pss_one (ps_ret (pe_op op_cat (pv 1) (pe_ifExp (pt_val (pv 0)) (pe_lst pa_nil) (pe_lst (pa_cons (pe_tup (pa_cons pe_str (pa_cons pe_non (pa_cons pe_str pa_nil)))) (pa_cons (pe_tup (pa_cons pe_str (pa_cons pe_non (pa_cons pe_str pa_nil)))) pa_nil))))))))))))), ?_⟩
    refine q_asgE (K := K) (ds := badA) (EvD.el_lst (eda_cons ed_non (eda_cons ed_int (eda_cons ed_str (eda_cons (ed_tup eda_nil (by first | decide | simp)) (eda_cons (ed_tup (eda_cons ed_str (eda_cons ed_str eda_nil)) (by first | decide | simp)) (eda_cons (ed_tup (eda_cons ed_str (eda_cons ed_str (eda_cons ed_str (eda_cons ed_int eda_nil)))) (by first | decide | simp)) (eda_cons (ed_lst (eda_cons ed_str (eda_cons ed_str (eda_cons ed_str eda_nil))) (by first | decide | simp)) (eda_cons ed_dict eda_nil)))))))) (by first | decide | simp)) fun p1 H1 e1 t1 => ?_
    refine q_asgE (K := K) (ds := badA ++ badB) (el_cat (el_var rfl t1) (EvD.el_lst (eda_cons (ed_tup (eda_cons ed_str (eda_cons ed_str (eda_cons ed_str eda_nil))) (by first | decide | simp)) (eda_cons (ed_tup (eda_cons ed_str (eda_cons ed_str (eda_cons ed_str eda_nil))) (by first | decide | simp)) (eda_cons (ed_tup (eda_cons ed_str (eda_cons ed_str (eda_cons ed_str eda_nil))) (by first | decide | simp)) (eda_cons (ed_tup (eda_cons ed_str (eda_cons ed_str (eda_cons ed_str eda_nil))) (by first | decide | simp)) eda_nil)))) (by first | decide | simp)) (by decide)) fun p2 H2 e2 t2 => ?_
    refine q_asgE (K := K) (ds := (badA ++ badB) ++ badC) (el_cat (el_var rfl t2) (EvD.el_lst (eda_cons (ed_tup (eda_cons ed_str (eda_cons ed_str (eda_cons ed_str eda_nil))) (by first | decide | simp)) (eda_cons (ed_tup (eda_cons ed_str (eda_cons ed_str (eda_cons ed_str eda_nil))) (by first | decide | simp)) (eda_cons (ed_tup (eda_cons ed_str (eda_cons ed_str (eda_cons ed_str eda_nil))) (by first | decide | simp)) (eda_cons ed_bl eda_nil)))) (by first | decide | simp)) (by decide)) fun p3 H3 e3 t3 => ?_
    refine cat_new (K := K) (ds := (badA ++ badB) ++ badC) (es := badDs) (el_var rfl t3) (EvD.el_lst (eda_cons (ed_tup (eda_cons ed_str (eda_cons ed_int (eda_cons ed_str eda_nil))) (by first | decide | simp)) (eda_cons (ed_tup (eda_cons ed_str (eda_cons (ed_lst (eda_cons ed_str eda_nil) (by first | decide | simp)) (eda_cons ed_str eda_nil))) (by first | decide | simp)) (eda_cons (ed_tup (eda_cons (ed_lst (eda_cons ed_str eda_nil) (by first | decide | simp)) (eda_cons ed_str (eda_cons ed_str eda_nil))) (by first | decide | simp)) eda_nil))) (by first | decide | simp)) (by decide) fun p4 xs Hb H4 e4 n4 h4 w4 => ?_
    subst h4
    have e3' := (e1.trans e2).trans e3
    have hp4 : upd Hb p4 (.lst xs) p4 = some (.lst xs) := upd_same
    refine ⟨_, rfl, .inl ⟨rfl, _, SqL.of hp4⟩, by show 3 ≤ sizeLine; decide, fun t nt => ?_⟩
    have nt4 : t ≠ p4 := (ne_of_none hp4 nt).symm
    have lx := swAll_len w4
    refine ⟨p4, xs, .ref t, rfl, rfl, by rw [upd_ne nt4.symm]; exact hp4, by rw [lx]; exact sz_lt (by decide), ?_⟩
    have e5 : Ex Hb (upd (upd (upd Hb p4 (.lst xs)) t (.tup [.str "idle", .str "a1", .str "idle"])) p4 (.lst (xs ++ [.ref t]))) := Ex.mut ((Ex.new n4).trans (Ex.new nt)) n4
    have t5 : TL K (upd (upd (upd Hb p4 (.lst xs)) t (.tup [.str "idle", .str "a1", .str "idle"])) p4 (.lst (xs ++ [.ref t]))) p4 ((((badA ++ badB) ++ badC) ++ badDs) ++ [badE]) :=
      ⟨xs ++ [.ref t], upd_same, swAll_app (SwAll.ex e5 _ _ w4) (.cons (.tup (SqT.of (by rw [upd_ne nt4]; exact upd_same)) (.cons (.str _) (.cons (.str _) (.cons (.str _) .nil)))) .nil)⟩
    generalize upd (upd (upd Hb p4 (.lst xs)) t (.tup [.str "idle", .str "a1", .str "idle"])) p4 (.lst (xs ++ [.ref t])) = H5 at e5 t5
    have e6 := (e3'.trans e4).trans e5
    refine q_asgE (K := K) (ds := ((((badA ++ badB) ++ badC) ++ badDs) ++ [badE]) ++ badF) (el_cat (el_var rfl t5) (EvD.el_lst (eda_cons (ed_tup (eda_cons ed_str (eda_cons ed_str (eda_cons ed_non eda_nil))) (by first | decide | simp)) (eda_cons (ed_tup (eda_cons ed_non (eda_cons ed_str (eda_cons ed_non eda_nil))) (by first | decide | simp)) (eda_cons (ed_tup (eda_cons ed_str (eda_cons ed_str (eda_cons ed_str eda_nil))) (by first | decide | simp)) (eda_cons (ed_tup (eda_cons ed_dict (eda_cons ed_str (eda_cons ed_dict eda_nil))) (by first | decide | simp)) eda_nil)))) (by first | decide | simp)) (by decide)) fun p6 H6 e7 t6 => ?_
    refine s_retE (K := K) (ds := bads b) (el_cat (el_var rfl t6) (el_if (b := b) (et_B (ev_var rfl)) (fun hb => ?_) (fun hb => ?_)) (by cases b <;> decide)) fun p7 H7 e8 t7 => kq p7 H7 ((e6.trans e7).trans e8) t7
    · subst hb
      exact (EvD.el_lst eda_nil (by first | decide | simp))
    · subst hb
      exact (EvD.el_lst (eda_cons (ed_tup (eda_cons ed_str (eda_cons ed_non (eda_cons ed_str eda_nil))) (by first | decide | simp)) (eda_cons (ed_tup (eda_cons ed_str (eda_cons ed_non (eda_cons ed_str eda_nil))) (by first | decide | simp)) eda_nil)) (by first | decide | simp))
end
end BadE
/-! ### _law_entries_refused -/
namespace EntR
open PySem PySem.Spec PyProof.Rows L2 Evl Gen Ent Rep Dat Nm Er Chk Gu Deed Pts Hear Lst Bk Cau EvD BadE
/-- a def that may be called while no container is being shown -/
structure DfG (P : Program) (w : World) (K : PySem.W.Frag) (mg : Str → Option Value) (base : Heap) (k : Nat) (x : Str) (ps : List Str) (sp : Sp) : Prop where
  ex : ∃ f fd, FnG P w K mg base k f fd ps sp ∧ mg x = some (.ref f) ∧ PySem.W.keepIn K (.ref f) = true ∧ Binds K fd ps []
section
variable {X : Cx} {k j : Nat} {ps : List Str} {sp : Sp} {x : Str} {p pos : Pos} {e : Expr} {es : List Expr} {t : TA}
theorem pe_dfG (D : DfG X.prog X.w X.K X.mg X.base k x ps sp) (gd : X.A.guards = some []) (hr : Room j X.A) (ha : PA X (e :: es) t) (hk : k ≤ j := by decide) (hg : Gl X x := by rfl) (hdb : (x == ("__debug__" : Str)) = false := by decide)
    (he : starEach (e :: es) X.env = (false, eval e X.env) :: starEach es X.env := by rfl) (hpl : (backTo pos (starEach es X.env)).any (·.1) = false := by rfl) :
    PE X (.Call (.Name x p) (e :: es) [] pos) (tCall sp [] E0 t) := by
  obtain ⟨f, fd, G, hm, hkp, hb⟩ := D.ex
  exact pe_callG G gd (hr.mono hk) hg hm hkp hb .nil ha hdb he hpl
end
def fitB : PyData → Bool
  | .str z => decide (z.length ≤ 40000)
  | _ => true
def fitTB : PyData → Bool
  | .tuple xs => xs.all fitB
  | _ => true
theorem fitB_ok {d : PyData} (h : fitB d = true) : Fit d := fun z e => by
  subst e
  exact of_decide_eq_true h
theorem fitTB_ok {d : PyData} (h : fitTB d = true) : FitT d := fun xs e x hx => by
  subst e
  exact fitB_ok (List.all_eq_true.mp h x hx)
theorem fitN_ok {d : PyData} (h : (items d).all fitB = true) : FitN d := fun x hx => fitB_ok (List.all_eq_true.mp h x hx)
theorem fitE_ok {d : PyData} (h : (items d).all fitTB = true) : FitE d := fun x hx => fitTB_ok (List.all_eq_true.mp h x hx)
def fit5B (d1 d2 d3 d4 d5 : PyData) : Bool := (items d1).all fitB && ((items d2).all fitB && ((items d3).all fitTB && ((items d4).all fitTB && (items d5).all fitB)))
theorem fit5_ok {d1 d2 d3 d4 d5 : PyData} (h : fit5B d1 d2 d3 d4 d5 = true) : Fit5 d1 d2 d3 d4 d5 := by
  unfold fit5B at h
  simp only [Bool.and_eq_true] at h
  obtain ⟨h1, h2, h3, h4, h5⟩ := h
  exact ⟨fitN_ok h1, fitN_ok h2, fitE_ok h3, fitE_ok h4, fitN_ok h5⟩
/-- what can be shown, and its text be compared -/
def okB (d : PyData) : Bool := d.showable && (decide (d.shown.length ≤ 100000) && (decide (d.depth ≤ 60) && PyData.strOk d.shown))
theorem okB_ok {d : PyData} (h : okB d = true) : Shw d ∧ PyData.strOk d.shown = true := by
  unfold okB at h
  simp only [Bool.and_eq_true, decide_eq_true_eq] at h
  exact ⟨⟨h.1, sz_of h.2.1, h.2.2.1⟩, h.2.2.2⟩
theorem ev_ofInt {K : PySem.W.Frag} {te : TE} {σ : L2.St} {H : Hp} {i : Int} (h : ED K te σ H (.int i)) : Ev te σ H (.int i) := fun H1 e Q q => h H1 e _ fun v H2 e2 w => by
  cases w
  exact q H2 e2
def iL : PyData := .list [.str "idle"]
def lL : PyData := .list [.str "lacks"]
def gE : List PyData := [.tuple [.str "lacks", .str "ask", .str "lacks"], .tuple [.str "idle", .str "ask", .str "idle"]]
def oneE : PyData := .tuple [.str "lacks", .str "ask", .str "lacks"]
def odds (n : Nat) : List PyData := [.none, .int 3, .tuple [], .tuple gE, .str "deeds", .dict [], .bool true, .list (List.replicate n [oneE]).flatten]
theorem g1 : many iL 1 3 = true := by decide
theorem g2 : firstBad 1 (badN [] [.str "idle"]) = none := by decide
theorem g3 : many lL 1 4 = true := by decide
theorem g4 : firstBad 1 (badN ["idle"] [.str "lacks"]) = none := by decide
theorem g5 : many (.list gE) 0 10 = true := by decide
theorem g6 : firstBad 2 (badD ["idle"] ["lacks"] gE) = none := by decide
theorem ahead_ok (d3 d4 d5 : PyData) : bookErr iL lL d3 d4 d5 = orE (manyE d3 0 10) (orE (itemE (items d3) (badD ["idle"] ["lacks"] (items d3))) (orE (manyE d4 0 12) (orE (itemE (items d4) (badH ["idle"] ["lacks"] (items d4))) (orE (manyE d5 0 4) (itemE (items d5) (badN [] (items d5))))))) := by
  unfold bookErr
  simp only [manyE, g1, g3, itemE]
  have e1 : firstBad (items iL).length (badN [] (items iL)) = none := g2
  have e2 : firstBad (items lL).length (badN ((items iL).map txt) (items lL)) = none := g4
  rw [e1, e2]
  rfl
theorem good_ok (d4 d5 : PyData) : bookErr iL lL (.list gE) d4 d5 = orE (manyE d4 0 12) (orE (itemE (items d4) (badH ["idle"] ["lacks"] (items d4))) (orE (manyE d5 0 4) (itemE (items d5) (badN [] (items d5))))) := by
  rw [ahead_ok]
  have e1 : manyE (.list gE) 0 10 = none := by unfold manyE; rw [g5]; rfl
  have e2 : itemE (items (.list gE)) (badD ["idle"] ["lacks"] (items (.list gE))) = none := by
    unfold itemE
    have : firstBad (items (.list gE)).length (badD ["idle"] ["lacks"] (items (.list gE))) = none := g6
    rw [this]
  rw [e1, e2]
  rfl
/-- the item at that place is the first that is wrong -/
theorem item_bad {ds : List PyData} {bad : Nat → Bool} {i : Nat} {d : PyData} (hi : ds[i]? = some d) (hb : bad i = true) (h : ∀ j, j < i → bad j = false) : itemE ds bad = some (false, d) := by
  have hl := (List.getElem?_eq_some_iff.mp hi).1
  unfold itemE
  rw [first_some hl hb h]
  simp [List.getD_eq_getElem?_getD, hi]
/-- told for at = 2 (deeds) and at = 3 (hearings) -/
theorem odd2 {d : PyData} (h : many d 0 10 = false) : bookErr iL lL d .none .none = some (true, d) := by
  rw [ahead_ok]
  unfold manyE
  rw [h]
  rfl
theorem odd3 {d : PyData} (h : many d 0 12 = false) : bookErr iL lL (.list gE) d .none = some (true, d) := by
  rw [good_ok]
  unfold manyE
  rw [h]
  rfl
theorem one2 {d : PyData} (h : isDeed ["idle"] ["lacks"] d = false) : bookErr iL lL (.list [d]) .none .none = some (false, d) := by
  rw [ahead_ok]
  have e : itemE (items (.list [d])) (badD ["idle"] ["lacks"] (items (.list [d]))) = some (false, d) := item_bad (ds := [d]) (i := 0) rfl (by show (!isDeed _ _ d) = true; rw [h]; rfl) (fun j hj => by omega)
  rw [e]
  rfl
theorem more2 {d : PyData} (h : isDeed ["idle"] ["lacks"] d = false) : bookErr iL lL (.list (gE ++ [d, .none])) .none .none = some (false, d) := by
  rw [ahead_ok]
  have e : itemE (items (.list (gE ++ [d, .none]))) (badD ["idle"] ["lacks"] (items (.list (gE ++ [d, .none])))) = some (false, d) := item_bad (ds := gE ++ [d, .none]) (i := 2) rfl (by show (!isDeed _ _ d) = true; rw [h]; rfl) (fun j hj => by
    have : j = 0 ∨ j = 1 := by omega
    rcases this with rfl | rfl <;> rfl)
  rw [e]
  rfl
theorem one3 {d : PyData} (h : isHear ["idle"] ["lacks"] d = false) : bookErr iL lL (.list gE) (.list [d]) .none = some (false, d) := by
  rw [good_ok]
  have e : itemE (items (.list [d])) (badH ["idle"] ["lacks"] (items (.list [d]))) = some (false, d) := item_bad (ds := [d]) (i := 0) rfl (by show (!isHear _ _ d || _) = true; rw [h]; rfl) (fun j hj => by omega)
  rw [e]
  rfl
theorem more3 {d : PyData} (h : isHear ["idle"] ["lacks"] d = false) : bookErr iL lL (.list gE) (.list (gE ++ [d, .none])) .none = some (false, d) := by
  rw [good_ok]
  have e : itemE (items (.list (gE ++ [d, .none]))) (badH ["idle"] ["lacks"] (items (.list (gE ++ [d, .none])))) = some (false, d) := item_bad (ds := gE ++ [d, .none]) (i := 2) rfl (by show (!isHear _ _ d || _) = true; rw [h]; rfl) (fun j hj => by
    have : j = 0 ∨ j = 1 := by omega
    rcases this with rfl | rfl <;> rfl)
  rw [e]
  rfl
theorem odds2 : ∀ d ∈ odds 11, (okB d && (!many d 0 10 && fit5B iL lL d .none .none)) = true := by decide +kernel
theorem odds3 : ∀ d ∈ odds 13, (okB d && (!many d 0 12 && fit5B iL lL (.list gE) d .none)) = true := by decide +kernel
theorem bads2 : ∀ d ∈ bads true, (okB d && (!isDeed ["idle"] ["lacks"] d && (fit5B iL lL (.list [d]) .none .none && fit5B iL lL (.list (gE ++ [d, .none])) .none .none))) = true := by decide +kernel
theorem bads3 : ∀ d ∈ bads false, (okB d && (!isHear ["idle"] ["lacks"] d && (fit5B iL lL (.list gE) (.list [d]) .none && fit5B iL lL (.list gE) (.list (gE ++ [d, .none])) .none))) = true := by decide +kernel
end EntR
/-! ### _law_entries_refused -/
namespace EntR
open PySem PySem.Spec PyProof.Rows L2 Evl Gen Ent Rep Dat Nm Er Chk Gu Deed Pts Hear Lst Bk Cau EvD BadE
def spER (K : PySem.W.Frag) : Sp := fun vs H Q _ => vs = [] ∧ ∀ H', Ex H H' → Q (.bl true) H'
abbrev sER : Stmt := top 28
abbrev NER : List Str := ["_law_ahead", "_law_at", "_law_good", "_law_lists_here", "_law_rest", "_law_odd", "_law_some", "_law_twice"]
theorem scER : FnScope NER [] (defScope sER) := ⟨rfl, rfl, rfl, by decide +kernel, rfl, by decide +kernel, by decide +kernel⟩
/-- the law's helpers that are called here -/
structure LH (P : Program) (w : World) (K : PySem.W.Frag) (mg : Str → Option Value) (base : Heap) : Prop where
  cau : DfG P w K mg base 7 "_law_caught" ["_law_lists_here"] (spCau K)
  bad : Df P w K mg base CX0 1 "_law_bad_entries" ["_law_silent"] (spBad K)
theorem q_asgD {K : PySem.W.Frag} {σ : L2.St} {H : Hp} {te : TE} {d : PyData} {D : Ends} {i : Nat} {tz : TS} (h : ED K te σ H d) (k : ∀ v H2, Ex H H2 → Sw K H2 v d → tz D (σ.set i (some v)) H2) : tSeq (tAsg te (gName i)) tz D σ H :=
  h H (Ex.refl H) _ fun v H2 e2 w => k v H2 e2 w
theorem twice_err : bookErr iL lL (.list [oneE, oneE]) (.list [oneE, oneE]) .none = some (false, oneE) := by
  rw [ahead_ok]
  have e1 : manyE (.list [oneE, oneE]) 0 10 = none := rfl
  have e2 : itemE (items (.list [oneE, oneE])) (badD ["idle"] ["lacks"] (items (.list [oneE, oneE]))) = none := by
    unfold itemE
    have : firstBad (items (.list [oneE, oneE])).length (badD ["idle"] ["lacks"] (items (.list [oneE, oneE]))) = none := by decide
    rw [this]
  have e3 : manyE (.list [oneE, oneE]) 0 12 = none := rfl
  have e4 : itemE (items (.list [oneE, oneE])) (badH ["idle"] ["lacks"] (items (.list [oneE, oneE]))) = some (false, oneE) := item_bad (ds := [oneE, oneE]) (i := 1) rfl (by decide) (fun j hj => by
    obtain rfl : j = 0 := by omega
    decide)
  rw [e1, e2, e3, e4]
  rfl
theorem ev_cauEq {K : PySem.W.Frag} {σ : L2.St} {H : Hp} {te tl : TE} {d d1 d2 d3 d4 d5 : PyData} {b : Bool} {E : XK} (hl : EL K tl σ H [d1, d2, d3, d4, d5]) (f : Fit5 d1 d2 d3 d4 d5) (hb : bookErr d1 d2 d3 d4 d5 = some (b, d)) (hs : Shw d) (ho : PyData.strOk d.shown = true) (he : ED K te σ H d) :
    Ev (tOp (rEqD K) (tCall (spCau K) [] E (tCons tl tNil)) (tLst (tCons (tC (.bl b)) (tCons (tC (.bl (!b))) (tCons (tCB (rRepr K) (tCons te tNil)) tNil))))) σ H (.bl true) := fun H1 e Q q =>
  hl H1 e _ fun p H2 e2 ⟨xs, w1, w2⟩ => by
    cases w2 with
    | cons a1 w2 =>
      cases w2 with
      | cons a2 w2 =>
        cases w2 with
        | cons a3 w2 =>
          cases w2 with
          | cons a4 w2 =>
            cases w2 with
            | cons a5 w2 =>
              cases w2
              refine ⟨p, _, _, _, _, _, d1, d2, d3, d4, d5, rfl, SqL.of w1, ⟨a1, a2, a3, a4, a5⟩, f, (fun z => by rw [hb] at z; cases z), fun b' d' z => ?_⟩
              rw [hb] at z
              cases z
              refine ⟨hs, fun r H3 nr e3 hr => ?_⟩
              refine he H3 ((e.trans e2).trans e3) _ fun v H4 e4 hv => ⟨v, d, rfl, hv, hs.1, hs.2.1, hs.2.2, by show 3 ≤ sizeLine; decide, fun r2 nr2 => ?_⟩
              have e5 := Ex.new (o := .lst [.bl b, .bl (!b), .str d.shown]) nr2
              have sh : SeqAt.shaped (.list [.bool b, .bool (!b), .str d.shown]) = true := by
                simp [SeqAt.shaped, PyData.canLay0, PyData.canLayAll0, PyData.depth, PyData.depthAll, ho]
              refine ⟨.list [.bool b, .bool (!b), .str d.shown], .list [.bool b, .bool (!b), .str d.shown], .lst (SqL.of (e5 _ _ (e4 _ _ hr))) (.cons (.bl _) (.cons (.bl _) (.cons (.str _) .nil))), .lst (SqL.of upd_same) (.cons (.bl _) (.cons (.bl _) (.cons (.str _) .nil))), sh, sh, ?_⟩
              rw [SeqAt.eqv_refl _ (SeqAt.canLay_of_shaped sh)]
              exact q _ (((e2.trans e3).trans e4).trans e5)
section
variable {P : Program} {w : World} {K : PySem.W.Frag} {mg : Str → Option Value} {base : Heap}
set_option maxHeartbeats 4000000 in
theorem ok_er {f : Addr} {fd : FuncData} (F : Fun K "_law_entries_refused" "_law_entries_refused" sER f fd) (B : Bt mg) (T : LH P w K mg base) : FnG P w K mg base 8 f fd [] (spER K) := by
  refine fun_okG F scER (fun vs H Q E h => ?_) (fun cdv A outer s H vs Q E gd hr h => ?_)
  · obtain ⟨rfl, _⟩ := h
    rfl
  · obtain ⟨rfl, kq⟩ := h
    refine ⟨_, (pss_cons (ps_set (i := 0) scER.nd rfl (Or.inl rfl) (pe_lst (pa_cons (pe_lst (pa_cons pe_str pa_nil)) (pa_cons (pe_lst (pa_cons pe_str pa_nil)) pa_nil))))
      (pss_cons (ps_for PassesOwn.never rfl (pi_list (pe_lst (pa_cons pe_int (pa_cons pe_int pa_nil)))) (pg_name (i := 1) scER.nd rfl (Or.inl rfl)) (pss_cons (ps_set (i := 2) scER.nd rfl (Or.inl rfl) (pe_lst (pa_cons (pe_tup (pa_cons pe_str (pa_cons pe_str (pa_cons pe_str pa_nil)))) (pa_cons (pe_tup (pa_cons pe_str (pa_cons pe_str (pa_cons pe_str pa_nil)))) pa_nil))))
      (pss_cons (ps_set (i := 3) scER.nd rfl (Or.inl rfl) (pe_op op_cat (pv 0) (pe_op op_rep (pe_lst (pa_cons (pv 2) pa_nil)) (pe_op op_sub (pv 1) pe_int))))
      (pss_cons (ps_set (i := 4) scER.nd rfl (Or.inl rfl) (pe_op op_rep (pe_lst (pa_cons pe_non pa_nil)) (pe_op op_sub pe_int (pv 1))))
      (pss_cons (ps_for PassesOwn.never rfl (pi_list (pe_lst (pa_cons pe_non (pa_cons pe_int (pa_cons (pe_tup pa_nil) (pa_cons (pe_callTy call_tuple_of (by rfl) B.tuple (by decide +kernel) (pa_cons (pv 2) pa_nil)) (pa_cons pe_str (pa_cons pe_dnewK (pa_cons pe_bl (pa_cons (pe_op op_rep (pe_lst (pa_cons (pe_tup (pa_cons pe_str (pa_cons pe_str (pa_cons pe_str pa_nil)))) pa_nil)) (pe_ix ix_list (pe_lst (pa_cons pe_int (pa_cons pe_int pa_nil))) (pe_op op_sub (pv 1) pe_int) (fun _ _ => rfl))) pa_nil)))))))))) (pg_name (i := 5) scER.nd rfl (Or.inl rfl)) (pss_one (ps_if (pt_cmpR (op_neD (un64 hr)) (pe_dfG T.cau gd hr (pa_cons (pe_op op_cat (pe_op op_cat (pv 3) (pe_lst (pa_cons (pv 5) pa_nil))) (pv 4)) pa_nil)) (pe_lst (pa_cons pe_bl (pa_cons pe_bl (pa_cons (pe_callB (id := "repr") (r := rRepr K) (call_repr gd (un64 hr)) (by rfl) B.repr (by decide +kernel) (pa_cons (pv 5) pa_nil)) pa_nil)))) (nomark _)) (pss_one (ps_ret pe_bl)) pss_nil)))
      (pss_one (ps_for PassesOwn.never rfl (pi_list (pe_df T.bad hr pass0 (pa_cons (pe_cmpR op_eq (pv 1) pe_int (nomark _)) pa_nil))) (pg_name (i := 5) scER.nd rfl (Or.inl rfl)) (pss_one (ps_for PassesOwn.never rfl (pi_list (pe_lst (pa_cons (pe_lst (pa_cons (pv 5) pa_nil)) (pa_cons (pe_op op_cat (pv 2) (pe_lst (pa_cons (pv 5) (pa_cons pe_non pa_nil)))) pa_nil)))) (pg_name (i := 6) scER.nd rfl (Or.inl rfl)) (pss_one (ps_if (pt_cmpR (op_neD (un64 hr)) (pe_dfG T.cau gd hr (pa_cons (pe_op op_cat (pe_op op_cat (pv 3) (pe_lst (pa_cons (pv 6) pa_nil))) (pv 4)) pa_nil)) (pe_lst (pa_cons pe_bl (pa_cons pe_bl (pa_cons (pe_callB (id := "repr") (r := rRepr K) (call_repr gd (un64 hr)) (by rfl) B.repr (by decide +kernel) (pa_cons (pv 5) pa_nil)) pa_nil)))) (nomark _)) (pss_one (ps_ret pe_bl)) pss_nil)))))))))))
      (pss_cons (ps_set (i := 7) scER.nd rfl (Or.inl rfl) (pe_tup (pa_cons pe_str (pa_cons pe_str (pa_cons pe_str pa_nil)))))
      (pss_one (ps_ret (pe_cmpR (op_eqD (un64 hr)) (pe_dfG T.cau gd hr (pa_cons (pe_op op_cat (pv 0) (pe_lst (pa_cons (pe_lst (pa_cons (pv 7) (pa_cons (pv 7) pa_nil))) (pa_cons (pe_lst (pa_cons (pv 7) (pa_cons (pv 7) pa_nil))) (pa_cons pe_non pa_nil))))) pa_nil)) (pe_lst (pa_cons pe_bl (pa_cons pe_bl (pa_cons (pe_callB (id := "repr") (r := rRepr K) (call_repr gd (un64 hr)) (by rfl) B.repr (by decide +kernel) (pa_cons (pv 7) pa_nil)) pa_nil)))) (nomark _))))))), ?_⟩
    refine q_asgE (K := K) (ds := [iL, lL]) (EvD.el_lst (eda_cons (ed_lst (eda_cons ed_str eda_nil) (by first | decide | simp)) (eda_cons (ed_lst (eda_cons ed_str eda_nil) (by first | decide | simp)) eda_nil)) (by first | decide | simp)) fun ah H1 e1 t1 => ?_
    refine q_forE (K := K) (ds := [.int 2, .int 3]) (EvD.el_lst (eda_cons ed_int (eda_cons ed_int eda_nil)) (by decide)) (fun σ => ∃ s1 s2 s3 s4 s5 s6 s7, σ = [some (.ref ah), s1, s2, s3, s4, s5, s6, s7]) ⟨_, _, _, _, _, _, _, rfl⟩ (fun H2 e2 i x d σ2 H3 hd hσ e3 hx => ?_) (fun σ2 H2 hσ e2 => ?_)
    · match i, hd with
      | 0, hd =>
        cases hd
        -- at = 2
        have hx' : x = .int 2 := by
          cases hx
          rfl
        subst hx'
        obtain ⟨s1, s2, s3, s4, s5, s6, s7, rfl⟩ := hσ
        have u1 := t1.ex (e2.trans e3)
        refine q_asgE (K := K) (ds := gE) (EvD.el_lst (eda_cons (ed_tup (eda_cons ed_str (eda_cons ed_str (eda_cons ed_str eda_nil))) (by first | decide | simp)) (eda_cons (ed_tup (eda_cons ed_str (eda_cons ed_str (eda_cons ed_str eda_nil))) (by first | decide | simp)) eda_nil)) (by first | decide | simp)) fun gg H4 e4 tg => ?_
        refine q_asgE (K := K) (ds := [iL, lL]) (el_cat (el_var rfl (u1.ex e4)) (el_rep (k := 0) (EvD.el_lst (eda_cons (ed_var rfl tg.sw) eda_nil) (by simp)) (ev_op (ev_var rfl) ev_c rv_I0) (by simp) (by decide)) (by simp)) fun ll H5 e5 tl => ?_
        refine q_asgE (K := K) (ds := [.none, .none]) (el_rep (k := 2) (EvD.el_lst (eda_cons ed_non eda_nil) (by simp)) (ev_op ev_c (ev_var rfl) rv_I0) (by simp) (by decide)) fun rr H6 e6 tr => ?_
        have tg6 := tg.ex (e5.trans e6)
        have tl6 := tl.ex e6
        have tg := tg6
        have hsub : Ev (tOp (rI0 fun i j => V.int (i - j)) (tVar 1) (tC (.int 2))) [some (.ref ah), some (.int 2), some (.ref gg), some (.ref ll), some (.ref rr), s5, s6, s7] H6 (.int ((0 : Nat) : Int)) := ev_op (ev_var rfl) ev_c rv_I0
        refine q_forE (K := K) (ds := odds 11) (EvD.el_lst (eda_cons ed_non (eda_cons ed_int (eda_cons (ed_tup eda_nil (by first | decide | simp)) (eda_cons (ed_tupOf (EvD.el_var rfl tg)) (eda_cons ed_str (eda_cons ed_dict (eda_cons ed_bl (eda_cons (ed_of (el_rep (k := 11) (EvD.el_lst (eda_cons (ed_tup (eda_cons ed_str (eda_cons ed_str (eda_cons ed_str eda_nil))) (by first | decide | simp)) eda_nil) (by first | decide | simp)) (ev_ofInt (K := K) (ed_ix (n := 0) (EvD.el_lst (eda_cons ed_int (eda_cons ed_int eda_nil)) (by simp)) hsub rfl)) (by simp) (by decide))) eda_nil)))))))) (by decide)) (fun σ => ∃ s5, σ = [some (.ref ah), some (.int 2), some (.ref gg), some (.ref ll), some (.ref rr), s5, s6, s7]) ⟨_, rfl⟩ (fun H7 e7 i7 x7 d7 σ7 H8 hd7 hσ7 e8 hx7 => ?_) (fun σ7 H7 hσ7 e7 => ?_)
        · obtain ⟨t5, rfl⟩ := hσ7
          have fact := odds2 d7 (List.mem_of_getElem? hd7)
          simp only [Bool.and_eq_true, Bool.not_eq_true'] at fact
          obtain ⟨ok, bad, fit⟩ := fact
          have e78 := e7.trans e8
          refine s_when (b := false) (et_cau (K := K) (b := true) (el_cat (el_cat (el_var rfl (tl6.ex e78)) (EvD.el_lst (eda_cons (ed_var rfl hx7) eda_nil) (by simp)) (by simp)) (el_var rfl (tr.ex e78)) (by simp)) (fit5_ok fit) (odd2 bad) (okB_ok ok).1 (okB_ok ok).2 (ed_var rfl hx7)) (fun z => nomatch z) (fun _ H9 e9 => ⟨⟨_, rfl⟩, e8.trans e9⟩)
        · obtain ⟨t5, rfl⟩ := hσ7
          refine s_forE (K := K) (ds := bads true) (fun Hx ex Qx qx => ?_) (fun σ => ∃ s5 s6, σ = [some (.ref ah), some (.int 2), some (.ref gg), some (.ref ll), some (.ref rr), s5, s6, s7]) ⟨_, _, rfl⟩ (fun H8 e8 i8 x8 d8 σ8 H9 hd8 hσ8 e9 hx8 => ?_) (fun σ8 H8 hσ8 e8 => ⟨⟨_, _, _, _, _, _, _, hσ8.choose_spec.choose_spec⟩, ((((e3.trans e4).trans e5).trans e6).trans e7).trans e8⟩)
          · exact ⟨_, rfl, rfl, true, rfl, fun p H' e' t => qx p H' e' t⟩
          · obtain ⟨r5, r6, rfl⟩ := hσ8
            have fact := bads2 d8 (List.mem_of_getElem? hd8)
            simp only [Bool.and_eq_true, Bool.not_eq_true'] at fact
            obtain ⟨ok, bad, fit1, fit2⟩ := fact
            have e89 := (e7.trans e8).trans e9
            refine s_forE (K := K) (ds := [.list [d8], .list (gE ++ [d8, .none])]) (EvD.el_lst (eda_cons (ed_lst (eda_cons (ed_var rfl hx8) eda_nil) (by simp)) (eda_cons (ed_of (el_cat (el_var rfl (tg6.ex e89)) (EvD.el_lst (eda_cons (ed_var rfl hx8) (eda_cons ed_non eda_nil)) (by simp)) (by simp [gE]))) eda_nil)) (by simp)) (fun σ => ∃ s6, σ = [some (.ref ah), some (.int 2), some (.ref gg), some (.ref ll), some (.ref rr), some x8, s6, s7]) ⟨_, rfl⟩ (fun HA eA iA xA dA σA HB hdA hσA eB hxA => ?_) (fun σA HA hσA eA => ⟨⟨_, _, hσA.choose_spec⟩, e9.trans eA⟩)
            obtain ⟨q6, rfl⟩ := hσA
            have eAB := eA.trans eB
            have hx8' := Sw.ex eAB _ _ hx8
            have lists : ∀ dd, Sw K HB xA dd → EL K (tOp rCat (tOp rCat (tVar 3) (tLst (tCons (tVar 6) tNil))) (tVar 4)) [some (.ref ah), some (.int 2), some (.ref gg), some (.ref ll), some (.ref rr), some x8, some xA, s7] HB ([iL, lL] ++ [dd] ++ [.none, .none]) := fun dd hdd =>
              el_cat (el_cat (el_var rfl (tl6.ex (e89.trans eAB))) (EvD.el_lst (eda_cons (ed_var rfl hdd) eda_nil) (by simp)) (by simp)) (el_var rfl (tr.ex (e89.trans eAB))) (by simp)
            match iA, hdA with
            | 0, hdA =>
              cases hdA
              exact s_when (b := false) (et_cau (K := K) (b := false) (lists _ hxA) (fit5_ok fit1) (one2 bad) (okB_ok ok).1 (okB_ok ok).2 (ed_var rfl hx8')) (fun z => nomatch z) (fun _ H9 e9 => ⟨⟨_, rfl⟩, eB.trans e9⟩)
            | 1, hdA =>
              cases hdA
              exact s_when (b := false) (et_cau (K := K) (b := false) (lists _ hxA) (fit5_ok fit2) (more2 bad) (okB_ok ok).1 (okB_ok ok).2 (ed_var rfl hx8')) (fun z => nomatch z) (fun _ H9 e9 => ⟨⟨_, rfl⟩, eB.trans e9⟩)
            | (k + 2), hdA => simp at hdA
      | 1, hd =>
        cases hd
        -- at = 3
        have hx' : x = .int 3 := by
          cases hx
          rfl
        subst hx'
        obtain ⟨s1, s2, s3, s4, s5, s6, s7, rfl⟩ := hσ
        have u1 := t1.ex (e2.trans e3)
        refine q_asgE (K := K) (ds := gE) (EvD.el_lst (eda_cons (ed_tup (eda_cons ed_str (eda_cons ed_str (eda_cons ed_str eda_nil))) (by first | decide | simp)) (eda_cons (ed_tup (eda_cons ed_str (eda_cons ed_str (eda_cons ed_str eda_nil))) (by first | decide | simp)) eda_nil)) (by first | decide | simp)) fun gg H4 e4 tg => ?_
        refine q_asgE (K := K) (ds := [iL, lL, .list gE]) (el_cat (el_var rfl (u1.ex e4)) (el_rep (k := 1) (EvD.el_lst (eda_cons (ed_var rfl tg.sw) eda_nil) (by simp)) (ev_op (ev_var rfl) ev_c rv_I0) (by simp) (by decide)) (by simp)) fun ll H5 e5 tl => ?_
        refine q_asgE (K := K) (ds := [.none]) (el_rep (k := 1) (EvD.el_lst (eda_cons ed_non eda_nil) (by simp)) (ev_op ev_c (ev_var rfl) rv_I0) (by simp) (by decide)) fun rr H6 e6 tr => ?_
        have tg6 := tg.ex (e5.trans e6)
        have tl6 := tl.ex e6
        have tg := tg6
        have hsub : Ev (tOp (rI0 fun i j => V.int (i - j)) (tVar 1) (tC (.int 2))) [some (.ref ah), some (.int 3), some (.ref gg), some (.ref ll), some (.ref rr), s5, s6, s7] H6 (.int ((1 : Nat) : Int)) := ev_op (ev_var rfl) ev_c rv_I0
        refine q_forE (K := K) (ds := odds 13) (EvD.el_lst (eda_cons ed_non (eda_cons ed_int (eda_cons (ed_tup eda_nil (by first | decide | simp)) (eda_cons (ed_tupOf (EvD.el_var rfl tg)) (eda_cons ed_str (eda_cons ed_dict (eda_cons ed_bl (eda_cons (ed_of (el_rep (k := 13) (EvD.el_lst (eda_cons (ed_tup (eda_cons ed_str (eda_cons ed_str (eda_cons ed_str eda_nil))) (by first | decide | simp)) eda_nil) (by first | decide | simp)) (ev_ofInt (K := K) (ed_ix (n := 1) (EvD.el_lst (eda_cons ed_int (eda_cons ed_int eda_nil)) (by simp)) hsub rfl)) (by simp) (by decide))) eda_nil)))))))) (by decide)) (fun σ => ∃ s5, σ = [some (.ref ah), some (.int 3), some (.ref gg), some (.ref ll), some (.ref rr), s5, s6, s7]) ⟨_, rfl⟩ (fun H7 e7 i7 x7 d7 σ7 H8 hd7 hσ7 e8 hx7 => ?_) (fun σ7 H7 hσ7 e7 => ?_)
        · obtain ⟨t5, rfl⟩ := hσ7
          have fact := odds3 d7 (List.mem_of_getElem? hd7)
          simp only [Bool.and_eq_true, Bool.not_eq_true'] at fact
          obtain ⟨ok, bad, fit⟩ := fact
          have e78 := e7.trans e8
          refine s_when (b := false) (et_cau (K := K) (b := true) (el_cat (el_cat (el_var rfl (tl6.ex e78)) (EvD.el_lst (eda_cons (ed_var rfl hx7) eda_nil) (by simp)) (by simp)) (el_var rfl (tr.ex e78)) (by simp)) (fit5_ok fit) (odd3 bad) (okB_ok ok).1 (okB_ok ok).2 (ed_var rfl hx7)) (fun z => nomatch z) (fun _ H9 e9 => ⟨⟨_, rfl⟩, e8.trans e9⟩)
        · obtain ⟨t5, rfl⟩ := hσ7
          refine s_forE (K := K) (ds := bads false) (fun Hx ex Qx qx => ?_) (fun σ => ∃ s5 s6, σ = [some (.ref ah), some (.int 3), some (.ref gg), some (.ref ll), some (.ref rr), s5, s6, s7]) ⟨_, _, rfl⟩ (fun H8 e8 i8 x8 d8 σ8 H9 hd8 hσ8 e9 hx8 => ?_) (fun σ8 H8 hσ8 e8 => ⟨⟨_, _, _, _, _, _, _, hσ8.choose_spec.choose_spec⟩, ((((e3.trans e4).trans e5).trans e6).trans e7).trans e8⟩)
          · exact ⟨_, rfl, rfl, false, rfl, fun p H' e' t => qx p H' e' t⟩
          · obtain ⟨r5, r6, rfl⟩ := hσ8
            have fact := bads3 d8 (List.mem_of_getElem? hd8)
            simp only [Bool.and_eq_true, Bool.not_eq_true'] at fact
            obtain ⟨ok, bad, fit1, fit2⟩ := fact
            have e89 := (e7.trans e8).trans e9
            refine s_forE (K := K) (ds := [.list [d8], .list (gE ++ [d8, .none])]) (EvD.el_lst (eda_cons (ed_lst (eda_cons (ed_var rfl hx8) eda_nil) (by simp)) (eda_cons (ed_of (el_cat (el_var rfl (tg6.ex e89)) (EvD.el_lst (eda_cons (ed_var rfl hx8) (eda_cons ed_non eda_nil)) (by simp)) (by simp [gE]))) eda_nil)) (by simp)) (fun σ => ∃ s6, σ = [some (.ref ah), some (.int 3), some (.ref gg), some (.ref ll), some (.ref rr), some x8, s6, s7]) ⟨_, rfl⟩ (fun HA eA iA xA dA σA HB hdA hσA eB hxA => ?_) (fun σA HA hσA eA => ⟨⟨_, _, hσA.choose_spec⟩, e9.trans eA⟩)
            obtain ⟨q6, rfl⟩ := hσA
            have eAB := eA.trans eB
            have hx8' := Sw.ex eAB _ _ hx8
            have lists : ∀ dd, Sw K HB xA dd → EL K (tOp rCat (tOp rCat (tVar 3) (tLst (tCons (tVar 6) tNil))) (tVar 4)) [some (.ref ah), some (.int 3), some (.ref gg), some (.ref ll), some (.ref rr), some x8, some xA, s7] HB ([iL, lL, .list gE] ++ [dd] ++ [.none]) := fun dd hdd =>
              el_cat (el_cat (el_var rfl (tl6.ex (e89.trans eAB))) (EvD.el_lst (eda_cons (ed_var rfl hdd) eda_nil) (by simp)) (by simp)) (el_var rfl (tr.ex (e89.trans eAB))) (by simp)
            match iA, hdA with
            | 0, hdA =>
              cases hdA
              exact s_when (b := false) (et_cau (K := K) (b := false) (lists _ hxA) (fit5_ok fit1) (one3 bad) (okB_ok ok).1 (okB_ok ok).2 (ed_var rfl hx8')) (fun z => nomatch z) (fun _ H9 e9 => ⟨⟨_, rfl⟩, eB.trans e9⟩)
            | 1, hdA =>
              cases hdA
              exact s_when (b := false) (et_cau (K := K) (b := false) (lists _ hxA) (fit5_ok fit2) (more3 bad) (okB_ok ok).1 (okB_ok ok).2 (ed_var rfl hx8')) (fun z => nomatch z) (fun _ H9 e9 => ⟨⟨_, rfl⟩, eB.trans e9⟩)
            | (k + 2), hdA => simp at hdA
      | (k + 2), hd => simp at hd
    · obtain ⟨s1, s2, s3, s4, s5, s6, s7, rfl⟩ := hσ
      refine q_asgD (K := K) (d := oneE) (ed_tup (eda_cons ed_str (eda_cons ed_str (eda_cons ed_str eda_nil))) (by first | decide | simp)) fun tw H3 e3 ht => ?_
      refine s_ret (v := .bl true) (ev_cauEq (K := K) (d1 := iL) (d2 := lL) (d3 := .list [oneE, oneE]) (d4 := .list [oneE, oneE]) (d5 := .none) (d := oneE) (b := false) (el_cat (el_var rfl (t1.ex (e2.trans e3))) (EvD.el_lst (eda_cons (ed_lst (eda_cons (ed_var rfl ht) (eda_cons (ed_var rfl ht) eda_nil)) (by simp)) (eda_cons (ed_lst (eda_cons (ed_var rfl ht) (eda_cons (ed_var rfl ht) eda_nil)) (by simp)) (eda_cons ed_non eda_nil))) (by simp)) (by simp)) (fit5_ok (by decide)) twice_err (okB_ok (by decide +kernel)).1 (okB_ok (by decide +kernel)).2 (ed_var rfl ht)) fun H4 e4 => kq H4 ((e1.trans (e2.trans e3)).trans e4)
end
end EntR
/-! ### _law_lists; drawn parts as data -/
namespace Lis
open PySem PySem.Spec PyProof.Rows L2 Evl Gen Ent Rep Dat Nm Er Chk Gu Deed Pts Hear Lst Bk Cau EvD BadE
/-- lists stand at A, of the values Xs -/
def Lsts (K : PySem.W.Frag) (H : Hp) : List Addr → List (List V) → Prop := Paired fun a X => SqL K H a X
/-- new lists -/
def New (H H' : Hp) : List Addr → List (List V) → Prop := Paired fun a X => H' a = some (.lst X) ∧ H a = none
theorem lsts_ex {K : PySem.W.Frag} {H H' : Hp} (e : Ex H H') : ∀ {A : List Addr} {X : List (List V)}, Lsts K H A X → Lsts K H' A X
  | _, _, .nil => .nil
  | _, _, .cons a t => .cons (ex_l e a) (lsts_ex e t)
theorem new_ex {H H' H2 : Hp} (e : Ex H' H2) : ∀ {A : List Addr} {X : List (List V)}, New H H' A X → New H H2 A X
  | _, _, .nil => .nil
  | _, _, .cons a t => .cons ⟨e _ _ a.1, a.2⟩ (new_ex e t)
theorem new_app {H H' : Hp} {a : Addr} {Y : List V} (h : H' a = some (.lst Y)) (n : H a = none) : ∀ {A : List Addr} {X : List (List V)}, New H H' A X → New H H' (A ++ [a]) (X ++ [Y])
  | _, _, .nil => .cons ⟨h, n⟩ .nil
  | _, _, .cons b t => .cons b (new_app h n t)
theorem lsts_get {K : PySem.W.Frag} {H : Hp} : ∀ {A : List Addr} {X : List (List V)} {i : Nat} {a : Addr}, Lsts K H A X → A[i]? = some a → ∃ Y, X[i]? = some Y ∧ SqL K H a Y
  | _, _, _, _, .nil, z => by simp at z
  | _, _, 0, _, .cons b t, z => by
    cases z
    exact ⟨_, rfl, b⟩
  | _, _, i + 1, _, .cons b t, z => by
    have z' := z
    rw [List.getElem?_cons_succ] at z'
    obtain ⟨Y, h1, h2⟩ := lsts_get t z'
    exact ⟨Y, by rw [List.getElem?_cons_succ]; exact h1, h2⟩
theorem lsts_len {K : PySem.W.Frag} {H : Hp} : ∀ {A : List Addr} {X : List (List V)}, Lsts K H A X → A.length = X.length
  | _, _, .nil => rfl
  | _, _, .cons _ t => by simp [lsts_len t]
theorem new_none {H H' : Hp} : ∀ {A : List Addr} {X : List (List V)}, New H H' A X → ∀ a ∈ A, ∃ Y, H' a = some (.lst Y) ∧ H a = none
  | _, _, .nil, _, h => nomatch h
  | _, _, .cons b t, a, h => by
    rcases List.mem_cons.mp h with rfl | h
    · exact ⟨_, b⟩
    · exact new_none t a h
def spLis (K : PySem.W.Frag) : Sp := fun vs H Q _ => ∃ (p : Addr) (A : List Addr) (X : List (List V)), vs = [.ref p] ∧ SqL K H p (A.map V.ref) ∧ Lsts K H A X ∧ A.length ≤ 1000 ∧
  ∀ q H' R, H q = none → Ex H H' → H' q = some (.lst (R.map V.ref)) → New H H' R X → (q :: R).Nodup → Q (.ref q) H'
abbrev sLis : Stmt := top 23
theorem scLi : FnScope ["_law_parts_here", "_law_some"] ["_law_parts_here"] (defScope sLis) := ⟨rfl, rfl, rfl, by decide +kernel, rfl, by decide +kernel, by decide +kernel⟩
section
variable {P : Program} {w : World} {K : PySem.W.Frag} {mg : Str → Option Value} {base : Heap}
theorem ok_lis {f : Addr} {fd : FuncData} (F : Fun K "_law_lists" "_law_lists" sLis f fd) (B : Bt mg) : FnOk P w K mg base CX0 1 f fd ["_law_parts_here"] (spLis K) := by
  refine F.ok scLi (fun vs H Q E h => ?_) (fun cdv A outer s H vs Q E hr h => ?_)
  · obtain ⟨p, A, X, rfl, _⟩ := h
    rfl
  · obtain ⟨p, A, X, rfl, hp, hA, hn, kq⟩ := h
    refine ⟨_, (pss_one (ps_ret (pe_lc (own := [("_law_some", 1)]) (g := gName 1) (tt := tYes) rfl scLi.nd (pi_list (pv 0)) (blkOk_by (N := ["_law_parts_here", "_law_some"]) (sc := defScope sLis) (by decide +kernel)) (fun _ _ _ _ _ => pg_name (i := 1) scLi.nd rfl (Or.inl rfl)) (fun _ _ _ _ _ => pts_nil) (fun _ _ _ _ _ => (pe_callTy (r := fun xs H Q => ∃ p ys, xs = [.ref p] ∧ ((SqL K H p ys ∨ SqT K H p ys) ∧ ∀ l, H l = none → Q (.ref l) (upd H l (.lst ys)))) call_list_of (by rfl) B.list (by decide +kernel) (pa_cons (pv 1) pa_nil)))))), ?_⟩
    have lA := lsts_len hA
    refine ⟨_, rfl, p, rfl, ⟨_, hp⟩, fun D hD => lc_list (xs := A.map V.ref) (fun i H' => Ex H H' ∧ ∃ R, H' D = some (.lst (R.map V.ref)) ∧ R.length = i ∧ New H H' R (X.take i) ∧ (D :: R).Nodup) ⟨Ex.new hD, [], upd_same, rfl, .nil, by simp⟩ (fun i H' _ q => ex_l q.1 hp) (fun i x H2 hx q => ?_) fun H2 q => ?_⟩
    · obtain ⟨e2, R, hR, lR, nR, dR⟩ := q
      obtain ⟨a, ha, rfl⟩ : ∃ a, A[i]? = some a ∧ V.ref a = x := by
        rw [List.getElem?_map] at hx
        cases hz : A[i]? with
        | none => rw [hz] at hx; cases hx
        | some z => rw [hz] at hx; exact ⟨z, rfl, Option.some.inj hx⟩
      obtain ⟨Y, hY, sY⟩ := lsts_get hA ha
      have hil := (List.getElem?_eq_some_iff.mp ha).1
      refine ⟨rfl, _, rfl, a, Y, rfl, .inl (ex_l e2 sY), fun r nr => ?_⟩
      have e3 := Ex.new (o := .lst Y) nr
      have hD2 := e3 _ _ hR
      refine ⟨_, hD2, by rw [List.length_map]; exact sz_lt (by omega), (e2.trans e3).mut hD, R ++ [r], by rw [upd_same, List.map_append] <;> rfl, by rw [List.length_append, lR] <;> rfl, ?_, ?_⟩
      · have et : X.take (i + 1) = X.take i ++ [Y] := by rw [List.take_succ, hY]; rfl
        rw [et]
        have nR2 := new_app upd_same (fresh_back e2 nr) (new_ex e3 nR)
        -- the list at D grows, the new ones stay
        have away : ∀ b ∈ R ++ [r], b ≠ D := fun b hb => by
          rcases List.mem_append.mp hb with hb | hb
          · exact fun z => (List.nodup_cons.mp dR).1 (by rw [← z]; exact hb)
          · obtain rfl : b = r := by simpa using hb
            exact (ne_of_none hR nr).symm
        have stay : ∀ {A' : List Addr} {X' : List (List V)}, New H (upd H2 r (.lst Y)) A' X' → (∀ b ∈ A', b ≠ D) → New H (upd (upd H2 r (.lst Y)) D (.lst (R.map V.ref ++ [.ref r]))) A' X' := by
          intro A' X' h
          induction h with
          | nil => exact fun _ => .nil
          | cons b _ ih =>
            intro hh
            refine .cons ⟨?_, b.2⟩ (ih fun z m => hh z (List.mem_cons_of_mem _ m))
            rw [upd_ne (hh _ (List.mem_cons_self ..))]
            exact b.1
        exact stay nR2 away
      · have d1 := List.nodup_cons.mp dR
        have nrR : r ∉ R := fun m => by
          obtain ⟨Y', h1, _⟩ := new_none nR r m
          rw [nr] at h1
          cases h1
        have nrD : r ≠ D := (ne_of_none hR nr).symm
        rw [← List.cons_append]
        exact List.nodup_append.mpr ⟨dR, by simp, fun x hx y hy => by
          obtain rfl : y = r := by simpa using hy
          intro z
          subst z
          rcases List.mem_cons.mp hx with e | m
          · exact nrD e
          · exact nrR m⟩
    · obtain ⟨e2, R, hR, lR, nR, dR⟩ := q
      rw [List.length_map, List.take_of_length_le (by omega)] at nR
      exact kq D H2 R hD e2 hR nR dR
end
end Lis
/-! ### drawn parts as data: nothing is wrong with them -/
namespace Prd
open PySem PySem.Spec PyProof.Rows L2 Evl Gen Ent Rep Dat Nm Er Chk Gu Deed Pts Hear Lst Bk Cau EvD BadE EntR Lis
def svD : Option Str → PyData
  | none => .none
  | some s => .str s
def enD (e : En) : PyData := .tuple [.str e.1, svD e.2.1, .str e.2.2]
def strsD (l : List Str) : PyData := .list (l.map PyData.str)
def D5 (D : PartsD) : List PyData := [strsD D.hs, strsD D.ss, .list (D.ds.map enD), .list (D.rs.map enD), strsD D.ls]
theorem sw_strs {K : PySem.W.Frag} {H : Hp} : ∀ l : List Str, SwAll K H (l.map V.str) (l.map PyData.str)
  | [] => .nil
  | s :: l => .cons (.str s) (sw_strs l)
theorem sw_sv {K : PySem.W.Frag} {H : Hp} (o : Option Str) : Sw K H (sv o) (svD o) := by
  cases o with
  | none => exact .non
  | some s => exact .str s
theorem sw_tups {K : PySem.W.Frag} {H : Hp} : ∀ {R : List Addr} {es : List En}, Tups H R (es.map enV) → SwAll K H (R.map V.ref) (es.map enD)
  | _, [], .nil => .nil
  | _, e :: es, .cons h t => .cons (.tup (SqT.of h) (.cons (.str _) (.cons (sw_sv _) (.cons (.str _) .nil)))) (sw_tups t)
theorem partsTL {K : PySem.W.Frag} {H : Hp} {p a0 a1 a2 a3 a4 : Addr} {D : PartsD} {R2 R3 : List Addr} (h : PartsAt H p D a0 a1 a2 a3 a4 R2 R3) : TL K H p (D5 D) :=
  ⟨_, h.p, .cons (.lst (SqL.of h.h0) (sw_strs _)) (.cons (.lst (SqL.of h.h1) (sw_strs _)) (.cons (.lst (SqL.of h.h2) (sw_tups h.t2)) (.cons (.lst (SqL.of h.h3) (sw_tups h.t3)) (.cons (.lst (SqL.of h.h4) (sw_strs _)) .nil))))⟩
theorem txts (l : List Str) : (l.map PyData.str).map txt = l := by
  rw [List.map_map]
  conv => rhs; rw [← List.map_id l]
  rfl
section
variable {w h : Nat} {D : PartsD}
theorem hs_in (o : PartsOk w h D) (hw : w ≤ 3) : D.hs ∈ [allH.take 1, allH.take 2, allH.take 3] := by
  obtain ⟨k, k1, k2, e⟩ := o.hs
  have : k = 1 ∨ k = 2 ∨ k = 3 := by omega
  rcases this with rfl | rfl | rfl <;> simp [e]
theorem ss_in (o : PartsOk w h D) (hh : h ≤ 4) : D.ss ∈ [allS.take 1, allS.take 2, allS.take 3, allS.take 4] := by
  obtain ⟨k, k1, k2, e⟩ := o.ss
  have : k = 1 ∨ k = 2 ∨ k = 3 ∨ k = 4 := by omega
  rcases this with rfl | rfl | rfl | rfl <;> simp [e]
theorem hs_all : ∀ l ∈ [allH.take 1, allH.take 2, allH.take 3], (many (strsD l) 1 3 && (decide (firstBad (l.map PyData.str).length (badN [] (l.map PyData.str)) = none) && (!decide (("zy" : Str) ∈ l) && (l.map PyData.str).all fitB))) = true := by decide +kernel
theorem ss_all : ∀ l ∈ [allH.take 1, allH.take 2, allH.take 3], ∀ m ∈ [allS.take 1, allS.take 2, allS.take 3, allS.take 4], (many (strsD m) 1 4 && (decide (firstBad (m.map PyData.str).length (badN l (m.map PyData.str)) = none) && (m.map PyData.str).all fitB)) = true := by decide +kernel
theorem ls_all : ∀ l ∈ allL, (many (strsD l) 0 4 && (decide (firstBad (l.map PyData.str).length (badN [] (l.map PyData.str)) = none) && (l.map PyData.str).all fitB)) = true := by decide +kernel
theorem ask_nm : nmS "ask" = true ∧ nmS "mend" = true := by decide +kernel
theorem in_dec {l : List Str} {s : Str} (m : s ∈ l) : sIn l (.str s) = true := decide_eq_true m
theorem deed_en {hs ss : List Str} {e : En} (h1 : e.2.1 = none ∨ e.2.1 = some "ask" ∨ e.2.1 = some "mend") (h2 : (e.1 ∈ hs ∧ e.2.2 ∈ hs) ∨ (e.1 ∈ ss ∧ e.2.2 ∈ ss)) : isDeed hs ss (enD e) = true := by
  show (sndOk (svD e.2.1) && ((sIn hs (.str e.1) && sIn hs (.str e.2.2)) || (sIn ss (.str e.1) && sIn ss (.str e.2.2)))) = true
  have a : sndOk (svD e.2.1) = true := by
    rcases h1 with x | x | x <;> rw [x]
    · rfl
    · exact ask_nm.1
    · exact ask_nm.2
  rw [a, Bool.true_and]
  rcases h2 with ⟨x, y⟩ | ⟨x, y⟩
  · rw [in_dec x, in_dec y]
    rfl
  · rw [in_dec x, in_dec y]
    simp
theorem hear_en {hs ss : List Str} {e : En} (h1 : e.2.1 = some "ask" ∨ e.2.1 = some "mend") (h2 : (e.1 ∈ hs ∧ e.2.2 ∈ hs) ∨ (e.1 ∈ ss ∧ e.2.2 ∈ ss)) : isHear hs ss (enD e) = true ∧ Lst.keyH (enD e) = key e := by
  have d := deed_en (hs := hs) (ss := ss) (.inr h1) h2
  refine ⟨?_, ?_⟩
  · unfold isHear
    rw [d]
    rcases h1 with x | x <;> (unfold enD; rw [x]; rfl)
  · unfold enD key
    rcases h1 with x | x <;> (rw [x]; rfl)
theorem nodup_not {α β : Type} {f : α → β} : ∀ {l : List α} {j : Nat} {e : α}, (l.map f).Nodup → l[j]? = some e → f e ∉ (l.take j).map f
  | [], j, e, _, z => by simp at z
  | x :: l, 0, e, _, _ => by simp
  | x :: l, j + 1, e, nd, z => by
    have z' : l[j]? = some e := by rw [List.getElem?_cons_succ] at z; exact z
    have nd' := List.nodup_cons.mp nd
    rw [List.take_succ_cons, List.map_cons]
    intro m
    rcases List.mem_cons.mp m with q | m
    · exact nd'.1 (by rw [← q]; exact List.mem_map_of_mem (List.mem_of_getElem? z'))
    · exact nodup_not nd'.2 z' m
theorem deeds_ok (o : PartsOk w h D) : firstBad (D.ds.map enD).length (badD D.hs D.ss (D.ds.map enD)) = none := by
  refine first_none fun j hj => ?_
  unfold badD
  rw [List.length_map] at hj
  rw [List.getElem?_map, List.getElem?_eq_getElem hj]
  show (!isDeed D.hs D.ss (enD D.ds[j])) = false
  have q := o.ds _ (List.getElem_mem hj)
  rw [deed_en q.1 q.2]
  rfl
theorem hears_ok (o : PartsOk w h D) : firstBad (D.rs.map enD).length (badH D.hs D.ss (D.rs.map enD)) = none := by
  refine first_none fun j hj => ?_
  unfold badH
  rw [List.length_map] at hj
  rw [List.getElem?_map, List.getElem?_eq_getElem hj]
  have q := o.rs _ (List.getElem_mem hj)
  have q2 := hear_en (hs := D.hs) (ss := D.ss) q.1 q.2
  have km : (List.take j (D.rs.map enD)).map Lst.keyH = (D.rs.take j).map key := by
    rw [← List.map_take, List.map_map]
    apply List.map_congr_left
    intro e he
    have r := o.rs e (List.mem_of_mem_take he)
    exact (hear_en (hs := D.hs) (ss := D.ss) r.1 r.2).2
  show (!isHear D.hs D.ss (enD D.rs[j]) || decide (Lst.keyH (enD D.rs[j]) ∈ (List.take j (D.rs.map enD)).map Lst.keyH)) = false
  rw [q2.1, q2.2, km]
  have nd : (D.rs.map key).Nodup := o.nd
  have := nodup_not nd (List.getElem?_eq_getElem hj)
  rw [decide_eq_false this]
  rfl
/-- what remains to be asked of a book with these lists ahead -/
theorem ahead1 (o : PartsOk w h D) (hw : w ≤ 3) (d2 d3 d4 d5 : PyData) : bookErr (strsD D.hs) d2 d3 d4 d5 = orE (manyE d2 1 4) (orE (itemE (items d2) (badN D.hs (items d2))) (orE (manyE d3 0 10) (orE (itemE (items d3) (badD D.hs ((items d2).map txt) (items d3)))
    (orE (manyE d4 0 12) (orE (itemE (items d4) (badH D.hs ((items d2).map txt) (items d4))) (orE (manyE d5 0 4) (itemE (items d5) (badN [] (items d5))))))))) := by
  have f := hs_all _ (hs_in o hw)
  simp only [Bool.and_eq_true, decide_eq_true_eq] at f
  unfold bookErr
  have e1 : manyE (strsD D.hs) 1 3 = none := by unfold manyE; rw [f.1]; rfl
  have e2 : itemE (items (strsD D.hs)) (badN [] (items (strsD D.hs))) = none := by
    unfold itemE
    have : firstBad (items (strsD D.hs)).length (badN [] (items (strsD D.hs))) = none := f.2.1
    rw [this]
  have e3 : (items (strsD D.hs)).map txt = D.hs := txts D.hs
  rw [e1, e2, e3]
  rfl
theorem ahead4 (o : PartsOk w h D) (hw : w ≤ 3) (hh : h ≤ 4) (d5 : PyData) : bookErr (strsD D.hs) (strsD D.ss) (.list (D.ds.map enD)) (.list (D.rs.map enD)) d5 = orE (manyE d5 0 4) (itemE (items d5) (badN [] (items d5))) := by
  have f := ss_all _ (hs_in o hw) _ (ss_in o hh)
  simp only [Bool.and_eq_true, decide_eq_true_eq] at f
  rw [ahead1 o hw]
  have e1 : manyE (strsD D.ss) 1 4 = none := by unfold manyE; rw [f.1]; rfl
  have e2 : itemE (items (strsD D.ss)) (badN D.hs (items (strsD D.ss))) = none := by
    unfold itemE
    have : firstBad (items (strsD D.ss)).length (badN D.hs (items (strsD D.ss))) = none := f.2.1
    rw [this]
  have e3 : (items (strsD D.ss)).map txt = D.ss := txts D.ss
  have e4 : manyE (.list (D.ds.map enD)) 0 10 = none := by
    unfold manyE
    have : many (.list (D.ds.map enD)) 0 10 = true := by
      show (decide ((0 : Int) ≤ ((D.ds.map enD).length : Nat)) && decide ((((D.ds.map enD).length : Nat) : Int) ≤ 10)) = true
      have := o.d1
      rw [List.length_map]
      simp
      omega
    rw [this]
    rfl
  have e5 : itemE (items (.list (D.ds.map enD))) (badD D.hs D.ss (items (.list (D.ds.map enD)))) = none := by
    unfold itemE
    have : firstBad (items (.list (D.ds.map enD))).length (badD D.hs D.ss (items (.list (D.ds.map enD)))) = none := deeds_ok o
    rw [this]
  have e6 : manyE (.list (D.rs.map enD)) 0 12 = none := by
    unfold manyE
    have : many (.list (D.rs.map enD)) 0 12 = true := by
      show (decide ((0 : Int) ≤ ((D.rs.map enD).length : Nat)) && decide ((((D.rs.map enD).length : Nat) : Int) ≤ 12)) = true
      have := o.r1
      rw [List.length_map]
      simp
      omega
    rw [this]
    rfl
  have e7 : itemE (items (.list (D.rs.map enD))) (badH D.hs D.ss (items (.list (D.rs.map enD)))) = none := by
    unfold itemE
    have : firstBad (items (.list (D.rs.map enD))).length (badH D.hs D.ss (items (.list (D.rs.map enD)))) = none := hears_ok o
    rw [this]
  rw [e1, e2, e3, e4, e5, e6, e7]
  rfl
/-- drawn parts make a book -/
theorem parts_ok (o : PartsOk w h D) (hw : w ≤ 3) (hh : h ≤ 4) : bookErr (strsD D.hs) (strsD D.ss) (.list (D.ds.map enD)) (.list (D.rs.map enD)) (strsD D.ls) = none := by
  have f := ls_all _ o.ls
  simp only [Bool.and_eq_true, decide_eq_true_eq] at f
  rw [ahead4 o hw hh]
  have e1 : manyE (strsD D.ls) 0 4 = none := by unfold manyE; rw [f.1]; rfl
  rw [e1]
  unfold itemE
  have : firstBad (items (strsD D.ls)).length (badN [] (items (strsD D.ls))) = none := f.2.1
  rw [this]
  rfl
end
end Prd
/-! ### _law_names_refused: what is told -/
namespace NmP
open PySem PySem.Spec PyProof.Rows L2 Evl Gen Ent Rep Dat Nm Er Chk Gu Deed Pts Hear Lst Bk Cau EvD BadE EntR Lis Prd
def oddL : List PyData := [.none, (.int 3), (.tuple []), (.str "names"), (.dict []), (.bool true), (.list [(.str "a"), (.str "b"), (.str "c"), (.str "d"), (.str "e")])]
def oddI : List PyData := [.none, (.int 3), (.str ""), (.str "Idle"), (.str "abcdefghi"), (.list [(.str "a")]), (.tuple [(.str "a")]), (.dict []), (.bool true), (.str "a b"), (.str "a1"), (.str "a\n"), (.str "a_")]
theorem n0 {d d2 d3 d4 d5 : PyData} (h : many d 1 3 = false) : bookErr d d2 d3 d4 d5 = some (true, d) := by
  unfold bookErr manyE
  rw [h]
  rfl
theorem n0i {l : List PyData} {x d2 d3 d4 d5 : PyData} (h : many (.list l) 1 3 = true) (hi : itemE l (badN [] l) = some (false, x)) : bookErr (.list l) d2 d3 d4 d5 = some (false, x) := by
  unfold bookErr manyE
  rw [h]
  have : itemE (items (.list l)) (badN [] (items (.list l))) = some (false, x) := hi
  rw [this]
  rfl
section
variable {w h : Nat} {D : PartsD}
theorem n1 (o : PartsOk w h D) (hw : w ≤ 3) {d d3 d4 d5 : PyData} (hm : many d 1 4 = false) : bookErr (strsD D.hs) d d3 d4 d5 = some (true, d) := by
  rw [ahead1 o hw]
  unfold manyE
  rw [hm]
  rfl
theorem n1i (o : PartsOk w h D) (hw : w ≤ 3) {l : List PyData} {x d3 d4 d5 : PyData} (hm : many (.list l) 1 4 = true) (hi : itemE l (badN D.hs l) = some (false, x)) : bookErr (strsD D.hs) (.list l) d3 d4 d5 = some (false, x) := by
  rw [ahead1 o hw]
  unfold manyE
  rw [hm]
  have : itemE (items (.list l)) (badN D.hs (items (.list l))) = some (false, x) := hi
  rw [this]
  rfl
theorem n4 (o : PartsOk w h D) (hw : w ≤ 3) (hh : h ≤ 4) {d : PyData} (hm : many d 0 4 = false) : bookErr (strsD D.hs) (strsD D.ss) (.list (D.ds.map enD)) (.list (D.rs.map enD)) d = some (true, d) := by
  rw [ahead4 o hw hh]
  unfold manyE
  rw [hm]
  rfl
theorem n4i (o : PartsOk w h D) (hw : w ≤ 3) (hh : h ≤ 4) {l : List PyData} {x : PyData} (hm : many (.list l) 0 4 = true) (hi : itemE l (badN [] l) = some (false, x)) : bookErr (strsD D.hs) (strsD D.ss) (.list (D.ds.map enD)) (.list (D.rs.map enD)) (.list l) = some (false, x) := by
  rw [ahead4 o hw hh]
  unfold manyE
  rw [hm]
  exact hi
theorem zy_not (o : PartsOk w h D) (hw : w ≤ 3) : ("zy" : Str) ∉ D.hs := by
  have f := hs_all _ (hs_in o hw)
  simp only [Bool.and_eq_true, Bool.not_eq_true', decide_eq_false_iff_not] at f
  exact f.2.2.1
end
theorem zy_nm : nmS "zy" = true := by decide +kernel
theorem bad_no {tk : List Str} {ds : List PyData} {i : Nat} {d : PyData} (hd : ds[i]? = some d) (h : isNm d = false) : badN tk ds i = true := by
  unfold badN
  rw [hd]
  show (!isNm d || _) = true
  rw [h]
  rfl
theorem bad_zy {tk : List Str} {ds : List PyData} (hd : ds[0]? = some (.str "zy")) (h : ("zy" : Str) ∉ tk) : badN tk ds 0 = false := by
  unfold badN
  rw [hd]
  show (!nmS "zy" || (decide (("zy" : Str) ∈ tk) || decide (("zy" : Str) ∈ (ds.take 0).map txt))) = false
  rw [zy_nm, decide_eq_false h]
  simp
theorem nm_one {tk : List Str} {d : PyData} (h : isNm d = false) : itemE [d] (badN tk [d]) = some (false, d) := item_bad (i := 0) rfl (bad_no rfl h) fun j hj => by omega
theorem nm_lead {tk : List Str} {d : PyData} (h : isNm d = false) : itemE [d, .none] (badN tk [d, .none]) = some (false, d) := item_bad (i := 0) rfl (bad_no rfl h) fun j hj => by omega
theorem nm_two {tk : List Str} {d : PyData} (h : isNm d = false) (hz : ("zy" : Str) ∉ tk) : itemE [.str "zy", d] (badN tk [.str "zy", d]) = some (false, d) := item_bad (i := 1) rfl (bad_no rfl h) fun j hj => by
  obtain rfl : j = 0 := by omega
  exact bad_zy rfl hz
theorem nm_twice {tk : List Str} (hz : ("zy" : Str) ∉ tk) : itemE [.str "zy", .str "zy"] (badN tk [.str "zy", .str "zy"]) = some (false, .str "zy") := item_bad (i := 1) rfl (by
  show (!nmS "zy" || (decide (("zy" : Str) ∈ tk) || decide (("zy" : Str) ∈ ([.str "zy"] : List PyData).map txt))) = true
  have : (("zy" : Str) ∈ ([.str "zy"] : List PyData).map txt) := by simp [txt]
  rw [decide_eq_true this]
  simp) fun j hj => by
  obtain rfl : j = 0 := by omega
  exact bad_zy rfl hz
theorem nm_both {tk : List Str} {x : Str} (hz : ("zy" : Str) ∉ tk) (hx : x ∈ tk) : itemE [.str "zy", .str x] (badN tk [.str "zy", .str x]) = some (false, .str x) := item_bad (i := 1) rfl (by
  show (!nmS x || (decide (x ∈ tk) || _)) = true
  rw [decide_eq_true hx]
  simp) fun j hj => by
  obtain rfl : j = 0 := by omega
  exact bad_zy rfl hz
theorem oddL0 : ∀ d ∈ oddL ++ [.list []], (okB d && (!many d 1 3 && (!many d 1 4 && (items d).all fitB))) = true := by decide +kernel
theorem oddL4 : ∀ d ∈ oddL ++ [], (okB d && (!many d 0 4 && (items d).all fitB)) = true := by decide +kernel
theorem oddI0 : ∀ d ∈ oddI, (okB d && (!isNm d && fitB d)) = true := by decide +kernel
theorem okZy : okB (.str "zy") = true := by decide +kernel
theorem okH : ∀ s ∈ allH, (okB (.str s) && nmS s) = true := by decide +kernel
theorem fit_none : FitN .none ∧ FitE .none := ⟨(fun x h => nomatch h), (fun x h => nomatch h)⟩
section
variable {w h : Nat} {D : PartsD}
theorem fit_hs (o : PartsOk w h D) (hw : w ≤ 3) : FitN (strsD D.hs) := by
  have f := hs_all _ (hs_in o hw)
  simp only [Bool.and_eq_true] at f
  exact fitN_ok f.2.2.2
theorem fit_ss (o : PartsOk w h D) (hw : w ≤ 3) (hh : h ≤ 4) : FitN (strsD D.ss) := by
  have f := ss_all _ (hs_in o hw) _ (ss_in o hh)
  simp only [Bool.and_eq_true] at f
  exact fitN_ok f.2.2
theorem fit_ls (o : PartsOk w h D) : FitN (strsD D.ls) := by
  have f := ls_all _ o.ls
  simp only [Bool.and_eq_true] at f
  exact fitN_ok f.2.2
theorem hsFit (o : PartsOk w h D) (hw : w ≤ 3) {s : Str} (m : s ∈ D.hs) : Fit (.str s) := fit_hs o hw _ (List.mem_map_of_mem m)
theorem ssFit (o : PartsOk w h D) (hw : w ≤ 3) (hh : h ≤ 4) {s : Str} (m : s ∈ D.ss) : Fit (.str s) := fit_ss o hw hh _ (List.mem_map_of_mem m)
theorem enFit (o : PartsOk w h D) (hw : w ≤ 3) (hh : h ≤ 4) {e : En} (h1 : e.2.1 = none ∨ e.2.1 = some "ask" ∨ e.2.1 = some "mend") (h2 : InOne D e) : FitT (enD e) := by
  have q : Fit (.str e.1) ∧ Fit (.str e.2.2) := by
    rcases h2 with ⟨x, y⟩ | ⟨x, y⟩
    · exact ⟨hsFit o hw x, hsFit o hw y⟩
    · exact ⟨ssFit o hw hh x, ssFit o hw hh y⟩
  intro xs hx x m
  have hx' : [PyData.str e.1, svD e.2.1, .str e.2.2] = xs := PyData.tuple.inj hx
  subst hx'
  simp only [List.mem_cons, List.not_mem_nil, or_false] at m
  rcases m with rfl | rfl | rfl
  · exact q.1
  · rcases h1 with x | x | x <;> rw [x] <;> exact fitB_ok (by decide +kernel)
  · exact q.2
theorem fit_ds (o : PartsOk w h D) (hw : w ≤ 3) (hh : h ≤ 4) : FitE (.list (D.ds.map enD)) := fun x hx => by
  obtain ⟨e, he, rfl⟩ := List.mem_map.mp hx
  have q := o.ds e he
  exact enFit o hw hh q.1 q.2
theorem fit_rs (o : PartsOk w h D) (hw : w ≤ 3) (hh : h ≤ 4) : FitE (.list (D.rs.map enD)) := fun x hx => by
  obtain ⟨e, he, rfl⟩ := List.mem_map.mp hx
  have q := o.rs e he
  exact enFit o hw hh (.inr q.1) q.2
end
theorem fit1 {d : PyData} (h : fitB d = true) : FitN (.list [d]) := fun x hx => by
  obtain rfl : x = d := by simpa [items] using hx
  exact fitB_ok h
theorem fit2 {d e : PyData} (h : fitB d = true) (h2 : fitB e = true) : FitN (.list [d, e]) := fun x hx => by
  have : x = d ∨ x = e := by simpa [items] using hx
  rcases this with rfl | rfl
  · exact fitB_ok h
  · exact fitB_ok h2
end NmP
/-! ### _law_names_refused -/
namespace NmR
open PySem PySem.Spec PyProof.Rows L2 Evl Gen Ent Rep Dat Nm Er Chk Gu Deed Pts Hear Lst Bk Cau EvD BadE EntR Lis Prd NmP
theorem paAt_ex {H H' : Hp} {p a0 a1 a2 a3 a4 : Addr} {D : PartsD} {R2 R3 : List Addr} (h : PartsAt H p D a0 a1 a2 a3 a4 R2 R3) (e : Ex H H') : PartsAt H' p D a0 a1 a2 a3 a4 R2 R3 :=
  ⟨e _ _ h.p, e _ _ h.h0, e _ _ h.h1, e _ _ h.h2, h.t2.ex e, e _ _ h.h3, h.t3.ex e, e _ _ h.h4⟩
theorem _root_.Pts.PartsAt.ex {H H' : Hp} {p a0 a1 a2 a3 a4 : Addr} {D : PartsD} {R2 R3 : List Addr} (h : PartsAt H p D a0 a1 a2 a3 a4 R2 R3) (e : Ex H H') : PartsAt H' p D a0 a1 a2 a3 a4 R2 R3 := paAt_ex h e
theorem el_lis {K : PySem.W.Frag} {σ : L2.St} {H : Hp} {i : Nat} {p a0 a1 a2 a3 a4 : Addr} {D : PartsD} {R2 R3 : List Addr} {E : XK} (hi : σ[i]? = some (some (.ref p))) (h : PartsAt H p D a0 a1 a2 a3 a4 R2 R3) : EL K (tCall (spLis K) [] E (tCons (tVar i) tNil)) σ H (D5 D) := fun H1 e Q q => by
  have h1 := h.ex e
  refine ⟨_, hi, p, [a0, a1, a2, a3, a4], [D.hs.map V.str, D.ss.map V.str, R2.map V.ref, R3.map V.ref, D.ls.map V.str], rfl, SqL.of h1.p, .cons (SqL.of h1.h0) (.cons (SqL.of h1.h1) (.cons (SqL.of h1.h2) (.cons (SqL.of h1.h3) (.cons (SqL.of h1.h4) .nil)))), by show 5 ≤ 1000; decide, fun r H2 R nr e2 hr hn _ => q r H2 e2 ⟨_, hr, ?_⟩⟩
  have h2 := h1.ex e2
  cases hn with
  | cons b0 hn =>
    cases hn with
    | cons b1 hn =>
      cases hn with
      | cons b2 hn =>
        cases hn with
        | cons b3 hn =>
          cases hn with
          | cons b4 hn =>
            cases hn
            exact .cons (.lst (SqL.of b0.1) (sw_strs _)) (.cons (.lst (SqL.of b1.1) (sw_strs _)) (.cons (.lst (SqL.of b2.1) (sw_tups h2.t2)) (.cons (.lst (SqL.of b3.1) (sw_tups h2.t3)) (.cons (.lst (SqL.of b4.1) (sw_strs _)) .nil))))
theorem el_p0 {K : PySem.W.Frag} {σ : L2.St} {H : Hp} {i : Nat} {p a0 a1 a2 a3 a4 : Addr} {D : PartsD} {R2 R3 : List Addr} (hi : σ[i]? = some (some (.ref p))) (h : PartsAt H p D a0 a1 a2 a3 a4 R2 R3) : EL K (tOp (rIxL K) (tVar i) (tC (.int 0))) σ H (D.hs.map PyData.str) := fun H1 e Q q =>
  ⟨_, hi, p, _, 0, .ref a0, rfl, rfl, SqL.of (h.ex e).p, rfl, q a0 H1 (Ex.refl H1) ⟨_, (h.ex e).h0, sw_strs _⟩⟩
theorem el_cau {K : PySem.W.Frag} {σ : L2.St} {H : Hp} {tl : TE} {d d1 d2 d3 d4 d5 : PyData} {b : Bool} {E : XK} (hl : EL K tl σ H [d1, d2, d3, d4, d5]) (f : Fit5 d1 d2 d3 d4 d5) (hb : bookErr d1 d2 d3 d4 d5 = some (b, d)) (hs : Shw d) :
    tCall (spCau K) [] E (tCons tl tNil) σ H = tCall (spCau K) [] E (tCons tl tNil) σ H ∧ ∀ Q : VK, (∀ r H2, Ex H H2 → H2 r = some (.lst [.bl b, .bl (!b), .str d.shown]) → Q (.ref r) H2) → tCall (spCau K) [] E (tCons tl tNil) σ H Q := ⟨rfl, fun Q q =>
  hl H (Ex.refl H) _ fun p H2 e2 ⟨xs, w1, w2⟩ => by
    cases w2 with
    | cons a1 w2 =>
      cases w2 with
      | cons a2 w2 =>
        cases w2 with
        | cons a3 w2 =>
          cases w2 with
          | cons a4 w2 =>
            cases w2 with
            | cons a5 w2 =>
              cases w2
              refine ⟨p, _, _, _, _, _, d1, d2, d3, d4, d5, rfl, SqL.of w1, ⟨a1, a2, a3, a4, a5⟩, f, (fun z => by rw [hb] at z; cases z), fun b' d' z => ?_⟩
              rw [hb] at z
              cases z
              exact ⟨hs, fun r H3 _ e3 hr => q r H3 (e2.trans e3) hr⟩⟩
/-- [bool, bool, repr(e)] made anew is equal to what was told -/
theorem ev_same {K : PySem.W.Frag} {σ : L2.St} {H : Hp} {te : TE} {i : Nat} {r : Addr} {d : PyData} {b : Bool} (hi : σ[i]? = some (some (.ref r))) (hr : H r = some (.lst [.bl b, .bl (!b), .str d.shown])) (hs : Shw d) (ho : PyData.strOk d.shown = true) (he : ED K te σ H d) :
    Ev (tOp (rEqD K) (tVar i) (tLst (tCons (tC (.bl b)) (tCons (tC (.bl (!b))) (tCons (tCB (rRepr K) (tCons te tNil)) tNil))))) σ H (.bl true) := fun H1 e Q q => by
  refine ⟨_, hi, he H1 e _ fun v H4 e4 hv => ⟨v, d, rfl, hv, hs.1, hs.2.1, hs.2.2, by show 3 ≤ sizeLine; decide, fun r2 nr2 => ?_⟩⟩
  have e5 := Ex.new (o := .lst [.bl b, .bl (!b), .str d.shown]) nr2
  have sh : SeqAt.shaped (.list [.bool b, .bool (!b), .str d.shown]) = true := by
    simp [SeqAt.shaped, PyData.canLay0, PyData.canLayAll0, PyData.depth, PyData.depthAll, ho]
  refine ⟨.list [.bool b, .bool (!b), .str d.shown], .list [.bool b, .bool (!b), .str d.shown], .lst (SqL.of (e5 _ _ (e4 _ _ (e _ _ hr)))) (.cons (.bl _) (.cons (.bl _) (.cons (.str _) .nil))), .lst (SqL.of upd_same) (.cons (.bl _) (.cons (.bl _) (.cons (.str _) .nil))), sh, sh, ?_⟩
  rw [SeqAt.eqv_refl _ (SeqAt.canLay_of_shaped sh)]
  exact q _ (e4.trans e5)
def spNR : Sp := fun vs H Q _ => ∃ (p a0 a1 a2 a3 a4 : Addr) (D : PartsD) (R2 R3 : List Addr) (w h : Nat), vs = [.ref p] ∧ PartsAt H p D a0 a1 a2 a3 a4 R2 R3 ∧ PartsOk w h D ∧ w ≤ 3 ∧ h ≤ 4 ∧ ∀ H', Ex H H' → Q (.bl true) H'
abbrev sNR : Stmt := top 27
abbrev NNR : List Str := ["_law_parts_here", "_law_at", "_law_lists_here", "_law_rest", "_law_odd", "_law_some", "_law_both"]
theorem scNR : FnScope NNR ["_law_parts_here"] (defScope sNR) := ⟨rfl, rfl, rfl, by decide +kernel, rfl, by decide +kernel, by decide +kernel⟩
structure LH2 (P : Program) (w : World) (K : PySem.W.Frag) (mg : Str → Option Value) (base : Heap) : Prop where
  cau : DfG P w K mg base 7 "_law_caught" ["_law_lists_here"] (spCau K)
  lis : Df P w K mg base CX0 1 "_law_lists" ["_law_parts_here"] (spLis K)
section
variable {P : Program} {w : World} {K : PySem.W.Frag} {mg : Str → Option Value} {base : Heap}
set_option maxHeartbeats 8000000 in
theorem ok_nr {f : Addr} {fd : FuncData} (F : Fun K "_law_names_refused" "_law_names_refused" sNR f fd) (B : Bt mg) (T : LH2 P w K mg base) : FnG P w K mg base 8 f fd ["_law_parts_here"] spNR := by
  refine fun_okG F scNR (fun vs H Q E h => ?_) (fun cdv A outer s H vs Q E gd hr h => ?_)
  · obtain ⟨p, _, _, _, _, _, _, _, _, _, _, rfl, _⟩ := h
    rfl
  · obtain ⟨p, a0, a1, a2, a3, a4, D, R2, R3, wi, hi, rfl, hP, o, hw, hh, kq⟩ := h
    refine ⟨_, (pss_cons (ps_for PassesOwn.never rfl (pi_list (pe_lst (pa_cons pe_int (pa_cons pe_int (pa_cons pe_int pa_nil))))) (pg_name (i := 1) scNR.nd rfl (Or.inl rfl)) (pss_cons (ps_set (i := 2) scNR.nd rfl (Or.inl rfl) (pe_df T.lis hr pass0 (pa_cons (pv 0) pa_nil)))
      (pss_cons (ps_set (i := 3) scNR.nd rfl (Or.inl rfl) (pe_op op_rep (pe_lst (pa_cons pe_non pa_nil)) (pe_op op_sub pe_int (pv 1))))
      (pss_cons (ps_for PassesOwn.never rfl (pi_list (pe_op op_cat (pe_lst (pa_cons pe_non (pa_cons pe_int (pa_cons (pe_tup pa_nil) (pa_cons pe_str (pa_cons pe_dnewK (pa_cons pe_bl (pa_cons (pe_lst (pa_cons pe_str (pa_cons pe_str (pa_cons pe_str (pa_cons pe_str (pa_cons pe_str pa_nil)))))) pa_nil)))))))) (pe_ifExp (pt_cmpR op_lt (pv 1) pe_int (nomark _)) (pe_lst (pa_cons (pe_lst pa_nil) pa_nil)) (pe_lst pa_nil)))) (pg_name (i := 4) scNR.nd rfl (Or.inl rfl)) (pss_one (ps_if (pt_cmpR (op_neD (un64 hr)) (pe_dfG T.cau gd hr (pa_cons (pe_op op_cat (pe_op op_cat (pe_slice sl_list (pv 2) po_none (po_some (pv 1))) (pe_lst (pa_cons (pv 4) pa_nil))) (pv 3)) pa_nil)) (pe_lst (pa_cons pe_bl (pa_cons pe_bl (pa_cons (pe_callB (id := "repr") (r := rRepr K) (call_repr gd (un64 hr)) (by rfl) B.repr (by decide +kernel) (pa_cons (pv 4) pa_nil)) pa_nil)))) (nomark _)) (pss_one (ps_ret pe_bl)) pss_nil)))
      (pss_cons (ps_for PassesOwn.never rfl (pi_list (pe_lst (pa_cons pe_non (pa_cons pe_int (pa_cons pe_str (pa_cons pe_str (pa_cons pe_str (pa_cons (pe_lst (pa_cons pe_str pa_nil)) (pa_cons (pe_tup (pa_cons pe_str pa_nil)) (pa_cons pe_dnewK (pa_cons pe_bl (pa_cons pe_str (pa_cons pe_str (pa_cons pe_str (pa_cons pe_str pa_nil))))))))))))))) (pg_name (i := 4) scNR.nd rfl (Or.inl rfl)) (pss_one (ps_for PassesOwn.never rfl (pi_list (pe_lst (pa_cons (pe_lst (pa_cons (pv 4) pa_nil)) (pa_cons (pe_lst (pa_cons pe_str (pa_cons (pv 4) pa_nil))) (pa_cons (pe_lst (pa_cons (pv 4) (pa_cons pe_non pa_nil))) pa_nil))))) (pg_name (i := 5) scNR.nd rfl (Or.inl rfl)) (pss_one (ps_if (pt_cmpR (op_neD (un64 hr)) (pe_dfG T.cau gd hr (pa_cons (pe_op op_cat (pe_op op_cat (pe_slice sl_list (pv 2) po_none (po_some (pv 1))) (pe_lst (pa_cons (pv 5) pa_nil))) (pv 3)) pa_nil)) (pe_lst (pa_cons pe_bl (pa_cons pe_bl (pa_cons (pe_callB (id := "repr") (r := rRepr K) (call_repr gd (un64 hr)) (by rfl) B.repr (by decide +kernel) (pa_cons (pv 4) pa_nil)) pa_nil)))) (nomark _)) (pss_one (ps_ret pe_bl)) pss_nil)))))
      (pss_one (ps_if (pt_cmpR (op_neD (un64 hr)) (pe_dfG T.cau gd hr (pa_cons (pe_op op_cat (pe_op op_cat (pe_slice sl_list (pv 2) po_none (po_some (pv 1))) (pe_lst (pa_cons (pe_lst (pa_cons pe_str (pa_cons pe_str pa_nil))) pa_nil))) (pv 3)) pa_nil)) (pe_lst (pa_cons pe_bl (pa_cons pe_bl (pa_cons (pe_callB (id := "repr") (r := rRepr K) (call_repr gd (un64 hr)) (by rfl) B.repr (by decide +kernel) (pa_cons pe_str pa_nil)) pa_nil)))) (nomark _)) (pss_one (ps_ret pe_bl)) pss_nil)))))))
      (pss_cons (ps_set (i := 6) scNR.nd rfl (Or.inl rfl) (pe_dfG T.cau gd hr (pa_cons (pe_lst (pa_cons (pe_ix ix_list (pv 0) pe_int (fun _ _ => rfl)) (pa_cons (pe_lst (pa_cons pe_str (pa_cons (pe_ix ix_list (pe_ix ix_list (pv 0) pe_int (fun _ _ => rfl)) pe_int (fun _ _ => rfl)) pa_nil))) (pa_cons pe_non (pa_cons pe_non (pa_cons pe_non pa_nil)))))) pa_nil)))
      (pss_one (ps_ret (pe_cmpR (op_eqD (un64 hr)) (pv 6) (pe_lst (pa_cons pe_bl (pa_cons pe_bl (pa_cons (pe_callB (id := "repr") (r := rRepr K) (call_repr gd (un64 hr)) (by rfl) B.repr (by decide +kernel) (pa_cons (pe_ix ix_list (pe_ix ix_list (pv 0) pe_int (fun _ _ => rfl)) pe_int (fun _ _ => rfl)) pa_nil)) pa_nil)))) (nomark _)))))), ?_⟩
    refine q_forE (K := K) (ds := [.int 0, .int 1, .int 4]) (EvD.el_lst (eda_cons ed_int (eda_cons ed_int (eda_cons ed_int eda_nil))) (by simp)) (fun σ => ∃ s1 s2 s3 s4 s5 s6, σ = [some (.ref p), s1, s2, s3, s4, s5, s6]) ⟨_, _, _, _, _, _, rfl⟩ (fun H2 e2 i x d σ2 H3 hd hσ e3 hx => ?_) (fun σ2 H2 hσ e2 => ?_)
    · match i, hd with
      | 0, hd =>
        cases hd
  -- at = 0
        have hx' : x = .int 0 := by
          cases hx
          rfl
        subst hx'
        obtain ⟨s1, s2, s3, s4, s5, s6, rfl⟩ := hσ
        have hP3 := hP.ex (e2.trans e3)
        refine q_asgE (K := K) (ds := D5 D) (el_lis rfl hP3) fun ll H5 e5 tl => ?_
        refine q_asgE (K := K) (ds := [.none, .none, .none, .none]) (el_rep (k := 4) (EvD.el_lst (eda_cons ed_non eda_nil) (by simp)) (ev_op ev_c (ev_var rfl) rv_I0) (by simp) (by decide)) fun rr H6 e6 tr => ?_
        have tl6 := tl.ex e6
        have lists : ∀ (s4 s5 s6 : Option V) (te : TE) (dd : PyData) (HB : Hp), Ex H6 HB → ED K te [some (.ref p), some (.int 0), some (.ref ll), some (.ref rr), s4, s5, s6] HB dd → EL K (tOp rCat (tOp rCat (tSl (rSlL K) (tVar 2) tNoPart (tPart (tVar 1))) (tLst (tCons te tNil))) (tVar 3)) [some (.ref p), some (.int 0), some (.ref ll), some (.ref rr), s4, s5, s6] HB (([] : List PyData) ++ [dd] ++ [.none, .none, .none, .none]) := fun s4 s5 s6 te dd HB eB hdd =>
          el_cat (el_cat (el_sl (n := 0) (el_var rfl (tl6.ex eB)) (eo_some (ev_var rfl))) (EvD.el_lst (eda_cons hdd eda_nil) (by simp)) (by simp [D5])) (el_var rfl (tr.ex eB)) (by simp [D5])
        refine q_forE (K := K) (ds := oddL ++ [.list []]) (el_cat (EvD.el_lst (eda_cons ed_non (eda_cons ed_int (eda_cons (ed_tup eda_nil (by first | decide | simp)) (eda_cons ed_str (eda_cons ed_dict (eda_cons ed_bl (eda_cons (ed_lst (eda_cons ed_str (eda_cons ed_str (eda_cons ed_str (eda_cons ed_str (eda_cons ed_str eda_nil))))) (by first | decide | simp)) eda_nil))))))) (by first | decide | simp)) (el_if (b := true) (et_test (ev_op (ev_var rfl) ev_c rv_I0)) (fun z => EvD.el_lst (eda_cons (ed_lst eda_nil (by simp)) eda_nil) (by simp)) (fun z => nomatch z)) (by decide)) (fun σ => ∃ s4, σ = [some (.ref p), some (.int 0), some (.ref ll), some (.ref rr), s4, s5, s6]) ⟨_, rfl⟩ (fun H7 e7 i7 x7 d7 σ7 H8 hd7 hσ7 e8 hx7 => ?_) (fun σ7 H7 hσ7 e7 => ?_)
        · obtain ⟨t4, rfl⟩ := hσ7
          have fact := oddL0 d7 (List.mem_of_getElem? hd7)
          simp only [Bool.and_eq_true, Bool.not_eq_true'] at fact
          obtain ⟨ok, b0, b1, fit⟩ := fact
          have e78 := e7.trans e8
          exact s_when (b := false) (et_cau (K := K) (b := true) (lists _ _ _ _ _ _ e78 (ed_var rfl hx7)) ⟨fitN_ok fit, fit_none.1, fit_none.2, fit_none.2, fit_none.1⟩ (n0 b0) (okB_ok ok).1 (okB_ok ok).2 (ed_var rfl hx7)) (fun z => nomatch z) (fun _ H9 e9 => ⟨⟨_, rfl⟩, e8.trans e9⟩)
        · obtain ⟨t4, rfl⟩ := hσ7
          refine q_forE (K := K) (ds := oddI) (EvD.el_lst (eda_cons ed_non (eda_cons ed_int (eda_cons ed_str (eda_cons ed_str (eda_cons ed_str (eda_cons (ed_lst (eda_cons ed_str eda_nil) (by first | decide | simp)) (eda_cons (ed_tup (eda_cons ed_str eda_nil) (by first | decide | simp)) (eda_cons ed_dict (eda_cons ed_bl (eda_cons ed_str (eda_cons ed_str (eda_cons ed_str (eda_cons ed_str eda_nil))))))))))))) (by first | decide | simp)) (fun σ => ∃ s4 s5, σ = [some (.ref p), some (.int 0), some (.ref ll), some (.ref rr), s4, s5, s6]) ⟨_, _, rfl⟩ (fun H8 e8 i8 x8 d8 σ8 H9 hd8 hσ8 e9 hx8 => ?_) (fun σ8 H8 hσ8 e8 => ?_)
          · obtain ⟨r4, r5, rfl⟩ := hσ8
            have fact := oddI0 d8 (List.mem_of_getElem? hd8)
            simp only [Bool.and_eq_true, Bool.not_eq_true'] at fact
            obtain ⟨ok, bad, fit⟩ := fact
            have e89 := (e7.trans e8).trans e9
            refine s_forE (K := K) (ds := [.list [d8], .list [.str "zy", d8], .list [d8, .none]]) (EvD.el_lst (eda_cons (ed_lst (eda_cons (ed_var rfl hx8) eda_nil) (by simp)) (eda_cons (ed_lst (eda_cons ed_str (eda_cons (ed_var rfl hx8) eda_nil)) (by simp)) (eda_cons (ed_lst (eda_cons (ed_var rfl hx8) (eda_cons ed_non eda_nil)) (by simp)) eda_nil))) (by simp)) (fun σ => ∃ s5, σ = [some (.ref p), some (.int 0), some (.ref ll), some (.ref rr), some x8, s5, s6]) ⟨_, rfl⟩ (fun HA eA iA xA dA σA HB hdA hσA eB hxA => ?_) (fun σA HA hσA eA => ⟨⟨_, _, hσA.choose_spec⟩, e9.trans eA⟩)
            obtain ⟨q5, rfl⟩ := hσA
            have eAB := eA.trans eB
            have hx8' := Sw.ex eAB _ _ hx8
            have go : ∀ l, dA = .list l → bookErr (.list l) .none .none .none .none = some (false, d8) → FitN (.list l) → EvT (tTest (tOp (rNeD K) (tCall (spCau K) [] E0 (tCons (tOp rCat (tOp rCat (tSl (rSlL K) (tVar 2) tNoPart (tPart (tVar 1))) (tLst (tCons (tVar 5) tNil))) (tVar 3)) tNil)) (tLst (tCons (tC (.bl false)) (tCons (tC (.bl true)) (tCons (tCB (rRepr K) (tCons (tVar 4) tNil)) tNil)))))) [some (.ref p), some (.int 0), some (.ref ll), some (.ref rr), some x8, some xA, s6] HB false := fun l hl hb hf => by
              subst hl
              exact et_cau (K := K) (b := false) (lists _ _ _ _ _ _ (e89.trans eAB) (ed_var rfl hxA)) ⟨hf, fit_none.1, fit_none.2, fit_none.2, fit_none.1⟩ hb (okB_ok ok).1 (okB_ok ok).2 (ed_var rfl hx8')
            match iA, hdA with
            | 0, hdA =>
              cases hdA
              exact s_when (go _ rfl (n0i rfl (nm_one bad)) (fit1 fit)) (fun z => nomatch z) (fun _ H9 e9 => ⟨⟨_, rfl⟩, eB.trans e9⟩)
            | 1, hdA =>
              cases hdA
              exact s_when (go _ rfl (n0i rfl (nm_two bad (by simp))) (fit2 (by decide +kernel) fit)) (fun z => nomatch z) (fun _ H9 e9 => ⟨⟨_, rfl⟩, eB.trans e9⟩)
            | 2, hdA =>
              cases hdA
              exact s_when (go _ rfl (n0i rfl (nm_lead bad)) (fit2 fit rfl)) (fun z => nomatch z) (fun _ H9 e9 => ⟨⟨_, rfl⟩, eB.trans e9⟩)
            | (k + 3), hdA => simp at hdA
          · obtain ⟨r4, r5, rfl⟩ := hσ8
            exact s_when (b := false) (et_cau (K := K) (b := false) (lists _ _ _ _ _ _ (e7.trans e8) (ed_lst (eda_cons ed_str (eda_cons ed_str eda_nil)) (by simp))) ⟨fit2 (by decide +kernel) (by decide +kernel), fit_none.1, fit_none.2, fit_none.2, fit_none.1⟩ (n0i rfl (nm_twice (by simp))) (okB_ok okZy).1 (okB_ok okZy).2 ed_str) (fun z => nomatch z) (fun _ H9 e9 => ⟨⟨_, _, _, _, _, _, rfl⟩, (((((e3.trans e5).trans e6).trans e7).trans e8)).trans e9⟩)
      | 1, hd =>
        cases hd
  -- at = 1
        have hx' : x = .int 1 := by
          cases hx
          rfl
        subst hx'
        obtain ⟨s1, s2, s3, s4, s5, s6, rfl⟩ := hσ
        have hP3 := hP.ex (e2.trans e3)
        refine q_asgE (K := K) (ds := D5 D) (el_lis rfl hP3) fun ll H5 e5 tl => ?_
        refine q_asgE (K := K) (ds := [.none, .none, .none]) (el_rep (k := 3) (EvD.el_lst (eda_cons ed_non eda_nil) (by simp)) (ev_op ev_c (ev_var rfl) rv_I0) (by simp) (by decide)) fun rr H6 e6 tr => ?_
        have tl6 := tl.ex e6
        have lists : ∀ (s4 s5 s6 : Option V) (te : TE) (dd : PyData) (HB : Hp), Ex H6 HB → ED K te [some (.ref p), some (.int 1), some (.ref ll), some (.ref rr), s4, s5, s6] HB dd → EL K (tOp rCat (tOp rCat (tSl (rSlL K) (tVar 2) tNoPart (tPart (tVar 1))) (tLst (tCons te tNil))) (tVar 3)) [some (.ref p), some (.int 1), some (.ref ll), some (.ref rr), s4, s5, s6] HB ([strsD D.hs] ++ [dd] ++ [.none, .none, .none]) := fun s4 s5 s6 te dd HB eB hdd =>
          el_cat (el_cat (el_sl (n := 1) (el_var rfl (tl6.ex eB)) (eo_some (ev_var rfl))) (EvD.el_lst (eda_cons hdd eda_nil) (by simp)) (by simp [D5])) (el_var rfl (tr.ex eB)) (by simp [D5])
        refine q_forE (K := K) (ds := oddL ++ [.list []]) (el_cat (EvD.el_lst (eda_cons ed_non (eda_cons ed_int (eda_cons (ed_tup eda_nil (by first | decide | simp)) (eda_cons ed_str (eda_cons ed_dict (eda_cons ed_bl (eda_cons (ed_lst (eda_cons ed_str (eda_cons ed_str (eda_cons ed_str (eda_cons ed_str (eda_cons ed_str eda_nil))))) (by first | decide | simp)) eda_nil))))))) (by first | decide | simp)) (el_if (b := true) (et_test (ev_op (ev_var rfl) ev_c rv_I0)) (fun z => EvD.el_lst (eda_cons (ed_lst eda_nil (by simp)) eda_nil) (by simp)) (fun z => nomatch z)) (by decide)) (fun σ => ∃ s4, σ = [some (.ref p), some (.int 1), some (.ref ll), some (.ref rr), s4, s5, s6]) ⟨_, rfl⟩ (fun H7 e7 i7 x7 d7 σ7 H8 hd7 hσ7 e8 hx7 => ?_) (fun σ7 H7 hσ7 e7 => ?_)
        · obtain ⟨t4, rfl⟩ := hσ7
          have fact := oddL0 d7 (List.mem_of_getElem? hd7)
          simp only [Bool.and_eq_true, Bool.not_eq_true'] at fact
          obtain ⟨ok, b0, b1, fit⟩ := fact
          have e78 := e7.trans e8
          exact s_when (b := false) (et_cau (K := K) (b := true) (lists _ _ _ _ _ _ e78 (ed_var rfl hx7)) ⟨fit_hs o hw, fitN_ok fit, fit_none.2, fit_none.2, fit_none.1⟩ (n1 o hw b1) (okB_ok ok).1 (okB_ok ok).2 (ed_var rfl hx7)) (fun z => nomatch z) (fun _ H9 e9 => ⟨⟨_, rfl⟩, e8.trans e9⟩)
        · obtain ⟨t4, rfl⟩ := hσ7
          refine q_forE (K := K) (ds := oddI) (EvD.el_lst (eda_cons ed_non (eda_cons ed_int (eda_cons ed_str (eda_cons ed_str (eda_cons ed_str (eda_cons (ed_lst (eda_cons ed_str eda_nil) (by first | decide | simp)) (eda_cons (ed_tup (eda_cons ed_str eda_nil) (by first | decide | simp)) (eda_cons ed_dict (eda_cons ed_bl (eda_cons ed_str (eda_cons ed_str (eda_cons ed_str (eda_cons ed_str eda_nil))))))))))))) (by first | decide | simp)) (fun σ => ∃ s4 s5, σ = [some (.ref p), some (.int 1), some (.ref ll), some (.ref rr), s4, s5, s6]) ⟨_, _, rfl⟩ (fun H8 e8 i8 x8 d8 σ8 H9 hd8 hσ8 e9 hx8 => ?_) (fun σ8 H8 hσ8 e8 => ?_)
          · obtain ⟨r4, r5, rfl⟩ := hσ8
            have fact := oddI0 d8 (List.mem_of_getElem? hd8)
            simp only [Bool.and_eq_true, Bool.not_eq_true'] at fact
            obtain ⟨ok, bad, fit⟩ := fact
            have e89 := (e7.trans e8).trans e9
            refine s_forE (K := K) (ds := [.list [d8], .list [.str "zy", d8], .list [d8, .none]]) (EvD.el_lst (eda_cons (ed_lst (eda_cons (ed_var rfl hx8) eda_nil) (by simp)) (eda_cons (ed_lst (eda_cons ed_str (eda_cons (ed_var rfl hx8) eda_nil)) (by simp)) (eda_cons (ed_lst (eda_cons (ed_var rfl hx8) (eda_cons ed_non eda_nil)) (by simp)) eda_nil))) (by simp)) (fun σ => ∃ s5, σ = [some (.ref p), some (.int 1), some (.ref ll), some (.ref rr), some x8, s5, s6]) ⟨_, rfl⟩ (fun HA eA iA xA dA σA HB hdA hσA eB hxA => ?_) (fun σA HA hσA eA => ⟨⟨_, _, hσA.choose_spec⟩, e9.trans eA⟩)
            obtain ⟨q5, rfl⟩ := hσA
            have eAB := eA.trans eB
            have hx8' := Sw.ex eAB _ _ hx8
            have go : ∀ l, dA = .list l → bookErr (strsD D.hs) (.list l) .none .none .none = some (false, d8) → FitN (.list l) → EvT (tTest (tOp (rNeD K) (tCall (spCau K) [] E0 (tCons (tOp rCat (tOp rCat (tSl (rSlL K) (tVar 2) tNoPart (tPart (tVar 1))) (tLst (tCons (tVar 5) tNil))) (tVar 3)) tNil)) (tLst (tCons (tC (.bl false)) (tCons (tC (.bl true)) (tCons (tCB (rRepr K) (tCons (tVar 4) tNil)) tNil)))))) [some (.ref p), some (.int 1), some (.ref ll), some (.ref rr), some x8, some xA, s6] HB false := fun l hl hb hf => by
              subst hl
              exact et_cau (K := K) (b := false) (lists _ _ _ _ _ _ (e89.trans eAB) (ed_var rfl hxA)) ⟨fit_hs o hw, hf, fit_none.2, fit_none.2, fit_none.1⟩ hb (okB_ok ok).1 (okB_ok ok).2 (ed_var rfl hx8')
            match iA, hdA with
            | 0, hdA =>
              cases hdA
              exact s_when (go _ rfl (n1i o hw rfl (nm_one bad)) (fit1 fit)) (fun z => nomatch z) (fun _ H9 e9 => ⟨⟨_, rfl⟩, eB.trans e9⟩)
            | 1, hdA =>
              cases hdA
              exact s_when (go _ rfl (n1i o hw rfl (nm_two bad (zy_not o hw))) (fit2 (by decide +kernel) fit)) (fun z => nomatch z) (fun _ H9 e9 => ⟨⟨_, rfl⟩, eB.trans e9⟩)
            | 2, hdA =>
              cases hdA
              exact s_when (go _ rfl (n1i o hw rfl (nm_lead bad)) (fit2 fit rfl)) (fun z => nomatch z) (fun _ H9 e9 => ⟨⟨_, rfl⟩, eB.trans e9⟩)
            | (k + 3), hdA => simp at hdA
          · obtain ⟨r4, r5, rfl⟩ := hσ8
            exact s_when (b := false) (et_cau (K := K) (b := false) (lists _ _ _ _ _ _ (e7.trans e8) (ed_lst (eda_cons ed_str (eda_cons ed_str eda_nil)) (by simp))) ⟨fit_hs o hw, fit2 (by decide +kernel) (by decide +kernel), fit_none.2, fit_none.2, fit_none.1⟩ (n1i o hw rfl (nm_twice (zy_not o hw))) (okB_ok okZy).1 (okB_ok okZy).2 ed_str) (fun z => nomatch z) (fun _ H9 e9 => ⟨⟨_, _, _, _, _, _, rfl⟩, (((((e3.trans e5).trans e6).trans e7).trans e8)).trans e9⟩)
      | 2, hd =>
        cases hd
  -- at = 4
        have hx' : x = .int 4 := by
          cases hx
          rfl
        subst hx'
        obtain ⟨s1, s2, s3, s4, s5, s6, rfl⟩ := hσ
        have hP3 := hP.ex (e2.trans e3)
        refine q_asgE (K := K) (ds := D5 D) (el_lis rfl hP3) fun ll H5 e5 tl => ?_
        refine q_asgE (K := K) (ds := ([] : List PyData)) (el_rep (k := 0) (EvD.el_lst (eda_cons ed_non eda_nil) (by simp)) (ev_op ev_c (ev_var rfl) rv_I0) (by simp) (by decide)) fun rr H6 e6 tr => ?_
        have tl6 := tl.ex e6
        have lists : ∀ (s4 s5 s6 : Option V) (te : TE) (dd : PyData) (HB : Hp), Ex H6 HB → ED K te [some (.ref p), some (.int 4), some (.ref ll), some (.ref rr), s4, s5, s6] HB dd → EL K (tOp rCat (tOp rCat (tSl (rSlL K) (tVar 2) tNoPart (tPart (tVar 1))) (tLst (tCons te tNil))) (tVar 3)) [some (.ref p), some (.int 4), some (.ref ll), some (.ref rr), s4, s5, s6] HB ([strsD D.hs, strsD D.ss, .list (D.ds.map enD), .list (D.rs.map enD)] ++ [dd] ++ ([] : List PyData)) := fun s4 s5 s6 te dd HB eB hdd =>
          el_cat (el_cat (el_sl (n := 4) (el_var rfl (tl6.ex eB)) (eo_some (ev_var rfl))) (EvD.el_lst (eda_cons hdd eda_nil) (by simp)) (by simp [D5])) (el_var rfl (tr.ex eB)) (by simp [D5])
        refine q_forE (K := K) (ds := oddL ++ []) (el_cat (EvD.el_lst (eda_cons ed_non (eda_cons ed_int (eda_cons (ed_tup eda_nil (by first | decide | simp)) (eda_cons ed_str (eda_cons ed_dict (eda_cons ed_bl (eda_cons (ed_lst (eda_cons ed_str (eda_cons ed_str (eda_cons ed_str (eda_cons ed_str (eda_cons ed_str eda_nil))))) (by first | decide | simp)) eda_nil))))))) (by first | decide | simp)) (el_if (b := false) (et_test (ev_op (ev_var rfl) ev_c rv_I0)) (fun z => nomatch z) (fun z => EvD.el_lst eda_nil (by simp))) (by decide)) (fun σ => ∃ s4, σ = [some (.ref p), some (.int 4), some (.ref ll), some (.ref rr), s4, s5, s6]) ⟨_, rfl⟩ (fun H7 e7 i7 x7 d7 σ7 H8 hd7 hσ7 e8 hx7 => ?_) (fun σ7 H7 hσ7 e7 => ?_)
        · obtain ⟨t4, rfl⟩ := hσ7
          have fact := oddL4 d7 (List.mem_of_getElem? hd7)
          simp only [Bool.and_eq_true, Bool.not_eq_true'] at fact
          obtain ⟨ok, b0, fit⟩ := fact
          have e78 := e7.trans e8
          exact s_when (b := false) (et_cau (K := K) (b := true) (lists _ _ _ _ _ _ e78 (ed_var rfl hx7)) ⟨fit_hs o hw, fit_ss o hw hh, fit_ds o hw hh, fit_rs o hw hh, fitN_ok fit⟩ (n4 o hw hh b0) (okB_ok ok).1 (okB_ok ok).2 (ed_var rfl hx7)) (fun z => nomatch z) (fun _ H9 e9 => ⟨⟨_, rfl⟩, e8.trans e9⟩)
        · obtain ⟨t4, rfl⟩ := hσ7
          refine q_forE (K := K) (ds := oddI) (EvD.el_lst (eda_cons ed_non (eda_cons ed_int (eda_cons ed_str (eda_cons ed_str (eda_cons ed_str (eda_cons (ed_lst (eda_cons ed_str eda_nil) (by first | decide | simp)) (eda_cons (ed_tup (eda_cons ed_str eda_nil) (by first | decide | simp)) (eda_cons ed_dict (eda_cons ed_bl (eda_cons ed_str (eda_cons ed_str (eda_cons ed_str (eda_cons ed_str eda_nil))))))))))))) (by first | decide | simp)) (fun σ => ∃ s4 s5, σ = [some (.ref p), some (.int 4), some (.ref ll), some (.ref rr), s4, s5, s6]) ⟨_, _, rfl⟩ (fun H8 e8 i8 x8 d8 σ8 H9 hd8 hσ8 e9 hx8 => ?_) (fun σ8 H8 hσ8 e8 => ?_)
          · obtain ⟨r4, r5, rfl⟩ := hσ8
            have fact := oddI0 d8 (List.mem_of_getElem? hd8)
            simp only [Bool.and_eq_true, Bool.not_eq_true'] at fact
            obtain ⟨ok, bad, fit⟩ := fact
            have e89 := (e7.trans e8).trans e9
            refine s_forE (K := K) (ds := [.list [d8], .list [.str "zy", d8], .list [d8, .none]]) (EvD.el_lst (eda_cons (ed_lst (eda_cons (ed_var rfl hx8) eda_nil) (by simp)) (eda_cons (ed_lst (eda_cons ed_str (eda_cons (ed_var rfl hx8) eda_nil)) (by simp)) (eda_cons (ed_lst (eda_cons (ed_var rfl hx8) (eda_cons ed_non eda_nil)) (by simp)) eda_nil))) (by simp)) (fun σ => ∃ s5, σ = [some (.ref p), some (.int 4), some (.ref ll), some (.ref rr), some x8, s5, s6]) ⟨_, rfl⟩ (fun HA eA iA xA dA σA HB hdA hσA eB hxA => ?_) (fun σA HA hσA eA => ⟨⟨_, _, hσA.choose_spec⟩, e9.trans eA⟩)
            obtain ⟨q5, rfl⟩ := hσA
            have eAB := eA.trans eB
            have hx8' := Sw.ex eAB _ _ hx8
            have go : ∀ l, dA = .list l → bookErr (strsD D.hs) (strsD D.ss) (.list (D.ds.map enD)) (.list (D.rs.map enD)) (.list l) = some (false, d8) → FitN (.list l) → EvT (tTest (tOp (rNeD K) (tCall (spCau K) [] E0 (tCons (tOp rCat (tOp rCat (tSl (rSlL K) (tVar 2) tNoPart (tPart (tVar 1))) (tLst (tCons (tVar 5) tNil))) (tVar 3)) tNil)) (tLst (tCons (tC (.bl false)) (tCons (tC (.bl true)) (tCons (tCB (rRepr K) (tCons (tVar 4) tNil)) tNil)))))) [some (.ref p), some (.int 4), some (.ref ll), some (.ref rr), some x8, some xA, s6] HB false := fun l hl hb hf => by
              subst hl
              exact et_cau (K := K) (b := false) (lists _ _ _ _ _ _ (e89.trans eAB) (ed_var rfl hxA)) ⟨fit_hs o hw, fit_ss o hw hh, fit_ds o hw hh, fit_rs o hw hh, hf⟩ hb (okB_ok ok).1 (okB_ok ok).2 (ed_var rfl hx8')
            match iA, hdA with
            | 0, hdA =>
              cases hdA
              exact s_when (go _ rfl (n4i o hw hh rfl (nm_one bad)) (fit1 fit)) (fun z => nomatch z) (fun _ H9 e9 => ⟨⟨_, rfl⟩, eB.trans e9⟩)
            | 1, hdA =>
              cases hdA
              exact s_when (go _ rfl (n4i o hw hh rfl (nm_two bad (by simp))) (fit2 (by decide +kernel) fit)) (fun z => nomatch z) (fun _ H9 e9 => ⟨⟨_, rfl⟩, eB.trans e9⟩)
            | 2, hdA =>
              cases hdA
              exact s_when (go _ rfl (n4i o hw hh rfl (nm_lead bad)) (fit2 fit rfl)) (fun z => nomatch z) (fun _ H9 e9 => ⟨⟨_, rfl⟩, eB.trans e9⟩)
            | (k + 3), hdA => simp at hdA
          · obtain ⟨r4, r5, rfl⟩ := hσ8
            exact s_when (b := false) (et_cau (K := K) (b := false) (lists _ _ _ _ _ _ (e7.trans e8) (ed_lst (eda_cons ed_str (eda_cons ed_str eda_nil)) (by simp))) ⟨fit_hs o hw, fit_ss o hw hh, fit_ds o hw hh, fit_rs o hw hh, fit2 (by decide +kernel) (by decide +kernel)⟩ (n4i o hw hh rfl (nm_twice (by simp))) (okB_ok okZy).1 (okB_ok okZy).2 ed_str) (fun z => nomatch z) (fun _ H9 e9 => ⟨⟨_, _, _, _, _, _, rfl⟩, (((((e3.trans e5).trans e6).trans e7).trans e8)).trans e9⟩)
      | (k + 3), hd => simp at hd
    · obtain ⟨s1, s2, s3, s4, s5, s6, rfl⟩ := hσ
      have hP2 := hP.ex e2
      obtain ⟨x, hx0⟩ : ∃ x, D.hs[0]? = some x := by
        have := hs_in o hw
        simp only [List.mem_cons, List.not_mem_nil, or_false] at this
        rcases this with q | q | q <;> rw [q] <;> exact ⟨_, rfl⟩
      have hxm : x ∈ D.hs := List.mem_of_getElem? hx0
      have hxa : x ∈ allH := by
        obtain ⟨k, _, _, q⟩ := o.hs
        rw [q] at hxm
        exact List.mem_of_mem_take hxm
      have okx := okH x hxa
      simp only [Bool.and_eq_true] at okx
      have hd0 : (D.hs.map PyData.str)[0]? = some (.str x) := by
        rw [List.getElem?_map, hx0]
        rfl
      have hb : bookErr (strsD D.hs) (.list [.str "zy", .str x]) .none .none .none = some (false, .str x) := n1i o hw rfl (nm_both (zy_not o hw) hxm)
      have x00 : ∀ HB, Ex H2 HB → ∀ s6, ED K (tOp (rIxL K) (tOp (rIxL K) (tVar 0) (tC (.int 0))) (tC (.int 0))) [some (.ref p), s1, s2, s3, s4, s5, s6] HB (.str x) := fun HB eB s6 => ed_ix (n := 0) (el_p0 rfl (hP2.ex eB)) ev_c hd0
      refine (el_cau (K := K) (b := false) (d := .str x) (EvD.el_lst (eda_cons (ed_ix (n := 0) (el_var rfl (partsTL hP2)) ev_c rfl) (eda_cons (ed_lst (eda_cons ed_str (eda_cons (x00 H2 (Ex.refl H2) s6) eda_nil)) (by simp)) (eda_cons ed_non (eda_cons ed_non (eda_cons ed_non eda_nil))))) (by simp)) ⟨fit_hs o hw, fit2 (by decide +kernel) (by
        have := okx.2
        unfold nmS at this
        simp only [Bool.and_eq_true, decide_eq_true_eq] at this
        exact decide_eq_true (by omega)), fit_none.2, fit_none.2, fit_none.1⟩ hb (okB_ok okx.1).1).2 _ fun r H3 e3 hr3 => ?_
      exact s_ret (ev_same (K := K) (b := false) rfl hr3 (okB_ok okx.1).1 (okB_ok okx.1).2 (x00 H3 e3 _)) fun H4 e4 => kq H4 ((e2.trans e3).trans e4)
end
end NmR
/-! ### Book's methods; _law_book -/
namespace Bmk
open PySem PySem.Spec PyProof.Rows L2 Evl Gen Ent Rep Dat Nm Er Chk Gu Deed Pts Hear Lst Bk Cau EvD BadE EntR Lis Prd
theorem isBook_ex {H H' : Hp} {C p : Addr} {B : BD} (e : Ex H H') (h : IsBook H C p B) : IsBook H' C p B := by
  obtain ⟨dx, b1, b2, b3, b4, b5, h0, h1, h2, h3, h4, h5⟩ := h
  exact ⟨dx, b1, b2, b3, b4, b5, e _ _ h0, e _ _ h1, e _ _ h2, e _ _ h3, e _ _ h4, e _ _ h5⟩
def spGet (C : Addr) (sel : BD → List V) : Sp := fun vs H Q _ => ∃ (p : Addr) (B : BD), vs = [.ref p] ∧ IsBook H C p B ∧ ∀ q H', H q = none → Ex H H' → H' q = some (.lst (sel B)) → Q (.ref q) H'
theorem scM1 : FnScope ["self"] ["self"] (defScope (inClass (top 14) 1)) := ⟨rfl, rfl, rfl, by decide +kernel, rfl, by decide +kernel, by decide +kernel⟩
theorem ok_houses {P : Program} {w : World} {K : PySem.W.Frag} {mg : Str → Option Value} {base : Heap} {f C : Addr} {fd : FuncData} (F : Fun K "houses" "Book.houses" (inClass (top 14) 1) f fd) (B : Bt mg) (c : BC K C) : FnOk P w K mg base CX0 1 f fd ["self"] (spGet C (·.h)) := by
  refine F.ok scM1 (fun vs H Q E h => ?_) (fun cdv A outer s H vs Q E hr h => ?_)
  · obtain ⟨p, B, rfl, _⟩ := h
    rfl
  · obtain ⟨p, BB, rfl, hb, kq⟩ := h
    obtain ⟨dx, b1, b2, b3, b4, b5, h0, h1, h2, h3, h4, h5⟩ := hb
    refine ⟨_, (pss_one (ps_ret (pe_callTy call_list_of (by rfl) B.list (by decide +kernel) (pa_cons (pe_fld (pv 0) rfl) pa_nil)))), ?_⟩
    exact ⟨_, rfl, p, C, dx, _, _, rfl, h0, c.cl, c.n1, rfl, b1, _, rfl, .inl (SqL.of h1), fun l nl => kq l _ nl (Ex.new nl) upd_same⟩
theorem scM2 : FnScope ["self"] ["self"] (defScope (inClass (top 14) 2)) := ⟨rfl, rfl, rfl, by decide +kernel, rfl, by decide +kernel, by decide +kernel⟩
theorem ok_stands {P : Program} {w : World} {K : PySem.W.Frag} {mg : Str → Option Value} {base : Heap} {f C : Addr} {fd : FuncData} (F : Fun K "stands" "Book.stands" (inClass (top 14) 2) f fd) (B : Bt mg) (c : BC K C) : FnOk P w K mg base CX0 1 f fd ["self"] (spGet C (·.s)) := by
  refine F.ok scM2 (fun vs H Q E h => ?_) (fun cdv A outer s H vs Q E hr h => ?_)
  · obtain ⟨p, B, rfl, _⟩ := h
    rfl
  · obtain ⟨p, BB, rfl, hb, kq⟩ := h
    obtain ⟨dx, b1, b2, b3, b4, b5, h0, h1, h2, h3, h4, h5⟩ := hb
    refine ⟨_, (pss_one (ps_ret (pe_callTy call_list_of (by rfl) B.list (by decide +kernel) (pa_cons (pe_fld (pv 0) rfl) pa_nil)))), ?_⟩
    exact ⟨_, rfl, p, C, dx, _, _, rfl, h0, c.cl, c.n2, rfl, b2, _, rfl, .inl (SqL.of h2), fun l nl => kq l _ nl (Ex.new nl) upd_same⟩
theorem scM3 : FnScope ["self"] ["self"] (defScope (inClass (top 14) 3)) := ⟨rfl, rfl, rfl, by decide +kernel, rfl, by decide +kernel, by decide +kernel⟩
theorem ok_deeds {P : Program} {w : World} {K : PySem.W.Frag} {mg : Str → Option Value} {base : Heap} {f C : Addr} {fd : FuncData} (F : Fun K "deeds" "Book.deeds" (inClass (top 14) 3) f fd) (B : Bt mg) (c : BC K C) : FnOk P w K mg base CX0 1 f fd ["self"] (spGet C (·.d)) := by
  refine F.ok scM3 (fun vs H Q E h => ?_) (fun cdv A outer s H vs Q E hr h => ?_)
  · obtain ⟨p, B, rfl, _⟩ := h
    rfl
  · obtain ⟨p, BB, rfl, hb, kq⟩ := h
    obtain ⟨dx, b1, b2, b3, b4, b5, h0, h1, h2, h3, h4, h5⟩ := hb
    refine ⟨_, (pss_one (ps_ret (pe_callTy call_list_of (by rfl) B.list (by decide +kernel) (pa_cons (pe_fld (pv 0) rfl) pa_nil)))), ?_⟩
    exact ⟨_, rfl, p, C, dx, _, _, rfl, h0, c.cl, c.n3, rfl, b3, _, rfl, .inl (SqL.of h3), fun l nl => kq l _ nl (Ex.new nl) upd_same⟩
theorem scM4 : FnScope ["self"] ["self"] (defScope (inClass (top 14) 4)) := ⟨rfl, rfl, rfl, by decide +kernel, rfl, by decide +kernel, by decide +kernel⟩
theorem ok_hearings {P : Program} {w : World} {K : PySem.W.Frag} {mg : Str → Option Value} {base : Heap} {f C : Addr} {fd : FuncData} (F : Fun K "hearings" "Book.hearings" (inClass (top 14) 4) f fd) (B : Bt mg) (c : BC K C) : FnOk P w K mg base CX0 1 f fd ["self"] (spGet C (·.r)) := by
  refine F.ok scM4 (fun vs H Q E h => ?_) (fun cdv A outer s H vs Q E hr h => ?_)
  · obtain ⟨p, B, rfl, _⟩ := h
    rfl
  · obtain ⟨p, BB, rfl, hb, kq⟩ := h
    obtain ⟨dx, b1, b2, b3, b4, b5, h0, h1, h2, h3, h4, h5⟩ := hb
    refine ⟨_, (pss_one (ps_ret (pe_callTy call_list_of (by rfl) B.list (by decide +kernel) (pa_cons (pe_fld (pv 0) rfl) pa_nil)))), ?_⟩
    exact ⟨_, rfl, p, C, dx, _, _, rfl, h0, c.cl, c.n4, rfl, b4, _, rfl, .inl (SqL.of h4), fun l nl => kq l _ nl (Ex.new nl) upd_same⟩
theorem scM5 : FnScope ["self"] ["self"] (defScope (inClass (top 14) 5)) := ⟨rfl, rfl, rfl, by decide +kernel, rfl, by decide +kernel, by decide +kernel⟩
theorem ok_lost {P : Program} {w : World} {K : PySem.W.Frag} {mg : Str → Option Value} {base : Heap} {f C : Addr} {fd : FuncData} (F : Fun K "lost" "Book.lost" (inClass (top 14) 5) f fd) (B : Bt mg) (c : BC K C) : FnOk P w K mg base CX0 1 f fd ["self"] (spGet C (·.l)) := by
  refine F.ok scM5 (fun vs H Q E h => ?_) (fun cdv A outer s H vs Q E hr h => ?_)
  · obtain ⟨p, B, rfl, _⟩ := h
    rfl
  · obtain ⟨p, BB, rfl, hb, kq⟩ := h
    obtain ⟨dx, b1, b2, b3, b4, b5, h0, h1, h2, h3, h4, h5⟩ := hb
    refine ⟨_, (pss_one (ps_ret (pe_callTy call_list_of (by rfl) B.list (by decide +kernel) (pa_cons (pe_fld (pv 0) rfl) pa_nil)))), ?_⟩
    exact ⟨_, rfl, p, C, dx, _, _, rfl, h0, c.cl, c.n5, rfl, b5, _, rfl, .inl (SqL.of h5), fun l nl => kq l _ nl (Ex.new nl) upd_same⟩

/-- nothing is let out -/
theorem passF {P : Program} {w : World} {X : Cx} : Passes (CX P w) X (fun _ _ _ => False) := by
  intro pins σ H s e s' I c
  obtain ⟨a, B, H', cls, d, _, _, _, _, _, _, _, h⟩ := c
  exact h.elim
theorem ed_listOf {K : PySem.W.Frag} {σ : L2.St} {H : Hp} {te : TE} {ds : List PyData} (h : ED K te σ H (.list ds)) : ED K (tCB (fun xs H Q => ∃ p ys, xs = [.ref p] ∧ ((SqL K H p ys ∨ SqT K H p ys) ∧ ∀ l, H l = none → Q (.ref l) (upd H l (.lst ys)))) (tCons te tNil)) σ H (.list ds) := fun H1 e Q q =>
  h H1 e _ fun v H2 e2 w => by
    cases w with
    | lst hs ha => exact ⟨_, _, rfl, .inl hs, fun l nl => q _ _ (e2.trans (Ex.new nl)) (.lst (SqL.of upd_same) (SwAll.ex (Ex.new nl) _ _ ha))⟩
/-- a book of such data stands at p -/
def BookD (K : PySem.W.Frag) (H : Hp) (C p : Addr) (d1 d2 d3 d4 d5 : PyData) : Prop := ∃ B : BD, IsBook H C p B ∧ SwAll K H B.h (items d1) ∧ SwAll K H B.s (items d2) ∧ SwAll K H B.d (items d3) ∧ SwAll K H B.r (items d4) ∧ SwAll K H B.l (items d5)
theorem BookD.ex {K : PySem.W.Frag} {H H' : Hp} {C p : Addr} {d1 d2 d3 d4 d5 : PyData} (e : Ex H H') (h : BookD K H C p d1 d2 d3 d4 d5) : BookD K H' C p d1 d2 d3 d4 d5 := by
  obtain ⟨B, h0, h1, h2, h3, h4, h5⟩ := h
  exact ⟨B, isBook_ex e h0, SwAll.ex e _ _ h1, SwAll.ex e _ _ h2, SwAll.ex e _ _ h3, SwAll.ex e _ _ h4, SwAll.ex e _ _ h5⟩
/-- a new book's data: its lists are new since H0 -/
def BookN (K : PySem.W.Frag) (H0 H : Hp) (C p : Addr) (d1 d2 d3 d4 d5 : PyData) : Prop := ∃ B : BD, NewBook H0 H C p B ∧ SwAll K H B.h (items d1) ∧ SwAll K H B.s (items d2) ∧ SwAll K H B.d (items d3) ∧ SwAll K H B.r (items d4) ∧ SwAll K H B.l (items d5)
theorem BookN.is {K : PySem.W.Frag} {H0 H : Hp} {C p : Addr} {d1 d2 d3 d4 d5 : PyData} (h : BookN K H0 H C p d1 d2 d3 d4 d5) : BookD K H C p d1 d2 d3 d4 d5 := by
  obtain ⟨B, h0, h1⟩ := h
  exact ⟨B, h0.is, h1⟩
theorem _root_.Bk.NewBook.back {H H0 H1 : Hp} {C p : Addr} {B : BD} (e : Ex H H0) (h : NewBook H0 H1 C p B) : NewBook H H1 C p B := by
  obtain ⟨dx, b1, b2, b3, b4, b5, h0, h1, f1, f2, f3, f4, f5⟩ := h
  exact ⟨dx, b1, b2, b3, b4, b5, h0, h1, fresh_back e f1, fresh_back e f2, fresh_back e f3, fresh_back e f4, fresh_back e f5⟩
theorem BookN.back {K : PySem.W.Frag} {H H0 H1 : Hp} {C p : Addr} {d1 d2 d3 d4 d5 : PyData} (e : Ex H H0) (h : BookN K H0 H1 C p d1 d2 d3 d4 d5) : BookN K H H1 C p d1 d2 d3 d4 d5 := by
  obtain ⟨B, h0, h1⟩ := h
  exact ⟨B, h0.back e, h1⟩
/-- Book(..) where nothing is wrong: a new book -/
theorem made {K : PySem.W.Frag} {H : Hp} {CL CI C : Addr} {v1 v2 v3 v4 v5 : V} {d1 d2 d3 d4 d5 : PyData} {Q : VK} {x dx : Addr} (hb : bookErr d1 d2 d3 d4 d5 = none) (f : Fit5 d1 d2 d3 d4 d5)
    (w : Sw K H v1 d1 ∧ Sw K H v2 d2 ∧ Sw K H v3 d3 ∧ Sw K H v4 d4 ∧ Sw K H v5 d5) (nx : H x = none) (nd : H dx = none) (ne : dx ≠ x) (k : ∀ H', Ex H H' → BookN K H H' C x d1 d2 d3 d4 d5 → Q (.ref x) H') :
    spInit K CL CI C [.ref x, v1, v2, v3, v4, v5] (upd (upd H dx (.own x)) x (.ins C dx [])) (fun v H2 => v = .non ∧ Q (.ref x) H2) (fun _ _ _ => False) := by
  have e1 : Ex H (upd (upd H dx (.own x)) x (.ins C dx [])) := fun a o ha => by
    rw [upd_ne (ne_of_none ha nx), upd_ne (ne_of_none ha nd)]
    exact ha
  obtain ⟨w1, w2, w3, w4, w5⟩ := w
  refine ⟨x, dx, v1, v2, v3, v4, v5, d1, d2, d3, d4, d5, rfl, upd_same, ⟨Sw.ex e1 _ _ w1, Sw.ex e1 _ _ w2, Sw.ex e1 _ _ w3, Sw.ex e1 _ _ w4, Sw.ex e1 _ _ w5⟩, f, fun _ H' B mv nb _ l1 l2 l3 l4 l5 => ⟨rfl, ?_⟩, fun b d z => by rw [hb] at z; cases z⟩
  have e2 : Ex H H' := fun a o ha => mv a o (ne_of_none ha nx) (e1 a o ha)
  exact k H' e2 ⟨B, nb.back e1, l1, l2, l3, l4, l5⟩
theorem s_retMake {K : PySem.W.Frag} {σ : L2.St} {H : Hp} {ta : TA} {ds : List PyData} {D : Ends} {C : Addr} {sp : Sp} {dvs : List V} {E : XK} (h : EDA K ta σ H ds)
    (k : ∀ vs H1, Ex H H1 → SwAll K H1 vs ds → ∀ x dx, H1 x = none → H1 dx = none → dx ≠ x → sp (.ref x :: (vs ++ dvs)) (upd (upd H1 dx (.own x)) x (.ins C dx [])) (fun v H2 => v = .non ∧ D.rt (.ref x) H2) E) :
    tRet (tMake C sp dvs E ta) D σ H := h H (Ex.refl H) _ fun vs H1 e1 w => k vs H1 e1 w
/-- a list of these data -/
def SL (K : PySem.W.Frag) (H : Hp) (p : Addr) (ds : List PyData) : Prop := ∃ xs, SqL K H p xs ∧ SwAll K H xs ds
theorem _root_.EvD.TL.sl {K : PySem.W.Frag} {H : Hp} {p : Addr} {ds : List PyData} (h : TL K H p ds) : SL K H p ds := by
  obtain ⟨xs, h1, h2⟩ := h
  exact ⟨xs, SqL.of h1, h2⟩
theorem sl_of {K : PySem.W.Frag} {H : Hp} {v : V} {ds : List PyData} (h : Sw K H v (.list ds)) : ∃ a, v = .ref a ∧ SL K H a ds := by
  obtain ⟨a, xs, e, h1, h2⟩ := sw_list h
  exact ⟨a, e, xs, h1, h2⟩
theorem ed_ixS {K : PySem.W.Frag} {σ : L2.St} {H : Hp} {i n : Nat} {p : Addr} {ds : List PyData} {d : PyData} (hi : σ[i]? = some (some (.ref p))) (h : SL K H p ds) (hd : ds[n]? = some d) : ED K (tOp (rIxL K) (tVar i) (tC (.int (n : Int)))) σ H d := fun H1 e Q q => by
  obtain ⟨xs, h1, h2⟩ := h
  have h2' := SwAll.ex e _ _ h2
  have hl := swAll_len h2'
  have hn : n < xs.length := by
    rw [hl]
    exact (List.getElem?_eq_some_iff.mp hd).1
  obtain ⟨d', hd', w⟩ := swAll_get h2' (List.getElem?_eq_getElem hn)
  rw [hd] at hd'
  cases hd'
  exact ⟨_, hi, p, xs, _, xs[n], rfl, rfl, ex_l e h1, atI_nat (List.getElem?_eq_getElem hn), q _ _ (Ex.refl _) w⟩
def spLB (K : PySem.W.Frag) (C : Addr) : Sp := fun vs H Q _ => ∃ (p : Addr) (l1 l2 l3 l4 l5 : List PyData), vs = [.ref p] ∧ SL K H p [.list l1, .list l2, .list l3, .list l4, .list l5] ∧ Fit5 (.list l1) (.list l2) (.list l3) (.list l4) (.list l5) ∧
  bookErr (.list l1) (.list l2) (.list l3) (.list l4) (.list l5) = none ∧ ∀ q H', H q = none → Ex H H' → BookN K H H' C q (.list l1) (.list l2) (.list l3) (.list l4) (.list l5) → Q (.ref q) H'
abbrev sLB : Stmt := top 22
theorem scLB : FnScope ["_law_parts_here"] ["_law_parts_here"] (defScope sLB) := ⟨rfl, rfl, rfl, by decide +kernel, rfl, by decide +kernel, by decide +kernel⟩
section
variable {P : Program} {w : World} {K : PySem.W.Frag} {mg : Str → Option Value} {base : Heap}
theorem ok_lb {f CL CI C : Addr} {fd : FuncData} (F : Fun K "_law_book" "_law_book" sLB f fd) (B : Bt mg) (c : BkC P w K mg base CL CI C) : FnOk P w K mg base CX0 7 f fd ["_law_parts_here"] (spLB K C) := by
  obtain ⟨fI, fdI, M, G, bG⟩ := c.ex
  refine F.ok scLB (fun vs H Q E h => ?_) (fun cdv A outer s H vs Q E hr h => ?_)
  · obtain ⟨p, l1, l2, l3, l4, l5, rfl, _⟩ := h
    rfl
  · obtain ⟨p, l1, l2, l3, l4, l5, rfl, hp, ft, hb, kq⟩ := h
    refine ⟨_, (pss_one (ps_ret (pe_make M G hr (by rfl) c.g bG .nil passF (pa_cons (pe_callTy (r := fun xs H Q => ∃ p ys, xs = [.ref p] ∧ ((SqL K H p ys ∨ SqT K H p ys) ∧ ∀ l, H l = none → Q (.ref l) (upd H l (.lst ys)))) call_list_of (by rfl) B.list (by decide +kernel) (pa_cons (pe_ix ix_list (pv 0) pe_int (fun _ _ => rfl)) pa_nil)) (pa_cons (pe_callTy (r := fun xs H Q => ∃ p ys, xs = [.ref p] ∧ ((SqL K H p ys ∨ SqT K H p ys) ∧ ∀ l, H l = none → Q (.ref l) (upd H l (.lst ys)))) call_list_of (by rfl) B.list (by decide +kernel) (pa_cons (pe_ix ix_list (pv 0) pe_int (fun _ _ => rfl)) pa_nil)) (pa_cons (pe_callTy (r := fun xs H Q => ∃ p ys, xs = [.ref p] ∧ ((SqL K H p ys ∨ SqT K H p ys) ∧ ∀ l, H l = none → Q (.ref l) (upd H l (.lst ys)))) call_list_of (by rfl) B.list (by decide +kernel) (pa_cons (pe_ix ix_list (pv 0) pe_int (fun _ _ => rfl)) pa_nil)) (pa_cons (pe_callTy (r := fun xs H Q => ∃ p ys, xs = [.ref p] ∧ ((SqL K H p ys ∨ SqT K H p ys) ∧ ∀ l, H l = none → Q (.ref l) (upd H l (.lst ys)))) call_list_of (by rfl) B.list (by decide +kernel) (pa_cons (pe_ix ix_list (pv 0) pe_int (fun _ _ => rfl)) pa_nil)) (pa_cons (pe_callTy (r := fun xs H Q => ∃ p ys, xs = [.ref p] ∧ ((SqL K H p ys ∨ SqT K H p ys) ∧ ∀ l, H l = none → Q (.ref l) (upd H l (.lst ys)))) call_list_of (by rfl) B.list (by decide +kernel) (pa_cons (pe_ix ix_list (pv 0) pe_int (fun _ _ => rfl)) pa_nil)) pa_nil)))))))), ?_⟩
    have part : ∀ (n : Nat) (l : List PyData), [PyData.list l1, .list l2, .list l3, .list l4, .list l5][n]? = some (.list l) → ED K (tCB (fun xs H Q => ∃ p ys, xs = [.ref p] ∧ ((SqL K H p ys ∨ SqT K H p ys) ∧ ∀ l, H l = none → Q (.ref l) (upd H l (.lst ys)))) (tCons (tOp (rIxL K) (tVar 0) (tC (.int (n : Int)))) tNil)) (start ["_law_parts_here"] [.ref p]) H (.list l) := fun n l hl =>
      ed_listOf (ed_ixS (n := n) rfl hp hl)
    have args := eda_cons (part 0 l1 rfl) (eda_cons (part 1 l2 rfl) (eda_cons (part 2 l3 rfl) (eda_cons (part 3 l4 rfl) (eda_cons (part 4 l5 rfl) eda_nil))))
    refine s_retMake args fun vs H2 e2 hw x dx nx nd ne => ?_
    cases hw with
    | cons w1 hw =>
      cases hw with
      | cons w2 hw =>
        cases hw with
        | cons w3 hw =>
          cases hw with
          | cons w4 hw =>
            cases hw with
            | cons w5 hw =>
              cases hw
              exact made hb ft ⟨w1, w2, w3, w4, w5⟩ nx nd ne fun H3 e3 hk => kq x H3 (fresh_back e2 nx) (e2.trans e3) (hk.back e2)
end
end Bmk
/-! ### Book.__eq__; == by it -/
namespace EqB
open PySem PySem.Spec PyProof.Rows L2 Evl Gen Ent Rep Dat Nm Er Chk Gu Deed Pts Hear Lst Bk Cau EvD BadE EntR Lis Prd Bmk
mutual
theorem sw_dp {K : PySem.W.Frag} {H : Hp} : ∀ (d : PyData) (v : V), Sw K H v d → d.canLay0 = true → Dp K H v d
  | .none, _, h, _ => by cases h; exact .non
  | .bool b, _, h, _ => by cases h; exact .bl b
  | .int i, _, h, _ => by cases h; exact .int i
  | .str x, _, h, _ => by cases h; exact .str x
  | .list ds, _, h, c => by
    cases h with
    | lst hs ha => exact .lst hs (swAll_dp ds _ ha (by simpa [PyData.canLay0] using c))
  | .tuple ds, _, h, c => by
    cases h with
    | tup hs ha => exact .tup hs (swAll_dp ds _ ha (by simpa [PyData.canLay0] using c))
  | .dict ds, _, h, c => by simp [PyData.canLay0] at c
theorem swAll_dp {K : PySem.W.Frag} {H : Hp} : ∀ (ds : List PyData) (vs : List V), SwAll K H vs ds → PyData.canLayAll0 ds = true → DpAll K H vs ds
  | [], _, h, _ => by cases h; exact .nil
  | d :: ds, _, h, c => by
    cases h with
    | cons h1 h2 =>
      have c' : d.canLay0 = true ∧ PyData.canLayAll0 ds = true := by simpa [PyData.canLayAll0] using c
      exact .cons (sw_dp d _ h1 c'.1) (swAll_dp ds _ h2 c'.2)
end
/-- what is known of the class by its == -/
structure BE (K : PySem.W.Frag) (C : Addr) : Prop where
  c : BC K C
  ha : PySem.W.findIn K (.ref C) "__class__" = some (some (.builtin "object.__class__"))
  hn : PySem.W.specialIn K (.builtin "object.__class__") "__get__" = some (some (.builtin "getset_descriptor.__get__"))
  ht : PySem.W.takesIn K (.builtin "object.__class__") = some true
  hm : PySem.W.mroIn K C (.type "object") = some true
  kk : PySem.W.kitOne K (.ref C) (.ref C) = some true
  kn : ∀ d : PyData, PySem.W.kitOne K (.type (tyD d)) (.ref C) = some false
def shp (d : PyData) : Prop := SeqAt.shaped (.list (items d)) = true
def eq5 (d1 d2 d3 d4 d5 e1 e2 e3 e4 e5 : PyData) : Bool := PyData.eqv (.list (items d1)) (.list (items e1)) && (PyData.eqv (.list (items d2)) (.list (items e2)) && (PyData.eqv (.list (items d3)) (.list (items e3)) && (PyData.eqv (.list (items d4)) (.list (items e4)) && PyData.eqv (.list (items d5)) (.list (items e5)))))
def spEqB (K : PySem.W.Frag) (C : Addr) : Sp := fun vs H Q _ => ∃ (a : Addr) (y : V) (d1 d2 d3 d4 d5 : PyData), vs = [.ref a, y] ∧ BookD K H C a d1 d2 d3 d4 d5 ∧ (shp d1 ∧ shp d2 ∧ shp d3 ∧ shp d4 ∧ shp d5) ∧
  ((∃ (b : Addr) (e1 e2 e3 e4 e5 : PyData), y = .ref b ∧ BookD K H C b e1 e2 e3 e4 e5 ∧ (shp e1 ∧ shp e2 ∧ shp e3 ∧ shp e4 ∧ shp e5) ∧ ∀ H', Ex H H' → Q (.bl (eq5 d1 d2 d3 d4 d5 e1 e2 e3 e4 e5)) H') ∨ (∃ d, Sw K H y d ∧ ∀ H', Ex H H' → Q (.bl false) H'))
abbrev sEq : Stmt := inClass (top 14) 7
theorem scEq : FnScope ["self", "other"] ["self", "other"] (defScope sEq) := ⟨rfl, rfl, rfl, by decide +kernel, rfl, by decide +kernel, by decide +kernel⟩
theorem ev_fld {K : PySem.W.Frag} {σ : L2.St} {H : Hp} {i : Nat} {f : Str} {a C dx : Addr} {fs : List (Str × V)} {v : V} (hi : σ[i]? = some (some (.ref a))) (h : H a = some (.ins C dx fs)) (c : Cls K C) (n : NoAttr K C f) (hl : fs.lookup f = some v) : Ev (tFld K (tVar i) f) σ H v := fun H1 e Q q =>
  ⟨_, hi, a, C, dx, fs, v, rfl, e _ _ h, c, n, hl, q H1 (Ex.refl H1)⟩
theorem ev_eqD {K : PySem.W.Frag} {σ : L2.St} {H : Hp} {ta tb : TE} {x y : V} {d e : PyData} (ha : Ev ta σ H x) (hb : Ev tb σ H y) (hx : Sw K H x d) (hy : Sw K H y e) (sd : SeqAt.shaped d = true) (se : SeqAt.shaped e = true) : Ev (tOp (rEqD K) ta tb) σ H (.bl (PyData.eqv d e)) :=
  ev_op ha hb fun H1 a Q q => ⟨d, e, sw_dp _ _ (Sw.ex a _ _ hx) (SeqAt.canLay_of_shaped sd), sw_dp _ _ (Sw.ex a _ _ hy) (SeqAt.canLay_of_shaped se), sd, se, q H1 (Ex.refl H1)⟩
section
variable {P : Program} {w : World} {K : PySem.W.Frag} {mg : Str → Option Value} {base : Heap}
theorem ok_eq {f C : Addr} {fd : FuncData} (F : Fun K "__eq__" "Book.__eq__" sEq f fd) (B : Bt mg) (c : BE K C) (gB : mg "Book" = some (.ref C)) : FnOk P w K mg base CX0 1 f fd ["self", "other"] (spEqB K C) := by
  refine F.ok scEq (fun vs H Q E h => ?_) (fun cdv A outer s H vs Q E hr h => ?_)
  · obtain ⟨a, y, _, _, _, _, _, rfl, _⟩ := h
    rfl
  · obtain ⟨a, y, d1, d2, d3, d4, d5, rfl, hb, ⟨s1, s2, s3, s4, s5⟩, kq⟩ := h
    refine ⟨_, (pss_one (ps_ret (pe_and (pe_callB call_isi (by rfl) B.isi (by decide +kernel) (pa_cons (pv 1) (pa_cons (pe_glob (v := V.ref C) (by rfl) gB rfl) pa_nil))) (pe_and (pe_cmpR (op_eqD (un64 hr)) (pe_fld (pv 0) rfl) (pe_fld (pv 1) rfl) (nomark _)) (pe_and (pe_cmpR (op_eqD (un64 hr)) (pe_fld (pv 0) rfl) (pe_fld (pv 1) rfl) (nomark _)) (pe_and (pe_cmpR (op_eqD (un64 hr)) (pe_fld (pv 0) rfl) (pe_fld (pv 1) rfl) (nomark _)) (pe_and (pe_cmpR (op_eqD (un64 hr)) (pe_fld (pv 0) rfl) (pe_fld (pv 1) rfl) (nomark _)) (pe_one (pe_cmpR (op_eqD (un64 hr)) (pe_fld (pv 0) rfl) (pe_fld (pv 1) rfl) (nomark _)))))))))), ?_⟩
    obtain ⟨BB, ⟨dx, b1, b2, b3, b4, b5, h0, h1, h2, h3, h4, h5⟩, w1, w2, w3, w4, w5⟩ := hb
    rcases kq with ⟨b, e1, e2, e3, e4, e5, rfl, ⟨BB', ⟨dx', c1, c2, c3, c4, c5, g0, g1, g2, g3, g4, g5⟩, u1, u2, u3, u4, u5⟩, ⟨t1, t2, t3, t4, t5⟩, kq⟩ | ⟨d, hd, kq⟩
    · refine s_ret (v := .bl (true && eq5 d1 d2 d3 d4 d5 e1 e2 e3 e4 e5)) (ev_andV (fun H1 e Q1 q => ⟨_, rfl, .ref b, .ref C, .ref C, .ref C, true, rfl, .own C, .base (.ins (e _ _ g0) c.c.cl c.ha c.hn c.ht c.hm), c.kk, q H1 (Ex.refl H1)⟩) fun _ => ?_) kq
      refine ev_andV (ev_eqD (ev_fld rfl h0 c.c.cl c.c.n1 rfl) (ev_fld rfl g0 c.c.cl c.c.n1 rfl) (.lst (SqL.of h1) w1) (.lst (SqL.of g1) u1) s1 t1) fun _ => ?_
      refine ev_andV (ev_eqD (ev_fld rfl h0 c.c.cl c.c.n2 rfl) (ev_fld rfl g0 c.c.cl c.c.n2 rfl) (.lst (SqL.of h2) w2) (.lst (SqL.of g2) u2) s2 t2) fun _ => ?_
      refine ev_andV (ev_eqD (ev_fld rfl h0 c.c.cl c.c.n3 rfl) (ev_fld rfl g0 c.c.cl c.c.n3 rfl) (.lst (SqL.of h3) w3) (.lst (SqL.of g3) u3) s3 t3) fun _ => ?_
      refine ev_andV (ev_eqD (ev_fld rfl h0 c.c.cl c.c.n4 rfl) (ev_fld rfl g0 c.c.cl c.c.n4 rfl) (.lst (SqL.of h4) w4) (.lst (SqL.of g4) u4) s4 t4) fun _ => ?_
      exact ev_eqD (ev_fld rfl h0 c.c.cl c.c.n5 rfl) (ev_fld rfl g0 c.c.cl c.c.n5 rfl) (.lst (SqL.of h5) w5) (.lst (SqL.of g5) u5) s5 t5
    · exact s_ret (v := .bl (false && true)) (ev_andV (fun H1 e Q1 q => ⟨_, rfl, y, .ref C, .type (tyD d), .ref C, false, rfl, .own C, sw_ty (Sw.ex e _ _ hd), c.kn d, q H1 (Ex.refl H1)⟩) (fun z => nomatch z)) kq
end
end EqB
/-! ### == and != by an own __eq__, any answer -/
namespace OwnQ
open PySem PySem.Spec PyProof.Rows L2 Evl Rep Dat
/-- a value's type is told -/
theorem looks_sw {X : Cx} {pins : List (Addr × Obj)} {σ : L2.St} {H : Hp} {s : Shared} {y : V} {u : Value} {d : PyData} {M : Model} (I : Inv X pins σ H s) (r : RelV y u) (h : Sw X.K H y d) : PySem.W.Looks M s.heap (typeOf u) (.type (tyD d)) := by
  cases h with
  | non => cases r; exact .now
  | bl b => cases r; exact .now
  | int i => obtain ⟨t, rfl⟩ := r; exact .now
  | str x => obtain ⟨t, rfl⟩ := r; exact .now
  | lst hs _ =>
    cases r
    obtain ⟨its, _, ht, _⟩ := I.list hs
    obtain ⟨o, ho, hc⟩ := ht.isList.typeIs
    exact fun A Q E z k q => wpAny_typeOf ⟨o, k _ _ ho, hc⟩ q
  | tup hs _ =>
    cases r
    obtain ⟨its, _, ht, _⟩ := I.tuple hs
    obtain ⟨o, ho, hc⟩ := ht.typeIs
    exact fun A Q E z k q => wpAny_typeOf ⟨o, k _ _ ho, hc⟩ q
  | dct hs _ =>
    cases r
    obtain ⟨_, _, vs, _, o, es, ep, h1, h2, _⟩ := dk_of I.hok hs
    exact fun A Q E z k q => wpAny_typeOf ⟨o, k _ _ h1, h2.1⟩ q
/-- what is known of a class by its own __eq__ -/
structure QC (K : PySem.W.Frag) (C f : Addr) : Prop where
  eq : PySem.W.findIn K (.ref C) "__eq__" = some (some (.ref f))
  fn : PySem.W.isFn K (.ref f) = true
  ne : PySem.W.findIn K (.ref C) "__ne__" = some (some (.builtin "object.__ne__"))
  ob : PySem.W.mroIn K C (.type "object") = some true
  nf : ∀ d : PyData, PySem.W.notFirst K C (.type (tyD d)) = true
  sb : ∀ d : PyData, PySem.W.subIn K (.ref C) (.type (tyD d)) = some false
section
variable {X : Cx} {n : Nat} {f C : Addr} {fd : FuncData} {ps : List Str} {sp : Sp}
/-- the own == called, wherever there is room -/
theorem run_eq (F : FnOk X.prog X.w X.K X.mg X.base CX0 n f fd ps sp) (hb : Binds X.K fd ps []) {A : Around} (room : Room n A) (fr : A.frames = X.A.frames) {pins : List (Addr × Obj)} {σ : L2.St} {H : Hp} {s : Shared} {a : Addr} {y : V} {u : Value} {Q : VK} {E : Value → Shared → Prop} (I : Inv X pins σ H s) (ry : RelV y u)
    (h : sp [.ref a, y] H (fun v H' => ∃ b, v = .bl b ∧ Q (.bl b) H') E0) : wpAny (model X.prog X.w) A (call (.ref f) [.ref a, u]) (fun r s' => ∃ b H', r = .bool b ∧ Inv X pins σ H' s' ∧ Q (.bl b) H') E s := by
  have e0 : Env0 X.prog X.w X.K X.mg X.base A X.stack s H := by
    have e := I.env0
    exact ⟨by rw [fr]; exact e.frames, e.mod, e.bs, e.bsz, e.funs, e.frf, e.hok, e.bare⟩
  have hl := F.len _ _ _ _ h
  have r2 : Vals [V.ref a, y] [Value.ref a, u] := .cons rfl (.cons ry .nil)
  have bd : BindsTo s fd ⟨[.ref a, u], []⟩ (ps.zip [.ref a, u]) := by
    have := hb s [.ref a, u] I.kIn (by simpa using hl)
    simpa using this
  refine wpAny_call (codeAny_mono (F.run A X.stack s H ⟨[.ref a, u], []⟩ [.ref a, u] [.ref a, y] _ E0 room e0 bd r2 h) fun r s' hq => ?_)
  cases r with
  | error e => exact False.elim hq
  | ok fl =>
    cases fl with
    | ret w =>
      obtain ⟨z, H', I', rz, b, ez, q⟩ := I.after hq
      subst ez
      cases rz
      exact ⟨b, H', rfl, I', q⟩
    | next => exact False.elim hq
    | brk => exact False.elim hq
    | cont => exact False.elim hq
/-- the right side: of the class itself, or data -/
def Right (K : PySem.W.Frag) (H : Hp) (C : Addr) (y : V) : Prop := (∃ b dx fs, y = .ref b ∧ H b = some (.ins C dx fs)) ∨ ∃ d, Sw K H y d
theorem right_looks {pins : List (Addr × Obj)} {σ : L2.St} {H : Hp} {s : Shared} {y : V} {u : Value} {M : Model} (c : QC X.K C f) (I : Inv X pins σ H s) (r : RelV y u) (h : Right X.K H C y) : ∃ tb, PySem.W.Looks M s.heap (typeOf u) tb ∧ PySem.W.notFirst X.K C tb = true := by
  rcases h with ⟨b, dx, fs, rfl, hb⟩ | ⟨d, hd⟩
  · cases r
    obtain ⟨mB, J, _⟩ := ins_get I.hok hb
    obtain ⟨od, J, _⟩ := J.look
    exact ⟨_, J.type, by simp [PySem.W.notFirst]⟩
  · exact ⟨_, looks_sw I r hd, c.nf d⟩
/-- x == y -/
def rOwnEq (K : PySem.W.Frag) (C : Addr) (sp : Sp) : R2 := fun x y H Q => ∃ a dx fs, x = .ref a ∧ H a = some (.ins C dx fs) ∧ Right K H C y ∧ sp [.ref a, y] H (fun v H' => ∃ b, v = .bl b ∧ Q (.bl b) H') E0
theorem op_ownEq (c : QC X.K C f) (F : FnOk X.prog X.w X.K X.mg X.base CX0 n f fd ps sp) (hb : Binds X.K fd ps []) (hr : Room n X.A) : OpR X (compareOp .Eq) (rOwnEq X.K C sp) := by
  intro pins s σ H x y v u Q I rx ry h
  obtain ⟨a, dx, fs, rfl, ha, hy, hsp⟩ := h
  cases rx
  obtain ⟨mA, J, _⟩ := ins_get I.hok ha
  obtain ⟨od, J, _⟩ := J.look
  obtain ⟨m, hF⟩ := I.fr
  obtain ⟨tb, lk, nf⟩ := right_looks (M := model X.prog X.w) c I ry hy
  refine PySem.W.cmp_K (op := .Eq) (tb := tb) hr.units0 hF I.ok.mod.kin J lk nf c.eq c.fn (wpAny_mono (run_eq F hb hr rfl I ry hsp) (fun r s' q => ?_) fun _ _ z => z)
  obtain ⟨b, H', rfl, I', q⟩ := q
  exact ⟨.bl b, H', I', rfl, q⟩
theorem ne_entry {M : Model} {A : Around} {a : Addr} {u : Value} {s : Shared} {Q : Fin → Shared → Prop} {E : Value → Shared → Prop} (hu : A.units < cLine)
    (h : wpAny M A (callSpecialIfBound? (.ref a) "__eq__" [u]) (fun r s' => ∃ k, r = some (.bool k) ∧ Q (.done (.ret (.bool (!k)))) s') E s) : wpAny M A (Builtin.«object.__ne__» ⟨[.ref a, u], []⟩) Q E s := by
  unfold Builtin.«object.__ne__»
  refine wpAny_bind (wpAny_pure ?_)
  dsimp only
  refine wpAny_bind (wpAny_cRoomFor hu ?_)
  refine wpAny_bind (wpAny_mono h (fun r s' q => ?_) fun _ _ z => z)
  obtain ⟨k, rfl, q⟩ := q
  dsimp only
  refine wpAny_bind (wpAny_truthy_bool ?_)
  exact wpAny_pure q
theorem ifBound_ne {M : Model} {A : Around} {K : PySem.W.Frag} {a C : Addr} {oa : Obj} {od : Option Obj} {args : List Value} {s : Shared} {Q : Option Value → Shared → Prop} {E : Value → Shared → Prop} (kin : K.In s.heap) (J : PySem.W.InstAt s.heap a oa C od) (hn : PySem.W.findIn K (.ref C) "__ne__" = some (some (.builtin "object.__ne__")))
    (h : wpAny M A (call (.builtin "object.__ne__") (.ref a :: args)) (fun v => Q (some v)) E s) : wpAny M A (callSpecialIfBound? (.ref a) "__ne__" args) Q E s := by
  have done : wpAny M A (call (.builtin "object.__ne__") ([.ref a] ++ args) >>= fun v => pure (some v)) Q E s := wpAny_bind (wpAny_mono h (fun _ _ q => wpAny_pure q) fun _ _ q => q)
  simp only [callSpecialIfBound?, bindSpecialIfBound?]
  refine wpAny_holding (wpAny_bind (wpAny_bind (wpAny_bind (J.type.here ((PySem.W.looks_findIn kin hn).here (wpAny_bind (wpAny_askSetting (wpAny_ite ?_))))))))
  split
  · exact wpAny_bind (wpAny_of_eq (PySem.F.cmp_object.ne.bind _) (wpAny_pure (by exact done)))
  · exact wpAny_tryCatch (wpAny_bind (wpAny_of_eq (PySem.F.cmp_object.ne.bind _) (wpAny_pure (by exact done))))
/-- x != y -/
def rOwnNe (K : PySem.W.Frag) (C : Addr) (sp : Sp) : R2 := fun x y H Q => ∃ a dx fs, x = .ref a ∧ H a = some (.ins C dx fs) ∧ Right K H C y ∧ sp [.ref a, y] H (fun v H' => ∃ b, v = .bl b ∧ Q (.bl (!b)) H') E0
theorem op_ownNe (c : QC X.K C f) (F : FnOk X.prog X.w X.K X.mg X.base CX0 n f fd ps sp) (hb : Binds X.K fd ps []) (hr : Room (n + 1) X.A) : OpR X (compareOp .NotEq) (rOwnNe X.K C sp) := by
  intro pins s σ H x y v u Q I rx ry h
  obtain ⟨a, dx, fs, rfl, ha, hy, hsp⟩ := h
  cases rx
  obtain ⟨mA, J, _⟩ := ins_get I.hok ha
  obtain ⟨od, J, _⟩ := J.look
  obtain ⟨tb, lk, nf⟩ := right_looks (M := model X.prog X.w) c I ry hy
  have hsp' : sp [.ref a, y] H (fun v H' => ∃ b, v = .bl b ∧ (fun z H2 => ∃ b, z = V.bl b ∧ Q (.bl (!b)) H2) (.bl b) H') E0 := by
    have : (fun (v : V) (H' : Hp) => ∃ b, v = .bl b ∧ (fun z H2 => ∃ b, z = V.bl b ∧ Q (.bl (!b)) H2) (.bl b) H') = fun v H' => ∃ b, v = .bl b ∧ Q (.bl (!b)) H' := by
      funext v H'
      apply propext
      constructor
      · rintro ⟨b, e, b', e', q⟩
        cases e'
        exact ⟨b, e, q⟩
      · rintro ⟨b, e, q⟩
        exact ⟨b, e, b, rfl, q⟩
    rw [this]
    exact hsp
  have one : wpAny (model X.prog X.w) X.A (tryCompare (.ref a) "__ne__" u) (fun r s' => ∃ w, r = some w ∧ EP X pins σ Q w s') X.xe s := by
    unfold tryCompare
    refine wpAny_bind (ifBound_ne I.kIn J c.ne (wpAny_call (codeAny_call_builtin PySem.F.cmp_object.ne.plain PySem.F.cmpEntry_ne (PySem.W.check_slot PySem.F.cmpKind_ne PySem.F.cmpSplit_ne (J.type.andThen (PySem.W.looks_mroIn I.kIn c.ob)) (PySem.F.cmpArgs_ne _ _)
      (ne_entry (hr.in1.units0) (PySem.W.ifBound_K I.kIn J c.eq c.fn (wpAny_mono (run_eq (Q := fun z H2 => ∃ b, z = V.bl b ∧ Q (.bl (!b)) H2) F hb hr.in1 rfl I ry hsp') (fun r s' q => ?_) fun _ _ z => z)))))))
    obtain ⟨b, H', rfl, I', b', e', q⟩ := q
    cases e'
    exact ⟨b, rfl, wpAny_pure ⟨.bool (!b), rfl, .bl (!b), H', I', rfl, q⟩⟩
  show wpAny (model X.prog X.w) X.A (richCompare .NotEq (.ref a) u) (EP X pins σ Q) X.xe s
  simp only [richCompare, cmpInfo_NotEq, oneThing_ref]
  refine wpAny_holding (wpAny_bind (wpAny_cRoomFor hr.units0 (wpAny_bind (J.type.here (wpAny_bind (lk.here ?_))))))
  split
  · rename_i q
    have no : PySem.W.subIn X.K tb (.ref C) = some false := by
      rcases Bool.or_eq_true_iff.mp nf with e | e
      · rw [beq_iff_eq.mp e] at q
        simp at q
      · exact beq_iff_eq.mp e
    refine wpAny_bind ((PySem.W.looks_subIn I.kIn no).here ?_)
    simp only [Bool.false_eq_true, if_false]
    refine wpAny_bind (wpAny_mono one (fun r s' z => ?_) fun _ _ e => e)
    obtain ⟨w, rfl, z⟩ := z
    exact wpAny_pure z
  · refine wpAny_bind (wpAny_pure ?_)
    simp only [Bool.false_eq_true, if_false]
    refine wpAny_bind (wpAny_mono one (fun r s' z => ?_) fun _ _ e => e)
    obtain ⟨w, rfl, z⟩ := z
    exact wpAny_pure z
end
end OwnQ
/-! ### x == y, y of a class with its own __eq__, x data: x's kind declines -/
namespace RevQ
open PySem PySem.Spec PyProof.Rows L2 Evl Rep Dat OwnQ
section
open AutoSeq1 (wpAny_loadPart')
open MeetsSeq MeetsSeq2 MeetsSeq3 SeqRoads2
theorem int_dec (b : Int) (u : Tok) (a C dx : Addr) : Meets (Builtin.«int.__eq__» ⟨[.int b u, .ref a], []⟩) (fun _ R s => s.heap.get? a = some (PySem.W.instObj C dx) ∧ R (.ok (.ret .notImplemented)) s) :=
  .of_wp fun prog w A R s h => by
    obtain ⟨hp, g, d, tk, os⟩ := s
    obtain ⟨ha, h⟩ := h
    unfold PySem.W.instObj at ha
    wp_walk using wpAny_loadPart' ha, wpAny_load ha
    exact ⟨_, rfl, h⟩
theorem bool_dec (b : Bool) (a C dx : Addr) : Meets (Builtin.«int.__eq__» ⟨[.bool b, .ref a], []⟩) (fun _ R s => s.heap.get? a = some (PySem.W.instObj C dx) ∧ R (.ok (.ret .notImplemented)) s) :=
  .of_wp fun prog w A R s h => by
    obtain ⟨hp, g, d, tk, os⟩ := s
    obtain ⟨ha, h⟩ := h
    unfold PySem.W.instObj at ha
    wp_walk using wpAny_loadPart' ha, wpAny_load ha
    exact ⟨_, rfl, h⟩
theorem str_dec (b : Str) (u : Tok) (a C dx : Addr) : Meets (Builtin.«str.__eq__» ⟨[.str b u, .ref a], []⟩) (fun _ R s => s.heap.get? a = some (PySem.W.instObj C dx) ∧ R (.ok (.ret .notImplemented)) s) :=
  .of_wp fun prog w A R s h => by
    obtain ⟨hp, g, d, tk, os⟩ := s
    obtain ⟨ha, h⟩ := h
    unfold PySem.W.instObj at ha
    wp_walk using wpAny_loadPart' ha, wpAny_load ha
    exact ⟨_, rfl, h⟩
end
theorem list_dec {M : Model} {A : Around} {l a : Addr} {s : Shared} {Q : Fin → Shared → Prop} {E : Value → Shared → Prop} (lk : PySem.W.Looks M s.heap (isInstance (.ref a) (.type "list")) false) (h : Q (.done (.ret .notImplemented)) s) : wpAny M A (Builtin.«list.__eq__» ⟨[.ref l, .ref a], []⟩) Q E s := by
  refine wpAny_bind (wpAny_pure ?_)
  dsimp only
  refine wpAny_bind (lk.here ?_)
  exact wpAny_pure h
theorem tup_dec {M : Model} {A : Around} {l a : Addr} {s : Shared} {Q : Fin → Shared → Prop} {E : Value → Shared → Prop} (lk : PySem.W.Looks M s.heap (isInstance (.ref a) (.type "tuple")) false) (h : Q (.done (.ret .notImplemented)) s) : wpAny M A (Builtin.«tuple.__eq__» ⟨[.ref l, .ref a], []⟩) Q E s := by
  refine wpAny_bind (wpAny_pure ?_)
  dsimp only
  refine wpAny_bind (lk.here ?_)
  exact wpAny_pure h
theorem dict_dec {M : Model} {A : Around} {l a : Addr} {s : Shared} {Q : Fin → Shared → Prop} {E : Value → Shared → Prop} (lk : PySem.W.Looks M s.heap (isInstance (.ref a) (.type "dict")) false) (h : Q (.done (.ret .notImplemented)) s) : wpAny M A (Builtin.«dict.__eq__» ⟨[.ref l, .ref a], []⟩) Q E s := by
  have e : Builtin.Dict.dictSlotArgs "__eq__" ⟨[.ref l, .ref a], []⟩ = pure (.ref l, .ref a) := by kernel_rfl
  refine wpAny_bind (wpAny_of_eq e ?_)
  dsimp only
  refine wpAny_bind (lk.here ?_)
  refine wpAny_bind (wpAny_rule ?_)
  exact wpAny_pure h
section
open MeetsSeq MeetsSeq2 MeetsSeq3 SeqRoads2
variable {X : Cx} {n : Nat} {f C : Addr} {fd : FuncData} {ps : List Str} {sp : Sp}
/-- x == y, x data, y of the class -/
def rRevEq (K : PySem.W.Frag) (C : Addr) (sp : Sp) : R2 := fun x y H Q => ∃ d a dx fs, Sw K H x d ∧ y = .ref a ∧ H a = some (.ins C dx fs) ∧ sp [.ref a, x] H (fun v H' => ∃ b, v = .bl b ∧ Q (.bl b) H') E0
theorem op_revEq (c : QC X.K C f) (F : FnOk X.prog X.w X.K X.mg X.base CX0 n f fd ps sp) (hb : Binds X.K fd ps []) (hr : Room (n + 1) X.A) : OpR X (compareOp .Eq) (rRevEq X.K C sp) := by
  intro pins s σ H x y v u Q I rx ry h
  obtain ⟨d, a, dx, fs, hx, rfl, ha, hsp⟩ := h
  cases ry
  obtain ⟨mA, OO, _⟩ := ins_get I.hok ha
  have ob : s.heap.get? a = some (PySem.W.instObj C dx) := OO.1
  obtain ⟨od, J, _⟩ := OO.look
  have lkx := looks_sw (M := model X.prog X.w) I rx hx
  have isNo : PySem.W.Looks (model X.prog X.w) s.heap (isInstance (.ref a) (.type (tyD d))) false := J.type.andThen (PySem.W.looks_subIn I.kIn (c.sb d))
  -- the reflected one
  have back : wpAny (model X.prog X.w) X.A (tryCompare (.ref a) "__eq__" v) (fun r s' => ∃ w, r = some w ∧ EP X pins σ Q w s') X.xe s := by
    unfold tryCompare
    refine wpAny_bind (PySem.W.ifBound_K I.kIn J c.eq c.fn (wpAny_mono (run_eq F hb (hr.mono (Nat.le_succ n)) rfl I rx hsp) (fun r s' q => ?_) fun _ _ z => z))
    obtain ⟨b, H', rfl, I', q⟩ := q
    exact wpAny_pure ⟨.bool b, rfl, .bl b, H', I', rfl, q⟩
  have first : wpAny (model X.prog X.w) X.A (tryCompare v "__eq__" (.ref a)) (fun r s' => r = none ∧ s' = s) X.xe s := by
    cases hx with
    | non =>
      cases rx
      exact wpAny_tryCompare_declines (show s.TypeIs .none "NoneType" from rfl) PySem.F.slot_NoneType_eq (call_gives PySem.F.slot_NoneType_eq rfl PySem.F.entry_NoneType_eq (PySem.F.args_NoneType_eq_2 _ _) (SeqAt.NoneType___eq___none_ref_0 a) ⟨rfl, rfl, rfl⟩)
    | bl b =>
      cases rx
      exact wpAny_tryCompare_declines (show s.TypeIs (.bool b) "bool" from rfl) PySem.F.slot_bool_eq (call_meets PySem.F.slot_bool_eq rfl PySem.F.entry_int_eq (PySem.F.args_int_eq_2 _ _) (bool_dec b a C dx) ⟨ob, rfl, rfl, rfl⟩)
    | int i =>
      obtain ⟨t, rfl⟩ := rx
      exact wpAny_tryCompare_declines (typeIs_int s i t) PySem.F.slot_int_eq (call_meets PySem.F.slot_int_eq (typeIs_int s i t) PySem.F.entry_int_eq (PySem.F.args_int_eq_2 _ _) (int_dec i t a C dx) ⟨ob, rfl, rfl, rfl⟩)
    | str z =>
      obtain ⟨t, rfl⟩ := rx
      exact wpAny_tryCompare_declines (typeIs_str s z t) PySem.F.slot_str_eq (call_meets PySem.F.slot_str_eq (typeIs_str s z t) PySem.F.entry_str_eq (PySem.F.args_str_eq_2 _ _) (str_dec z t a C dx) ⟨ob, rfl, rfl, rfl⟩)
    | lst hs _ =>
      cases rx
      obtain ⟨its, _, ht, _⟩ := I.list hs
      exact wpAny_tryCompare_declines ht.isList.typeIs PySem.F.slot_list_eq (GQ.call_here PySem.F.slot_list_eq ht.isList.typeIs PySem.F.entry_list_eq (PySem.F.args_list_eq_2 _ _) (list_dec isNo ⟨rfl, rfl, rfl⟩))
    | tup hs _ =>
      cases rx
      obtain ⟨its, _, ht, _⟩ := I.tuple hs
      exact wpAny_tryCompare_declines ht.typeIs PySem.F.slot_tuple_eq (GQ.call_here PySem.F.slot_tuple_eq ht.typeIs PySem.F.entry_tuple_eq (PySem.F.args_tuple_eq_2 _ _) (tup_dec isNo ⟨rfl, rfl, rfl⟩))
    | dct hs _ =>
      cases rx
      obtain ⟨_, _, vs, _, o, es, ep, h1, h2, _⟩ := dk_of I.hok hs
      exact wpAny_tryCompare_declines ⟨o, h1, h2.1⟩ PySem.F.slot_dict_eq (GQ.call_here PySem.F.slot_dict_eq ⟨o, h1, h2.1⟩ PySem.F.entry_dict_eq (PySem.F.args_dict_eq_2 _ _) (dict_dec isNo ⟨rfl, rfl, rfl⟩))
  show wpAny (model X.prog X.w) X.A (richCompare .Eq v (.ref a)) (EP X pins σ Q) X.xe s
  have one : oneThing? .Eq v (.ref a) = none := by cases v <;> rfl
  simp only [richCompare, cmpInfo_Eq, one]
  refine wpAny_holding (wpAny_bind (wpAny_cRoomFor hr.units0 (wpAny_bind (lkx.here (wpAny_bind (J.type.here ?_))))))
  split
  · refine wpAny_bind ((PySem.W.looks_subIn I.kIn (c.sb d)).here ?_)
    simp only [Bool.false_eq_true, if_false, Bool.not_false, if_true]
    refine wpAny_bind (wpAny_mono first (fun r s1 z => ?_) fun _ _ e => e)
    obtain ⟨z1, z2⟩ := z
    subst z1
    subst z2
    dsimp only
    refine wpAny_bind (wpAny_mono back (fun r s1 z => ?_) fun _ _ e => e)
    obtain ⟨w, rfl, z⟩ := z
    exact wpAny_pure z
  · rename_i q
    exact absurd (by simp) q
end
end RevQ
/-! ### what makes a book: a general word -/
namespace God
open PySem PySem.Spec PyProof.Rows L2 Evl Gen Ent Rep Dat Nm Er Chk Gu Deed Pts Hear Lst Bk Cau EvD BadE EntR Lis Prd NmP Bmk EqB
def InB (hs ss : List Str) (e : En) : Prop := (e.1 ∈ hs ∧ e.2.2 ∈ hs) ∨ (e.1 ∈ ss ∧ e.2.2 ∈ ss)
structure GoodP (hs ss : List Str) (ds rs : List En) (ls : List Str) : Prop where
  h : 1 ≤ hs.length ∧ hs.length ≤ 3
  s : 1 ≤ ss.length ∧ ss.length ≤ 4
  d : ds.length ≤ 10
  r : rs.length ≤ 12
  l : ls.length ≤ 4
  nh : ∀ x ∈ hs, nmS x = true
  ns : ∀ x ∈ ss, nmS x = true
  nl : ∀ x ∈ ls, nmS x = true
  dh : hs.Nodup
  dst : ss.Nodup
  dl : ls.Nodup
  ap : ∀ x ∈ ss, x ∉ hs
  od : ∀ e ∈ ds, (∀ z, e.2.1 = some z → nmS z = true) ∧ InB hs ss e
  orr : ∀ e ∈ rs, (∃ z, e.2.1 = some z ∧ nmS z = true) ∧ InB hs ss e
  dr : (rs.map key).Nodup
theorem names_ok {tk l : List Str} (hn : ∀ x ∈ l, nmS x = true) (ht : ∀ x ∈ l, x ∉ tk) (nd : l.Nodup) : firstBad (l.map PyData.str).length (badN tk (l.map PyData.str)) = none := by
  refine first_none fun j hj => ?_
  rw [List.length_map] at hj
  unfold badN
  rw [List.getElem?_map, List.getElem?_eq_getElem hj]
  have m := List.getElem_mem hj
  have e : ((l.map PyData.str).take j).map txt = l.take j := by rw [← List.map_take]; exact txts _
  show (!nmS l[j] || (decide (l[j] ∈ tk) || decide (l[j] ∈ ((l.map PyData.str).take j).map txt))) = false
  have nj : l[j] ∉ l.take j := by
    have := nodup_not (f := id) (l := l) (j := j) (e := l[j]) (by simpa using nd) (List.getElem?_eq_getElem hj)
    simpa using this
  rw [hn _ m, e, decide_eq_false (ht _ m), decide_eq_false nj]
  rfl
theorem many_ok {l : List PyData} {a b : Nat} (h1 : a ≤ l.length) (h2 : l.length ≤ b) : manyE (.list l) (a : Int) (b : Int) = none := by
  unfold manyE
  have : many (.list l) (a : Int) (b : Int) = true := by
    show (decide ((a : Int) ≤ (l.length : Nat)) && decide (((l.length : Nat) : Int) ≤ (b : Int))) = true
    simp
    omega
  rw [this]
  rfl
theorem item_ok {ds : List PyData} {bad : Nat → Bool} (h : firstBad ds.length bad = none) : itemE ds bad = none := by
  unfold itemE
  rw [h]
theorem deedB {hs ss : List Str} {e : En} (h1 : ∀ z, e.2.1 = some z → nmS z = true) (h2 : InB hs ss e) : isDeed hs ss (enD e) = true := by
  show (sndOk (svD e.2.1) && ((sIn hs (.str e.1) && sIn hs (.str e.2.2)) || (sIn ss (.str e.1) && sIn ss (.str e.2.2)))) = true
  have a : sndOk (svD e.2.1) = true := by
    cases hz : e.2.1 with
    | none => rfl
    | some z => exact h1 z hz
  rw [a, Bool.true_and]
  rcases h2 with ⟨x, y⟩ | ⟨x, y⟩
  · rw [in_dec x, in_dec y]
    rfl
  · rw [in_dec x, in_dec y]
    simp
theorem hearB {hs ss : List Str} {e : En} (h1 : ∃ z, e.2.1 = some z ∧ nmS z = true) (h2 : InB hs ss e) : isHear hs ss (enD e) = true ∧ Lst.keyH (enD e) = key e := by
  obtain ⟨z, hz, nz⟩ := h1
  have d := deedB (hs := hs) (ss := ss) (e := e) (fun z' q => by rw [hz] at q; cases q; exact nz) h2
  refine ⟨?_, ?_⟩
  · unfold isHear
    rw [d]
    unfold enD
    rw [hz]
    rfl
  · unfold enD key
    rw [hz]
    rfl
section
variable {hs ss : List Str} {ds rs : List En} {ls : List Str}
theorem good_none (g : GoodP hs ss ds rs ls) : bookErr (strsD hs) (strsD ss) (.list (ds.map enD)) (.list (rs.map enD)) (strsD ls) = none := by
  have e1 : manyE (strsD hs) 1 3 = none := many_ok (a := 1) (b := 3) (by rw [List.length_map]; exact g.h.1) (by rw [List.length_map]; exact g.h.2)
  have e2 : itemE (items (strsD hs)) (badN [] (items (strsD hs))) = none := item_ok (names_ok g.nh (fun x _ => by simp) g.dh)
  have e3 : manyE (strsD ss) 1 4 = none := many_ok (a := 1) (b := 4) (by rw [List.length_map]; exact g.s.1) (by rw [List.length_map]; exact g.s.2)
  have t1 : (items (strsD hs)).map txt = hs := txts hs
  have t2 : (items (strsD ss)).map txt = ss := txts ss
  have e4 : itemE (items (strsD ss)) (badN hs (items (strsD ss))) = none := item_ok (names_ok g.ns g.ap g.dst)
  have e5 : manyE (.list (ds.map enD)) 0 10 = none := many_ok (a := 0) (b := 10) (Nat.zero_le _) (by rw [List.length_map]; exact g.d)
  have e6 : itemE (items (.list (ds.map enD))) (badD hs ss (items (.list (ds.map enD)))) = none := item_ok (first_none fun j hj => by
    have hj' : j < ds.length := by simpa [items] using hj
    show badD hs ss (ds.map enD) j = false
    unfold badD
    rw [List.getElem?_map, List.getElem?_eq_getElem hj']
    have q := g.od _ (List.getElem_mem hj')
    show (!isDeed hs ss (enD ds[j])) = false
    rw [deedB q.1 q.2]
    rfl)
  have e7 : manyE (.list (rs.map enD)) 0 12 = none := many_ok (a := 0) (b := 12) (Nat.zero_le _) (by rw [List.length_map]; exact g.r)
  have e8 : itemE (items (.list (rs.map enD))) (badH hs ss (items (.list (rs.map enD)))) = none := item_ok (first_none fun j hj => by
    have hj' : j < rs.length := by simpa [items] using hj
    show badH hs ss (rs.map enD) j = false
    unfold badH
    rw [List.getElem?_map, List.getElem?_eq_getElem hj']
    have q := g.orr _ (List.getElem_mem hj')
    have q2 := hearB (hs := hs) (ss := ss) q.1 q.2
    have km : (List.take j (rs.map enD)).map Lst.keyH = (rs.take j).map key := by
      rw [← List.map_take, List.map_map]
      apply List.map_congr_left
      intro e he
      have r := g.orr e (List.mem_of_mem_take he)
      exact (hearB (hs := hs) (ss := ss) r.1 r.2).2
    show (!isHear hs ss (enD rs[j]) || decide (Lst.keyH (enD rs[j]) ∈ (List.take j (rs.map enD)).map Lst.keyH)) = false
    rw [q2.1, q2.2, km, decide_eq_false (nodup_not g.dr (List.getElem?_eq_getElem hj'))]
    rfl)
  have e9 : manyE (strsD ls) 0 4 = none := many_ok (a := 0) (b := 4) (Nat.zero_le _) (by rw [List.length_map]; exact g.l)
  have e0 : itemE (items (strsD ls)) (badN [] (items (strsD ls))) = none := item_ok (names_ok g.nl (fun x _ => by simp) g.dl)
  unfold bookErr
  rw [t1, t2, e1, e2, e3, e4, e5, e6, e7, e8, e9, e0]
  rfl
theorem nmFit {z : Str} (h : nmS z = true) : Fit (.str z) := fun z' e => by
  cases e
  unfold nmS at h
  simp only [Bool.and_eq_true, decide_eq_true_eq] at h
  omega
theorem fitNs {l : List Str} (h : ∀ x ∈ l, nmS x = true) : FitN (strsD l) := fun x hx => by
  obtain ⟨s, hs, rfl⟩ := List.mem_map.mp hx
  exact nmFit (h s hs)
theorem inNm (g : GoodP hs ss ds rs ls) {e : En} (h : InB hs ss e) : nmS e.1 = true ∧ nmS e.2.2 = true := by
  rcases h with ⟨x, y⟩ | ⟨x, y⟩
  · exact ⟨g.nh _ x, g.nh _ y⟩
  · exact ⟨g.ns _ x, g.ns _ y⟩
theorem fitEn (g : GoodP hs ss ds rs ls) {e : En} (h1 : ∀ z, e.2.1 = some z → nmS z = true) (h2 : InB hs ss e) : FitT (enD e) := fun xs hx x m => by
  have hx' : [PyData.str e.1, svD e.2.1, .str e.2.2] = xs := PyData.tuple.inj hx
  subst hx'
  have q := inNm g h2
  simp only [List.mem_cons, List.not_mem_nil, or_false] at m
  rcases m with rfl | rfl | rfl
  · exact nmFit q.1
  · cases hz : e.2.1 with
    | none => exact fun z e => by cases e
    | some z => exact nmFit (h1 z hz)
  · exact nmFit q.2
theorem good_fit (g : GoodP hs ss ds rs ls) : Fit5 (strsD hs) (strsD ss) (.list (ds.map enD)) (.list (rs.map enD)) (strsD ls) :=
  ⟨fitNs g.nh, fitNs g.ns, fun x hx => by
    obtain ⟨e, he, rfl⟩ := List.mem_map.mp hx
    exact fitEn g (g.od e he).1 (g.od e he).2, fun x hx => by
    obtain ⟨e, he, rfl⟩ := List.mem_map.mp hx
    obtain ⟨⟨z, hz, nz⟩, i⟩ := g.orr e he
    exact fitEn g (fun z' q => by rw [hz] at q; cases q; exact nz) i, fitNs g.nl⟩
/-- data that can be compared -/
theorem layAll {l : List PyData} (h : ∀ d ∈ l, d.canLay0 = true ∧ d.depth ≤ 1) : PyData.canLayAll0 l = true ∧ PyData.depthAll l ≤ 1 := by
  induction l with
  | nil => exact ⟨by simp [PyData.canLayAll0], by simp [PyData.depthAll]⟩
  | cons d l ih =>
    have a := h d (List.mem_cons_self ..)
    have b := ih fun z m => h z (List.mem_cons_of_mem _ m)
    refine ⟨by simp only [PyData.canLayAll0, a.1, b.1]; rfl, ?_⟩
    simp only [PyData.depthAll]
    omega
theorem shp_of {l : List PyData} (h : ∀ d ∈ l, d.canLay0 = true ∧ d.depth ≤ 1) : SeqAt.shaped (.list l) = true := by
  have q := layAll h
  show (PyData.canLay0 (.list l) && decide (PyData.depth (.list l) ≤ 64)) = true
  rw [Bool.and_eq_true]
  refine ⟨by simp only [PyData.canLay0]; exact q.1, decide_eq_true ?_⟩
  simp only [PyData.depth]
  omega
theorem shpN {l : List Str} (h : ∀ x ∈ l, nmS x = true) : SeqAt.shaped (strsD l) = true := shp_of fun d m => by
  obtain ⟨s, hs, rfl⟩ := List.mem_map.mp m
  exact ⟨by simp only [PyData.canLay0]; exact nm_ok (h s hs), by simp [PyData.depth]⟩
theorem shpE {l : List En} (h : ∀ e ∈ l, nmS e.1 = true ∧ nmS e.2.2 = true ∧ ∀ z, e.2.1 = some z → nmS z = true) : SeqAt.shaped (.list (l.map enD)) = true := shp_of fun d m => by
  obtain ⟨e, he, rfl⟩ := List.mem_map.mp m
  obtain ⟨a, b, c⟩ := h e he
  unfold enD
  cases hz : e.2.1 with
  | none => exact ⟨by simp [PyData.canLay0, PyData.canLayAll0, svD, nm_ok a, nm_ok b], by simp [PyData.depth, PyData.depthAll, svD]⟩
  | some z => exact ⟨by simp [PyData.canLay0, PyData.canLayAll0, svD, nm_ok a, nm_ok b, nm_ok (c z hz)], by simp [PyData.depth, PyData.depthAll, svD]⟩
theorem good_shp (g : GoodP hs ss ds rs ls) : shp (strsD hs) ∧ shp (strsD ss) ∧ shp (.list (ds.map enD)) ∧ shp (.list (rs.map enD)) ∧ shp (strsD ls) :=
  ⟨shpN g.nh, shpN g.ns, shpE fun e he => ⟨(inNm g (g.od e he).2).1, (inNm g (g.od e he).2).2, (g.od e he).1⟩, shpE fun e he => ⟨(inNm g (g.orr e he).2).1, (inNm g (g.orr e he).2).2, fun z q => by
    obtain ⟨⟨z', hz, nz⟩, _⟩ := g.orr e he
    rw [hz] at q
    cases q
    exact nz⟩, shpN g.nl⟩
end
end God
/-! ### the other books' data -/
namespace Oth
open PySem PySem.Spec PyProof.Rows L2 Evl Gen Ent Rep Dat Nm Er Chk Gu Deed Pts Hear Lst Bk Cau EvD BadE EntR Lis Prd NmP Bmk EqB God
def zz : Str := "zz"
theorem nd_rev {α : Type} {l : List α} (h : l.Nodup) : l.reverse.Nodup := List.pairwise_reverse.mpr (h.imp fun q => Ne.symm q)
theorem zz_nm : nmS zz = true := by decide +kernel
theorem hsF : ∀ l ∈ [allH.take 1, allH.take 2, allH.take 3], (decide (1 ≤ l.length) && (decide (l.length ≤ 3) && (l.all nmS && (decide l.Nodup && !decide (zz ∈ l))))) = true := by decide +kernel
theorem ssF : ∀ l ∈ [allS.take 1, allS.take 2, allS.take 3, allS.take 4], (decide (1 ≤ l.length) && (decide (l.length ≤ 4) && (l.all nmS && (decide l.Nodup && (!decide (zz ∈ l) && l.all fun x => !decide (x ∈ allH)))))) = true := by decide +kernel
theorem lsF : ∀ l ∈ allL, (decide (l.length ≤ 2) && (l.all nmS && (decide l.Nodup && !decide (zz ∈ l)))) = true := by decide +kernel
section
variable {w h : Nat} {D : PartsD}
theorem goodD (o : PartsOk w h D) (hw : w ≤ 3) (hh : h ≤ 4) : GoodP D.hs D.ss D.ds D.rs D.ls ∧ zz ∉ D.hs ∧ zz ∉ D.ss ∧ zz ∉ D.ls ∧ D.ls.length ≤ 2 := by
  have a := hsF _ (hs_in o hw)
  have b := ssF _ (ss_in o hh)
  have c := lsF _ o.ls
  simp only [Bool.and_eq_true, Bool.not_eq_true', decide_eq_true_eq, decide_eq_false_iff_not, List.all_eq_true] at a b c
  have inH : ∀ x ∈ D.hs, x ∈ allH := fun x m => by
    obtain ⟨k, _, _, q⟩ := o.hs
    rw [q] at m
    exact List.mem_of_mem_take m
  have snd : ∀ {z : Option Str}, (z = some "ask" ∨ z = some "mend") → ∃ t, z = some t ∧ nmS t = true := fun {z} q => by
    rcases q with q | q <;> rw [q]
    · exact ⟨_, rfl, ask_nm.1⟩
    · exact ⟨_, rfl, ask_nm.2⟩
  refine ⟨⟨⟨a.1, a.2.1⟩, ⟨b.1, b.2.1⟩, by have := o.d1; omega, by have := o.r1; omega, by omega, a.2.2.1, b.2.2.1, c.2.1, a.2.2.2.1, b.2.2.2.1, c.2.2.1, fun x m n => b.2.2.2.2.2 x m (inH x n), fun e m => ⟨fun z q => ?_, (o.ds e m).2⟩, fun e m => ⟨snd (o.rs e m).1, (o.rs e m).2⟩, o.nd⟩, a.2.2.2.2, b.2.2.2.2.1, c.2.2.2, c.1⟩
  rcases (o.ds e m).1 with r | r
  · rw [q] at r
    cases r
  · obtain ⟨t, e1, e2⟩ := snd r
    rw [q] at e1
    cases e1
    exact e2
end
section
variable {hs ss : List Str} {ds rs : List En} {ls : List Str}
theorem inB_h {e : En} (h : InB hs ss e) {x : Str} : InB (hs ++ [x]) ss e := h.imp (fun q => ⟨List.mem_append_left _ q.1, List.mem_append_left _ q.2⟩) id
theorem inB_s {e : En} (h : InB hs ss e) {x : Str} : InB hs (ss ++ [x]) e := h.imp id (fun q => ⟨List.mem_append_left _ q.1, List.mem_append_left _ q.2⟩)
theorem nd_one {l : List Str} {x : Str} (n : l.Nodup) (h : x ∉ l) : (l ++ [x]).Nodup := List.nodup_append.mpr ⟨n, by simp, fun a ha b hb => by
  obtain rfl : b = x := by simpa using hb
  exact fun z => h (by rw [← z]; exact ha)⟩
theorem mem_one {l : List Str} {x y : Str} (h : y ∈ l ++ [x]) : y ∈ l ∨ y = x := by simpa using h
theorem v0 (g : GoodP hs ss ds rs ls) (n : hs.length ≤ 2) (z1 : zz ∉ hs) (z2 : zz ∉ ss) : GoodP (hs ++ [zz]) ss ds rs ls :=
  ⟨by rw [List.length_append]; show 1 ≤ _ + 1 ∧ _ + 1 ≤ 3; omega, g.s, g.d, g.r, g.l, fun x m => (mem_one m).elim (g.nh x) (fun e => by rw [e]; exact zz_nm), g.ns, g.nl, nd_one g.dh z1, g.dst, g.dl,
    fun x m n => (mem_one n).elim (g.ap x m) (fun e => z2 (by rw [← e]; exact m)), fun e m => ⟨(g.od e m).1, inB_h (g.od e m).2⟩, fun e m => ⟨(g.orr e m).1, inB_h (g.orr e m).2⟩, g.dr⟩
theorem v1 (g : GoodP hs ss ds rs ls) (n : ss.length ≤ 3) (z1 : zz ∉ hs) (z2 : zz ∉ ss) : GoodP hs (ss ++ [zz]) ds rs ls :=
  ⟨g.h, by rw [List.length_append]; show 1 ≤ _ + 1 ∧ _ + 1 ≤ 4; omega, g.d, g.r, g.l, g.nh, fun x m => (mem_one m).elim (g.ns x) (fun e => by rw [e]; exact zz_nm), g.nl, g.dh, nd_one g.dst z2, g.dl,
    fun x m => (mem_one m).elim (g.ap x) (fun e => by rw [e]; exact z1), fun e m => ⟨(g.od e m).1, inB_s (g.od e m).2⟩, fun e m => ⟨(g.orr e m).1, inB_s (g.orr e m).2⟩, g.dr⟩
theorem v2 (g : GoodP hs ss ds rs ls) (n : ds.length ≤ 5) {x : Str} (hx : x ∈ ss) : GoodP hs ss (ds ++ [(x, some zz, x)]) rs ls :=
  ⟨g.h, g.s, by rw [List.length_append]; show _ + 1 ≤ 10; omega, g.r, g.l, g.nh, g.ns, g.nl, g.dh, g.dst, g.dl, g.ap, fun e m => by
    rcases List.mem_append.mp m with m | m
    · exact g.od e m
    · obtain rfl : e = (x, some zz, x) := by simpa using m
      exact ⟨fun z q => by cases q; exact zz_nm, .inr ⟨hx, hx⟩⟩, g.orr, g.dr⟩
theorem v3 (g : GoodP hs ss ds rs ls) (n : rs.length ≤ 7) {x : Str} (hx : x ∈ ss) (hk : ∀ e ∈ rs, e.2.1 ≠ some zz) : GoodP hs ss ds (rs ++ [(x, some zz, x)]) ls :=
  ⟨g.h, g.s, g.d, by rw [List.length_append]; show _ + 1 ≤ 12; omega, g.l, g.nh, g.ns, g.nl, g.dh, g.dst, g.dl, g.ap, g.od, fun e m => by
    rcases List.mem_append.mp m with m | m
    · exact g.orr e m
    · obtain rfl : e = (x, some zz, x) := by simpa using m
      exact ⟨⟨zz, rfl, zz_nm⟩, .inr ⟨hx, hx⟩⟩, by
    rw [List.map_append]
    refine List.nodup_append.mpr ⟨g.dr, by simp, fun a ha b hb => ?_⟩
    obtain ⟨e, he, rfl⟩ := List.mem_map.mp ha
    obtain rfl : b = (x, some zz) := by simpa [key] using hb
    intro z
    exact hk e he (congrArg Prod.snd z)⟩
theorem v4 (g : GoodP hs ss ds rs ls) (n : ls.length ≤ 2) (z1 : zz ∉ ls) : GoodP hs ss ds rs (ls ++ [zz]) :=
  ⟨g.h, g.s, g.d, g.r, by rw [List.length_append]; show _ + 1 ≤ 4; omega, g.nh, g.ns, fun x m => (mem_one m).elim (g.nl x) (fun e => by rw [e]; exact zz_nm), g.dh, g.dst, nd_one g.dl z1, g.ap, g.od, g.orr, g.dr⟩
theorem inB_rh {e : En} (h : InB hs ss e) : InB hs.reverse ss e := h.imp (fun q => ⟨List.mem_reverse.mpr q.1, List.mem_reverse.mpr q.2⟩) id
theorem inB_rs {e : En} (h : InB hs ss e) : InB hs ss.reverse e := h.imp id (fun q => ⟨List.mem_reverse.mpr q.1, List.mem_reverse.mpr q.2⟩)
theorem r0 (g : GoodP hs ss ds rs ls) : GoodP hs.reverse ss ds rs ls :=
  ⟨by rw [List.length_reverse]; exact g.h, g.s, g.d, g.r, g.l, fun x m => g.nh x (List.mem_reverse.mp m), g.ns, g.nl, nd_rev g.dh, g.dst, g.dl, fun x m n => g.ap x m (List.mem_reverse.mp n), fun e m => ⟨(g.od e m).1, inB_rh (g.od e m).2⟩, fun e m => ⟨(g.orr e m).1, inB_rh (g.orr e m).2⟩, g.dr⟩
theorem r1 (g : GoodP hs ss ds rs ls) : GoodP hs ss.reverse ds rs ls :=
  ⟨g.h, by rw [List.length_reverse]; exact g.s, g.d, g.r, g.l, g.nh, fun x m => g.ns x (List.mem_reverse.mp m), g.nl, g.dh, nd_rev g.dst, g.dl, fun x m => g.ap x (List.mem_reverse.mp m), fun e m => ⟨(g.od e m).1, inB_rs (g.od e m).2⟩, fun e m => ⟨(g.orr e m).1, inB_rs (g.orr e m).2⟩, g.dr⟩
theorem r2 (g : GoodP hs ss ds rs ls) : GoodP hs ss ds.reverse rs ls :=
  ⟨g.h, g.s, by rw [List.length_reverse]; exact g.d, g.r, g.l, g.nh, g.ns, g.nl, g.dh, g.dst, g.dl, g.ap, fun e m => g.od e (List.mem_reverse.mp m), g.orr, g.dr⟩
theorem r3 (g : GoodP hs ss ds rs ls) : GoodP hs ss ds rs.reverse ls :=
  ⟨g.h, g.s, g.d, by rw [List.length_reverse]; exact g.r, g.l, g.nh, g.ns, g.nl, g.dh, g.dst, g.dl, g.ap, g.od, fun e m => g.orr e (List.mem_reverse.mp m), by rw [List.map_reverse]; exact nd_rev g.dr⟩
theorem r4 (g : GoodP hs ss ds rs ls) : GoodP hs ss ds rs ls.reverse :=
  ⟨g.h, g.s, g.d, g.r, by rw [List.length_reverse]; exact g.l, g.nh, g.ns, fun x m => g.nl x (List.mem_reverse.mp m), g.dh, g.dst, nd_rev g.dl, g.ap, g.od, g.orr, g.dr⟩
end
end Oth
/-! ### what evaluates to data that do not hold one list (fl), which grows meanwhile -/
namespace ExD
open PySem PySem.Spec PyProof.Rows L2 Evl Gen Ent Rep Dat Nm Er Chk Gu Deed Pts Hear Lst Bk Cau EvD BadE EntR Lis Prd NmP NmR
/-- the heap without fl -/
def dl (H : Hp) (fl : Addr) : Hp := fun b => if b = fl then none else H b
theorem dl_ne {H : Hp} {fl b : Addr} (h : b ≠ fl) : dl H fl b = H b := if_neg h
theorem dl_same {H : Hp} {fl : Addr} : dl H fl fl = none := if_pos rfl
theorem dl_up {H : Hp} {fl : Addr} : Ex (dl H fl) H := fun b o h => by
  by_cases e : b = fl
  · rw [e, dl_same] at h
    cases h
  · rw [dl_ne e] at h
    exact h
theorem dl_ex {H H' : Hp} {fl : Addr} (e : Ex H H') : Ex (dl H fl) (dl H' fl) := fun b o h => by
  by_cases q : b = fl
  · rw [q, dl_same] at h
    cases h
  · rw [dl_ne q] at h ⊢
    exact e b o h
theorem dl_old {A H : Hp} {fl : Addr} (e : Ex A H) (n : A fl = none) : Ex A (dl H fl) := fun b o h => by
  rw [dl_ne (ne_of_none h n)]
  exact e b o h
theorem dl_grow {H : Hp} {fl : Addr} {o : HO} : dl (upd H fl o) fl = dl H fl := by
  funext b
  by_cases q : b = fl
  · rw [q, dl_same, dl_same]
  · rw [dl_ne q, dl_ne q, upd_ne q]
theorem dl_new {H : Hp} {fl p : Addr} {o u : HO} (hf : H fl = some u) (np : H p = none) : dl (upd H p o) fl p = some o := by
  rw [dl_ne (ne_of_none hf np).symm, upd_same]
def EX (K : PySem.W.Frag) (fl : Addr) (te : TE) (σ : L2.St) (H : Hp) (d : PyData) : Prop := ∀ H1, Ex H H1 → ∀ Q : VK, (∀ v H2, Ex H1 H2 → Sw K (dl H2 fl) v d → Q v H2) → te σ H1 Q
def EXA (K : PySem.W.Frag) (fl : Addr) (ta : TA) (σ : L2.St) (H : Hp) (ds : List PyData) : Prop := ∀ H1, Ex H H1 → ∀ Q : List V → Hp → Prop, (∀ vs H2, Ex H1 H2 → SwAll K (dl H2 fl) vs ds → Q vs H2) → ta σ H1 Q
def EXL (K : PySem.W.Frag) (fl : Addr) (te : TE) (σ : L2.St) (H : Hp) (ds : List PyData) : Prop := ∀ H1, Ex H H1 → ∀ Q : VK, (∀ p H2, Ex H1 H2 → TL K (dl H2 fl) p ds → Q (.ref p) H2) → te σ H1 Q
section
variable {K : PySem.W.Frag} {fl : Addr} {σ : L2.St} {H H' : Hp} {ta tr : TA} {te tb : TE} {v : V} {d : PyData} {ds es : List PyData} {u : HO}
theorem ex_str {s : Str} : EX K fl (tC (.str s)) σ H (.str s) := fun H1 _ Q q => q _ H1 (Ex.refl H1) (.str s)
theorem exa_nil : EXA K fl tNil σ H [] := fun H1 _ Q q => q [] H1 (Ex.refl H1) .nil
theorem exa_cons (h : EX K fl te σ H d) (r : EXA K fl tr σ H ds) : EXA K fl (tCons te tr) σ H (d :: ds) := fun H1 e Q q =>
  h H1 e _ fun v H2 e2 w => r H2 (e.trans e2) _ fun vs H3 e3 ws => q (v :: vs) H3 (e2.trans e3) (.cons (Sw.ex (dl_ex e3) _ _ w) ws)
theorem ex_lst (hf : H fl = some u) (h : EXA K fl ta σ H ds) (hz : ds.length ≤ 100000) : EXL K fl (tLst ta) σ H ds := fun H1 e Q q =>
  h H1 e _ fun vs H2 e2 w => ⟨sz_of (by rw [swAll_len w]; exact hz), fun p np => q p _ (e2.trans (Ex.new np)) ⟨vs, dl_new ((e.trans e2) _ _ hf) np, SwAll.ex (dl_ex (Ex.new np)) _ _ w⟩⟩
theorem ex_tup (hf : H fl = some u) (h : EXA K fl ta σ H ds) (hz : ds.length ≤ 100000) : EX K fl (tTup ta) σ H (.tuple ds) := fun H1 e Q q =>
  h H1 e _ fun vs H2 e2 w => ⟨sz_of (by rw [swAll_len w]; exact hz), fun p np => q _ _ (e2.trans (Ex.new np)) (.tup (SqT.of (dl_new ((e.trans e2) _ _ hf) np)) (SwAll.ex (dl_ex (Ex.new np)) _ _ w))⟩
theorem ex_of (h : EXL K fl te σ H ds) : EX K fl te σ H (.list ds) := fun H1 e Q q => h H1 e _ fun p H2 e2 w => q _ H2 e2 w.sw
theorem ex_cat (hf : H fl = some u) (h : EXL K fl te σ H ds) (h2 : EXL K fl tb σ H es) (hz : ds.length + es.length ≤ 100000) : EXL K fl (tOp rCat te tb) σ H (ds ++ es) := fun H1 e Q q =>
  h H1 e _ fun p H2 e2 ⟨xs, w1, w2⟩ => h2 H2 (e.trans e2) _ fun p2 H3 e3 ⟨ys, u1, u2⟩ =>
    ⟨p, p2, xs, ys, rfl, rfl, e3 _ _ (dl_up _ _ w1), dl_up _ _ u1, sz_of (by rw [swAll_len w2, swAll_len u2]; exact hz), fun r nr => q r _ ((e2.trans e3).trans (Ex.new nr))
      ⟨_, dl_new (((e.trans e2).trans e3) _ _ hf) nr, SwAll.ex (dl_ex (Ex.new nr)) _ _ (swAll_app (SwAll.ex (dl_ex e3) _ _ w2) u2)⟩⟩
theorem exl_var {i : Nat} {p : Addr} (hi : σ[i]? = some (some (.ref p))) (h : TL K (dl H fl) p ds) : EXL K fl (tVar i) σ H ds := fun H1 e Q q => ⟨_, hi, q p H1 (Ex.refl H1) (h.ex (dl_ex e))⟩
/-- a list among a list's items -/
theorem exl_at {n : Nat} {p a : Addr} {xs : List V} {tp ti : TE} (hi : Ev tp σ H (.ref p)) (hp : dl H fl p = some (.lst xs)) (hti : Ev ti σ H (.int (n : Int))) (hx : xs[n]? = some (.ref a)) (ht : TL K (dl H fl) a es) : EXL K fl (tOp (rIxL K) tp ti) σ H es := fun H1 e Q q =>
  hi H1 e _ fun H2 e2 => hti H2 (e.trans e2) _ fun H3 e3 => ⟨p, xs, _, _, rfl, rfl, SqL.of (((e.trans e2).trans e3) _ _ (dl_up _ _ hp)), atI_nat hx, q a H3 (e2.trans e3) (ht.ex (dl_ex ((e.trans e2).trans e3)))⟩
/-- an item of such a list -/
theorem ex_at {n : Nat} {ti : TE} (h : EXL K fl te σ H ds) (hti : Ev ti σ H (.int (n : Int))) (hd : ds[n]? = some d) : EX K fl (tOp (rIxL K) te ti) σ H d := fun H1 e Q q =>
  h H1 e _ fun p H2 e2 ⟨xs, w1, w2⟩ => hti H2 (e.trans e2) _ fun H3 e3 => by
    have hl := swAll_len w2
    have hn := (List.getElem?_eq_some_iff.mp hd).1
    have hx : xs[n]? = some xs[n] := List.getElem?_eq_getElem (by omega)
    obtain ⟨d', hd', hs⟩ := swAll_get w2 hx
    rw [hd] at hd'
    cases hd'
    exact ⟨p, xs, _, _, rfl, rfl, SqL.of (e3 _ _ (dl_up _ _ w1)), atI_nat hx, q _ H3 (e2.trans e3) (Sw.ex (dl_ex e3) _ _ hs)⟩
end
section
variable {K : PySem.W.Frag} {H : Hp} {p a0 a1 a2 a3 a4 : Addr} {D : PartsD} {R2 R3 : List Addr}
theorem tl0 (h : PartsAt H p D a0 a1 a2 a3 a4 R2 R3) : TL K H a0 (D.hs.map PyData.str) := ⟨_, h.h0, sw_strs _⟩
theorem tl1 (h : PartsAt H p D a0 a1 a2 a3 a4 R2 R3) : TL K H a1 (D.ss.map PyData.str) := ⟨_, h.h1, sw_strs _⟩
theorem tl2 (h : PartsAt H p D a0 a1 a2 a3 a4 R2 R3) : TL K H a2 (D.ds.map enD) := ⟨_, h.h2, sw_tups h.t2⟩
theorem tl3 (h : PartsAt H p D a0 a1 a2 a3 a4 R2 R3) : TL K H a3 (D.rs.map enD) := ⟨_, h.h3, sw_tups h.t3⟩
theorem tl4 (h : PartsAt H p D a0 a1 a2 a3 a4 R2 R3) : TL K H a4 (D.ls.map PyData.str) := ⟨_, h.h4, sw_strs _⟩
/-- the columns of new lists -/
theorem cols {H1 H2 : Hp} {R : List Addr} (h : PartsAt H p D a0 a1 a2 a3 a4 R2 R3) (hn : New H1 H2 R [D.hs.map V.str, D.ss.map V.str, R2.map V.ref, R3.map V.ref, D.ls.map V.str]) {G : Hp} (hg : ∀ r ∈ R, ∀ X, H2 r = some (.lst X) → G r = some (.lst X)) (e : Ex H G) :
    ∃ r0 r1 r2 r3 r4, R = [r0, r1, r2, r3, r4] ∧ SwAll K G [.ref r0, .ref r1, .ref r2, .ref r3, .ref r4] (D5 D) := by
  have h2 := h.ex e
  cases hn with
  | cons b0 hn =>
    cases hn with
    | cons b1 hn =>
      cases hn with
      | cons b2 hn =>
        cases hn with
        | cons b3 hn =>
          cases hn with
          | cons b4 hn =>
            cases hn
            refine ⟨_, _, _, _, _, rfl, .cons (.lst (SqL.of (hg _ (by simp) _ b0.1)) (sw_strs _)) (.cons (.lst (SqL.of (hg _ (by simp) _ b1.1)) (sw_strs _)) (.cons (.lst (SqL.of (hg _ (by simp) _ b2.1)) (sw_tups h2.t2)) (.cons (.lst (SqL.of (hg _ (by simp) _ b3.1)) (sw_tups h2.t3)) (.cons (.lst (SqL.of (hg _ (by simp) _ b4.1)) (sw_strs _)) .nil))))⟩
theorem swAll_set {K : PySem.W.Frag} {H : Hp} {v : V} {d : PyData} : ∀ {xs : List V} {ds : List PyData} (i : Nat), SwAll K H xs ds → Sw K H v d → SwAll K H (xs.set i v) (ds.set i d)
  | [], _, _, h, _ => by cases h; exact .nil
  | x :: xs, _, 0, h, w => by
    cases h with
    | cons a b => exact .cons w b
  | x :: xs, _, i + 1, h, w => by
    cases h with
    | cons a b => exact .cons a (swAll_set i b w)
end
end ExD
/-! ### _law_others -/
namespace OtB
open PySem PySem.Spec PyProof.Rows L2 Evl Gen Ent Rep Dat Nm Er Chk Gu Deed Pts Hear Lst Bk Cau EvD BadE EntR Lis Prd NmP NmR Bmk EqB God Oth ExD
/-- another book's data: good, and not those of D -/
def Other (D L : PartsD) : Prop := GoodP L.hs L.ss L.ds L.rs L.ls ∧ eq5 (strsD D.hs) (strsD D.ss) (.list (D.ds.map enD)) (.list (D.rs.map enD)) (strsD D.ls) (strsD L.hs) (strsD L.ss) (.list (L.ds.map enD)) (.list (L.rs.map enD)) (strsD L.ls) = false
def dOf (L : PartsD) : PyData := .list (D5 L)
section
variable {d1 d2 d3 d4 d5 e1 e2 e3 e4 e5 : PyData}
theorem eq5_0 (h : PyData.eqv (.list (items d1)) (.list (items e1)) = false) : eq5 d1 d2 d3 d4 d5 e1 e2 e3 e4 e5 = false := by
  unfold eq5
  rw [h]
  rfl
theorem eq5_1 (h : PyData.eqv (.list (items d2)) (.list (items e2)) = false) : eq5 d1 d2 d3 d4 d5 e1 e2 e3 e4 e5 = false := by
  unfold eq5
  rw [h]
  simp
theorem eq5_2 (h : PyData.eqv (.list (items d3)) (.list (items e3)) = false) : eq5 d1 d2 d3 d4 d5 e1 e2 e3 e4 e5 = false := by
  unfold eq5
  rw [h]
  simp
theorem eq5_3 (h : PyData.eqv (.list (items d4)) (.list (items e4)) = false) : eq5 d1 d2 d3 d4 d5 e1 e2 e3 e4 e5 = false := by
  unfold eq5
  rw [h]
  simp
theorem eq5_4 (h : PyData.eqv (.list (items d5)) (.list (items e5)) = false) : eq5 d1 d2 d3 d4 d5 e1 e2 e3 e4 e5 = false := by
  unfold eq5
  rw [h]
  simp
end
theorem eqv_more (l : List PyData) (x : PyData) : PyData.eqv (.list l) (.list (l ++ [x])) = false := by
  rw [PyData.eqv]
  exact SeqAt.eqvAll_other_length (by rw [List.length_append]; show _ ≠ _ + 1; omega)
theorem eqv_turn {l m : List PyData} (h : PyData.eqv (.list l) (.list m) = false) : PyData.eqv (.list m) (.list l) = false := by
  rw [PySem.W.eqv_comm]
  exact h
/-- what stands while the others are made -/
structure ST (K : PySem.W.Frag) (D : PartsD) (fl : Addr) (H3 H' : Hp) (Ls : List PartsD) : Prop where
  e : Ex (dl H3 fl) (dl H' fl)
  f : ∃ xs, H' fl = some (.lst xs) ∧ SwAll K (dl H' fl) xs (Ls.map dOf)
  ok : ∀ L ∈ Ls, Other D L
section
variable {K : PySem.W.Frag} {D L : PartsD} {fl q : Addr} {H3 H' H2 G1 G2 : Hp} {Ls : List PartsD} {R : List Addr} {p a0 a1 a2 a3 a4 : Addr} {R2 R3 : List Addr}
theorem ST.ex (s : ST K D fl H3 H' Ls) (e : Ex H' H2) : ST K D fl H3 H2 Ls := by
  obtain ⟨e0, ⟨xs, h1, h2⟩, ok⟩ := s
  exact ⟨e0.trans (dl_ex e), ⟨xs, e _ _ h1, SwAll.ex (dl_ex e) _ _ h2⟩, ok⟩
theorem ST.app (s : ST K D fl H3 H' Ls) {xs : List V} (h1 : H' fl = some (.lst xs)) (h2 : SwAll K (dl H' fl) xs (Ls.map dOf)) (w : Sw K (dl H' fl) (.ref q) (dOf L)) (o : Other D L) : ST K D fl H3 (upd H' fl (.lst (xs ++ [.ref q]))) (Ls ++ [L]) := by
  refine ⟨by rw [dl_grow]; exact s.e, ⟨_, upd_same, ?_⟩, fun L' m => ?_⟩
  · rw [dl_grow, List.map_append]
    exact swAll_app h2 (.cons w .nil)
  · rcases List.mem_append.mp m with m | m
    · exact s.ok L' m
    · obtain rfl : L' = L := by simpa using m
      exact o
theorem new_len {A : List Addr} {X : List (List V)} {H H' : Hp} (h : New H H' A X) : A.length = X.length := by
  induction h with
  | nil => rfl
  | cons _ _ ih => simp [ih]
/-- behind `l[i] = v` on new lists of the parts -/
theorem after {i : Nat} {v : V} {dd : PyData} (s : ST K D fl H3 H' Ls) (hP : PartsAt (dl H' fl) p D a0 a1 a2 a3 a4 R2 R3) (hq : G1 q = some (.lst (R.map V.ref))) (hN : New H' G1 R [D.hs.map V.str, D.ss.map V.str, R2.map V.ref, R3.map V.ref, D.ls.map V.str]) (nd : (q :: R).Nodup)
    (nq : H' q = none) (e2 : Ex G1 G2) (e3 : Ex H' (upd G2 q (.lst ((R.map V.ref).set i v)))) (hv : Sw K (dl (upd G2 q (.lst ((R.map V.ref).set i v))) fl) v dd) (hL : D5 L = (D5 D).set i dd) :
    TL K (dl (upd G2 q (.lst ((R.map V.ref).set i v))) fl) q (D5 L) ∧ ST K D fl H3 (upd G2 q (.lst ((R.map V.ref).set i v))) Ls := by
  obtain ⟨xs, hf, _⟩ := s.f
  have qf : q ≠ fl := (ne_of_none hf nq).symm
  have hg : ∀ r ∈ R, ∀ X, G1 r = some (.lst X) → dl (upd G2 q (.lst ((R.map V.ref).set i v))) fl r = some (.lst X) := fun r m X h => by
    obtain ⟨_, _, nr⟩ := new_none hN r m
    have rf : r ≠ fl := (ne_of_none hf nr).symm
    have rq : r ≠ q := fun e => (List.nodup_cons.mp nd).1 (by rw [← e]; exact m)
    rw [dl_ne rf, upd_ne rq]
    exact e2 _ _ h
  obtain ⟨r0, r1, r2, r3, r4, rfl, hc⟩ := cols (K := K) hP hN hg (dl_ex e3)
  refine ⟨⟨_, by rw [dl_ne qf, upd_same], ?_⟩, s.ex e3⟩
  rw [hL]
  exact swAll_set i hc hv
end
/-- len of an item that is a list -/
theorem ev_lenX {K : PySem.W.Frag} {σ : L2.St} {H : Hp} {n : Nat} {q : Addr} {tp : TE} {ds es : List PyData} (hi : Ev tp σ H (.ref q)) (hq : TL K H q ds) (hd : ds[n]? = some (.list es)) : Ev (tCB (rLenS K) (tCons (tOp (rIxL K) tp (tC (.int (n : Int)))) tNil)) σ H (.int (es.length : Int)) := fun H1 e Q k =>
  hi H1 e _ fun H2 e2 => by
    obtain ⟨xs, w1, w2⟩ := hq.ex (e.trans e2)
    have hl := swAll_len w2
    have hn := (List.getElem?_eq_some_iff.mp hd).1
    have hx : xs[n]? = some xs[n] := List.getElem?_eq_getElem (by omega)
    obtain ⟨d', hd', hs⟩ := swAll_get w2 hx
    rw [hd] at hd'
    cases hd'
    refine ⟨q, xs, _, _, rfl, rfl, SqL.of w1, atI_nat hx, ?_⟩
    generalize xs[n] = v at hs
    cases hs with
    | lst hq ha =>
      refine ⟨_, _, rfl, .inl hq, ?_⟩
      rw [swAll_len ha]
      exact k H2 e2
theorem swAll_rev {K : PySem.W.Frag} {H : Hp} : ∀ {xs : List V} {ds : List PyData}, SwAll K H xs ds → SwAll K H xs.reverse ds.reverse
  | [], _, h => by cases h; exact .nil
  | x :: xs, _, h => by
    cases h with
    | cons a b =>
      rw [List.reverse_cons, List.reverse_cons]
      exact swAll_app (swAll_rev b) (.cons a .nil)
theorem q_asgX {K : PySem.W.Frag} {fl : Addr} {σ : L2.St} {H : Hp} {te : TE} {ds : List PyData} {D : Ends} {i : Nat} {tz : TS} (h : EXL K fl te σ H ds) (k : ∀ p H2, Ex H H2 → TL K (dl H2 fl) p ds → tz D (σ.set i (some (.ref p))) H2) : tSeq (tAsg te (gName i)) tz D σ H :=
  h H (Ex.refl H) _ fun p H2 e2 w => k p H2 e2 w
def spOth (K : PySem.W.Frag) : Sp := fun vs H Q _ => ∃ (p a0 a1 a2 a3 a4 : Addr) (D : PartsD) (R2 R3 : List Addr) (w h : Nat), vs = [.ref p] ∧ PartsAt H p D a0 a1 a2 a3 a4 R2 R3 ∧ PartsOk w h D ∧ w ≤ 3 ∧ h ≤ 4 ∧
  ∀ (q : Addr) (H' : Hp) (Ls : List PartsD), H q = none → Ex H H' → Ls.length ≤ 10 → TL K H' q (Ls.map dOf) → (∀ L ∈ Ls, Other D L) → Q (.ref q) H'
abbrev sOth : Stmt := top 24
abbrev NOt : List Str := ["_law_parts_here", "_law_found", "_law_more", "_law_at", "_law_some", "_law_lists_here", "_law_back"]
theorem scOt : FnScope NOt ["_law_parts_here"] (defScope sOth) := ⟨rfl, rfl, rfl, by decide +kernel, rfl, by decide +kernel, by decide +kernel⟩
section
variable {P : Program} {w : World} {K : PySem.W.Frag} {mg : Str → Option Value} {base : Heap}
set_option maxHeartbeats 8000000 in
theorem ok_oth {f : Addr} {fd : FuncData} (F : Fun K "_law_others" "_law_others" sOth f fd) (B : Bt mg) (T : LH2 P w K mg base) : FnOk P w K mg base CX0 2 f fd ["_law_parts_here"] (spOth K) := by
  refine F.ok scOt (fun vs H Q E h => ?_) (fun cdv A outer s H vs Q E hr h => ?_)
  · obtain ⟨p, _, _, _, _, _, _, _, _, _, _, rfl, _⟩ := h
    rfl
  · obtain ⟨p, a0, a1, a2, a3, a4, D, R2, R3, wi, hi, rfl, hP, o, hw, hh, kq⟩ := h
    refine ⟨_, (pss_cons (ps_set (i := 1) scOt.nd rfl (Or.inl rfl) (pe_lst pa_nil)) (pss_cons (ps_set (i := 2) scOt.nd rfl (Or.inl rfl) (pe_lst (pa_cons (pe_op op_cat (pe_ix ix_list (pv 0) pe_int (fun _ _ => rfl)) (pe_lst (pa_cons pe_str pa_nil))) (pa_cons (pe_op op_cat (pe_ix ix_list (pv 0) pe_int (fun _ _ => rfl)) (pe_lst (pa_cons pe_str pa_nil))) (pa_cons (pe_op op_cat (pe_ix ix_list (pv 0) pe_int (fun _ _ => rfl)) (pe_lst (pa_cons (pe_tup (pa_cons (pe_ix ix_list (pe_ix ix_list (pv 0) pe_int (fun _ _ => rfl)) pe_int (fun _ _ => rfl)) (pa_cons pe_str (pa_cons (pe_ix ix_list (pe_ix ix_list (pv 0) pe_int (fun _ _ => rfl)) pe_int (fun _ _ => rfl)) pa_nil)))) pa_nil))) pa_nil))))) (pss_cons (ps_set (i := 2) scOt.nd rfl (Or.inl rfl) (pe_op op_cat (pv 2) (pe_lst (pa_cons (pe_op op_cat (pe_ix ix_list (pv 0) pe_int (fun _ _ => rfl)) (pe_lst (pa_cons (pe_tup (pa_cons (pe_ix ix_list (pe_ix ix_list (pv 0) pe_int (fun _ _ => rfl)) pe_int (fun _ _ => rfl)) (pa_cons pe_str (pa_cons (pe_ix ix_list (pe_ix ix_list (pv 0) pe_int (fun _ _ => rfl)) pe_int (fun _ _ => rfl)) pa_nil)))) pa_nil))) (pa_cons (pe_op op_cat (pe_ix ix_list (pv 0) pe_int (fun _ _ => rfl)) (pe_lst (pa_cons pe_str pa_nil))) pa_nil))))) (pss_cons (ps_for PassesOwn.never rfl (pi_range1 rfl B.range (pa_cons pe_int pa_nil)) (pg_name (i := 3) scOt.nd rfl (Or.inl rfl)) (pss_cons (ps_set (i := 4) scOt.nd rfl (Or.inl rfl) (pe_df T.lis hr pass0 (pa_cons (pv 0) pa_nil))) (pss_cons (ps_asg (pe_ix ix_list (pv 2) (pv 3) (fun _ _ => rfl)) (pg_sub (pv 4) (pv 3) set_list)) (pss_cut (ps_if (PW.pt (pw_and (pt_cmpR op_lt (pe_callB call_len_seq (by rfl) B.len PySem.boot_len (pa_cons (pe_ix ix_list (pv 4) pe_int (fun _ _ => rfl)) pa_nil)) pe_int (nomark _)) (pw_and (pt_cmpR op_lt (pe_callB call_len_seq (by rfl) B.len PySem.boot_len (pa_cons (pe_ix ix_list (pv 4) pe_int (fun _ _ => rfl)) pa_nil)) pe_int (nomark _)) (pw_and1 (pt_cmpR op_lt (pe_callB call_len_seq (by rfl) B.len PySem.boot_len (pa_cons (pe_ix ix_list (pv 4) pe_int (fun _ _ => rfl)) pa_nil)) pe_int (nomark _)))))) (pss_one (ps_expr (pe_bm PySem.F.plainAttrs_list PySem.F.slot_list_append PySem.F.type_list_append mt_append (pv 1) (pa_cons (pv 4) pa_nil)))) pss_nil) (pss_cons (ps_par (i := 5) (j := 6) rfl scOt.nd rfl rfl (by decide) rfl rfl (pa_cons (pe_df T.lis hr pass0 (pa_cons (pv 0) pa_nil)) (pa_cons (pe_revL (pe_ix ix_list (pv 0) (pv 3) (fun _ _ => rfl))) pa_nil)) (by rfl)) (pss_cons (ps_asg (pv 6) (pg_sub (pv 5) (pv 3) set_list)) (pss_one (ps_if (pt_cmpR (op_neD (un64 hr)) (pv 6) (pe_ix ix_list (pv 0) (pv 3) (fun _ _ => rfl)) (nomark _)) (pss_one (ps_expr (pe_bm PySem.F.plainAttrs_list PySem.F.slot_list_append PySem.F.type_list_append mt_append (pv 1) (pa_cons (pv 5) pa_nil)))) pss_nil)))))))) (pss_one (ps_ret (pv 1))))))), ?_⟩
    obtain ⟨gd, z1, z2, z3, z4⟩ := goodD o hw hh
    obtain ⟨x, hx0⟩ : ∃ x, D.ss[0]? = some x := ⟨_, List.getElem?_eq_getElem (by have := gd.s.1; omega)⟩
    have hxm : x ∈ D.ss := List.mem_of_getElem? hx0
    have hkz : ∀ e ∈ D.rs, e.2.1 ≠ some zz := fun e m q => by
      rcases (o.rs e m).1 with r | r <;> (rw [r] at q; revert q; decide +kernel)
    have hd0 : (D.ss.map PyData.str)[0]? = some (.str x) := by
      rw [List.getElem?_map, hx0]
      rfl
    refine q_asgL (el_lst ea_nil (by decide)) fun fl H1 nf e1 hf => ?_
    have hP1 : PartsAt (dl H1 fl) p D a0 a1 a2 a3 a4 R2 R3 := hP.ex (dl_old e1 nf)
    have x10 : ∀ G, Ex H1 G → ∀ s2, EX K fl (tOp (rIxL K) (tOp (rIxL K) (tVar 0) (tC (.int 1))) (tC (.int 0))) [some (.ref p), some (.ref fl), s2, none, none, none, none] G (.str x) := fun G eG s2 =>
      ex_at (n := 0) (exl_at (n := 1) (ev_var rfl) (hP1.ex (dl_ex eG)).p ev_c rfl (tl1 (hP1.ex (dl_ex eG)))) ev_c hd0
    have bnd : (D.hs.map PyData.str).length ≤ 10 ∧ (D.ss.map PyData.str).length ≤ 10 ∧ (D.ds.map enD).length ≤ 10 ∧ (D.rs.map enD).length ≤ 20 ∧ (D.ls.map PyData.str).length ≤ 10 := by
      have := gd.h
      have := gd.s
      have := gd.d
      have := gd.r
      have := gd.l
      simp only [List.length_map]
      omega
    refine q_asgX (K := K) (fl := fl) (ds := [.list (D.hs.map PyData.str ++ [.str zz]), .list (D.ss.map PyData.str ++ [.str zz]), .list (D.ds.map enD ++ [enD (x, some zz, x)])]) (ex_lst hf (exa_cons (ex_of (ex_cat hf (exl_at (n := 0) (ev_var rfl) hP1.p ev_c rfl (tl0 hP1)) (ex_lst hf (exa_cons ex_str exa_nil) (by simp)) (by simp only [List.length_cons, List.length_nil]; omega)))
      (exa_cons (ex_of (ex_cat hf (exl_at (n := 1) (ev_var rfl) hP1.p ev_c rfl (tl1 hP1)) (ex_lst hf (exa_cons ex_str exa_nil) (by simp)) (by simp only [List.length_cons, List.length_nil]; omega)))
      (exa_cons (ex_of (ex_cat hf (exl_at (n := 2) (ev_var rfl) hP1.p ev_c rfl (tl2 hP1)) (ex_lst hf (exa_cons (ex_tup hf (exa_cons (x10 H1 (Ex.refl H1) none) (exa_cons ex_str (exa_cons (x10 H1 (Ex.refl H1) none) exa_nil))) (by simp)) exa_nil) (by simp)) (by simp only [List.length_cons, List.length_nil]; omega))) exa_nil))) (by simp)) fun m1 H2 e2 t2 => ?_
    have hf2 := e2 _ _ hf
    have hP2 := hP1.ex (dl_ex e2)
    refine q_asgX (K := K) (fl := fl) (ds := [.list (D.hs.map PyData.str ++ [.str zz]), .list (D.ss.map PyData.str ++ [.str zz]), .list (D.ds.map enD ++ [enD (x, some zz, x)]), .list (D.rs.map enD ++ [enD (x, some zz, x)]), .list (D.ls.map PyData.str ++ [.str zz])]) (ex_cat hf2 (exl_var rfl t2) (ex_lst hf2
      (exa_cons (ex_of (ex_cat hf2 (exl_at (n := 3) (ev_var rfl) hP2.p ev_c rfl (tl3 hP2)) (ex_lst hf2 (exa_cons (ex_tup hf2 (exa_cons (x10 H2 e2 _) (exa_cons ex_str (exa_cons (x10 H2 e2 _) exa_nil))) (by simp)) exa_nil) (by simp)) (by simp only [List.length_cons, List.length_nil]; omega)))
      (exa_cons (ex_of (ex_cat hf2 (exl_at (n := 4) (ev_var rfl) hP2.p ev_c rfl (tl4 hP2)) (ex_lst hf2 (exa_cons ex_str exa_nil) (by simp)) (by simp only [List.length_cons, List.length_nil]; omega))) exa_nil)) (by simp)) (by simp)) fun mp H3 e3 t3 => ?_
    have hf3 := e3 _ _ hf2
    have hP3 := hP2.ex (dl_ex e3)
    have eH3 : Ex H (dl H3 fl) := dl_old ((e1.trans e2).trans e3) nf
    obtain ⟨m0, m1', m2, m3, m4, hmp, M0, M1, M2, M3, M4⟩ : ∃ m0 m1 m2 m3 m4, dl H3 fl mp = some (.lst [.ref m0, .ref m1, .ref m2, .ref m3, .ref m4]) ∧ Sw K (dl H3 fl) (.ref m0) (strsD (D.hs ++ [zz])) ∧ Sw K (dl H3 fl) (.ref m1) (strsD (D.ss ++ [zz])) ∧
        Sw K (dl H3 fl) (.ref m2) (.list ((D.ds ++ [(x, some zz, x)]).map enD)) ∧ Sw K (dl H3 fl) (.ref m3) (.list ((D.rs ++ [(x, some zz, x)]).map enD)) ∧ Sw K (dl H3 fl) (.ref m4) (strsD (D.ls ++ [zz])) := by
      obtain ⟨xs, w1, w2⟩ := t3
      unfold strsD
      simp only [List.map_append, List.map_cons, List.map_nil]
      cases w2 with
      | cons b0 w2 =>
        cases w2 with
        | cons b1 w2 =>
          cases w2 with
          | cons b2 w2 =>
            cases w2 with
            | cons b3 w2 =>
              cases w2 with
              | cons b4 w2 =>
                cases w2
                have isr : ∀ {v : V} {l : List PyData}, Sw K (dl H3 fl) v (.list l) → ∃ a, v = .ref a := fun h => by
                  cases h with
                  | lst _ _ => exact ⟨_, rfl⟩
                obtain ⟨_, rfl⟩ := isr b0
                obtain ⟨_, rfl⟩ := isr b1
                obtain ⟨_, rfl⟩ := isr b2
                obtain ⟨_, rfl⟩ := isr b3
                obtain ⟨_, rfl⟩ := isr b4
                exact ⟨_, _, _, _, _, w1, b0, b1, b2, b3, b4⟩
    have st0 : ST K D fl H3 H3 [] := ⟨Ex.refl _, ⟨[], hf3, .nil⟩, fun L m => nomatch m⟩
    refine q_forR1 (n := 5) (ea_cons ev_c ea_nil) ⟨by decide, by decide⟩ (fun i σ' H' => ∃ s3 s4 s5 s6 Ls, σ' = [some (.ref p), some (.ref fl), some (.ref mp), s3, s4, s5, s6] ∧ ST K D fl H3 H' Ls ∧ Ls.length ≤ 2 * i) (fun H4 e4 => ⟨_, _, _, _, [], rfl, st0.ex e4, by simp⟩) ?_ ?_
    · rintro i σ' H' hi ⟨s3, s4, s5, s6, Ls, rfl, st, lLs⟩
      have e' := st.e
      have hPd' := hP3.ex e'
      have hP' := hPd'.ex dl_up
      have hi5 : i = 0 ∨ i = 1 ∨ i = 2 ∨ i = 3 ∨ i = 4 := by omega
      rcases hi5 with rfl | rfl | rfl | rfl | rfl
      · -- at = 0
        refine ⟨_, rfl, p, [a0, a1, a2, a3, a4], [D.hs.map V.str, D.ss.map V.str, R2.map V.ref, R3.map V.ref, D.ls.map V.str], rfl, SqL.of hP'.p, .cons (SqL.of hP'.h0) (.cons (SqL.of hP'.h1) (.cons (SqL.of hP'.h2) (.cons (SqL.of hP'.h3) (.cons (SqL.of hP'.h4) .nil)))), by show 5 ≤ 1000; decide, fun q1 G1 R nq eG hq hN nd => ?_⟩
        have hm3 := eG _ _ (dl_up _ _ (e' _ _ hmp))
        have lR : R.length = 5 := new_len hN
        refine q_setL (j := 0) hq (v := .ref m0) (ev_op (ev_var rfl) (ev_var rfl) (rv_ixL (SqL.of hm3) (atI_nat (j := 0) rfl))) (ev_var rfl) (ev_var rfl) (by rw [List.length_map, lR]; decide) fun G2 eG2 => ?_
        have eX : Ex H' (upd G2 q1 (.lst ((R.map V.ref).set 0 (.ref m0)))) := (eG.trans eG2).mut nq
        obtain ⟨tq, st3⟩ := after (L := ({ D with hs := D.hs ++ [zz] } : PartsD)) (i := 0) st hPd' hq hN nd nq eG2 eX (Sw.ex (e'.trans (dl_ex eX)) _ _ M0) rfl
        generalize upd G2 q1 (.lst ((R.map V.ref).set 0 (.ref m0))) = G3 at eX tq st3
        have tq3 := tq.ex dl_up
        refine q_cut (M := fun σ2 H2 => ∃ s4 Ls, σ2 = [some (.ref p), some (.ref fl), some (.ref mp), some (.int 0), s4, s5, s6] ∧ ST K D fl H3 H2 Ls ∧ Ls.length ≤ 2 * 0 + 1) ?_ ?_
        · refine s_when (b := decide ((((({ D with hs := D.hs ++ [zz] } : PartsD)).hs.map PyData.str).length : Int) < 4) && (decide ((((({ D with hs := D.hs ++ [zz] } : PartsD)).ss.map PyData.str).length : Int) < 5) && decide ((((({ D with hs := D.hs ++ [zz] } : PartsD)).ls.map PyData.str).length : Int) < 5))) (et_and (et_test (ev_op (ev_lenX (n := 0) (ev_var rfl) tq3 rfl) ev_c rv_I0)) fun _ => et_and (et_test (ev_op (ev_lenX (n := 1) (ev_var rfl) tq3 rfl) ev_c rv_I0)) fun _ => et_test (ev_op (ev_lenX (n := 4) (ev_var rfl) tq3 rfl) ev_c rv_I0)) (fun hb G4 e4 => ?_) (fun hb G4 e4 => ⟨_, Ls, rfl, st3.ex e4, by omega⟩)
          have st4 := st3.ex e4
          obtain ⟨xs, hx, hxs⟩ := st4.f
          have lx := swAll_len hxs
          rw [List.length_map] at lx
          have oth : Other D ({ D with hs := D.hs ++ [zz] } : PartsD) := by
            simp only [Bool.and_eq_true, decide_eq_true_eq, List.length_map, List.length_append, List.length_cons, List.length_nil] at hb
            exact ⟨v0 gd (by omega) z1 z2, eq5_0 (by show PyData.eqv (.list (D.hs.map PyData.str)) (.list (List.map _ (_ ++ _))) = false; rw [List.map_append]; exact eqv_more _ _)⟩
          exact s_app hx (ev_var rfl) (ev_var rfl) (by omega) fun G5 e5 => ⟨_, Ls ++ [({ D with hs := D.hs ++ [zz] } : PartsD)], rfl, (st4.ex e5).app (e5 _ _ hx) (SwAll.ex (dl_ex e5) _ _ hxs) ((tq.ex (dl_ex (e4.trans e5))).sw) oth, by rw [List.length_append]; show _ + 1 ≤ _; omega⟩
        · rintro σ2 H2 ⟨s4', Ls2, rfl, st2, l2⟩
          have hPd2 := hP3.ex st2.e
          have hP2 := hPd2.ex dl_up
          refine ⟨_, rfl, p, [a0, a1, a2, a3, a4], [D.hs.map V.str, D.ss.map V.str, R2.map V.ref, R3.map V.ref, D.ls.map V.str], rfl, SqL.of hP2.p, .cons (SqL.of hP2.h0) (.cons (SqL.of hP2.h1) (.cons (SqL.of hP2.h2) (.cons (SqL.of hP2.h3) (.cons (SqL.of hP2.h4) .nil)))), by show 5 ≤ 1000; decide, fun q2 G6 Rb nq2 eG6 hq2 hN2 nd2 => ?_⟩
          refine ⟨_, rfl, _, rfl, p, _, _, .ref a0, rfl, rfl, SqL.of (eG6 _ _ hP2.p), atI_nat (j := 0) rfl, a0, _, rfl, SqL.of (eG6 _ _ hP2.h0), fun bk nbk => ⟨_, _, rfl, ?_⟩⟩
          have nbk2 : H2 bk = none := fresh_back eG6 nbk
          have e7 := Ex.new (o := .lst (D.hs.map V.str).reverse) nbk
          obtain ⟨ys, hy, _⟩ := st2.f
          have bkf : bk ≠ fl := (ne_of_none hy nbk2).symm
          have lR2 : Rb.length = 5 := new_len hN2
          have bkq : bk ≠ q2 := (ne_of_none hq2 nbk).symm
          have w2 : SwAll K (dl H2 fl) (D.hs.map V.str) (D.hs.map PyData.str) := sw_strs _
          refine q_setL (j := 0) (e7 _ _ hq2) (v := .ref bk) (ev_var rfl) (ev_var rfl) (ev_var rfl) (by rw [List.length_map, lR2]; decide) fun G8 e8 => ?_
          have eY : Ex H2 (upd G8 q2 (.lst ((Rb.map V.ref).set 0 (.ref bk)))) := ((eG6.trans e7).trans e8).mut nq2
          have hb8 : upd G8 q2 (.lst ((Rb.map V.ref).set 0 (.ref bk))) bk = some (.lst (D.hs.map V.str).reverse) := by
            rw [upd_ne bkq]
            exact e8 _ _ upd_same
          have tbk : Sw K (dl (upd G8 q2 (.lst ((Rb.map V.ref).set 0 (.ref bk)))) fl) (.ref bk) (.list (D.hs.map PyData.str).reverse) := .lst (SqL.of (by rw [dl_ne bkf]; exact hb8)) (swAll_rev (SwAll.ex (dl_ex eY) _ _ w2))
          obtain ⟨tq9, st9⟩ := after (L := ({ D with hs := D.hs.reverse } : PartsD)) (i := 0) st2 hPd2 hq2 hN2 nd2 nq2 (e7.trans e8) eY tbk (by simp [D5, strsD, List.map_reverse])
          generalize upd G8 q2 (.lst ((Rb.map V.ref).set 0 (.ref bk))) = G9 at eY tbk tq9 st9 hb8
          have col9 : Sw K G9 (.ref a0) (.list (D.hs.map PyData.str)) := .lst (SqL.of (eY _ _ hP2.h0)) (SwAll.ex (dl_up.trans eY) _ _ w2)
          have shC : SeqAt.shaped (.list (D.hs.map PyData.str)) = true := (good_shp gd).1
          have shR : SeqAt.shaped (.list (D.hs.map PyData.str).reverse) = true := by
            rw [← List.map_reverse]
            exact (good_shp (r0 gd)).1
          refine s_when (b := !PyData.eqv (.list (D.hs.map PyData.str).reverse) (.list (D.hs.map PyData.str))) (et_test (ev_op (ev_var rfl) (ev_op (ev_var rfl) (ev_var rfl) (rv_ixL (SqL.of (eY _ _ hP2.p)) (atI_nat (j := 0) rfl))) fun H1 a Q q => ⟨_, _, sw_dp _ _ (Sw.ex (dl_up.trans a) _ _ tbk) (SeqAt.canLay_of_shaped shR), sw_dp _ _ (Sw.ex a _ _ col9) (SeqAt.canLay_of_shaped shC), shR, shC, q H1 (Ex.refl H1)⟩)) (fun hb GA eA => ?_) (fun hb GA eA => ⟨_, _, _, _, Ls2, rfl, st9.ex eA, by omega⟩)
          have stA := st9.ex eA
          obtain ⟨xs, hx, hxs⟩ := stA.f
          have lx := swAll_len hxs
          rw [List.length_map] at lx
          have oth : Other D ({ D with hs := D.hs.reverse } : PartsD) := ⟨r0 gd, eq5_0 (eqv_turn (by
            rw [Bool.not_eq_true'] at hb
            rw [← List.map_reverse] at hb
            exact hb))⟩
          exact s_app hx (ev_var rfl) (ev_var rfl) (by omega) fun GB eB => ⟨_, _, _, _, Ls2 ++ [({ D with hs := D.hs.reverse } : PartsD)], rfl, (stA.ex eB).app (eB _ _ hx) (SwAll.ex (dl_ex eB) _ _ hxs) ((tq9.ex (dl_ex (eA.trans eB))).sw) oth, by rw [List.length_append]; show _ + 1 ≤ _; omega⟩
      · -- at = 1
        refine ⟨_, rfl, p, [a0, a1, a2, a3, a4], [D.hs.map V.str, D.ss.map V.str, R2.map V.ref, R3.map V.ref, D.ls.map V.str], rfl, SqL.of hP'.p, .cons (SqL.of hP'.h0) (.cons (SqL.of hP'.h1) (.cons (SqL.of hP'.h2) (.cons (SqL.of hP'.h3) (.cons (SqL.of hP'.h4) .nil)))), by show 5 ≤ 1000; decide, fun q1 G1 R nq eG hq hN nd => ?_⟩
        have hm3 := eG _ _ (dl_up _ _ (e' _ _ hmp))
        have lR : R.length = 5 := new_len hN
        refine q_setL (j := 1) hq (v := .ref m1') (ev_op (ev_var rfl) (ev_var rfl) (rv_ixL (SqL.of hm3) (atI_nat (j := 1) rfl))) (ev_var rfl) (ev_var rfl) (by rw [List.length_map, lR]; decide) fun G2 eG2 => ?_
        have eX : Ex H' (upd G2 q1 (.lst ((R.map V.ref).set 1 (.ref m1')))) := (eG.trans eG2).mut nq
        obtain ⟨tq, st3⟩ := after (L := ({ D with ss := D.ss ++ [zz] } : PartsD)) (i := 1) st hPd' hq hN nd nq eG2 eX (Sw.ex (e'.trans (dl_ex eX)) _ _ M1) rfl
        generalize upd G2 q1 (.lst ((R.map V.ref).set 1 (.ref m1'))) = G3 at eX tq st3
        have tq3 := tq.ex dl_up
        refine q_cut (M := fun σ2 H2 => ∃ s4 Ls, σ2 = [some (.ref p), some (.ref fl), some (.ref mp), some (.int 1), s4, s5, s6] ∧ ST K D fl H3 H2 Ls ∧ Ls.length ≤ 2 * 1 + 1) ?_ ?_
        · refine s_when (b := decide ((((({ D with ss := D.ss ++ [zz] } : PartsD)).hs.map PyData.str).length : Int) < 4) && (decide ((((({ D with ss := D.ss ++ [zz] } : PartsD)).ss.map PyData.str).length : Int) < 5) && decide ((((({ D with ss := D.ss ++ [zz] } : PartsD)).ls.map PyData.str).length : Int) < 5))) (et_and (et_test (ev_op (ev_lenX (n := 0) (ev_var rfl) tq3 rfl) ev_c rv_I0)) fun _ => et_and (et_test (ev_op (ev_lenX (n := 1) (ev_var rfl) tq3 rfl) ev_c rv_I0)) fun _ => et_test (ev_op (ev_lenX (n := 4) (ev_var rfl) tq3 rfl) ev_c rv_I0)) (fun hb G4 e4 => ?_) (fun hb G4 e4 => ⟨_, Ls, rfl, st3.ex e4, by omega⟩)
          have st4 := st3.ex e4
          obtain ⟨xs, hx, hxs⟩ := st4.f
          have lx := swAll_len hxs
          rw [List.length_map] at lx
          have oth : Other D ({ D with ss := D.ss ++ [zz] } : PartsD) := by
            simp only [Bool.and_eq_true, decide_eq_true_eq, List.length_map, List.length_append, List.length_cons, List.length_nil] at hb
            exact ⟨v1 gd (by omega) z1 z2, eq5_1 (by show PyData.eqv (.list (D.ss.map PyData.str)) (.list (List.map _ (_ ++ _))) = false; rw [List.map_append]; exact eqv_more _ _)⟩
          exact s_app hx (ev_var rfl) (ev_var rfl) (by omega) fun G5 e5 => ⟨_, Ls ++ [({ D with ss := D.ss ++ [zz] } : PartsD)], rfl, (st4.ex e5).app (e5 _ _ hx) (SwAll.ex (dl_ex e5) _ _ hxs) ((tq.ex (dl_ex (e4.trans e5))).sw) oth, by rw [List.length_append]; show _ + 1 ≤ _; omega⟩
        · rintro σ2 H2 ⟨s4', Ls2, rfl, st2, l2⟩
          have hPd2 := hP3.ex st2.e
          have hP2 := hPd2.ex dl_up
          refine ⟨_, rfl, p, [a0, a1, a2, a3, a4], [D.hs.map V.str, D.ss.map V.str, R2.map V.ref, R3.map V.ref, D.ls.map V.str], rfl, SqL.of hP2.p, .cons (SqL.of hP2.h0) (.cons (SqL.of hP2.h1) (.cons (SqL.of hP2.h2) (.cons (SqL.of hP2.h3) (.cons (SqL.of hP2.h4) .nil)))), by show 5 ≤ 1000; decide, fun q2 G6 Rb nq2 eG6 hq2 hN2 nd2 => ?_⟩
          refine ⟨_, rfl, _, rfl, p, _, _, .ref a1, rfl, rfl, SqL.of (eG6 _ _ hP2.p), atI_nat (j := 1) rfl, a1, _, rfl, SqL.of (eG6 _ _ hP2.h1), fun bk nbk => ⟨_, _, rfl, ?_⟩⟩
          have nbk2 : H2 bk = none := fresh_back eG6 nbk
          have e7 := Ex.new (o := .lst (D.ss.map V.str).reverse) nbk
          obtain ⟨ys, hy, _⟩ := st2.f
          have bkf : bk ≠ fl := (ne_of_none hy nbk2).symm
          have lR2 : Rb.length = 5 := new_len hN2
          have bkq : bk ≠ q2 := (ne_of_none hq2 nbk).symm
          have w2 : SwAll K (dl H2 fl) (D.ss.map V.str) (D.ss.map PyData.str) := sw_strs _
          refine q_setL (j := 1) (e7 _ _ hq2) (v := .ref bk) (ev_var rfl) (ev_var rfl) (ev_var rfl) (by rw [List.length_map, lR2]; decide) fun G8 e8 => ?_
          have eY : Ex H2 (upd G8 q2 (.lst ((Rb.map V.ref).set 1 (.ref bk)))) := ((eG6.trans e7).trans e8).mut nq2
          have hb8 : upd G8 q2 (.lst ((Rb.map V.ref).set 1 (.ref bk))) bk = some (.lst (D.ss.map V.str).reverse) := by
            rw [upd_ne bkq]
            exact e8 _ _ upd_same
          have tbk : Sw K (dl (upd G8 q2 (.lst ((Rb.map V.ref).set 1 (.ref bk)))) fl) (.ref bk) (.list (D.ss.map PyData.str).reverse) := .lst (SqL.of (by rw [dl_ne bkf]; exact hb8)) (swAll_rev (SwAll.ex (dl_ex eY) _ _ w2))
          obtain ⟨tq9, st9⟩ := after (L := ({ D with ss := D.ss.reverse } : PartsD)) (i := 1) st2 hPd2 hq2 hN2 nd2 nq2 (e7.trans e8) eY tbk (by simp [D5, strsD, List.map_reverse])
          generalize upd G8 q2 (.lst ((Rb.map V.ref).set 1 (.ref bk))) = G9 at eY tbk tq9 st9 hb8
          have col9 : Sw K G9 (.ref a1) (.list (D.ss.map PyData.str)) := .lst (SqL.of (eY _ _ hP2.h1)) (SwAll.ex (dl_up.trans eY) _ _ w2)
          have shC : SeqAt.shaped (.list (D.ss.map PyData.str)) = true := (good_shp gd).2.1
          have shR : SeqAt.shaped (.list (D.ss.map PyData.str).reverse) = true := by
            rw [← List.map_reverse]
            exact (good_shp (r1 gd)).2.1
          refine s_when (b := !PyData.eqv (.list (D.ss.map PyData.str).reverse) (.list (D.ss.map PyData.str))) (et_test (ev_op (ev_var rfl) (ev_op (ev_var rfl) (ev_var rfl) (rv_ixL (SqL.of (eY _ _ hP2.p)) (atI_nat (j := 1) rfl))) fun H1 a Q q => ⟨_, _, sw_dp _ _ (Sw.ex (dl_up.trans a) _ _ tbk) (SeqAt.canLay_of_shaped shR), sw_dp _ _ (Sw.ex a _ _ col9) (SeqAt.canLay_of_shaped shC), shR, shC, q H1 (Ex.refl H1)⟩)) (fun hb GA eA => ?_) (fun hb GA eA => ⟨_, _, _, _, Ls2, rfl, st9.ex eA, by omega⟩)
          have stA := st9.ex eA
          obtain ⟨xs, hx, hxs⟩ := stA.f
          have lx := swAll_len hxs
          rw [List.length_map] at lx
          have oth : Other D ({ D with ss := D.ss.reverse } : PartsD) := ⟨r1 gd, eq5_1 (eqv_turn (by
            rw [Bool.not_eq_true'] at hb
            rw [← List.map_reverse] at hb
            exact hb))⟩
          exact s_app hx (ev_var rfl) (ev_var rfl) (by omega) fun GB eB => ⟨_, _, _, _, Ls2 ++ [({ D with ss := D.ss.reverse } : PartsD)], rfl, (stA.ex eB).app (eB _ _ hx) (SwAll.ex (dl_ex eB) _ _ hxs) ((tq9.ex (dl_ex (eA.trans eB))).sw) oth, by rw [List.length_append]; show _ + 1 ≤ _; omega⟩
      · -- at = 2
        refine ⟨_, rfl, p, [a0, a1, a2, a3, a4], [D.hs.map V.str, D.ss.map V.str, R2.map V.ref, R3.map V.ref, D.ls.map V.str], rfl, SqL.of hP'.p, .cons (SqL.of hP'.h0) (.cons (SqL.of hP'.h1) (.cons (SqL.of hP'.h2) (.cons (SqL.of hP'.h3) (.cons (SqL.of hP'.h4) .nil)))), by show 5 ≤ 1000; decide, fun q1 G1 R nq eG hq hN nd => ?_⟩
        have hm3 := eG _ _ (dl_up _ _ (e' _ _ hmp))
        have lR : R.length = 5 := new_len hN
        refine q_setL (j := 2) hq (v := .ref m2) (ev_op (ev_var rfl) (ev_var rfl) (rv_ixL (SqL.of hm3) (atI_nat (j := 2) rfl))) (ev_var rfl) (ev_var rfl) (by rw [List.length_map, lR]; decide) fun G2 eG2 => ?_
        have eX : Ex H' (upd G2 q1 (.lst ((R.map V.ref).set 2 (.ref m2)))) := (eG.trans eG2).mut nq
        obtain ⟨tq, st3⟩ := after (L := ({ D with ds := D.ds ++ [(x, some zz, x)] } : PartsD)) (i := 2) st hPd' hq hN nd nq eG2 eX (Sw.ex (e'.trans (dl_ex eX)) _ _ M2) rfl
        generalize upd G2 q1 (.lst ((R.map V.ref).set 2 (.ref m2))) = G3 at eX tq st3
        have tq3 := tq.ex dl_up
        refine q_cut (M := fun σ2 H2 => ∃ s4 Ls, σ2 = [some (.ref p), some (.ref fl), some (.ref mp), some (.int 2), s4, s5, s6] ∧ ST K D fl H3 H2 Ls ∧ Ls.length ≤ 2 * 2 + 1) ?_ ?_
        · refine s_when (b := decide ((((({ D with ds := D.ds ++ [(x, some zz, x)] } : PartsD)).hs.map PyData.str).length : Int) < 4) && (decide ((((({ D with ds := D.ds ++ [(x, some zz, x)] } : PartsD)).ss.map PyData.str).length : Int) < 5) && decide ((((({ D with ds := D.ds ++ [(x, some zz, x)] } : PartsD)).ls.map PyData.str).length : Int) < 5))) (et_and (et_test (ev_op (ev_lenX (n := 0) (ev_var rfl) tq3 rfl) ev_c rv_I0)) fun _ => et_and (et_test (ev_op (ev_lenX (n := 1) (ev_var rfl) tq3 rfl) ev_c rv_I0)) fun _ => et_test (ev_op (ev_lenX (n := 4) (ev_var rfl) tq3 rfl) ev_c rv_I0)) (fun hb G4 e4 => ?_) (fun hb G4 e4 => ⟨_, Ls, rfl, st3.ex e4, by omega⟩)
          have st4 := st3.ex e4
          obtain ⟨xs, hx, hxs⟩ := st4.f
          have lx := swAll_len hxs
          rw [List.length_map] at lx
          have oth : Other D ({ D with ds := D.ds ++ [(x, some zz, x)] } : PartsD) := by
            simp only [Bool.and_eq_true, decide_eq_true_eq, List.length_map, List.length_append, List.length_cons, List.length_nil] at hb
            exact ⟨v2 gd (by have := o.d1; omega) hxm, eq5_2 (by show PyData.eqv (.list (D.ds.map enD)) (.list (List.map _ (_ ++ _))) = false; rw [List.map_append]; exact eqv_more _ _)⟩
          exact s_app hx (ev_var rfl) (ev_var rfl) (by omega) fun G5 e5 => ⟨_, Ls ++ [({ D with ds := D.ds ++ [(x, some zz, x)] } : PartsD)], rfl, (st4.ex e5).app (e5 _ _ hx) (SwAll.ex (dl_ex e5) _ _ hxs) ((tq.ex (dl_ex (e4.trans e5))).sw) oth, by rw [List.length_append]; show _ + 1 ≤ _; omega⟩
        · rintro σ2 H2 ⟨s4', Ls2, rfl, st2, l2⟩
          have hPd2 := hP3.ex st2.e
          have hP2 := hPd2.ex dl_up
          refine ⟨_, rfl, p, [a0, a1, a2, a3, a4], [D.hs.map V.str, D.ss.map V.str, R2.map V.ref, R3.map V.ref, D.ls.map V.str], rfl, SqL.of hP2.p, .cons (SqL.of hP2.h0) (.cons (SqL.of hP2.h1) (.cons (SqL.of hP2.h2) (.cons (SqL.of hP2.h3) (.cons (SqL.of hP2.h4) .nil)))), by show 5 ≤ 1000; decide, fun q2 G6 Rb nq2 eG6 hq2 hN2 nd2 => ?_⟩
          refine ⟨_, rfl, _, rfl, p, _, _, .ref a2, rfl, rfl, SqL.of (eG6 _ _ hP2.p), atI_nat (j := 2) rfl, a2, _, rfl, SqL.of (eG6 _ _ hP2.h2), fun bk nbk => ⟨_, _, rfl, ?_⟩⟩
          have nbk2 : H2 bk = none := fresh_back eG6 nbk
          have e7 := Ex.new (o := .lst (R2.map V.ref).reverse) nbk
          obtain ⟨ys, hy, _⟩ := st2.f
          have bkf : bk ≠ fl := (ne_of_none hy nbk2).symm
          have lR2 : Rb.length = 5 := new_len hN2
          have bkq : bk ≠ q2 := (ne_of_none hq2 nbk).symm
          have w2 : SwAll K (dl H2 fl) (R2.map V.ref) (D.ds.map enD) := sw_tups hPd2.t2
          refine q_setL (j := 2) (e7 _ _ hq2) (v := .ref bk) (ev_var rfl) (ev_var rfl) (ev_var rfl) (by rw [List.length_map, lR2]; decide) fun G8 e8 => ?_
          have eY : Ex H2 (upd G8 q2 (.lst ((Rb.map V.ref).set 2 (.ref bk)))) := ((eG6.trans e7).trans e8).mut nq2
          have hb8 : upd G8 q2 (.lst ((Rb.map V.ref).set 2 (.ref bk))) bk = some (.lst (R2.map V.ref).reverse) := by
            rw [upd_ne bkq]
            exact e8 _ _ upd_same
          have tbk : Sw K (dl (upd G8 q2 (.lst ((Rb.map V.ref).set 2 (.ref bk)))) fl) (.ref bk) (.list (D.ds.map enD).reverse) := .lst (SqL.of (by rw [dl_ne bkf]; exact hb8)) (swAll_rev (SwAll.ex (dl_ex eY) _ _ w2))
          obtain ⟨tq9, st9⟩ := after (L := ({ D with ds := D.ds.reverse } : PartsD)) (i := 2) st2 hPd2 hq2 hN2 nd2 nq2 (e7.trans e8) eY tbk (by simp [D5, strsD, List.map_reverse])
          generalize upd G8 q2 (.lst ((Rb.map V.ref).set 2 (.ref bk))) = G9 at eY tbk tq9 st9 hb8
          have col9 : Sw K G9 (.ref a2) (.list (D.ds.map enD)) := .lst (SqL.of (eY _ _ hP2.h2)) (SwAll.ex (dl_up.trans eY) _ _ w2)
          have shC : SeqAt.shaped (.list (D.ds.map enD)) = true := (good_shp gd).2.2.1
          have shR : SeqAt.shaped (.list (D.ds.map enD).reverse) = true := by
            rw [← List.map_reverse]
            exact (good_shp (r2 gd)).2.2.1
          refine s_when (b := !PyData.eqv (.list (D.ds.map enD).reverse) (.list (D.ds.map enD))) (et_test (ev_op (ev_var rfl) (ev_op (ev_var rfl) (ev_var rfl) (rv_ixL (SqL.of (eY _ _ hP2.p)) (atI_nat (j := 2) rfl))) fun H1 a Q q => ⟨_, _, sw_dp _ _ (Sw.ex (dl_up.trans a) _ _ tbk) (SeqAt.canLay_of_shaped shR), sw_dp _ _ (Sw.ex a _ _ col9) (SeqAt.canLay_of_shaped shC), shR, shC, q H1 (Ex.refl H1)⟩)) (fun hb GA eA => ?_) (fun hb GA eA => ⟨_, _, _, _, Ls2, rfl, st9.ex eA, by omega⟩)
          have stA := st9.ex eA
          obtain ⟨xs, hx, hxs⟩ := stA.f
          have lx := swAll_len hxs
          rw [List.length_map] at lx
          have oth : Other D ({ D with ds := D.ds.reverse } : PartsD) := ⟨r2 gd, eq5_2 (eqv_turn (by
            rw [Bool.not_eq_true'] at hb
            rw [← List.map_reverse] at hb
            exact hb))⟩
          exact s_app hx (ev_var rfl) (ev_var rfl) (by omega) fun GB eB => ⟨_, _, _, _, Ls2 ++ [({ D with ds := D.ds.reverse } : PartsD)], rfl, (stA.ex eB).app (eB _ _ hx) (SwAll.ex (dl_ex eB) _ _ hxs) ((tq9.ex (dl_ex (eA.trans eB))).sw) oth, by rw [List.length_append]; show _ + 1 ≤ _; omega⟩
      · -- at = 3
        refine ⟨_, rfl, p, [a0, a1, a2, a3, a4], [D.hs.map V.str, D.ss.map V.str, R2.map V.ref, R3.map V.ref, D.ls.map V.str], rfl, SqL.of hP'.p, .cons (SqL.of hP'.h0) (.cons (SqL.of hP'.h1) (.cons (SqL.of hP'.h2) (.cons (SqL.of hP'.h3) (.cons (SqL.of hP'.h4) .nil)))), by show 5 ≤ 1000; decide, fun q1 G1 R nq eG hq hN nd => ?_⟩
        have hm3 := eG _ _ (dl_up _ _ (e' _ _ hmp))
        have lR : R.length = 5 := new_len hN
        refine q_setL (j := 3) hq (v := .ref m3) (ev_op (ev_var rfl) (ev_var rfl) (rv_ixL (SqL.of hm3) (atI_nat (j := 3) rfl))) (ev_var rfl) (ev_var rfl) (by rw [List.length_map, lR]; decide) fun G2 eG2 => ?_
        have eX : Ex H' (upd G2 q1 (.lst ((R.map V.ref).set 3 (.ref m3)))) := (eG.trans eG2).mut nq
        obtain ⟨tq, st3⟩ := after (L := ({ D with rs := D.rs ++ [(x, some zz, x)] } : PartsD)) (i := 3) st hPd' hq hN nd nq eG2 eX (Sw.ex (e'.trans (dl_ex eX)) _ _ M3) rfl
        generalize upd G2 q1 (.lst ((R.map V.ref).set 3 (.ref m3))) = G3 at eX tq st3
        have tq3 := tq.ex dl_up
        refine q_cut (M := fun σ2 H2 => ∃ s4 Ls, σ2 = [some (.ref p), some (.ref fl), some (.ref mp), some (.int 3), s4, s5, s6] ∧ ST K D fl H3 H2 Ls ∧ Ls.length ≤ 2 * 3 + 1) ?_ ?_
        · refine s_when (b := decide ((((({ D with rs := D.rs ++ [(x, some zz, x)] } : PartsD)).hs.map PyData.str).length : Int) < 4) && (decide ((((({ D with rs := D.rs ++ [(x, some zz, x)] } : PartsD)).ss.map PyData.str).length : Int) < 5) && decide ((((({ D with rs := D.rs ++ [(x, some zz, x)] } : PartsD)).ls.map PyData.str).length : Int) < 5))) (et_and (et_test (ev_op (ev_lenX (n := 0) (ev_var rfl) tq3 rfl) ev_c rv_I0)) fun _ => et_and (et_test (ev_op (ev_lenX (n := 1) (ev_var rfl) tq3 rfl) ev_c rv_I0)) fun _ => et_test (ev_op (ev_lenX (n := 4) (ev_var rfl) tq3 rfl) ev_c rv_I0)) (fun hb G4 e4 => ?_) (fun hb G4 e4 => ⟨_, Ls, rfl, st3.ex e4, by omega⟩)
          have st4 := st3.ex e4
          obtain ⟨xs, hx, hxs⟩ := st4.f
          have lx := swAll_len hxs
          rw [List.length_map] at lx
          have oth : Other D ({ D with rs := D.rs ++ [(x, some zz, x)] } : PartsD) := by
            simp only [Bool.and_eq_true, decide_eq_true_eq, List.length_map, List.length_append, List.length_cons, List.length_nil] at hb
            exact ⟨v3 gd (by have := o.r1; omega) hxm hkz, eq5_3 (by show PyData.eqv (.list (D.rs.map enD)) (.list (List.map _ (_ ++ _))) = false; rw [List.map_append]; exact eqv_more _ _)⟩
          exact s_app hx (ev_var rfl) (ev_var rfl) (by omega) fun G5 e5 => ⟨_, Ls ++ [({ D with rs := D.rs ++ [(x, some zz, x)] } : PartsD)], rfl, (st4.ex e5).app (e5 _ _ hx) (SwAll.ex (dl_ex e5) _ _ hxs) ((tq.ex (dl_ex (e4.trans e5))).sw) oth, by rw [List.length_append]; show _ + 1 ≤ _; omega⟩
        · rintro σ2 H2 ⟨s4', Ls2, rfl, st2, l2⟩
          have hPd2 := hP3.ex st2.e
          have hP2 := hPd2.ex dl_up
          refine ⟨_, rfl, p, [a0, a1, a2, a3, a4], [D.hs.map V.str, D.ss.map V.str, R2.map V.ref, R3.map V.ref, D.ls.map V.str], rfl, SqL.of hP2.p, .cons (SqL.of hP2.h0) (.cons (SqL.of hP2.h1) (.cons (SqL.of hP2.h2) (.cons (SqL.of hP2.h3) (.cons (SqL.of hP2.h4) .nil)))), by show 5 ≤ 1000; decide, fun q2 G6 Rb nq2 eG6 hq2 hN2 nd2 => ?_⟩
          refine ⟨_, rfl, _, rfl, p, _, _, .ref a3, rfl, rfl, SqL.of (eG6 _ _ hP2.p), atI_nat (j := 3) rfl, a3, _, rfl, SqL.of (eG6 _ _ hP2.h3), fun bk nbk => ⟨_, _, rfl, ?_⟩⟩
          have nbk2 : H2 bk = none := fresh_back eG6 nbk
          have e7 := Ex.new (o := .lst (R3.map V.ref).reverse) nbk
          obtain ⟨ys, hy, _⟩ := st2.f
          have bkf : bk ≠ fl := (ne_of_none hy nbk2).symm
          have lR2 : Rb.length = 5 := new_len hN2
          have bkq : bk ≠ q2 := (ne_of_none hq2 nbk).symm
          have w2 : SwAll K (dl H2 fl) (R3.map V.ref) (D.rs.map enD) := sw_tups hPd2.t3
          refine q_setL (j := 3) (e7 _ _ hq2) (v := .ref bk) (ev_var rfl) (ev_var rfl) (ev_var rfl) (by rw [List.length_map, lR2]; decide) fun G8 e8 => ?_
          have eY : Ex H2 (upd G8 q2 (.lst ((Rb.map V.ref).set 3 (.ref bk)))) := ((eG6.trans e7).trans e8).mut nq2
          have hb8 : upd G8 q2 (.lst ((Rb.map V.ref).set 3 (.ref bk))) bk = some (.lst (R3.map V.ref).reverse) := by
            rw [upd_ne bkq]
            exact e8 _ _ upd_same
          have tbk : Sw K (dl (upd G8 q2 (.lst ((Rb.map V.ref).set 3 (.ref bk)))) fl) (.ref bk) (.list (D.rs.map enD).reverse) := .lst (SqL.of (by rw [dl_ne bkf]; exact hb8)) (swAll_rev (SwAll.ex (dl_ex eY) _ _ w2))
          obtain ⟨tq9, st9⟩ := after (L := ({ D with rs := D.rs.reverse } : PartsD)) (i := 3) st2 hPd2 hq2 hN2 nd2 nq2 (e7.trans e8) eY tbk (by simp [D5, strsD, List.map_reverse])
          generalize upd G8 q2 (.lst ((Rb.map V.ref).set 3 (.ref bk))) = G9 at eY tbk tq9 st9 hb8
          have col9 : Sw K G9 (.ref a3) (.list (D.rs.map enD)) := .lst (SqL.of (eY _ _ hP2.h3)) (SwAll.ex (dl_up.trans eY) _ _ w2)
          have shC : SeqAt.shaped (.list (D.rs.map enD)) = true := (good_shp gd).2.2.2.1
          have shR : SeqAt.shaped (.list (D.rs.map enD).reverse) = true := by
            rw [← List.map_reverse]
            exact (good_shp (r3 gd)).2.2.2.1
          refine s_when (b := !PyData.eqv (.list (D.rs.map enD).reverse) (.list (D.rs.map enD))) (et_test (ev_op (ev_var rfl) (ev_op (ev_var rfl) (ev_var rfl) (rv_ixL (SqL.of (eY _ _ hP2.p)) (atI_nat (j := 3) rfl))) fun H1 a Q q => ⟨_, _, sw_dp _ _ (Sw.ex (dl_up.trans a) _ _ tbk) (SeqAt.canLay_of_shaped shR), sw_dp _ _ (Sw.ex a _ _ col9) (SeqAt.canLay_of_shaped shC), shR, shC, q H1 (Ex.refl H1)⟩)) (fun hb GA eA => ?_) (fun hb GA eA => ⟨_, _, _, _, Ls2, rfl, st9.ex eA, by omega⟩)
          have stA := st9.ex eA
          obtain ⟨xs, hx, hxs⟩ := stA.f
          have lx := swAll_len hxs
          rw [List.length_map] at lx
          have oth : Other D ({ D with rs := D.rs.reverse } : PartsD) := ⟨r3 gd, eq5_3 (eqv_turn (by
            rw [Bool.not_eq_true'] at hb
            rw [← List.map_reverse] at hb
            exact hb))⟩
          exact s_app hx (ev_var rfl) (ev_var rfl) (by omega) fun GB eB => ⟨_, _, _, _, Ls2 ++ [({ D with rs := D.rs.reverse } : PartsD)], rfl, (stA.ex eB).app (eB _ _ hx) (SwAll.ex (dl_ex eB) _ _ hxs) ((tq9.ex (dl_ex (eA.trans eB))).sw) oth, by rw [List.length_append]; show _ + 1 ≤ _; omega⟩
      · -- at = 4
        refine ⟨_, rfl, p, [a0, a1, a2, a3, a4], [D.hs.map V.str, D.ss.map V.str, R2.map V.ref, R3.map V.ref, D.ls.map V.str], rfl, SqL.of hP'.p, .cons (SqL.of hP'.h0) (.cons (SqL.of hP'.h1) (.cons (SqL.of hP'.h2) (.cons (SqL.of hP'.h3) (.cons (SqL.of hP'.h4) .nil)))), by show 5 ≤ 1000; decide, fun q1 G1 R nq eG hq hN nd => ?_⟩
        have hm3 := eG _ _ (dl_up _ _ (e' _ _ hmp))
        have lR : R.length = 5 := new_len hN
        refine q_setL (j := 4) hq (v := .ref m4) (ev_op (ev_var rfl) (ev_var rfl) (rv_ixL (SqL.of hm3) (atI_nat (j := 4) rfl))) (ev_var rfl) (ev_var rfl) (by rw [List.length_map, lR]; decide) fun G2 eG2 => ?_
        have eX : Ex H' (upd G2 q1 (.lst ((R.map V.ref).set 4 (.ref m4)))) := (eG.trans eG2).mut nq
        obtain ⟨tq, st3⟩ := after (L := ({ D with ls := D.ls ++ [zz] } : PartsD)) (i := 4) st hPd' hq hN nd nq eG2 eX (Sw.ex (e'.trans (dl_ex eX)) _ _ M4) rfl
        generalize upd G2 q1 (.lst ((R.map V.ref).set 4 (.ref m4))) = G3 at eX tq st3
        have tq3 := tq.ex dl_up
        refine q_cut (M := fun σ2 H2 => ∃ s4 Ls, σ2 = [some (.ref p), some (.ref fl), some (.ref mp), some (.int 4), s4, s5, s6] ∧ ST K D fl H3 H2 Ls ∧ Ls.length ≤ 2 * 4 + 1) ?_ ?_
        · refine s_when (b := decide ((((({ D with ls := D.ls ++ [zz] } : PartsD)).hs.map PyData.str).length : Int) < 4) && (decide ((((({ D with ls := D.ls ++ [zz] } : PartsD)).ss.map PyData.str).length : Int) < 5) && decide ((((({ D with ls := D.ls ++ [zz] } : PartsD)).ls.map PyData.str).length : Int) < 5))) (et_and (et_test (ev_op (ev_lenX (n := 0) (ev_var rfl) tq3 rfl) ev_c rv_I0)) fun _ => et_and (et_test (ev_op (ev_lenX (n := 1) (ev_var rfl) tq3 rfl) ev_c rv_I0)) fun _ => et_test (ev_op (ev_lenX (n := 4) (ev_var rfl) tq3 rfl) ev_c rv_I0)) (fun hb G4 e4 => ?_) (fun hb G4 e4 => ⟨_, Ls, rfl, st3.ex e4, by omega⟩)
          have st4 := st3.ex e4
          obtain ⟨xs, hx, hxs⟩ := st4.f
          have lx := swAll_len hxs
          rw [List.length_map] at lx
          have oth : Other D ({ D with ls := D.ls ++ [zz] } : PartsD) := by
            simp only [Bool.and_eq_true, decide_eq_true_eq, List.length_map, List.length_append, List.length_cons, List.length_nil] at hb
            exact ⟨v4 gd z4 z3, eq5_4 (by show PyData.eqv (.list (D.ls.map PyData.str)) (.list (List.map _ (_ ++ _))) = false; rw [List.map_append]; exact eqv_more _ _)⟩
          exact s_app hx (ev_var rfl) (ev_var rfl) (by omega) fun G5 e5 => ⟨_, Ls ++ [({ D with ls := D.ls ++ [zz] } : PartsD)], rfl, (st4.ex e5).app (e5 _ _ hx) (SwAll.ex (dl_ex e5) _ _ hxs) ((tq.ex (dl_ex (e4.trans e5))).sw) oth, by rw [List.length_append]; show _ + 1 ≤ _; omega⟩
        · rintro σ2 H2 ⟨s4', Ls2, rfl, st2, l2⟩
          have hPd2 := hP3.ex st2.e
          have hP2 := hPd2.ex dl_up
          refine ⟨_, rfl, p, [a0, a1, a2, a3, a4], [D.hs.map V.str, D.ss.map V.str, R2.map V.ref, R3.map V.ref, D.ls.map V.str], rfl, SqL.of hP2.p, .cons (SqL.of hP2.h0) (.cons (SqL.of hP2.h1) (.cons (SqL.of hP2.h2) (.cons (SqL.of hP2.h3) (.cons (SqL.of hP2.h4) .nil)))), by show 5 ≤ 1000; decide, fun q2 G6 Rb nq2 eG6 hq2 hN2 nd2 => ?_⟩
          refine ⟨_, rfl, _, rfl, p, _, _, .ref a4, rfl, rfl, SqL.of (eG6 _ _ hP2.p), atI_nat (j := 4) rfl, a4, _, rfl, SqL.of (eG6 _ _ hP2.h4), fun bk nbk => ⟨_, _, rfl, ?_⟩⟩
          have nbk2 : H2 bk = none := fresh_back eG6 nbk
          have e7 := Ex.new (o := .lst (D.ls.map V.str).reverse) nbk
          obtain ⟨ys, hy, _⟩ := st2.f
          have bkf : bk ≠ fl := (ne_of_none hy nbk2).symm
          have lR2 : Rb.length = 5 := new_len hN2
          have bkq : bk ≠ q2 := (ne_of_none hq2 nbk).symm
          have w2 : SwAll K (dl H2 fl) (D.ls.map V.str) (D.ls.map PyData.str) := sw_strs _
          refine q_setL (j := 4) (e7 _ _ hq2) (v := .ref bk) (ev_var rfl) (ev_var rfl) (ev_var rfl) (by rw [List.length_map, lR2]; decide) fun G8 e8 => ?_
          have eY : Ex H2 (upd G8 q2 (.lst ((Rb.map V.ref).set 4 (.ref bk)))) := ((eG6.trans e7).trans e8).mut nq2
          have hb8 : upd G8 q2 (.lst ((Rb.map V.ref).set 4 (.ref bk))) bk = some (.lst (D.ls.map V.str).reverse) := by
            rw [upd_ne bkq]
            exact e8 _ _ upd_same
          have tbk : Sw K (dl (upd G8 q2 (.lst ((Rb.map V.ref).set 4 (.ref bk)))) fl) (.ref bk) (.list (D.ls.map PyData.str).reverse) := .lst (SqL.of (by rw [dl_ne bkf]; exact hb8)) (swAll_rev (SwAll.ex (dl_ex eY) _ _ w2))
          obtain ⟨tq9, st9⟩ := after (L := ({ D with ls := D.ls.reverse } : PartsD)) (i := 4) st2 hPd2 hq2 hN2 nd2 nq2 (e7.trans e8) eY tbk (by simp [D5, strsD, List.map_reverse])
          generalize upd G8 q2 (.lst ((Rb.map V.ref).set 4 (.ref bk))) = G9 at eY tbk tq9 st9 hb8
          have col9 : Sw K G9 (.ref a4) (.list (D.ls.map PyData.str)) := .lst (SqL.of (eY _ _ hP2.h4)) (SwAll.ex (dl_up.trans eY) _ _ w2)
          have shC : SeqAt.shaped (.list (D.ls.map PyData.str)) = true := (good_shp gd).2.2.2.2
          have shR : SeqAt.shaped (.list (D.ls.map PyData.str).reverse) = true := by
            rw [← List.map_reverse]
            exact (good_shp (r4 gd)).2.2.2.2
          refine s_when (b := !PyData.eqv (.list (D.ls.map PyData.str).reverse) (.list (D.ls.map PyData.str))) (et_test (ev_op (ev_var rfl) (ev_op (ev_var rfl) (ev_var rfl) (rv_ixL (SqL.of (eY _ _ hP2.p)) (atI_nat (j := 4) rfl))) fun H1 a Q q => ⟨_, _, sw_dp _ _ (Sw.ex (dl_up.trans a) _ _ tbk) (SeqAt.canLay_of_shaped shR), sw_dp _ _ (Sw.ex a _ _ col9) (SeqAt.canLay_of_shaped shC), shR, shC, q H1 (Ex.refl H1)⟩)) (fun hb GA eA => ?_) (fun hb GA eA => ⟨_, _, _, _, Ls2, rfl, st9.ex eA, by omega⟩)
          have stA := st9.ex eA
          obtain ⟨xs, hx, hxs⟩ := stA.f
          have lx := swAll_len hxs
          rw [List.length_map] at lx
          have oth : Other D ({ D with ls := D.ls.reverse } : PartsD) := ⟨r4 gd, eq5_4 (eqv_turn (by
            rw [Bool.not_eq_true'] at hb
            rw [← List.map_reverse] at hb
            exact hb))⟩
          exact s_app hx (ev_var rfl) (ev_var rfl) (by omega) fun GB eB => ⟨_, _, _, _, Ls2 ++ [({ D with ls := D.ls.reverse } : PartsD)], rfl, (stA.ex eB).app (eB _ _ hx) (SwAll.ex (dl_ex eB) _ _ hxs) ((tq9.ex (dl_ex (eA.trans eB))).sw) oth, by rw [List.length_append]; show _ + 1 ≤ _; omega⟩
    · rintro σ' H' ⟨s3, s4, s5, s6, Ls, rfl, st, lLs⟩
      obtain ⟨e', ⟨xs, hx, hxs⟩, sok⟩ := st
      have lLs' : Ls.length ≤ 10 := lLs
      exact s_ret (ev_var rfl) fun H5 e5 => kq fl H5 Ls nf ((eH3.trans e').trans (dl_up.trans e5)) lLs' ⟨xs, e5 _ _ hx, SwAll.ex (dl_up.trans e5) _ _ hxs⟩ sok
end
end OtB
/-! ### sets of texts: what stands, add -/
namespace STx
open PySem PySem.Spec PyProof.Rows L2
open PySem.Froz
/-- a set of the texts l stands at a, fit to be walked -/
def SetT (P : Program) (w : World) (h : Heap) (a : Addr) (l : List Str) : Prop := ∃ D : SD, h.get? a = some (sObj "set" D) ∧ TxOk P w D l ∧ Ris D.2.2.place.toList ∧ (w.params.followText "set-order" = true ∨ D.2.2.led = true) ∧ l.Nodup ∧ l.length < scanBound
theorem SetT.at {P : Program} {w : World} {h h' : Heap} {a : Addr} {l : List Str} (x : SetT P w h a l) (k : ∀ o, h.get? a = some o → h'.get? a = some o) : SetT P w h' a l := by
  obtain ⟨D, h1, r⟩ := x
  exact ⟨D, k _ h1, r⟩
theorem tail_ris {ep : Nat} {es : Array (Int × Value)} {t : SetTable} {b : Bool} (r : Ris t.place.toList) : Ris (tailTx ep es t b).2.2.place.toList ∧ (tailTx ep es t b).2.2.led = t.led := by
  unfold tailTx
  split
  · exact ⟨relayAll_ris _ _ _, relayAll_led _ _ _⟩
  · exact ⟨r, rfl⟩
theorem add_ris {h : Int} {v : Value} {D : SD} (r : Ris D.2.2.place.toList) : Ris (addTx h v D).2.2.place.toList ∧ (addTx h v D).2.2.led = D.2.2.led := by
  have r1 := layNew_ris D.2.2 D.1 h v r
  have l1 := layNew_led D.2.2 D.1 h v
  unfold addTx
  have q := tail_ris (ep := D.2.1) (es := (layNew D.2.2 D.1 h v).1) (t := if (layNew D.2.2 D.1 h v).2.1.plain = true then { (layNew D.2.2 D.1 h v).2.1 with plain := false } else (layNew D.2.2 D.1 h v).2.1) (b := (layNew D.2.2 D.1 h v).2.2.1) (by split <;> exact r1)
  refine ⟨q.1, q.2.trans ?_⟩
  split <;> exact l1
section
variable {P : Program} {w : World} {A : Around} {E : Value → Shared → Prop} {s : Shared} {a : Addr} {l : List Str} {k : Str} {u : Tok}
/-- what is in stays as it is -/
theorem add_in {Q : Bool → Shared → Prop} (R : SetT P w s.heap a l) (hk : k ∈ l) (h : Q false s) : wpAny (model P w) A (setAddHashed a (.str k u) (hashStr w k)) Q E s := by
  obtain ⟨D, ho, F, r, led, nd, hb⟩ := R
  obtain ⟨es, ep, t⟩ := D
  have hd : (sObj "set" (es, ep, t)).data = .set es ep t := rfl
  have hsz : es.size = l.length := F.sz
  have hb0 : es.size < scanBound := by omega
  unfold setAddHashed setAddHashedIn
  refine wpAny_holding (wpAny_bind (wpAny_setState_of ho hd F.fit ?_))
  dsimp only
  rw [byScan_of rfl hb0 F.el]
  simp only [↓reduceIte]
  unfold setAddByScan
  refine wpAny_bind (wpAny_bind (wpAny_rule (wpAny_bind (wpAny_setScan_of (knd := strKind P w) (k := k) (is_str k u) ho hd F.fit F.el ?_))))
  cases hfi : List.findIdx? (fun e => (strKind P w).is k e.2) es.toList with
  | some j =>
    dsimp only
    exact wpAny_pure (wpAny_pure h)
  | none =>
    obtain ⟨e, he, q⟩ := (F.mem k).mp hk
    have c := List.findIdx?_eq_none_iff.mp hfi e he
    rw [q] at c
    cases c
/-- with it, at the end of those that were in -/
def ins (l : List Str) (k : Str) : List Str := if k ∈ l then l else k :: l
theorem add_any {Q : Bool → Shared → Prop} (R : SetT P w s.heap a l) (room : l.length + 1 < scanBound) (h : ∀ h' b, Heap.SameBut a s.heap h' → SetT P w h' a (ins l k) → Q b { s with heap := h' }) : wpAny (model P w) A (setAddHashed a (.str k u) (hashStr w k)) Q E s := by
  by_cases hk : k ∈ l
  · refine add_in R hk ?_
    have q := h s.heap false (Heap.SameBut.refl a s.heap) (by unfold ins; rw [if_pos hk]; exact R)
    exact q
  · obtain ⟨D, ho, F, r, led, nd, hb⟩ := R
    refine add_x ho F hk room (h _ true (Heap.SameBut.update _ _ _) ?_)
    unfold ins
    rw [if_neg hk]
    have ra := add_ris (h := hashStr w k) (v := .str k u) r
    exact ⟨_, get_upd _ ho rfl, add_ok u F, ra.1, led.imp id fun z => by rw [ra.2]; exact z, List.nodup_cons.mpr ⟨hk, nd⟩, room⟩
end
end STx
namespace STx
open PySem PySem.Spec PyProof.Rows L2
open PySem.Froz
/-- the tracked set of texts -/
def SetTO (P : Program) (w : World) (a : Addr) (l : List Str) : HO := .ext fun h => SetT P w h a l
theorem setTO_new {P : Program} {w : World} {H : Hp} {h : Heap} {a : Addr} {l : List Str} (R : SetT P w h a l) : ObjOk P w H h a (SetTO P w a l) := by
  have ⟨D, ho, _⟩ := R
  exact ⟨R, ⟨_, ho⟩, fun _ _ p k => SetT.at p k⟩
theorem setT_new {P : Program} {h : Heap} (w : World) : SetT P w (h.push { cls := .type "set", dict := none, data := .set #[] 0 (.fresh 0 0 (!w.params.followText "set-order")) }) h.objs.size [] :=
  ⟨(#[], 0, .fresh 0 0 (!w.params.followText "set-order")), Heap.get?_push_size _ rfl, TxOk.nil (by rfl), List.Pairwise.nil, by
    show _ ∨ (!w.params.followText "set-order") = true
    cases w.params.followText "set-order" <;> simp, List.nodup_nil, by decide⟩
section
variable {X : Cx} {pins : List (Addr × Obj)} {σ : L2.St} {H : Hp} {s : Shared}
theorem setTO_get {a : Addr} {l : List Str} (I : Inv X pins σ H s) (ha : H a = some (SetTO X.prog X.w a l)) : SetT X.prog X.w s.heap a l := (I.hok a _ ha).1
/-- set.add of a text -/
theorem addT_ok {E : Value → Shared → Prop} {a : Addr} {l : List Str} {k : Str} {u : Tok} {Q : Value → Shared → Prop} (I : Inv X pins σ H s) (ha : H a = some (SetTO X.prog X.w a l)) (room : l.length + 1 < scanBound)
    (h : ∀ s', Inv X pins σ (upd H a (SetTO X.prog X.w a (ins l k))) s' → Q .none s') : wpAny (model X.prog X.w) X.A (call (.builtin "set.add") [.ref a, .str k u]) Q E s := by
  have R := setTO_get I ha
  obtain ⟨D, ho, _⟩ := id R
  refine wpAny_call_entry F.slot_set_add ⟨_, ho, rfl⟩ F.entry_set_add ?_ (F.args_set_add_2 _ _)
  unfold Builtin.«set.add» Builtin.Frozenset.oneOther
  simp only [List.isEmpty_nil, bind_assoc]
  unfold Builtin.Frozenset.addrOf setAdd
  refine wpAny_bind (wpAny_pure ?_)
  try dsimp only
  refine wpAny_bind (wpAny_pure ?_)
  try dsimp only
  refine wpAny_bind (wpAny_holding (wpAny_bind ((strKind X.prog X.w).pyHash (is_str k u) ?_)))
  refine add_any (s := { s with toks := s.toks + 1 }) R room fun h' b sb new => ?_
  obtain ⟨D', ho', _⟩ := id new
  show wpAny _ _ (ret Value.none) _ _ _
  exact wpAny_pure ⟨_, rfl, h _ (I.write (e := a) (t' := s.toks + 1) (by rw [ha]; trivial) (.inl rfl) (fun b u hb hu => (sb.2 b hb).trans hu) ⟨_, ho'⟩ (setTO_new new))⟩
end
end STx
/-! ### a set comprehension of texts -/
namespace STc
open PySem PySem.Spec PyProof.Rows L2 STx PpSet
/-- {elt for target in iter if ..}, elt a text: D is the new set -/
def tScT (P : Program) (w : World) (wi : TI) (g : TG) (tt : TT) (te : TE) (vs : List Nat) : TE := fun σ H Q => wi σ H fun J G => ∀ D, G D = none → ∃ W : Nat → Nat → Hp → Prop, (∃ m, W 0 m (upd G D (SetTO P w D []))) ∧ ∀ i m H, W i m H →
  (J.stop i H ∧ Q (.ref D) H) ∨ (J.go i H ∧ ∃ N : Hp → Prop, (∀ H', N H' → ∃ m', m' < m ∧ W (i + 1) m' H') ∧ ∀ x H', J.yld i H x H' → g x (wipe σ vs) H' fun τ H2 => wipe τ vs = wipe σ vs ∧ tt τ H2 fun b H3 =>
    if b = true then te τ H3 fun y H4 => ∃ (k : Str) (l : List Str), y = .str k ∧ H4 D = some (SetTO P w D l) ∧ l.length + 1 < scanBound ∧ N (upd H4 D (SetTO P w D (ins l k))) else N H3)
section
variable {X : Cx}
theorem pe_scT {elt tg iter : Expr} {ifs : List Expr} {scope : Scope} {own : List (PySem.Str × Nat)} {pos : Pos} {wi : TI} {g : TG} {tt : TT} {te : TE} (hc : X.calm = true) (hN : X.N.Nodup) (hi : PI X tg iter wi) (ok : BlkOk X.N X.env.scope scope own)
    (hg : ∀ (s : Shared) (H : Hp) (C : Addr) (cl : List (PySem.Str × Addr)) (fp : List Addr), PG (X.blk s H scope (compEnvC scope cl C X.env) fp) tg g) (ht : ∀ (s : Shared) (H : Hp) (C : Addr) (cl : List (PySem.Str × Addr)) (fp : List Addr), PTs (X.blk s H scope (compEnvC scope cl C X.env) fp) ifs tt)
    (he : ∀ (s : Shared) (H : Hp) (C : Addr) (cl : List (PySem.Str × Addr)) (fp : List Addr), PE (X.blk s H scope (compEnvC scope cl C X.env) fp) elt te) (hs : ∀ x, foldedSetIterable iter X.env x = pure x := by intro _; rfl) :
    PE X (.SetComp elt [⟨tg, iter, ifs, 0⟩] scope pos) (tScT X.prog X.w wi g tt te (own.map (·.2))) := by
  constructor
  intro pins s σ H Q I want
  rw [eval_SetComp]
  have has : ∀ y ∈ scope.names, y.2 = .free → ∃ c, X.env.cells.lookup y.1 = some c := fun y m e => (ok.free y m e).elim (fun k => I.ok.has _ (.inl k)) fun k => I.ok.has _ (.inr k)
  refine wpAny_comprehension_free (use := none) rfl hs (closure_ok has) ok.kind (fun y m e => by rw [ok.uniq y m, e]) (thn (hi.run pins s σ H _ I want) fun _ t1 made => thn made fun _ t2 out => ?_)
  obtain ⟨it, fp, tn, J, G, rfl, K2, T, at2, far2, q⟩ := out
  refine newSet_ok (newEnv_comp ?_)
  generalize eD : t2.heap.objs.size = D
  obtain ⟨W, ⟨m0, w0⟩, turn⟩ := q D (K2.hok.fresh (Nat.le_of_eq eD))
  generalize e3 : ({ t2 with heap := t2.heap.push { cls := .type "set", dict := none, data := .set #[] 0 (.fresh 0 0 (!X.w.params.followText "set-order")) } } : Shared) = t3
  have hp3 : t3.heap = t2.heap.push { cls := .type "set", dict := none, data := .set #[] 0 (.fresh 0 0 (!X.w.params.followText "set-order")) } := by rw [← e3]
  have K3 : Inv X pins σ (upd G D (SetTO X.prog X.w D [])) t3 := by
    rw [← e3]
    refine K2.laid (t' := t2.toks) (fun _ _ z => Heap.get?_push_of_some _ z) (Nat.le_of_eq eD) ?_
    rw [← eD]
    exact setTO_new (setT_new X.w)
  have below : ∀ b ∈ fp, b < t2.heap.objs.size := fun b m => by
    obtain ⟨_, z, _⟩ := T.obj _ _ at2 b m
    exact Heap.lt_size z
  have far3 : ∀ b ∈ fp, FpOk X pins (upd G D (SetTO X.prog X.w D [])) b ∧ b < t3.heap.objs.size := fun b m => by
    have lt := below b m
    refine ⟨⟨?_, (far2 b m).2⟩, by rw [hp3, Heap.size_push]; exact Nat.lt_succ_of_lt lt⟩
    rw [upd_ne (by rw [← eD]; exact Nat.ne_of_lt lt)]
    exact (far2 b m).1
  have at3 : tn 0 t3.heap := T.keep _ _ _ at2 fun _ _ _ z => by rw [hp3]; exact Heap.get?_push_of_some _ z
  have K4 := block_start K3 ok hN far3
  have none3 : ∀ b ∈ fp, (upd G D (SetTO X.prog X.w D [])) b = none := fun b m => (far3 b m).1.1
  have rg := hg t3 (upd G D (SetTO X.prog X.w D [])) t3.heap.objs.size (cellsFrom (t3.heap.objs.size + 1) scope.names (cloFrom X.env.cells scope.names [])) fp
  have rt := ht t3 (upd G D (SetTO X.prog X.w D [])) t3.heap.objs.size (cellsFrom (t3.heap.objs.size + 1) scope.names (cloFrom X.env.cells scope.names [])) fp
  have re := he t3 (upd G D (SetTO X.prog X.w D [])) t3.heap.objs.size (cellsFrom (t3.heap.objs.size + 1) scope.names (cloFrom X.env.cells scope.names [])) fp
  refine (show codeAny _ _ (.compStart (.SetComp elt [⟨tg, iter, ifs, 0⟩] scope pos) 0 (.ref it) (.ref D) (compEnvC scope (cellsFrom (t3.heap.objs.size + 1) scope.names (cloFrom X.env.cells scope.names [])) t3.heap.objs.size X.env)) (compPost (model X.prog X.w) X.A X.xe none (EP X pins σ Q) (.ref D) t3.heap.objs.size) { t3 with heap := pushCells (t3.heap.push { cls := .type "dict", data := .dict #[] }) scope.names } from ?_)
  generalize eE : compEnvC scope (cellsFrom (t3.heap.objs.size + 1) scope.names (cloFrom X.env.cells scope.names [])) t3.heap.objs.size X.env = env2 at K4 rg rt re ⊢
  have locE : env2.locals = t3.heap.objs.size := by
    subst eE
    rfl
  generalize eG : upd G D (SetTO X.prog X.w D []) = G3 at K3 K4 rg rt re w0 none3 far3
  generalize e4 : ({ t3 with heap := pushCells (t3.heap.push { cls := .type "dict", data := .dict #[] }) scope.names } : Shared) = t4 at K4 ⊢
  have at4 : tn 0 t4.heap := T.keep _ _ _ at3 fun _ _ _ z => by rw [← e4]; exact pushCells_keeps _ _ _ _ (Heap.get?_push_of_some _ z)
  have away : ∀ {τ : L2.St} {H' : Hp} {z : Shared}, Inv (X.blk t3 G3 scope env2 fp) [] τ H' z → (∀ b ∈ fp, H' b = none) → ∀ b ∈ fp, FpOk (X.blk t3 G3 scope env2 fp) [] H' b := fun {τ H' z} K nn b m =>
    ⟨nn b m, (K.ok.exf b m).1, K.ok.exfs b m, .inl m, fun x c e => (K.ok.exf b m).2 x c e, fun p hp => absurd (show p ∈ ([] : List (Addr × Obj)) ++ [] from hp) (by simp)⟩
  have round : codeAny (model X.prog X.w) X.A (.compLoop (.SetComp elt [⟨tg, iter, ifs, 0⟩] scope pos) 0 (.ref it) (.ref D) env2) (compPost (model X.prog X.w) X.A X.xe none (EP X pins σ Q) (.ref D) t3.heap.objs.size) t4 := by
    refine compLoopS_any (fun c z => ∃ i H', Inv (X.blk t3 G3 scope env2 fp) [] (wipe σ (own.map (·.2))) H' z ∧ tn i z.heap ∧ (∀ b ∈ fp, H' b = none) ∧ W i c H') ?_ m0 ⟨0, G3, K4, at4, none3, w0⟩
    rintro c t5 ⟨i, G5, K5, at5, none5, w5⟩
    rcases turn i c G5 w5 with ⟨stop, fin⟩ | ⟨go, N, less, step⟩
    · refine thnF (T.done (X.blk t3 G3 scope env2 fp) rfl rfl rfl hc i [] t5 _ G5 (fun _ _ => False) K5 (away K5 none5) at5 stop) fun r t6 ⟨er, K6⟩ => ?_
      subst er
      have K7 : Inv X pins σ G5 t6 := K3.call' (ch := fp) K6.os K6.base K6.hok K6.bare fun b m => ⟨(far3 b m).1.2.2.2.1, (far3 b m).1.2.1, (far3 b m).1.2.2.2.2.1, (far3 b m).1.2.2.2.2.2⟩
      have gone : G5 t3.heap.objs.size = none := by
        have z : G5 env2.locals = none := K6.free
        rwa [locE] at z
      obtain ⟨mm, ns, _⟩ := K6.loc
      have ns' : t6.heap.Ns env2.locals mm := ns
      rw [locE] at ns'
      obtain ⟨f0, f1, f2, f3, f4, f5⟩ := K3.fpOk (Nat.le_refl _) gone
      exact ⟨mm, ns', fun h'' sb => ⟨.ref D, G5, K7.turned (t' := t6.toks) (fun b o hb z => (sb.2 b hb).trans z) f0 f1 f3 f4 f5, rfl, fin⟩⟩
    · refine thnF (T.item (X.blk t3 G3 scope env2 fp) rfl rfl rfl hc i [] t5 _ G5 (fun _ _ => False) K5 (away K5 none5) at5 go) fun r t6 ⟨u, er, k6⟩ => ?_
      subst er
      refine thnF k6 fun _ t7 ⟨x, G7, K7, r7, y7, at7, none7⟩ => ?_
      refine thnF (rg.run _ t7 _ G7 x u _ (K7.pinned (away K7 none7) (T.obj _ _ at7)) r7 (step x G7 y7)) fun _ t8 ⟨τ, G8, K8, same, q8⟩ => ?_
      refine thnF (rt.run _ t8 τ G8 _ K8 q8) fun b t9 ⟨G9, K9, q9⟩ => ?_
      have on : ∀ {z : Shared} {H' : Hp}, Inv (X.blk t3 G3 scope env2 fp) ([] ++ pinsAt fp t7.heap) τ H' z → N H' → ∃ c', c' < c ∧ ∃ i H', Inv (X.blk t3 G3 scope env2 fp) [] (wipe σ (own.map (·.2))) H' z ∧ tn i z.heap ∧ (∀ b ∈ fp, H' b = none) ∧ W i c' H' := fun {z H'} K n => by
        obtain ⟨c', lt, w'⟩ := less H' n
        have pinned : ∀ b ∈ fp, ∀ o, t7.heap.get? b = some o → z.heap.get? b = some o ∧ H' b = none := fun b m o e =>
          have y := K.pin (b, o) (List.mem_append_right _ (List.mem_append_right _ (mem_pinsAt m e)))
          ⟨y.1, y.2.1⟩
        refine ⟨c', lt, i + 1, H', (K.unpinned (pins := [])).weak (by rw [← same, wipe_length]) (fun j v e => ?_), T.keep _ _ _ at7 fun b m o e => (pinned b m o e).1, fun b m => ?_, w'⟩
        · rw [← same] at e
          exact (wipe_some e).1
        · obtain ⟨o, e, _⟩ := T.obj _ _ at7 b m
          exact (pinned b m o e).2
      cases b with
      | true =>
        simp only [if_true] at q9 ⊢
        refine thnF (re.run _ t9 τ G9 _ K9 q9) fun v t10 ⟨yv, G10, K10, r10, k, l, ey, hD, room, n⟩ => ?_
        subst ey
        obtain ⟨tk, rfl⟩ := (show ∃ tk, v = Value.str k tk from r10)
        exact addT_ok (X := X.blk t3 G3 scope env2 fp) K10 hD room fun t11 K11 => on K11 n
      | false =>
        simp only [Bool.false_eq_true, if_false] at q9 ⊢
        exact on K9 q9
  exact codeAny_compStart_set round (T.self X.A 0 _ _ _ at4 round)
end
end STc
/-! ### sorted of a set of texts -/
namespace STs
open PySem PySem.Spec PyProof.Rows L2 STx
open PySem.Froz
theorem perm_of {α : Type} [DecidableEq α] : ∀ (l e : List α), l.Nodup → (∀ x ∈ l, x ∈ e) → e.length = l.length → e.Perm l
  | [], e, _, _, h => by
    have : e = [] := List.length_eq_zero_iff.mp h
    rw [this]
  | x :: l, e, nd, sub, h => by
    obtain ⟨n1, n2⟩ := List.nodup_cons.mp nd
    have mx := sub x (List.mem_cons_self ..)
    have p1 := List.perm_cons_erase mx
    have le : (e.erase x).length = l.length := by
      have := p1.length_eq
      rw [List.length_cons] at this
      rw [List.length_cons] at h
      omega
    exact p1.trans ((perm_of l (e.erase x) n2 (fun y m => (List.mem_erase_of_ne (fun q => n1 (by rw [← q]; exact m))).mpr (sub y (List.mem_cons_of_mem _ m))) le).cons x)
theorem strsAre_of {P : Program} {w : World} {es : List (Int × Value)} (h : PySem.ElemsOf (PySem.strKind P w) es) : ∀ v ∈ es.map (·.2), ∃ x t, v = Value.str x t := by
  intro v hv
  obtain ⟨e, he, rfl⟩ := List.mem_map.mp hv
  obtain ⟨⟨k, hk, _⟩, _⟩ := h e he
  obtain ⟨t, q⟩ := Value.isStrOf_shape hk
  exact ⟨k, t, q⟩
section
variable {P : Program} {w : World} {A : Around} {E : Value → Shared → Prop} {s : Shared} {a : Addr} {l : List Str}
theorem sorted_T {Q : Value → Shared → Prop} (R : SetT P w s.heap a l) (hh : A.handled = none) (h64 : l.length < 64)
    (hQ : ∀ s' p (out : Array Value) (c : Nat) (ss : List Str), (∀ b o, s.heap.get? b = some o → s'.heap.get? b = some o) → s'.gens = s.gens → s'.os = s.os → s.heap.objs.size ≤ p →
      s'.heap.get? p = some (seqObj "list" out c) → StrsAre out.toList ss → ss.Perm l → sortedS ss = true → Q (.ref p) s') : wpAny (model P w) A (call (.builtin "sorted") [.ref a]) Q E s := by
  obtain ⟨⟨es, ep, t⟩, ho, F, r, led, nd, hb⟩ := R
  have hsz : es.size = l.length := F.sz
  have hel := F.el
  refine Calls.call_function_entry kind_sorted plain_sorted entry_sorted (args_sorted1 _) ?_
  unfold Builtin.«sorted»
  refine wpAny_bind (m := checkCount "sorted" 1 1 _) (wpAny_pure ?_)
  refine wpAny_bind (collect_set (A := A.in1) hh ⟨_, ho, rfl, rfl⟩ F.fit (by show es.size < scanBound; rw [hsz]; exact hb) r led fun s1 vs k1 hz g1 o1 pm => ?_)
  have hvl : vs.length = l.length := by rw [pm.length_eq, List.length_map, Array.length_toList]; exact hsz
  have hst : StrsAre vs (vs.map strOf) := strsAre_map vs fun v hv => strsAre_of hel v (pm.mem_iff.mp hv)
  have pl : (vs.map strOf).Perm l := by
    refine perm_of l _ nd (fun x m => ?_) (by rw [List.length_map]; exact hvl)
    obtain ⟨e, he, q⟩ := (F.mem x).mp m
    obtain ⟨tk, q2⟩ := Value.isStrOf_shape q
    refine List.mem_map.mpr ⟨e.2, pm.mem_iff.mpr (List.mem_map_of_mem he), ?_⟩
    rw [q2]
    rfl
  refine wpAny_bind (wpAny_newList ?_ (by rw [hvl, sizeLine_eq]; omega))
  have hoL : (s1.heap.push (seqObj "list" vs.toArray 0)).get? s1.heap.objs.size = some (seqObj "list" vs.toArray 0) := Heap.get?_push_size _ rfl
  refine wpAny_bind (wpAny_holding (wpAny_call_entry slot_list_sort ⟨_, hoL, rfl⟩ entry_list_sort (list_sort_treeK strKind_oneLt hoL hst.keysOf (fun v₁ v₂ rest e => keyKind_strs (by rw [← e]; exact hst)) (by rw [hvl]; exact h64) fun st' a1 a2 => ⟨_, rfl, ?_⟩) (args_list_sort _)))
  obtain ⟨ss, b1, b2, b3⟩ := sorted_out_str hst a1 a2
  obtain ⟨c, hc⟩ := sortedHeap_at (vs := vs) (out := (arrOf st').map (·.2)) hoL
  refine wpAny_pure ⟨_, rfl, hQ _ s1.heap.objs.size _ c ss (fun b u e => ?_) g1 o1 hz hc b1 (b2.trans pl) b3⟩
  have q := k1 b u e
  have hlt := Heap.lt_size q
  show (sortedHeap (s1.heap.push (seqObj "list" vs.toArray 0)) s1.heap.objs.size vs ((arrOf st').map (·.2))).get? b = some u
  rw [sortedHeap_old (Nat.ne_of_lt hlt) (by rw [size_push']; exact Nat.lt_succ_of_lt hlt)]
  exact Heap.get?_push_of_some _ q
end
theorem vals_strsAre : ∀ {us : List Value} {ss : List Str}, StrsAre us ss → Vals (ss.map V.str) us
  | _, _, .nil => .nil
  | _, _, .cons y t h => .cons ⟨t, rfl⟩ (vals_strsAre h)
/-- sorted(a set of texts): a new list -/
def rSortT (P : Program) (w : World) : List V → Hp → VK → Prop := fun vs H Q => ∃ (a : Addr) (l : List Str), vs = [V.ref a] ∧ H a = some (SetTO P w a l) ∧ l.length < 64 ∧
  ∀ (ss : List Str) (p : Addr), ss.Perm l → sortedS ss = true → H p = none → Q (.ref p) (upd H p (.lst (ss.map V.str)))
theorem cr_sortT {X : Cx} (hc : X.calm = true) : CallR X (.builtin "sorted") (rSortT X.prog X.w) := by
  intro pins s σ H vs us Q I r h
  obtain ⟨a, l, rfl, ha, h64, q⟩ := h
  rw [Vals.ref1 r]
  refine sorted_T (setTO_get I ha) (I.ok.hd hc) h64 fun s' p out c ss k g o hp hg hi pm so => ?_
  have hlen : (ss.map V.str).length ≤ sizeLine := by rw [List.length_map, pm.length_eq, sizeLine_eq]; omega
  have hn : H p = none := I.hok.fresh hp
  have J : Inv X pins σ (upd H p (.lst (ss.map V.str))) { s with heap := s'.heap, gens := s'.gens, drawn := s'.drawn, toks := s'.toks } :=
    I.call (ch := []) (Un.laid k hp hn) (I.hok.laid k hp ⟨hlen, out.toList, c, vals_strsAre hi, hg⟩) (by rw [g]; exact I.bare) (fun _ z => nomatch z)
  have e : s' = { s with heap := s'.heap, gens := s'.gens, drawn := s'.drawn, toks := s'.toks } := by
    cases s'
    cases s
    cases o
    rfl
  rw [e]
  exact ⟨.ref p, _, J, rfl, q ss p pm so hn⟩
end STs

/-! ### set(a list of texts) -/
namespace SFl
open PySem PySem.Spec PyProof.Rows L2 STx
def fromL (xs : List Str) (i : Nat) : List Str := (xs.take i).foldl ins []
theorem ins_le (l : List Str) (k : Str) : (ins l k).length ≤ l.length + 1 := by
  unfold ins
  split
  · omega
  · simp
theorem from_succ {xs : List Str} {i : Nat} (h : i < xs.length) : fromL xs (i + 1) = ins (fromL xs i) (xs.getD i Str.empty) := by
  unfold fromL
  rw [List.take_succ, List.getElem?_eq_getElem h, Option.toList_some, List.foldl_append]
  simp only [List.foldl_cons, List.foldl_nil]
  rw [List.getD_eq_getElem?_getD, List.getElem?_eq_getElem h]
  rfl
theorem from_le (xs : List Str) : ∀ i, i ≤ xs.length → (fromL xs i).length ≤ i
  | 0, _ => by simp [fromL]
  | i + 1, h => by
    rw [from_succ (by omega)]
    have a := ins_le (fromL xs i) (xs.getD i Str.empty)
    have b := from_le xs i (by omega)
    omega
/-- the new, empty set -/
abbrev emp (w : World) : Obj := { cls := .type "set", dict := none, data := .set #[] 0 (.fresh 0 0 (!w.params.followText "set-order")) }
section
variable {pr : Program} {w : World} {A : Around} {R : Result → Shared → Prop} {it : Addr} {fp wr : List Addr} {G : Array GenState → Array GenState → Prop} {n : Nat} {P : Nat → Value → Prop} {Z : Nat → Shared → Prop}
theorem loopT (W : WalksS pr w A.in1 it fp wr G n P Z) {D : Addr} (nf : D ∉ fp) {xs : List Str} (hx : xs.length = n) (hb : n + 1 < scanBound)
    (hv : ∀ i v, P i v → ∃ t, v = .str (xs.getD i Str.empty) t) : ∀ (k i : Nat) (z : Shared), n - i = k → i ≤ n → Z i z → SetT pr w z.heap D (fromL xs i) →
      (∀ z', Moved (D :: wr) G z z' → SetT pr w z'.heap D (fromL xs n) → R (.ok (.ret .none)) z') →
      codeAny (model pr w) A (.builtin "set.update.loop" ⟨[.ref D, .ref it], []⟩) R z := by
  have nw : D ∉ wr := fun h => nf (W.sub _ h)
  have up : ∀ b ∈ wr, b ∈ D :: wr := fun b m => List.mem_cons_of_mem _ m
  intro k
  induction k with
  | zero =>
    intro i z hk hi at0 own fin
    obtain rfl : i = n := by omega
    refine codeAny_builtin PyProof.Rows.F.entry_set_update_loop ?_
    rw [Around.under_plainId PyProof.Rows.F.plain_set_update_loop _]
    show wpAny _ A.in1 (pyNext (.ref it) >>= _) _ _ z
    refine wpAny_bind (W.done z _ _ at0 fun z1 mv => ?_)
    show wpAny _ A.in1 (ret Value.none) _ _ z1
    exact wpAny_pure (fin z1 (mv.mono up) (own.at fun o e => mv.heap D _ nw e))
  | succ k ih =>
    intro i z hk hi at0 own fin
    have lt : i < n := by omega
    refine codeAny_builtin PyProof.Rows.F.entry_set_update_loop ?_
    rw [Around.under_plainId PyProof.Rows.F.plain_set_update_loop _]
    show wpAny _ A.in1 (pyNext (.ref it) >>= _) _ _ z
    refine wpAny_bind (W.item i z _ _ lt at0 fun v z1 pv at1 mv => ?_)
    obtain ⟨t, rfl⟩ := hv i v pv
    have own1 : SetT pr w z1.heap D (fromL xs i) := own.at fun o e => mv.heap D _ nw e
    show wpAny _ A.in1 (holding [Value.str (xs.getD i Str.empty) t] (setAdd D (.str (xs.getD i Str.empty) t)) >>= _) _ _ z1
    refine wpAny_bind (wpAny_holding ?_)
    unfold setAdd
    refine wpAny_holding ?_
    refine wpAny_bind ((strKind pr w).pyHash (Froz.is_str (xs.getD i Str.empty) t) ?_)
    have room : (fromL xs i).length + 1 < scanBound := by
      have := from_le xs i (by omega)
      omega
    refine add_any (s := { z1 with toks := z1.toks + 1 }) own1 room fun h' b sb own2 => ?_
    rw [← from_succ (by omega)] at own2
    refine wpAny_pure ⟨plainId_quiet PyProof.Rows.F.plain_set_update_loop _, ih (i + 1) _ (by omega) lt (W.frame _ z1 _ _ at1 (Nat.le_succ _) fun b m o e => ?_) own2 fun z2 mv2 own3 => ?_⟩
    · exact (sb.2 b fun q : b = D => nf (by rw [← q]; exact m)).trans e
    · refine fin z2 (Moved.trans W.gtrans ((mv.mono up).then_heap (Nat.le_succ _) fun b o m e => ?_) mv2) own3
      exact (sb.2 b fun q : b = D => m (by rw [q]; exact List.mem_cons_self)).trans e
end
section
variable {pr : Program} {w : World} {A : Around} {E : Value → Shared → Prop} {s : Shared}
theorem new_led (a : Value) {Q1 : Value → Shared → Prop} (h : Q1 (.ref s.heap.objs.size) { s with heap := s.heap.push (emp w) }) :
    codeAny (model pr w) A (.call (.builtin "set.__new__") ⟨[.type "set", a], []⟩) (wants Q1 E) s := by
  refine codeAny_of_tree ?_
  show wpAny _ A.in1 (do checkBuiltinCall "set.__new__" ⟨[.type "set", a], []⟩; again (.builtin "set.__new__" ⟨[.type "set", a], []⟩)) _ _ s
  refine wpAny_bind (wpAny_of_eq (PySem.F.newCall_set_1 a) (wpAny_pure ⟨plainId_quiet PySem.F.plain_set_new _, codeAny_builtin PySem.F.entry_set_new ?_⟩))
  rw [Around.under_plainId PySem.F.plain_set_new _]
  unfold Builtin.«set.__new__» Builtin.Frozenset.newClass
  have sub := sub_set_self
  obtain ⟨hp, g, d, tk, os⟩ := s
  dsimp only
  wp_walk
  refine wpAny_askSetting (wpAny_pure ?_)
  dsimp only
  simp only [newObj]
  refine wpAny_bind (wpAny_alloc (wpAny_pure ?_))
  exact wpAny_pure h
set_option maxHeartbeats 3200000 in
theorem call_setL {l : Addr} {its : Array Value} {xs : List Str} {Q : Value → Shared → Prop} (hh : A.handled = none) (hl : s.heap.IsList l its) (hi : StrsAre its.toList xs) (hb : xs.length + 1 < scanBound)
    (fin : ∀ (h' : Heap) (tk : Nat), SetT pr w h' s.heap.objs.size (fromL xs xs.length) → (∀ b o, s.heap.get? b = some o → h'.get? b = some o) → Q (.ref s.heap.objs.size) { s with heap := h', toks := tk }) :
    wpAny (model pr w) A (call (.type "set") [.ref l]) Q E s := by
  obtain ⟨c, tl, mro⟩ := PySem.F.called_set.mro
  have made := PySem.F.called_set.made
  have sub := PySem.F.called_set.sub
  refine wpAny_call (codeAny_of_tree ?_)
  show wpAny _ _ (callAny (.type "set") _) _ _ _
  refine wpAny_pure ⟨Code.quiet_builtin _ (by decide +kernel), codeAny_builtin PySem.F.entry_type_call ?_⟩
  rw [Around.under_plain (weight_type_call_type "set" [.ref l] []) rfl]
  have k1 := PySem.F.called_set.notType
  have k2 := PySem.F.called_set.canCreate
  have k3 := PySem.F.typeCall_set_1 (.ref l)
  repeat (any_goals (first | assumption | wp_step))
  refine codeAny_mono (new_led (.ref l) (E := E) (Q1 := fun o s1 => o = .ref s.heap.objs.size ∧ s1 = { s with heap := s.heap.push (emp w) }) ⟨rfl, rfl⟩) fun r s1 hr => ?_
  cases r with
  | error e => exact hr
  | ok fl =>
    cases fl with
    | ret o =>
      obtain ⟨rfl, rfl⟩ := hr
      have gD : (s.heap.push (emp w)).get? s.heap.objs.size = some (emp w) := Heap.get?_push_size _ rfl
      have tD : Shared.TypeIs { s with heap := s.heap.push (emp w) } (.ref s.heap.objs.size) "set" := ⟨_, gD, rfl⟩
      have k4 := PySem.F.called_set.init.lookup
      have k5 := PySem.F.called_set.init.bind (.ref s.heap.objs.size)
      repeat (any_goals (first | assumption | wp_step))
      refine codeAny_mono (codeAny_call_builtin (R := wants (fun r s2 => r = .none ∧ ∃ h' tk, s2 = { s with heap := h', toks := tk } ∧ SetT pr w h' s.heap.objs.size (fromL xs xs.length) ∧
          (∀ b o, s.heap.get? b = some o → h'.get? b = some o)) E) PySem.F.called_set.init.plain PySem.F.entry_set_init (check_set_init_1 tD ?_)) fun r2 s2 hr2 => ?_
      · obtain ⟨⟨oc, od, odt, osl⟩, go, co, nl, dato⟩ := hl
        simp only at co dato
        subst co
        subst dato
        have go' : (s.heap.push (emp w)).get? l = some { cls := .type "list", dict := od, data := .seq its nl, slots := osl } := Heap.get?_push_of_some _ go
        have k6 := PySem.F.sub_list_set
        have k7 := PySem.F.sub_list_frozenset
        have k8 : (Value.type "list" == Value.type "dict") = false := by decide
        have isl : (s.heap.push (emp w)).IsList l its := ⟨_, go', rfl, nl, rfl⟩
        unfold Builtin.«set.__init__» noKeywords Builtin.Frozenset.updateFrom
        generalize ePI : pyIter = PI
        wp_walk
        subst ePI
        refine wpAny_pyIter_list isl ?_
        refine wpAny_bind (wpAny_runValue ?_)
        have ltl : l < s.heap.objs.size := Heap.lt_size go
        have hh3 : A.in1.in1.in1.handled = none := by simp [hh]
        have nI : l ≠ (s.heap.push (emp w)).objs.size := by
          rw [Heap.size_push]
          exact Nat.ne_of_lt (Nat.lt_succ_of_lt ltl)
        have nf : s.heap.objs.size ∉ [(s.heap.push (emp w)).objs.size, l] := by
          rw [Heap.size_push]
          simp only [List.mem_cons, List.mem_singleton, List.not_mem_nil, or_false, not_or]
          exact ⟨Nat.ne_of_lt (Nat.lt_succ_self _), Nat.ne_of_gt ltl⟩
        have hx : xs.length = its.size := by rw [← StrsAre.len_eq hi, Array.length_toList]
        refine loopT ((Walks.list hh3 _ l nI its).toS) nf hx (by omega) (fun i v hv => SS.strs_at hi i v (by rw [Array.getElem?_toList]; exact hv)) (its.size - 0) 0 _ (by omega) (Nat.zero_le _)
          ⟨⟨_, Heap.get?_push_size _ rfl, rfl, rfl⟩, (isl.push _)⟩ ((setT_new w).at fun o e => Heap.get?_push_of_some _ e) fun z' mv own => ?_
        obtain ⟨h', g', d', tk', os'⟩ := z'
        obtain rfl : g' = s.gens := mv.gens
        obtain rfl : d' = s.drawn := mv.drawn
        obtain rfl : os' = s.os := mv.os
        show wpAny _ _ _ _ _ _
        refine wpAny_pure ?_
        show wpAny _ _ (ret Value.none) _ _ _
        refine wpAny_pure ⟨rfl, h', tk', rfl, by rw [hx]; exact own, fun b o e => ?_⟩
        have lb : b < s.heap.objs.size := Heap.lt_size e
        refine mv.heap b o ?_ (Heap.get?_push_of_some _ (Heap.get?_push_of_some _ e))
        have n2 : b ≠ (s.heap.push (emp w)).objs.size := by
          rw [Heap.size_push]
          exact Nat.ne_of_lt (Nat.lt_succ_of_lt lb)
        simp only [List.mem_cons, List.mem_singleton, List.not_mem_nil, or_false, not_or]
        exact ⟨Nat.ne_of_lt lb, n2⟩
      · cases r2 with
        | error e => exact hr2
        | ok f2 =>
          cases f2 with
          | ret r =>
            obtain ⟨rfl, h', tk, rfl, own, keep⟩ := hr2
            repeat (any_goals (first | assumption | wp_step))
            exact fin _ _ own keep
          | _ => exact hr2.elim
    | _ => exact hr.elim
end
/-- set(a list of texts): a new set -/
def rSetL (P : Program) (w : World) (K : PySem.W.Frag) : List V → Hp → VK → Prop := fun vs H Q => ∃ (l : Addr) (xs : List Str), vs = [V.ref l] ∧ SqL K H l (xs.map V.str) ∧ xs.length + 1 < scanBound ∧
  ∀ p, H p = none → Q (.ref p) (upd H p (SetTO P w p (fromL xs xs.length)))
theorem cr_setL {X : Cx} (hc : X.calm = true) : CallR X (.type "set") (rSetL X.prog X.w X.K) := by
  intro pins s σ H vs us Q I r h
  obtain ⟨l, xs, rfl, hq, hb, q⟩ := h
  rw [Vals.ref1 r]
  obtain ⟨its, rv, pl, hz⟩ := I.list hq
  refine call_setL (I.ok.hd hc) pl.isList (by simpa using L2.strsAre_of rv) hb fun h' tk own keep => ?_
  exact ⟨.ref _, upd H s.heap.objs.size (SetTO X.prog X.w s.heap.objs.size (fromL xs xs.length)), I.laid (t' := tk) keep (Nat.le_refl _) (setTO_new own), rfl, q _ (I.hok.fresh (Nat.le_refl _))⟩
end SFl
/-! ### Book.sounds -/
namespace Snd
open PySem PySem.Spec PyProof.Rows L2 Evl Gen Ent Rep Dat Nm Er Chk Gu Deed Pts Hear Lst Bk Cau EvD BadE EntR Lis Prd Bmk STx STc STs
/-- a set comprehension over a list that the block leaves as it is -/
theorem scT_list {P : Program} {w : World} {K : PySem.W.Frag} {a : Addr} {xs : List V} {g : TG} {tt : TT} {te : TE} {vs : List Nat} {σ : L2.St} {G : Hp} {D : Addr} {Qd : Hp → Prop} (Pv : Nat → Hp → Prop) (h0 : Pv 0 (upd G D (SetTO P w D []))) (hl : ∀ i H, i ≤ xs.length → Pv i H → SqL K H a xs)
    (hs : ∀ i x H, xs[i]? = some x → Pv i H → g x (wipe σ vs) H fun τ H2 => wipe τ vs = wipe σ vs ∧ tt τ H2 fun b H3 => if b = true then te τ H3 fun y H4 => ∃ (k : Str) (l : List Str), y = .str k ∧ H4 D = some (SetTO P w D l) ∧ l.length + 1 < scanBound ∧ Pv (i + 1) (upd H4 D (SetTO P w D (ins l k))) else Pv (i + 1) H3)
    (hd : ∀ H, Pv xs.length H → Qd H) :
    ∃ W : Nat → Nat → Hp → Prop, (∃ m, W 0 m (upd G D (SetTO P w D []))) ∧ ∀ i m H, W i m H → ((Itl K a).stop i H ∧ Qd H) ∨ ((Itl K a).go i H ∧ ∃ N : Hp → Prop, (∀ H', N H' → ∃ m', m' < m ∧ W (i + 1) m' H') ∧ ∀ x H', (Itl K a).yld i H x H' → g x (wipe σ vs) H' fun τ H2 => wipe τ vs = wipe σ vs ∧ tt τ H2 fun b H3 =>
      if b = true then te τ H3 fun y H4 => ∃ (k : Str) (l : List Str), y = .str k ∧ H4 D = some (SetTO P w D l) ∧ l.length + 1 < scanBound ∧ N (upd H4 D (SetTO P w D (ins l k))) else N H3) := by
  refine ⟨fun i m H => m = xs.length - i ∧ i ≤ xs.length ∧ Pv i H, ⟨_, rfl, Nat.zero_le _, h0⟩, ?_⟩
  rintro i m H ⟨rfl, hi, p⟩
  have q := hl i H hi p
  rcases Nat.lt_or_ge i xs.length with lt | ge
  · refine .inr ⟨⟨xs, xs[i], q, by simp [lt]⟩, Pv (i + 1), fun H' p' => ⟨xs.length - (i + 1), by omega, rfl, lt, p'⟩, fun x H' y => ?_⟩
    obtain ⟨rfl, y⟩ := y
    exact hs i x _ (y xs q) p
  · obtain rfl : i = xs.length := by omega
    exact .inl ⟨⟨xs, q, Nat.le_refl _⟩, hd H p⟩
/-- the sounds, each once -/
def sn (ds : List En) : List Str := (ds.filterMap fun e => e.2.1).foldl ins []
theorem ins_len (l : List Str) (k : Str) : (ins l k).length ≤ l.length + 1 := by
  unfold ins
  split
  · omega
  · rw [List.length_cons]
    exact Nat.le_refl _
theorem sn_snoc (ds : List En) (e : En) : sn (ds ++ [e]) = match e.2.1 with
    | none => sn ds
    | some k => ins (sn ds) k := by
  unfold sn
  rw [List.filterMap_append, List.foldl_append]
  cases h : e.2.1 with
  | none => simp [h]
  | some k => simp [h]
theorem sn_len : ∀ (n : Nat) (ds : List En), ds.length = n → (sn ds).length ≤ n := by
  intro n
  induction n with
  | zero =>
    intro ds h
    rw [List.length_eq_zero_iff.mp h]
    exact Nat.le_refl _
  | succ n ih =>
    intro ds h
    have hne : ds ≠ [] := fun q => by rw [q] at h; cases h
    have e := List.dropLast_concat_getLast hne
    have hl : ds.dropLast.length = n := by rw [List.length_dropLast, h]; rfl
    have q := ih _ hl
    rw [← e, sn_snoc]
    split
    · omega
    · exact Nat.le_trans (ins_len _ _) (by omega)
def spSnd (K : PySem.W.Frag) (C : Addr) : Sp := fun vs H Q _ => ∃ (p : Addr) (B : BD) (ds : List En), vs = [.ref p] ∧ IsBook H C p B ∧ SwAll K H B.d (ds.map enD) ∧ ds.length ≤ 10 ∧
  ∀ (ss : List Str) q H', ss.Perm (sn ds) → sortedS ss = true → H q = none → Ex H H' → H' q = some (.lst (ss.map V.str)) → Q (.ref q) H'
abbrev sSnd : Stmt := inClass (top 14) 6
theorem scSn : FnScope ["self", "_", "sound"] ["self"] (defScope sSnd) := ⟨rfl, rfl, rfl, by decide +kernel, rfl, by decide +kernel, by decide +kernel⟩
section
variable {P : Program} {w : World} {K : PySem.W.Frag} {mg : Str → Option Value} {base : Heap}
theorem ok_snd {f C : Addr} {fd : FuncData} (F : Fun K "sounds" "Book.sounds" sSnd f fd) (B : Bt mg) (c : BC K C) : FnOk P w K mg base CX0 1 f fd ["self"] (spSnd K C) := by
  refine F.ok scSn (fun vs H Q E h => ?_) (fun cdv A outer s H vs Q E hr h => ?_)
  · obtain ⟨p, _, _, rfl, _⟩ := h
    rfl
  · obtain ⟨p, BB, ds, rfl, hb, hds, hn, kq⟩ := h
    obtain ⟨dx, b1, b2, b3, b4, b5, h0, h1, h2, h3, h4, h5⟩ := hb
    refine ⟨_, (pss_one (ps_ret (pe_callB (r := rSortT P w) (cr_sortT rfl) (by rfl) B.sorted (by decide +kernel) (pa_cons (pe_scT (own := [("_", 1), ("sound", 2)]) (g := gTup K 3 (gCons (gName 1) (gCons (gName 2) (gCons (gName 1) gNil)))) (tt := tTest (tOp (fun x y H Q => y = .non ∧ Q (.bl (!decide (x = .non))) H) (tVar 2) (tC .non))) (te := tVar 2) rfl scSn.nd (pi_list (pe_fld (pv 0) rfl)) (blkOk_by (N := ["self", "_", "sound"]) (sc := defScope sSnd) (by decide +kernel)) (fun _ _ _ _ _ => pg_tup rfl (pgs_cons (pg_name (i := 1) scSn.nd rfl (Or.inl rfl)) (pgs_cons (pg_name (i := 2) scSn.nd rfl (Or.inl rfl)) (pgs_cons (pg_name (i := 1) scSn.nd rfl (Or.inl rfl)) pgs_nil)))) (fun _ _ _ _ _ => pts_one (pt_cmpR op_notN (pv 2) pe_non (nomark _))) (fun _ _ _ _ _ => pv 2)) pa_nil)))), ?_⟩
    have hl := swAll_len hds
    rw [List.length_map] at hl
    refine ⟨_, rfl, p, C, dx, _, _, rfl, h0, c.cl, c.n3, rfl, b3, rfl, ⟨_, SqL.of h3⟩, fun D hD => scT_list (xs := BB.d) (fun i H' => Ex H H' ∧ H' D = some (SetTO P w D (sn (ds.take i)))) ⟨Ex.new hD, upd_same⟩ (fun i H' _ q => ex_l q.1 (SqL.of h3)) (fun i x H2 hx q => ?_) fun H2 q => ?_⟩
    · obtain ⟨e2, hD2⟩ := q
      obtain ⟨d, hd, hsw⟩ := swAll_get hds hx
      obtain ⟨e, he, rfl⟩ : ∃ e, ds[i]? = some e ∧ d = enD e := by
        rw [List.getElem?_map] at hd
        cases hz : ds[i]? with
        | none => rw [hz] at hd; cases hd
        | some z => rw [hz] at hd; exact ⟨z, rfl, (Option.some.inj hd).symm⟩
      have et : sn (ds.take (i + 1)) = match e.2.1 with
          | none => sn (ds.take i)
          | some k => ins (sn (ds.take i)) k := by
        rw [List.take_succ, he]
        exact sn_snoc _ _
      have hil := (List.getElem?_eq_some_iff.mp he).1
      have len : (sn (ds.take i)).length ≤ i := Nat.le_trans (sn_len _ _ rfl) (by rw [List.length_take]; omega)
      obtain ⟨a, b, cc⟩ := e
      have hsw2 := Sw.ex e2 _ _ hsw
      unfold enD at hsw2
      cases hsw2 with
      | tup hq ha =>
        cases ha with
        | cons w1 ha =>
          cases ha with
          | cons w2 ha =>
            cases ha with
            | cons w3 ha =>
              cases ha
              refine ⟨_, _, rfl, hq, rfl, _, _, rfl, _, _, rfl, _, _, rfl, rfl, rfl, ?_⟩
              dsimp only at et w2
              cases b with
              | none =>
                cases w2
                exact ⟨_, rfl, rfl, false, rfl, e2, by rw [et]; exact hD2⟩
              | some k =>
                cases w2
                refine ⟨_, rfl, rfl, true, rfl, _, rfl, k, _, rfl, hD2, ?_, e2.mut hD, ?_⟩
                · have : (11 : Nat) < scanBound := by decide
                  omega
                · rw [et]
                  exact upd_same
    · obtain ⟨e2, hD2⟩ := q
      rw [List.take_of_length_le (by omega)] at hD2
      have l10 : (sn ds).length ≤ 10 := Nat.le_trans (sn_len _ _ rfl) hn
      exact ⟨D, _, rfl, hD2, by omega, fun ss q pm so nq => kq ss q _ pm so (fresh_back e2 nq) (e2.trans (Ex.new nq)) upd_same⟩
end
end Snd
/-! ### a sorted list of texts is the only one -/
namespace Srt1
open PySem PySem.Spec PyProof.Rows
abbrev Le (x y : Str) : Prop := ¬ y.cps.toList < x.cps.toList
theorem le_trans' {x y z : Str} (a : Le x y) (b : Le y z) : Le x z := fun h => by
  have a' : x.cps.toList ≤ y.cps.toList := List.not_lt.mp a
  have b' : y.cps.toList ≤ z.cps.toList := List.not_lt.mp b
  exact List.not_lt.mpr (List.le_trans a' b') h
theorem le_anti {x y : Str} (a : Le x y) (b : Le y x) : x = y := by
  have a' : x.cps.toList ≤ y.cps.toList := List.not_lt.mp a
  have b' : y.cps.toList ≤ x.cps.toList := List.not_lt.mp b
  have e := List.le_antisymm a' b'
  cases x
  cases y
  congr 1
  exact Array.ext' e
theorem rising_le : ∀ (p : Str) (l : List Str), risingS p l = true → ∀ y ∈ l, Le p y
  | _, [], _, _, m => nomatch m
  | p, x :: r, h, y, m => by
    have h' : (!ltCps x.cps.toList p.cps.toList && risingS x r) = true := h
    rw [Bool.and_eq_true, Bool.not_eq_true', ltCps_eq] at h'
    have px : Le p x := of_decide_eq_false h'.1
    rcases List.mem_cons.mp m with rfl | m
    · exact px
    · exact le_trans' px (rising_le x r h'.2 y m)
theorem rising_pw : ∀ (p : Str) (l : List Str), risingS p l = true → (p :: l).Pairwise Le
  | p, [], _ => by simp
  | p, x :: r, h => by
    have h' : (!ltCps x.cps.toList p.cps.toList && risingS x r) = true := h
    rw [Bool.and_eq_true] at h'
    exact List.pairwise_cons.mpr ⟨rising_le p (x :: r) h, rising_pw x r h'.2⟩
theorem sorted_pw : ∀ l : List Str, sortedS l = true → l.Pairwise Le
  | [], _ => List.Pairwise.nil
  | x :: r, h => rising_pw x r h
theorem sorted_one : ∀ (a b : List Str), a.Pairwise Le → b.Pairwise Le → a.Perm b → a = b
  | [], b, _, _, p => (List.Perm.nil_eq p)
  | x :: a, [], _, _, p => by
    have := p.length_eq
    simp at this
  | x :: a, y :: b, ha, hb, p => by
    obtain ⟨a1, a2⟩ := List.pairwise_cons.mp ha
    obtain ⟨b1, b2⟩ := List.pairwise_cons.mp hb
    have e : x = y := by
      have mx : x ∈ y :: b := p.mem_iff.mp (List.mem_cons_self ..)
      have my : y ∈ x :: a := p.mem_iff.mpr (List.mem_cons_self ..)
      rcases List.mem_cons.mp mx with q | q
      · exact q
      · rcases List.mem_cons.mp my with r | r
        · exact r.symm
        · exact le_anti (a1 y r) (b1 x q)
    subst e
    rw [sorted_one a b a2 b2 (List.Perm.cons_inv p)]
end Srt1

/-! ### the law: what is told can be shown, is equal to itself, and stays -/
namespace LwP
open PySem PySem.Spec PyProof.Rows L2 Evl Gen Ent Rep Dat Nm Er Chk Gu Deed Pts Hear Lst Bk Cau EvD BadE EntR Lis Prd NmP NmR Bmk EqB God Oth STx SFl Snd
structure Nice (w dp : Nat) (d : PyData) : Prop where
  ls : PyData.leavesShort 13 d = true
  sh : d.showable = true
  pl : d.plain = true
  wt : d.weight ≤ w
  dp : d.depth ≤ dp
theorem Nice.mono {w dp w' dp' : Nat} {d : PyData} (h : Nice w dp d) (h1 : w ≤ w') (h2 : dp ≤ dp') : Nice w' dp' d := ⟨h.ls, h.sh, h.pl, Nat.le_trans h.wt h1, Nat.le_trans h.dp h2⟩
theorem niceAll {w dp : Nat} : ∀ {l : List PyData}, (∀ d ∈ l, Nice w dp d) → PyData.leavesShortAll 13 l = true ∧ PyData.showableAll l = true ∧ PyData.plainAll l = true ∧ PyData.weightAll l ≤ l.length * (w + 1) ∧ PyData.depthAll l ≤ dp
  | [], _ => ⟨rfl, rfl, rfl, by simp [PyData.weightAll], by simp [PyData.depthAll]⟩
  | d :: l, h => by
    obtain ⟨h1, h2, h3, h4, h5⟩ := niceAll fun x m => h x (List.mem_cons_of_mem _ m)
    have a := h d (List.mem_cons_self ..)
    refine ⟨by simp [PyData.leavesShortAll, a.ls, h1], by simp [PyData.showableAll, a.sh, h2], by simp [PyData.plainAll, a.pl, h3], ?_, ?_⟩
    · simp only [PyData.weightAll, List.length_cons, Nat.succ_mul]
      have := a.wt
      omega
    · simp only [PyData.depthAll]
      have := a.dp
      omega
theorem Nice.lst {w dp n : Nat} {l : List PyData} (h : ∀ d ∈ l, Nice w dp d) (hn : l.length ≤ n) : Nice (n * (w + 1)) (dp + 1) (.list l) := by
  obtain ⟨h1, h2, h3, h4, h5⟩ := niceAll h
  exact ⟨h1, h2, h3, Nat.le_trans h4 (Nat.mul_le_mul_right _ hn), by simp only [PyData.depth]; omega⟩
theorem Nice.tup {w dp n : Nat} {l : List PyData} (h : ∀ d ∈ l, Nice w dp d) (hn : l.length ≤ n) : Nice (n * (w + 1)) (dp + 1) (.tuple l) := by
  obtain ⟨h1, h2, h3, h4, h5⟩ := niceAll h
  exact ⟨h1, h2, h3, Nat.le_trans h4 (Nat.mul_le_mul_right _ hn), by simp only [PyData.depth]; omega⟩
theorem Nice.shw {w dp : Nat} {d : PyData} (h : Nice w dp d) (hw : w ≤ 2 ^ 20) (hd : dp ≤ 60) : Shw d :=
  ⟨h.sh, PyData.shown_fits (B := 13) (by decide) (by decide) h.ls (Nat.le_trans h.wt hw), Nat.le_trans h.dp hd⟩
theorem Nice.eq {w dp : Nat} {d : PyData} (h : Nice w dp d) : PyData.eqv d d = true := PySem.SeqAt.eqv_refl_plain d h.pl
theorem nice_str {z : Str} (h : nmS z = true) : Nice 8 0 (.str z) := by
  unfold nmS at h
  simp only [Bool.and_eq_true, decide_eq_true_eq] at h
  obtain ⟨⟨h1, h2⟩, h3⟩ := h
  refine ⟨?_, rfl, rfl, h2, Nat.le_refl _⟩
  show (z.cps.toList.all fun c => decide (c < 16 ^ 8)) = true
  rw [List.all_eq_true] at h3 ⊢
  intro c m
  have := h3 c m
  unfold low at this
  simp only [Bool.and_eq_true, decide_eq_true_eq] at this
  refine decide_eq_true ?_
  have : (16 : Nat) ^ 8 = 4294967296 := by decide
  omega
theorem nice_strs {l : List Str} {n : Nat} (h : ∀ x ∈ l, nmS x = true) (hn : l.length ≤ n) : Nice (n * 9) 1 (strsD l) := by
  refine Nice.lst (w := 8) (dp := 0) (fun d m => ?_) (by rw [List.length_map]; exact hn)
  obtain ⟨x, mx, rfl⟩ := List.mem_map.mp m
  exact nice_str (h x mx)
theorem nice_en {e : En} (h1 : nmS e.1 = true) (h2 : nmS e.2.2 = true) (h3 : ∀ z, e.2.1 = some z → nmS z = true) : Nice 27 1 (enD e) := by
  refine Nice.tup (w := 8) (dp := 0) (n := 3) (fun d m => ?_) (by simp)
  simp only [List.mem_cons, List.not_mem_nil, or_false] at m
  rcases m with rfl | rfl | rfl
  · exact nice_str h1
  · cases q : e.2.1 with
    | none => exact ⟨rfl, rfl, rfl, by simp [svD, PyData.weight], by simp [svD, PyData.depth]⟩
    | some z => exact nice_str (h3 z q)
  · exact nice_str h2
theorem nice_ens {l : List En} {n : Nat} (h : ∀ e ∈ l, nmS e.1 = true ∧ nmS e.2.2 = true ∧ ∀ z, e.2.1 = some z → nmS z = true) (hn : l.length ≤ n) : Nice (n * 28) 2 (.list (l.map enD)) := by
  refine Nice.lst (w := 27) (dp := 1) (fun d m => ?_) (by rw [List.length_map]; exact hn)
  obtain ⟨x, mx, rfl⟩ := List.mem_map.mp m
  obtain ⟨a, b, c⟩ := h x mx
  exact nice_en a b c
section
variable {hs ss : List Str} {ds rs : List En} {ls : List Str}
theorem good_ens (g : GoodP hs ss ds rs ls) : (∀ e ∈ ds, nmS e.1 = true ∧ nmS e.2.2 = true ∧ ∀ z, e.2.1 = some z → nmS z = true) ∧ ∀ e ∈ rs, nmS e.1 = true ∧ nmS e.2.2 = true ∧ ∀ z, e.2.1 = some z → nmS z = true := by
  refine ⟨fun e m => ?_, fun e m => ?_⟩
  · obtain ⟨h1, h2⟩ := g.od e m
    exact ⟨(inNm g h2).1, (inNm g h2).2, h1⟩
  · obtain ⟨⟨z, q, hz⟩, h2⟩ := g.orr e m
    refine ⟨(inNm g h2).1, (inNm g h2).2, fun y hy => ?_⟩
    rw [q] at hy
    cases hy
    exact hz
theorem sn_mem : ∀ (l : List Str) (acc : List Str) (x : Str), x ∈ l.foldl ins acc → x ∈ l ∨ x ∈ acc
  | [], _, _, h => .inr h
  | y :: l, acc, x, h => by
    rcases sn_mem l (ins acc y) x h with m | m
    · exact .inl (List.mem_cons_of_mem _ m)
    · unfold ins at m
      split at m
      · exact .inr m
      · rcases List.mem_cons.mp m with rfl | m
        · exact .inl (List.mem_cons_self ..)
        · exact .inr m
theorem sn_nm (g : GoodP hs ss ds rs ls) {zs : List Str} (p : zs.Perm (sn ds)) : ∀ x ∈ zs, nmS x = true := by
  intro x m
  rcases sn_mem _ _ x (p.mem_iff.mp m) with m | m
  · obtain ⟨e, he, q⟩ := List.mem_filterMap.mp m
    exact (g.od e he).1 x q
  · cases m
/-- what a book's methods tell, one after another -/
def D6 (hs ss : List Str) (ds rs : List En) (ls zs : List Str) : List PyData := [strsD hs, strsD ss, .list (ds.map enD), .list (rs.map enD), strsD ls, strsD zs]
theorem nice6 (g : GoodP hs ss ds rs ls) {zs : List Str} (p : zs.Perm (sn ds)) : Nice (6 * 337) 3 (.list (D6 hs ss ds rs ls zs)) := by
  obtain ⟨e1, e2⟩ := good_ens g
  refine Nice.lst (w := 336) (dp := 2) (fun d m => ?_) (by simp [D6])
  simp only [D6, List.mem_cons, List.not_mem_nil, or_false] at m
  rcases m with rfl | rfl | rfl | rfl | rfl | rfl
  · exact (nice_strs g.nh g.h.2).mono (by decide) (by decide)
  · exact (nice_strs g.ns g.s.2).mono (by decide) (by decide)
  · exact (nice_ens e1 g.d).mono (by decide) (by decide)
  · exact (nice_ens e2 g.r).mono (by decide) (by decide)
  · exact (nice_strs g.nl g.l).mono (by decide) (by decide)
  · exact (nice_strs (sn_nm g p) (n := 10) (by rw [p.length_eq]; exact Nat.le_trans (sn_len _ _ rfl) g.d)).mono (by decide) (by decide)
theorem eq_self (g : GoodP hs ss ds rs ls) : eq5 (strsD hs) (strsD ss) (.list (ds.map enD)) (.list (rs.map enD)) (strsD ls) (strsD hs) (strsD ss) (.list (ds.map enD)) (.list (rs.map enD)) (strsD ls) = true := by
  obtain ⟨e1, e2⟩ := good_ens g
  have h1 : PyData.eqv (.list (items (strsD hs))) (.list (items (strsD hs))) = true := (nice_strs g.nh g.h.2).eq
  have h2 : PyData.eqv (.list (items (strsD ss))) (.list (items (strsD ss))) = true := (nice_strs g.ns g.s.2).eq
  have h3 : PyData.eqv (.list (items (.list (ds.map enD)))) (.list (items (.list (ds.map enD)))) = true := (nice_ens e1 g.d).eq
  have h4 : PyData.eqv (.list (items (.list (rs.map enD)))) (.list (items (.list (rs.map enD)))) = true := (nice_ens e2 g.r).eq
  have h5 : PyData.eqv (.list (items (strsD ls))) (.list (items (strsD ls))) = true := (nice_strs g.nl g.l).eq
  unfold eq5
  rw [h1, h2, h3, h4, h5]
  rfl
end
/-! ### a heap without some lists -/
def rm (H : Hp) (S : List Addr) : Hp := fun b => if b ∈ S then none else H b
theorem rm_ex {H : Hp} {S : List Addr} : Ex (rm H S) H := fun a o h => by
  unfold rm at h
  split at h
  · cases h
  · exact h
theorem rm_ne {H : Hp} {S : List Addr} {b : Addr} (h : b ∉ S) : rm H S b = H b := if_neg h
theorem rm_in {H : Hp} {S : List Addr} {b : Addr} (h : b ∈ S) : rm H S b = none := if_pos h
/-- what stands in both: all that is no list, and all that is new since H0 -/
structure Keep (H0 H G : Hp) : Prop where
  o : ∀ a u, H a = some u → (∀ xs, u ≠ .lst xs) → G a = some u
  n : ∀ a u, H a = some u → H0 a = none → G a = some u
theorem keep_rm {H0 H : Hp} {S : List Addr} (h : ∀ r ∈ S, ∃ xs, H0 r = some (.lst xs) ∧ H r = some (.lst xs)) : Keep H0 H (rm H S) := by
  refine ⟨fun a u ha hu => ?_, fun a u ha hn => ?_⟩
  · rw [rm_ne fun m => ?_]
    · exact ha
    · obtain ⟨xs, _, h2⟩ := h a m
      rw [ha] at h2
      exact hu xs (Option.some.inj h2)
  · rw [rm_ne fun m => ?_]
    · exact ha
    · obtain ⟨xs, h1, _⟩ := h a m
      rw [hn] at h1
      cases h1
section
variable {K : PySem.W.Frag} {H0 H G : Hp} (k : Keep H0 H G)
include k
theorem kp_str : ∀ {xs : List V} {l : List Str}, SwAll K H xs (l.map PyData.str) → SwAll K G xs (l.map PyData.str)
  | _, [], h => by
    cases h
    exact .nil
  | _, z :: l, h => by
    cases h with
    | cons a b =>
      cases a
      exact .cons (.str z) (kp_str b)
theorem kp_en {v : V} {e : En} (h : Sw K H v (enD e)) : Sw K G v (enD e) := by
  unfold enD at h ⊢
  cases h with
  | tup q a =>
    rename_i t xs
    have q' : SqT K G t xs := by
      rcases q with (q | ⟨o, q⟩) | q
      · exact .inl (.inl (k.o _ _ q fun xs z => by cases z))
      · exact .inl (.inr ⟨o, k.o _ _ q fun xs z => by cases z⟩)
      · exact .inr q
    refine .tup q' ?_
    cases a with
    | cons a1 a =>
      cases a with
      | cons a2 a =>
        cases a with
        | cons a3 a =>
          cases a
          cases a1
          cases a3
          refine .cons (.str _) (.cons ?_ (.cons (.str _) .nil))
          cases q2 : e.2.1 with
          | none =>
            rw [q2] at a2
            cases a2
            exact .non
          | some z =>
            rw [q2] at a2
            cases a2
            exact .str z
theorem kp_ens : ∀ {xs : List V} {l : List En}, SwAll K H xs (l.map enD) → SwAll K G xs (l.map enD)
  | _, [], h => by
    cases h
    exact .nil
  | _, e :: l, h => by
    cases h with
    | cons a b => exact .cons (kp_en k a) (kp_ens b)
theorem kp_book {C p : Addr} {hs ss ls : List Str} {ds rs : List En} (h : BookN K H0 H C p (strsD hs) (strsD ss) (.list (ds.map enD)) (.list (rs.map enD)) (strsD ls)) :
    BookD K G C p (strsD hs) (strsD ss) (.list (ds.map enD)) (.list (rs.map enD)) (strsD ls) := by
  obtain ⟨B, ⟨dx, b1, b2, b3, b4, b5, h0, ⟨h1, h2, h3, h4, h5⟩, n1, n2, n3, n4, n5⟩, s1, s2, s3, s4, s5⟩ := h
  exact ⟨B, ⟨dx, b1, b2, b3, b4, b5, k.o _ _ h0 (fun xs z => by cases z), k.n _ _ h1 n1, k.n _ _ h2 n2, k.n _ _ h3 n3, k.n _ _ h4 n4, k.n _ _ h5 n5⟩, kp_str k s1, kp_str k s2, kp_ens k s3, kp_ens k s4, kp_str k s5⟩
end
end LwP

/-! ### the law: how its pieces read -/
namespace LwE
open PySem PySem.Spec PyProof.Rows L2 Evl Gen Ent Rep Dat Nm Er Chk Gu Deed Pts Hear Lst Bk Cau EvD BadE EntR Lis Prd NmP NmR Bmk EqB OwnQ RevQ God Oth ExD OtB STx STs SFl Snd LwP
/-- the book of the parts -/
def BkP (K : PySem.W.Frag) (H : Hp) (C p : Addr) (D : PartsD) : Prop := BookD K H C p (strsD D.hs) (strsD D.ss) (.list (D.ds.map enD)) (.list (D.rs.map enD)) (strsD D.ls)
def GoD (D : PartsD) : Prop := GoodP D.hs D.ss D.ds D.rs D.ls
theorem ex_rm {H H2 : Hp} {S : List Addr} (e : Ex H H2) (n : ∀ t ∈ S, H t = none) : Ex H (rm H2 S) := fun a o h => by
  rw [rm_ne fun m => ?_]
  · exact e a o h
  · rw [n a m] at h
    cases h
/-! for x in the list: x.append(None) -/
theorem s_none {K : PySem.W.Frag} {G H : Hp} {q : Addr} {R : List Addr} {σ : L2.St} {iv : Nat} {D : Ends} (hi : σ[iv]? = some (some (.ref q))) (h6 : 6 < σ.length) (hq : G q = some (.lst (R.map V.ref))) (e : Ex G H)
    (hR : ∀ r ∈ R, G r = none ∧ ∃ ys, H r = some (.lst ys) ∧ ys.length ≤ 1000) (lR : R.length ≤ 100) (k : ∀ s6 H', Ex G H' → D.nx (σ.set 6 s6) H') :
    tFor (iList K (tVar iv)) (gName 6) (tDrop (tBM K "list" rAppend (tVar 6) (tCons (tC .non) tNil))) D σ H := by
  refine s_forLn (ev_var hi) (SqL.of (e _ _ hq)) (fun j σ' H' => (∃ s6, σ' = σ.set 6 s6) ∧ Ex G H' ∧ ∀ r ∈ R, ∃ ys, H' r = some (.lst ys) ∧ ys.length ≤ 1000 + j) (fun H1 e1 => ⟨⟨σ[6], by rw [List.set_getElem_self]⟩, e.trans e1, fun r m => ?_⟩) (fun j σ' H' _ p => SqL.of (p.2.1 _ _ hq)) (fun j x σ' H' hx p => ?_) fun σ' H' p => ?_
  · obtain ⟨_, ys, h1, h2⟩ := hR r m
    exact ⟨ys, e1 _ _ h1, by omega⟩
  · obtain ⟨⟨s6, rfl⟩, eG, hr⟩ := p
    rw [List.getElem?_map] at hx
    cases hz : R[j]? with
    | none => rw [hz] at hx; cases hx
    | some r =>
      rw [hz] at hx
      obtain rfl : V.ref r = x := Option.some.inj hx
      have mr := List.mem_of_getElem? hz
      obtain ⟨ys, h1, h2⟩ := hr r mr
      have jl := (List.getElem?_eq_some_iff.mp hz).1
      have e6 : ((σ.set 6 s6).set 6 (some (V.ref r)))[6]? = some (some (V.ref r)) := by simp [h6]
      refine s_app h1 (ev_var e6) ev_c (by omega) fun H1 e1 => ?_
      have nG := (hR r mr).1
      refine ⟨⟨some (.ref r), by rw [List.set_set]⟩, (eG.trans e1).mut nG, fun t m => ?_⟩
      by_cases c : t = r
      · subst c
        exact ⟨_, upd_same, by simp only [List.length_append, List.length_cons, List.length_nil]; omega⟩
      · obtain ⟨zs, k1, k2⟩ := hr t m
        exact ⟨zs, by rw [upd_ne c]; exact e1 _ _ k1, by omega⟩
  · obtain ⟨⟨s6, rfl⟩, eG, _⟩ := p
    exact k s6 H' eG
theorem q_none {K : PySem.W.Frag} {G H : Hp} {q : Addr} {R : List Addr} {σ : L2.St} {iv : Nat} {D : Ends} {tz : TS} (hi : σ[iv]? = some (some (.ref q))) (h6 : 6 < σ.length) (hq : G q = some (.lst (R.map V.ref))) (e : Ex G H)
    (hR : ∀ r ∈ R, G r = none ∧ ∃ ys, H r = some (.lst ys) ∧ ys.length ≤ 1000) (lR : R.length ≤ 100) (k : ∀ s6 H', Ex G H' → tz D (σ.set 6 s6) H') :
    tSeq (tFor (iList K (tVar iv)) (gName 6) (tDrop (tBM K "list" rAppend (tVar 6) (tCons (tC .non) tNil)))) tz D σ H := s_none (D := { D with nx := tz D }) hi h6 hq e hR lR k
/-! what the book tells -/
/-- a new list of these data -/
def ELn (K : PySem.W.Frag) (te : TE) (σ : L2.St) (H : Hp) (ds : List PyData) : Prop := ∀ H1, Ex H H1 → ∀ Q : VK, (∀ p H2, H1 p = none → Ex H1 H2 → TL K H2 p ds → Q (.ref p) H2) → te σ H1 Q
theorem eln_get {K : PySem.W.Frag} {C p : Addr} {B : BD} {sel : BD → List V} {ds : List PyData} {m : Str} {i : Nat} {σ : L2.St} {H : Hp} (hi : σ[i]? = some (some (.ref p))) (hb : IsBook H C p B) (hs : SwAll K H (sel B) ds)
    (hm : ∀ b1 b2 b3 b4 b5 : Addr, ([("_houses", .ref b1), ("_stands", .ref b2), ("_deeds", .ref b3), ("_hearings", .ref b4), ("_lost", .ref b5)] : List (Str × V)).lookup m = none) :
    ELn K (tMeth C m (spGet C sel) [] E0 (tVar i) tNil) σ H ds := fun H1 e Q q => by
  have hb1 := isBook_ex e hb
  obtain ⟨dx, b1, b2, b3, b4, b5, h0, _⟩ := id hb1
  exact ⟨_, hi, p, dx, _, rfl, h0, hm _ _ _ _ _, p, B, rfl, hb1, fun r H2 nr e2 hr => q r H2 nr e2 ⟨_, hr, SwAll.ex (e.trans e2) _ _ hs⟩⟩
/-- [book.houses(), .., book.sounds()] -/
theorem told {K : PySem.W.Frag} {C bk : Addr} {D : PartsD} {σ : L2.St} {H : Hp} {Q : VK} (hi : σ[5]? = some (some (.ref bk))) (hb : BkP K H C bk D) (g : GoD D)
    (k : ∀ (zs : List Str) (ts : List Addr) (q : Addr) (H2 : Hp), zs.Perm (sn D.ds) → sortedS zs = true → Ex H H2 → H2 q = some (.lst (ts.map V.ref)) → q ∉ ts → ts.length = 6 → (∀ t ∈ ts, H t = none ∧ ∃ ys, H2 t = some (.lst ys) ∧ ys.length ≤ 1000) → SwAll K H2 (ts.map V.ref) (D6 D.hs D.ss D.ds D.rs D.ls zs) → Q (.ref q) H2) :
    tLst (tCons (tMeth C "houses" (spGet C (·.h)) [] E0 (tVar 5) tNil) (tCons (tMeth C "stands" (spGet C (·.s)) [] E0 (tVar 5) tNil) (tCons (tMeth C "deeds" (spGet C (·.d)) [] E0 (tVar 5) tNil) (tCons (tMeth C "hearings" (spGet C (·.r)) [] E0 (tVar 5) tNil) (tCons (tMeth C "lost" (spGet C (·.l)) [] E0 (tVar 5) tNil) (tCons (tMeth C "sounds" (spSnd K C) [] E0 (tVar 5) tNil) tNil)))))) σ H Q := by
  obtain ⟨B, ib, s1, s2, s3, s4, s5⟩ := id hb
  have hi5 : ∀ G, Ex H G → IsBook G C bk B := fun G e => isBook_ex e ib
  refine eln_get hi ib s1 (fun _ _ _ _ _ => rfl) H (Ex.refl H) _ fun p1 H1 n1 e1 t1 => ?_
  refine eln_get hi (hi5 H1 e1) (SwAll.ex e1 _ _ s2) (fun _ _ _ _ _ => rfl) H1 (Ex.refl _) _ fun p2 H2 n2 f2 t2 => ?_
  have e2 := e1.trans f2
  refine eln_get hi (hi5 H2 e2) (SwAll.ex e2 _ _ s3) (fun _ _ _ _ _ => rfl) H2 (Ex.refl _) _ fun p3 H3 n3 f3 t3 => ?_
  have e3 := e2.trans f3
  refine eln_get hi (hi5 H3 e3) (SwAll.ex e3 _ _ s4) (fun _ _ _ _ _ => rfl) H3 (Ex.refl _) _ fun p4 H4 n4 f4 t4 => ?_
  have e4 := e3.trans f4
  refine eln_get hi (hi5 H4 e4) (SwAll.ex e4 _ _ s5) (fun _ _ _ _ _ => rfl) H4 (Ex.refl _) _ fun p5 H5 n5 f5 t5 => ?_
  have e5 := e4.trans f5
  obtain ⟨dx, b1, b2, b3, b4, b5, h0, _⟩ := id (hi5 H5 e5)
  refine ⟨_, hi, bk, dx, _, rfl, h0, rfl, bk, B, D.ds, rfl, hi5 H5 e5, SwAll.ex e5 _ _ s3, g.d, fun zs p6 H6 pm so n6 f6 h6 => ?_⟩
  have e6 := e5.trans f6
  have t6 : TL K H6 p6 (zs.map PyData.str) := ⟨_, h6, sw_strs zs⟩
  refine ⟨by show 6 ≤ sizeLine; decide, fun q nq => ?_⟩
  have e7 : Ex H6 (upd H6 q (.lst [.ref p1, .ref p2, .ref p3, .ref p4, .ref p5, .ref p6])) := Ex.new nq
  generalize hG : upd H6 q (.lst [.ref p1, .ref p2, .ref p3, .ref p4, .ref p5, .ref p6]) = G at e7
  have hq : G q = some (.lst ([p1, p2, p3, p4, p5, p6].map V.ref)) := by
    rw [← hG]
    exact upd_same
  have g6 := t6.ex e7
  have g5 := t5.ex (f6.trans e7)
  have g4 := t4.ex (f5.trans (f6.trans e7))
  have g3 := t3.ex (f4.trans (f5.trans (f6.trans e7)))
  have g2 := t2.ex (f3.trans (f4.trans (f5.trans (f6.trans e7))))
  have g1 := t1.ex (f2.trans (f3.trans (f4.trans (f5.trans (f6.trans e7)))))
  have sz : ∀ {t : Addr} {ds : List PyData}, TL K G t ds → ds.length ≤ 100 → ∃ ys, G t = some (.lst ys) ∧ ys.length ≤ 1000 := by
    rintro t ds ⟨ys, a, b⟩ h
    have := swAll_len b
    exact ⟨ys, a, by omega⟩
  have zl : zs.length ≤ 10 := by
    rw [pm.length_eq]
    exact Nat.le_trans (sn_len _ _ rfl) g.d
  have b1 := g.h.2
  have b2 := g.s.2
  have b3 := g.d
  have b4 := g.r
  have b5 := g.l
  have nt : ∀ {t : Addr} {ds : List PyData} {L : Hp}, Ex L H6 → TL K L t ds → q ≠ t := by
    rintro t ds L a ⟨ys, b, _⟩
    exact (ne_of_none (a _ _ b) nq).symm
  refine k zs [p1, p2, p3, p4, p5, p6] q G pm so (e6.trans e7) hq ?_ rfl (fun t m => ?_) (.cons g1.sw (.cons g2.sw (.cons g3.sw (.cons g4.sw (.cons g5.sw (.cons g6.sw .nil))))))
  · simp only [List.mem_cons, List.not_mem_nil, or_false, not_or]
    exact ⟨nt (f2.trans (f3.trans (f4.trans (f5.trans f6)))) t1, nt (f3.trans (f4.trans (f5.trans f6))) t2, nt (f4.trans (f5.trans f6)) t3, nt (f5.trans f6) t4, nt f6 t5, nt (Ex.refl _) t6⟩
  · simp only [List.mem_cons, List.not_mem_nil, or_false] at m
    rcases m with rfl | rfl | rfl | rfl | rfl | rfl
    · exact ⟨n1, sz g1 (by show ((D.hs.map PyData.str).length) ≤ 100; rw [List.length_map]; omega)⟩
    · exact ⟨fresh_back e1 n2, sz g2 (by show ((D.ss.map PyData.str).length) ≤ 100; rw [List.length_map]; omega)⟩
    · exact ⟨fresh_back e2 n3, sz g3 (by show ((D.ds.map enD).length) ≤ 100; rw [List.length_map]; omega)⟩
    · exact ⟨fresh_back e3 n4, sz g4 (by show ((D.rs.map enD).length) ≤ 100; rw [List.length_map]; omega)⟩
    · exact ⟨fresh_back e4 n5, sz g5 (by show ((D.ls.map PyData.str).length) ≤ 100; rw [List.length_map]; omega)⟩
    · exact ⟨fresh_back e5 n6, sz g6 (by rw [List.length_map]; omega)⟩
end LwE

/-! ### the law: sounds, texts that are compared, and what is compared with a book -/
namespace LwF
open PySem PySem.Spec PyProof.Rows L2 Evl Gen Ent Rep Dat Nm Er Chk Gu Deed Pts Hear Lst Bk Cau EvD BadE EntR Lis Prd NmP NmR Bmk EqB OwnQ RevQ God Oth ExD OtB STx STs SFl Snd LwP LwE
theorem fm_len : ∀ ds : List En, (ds.filterMap fun e => e.2.1).length ≤ ds.length := fun ds => List.length_filterMap_le _ ds
/-- sorted(set([sound for place, sound, other in parts[2] if sound is not None])) -/
theorem snds {P : Program} {w : World} {K : PySem.W.Frag} {D : PartsD} {p a0 a1 a2 a3 a4 : Addr} {R2 R3 : List Addr} {s0 s1 s2 s4 s5 s6 s7 s8 s9 s10 s11 s12 s13 s14 : Option V} {H : Hp} {Q : VK} (hP : PartsAt H p D a0 a1 a2 a3 a4 R2 R3) (hd : D.ds.length ≤ 10)
    (k : ∀ (zs : List Str) (r : Addr) (H2 : Hp), zs.Perm (sn D.ds) → sortedS zs = true → Ex H H2 → H2 r = some (.lst (zs.map V.str)) → Q (.ref r) H2) :
    tCB (rSortT P w) (tCons (tCB (rSetL P w K) (tCons (tLc (iList K (tOp (rIxL K) (tVar 3) (tC (.int 2)))) (gTup K 3 (gCons (gName 13) (gCons (gName 12) (gCons (gName 14) gNil)))) (tTest (tOp (fun x y H Q => y = .non ∧ Q (.bl (!decide (x = .non))) H) (tVar 12) (tC .non))) (tVar 12) [13, 12, 14]) tNil)) tNil)
      [s0, s1, s2, some (.ref p), s4, s5, s6, s7, s8, s9, s10, s11, s12, s13, s14] H Q := by
  have hds : SwAll K H (R2.map V.ref) (D.ds.map enD) := sw_tups hP.t2
  have hl := swAll_len hds
  rw [List.length_map, List.length_map] at hl
  refine ⟨_, rfl, p, _, 2, .ref a2, rfl, rfl, SqL.of hP.p, atI_nat (j := 2) rfl, a2, rfl, ⟨_, SqL.of hP.h2⟩, fun Dl hD => lc_list (xs := R2.map V.ref) (fun i H' => Ex H H' ∧ H' Dl = some (.lst (((D.ds.take i).filterMap fun e => e.2.1).map V.str))) ⟨Ex.new hD, upd_same⟩ (fun i H' _ q => SqL.of (q.1 _ _ hP.h2)) (fun i x H2 hx q => ?_) fun H2 q => ?_⟩
  · obtain ⟨e2, hD2⟩ := q
    obtain ⟨d, hd', hsw⟩ := swAll_get hds hx
    obtain ⟨e, he, rfl⟩ : ∃ e, D.ds[i]? = some e ∧ d = enD e := by
      rw [List.getElem?_map] at hd'
      cases hz : D.ds[i]? with
      | none => rw [hz] at hd'; cases hd'
      | some z => rw [hz] at hd'; exact ⟨z, rfl, (Option.some.inj hd').symm⟩
    have et : ((D.ds.take (i + 1)).filterMap fun e => e.2.1) = ((D.ds.take i).filterMap fun e => e.2.1) ++ e.2.1.toList := by
      rw [List.take_succ, he, List.filterMap_append]
      obtain ⟨x1, x2, x3⟩ := e
      cases x2 <;> rfl
    have len := fm_len (D.ds.take i)
    have l2 : (D.ds.take i).length ≤ 10 := by rw [List.length_take]; omega
    obtain ⟨a, b, cc⟩ := e
    have hsw2 := Sw.ex e2 _ _ hsw
    unfold enD at hsw2
    cases hsw2 with
    | tup hq ha =>
      cases ha with
      | cons w1 ha =>
        cases ha with
        | cons w2 ha =>
          cases ha with
          | cons w3 ha =>
            cases ha
            refine ⟨_, _, rfl, hq, rfl, _, _, rfl, _, _, rfl, _, _, rfl, rfl, rfl, ?_⟩
            dsimp only at et w2
            cases b with
            | none =>
              cases w2
              rw [show (none : Option Str).toList = [] from rfl, List.append_nil] at et
              exact ⟨_, rfl, rfl, false, rfl, e2, by rw [et]; exact hD2⟩
            | some k =>
              cases w2
              refine ⟨_, rfl, rfl, true, rfl, _, rfl, _, hD2, sz_lt (by rw [List.length_map]; omega), e2.mut hD, ?_⟩
              rw [et, List.map_append]
              exact upd_same
  · obtain ⟨e2, hD2⟩ := q
    rw [List.length_map, hl, List.take_length] at hD2
    have l10 := fm_len D.ds
    have l3 : (sn D.ds).length ≤ 10 := Nat.le_trans (sn_len _ _ rfl) hd
    have ef : fromL (D.ds.filterMap fun e => e.2.1) (D.ds.filterMap fun e => e.2.1).length = sn D.ds := by
      unfold fromL sn
      rw [List.take_length]
    refine ⟨Dl, _, rfl, SqL.of hD2, ?_, fun S nS => ?_⟩
    · have : (11 : Nat) < scanBound := by decide
      omega
    rw [ef]
    refine ⟨S, _, rfl, upd_same, by omega, fun ss r pm so nr => k ss r _ pm so ((e2.trans (Ex.new nS)).trans (Ex.new nr)) upd_same⟩
theorem ev_repr {K : PySem.W.Frag} {te : TE} {σ : L2.St} {H : Hp} {d : PyData} (h : ED K te σ H d) (s : Shw d) : Ev (tCB (rRepr K) (tCons te tNil)) σ H (.str d.shown) := fun H1 e Q q =>
  h H1 e _ fun v H2 e2 w => ⟨v, d, rfl, w, s.1, s.2.1, s.2.2, q H2 e2⟩
theorem ev_neText {te tb : TE} {σ : L2.St} {H : Hp} {x : Str} (h1 : Ev te σ H (.str x)) (h2 : Ev tb σ H (.str x)) : Ev (tOp rNe te tb) σ H (.bl false) := ev_is (ev_op h1 h2 (rv_ne rfl)) (by simp)
/-- x == y, one of them a book -/
def rAnyEq (K : PySem.W.Frag) (C : Addr) (sp : Sp) : R2 := fun x y H Q => rOwnEq K C sp x y H Q ∨ rRevEq K C sp x y H Q
section
variable {X : Cx} {n : Nat} {f C : Addr} {fd : FuncData} {ps : List Str} {sp : Sp}
theorem op_anyEq (c : QC X.K C f) (F : FnOk X.prog X.w X.K X.mg X.base CX0 n f fd ps sp) (hb : Binds X.K fd ps []) (hr : Room (n + 1) X.A) : OpR X (compareOp .Eq) (rAnyEq X.K C sp) := by
  intro pins s σ H x y v u Q I rx ry h
  rcases h with h | h
  · exact op_ownEq c F hb (hr.mono (Nat.le_succ _)) pins s σ H x y v u Q I rx ry h
  · exact op_revEq c F hb hr pins s σ H x y v u Q I rx ry h
end
/-- what a book is compared with: it is not equal to it -/
def Thing (K : PySem.W.Frag) (C : Addr) (D : PartsD) (H : Hp) (x : V) : Prop := (∃ b L, x = .ref b ∧ BkP K H C b L ∧ Other D L) ∨ ∃ d, Sw K H x d
theorem Thing.ex {K : PySem.W.Frag} {C : Addr} {D : PartsD} {H H' : Hp} {x : V} (e : Ex H H') (h : Thing K C D H x) : Thing K C D H' x := by
  rcases h with ⟨b, L, h1, h2, h3⟩ | ⟨d, h⟩
  · exact .inl ⟨b, L, h1, BookD.ex e h2, h3⟩
  · exact .inr ⟨d, Sw.ex e _ _ h⟩
theorem bkp_ins {K : PySem.W.Frag} {H : Hp} {C a : Addr} {D : PartsD} (h : BkP K H C a D) : ∃ dx fs, H a = some (.ins C dx fs) := by
  obtain ⟨_, ⟨dx, _, _, _, _, _, h0, _⟩, _⟩ := h
  exact ⟨dx, _, h0⟩
def eqP (D L : PartsD) : Bool := eq5 (strsD D.hs) (strsD D.ss) (.list (D.ds.map enD)) (.list (D.rs.map enD)) (strsD D.ls) (strsD L.hs) (strsD L.ss) (.list (L.ds.map enD)) (.list (L.rs.map enD)) (strsD L.ls)
theorem eqP_turn {D L : PartsD} : eqP D L = eqP L D := by
  unfold eqP eq5
  rw [PySem.W.eqv_comm (.list (items (strsD D.hs))), PySem.W.eqv_comm (.list (items (strsD D.ss))), PySem.W.eqv_comm (.list (items (.list (D.ds.map enD)))), PySem.W.eqv_comm (.list (items (.list (D.rs.map enD)))), PySem.W.eqv_comm (.list (items (strsD D.ls)))]
section
variable {K : PySem.W.Frag} {C a b : Addr} {D L : PartsD} {ta tb : TE} {σ : L2.St} {H : Hp} {y : V}
theorem right_of (h : Thing K C D H y) : Right K H C y := by
  rcases h with ⟨b, L, rfl, h2, _⟩ | ⟨d, h⟩
  · obtain ⟨dx, fs, h⟩ := bkp_ins h2
    exact .inl ⟨b, dx, fs, rfl, h⟩
  · exact .inr ⟨d, h⟩
theorem sp_book {Q : VK} {E : XK} (B : BkP K H C a D) (g : GoD D) (B2 : BkP K H C b L) (g2 : GoD L) (k : ∀ H', Ex H H' → Q (.bl (eqP D L)) H') : spEqB K C [.ref a, .ref b] H Q E :=
  ⟨a, .ref b, _, _, _, _, _, rfl, B, good_shp g, .inl ⟨b, _, _, _, _, _, rfl, B2, good_shp g2, k⟩⟩
theorem sp_data {Q : VK} {E : XK} {d : PyData} (B : BkP K H C a D) (g : GoD D) (w : Sw K H y d) (k : ∀ H', Ex H H' → Q (.bl false) H') : spEqB K C [.ref a, y] H Q E :=
  ⟨a, y, _, _, _, _, _, rfl, B, good_shp g, .inr ⟨d, w, k⟩⟩
theorem sp_thing {Q : VK} {E : XK} (B : BkP K H C a D) (g : GoD D) (h : Thing K C D H y) (k : ∀ H', Ex H H' → Q (.bl false) H') : spEqB K C [.ref a, y] H Q E := by
  rcases h with ⟨b, L, rfl, h2, o⟩ | ⟨d, h⟩
  · refine sp_book B g h2 o.1 fun H' e => ?_
    have q : eqP D L = false := o.2
    rw [q]
    exact k H' e
  · exact sp_data B g h k
theorem ev_eqT (ha : Ev ta σ H (.ref a)) (hb : Ev tb σ H y) (B : BkP K H C a D) (g : GoD D) (h : Thing K C D H y) : Ev (tOp (rOwnEq K C (spEqB K C)) ta tb) σ H (.bl false) := fun H1 e Q q =>
  ha H1 e _ fun H2 e2 => hb H2 (e.trans e2) _ fun H3 e3 => by
    have E := (e.trans e2).trans e3
    obtain ⟨dx, fs, hi⟩ := bkp_ins (BookD.ex E B)
    exact ⟨a, dx, fs, rfl, hi, right_of (h.ex E), sp_thing (BookD.ex E B) g (h.ex E) fun H' e' => ⟨_, rfl, q H' ((e2.trans e3).trans e')⟩⟩
theorem ev_neT (ha : Ev ta σ H (.ref a)) (hb : Ev tb σ H y) (B : BkP K H C a D) (g : GoD D) (h : Thing K C D H y) : Ev (tOp (rOwnNe K C (spEqB K C)) ta tb) σ H (.bl true) := fun H1 e Q q =>
  ha H1 e _ fun H2 e2 => hb H2 (e.trans e2) _ fun H3 e3 => by
    have E := (e.trans e2).trans e3
    obtain ⟨dx, fs, hi⟩ := bkp_ins (BookD.ex E B)
    exact ⟨a, dx, fs, rfl, hi, right_of (h.ex E), sp_thing (BookD.ex E B) g (h.ex E) fun H' e' => ⟨_, rfl, q H' ((e2.trans e3).trans e')⟩⟩
theorem ev_anyT (ha : Ev ta σ H y) (hb : Ev tb σ H (.ref a)) (B : BkP K H C a D) (g : GoD D) (h : Thing K C D H y) : Ev (tOp (rAnyEq K C (spEqB K C)) ta tb) σ H (.bl false) := fun H1 e Q q =>
  ha H1 e _ fun H2 e2 => hb H2 (e.trans e2) _ fun H3 e3 => by
    have E := (e.trans e2).trans e3
    have B3 : BkP K H3 C a D := BookD.ex E B
    obtain ⟨dx, fs, hi⟩ := bkp_ins B3
    rcases h.ex E with ⟨b, L, rfl, h2, o⟩ | ⟨d, w⟩
    · obtain ⟨dy, gs, hj⟩ := bkp_ins h2
      refine .inl ⟨b, dy, gs, rfl, hj, .inl ⟨a, dx, fs, rfl, hi⟩, sp_book h2 o.1 B3 g fun H' e' => ⟨_, rfl, ?_⟩⟩
      have z : eqP L D = false := eqP_turn.trans o.2
      rw [z]
      exact q H' ((e2.trans e3).trans e')
    · exact .inr ⟨d, a, dx, fs, w, rfl, hi, sp_data B3 g w fun H' e' => ⟨_, rfl, q H' ((e2.trans e3).trans e')⟩⟩
/-- book != a book of the same parts -/
theorem ev_neSame {i : Nat} {E : XK} (ha : Ev ta σ H (.ref a)) (hi : σ[i]? = some (some (.ref b))) (B : BkP K H C a D) (g : GoD D) (h : SL K H b (D5 D)) : Ev (tOp (rOwnNe K C (spEqB K C)) ta (tCall (spLB K C) [] E (tCons (tVar i) tNil))) σ H (.bl false) := fun H1 e Q q =>
  ha H1 e _ fun H2 e2 => by
    have E2 := e.trans e2
    obtain ⟨xs, x1, x2⟩ := h
    refine ⟨_, hi, b, _, _, _, _, _, rfl, ⟨xs, ex_l E2 x1, SwAll.ex E2 _ _ x2⟩, good_fit g, good_none g, fun c H3 nc e3 nb => ?_⟩
    have B3 : BkP K H3 C a D := BookD.ex (E2.trans e3) B
    obtain ⟨dx, fs, hj⟩ := bkp_ins B3
    have B4 : BkP K H3 C c D := nb.is
    obtain ⟨dy, gs, hk⟩ := bkp_ins B4
    refine ⟨a, dx, fs, rfl, hj, .inl ⟨c, dy, gs, rfl, hk⟩, sp_book B3 g B4 g fun H' e' => ⟨_, rfl, ?_⟩⟩
    have z : eqP D D = true := eq_self g
    rw [z]
    exact q H' ((e2.trans e3).trans e')
end
/-- [_law_book(other) for other in _law_others(parts)] + [None, 0, [], {}, "book", parts] -/
theorem things {K : PySem.W.Frag} {C : Addr} {D : PartsD} {p a0 a1 a2 a3 a4 : Addr} {R2 R3 : List Addr} {s0 s1 s2 s4 s5 s6 s7 s8 s9 s10 s11 s12 s13 s14 : Option V} {H : Hp} {Q : VK} {E E' : XK} (hP : PartsAt H p D a0 a1 a2 a3 a4 R2 R3) (o : PartsOk 3 4 D)
    (k : ∀ (q : Addr) (xs : List V) (H2 : Hp), Ex H H2 → H2 q = some (.lst xs) → (∀ x ∈ xs, Thing K C D H2 x) → Q (.ref q) H2) :
    tOp rCat (tLc (iList K (tCall (spOth K) [] E (tCons (tVar 3) tNil))) (gName 14) tYes (tCall (spLB K C) [] E' (tCons (tVar 14) tNil)) [14]) (tLst (tCons (tC .non) (tCons (tC (.int 0)) (tCons (tLst tNil) (tCons tDNewK (tCons (tC (.str "book")) (tCons (tVar 3) tNil)))))))
      [s0, s1, s2, some (.ref p), s4, s5, s6, s7, s8, s9, s10, s11, s12, s13, s14] H Q := by
  refine ⟨_, rfl, p, a0, a1, a2, a3, a4, D, R2, R3, 3, 4, rfl, hP, o, by decide, by decide, fun l H1 Ls nl e1 lLs tl oth => ?_⟩
  obtain ⟨xs, hx, hxs⟩ := tl
  have lx := swAll_len hxs
  rw [List.length_map] at lx
  refine ⟨l, rfl, ⟨xs, SqL.of hx⟩, fun Dl hD => lc_list (xs := xs) (fun i H' => Ex H1 H' ∧ ∃ acc, H' Dl = some (.lst acc) ∧ acc.length = i ∧ ∀ x ∈ acc, Thing K C D (rm H' [Dl]) x) ⟨Ex.new hD, [], upd_same, rfl, fun _ m => nomatch m⟩ (fun i H' _ q => SqL.of (q.1 _ _ hx)) (fun i x H2 hi q => ?_) fun H2 q => ?_⟩
  · obtain ⟨e2, acc, hA, lA, tA⟩ := q
    obtain ⟨d, hd, w⟩ := swAll_get hxs hi
    obtain ⟨L, hL, rfl⟩ : ∃ L, Ls[i]? = some L ∧ d = dOf L := by
      rw [List.getElem?_map] at hd
      cases hz : Ls[i]? with
      | none => rw [hz] at hd; cases hd
      | some z => rw [hz] at hd; exact ⟨z, rfl, (Option.some.inj hd).symm⟩
    have oL := oth L (List.mem_of_getElem? hL)
    obtain ⟨y, rfl, sy⟩ := sl_of (Sw.ex e2 _ _ w)
    have il := (List.getElem?_eq_some_iff.mp hi).1
    refine ⟨rfl, _, rfl, y, _, _, _, _, _, rfl, sy, good_fit oL.1, good_none oL.1, fun c H3 nc e3 nb => ?_⟩
    have hA3 := e3 _ _ hA
    refine ⟨acc, hA3, sz_lt (by omega), (e2.trans e3).mut hD, acc ++ [.ref c], upd_same, by simp [lA], fun z m => ?_⟩
    have er : rm (upd H3 Dl (.lst (acc ++ [.ref c]))) [Dl] = rm H3 [Dl] := by
      funext b
      unfold rm
      by_cases c : b ∈ [Dl]
      · rw [if_pos c, if_pos c]
      · rw [if_neg c, if_neg c, upd_ne fun q => c (by simp [q])]
    rw [er]
    rcases List.mem_append.mp m with m | m
    · refine (tA z m).ex fun b u hb => ?_
      unfold rm at hb ⊢
      split at hb
      · cases hb
      · rename_i h
        rw [if_neg h]
        exact e3 b u hb
    · obtain rfl : z = .ref c := by simpa using m
      refine .inl ⟨c, L, rfl, kp_book (keep_rm fun r m => ?_) nb, oL⟩
      obtain rfl : r = Dl := by simpa using m
      exact ⟨acc, hA, hA3⟩
  · obtain ⟨e2, acc, hA, lA, tA⟩ := q
    have hP2 := hP.ex (e1.trans e2)
    refine el_lst (K := K) (ds := [.none, .int 0, .list [], .dict [], .str "book", .list (D5 D)]) (eda_cons ed_non (eda_cons ed_int (eda_cons (EvD.ed_lst eda_nil (by simp)) (eda_cons ed_dict (eda_cons ed_str (eda_cons (ed_var rfl (partsTL hP2).sw) eda_nil)))))) (by simp) H2 (Ex.refl _) _ fun b H3 e3 tb => ?_
    obtain ⟨ys, hy, hys⟩ := tb
    have ly := swAll_len hys
    have ly6 : ys.length = 6 := ly
    refine ⟨Dl, b, acc, ys, rfl, rfl, e3 _ _ hA, hy, sz_of (by omega), fun q nq => k q _ _ (((e1.trans e2).trans e3).trans (Ex.new nq)) upd_same fun x m => ?_⟩
    have e4 : Ex H3 (upd H3 q (.lst (acc ++ ys))) := Ex.new nq
    rcases List.mem_append.mp m with m | m
    · exact (tA x m).ex ((rm_ex.trans e3).trans e4)
    · obtain ⟨i, hi, rfl⟩ := List.mem_iff_getElem.mp m
      obtain ⟨d, _, w⟩ := swAll_get hys (List.getElem?_eq_getElem hi)
      exact .inr ⟨d, Sw.ex e4 _ _ w⟩
end LwF

/-! ### the law: its last lines -/
namespace LwG
open PySem PySem.Spec PyProof.Rows L2 Evl Gen Ent Rep Dat Nm Er Chk Gu Deed Pts Hear Lst Bk Cau EvD BadE EntR Lis Prd NmP NmR Bmk EqB OwnQ RevQ God Oth ExD OtB STx STs SFl Snd LwP LwE LwF
theorem asg_step {te : TE} {i : Nat} {tz : TS} {D : Ends} {σ : L2.St} {H : Hp} (h : te σ H fun v H1 => tz D (σ.set i (some v)) H1) : tSeq (tAsg te (gName i)) tz D σ H := h
theorem sq_step {t u : TS} {D : Ends} {σ : L2.St} {H : Hp} (h : t { D with nx := u D } σ H) : tSeq t u D σ H := h
theorem for_step {K : PySem.W.Frag} {tl : TE} {g : TG} {tb : TS} {D : Ends} {σ : L2.St} {H : Hp} (h : tl σ H fun x G => ∃ a, x = .ref a ∧ (∃ xs, SqL K G a xs) ∧ ∃ W : Nat → Nat → L2.St → Hp → Prop, (∃ m, W 0 m σ G) ∧ ∀ i m σ H, W i m σ H →
    ((Itl K a).stop i H ∧ D.nx σ H) ∨ ((Itl K a).go i H ∧ ∃ N : L2.St → Hp → Prop, (∀ σ' H', N σ' H' → ∃ m', m' < m ∧ W (i + 1) m' σ' H') ∧ ∀ x H', (Itl K a).yld i H x H' → g x σ H' fun σ2 H2 => tb { D with nx := N, ct := N, bk := D.nx } σ2 H2)) : tFor (iList K tl) g tb D σ H := h
theorem tl_step {ta : TA} {σ : L2.St} {H : Hp} {Q : VK} (h : ta σ H fun xs H1 => xs.length ≤ sizeLine ∧ ∀ p, H1 p = none → Q (.ref p) (upd H1 p (.lst xs))) : tLst ta σ H Q := h
theorem tc_step {ta : TE} {tr : TA} {σ : L2.St} {H : Hp} {Q : List V → Hp → Prop} (h : ta σ H fun x H1 => tr σ H1 fun xs H2 => Q (x :: xs) H2) : tCons ta tr σ H Q := h
theorem make_book {K : PySem.W.Frag} {CL CI C : Addr} {ta : TA} {d1 d2 d3 d4 d5 : PyData} {i : Nat} {tz : TS} {D : Ends} {σ : L2.St} {H : Hp} (h : EDA K ta σ H [d1, d2, d3, d4, d5]) (hb : bookErr d1 d2 d3 d4 d5 = none) (ft : Fit5 d1 d2 d3 d4 d5)
    (k : ∀ x H4 H5, Ex H H4 → Ex H4 H5 → BookN K H4 H5 C x d1 d2 d3 d4 d5 → tz D (σ.set i (some (.ref x))) H5) : tSeq (tAsg (tMake C (spInit K CL CI C) [] (fun _ _ _ => False) ta) (gName i)) tz D σ H := by
  refine h H (Ex.refl _) (fun vs H1 => ∀ x dx, H1 x = none → H1 dx = none → dx ≠ x → spInit K CL CI C (.ref x :: (vs ++ [])) (upd (upd H1 dx (.own x)) x (.ins C dx [])) (fun v H2 => v = .non ∧ (fun (u : V) (G : Hp) => tz D (σ.set i (some u)) G) (.ref x) H2) (fun _ _ _ => False)) fun vs H4 e4 hw x dx nx ndx ne => ?_
  cases hw with
  | cons w1 hw =>
  cases hw with
  | cons w2 hw =>
  cases hw with
  | cons w3 hw =>
  cases hw with
  | cons w4 hw =>
  cases hw with
  | cons w5 hw =>
  cases hw
  exact made (Q := fun (u : V) (G : Hp) => tz D (σ.set i (some u)) G) hb ft ⟨w1, w2, w3, w4, w5⟩ nx ndx ne fun H5 e5 nb => k x H4 H5 e4 e5 nb
theorem new_mem {H H' : Hp} : ∀ {A : List Addr} {X : List (List V)}, New H H' A X → ∀ a ∈ A, ∃ Y ∈ X, H' a = some (.lst Y)
  | _, _, .nil, _, m => nomatch m
  | _, _, .cons h t, a, m => by
    rcases List.mem_cons.mp m with rfl | m
    · exact ⟨_, List.mem_cons_self .., h.1⟩
    · obtain ⟨Y, mY, hY⟩ := new_mem t a m
      exact ⟨Y, List.mem_cons_of_mem _ mY, hY⟩
theorem strs_inv {K : PySem.W.Frag} {H : Hp} : ∀ {l : List Str} {xs : List V}, SwAll K H xs (l.map PyData.str) → xs = l.map V.str
  | [], _, h => by
    cases h
    rfl
  | z :: l, _, h => by
    cases h with
    | cons a b =>
      cases a
      rw [strs_inv b]
      rfl
/-- a book of these parts -/
def EB (K : PySem.W.Frag) (C : Addr) (te : TE) (σ : L2.St) (H : Hp) (D : PartsD) : Prop := ∀ H1, Ex H H1 → ∀ Q : VK, (∀ c H2, Ex H1 H2 → BkP K H2 C c D → Q (.ref c) H2) → te σ H1 Q
section
variable {K : PySem.W.Frag} {C : Addr} {D : PartsD} {te ta tb : TE} {σ : L2.St} {H : Hp}
theorem eb_call {i : Nat} {b : Addr} {E : XK} (hi : σ[i]? = some (some (.ref b))) (g : GoD D) (h : SL K H b (D5 D)) : EB K C (tCall (spLB K C) [] E (tCons (tVar i) tNil)) σ H D := fun H1 e Q q => by
  obtain ⟨xs, x1, x2⟩ := h
  exact ⟨_, hi, b, _, _, _, _, _, rfl, ⟨xs, ex_l e x1, SwAll.ex e _ _ x2⟩, good_fit g, good_none g, fun c H3 _ e3 nb => q c H3 e3 nb.is⟩
theorem ed_hear (h : EB K C te σ H D) : ED K (tMeth C "hearings" (spGet C (·.r)) [] E0 te tNil) σ H (.list (D.rs.map enD)) := fun H1 e Q q => h H1 e _ fun c H2 e2 hb => by
  obtain ⟨B, ib, s1, s2, s3, s4, s5⟩ := hb
  obtain ⟨dx, b1, b2, b3, b4, b5, h0, _⟩ := id ib
  exact ⟨c, dx, _, rfl, h0, rfl, c, B, rfl, ib, fun r H3 _ e3 hr => q _ H3 (e2.trans e3) (.lst (SqL.of hr) (SwAll.ex e3 _ _ s4))⟩
theorem ed_snd0 (h : EB K C te σ H D) (hd : D.ds.length ≤ 10) (hn : sn D.ds = []) : ED K (tMeth C "sounds" (spSnd K C) [] E0 te tNil) σ H (.list []) := fun H1 e Q q => h H1 e _ fun c H2 e2 hb => by
  obtain ⟨B, ib, s1, s2, s3, s4, s5⟩ := hb
  obtain ⟨dx, b1, b2, b3, b4, b5, h0, _⟩ := id ib
  refine ⟨c, dx, _, rfl, h0, rfl, c, B, D.ds, rfl, ib, s3, hd, fun zs r H3 pm _ _ e3 hr => q _ H3 (e2.trans e3) (.lst (SqL.of hr) ?_)⟩
  rw [hn] at pm
  rw [List.perm_nil.mp pm]
  exact .nil
theorem ev_eqDD {d e : PyData} (ha : ED K ta σ H d) (hb : ED K tb σ H e) (sd : SeqAt.shaped d = true) (se : SeqAt.shaped e = true) : Ev (tOp (rEqD K) ta tb) σ H (.bl (PyData.eqv d e)) := fun H1 e1 Q q =>
  ha H1 e1 _ fun x H2 e2 wx => hb H2 (e1.trans e2) _ fun y H3 e3 wy => ⟨d, e, sw_dp _ _ (Sw.ex e3 _ _ wx) (SeqAt.canLay_of_shaped sd), sw_dp _ _ wy (SeqAt.canLay_of_shaped se), sd, se, q H3 (e2.trans e3)⟩
end
/-! the full book -/
def fS : List Str := ["d", "e", "f", "g"]
def fA : List Str := ["a", "b", "c"]
def rows (j : Nat) : List En := (fA.take j).flatMap fun s => fS.map fun p => (p, some s, "d")
def fullD : PartsD := ⟨fA, fS, List.replicate 10 ("a", none, "b"), rows 3, ["k", "l", "m", "a"]⟩
theorem full_good : GoD fullD := by
  refine ⟨by decide +kernel, by decide +kernel, by decide +kernel, by decide +kernel, by decide +kernel, by decide +kernel, by decide +kernel, by decide +kernel, by decide +kernel, by decide +kernel, by decide +kernel, by decide +kernel, ?_, ?_, by decide +kernel⟩
  · intro e m
    obtain rfl := List.eq_of_mem_replicate m
    exact ⟨fun z q => (nomatch q), .inl ⟨by decide +kernel, by decide +kernel⟩⟩
  · intro e m
    have h : ∀ e ∈ rows 3, (match e.2.1 with
        | none => false
        | some z => nmS z) = true ∧ e.1 ∈ fS ∧ e.2.2 ∈ fS := by decide +kernel
    obtain ⟨h1, h2, h3⟩ := h e m
    refine ⟨?_, .inr ⟨h2, h3⟩⟩
    cases q : e.2.1 with
    | none =>
      rw [q] at h1
      cases h1
    | some z =>
      rw [q] at h1
      exact ⟨z, rfl, h1⟩
theorem full_sn : sn fullD.ds = [] := by decide +kernel
theorem rows_succ {j : Nat} {s : Str} (h : fA[j]? = some s) : (rows (j + 1)).map enD = (rows j).map enD ++ (fS.map fun p => ((p, some s, "d") : En)).map enD := by
  unfold rows
  rw [List.take_succ, h, List.flatMap_append, List.map_append]
  simp
/-- [(place, sound, "d") for place in full[1]] -/
theorem row {K : PySem.W.Frag} {f c1 : Addr} {xs : List V} {s : Str} {s0 s1 s2 s3 s4 s5 s6 s7 s8 s9 s10 s13 s14 : Option V} {H : Hp} {Q : VK} (hf : H f = some (.lst xs)) (h1 : xs[1]? = some (.ref c1)) (hc : H c1 = some (.lst (fS.map V.str)))
    (k : ∀ (Dl : Addr) (R : List Addr) (H2 : Hp), Ex H H2 → H2 Dl = some (.lst (R.map V.ref)) → Tups H2 R ((fS.map fun p => ((p, some s, "d") : En)).map enV) → Q (.ref Dl) H2) :
    tLc (iList K (tOp (rIxL K) (tVar 11) (tC (.int 1)))) (gName 13) tYes (tTup (tCons (tVar 13) (tCons (tVar 12) (tCons (tC (.str "d")) tNil)))) [13]
      [s0, s1, s2, s3, s4, s5, s6, s7, s8, s9, s10, some (.ref f), some (.str s), s13, s14] H Q := by
  refine ⟨_, rfl, f, xs, 1, .ref c1, rfl, rfl, SqL.of hf, atI_nat (j := 1) h1, c1, rfl, ⟨_, SqL.of hc⟩, fun Dl hD => lc_list (xs := fS.map V.str) (fun i H' => Ex H H' ∧ ∃ R, H' Dl = some (.lst (R.map V.ref)) ∧ R.length = i ∧ Tups H' R (((fS.take i).map fun p => ((p, some s, "d") : En)).map enV)) ⟨Ex.new hD, [], upd_same, rfl, .nil⟩ (fun i H' _ q => SqL.of (q.1 _ _ hc)) (fun i x H2 hx q => ?_) fun H2 q => ?_⟩
  · obtain ⟨e2, R, hR, lR, tR⟩ := q
    rw [List.getElem?_map] at hx
    cases hz : fS[i]? with
    | none => rw [hz] at hx; cases hx
    | some z =>
      rw [hz] at hx
      obtain rfl : V.str z = x := Option.some.inj hx
      have il : i < 4 := (List.getElem?_eq_some_iff.mp hz).1
      refine ⟨rfl, _, rfl, _, rfl, by show 3 ≤ sizeLine; decide, fun t nt => ?_⟩
      have e3 : Ex H2 (upd H2 t (.tup [.str z, .str s, .str "d"])) := Ex.new nt
      have hR3 := e3 _ _ hR
      refine ⟨_, hR3, sz_lt (by rw [List.length_map]; omega), (e2.trans e3).mut hD, R ++ [t], by rw [upd_same]; simp, by simp [lR], ?_⟩
      have t3 := tups_app (q := t) (xs := [.str z, .str s, .str "d"]) (tR.ex e3) upd_same
      have et : (((fS.take (i + 1)).map fun p => ((p, some s, "d") : En)).map enV) = (((fS.take i).map fun p => ((p, some s, "d") : En)).map enV) ++ [[.str z, .str s, .str "d"]] := by
        rw [List.take_succ, hz]
        simp [enV, sv]
      rw [et]
      exact tups_upd hR3 t3
  · obtain ⟨e2, R, hR, lR, tR⟩ := q
    have e4 : fS.take (fS.map V.str).length = fS := rfl
    rw [e4] at tR
    exact k Dl R H2 e2 hR tR
end LwG

/-! ### the law -/
namespace Lw
open PySem PySem.Spec PyProof.Rows L2 Evl Gen Ent Rep Dat Nm Er Chk Gu Deed Pts Hear Lst Bk Cau EvD BadE EntR Lis Prd NmP NmR Bmk EqB OwnQ RevQ God Oth ExD OtB STx STs SFl Snd LwP LwE LwF LwG
abbrev sLw : Stmt := top 29
abbrev NLw : List Str := ["_law_script", "_law_index", "_law_generator_here", "_law_parts_here", "_law_given", "_law_book_here", "_law_some", "_law_turn", "_law_told", "_law_sounds", "_law_thing", "_law_full", "_law_sound", "_law_place", "_law_other"]
theorem scLw : FnScope NLw ["_law_script"] (defScope sLw) := ⟨rfl, rfl, rfl, by decide +kernel, rfl, by decide +kernel, by decide +kernel⟩
def spLaw (K : PySem.W.Frag) : Sp := fun vs H Q _ => ∃ (a : Addr) (ns : List Int), vs = [.ref a] ∧ SqL K H a (VInt ns) ∧ ns.length ≤ 63 ∧ ∀ H', Q (.bl true) H'
section
variable {X : Cx} {k j : Nat} {ps : List Str} {sp : Sp} {x : Str} {p pos : Pos}
theorem pe_dfG0 (D : DfG X.prog X.w X.K X.mg X.base k x ps sp) (gd : X.A.guards = some []) (hr : Room j X.A) (hk : k ≤ j := by decide) (hg : Gl X x := by rfl) (hdb : (x == ("__debug__" : Str)) = false := by decide) :
    PE X (.Call (.Name x p) [] [] pos) (tCall sp [] E0 tNil) := by
  obtain ⟨f, fd, F, hm, hkp, hb⟩ := D.ex
  refine ⟨fun pins s σ H Q I h => ?_⟩
  refine wpAny_Call_Name_kw (ld_glob I hg hm ?_ hdb)
  refine PySem.W.callWith_K0 I.kIn hkp ?_
  have hl : ([] ++ [] : List Value).length = ps.length := by
    rw [← F.len _ _ _ _ h]
    rfl
  refine wpAny_call (codeAny_mono (F.run X.A X.stack s H ⟨[], []⟩ ([] ++ []) ([] ++ []) Q E0 gd (hr.mono hk) I.env0 (hb s [] I.kIn hl) .nil h) fun r s' hq => ?_)
  cases r with
  | error er => exact False.elim hq
  | ok fl =>
    cases fl with
    | ret u => exact I.after hq
    | next => exact False.elim hq
    | brk => exact False.elim hq
    | cont => exact False.elim hq
end
/-- a method without arguments, with its promise -/
structure Mth (P : Program) (w : World) (K : PySem.W.Frag) (mg : Str → Option Value) (base : Heap) (k : Nat) (C : Addr) (m : Str) (sp : Sp) : Prop where
  ex : ∃ f fd, Cls K C ∧ Meth K C m f ∧ FnOk P w K mg base CX0 k f fd ["self"] sp ∧ Binds K fd ["self"] []
structure LawT (P : Program) (w : World) (K : PySem.W.Frag) (mg : Str → Option Value) (base : Heap) (CL CI C : Addr) : Prop where
  gen : Df P w K mg base CX0 2 "_law_generator" ["_law_script", "_law_index"] (spGen K)
  parts : Df P w K mg base CX0 4 "_law_parts" ["_law_generator_here", "_law_wide", "_law_high"] spParts
  lis : Df P w K mg base CX0 1 "_law_lists" ["_law_parts_here"] (spLis K)
  lb : Df P w K mg base CX0 7 "_law_book" ["_law_parts_here"] (spLB K C)
  oth : Df P w K mg base CX0 2 "_law_others" ["_law_parts_here"] (spOth K)
  nr : DfG P w K mg base 8 "_law_names_refused" ["_law_parts_here"] spNR
  er : DfG P w K mg base 8 "_law_entries_refused" [] (spER K)
  bk : BkC P w K mg base CL CI C
  houses : Mth P w K mg base 1 C "houses" (spGet C (·.h))
  stands : Mth P w K mg base 1 C "stands" (spGet C (·.s))
  deeds : Mth P w K mg base 1 C "deeds" (spGet C (·.d))
  hearings : Mth P w K mg base 1 C "hearings" (spGet C (·.r))
  lost : Mth P w K mg base 1 C "lost" (spGet C (·.l))
  sounds : Mth P w K mg base 1 C "sounds" (spSnd K C)
  eq : ∃ f fd, QC K C f ∧ FnOk P w K mg base CX0 1 f fd ["self", "other"] (spEqB K C) ∧ Binds K fd ["self", "other"] []
section
variable {P : Program} {w : World} {K : PySem.W.Frag} {mg : Str → Option Value} {base : Heap}
set_option maxHeartbeats 16000000 in
theorem ok_law {f CL CI C : Addr} {fd : FuncData} (F : Fun K "law" "law" sLw f fd) (B : Bt mg) (T : LawT P w K mg base CL CI C) : FnG P w K mg base 9 f fd ["_law_script"] (spLaw K) := by
  obtain ⟨fI, fdI, M, G, bG⟩ := T.bk.ex
  obtain ⟨fQ, fdQ, QQ, FQ, bQ⟩ := T.eq
  obtain ⟨f1, fd1, c1, m1, F1, b1⟩ := T.houses.ex
  obtain ⟨f2, fd2, c2, m2, F2, b2⟩ := T.stands.ex
  obtain ⟨f3, fd3, c3, m3, F3, b3⟩ := T.deeds.ex
  obtain ⟨f4, fd4, c4, m4, F4, b4⟩ := T.hearings.ex
  obtain ⟨f5, fd5, c5, m5, F5, b5⟩ := T.lost.ex
  obtain ⟨f6, fd6, c6, m6, F6, b6⟩ := T.sounds.ex
  refine fun_okG F scLw (fun vs H Q E h => ?_) (fun cdv A outer s H vs Q E gd hr h => ?_)
  · obtain ⟨a, ns, rfl, _⟩ := h
    rfl
  · obtain ⟨a, ns, rfl, hS, hl, kq⟩ := h
    refine ⟨_, (pss_cons (ps_for PassesOwn.never rfl (pi_range1 rfl B.range (pa_cons pe_int pa_nil)) (pg_name (i := 1) scLw.nd rfl (Or.inl rfl)) (pss_cons (ps_set (i := 2) scLw.nd rfl (Or.inl rfl) (pe_df T.gen hr pass0 (pa_cons (pv 0) (pa_cons (pv 1) pa_nil))))
      (pss_cons (ps_set (i := 3) scLw.nd rfl (Or.inl rfl) (pe_df T.parts hr pass0 (pa_cons (pv 2) (pa_cons pe_int (pa_cons pe_int pa_nil)))))
      (pss_cons (ps_set (i := 4) scLw.nd rfl (Or.inl rfl) (pe_df T.lis hr pass0 (pa_cons (pv 3) pa_nil)))
      (pss_cons (ps_set (i := 5) scLw.nd rfl (Or.inl rfl) (pe_make M G (hr.mono (by decide)) (by rfl) T.bk.g bG .nil passF (pa_cons (pe_ix ix_list (pv 4) pe_int (fun _ _ => rfl)) (pa_cons (pe_ix ix_list (pv 4) pe_int (fun _ _ => rfl)) (pa_cons (pe_ix ix_list (pv 4) pe_int (fun _ _ => rfl)) (pa_cons (pe_ix ix_list (pv 4) pe_int (fun _ _ => rfl)) (pa_cons (pe_ix ix_list (pv 4) pe_int (fun _ _ => rfl)) pa_nil)))))))
      (pss_cons (ps_for PassesOwn.never rfl (pi_list (pv 4)) (pg_name (i := 6) scLw.nd rfl (Or.inl rfl)) (pss_one (ps_expr (pe_bm PySem.F.plainAttrs_list PySem.F.slot_list_append PySem.F.type_list_append mt_append (pv 6) (pa_cons pe_non pa_nil)))))
      (pss_cons (ps_for PassesOwn.never rfl (pi_range1 rfl B.range (pa_cons pe_int pa_nil)) (pg_name (i := 7) scLw.nd rfl (Or.inl rfl)) (pss_cons (ps_set (i := 8) scLw.nd rfl (Or.inl rfl) (pe_lst (pa_cons (pe_meth0 (pv 5) c1 m1 F1 (hr.mono (by decide)) b1 .nil pass0) (pa_cons (pe_meth0 (pv 5) c2 m2 F2 (hr.mono (by decide)) b2 .nil pass0) (pa_cons (pe_meth0 (pv 5) c3 m3 F3 (hr.mono (by decide)) b3 .nil pass0) (pa_cons (pe_meth0 (pv 5) c4 m4 F4 (hr.mono (by decide)) b4 .nil pass0) (pa_cons (pe_meth0 (pv 5) c5 m5 F5 (hr.mono (by decide)) b5 .nil pass0) (pa_cons (pe_meth0 (pv 5) c6 m6 F6 (hr.mono (by decide)) b6 .nil pass0) pa_nil))))))))
      (pss_cons (ps_set (i := 9) scLw.nd rfl (Or.inl rfl) (pe_callB (r := rSortT P w) (cr_sortT rfl) (by rfl) B.sorted (by decide +kernel) (pa_cons (pe_callTy (r := rSetL P w K) (cr_setL rfl) (by rfl) B.set (by decide +kernel) (pa_cons (pe_lc (own := [("_law_place", 13), ("_law_sound", 12), ("_law_other", 14)]) (g := gTup K 3 (gCons (gName 13) (gCons (gName 12) (gCons (gName 14) gNil)))) (tt := tTest (tOp (fun x y H Q => y = .non ∧ Q (.bl (!decide (x = .non))) H) (tVar 12) (tC .non))) (te := tVar 12) rfl scLw.nd (pi_list (pe_ix ix_list (pv 3) pe_int (fun _ _ => rfl))) (blkOk_by (N := NLw) (sc := defScope sLw) (by decide +kernel)) (fun _ _ _ _ _ => pg_tup rfl (pgs_cons (pg_name (i := 13) scLw.nd rfl (Or.inl rfl)) (pgs_cons (pg_name (i := 12) scLw.nd rfl (Or.inl rfl)) (pgs_cons (pg_name (i := 14) scLw.nd rfl (Or.inl rfl)) pgs_nil)))) (fun _ _ _ _ _ => pts_one (pt_cmpR op_notN (pv 12) pe_non (nomark _))) (fun _ _ _ _ _ => pv 12)) pa_nil)) pa_nil)))
      (pss_cons (ps_if (PW.pt (pw_or (pt_cmpR op_ne (pe_callB (id := "repr") (r := rRepr K) (call_repr gd (un64 hr)) (by rfl) B.repr (by decide +kernel) (pa_cons (pv 8) pa_nil)) (pe_callB (id := "repr") (r := rRepr K) (call_repr gd (un64 hr)) (by rfl) B.repr (by decide +kernel) (pa_cons (pe_op op_cat (pv 3) (pe_lst (pa_cons (pv 9) pa_nil))) pa_nil)) (nomark _)) (pw_or1 (pt_cmpR (op_ownNe QQ FQ bQ (hr.mono (by decide))) (pv 5) (pe_df T.lb hr pass0 (pa_cons (pv 3) pa_nil)) (nomark _))))) (pss_one (ps_ret pe_bl)) pss_nil)
      (pss_one (ps_for PassesOwn.never rfl (pi_list (pv 8)) (pg_name (i := 6) scLw.nd rfl (Or.inl rfl)) (pss_one (ps_expr (pe_bm PySem.F.plainAttrs_list PySem.F.slot_list_append PySem.F.type_list_append mt_append (pv 6) (pa_cons pe_non pa_nil))))))))))
      (pss_cons (ps_for PassesOwn.never rfl (pi_list (pe_op op_cat (pe_lc (own := [("_law_other", 14)]) (g := gName 14) (tt := tYes) (te := tCall (spLB K C) [] E0 (tCons (tVar 14) tNil)) rfl scLw.nd (pi_list (pe_df T.oth hr pass0 (pa_cons (pv 3) pa_nil))) (blkOk_by (N := NLw) (sc := defScope sLw) (by decide +kernel)) (fun _ _ _ _ _ => (pg_name (i := 14) scLw.nd rfl (Or.inl rfl))) (fun _ _ _ _ _ => pts_nil) (fun _ _ _ _ _ => (pe_df T.lb hr pass0 (pa_cons (pv 14) pa_nil)))) (pe_lst (pa_cons pe_non (pa_cons pe_int (pa_cons (pe_lst pa_nil) (pa_cons pe_dnewK (pa_cons pe_str (pa_cons (pv 3) pa_nil))))))))) (pg_name (i := 10) scLw.nd rfl (Or.inl rfl)) (pss_one (ps_if (PW.pt (pw_or (pt_cmpR (op_ownEq QQ FQ bQ (hr.mono (by decide))) (pv 5) (pv 10) (nomark _)) (pw_or (pt_cmpR (op_anyEq QQ FQ bQ (hr.mono (by decide))) (pv 10) (pv 5) (nomark _)) (pw_or1 (pt_not (pt_cmpR (op_ownNe QQ FQ bQ (hr.mono (by decide))) (pv 5) (pv 10) (nomark _))))))) (pss_one (ps_ret pe_bl)) pss_nil)))
      (pss_one (ps_if (pt_not (pt_val (pe_dfG T.nr gd hr (pa_cons (pv 3) pa_nil)))) (pss_one (ps_ret pe_bl)) pss_nil))))))))))
      (pss_cons (ps_set (i := 11) scLw.nd rfl (Or.inl rfl) (pe_lst (pa_cons (pe_lst (pa_cons pe_str (pa_cons pe_str (pa_cons pe_str pa_nil)))) (pa_cons (pe_lst (pa_cons pe_str (pa_cons pe_str (pa_cons pe_str (pa_cons pe_str pa_nil))))) (pa_cons (pe_op op_rep (pe_lst (pa_cons (pe_tup (pa_cons pe_str (pa_cons pe_non (pa_cons pe_str pa_nil)))) pa_nil)) pe_int) (pa_cons (pe_lst pa_nil) (pa_cons (pe_lst (pa_cons pe_str (pa_cons pe_str (pa_cons pe_str (pa_cons pe_str pa_nil))))) pa_nil)))))))
      (pss_cons (ps_for PassesOwn.never rfl (pi_list (pe_lst (pa_cons pe_str (pa_cons pe_str (pa_cons pe_str pa_nil))))) (pg_name (i := 12) scLw.nd rfl (Or.inr rfl)) (pss_one (ps_asg (pe_op op_cat (pe_ix ix_list (pv 11) pe_int (fun _ _ => rfl)) (pe_lc (own := [("_law_place", 13)]) (g := gName 13) (tt := tYes) (te := tTup (tCons (tVar 13) (tCons (tVar 12) (tCons (tC (.str "d")) tNil)))) rfl scLw.nd (pi_list (pe_ix ix_list (pv 11) pe_int (fun _ _ => rfl))) (blkOk_by (N := NLw) (sc := defScope sLw) (by decide +kernel)) (fun _ _ _ _ _ => (pg_name (i := 13) scLw.nd rfl (Or.inl rfl))) (fun _ _ _ _ _ => pts_nil) (fun _ _ _ _ _ => (pe_tup (pa_cons (pv 13) (pa_cons (pv 12) (pa_cons pe_str pa_nil))))))) (pg_sub (pv 11) pe_int set_list))))
      (pss_one (ps_ret (pe_and (pe_dfG0 T.er gd hr) (pe_and (pe_cmpR (op_eqD (un64 hr)) (pe_meth0 (pe_df T.lb hr pass0 (pa_cons (pv 11) pa_nil)) c4 m4 F4 (hr.mono (by decide)) b4 .nil pass0) (pe_ix ix_list (pv 11) pe_int (fun _ _ => rfl)) (nomark _)) (pe_one (pe_cmpR (op_eqD (un64 hr)) (pe_meth0 (pe_df T.lb hr pass0 (pa_cons (pv 11) pa_nil)) c6 m6 F6 (hr.mono (by decide)) b6 .nil pass0) (pe_lst pa_nil) (nomark _)))))))))), ?_⟩
    refine q_forR1 (n := 5) (ea_cons ev_c ea_nil) ⟨by decide, by decide⟩ (fun _ σ' H' => (∃ s1 s2 s3 s4 s5 s6 s7 s8 s9 s10 s11 s12 s13 s14, σ' = [some (.ref a), s1, s2, s3, s4, s5, s6, s7, s8, s9, s10, s11, s12, s13, s14]) ∧ Ex H H') (fun H1 e1 => ⟨⟨_, _, _, _, _, _, _, _, _, _, _, _, _, _, rfl⟩, e1⟩) ?_ ?_
    · rintro i σ' H' hi ⟨⟨s1, s2, s3, s4, s5, s6, s7, s8, s9, s10, s11, s12, s13, s14, rfl⟩, e0⟩
      have hi' : i < 5 := by omega
      -- what is drawn
      refine ⟨_, rfl, _, rfl, a, ns, i, rfl, ex_l e0 hS, hl, by omega, fun gg G0 ng hG => ?_⟩
      refine ⟨_, rfl, gg, 3, 4, (1000 * i : Int), rfl, ⟨G0, upd_same, hG⟩, by omega, ⟨by decide, by decide⟩, ⟨by decide, by decide⟩, fun p H2 D a0 a1 a2 a3 a4 R2 R3 mv _ hP ok _ => ?_⟩
      have e2 : Ex H' H2 := fun b u hb => mv b u (ne_of_none hb ng) (by rw [upd_ne (ne_of_none hb ng)]; exact hb)
      have g : GoD D := (goodD ok (by decide) (by decide)).1
      -- the lists that are given
      refine ⟨_, rfl, p, [a0, a1, a2, a3, a4], [D.hs.map V.str, D.ss.map V.str, R2.map V.ref, R3.map V.ref, D.ls.map V.str], rfl, SqL.of hP.p, .cons (SqL.of hP.h0) (.cons (SqL.of hP.h1) (.cons (SqL.of hP.h2) (.cons (SqL.of hP.h3) (.cons (SqL.of hP.h4) .nil)))), by show 5 ≤ 1000; decide, fun q H3 R nq e3 hq hN nd => ?_⟩
      have tq : TL K H3 q (D5 D) := by
        obtain ⟨r0, r1, r2, r3, r4, eR, sw3⟩ := cols (K := K) hP hN (fun _ _ _ h => h) e3
        exact ⟨_, hq, by rw [eR]; exact sw3⟩
      have lR : R.length = 5 := new_len hN
      -- the book
      refine make_book (eda_cons (ed_ix (n := 0) (el_var rfl tq) ev_c rfl) (eda_cons (ed_ix (n := 1) (el_var rfl tq) ev_c rfl) (eda_cons (ed_ix (n := 2) (el_var rfl tq) ev_c rfl) (eda_cons (ed_ix (n := 3) (el_var rfl tq) ev_c rfl) (eda_cons (ed_ix (n := 4) (el_var rfl tq) ev_c rfl) eda_nil))))) (parts_ok ok (by decide) (by decide)) (good_fit g) fun x H4 H5 e4 e5 nb => ?_
      -- what stays from here on
      have keep : Keep H4 H5 (rm H5 R) := keep_rm fun r m => by
        obtain ⟨Y, h1, _⟩ := new_none hN r m
        exact ⟨Y, e4 _ _ h1, e5 _ _ (e4 _ _ h1)⟩
      have eG : Ex H2 (rm H5 R) := ex_rm ((e3.trans e4).trans e5) fun t m => by
        obtain ⟨Y, _, h2⟩ := new_none hN t m
        exact h2
      have hPG := hP.ex eG
      have bG : BkP K (rm H5 R) C x D := kp_book keep nb
      have hqG : rm H5 R q = some (.lst (R.map V.ref)) := by
        rw [rm_ne (List.nodup_cons.mp nd).1]
        exact e5 _ _ (e4 _ _ hq)
      have eHG : Ex H (rm H5 R) := (e0.trans e2).trans eG
      have hRG : ∀ r ∈ R, rm H5 R r = none ∧ ∃ ys, H5 r = some (.lst ys) ∧ ys.length ≤ 1000 := fun r m => by
        obtain ⟨Y, mY, h1⟩ := new_mem hN r m
        refine ⟨rm_in m, Y, e5 _ _ (e4 _ _ h1), ?_⟩
        have b1 := g.h.2
        have b2 := g.s.2
        have b3 := g.d
        have b4 := g.r
        have b5 := g.l
        have c2 := hP.t2.len
        have c3 := hP.t3.len
        simp only [List.length_map] at c2 c3
        simp only [List.mem_cons, List.not_mem_nil, or_false] at mY
        rcases mY with rfl | rfl | rfl | rfl | rfl <;> (rw [List.length_map]; omega)
      have e5G : Ex (rm H5 R) H5 := rm_ex
      generalize rm H5 R = G at hPG bG hqG eHG hRG e5G
      refine q_none (G := G) (R := R) (iv := 4) rfl (by simp) hqG e5G hRG (by omega) fun s6' H6 e6 => ?_
      refine q_forR1 (n := 2) (ea_cons ev_c ea_nil) ⟨by decide, by decide⟩ (fun _ σ' H' => (∃ s6 s7 s8 s9, σ' = [some (.ref a), some (.int i), some (.ref gg), some (.ref p), some (.ref q), some (.ref x), s6, s7, s8, s9, s10, s11, s12, s13, s14]) ∧ Ex G H') (fun H7 e7 => ⟨⟨_, _, _, _, rfl⟩, e6.trans e7⟩) ?_ ?_
      · -- told, twice
        rintro t σ7 H7 _ ⟨⟨t6, t7, t8, t9, rfl⟩, e7⟩
        refine asg_step (told (bk := x) (D := D) rfl (BookD.ex e7 bG) g fun zs ts r H8 pm so e8 hr nr lt ht sw8 => ?_)
        refine asg_step (snds (hPG.ex (e7.trans e8)) g.d fun zs2 r2 H9 pm2 so2 e9 hr2 => ?_)
        have ez : zs2 = zs := Srt1.sorted_one _ _ (Srt1.sorted_pw _ so2) (Srt1.sorted_pw _ so) (pm2.trans pm.symm)
        subst ez
        have shw := (nice6 g pm).shw (by decide) (by decide)
        have sw9 : Sw K H9 (.ref r) (.list (D6 D.hs D.ss D.ds D.rs D.ls zs2)) := .lst (SqL.of (e9 _ _ hr)) (SwAll.ex e9 _ _ sw8)
        have e79 := (e7.trans e8).trans e9
        have tp : TL K H9 p (D5 D) := partsTL (hPG.ex e79)
        refine q_when (b := false) (et_or (a := false) (b := false) (et_test (ev_neText (ev_repr (ed_var rfl sw9) shw) (ev_repr (d := .list (D6 D.hs D.ss D.ds D.rs D.ls zs2)) (ed_of (el_cat (ds := D5 D) (es := [strsD zs2]) (el_var rfl tp) (EvD.el_lst (eda_cons (ed_var rfl (.lst (SqL.of hr2) (sw_strs zs2))) eda_nil) (by simp)) (by simp [D5]))) shw))) fun _ => et_test (ev_neSame (ev_var rfl) rfl (BookD.ex e79 bG) g tp.sl)) (fun z => nomatch z) (fun _ HA eA => ?_)
        have eGA : Ex G (rm HA ts) := ex_rm (e79.trans eA) fun u m => fresh_back e7 (ht u m).1
        refine s_none (G := rm HA ts) (R := ts) (iv := 8) rfl (by simp) (by rw [rm_ne nr]; exact eA _ _ (e9 _ _ hr)) rm_ex (fun u m => ⟨rm_in m, ?_⟩) (by omega) ?_
        · obtain ⟨_, ys, h1, h2⟩ := ht u m
          exact ⟨ys, eA _ _ (e9 _ _ h1), h2⟩
        · intro u6 HB eB
          exact ⟨⟨_, _, _, _, rfl⟩, eGA.trans eB⟩
      · rintro σ7 H7 ⟨⟨t6, t7, t8, t9, rfl⟩, e7⟩
        -- what it is compared with
        refine sq_step (for_step (things (hPG.ex e7) ok fun l xs H8 e8 hl8 hT => ⟨l, rfl, ⟨xs, SqL.of hl8⟩, for_list (xs := xs) (fun _ σ' H' => (∃ s10, σ' = [some (.ref a), some (.int i), some (.ref gg), some (.ref p), some (.ref q), some (.ref x), t6, t7, t8, t9, s10, s11, s12, s13, s14]) ∧ Ex H8 H') ⟨⟨_, rfl⟩, Ex.refl _⟩ (fun j σ' H' _ pv => SqL.of (pv.2 _ _ hl8)) (fun j y σ' H' hy pv => ?_) fun σ' H' pv => ?_⟩))
        · obtain ⟨⟨u10, rfl⟩, e9⟩ := pv
          have hT' : Thing K C D H' y := (hT y (List.mem_of_getElem? hy)).ex e9
          have b9 : BkP K H' C x D := BookD.ex ((e7.trans e8).trans e9) bG
          refine s_when (b := false) (et_or (a := false) (b := false) (et_test (ev_eqT (ev_var rfl) (ev_var rfl) b9 g hT')) fun _ => et_or (a := false) (b := false) (et_test (ev_anyT (ev_var rfl) (ev_var rfl) b9 g hT')) fun _ => et_not (a := true) (et_test (ev_neT (ev_var rfl) (ev_var rfl) b9 g hT'))) (fun z => nomatch z) ?_
          intro _ HA eA
          exact ⟨⟨_, rfl⟩, e9.trans eA⟩
        · obtain ⟨⟨u10, rfl⟩, e9⟩ := pv
          have e79 := (e7.trans e8).trans e9
          have hP9 := hPG.ex e79
          have hnr : Ev (tCall spNR [] E0 (tCons (tVar 3) tNil)) [some (.ref a), some (.int i), some (.ref gg), some (.ref p), some (.ref q), some (.ref x), t6, t7, t8, t9, u10, s11, s12, s13, s14] H' (.bl true) := fun H1 e Q qq => ⟨_, rfl, p, a0, a1, a2, a3, a4, D, R2, R3, 3, 4, rfl, hP9.ex e, ok, by decide, by decide, fun H2 e2 => qq H2 e2⟩
          refine s_when (b := false) (et_not (a := true) (et_test hnr)) (fun z => nomatch z) ?_
          intro _ HA eA
          exact ⟨⟨_, _, _, _, _, _, _, _, _, _, _, _, _, _, rfl⟩, eHG.trans (e79.trans eA)⟩
    · rintro σ' H' ⟨⟨s1, s2, s3, s4, s5, s6, s7, s8, s9, s10, s11, s12, s13, s14, rfl⟩, e0⟩
      -- the full book's lists
      refine asg_step (tl_step (tc_step ?_))
      refine EvD.el_lst (K := K) (eda_cons ed_str (eda_cons ed_str (eda_cons ed_str eda_nil))) (by simp) H' (Ex.refl _) _ fun c0 G0 h0 t0 => ?_
      refine tc_step ?_
      refine EvD.el_lst (K := K) (eda_cons ed_str (eda_cons ed_str (eda_cons ed_str (eda_cons ed_str eda_nil)))) (by simp) G0 (Ex.refl _) _ fun c1 G1 h1 t1 => ?_
      refine tc_step ?_
      refine el_rep (K := K) (k := 10) (EvD.el_lst (eda_cons (ed_tup (eda_cons ed_str (eda_cons ed_non (eda_cons ed_str eda_nil))) (by simp)) eda_nil) (by simp)) ev_c (by simp) (by decide) G1 (Ex.refl _) _ fun c2 G2 h2 t2 => ?_
      refine tc_step ?_
      refine EvD.el_lst (K := K) eda_nil (by simp) G2 (Ex.refl _) _ fun c3 G3 h3 t3 => ?_
      refine tc_step ?_
      refine EvD.el_lst (K := K) (eda_cons ed_str (eda_cons ed_str (eda_cons ed_str (eda_cons ed_str eda_nil)))) (by simp) G3 (Ex.refl _) _ fun c4 G4 h4 t4 => ?_
      refine ⟨by show 5 ≤ sizeLine; decide, fun f nf => ?_⟩
      have z0 : TL K G4 c0 (fA.map PyData.str) := t0.ex (h1.trans (h2.trans (h3.trans h4)))
      have z1 : TL K G4 c1 (fS.map PyData.str) := t1.ex (h2.trans (h3.trans h4))
      have z2 : TL K G4 c2 (fullD.ds.map enD) := t2.ex (h3.trans h4)
      have z3 : TL K G4 c3 ((rows 0).map enD) := t3.ex h4
      have z4 : TL K G4 c4 (fullD.ls.map PyData.str) := t4
      have hc1 : G4 c1 = some (.lst (fS.map V.str)) := by
        obtain ⟨xs, x1, x2⟩ := z1
        rw [← strs_inv x2]
        exact x1
      refine q_forNLn (xs := [.str "a", .str "b", .str "c"]) (el_lst (ea_cons ev_c (ea_cons ev_c (ea_cons ev_c ea_nil))) (by simp)) (fun pl j σ' H' => (∃ s12, σ' = [some (.ref a), s1, s2, s3, s4, s5, s6, s7, s8, s9, s10, some (.ref f), s12, s13, s14]) ∧ Ex G4 (rm H' [f]) ∧ rm H' [f] pl = some (.lst [.str "a", .str "b", .str "c"]) ∧ ∃ c, H' f = some (.lst [.ref c0, .ref c1, .ref c2, .ref c, .ref c4]) ∧ TL K (rm H' [f]) c ((rows j).map enD))
        (fun pl H5 npl e5 hpl => ?_) (fun pl j σ' H' _ pv => SqL.of (rm_ex _ _ pv.2.2.1)) (fun pl j y σ' H' hy pv => ?_) fun pl σ' H' pv => ?_
      · have n1 : ∀ t ∈ [f], G4 t = none := fun t m => by
          obtain rfl : t = f := by simpa using m
          exact nf
        have e45 : Ex G4 (rm H5 [f]) := ex_rm ((Ex.new nf).trans e5) n1
        have npf : pl ∉ [f] := by
          intro m
          obtain rfl : pl = f := by simpa using m
          rw [upd_same] at npl
          cases npl
        exact ⟨⟨_, rfl⟩, e45, by rw [rm_ne npf]; exact hpl, c3, e5 _ _ upd_same, z3.ex e45⟩
      · obtain ⟨⟨u12, rfl⟩, eG, hpl, c, hf, tc⟩ := pv
        obtain ⟨s, hs, rfl⟩ : ∃ s, fA[j]? = some s ∧ y = .str s := by
          have : ([.str "a", .str "b", .str "c"] : List V) = fA.map V.str := rfl
          rw [this, List.getElem?_map] at hy
          cases hz : fA[j]? with
          | none => rw [hz] at hy; cases hy
          | some z =>
            rw [hz] at hy
            exact ⟨z, rfl, (Option.some.inj hy).symm⟩
        obtain ⟨xs, hx, hxs⟩ := tc
        have hl1 : xs.length ≤ 12 := by
          have jl : j < 3 := (List.getElem?_eq_some_iff.mp hs).1
          have := swAll_len hxs
          have h : ∀ j, j < 3 → ((rows j).map enD).length ≤ 12 := by decide +kernel
          rw [this]
          exact h j jl
        refine ⟨_, rfl, f, _, 3, .ref c, rfl, rfl, SqL.of hf, atI_nat (j := 3) rfl, ?_⟩
        refine row hf rfl (rm_ex _ _ (eG _ _ hc1)) fun Dl R H5 e5 hD tR => ?_
        have lR := tR.len
        have lR4 : R.length = 4 := lR
        refine ⟨c, Dl, xs, _, rfl, rfl, e5 _ _ (rm_ex _ _ hx), hD, sz_of (by rw [List.length_map]; omega), fun n nn => ?_⟩
        have e6 : Ex H5 (upd H5 n (.lst (xs ++ R.map V.ref))) := Ex.new nn
        have hn6 : upd H5 n (.lst (xs ++ R.map V.ref)) n = some (.lst (xs ++ R.map V.ref)) := upd_same
        generalize upd H5 n (.lst (xs ++ R.map V.ref)) = H6 at e6 hn6
        have hf6 := e6 _ _ (e5 _ _ hf)
        refine ⟨_, rfl, f, _, 3, 3, rfl, rfl, hf6, rfl, ?_⟩
        have er : rm (upd H6 f (.lst ([V.ref c0, .ref c1, .ref c2, .ref c, .ref c4].set 3 (.ref n)))) [f] = rm H6 [f] := by
          funext b
          unfold rm
          by_cases cc : b ∈ [f]
          · rw [if_pos cc, if_pos cc]
          · rw [if_neg cc, if_neg cc, upd_ne fun z => cc (by simp [z])]
        have eR : Ex (rm H' [f]) (rm H6 [f]) := fun b u hb => by
          unfold rm at hb ⊢
          split at hb
          · cases hb
          · rename_i h
            rw [if_neg h]
            exact e6 _ _ (e5 _ _ hb)
        have nnf : n ∉ [f] := by
          intro m
          obtain rfl : n = f := by simpa using m
          rw [e5 _ _ hf] at nn
          cases nn
        refine ⟨⟨_, rfl⟩, by rw [er]; exact eG.trans eR, by rw [er]; exact eR _ _ hpl, n, upd_same, ?_⟩
        rw [er, rows_succ hs]
        refine ⟨_, by rw [rm_ne nnf]; exact hn6, swAll_app (SwAll.ex eR _ _ hxs) ?_⟩
        have k6 : Keep H6 H6 (rm H6 [f]) := keep_rm fun r m => by
          obtain rfl : r = f := by simpa using m
          exact ⟨_, hf6, hf6⟩
        exact kp_ens k6 (sw_tups (tR.ex e6))
      · obtain ⟨⟨u12, rfl⟩, eG, hpl, c, hf, tc⟩ := pv
        have tl : TL K H' f (D5 fullD) := ⟨_, hf, .cons ((z0.ex eG).ex rm_ex).sw (.cons ((z1.ex eG).ex rm_ex).sw (.cons ((z2.ex eG).ex rm_ex).sw (.cons (tc.ex rm_ex).sw (.cons ((z4.ex eG).ex rm_ex).sw .nil))))⟩
        have gs := good_shp full_good
        have h1 : PyData.eqv (.list (fullD.rs.map enD)) (.list (fullD.rs.map enD)) = true := (nice_ens (good_ens full_good).2 full_good.r).eq
        exact s_ret (ev_andV (a := true) (b := true) (fun H1 e Q qq => ⟨rfl, fun H2 e2 => qq H2 e2⟩) fun _ => ev_andV (a := true) (b := true) (ev_is (ev_eqDD (ed_hear (eb_call rfl full_good tl.sl)) (ed_ix (n := 3) (el_var rfl tl) ev_c rfl) gs.2.2.2.1 gs.2.2.2.1) (by rw [h1])) fun _ => ev_is (ev_eqDD (ed_snd0 (eb_call rfl full_good tl.sl) full_good.d full_sn) (EvD.ed_lst eda_nil (by simp)) (by rfl) (by rfl)) rfl) fun H1 e1 => kq H1
end
end Lw

/-! ### what the top has left -/
namespace Fi
open PySem PySem.Spec PyProof.Rows L2 Evl ExV Gen Ent Rep Dat Nm Er Chk Gu Deed Pts Hear Lst Bk Cau EvD BadE EntR Lis Prd NmP NmR Bmk EqB OwnQ RevQ God Oth ExD OtB STx STs SFl Snd LwP LwE LwF LwG Lw
theorem mro_of {K : PySem.W.Frag} {C N : Addr} {nm q : Str} {bs bm : List Value} {sn : List Str} {sb : List Value} {ab hd : Bool} {co : Option Bool} {dd : Option Addr} {ka kb kc kd ke : Option Value} {n : String}
    (xL : K.lookup C = some (excClassObj nm q C N bs bm hd sn sb ab co dd ka kb kc kd ke n)) (b : Value) : PySem.W.mroIn K C b = some ((Value.ref C :: bm).contains b) := by
  have hc : PySem.W.clsIn K C = some { name := nm, bases := bs, mro := .ref C :: bm, ns := N, qualname := q, hasDict := hd, slotNames := sn, subclasses := sb, abstract := ab, collection := co, hasDel := false } := by
    unfold PySem.W.clsIn
    rw [xL] <;> rfl
  unfold PySem.W.mroIn
  rw [hc, Option.bind_some]
  rfl
theorem kit_of2 {K : PySem.W.Frag} {C : Value} {D : Addr} {b : Bool} (hc : PySem.W.isClsIn K D = true) (ht : PySem.W.typeIn K (.ref D) = some (.type "type")) (hs : PySem.W.subIn K C (.ref D) = some b) (he : C = .ref D → b = true) : PySem.W.kitOne K C (.ref D) = some b ∧ PySem.W.kitCls K C (.ref D) = some b := by
  have q : PySem.W.kitCls K C (.ref D) = some b := by
    have h2 : ((PySem.W.clsIn K D).isSome && PySem.W.typeIn K (.ref D) == some (.type "type")) = true := by
      have h3 : (PySem.W.clsIn K D).isSome = true := hc
      rw [h3, ht]
      rfl
    show (if ((PySem.W.clsIn K D).isSome && PySem.W.typeIn K (.ref D) == some (.type "type")) = true then PySem.W.subIn K C (.ref D) else none) = some b
    rw [if_pos h2]
    exact hs
  refine ⟨?_, q⟩
  unfold PySem.W.kitOne
  by_cases e : C = .ref D
  · rw [he e, if_pos (by simp [e])]
  · rw [if_neg (by simpa using e)]
    exact q
theorem exm_of {K : PySem.W.Frag} {C D : Value} (h1 : PySem.W.subIn K D (.type "BaseException") = some true) (h2 : PySem.W.kitCls K C D = some true) : PySem.W.exmOne K C D = some true := by
  unfold PySem.W.exmOne
  rw [h1, if_pos (by rfl)]
  exact h2
theorem kit_ty2 {K : PySem.W.Frag} {D : Addr} {t : String} (hc : PySem.W.isClsIn K D = true) (ht : PySem.W.typeIn K (.ref D) = some (.type "type")) (hs : PySem.W.subIn K (.type t) (.ref D) = some false) : PySem.W.kitOne K (.type t) (.ref D) = some false :=
  (kit_of2 hc ht hs fun z => by cases z).1
set_option maxHeartbeats 8000000 in
theorem all_mk {l : PySem.W.OpenLaw} {w : World} {K : PySem.W.Frag} {h : Heap} {mg : Str → Option Value} {fa : Addr} (X : K.In h) (G : h.Ns mainGlobals mg) (hfa : mg "law" = some (.ref fa))
    {CH NH : Addr} {nmH qH : Str} {bsH : List Value} {snH : List Str} {sbH : List Value} {abH : Bool} {coH : Option Bool} {ddH : Option Addr} {kaH kbH kcH kdH keH : Option Value}
    {CL NL : Addr} {nmL qL : Str} {bsL : List Value} {snL : List Str} {sbL : List Value} {abL : Bool} {coL : Option Bool} {ddL : Option Addr} {kaL kbL kcL kdL keL : Option Value}
    {TL : Addr} {toL : Value} {tdL : Option Addr} {tnL : Nat} {tsL : Array (Option Value)}
    {fIL : Addr} {odIL anIL : Option Addr} {slIL : Array (Option Value)} {ocIL kVIL dcIL pmIL cdIL ctIL : Value}
    {CE NE : Addr} {nmE qE : Str} {bsE : List Value} {snE : List Str} {sbE : List Value} {abE : Bool} {coE : Option Bool} {ddE : Option Addr} {kaE kbE kcE kdE keE : Option Value}
    {TE : Addr} {toE : Value} {tdE : Option Addr} {tnE : Nat} {tsE : Array (Option Value)}
    {fIE : Addr} {odIE anIE : Option Addr} {slIE : Array (Option Value)} {ocIE kVIE dcIE pmIE cdIE ctIE : Value}
    {CB : Addr}
    {fBI : Addr} {odBI anBI : Option Addr} {slBI : Array (Option Value)} {ocBI kVBI dcBI pmBI cdBI ctBI : Value}
    {fM1 : Addr} {odM1 anM1 : Option Addr} {slM1 : Array (Option Value)} {ocM1 kVM1 dcM1 pmM1 cdM1 ctM1 : Value}
    {fM2 : Addr} {odM2 anM2 : Option Addr} {slM2 : Array (Option Value)} {ocM2 kVM2 dcM2 pmM2 cdM2 ctM2 : Value}
    {fM3 : Addr} {odM3 anM3 : Option Addr} {slM3 : Array (Option Value)} {ocM3 kVM3 dcM3 pmM3 cdM3 ctM3 : Value}
    {fM4 : Addr} {odM4 anM4 : Option Addr} {slM4 : Array (Option Value)} {ocM4 kVM4 dcM4 pmM4 cdM4 ctM4 : Value}
    {fM5 : Addr} {odM5 anM5 : Option Addr} {slM5 : Array (Option Value)} {ocM5 kVM5 dcM5 pmM5 cdM5 ctM5 : Value}
    {fM6 : Addr} {odM6 anM6 : Option Addr} {slM6 : Array (Option Value)} {ocM6 kVM6 dcM6 pmM6 cdM6 ctM6 : Value}
    {fEq : Addr} {odEq anEq : Option Addr} {slEq : Array (Option Value)} {ocEq kVEq dcEq pmEq cdEq ctEq : Value}
    {fCe : Addr} {odCe anCe : Option Addr} {slCe : Array (Option Value)} {ocCe kVCe dcCe pmCe cdCe ctCe : Value}
    {fHa : Addr} {odHa anHa : Option Addr} {slHa : Array (Option Value)} {ocHa kVHa dcHa pmHa cdHa ctHa : Value}
    {fGe : Addr} {odGe anGe : Option Addr} {slGe : Array (Option Value)} {ocGe kVGe dcGe pmGe cdGe ctGe : Value}
    {fRa : Addr} {odRa anRa : Option Addr} {slRa : Array (Option Value)} {ocRa kVRa dcRa pmRa cdRa ctRa : Value}
    {fEn : Addr} {odEn anEn : Option Addr} {slEn : Array (Option Value)} {ocEn kVEn dcEn pmEn cdEn ctEn : Value}
    {fPa : Addr} {odPa anPa : Option Addr} {slPa : Array (Option Value)} {ocPa kVPa dcPa pmPa cdPa ctPa : Value}
    {fLb : Addr} {odLb anLb : Option Addr} {slLb : Array (Option Value)} {ocLb kVLb dcLb pmLb cdLb ctLb : Value}
    {fLi : Addr} {odLi anLi : Option Addr} {slLi : Array (Option Value)} {ocLi kVLi dcLi pmLi cdLi ctLi : Value}
    {fOt : Addr} {odOt anOt : Option Addr} {slOt : Array (Option Value)} {ocOt kVOt dcOt pmOt cdOt ctOt : Value}
    {fCa : Addr} {odCa anCa : Option Addr} {slCa : Array (Option Value)} {ocCa kVCa dcCa pmCa cdCa ctCa : Value}
    {fBa : Addr} {odBa anBa : Option Addr} {slBa : Array (Option Value)} {ocBa kVBa dcBa pmBa cdBa ctBa : Value}
    {fNr : Addr} {odNr anNr : Option Addr} {slNr : Array (Option Value)} {ocNr kVNr dcNr pmNr cdNr ctNr : Value}
    {fEr : Addr} {odEr anEr : Option Addr} {slEr : Array (Option Value)} {ocEr kVEr dcEr pmEr cdEr ctEr : Value}
    {fLa : Addr} {odLa anLa : Option Addr} {slLa : Array (Option Value)} {ocLa kVLa dcLa pmLa cdLa ctLa : Value}
    {fNa : Addr} {odNa anNa : Option Addr} {slNa : Array (Option Value)} {ocNa kVNa dcNa pmNa cdNa ctNa : Value}
    {fCm : Addr} {odCm anCm : Option Addr} {slCm : Array (Option Value)} {ocCm kVCm dcCm pmCm cdCm ctCm : Value}
    {fCn : Addr} {odCn anCn : Option Addr} {slCn : Array (Option Value)} {ocCn kVCn dcCn pmCn cdCn ctCn : Value}
    {fDe : Addr} {odDe anDe : Option Addr} {slDe : Array (Option Value)} {ocDe kVDe dcDe pmDe cdDe ctDe : Value}
    {fHe : Addr} {odHe anHe : Option Addr} {slHe : Array (Option Value)} {ocHe kVHe dcHe pmHe cdHe ctHe : Value}
    {fAl : Addr} {odAl anAl : Option Addr} {slAl : Array (Option Value)} {ocAl kVAl dcAl pmAl cdAl ctAl : Value}
    {fCd : Addr} {odCd anCd : Option Addr} {slCd : Array (Option Value)} {ocCd kVCd dcCd pmCd cdCd ctCd : Value}
    {fCh : Addr} {odCh anCh : Option Addr} {slCh : Array (Option Value)} {ocCh kVCh dcCh pmCh cdCh ctCh : Value}
    (aCH : PySem.W.nsIn K mainGlobals "HushError" = some (some (.ref CH)))
    (xLH : K.lookup CH = some (excClassObj nmH qH CH NH bsH [.type "ValueError", .type "Exception", .type "BaseException", .type "object"] true snH sbH abH coH ddH kaH kbH kcH kdH keH "ValueError.__new__"))
    (gaH : PySem.W.findIn K (.ref CH) "__getattribute__" = some (some (.builtin "BaseException.__getattribute__")))
    (ggH : PySem.W.findIn K (.ref CH) "__getattr__" = some none)
    (haH : PySem.W.findIn K (.ref CH) "__class__" = some (some (.builtin "object.__class__")))
    (kCH : PySem.W.keepIn K (.ref CH) = true)
    (exH : PySem.W.subIn K (.ref CH) (.type "BaseException") = some true)
    (tyH : PySem.W.typeIn K (.ref CH) = some (.type "type"))
    (hdH : PySem.W.hasDictIn K CH = true)
    (icH : PySem.W.isClsIn K CH = true)
    (aCL : PySem.W.nsIn K mainGlobals "InvalidList" = some (some (.ref CL)))
    (xLL : K.lookup CL = some (excClassObj nmL qL CL NL bsL [.ref CH, .type "ValueError", .type "Exception", .type "BaseException", .type "object"] true snL sbL abL coL ddL kaL kbL kcL kdL keL "ValueError.__new__"))
    (gaL : PySem.W.findIn K (.ref CL) "__getattribute__" = some (some (.builtin "BaseException.__getattribute__")))
    (ggL : PySem.W.findIn K (.ref CL) "__getattr__" = some none)
    (haL : PySem.W.findIn K (.ref CL) "__class__" = some (some (.builtin "object.__class__")))
    (kCL : PySem.W.keepIn K (.ref CL) = true)
    (exL : PySem.W.subIn K (.ref CL) (.type "BaseException") = some true)
    (tyL : PySem.W.typeIn K (.ref CL) = some (.type "type"))
    (hdL : PySem.W.hasDictIn K CL = true)
    (icL : PySem.W.isClsIn K CL = true)
    (saL : PySem.W.findIn K (.ref CL) "__setattr__" = some (some (.builtin "object.__setattr__")))
    (iCL : PySem.W.findIn K (.ref CL) "__init__" = some (some (.ref fIL)))
    (tIL : PySem.W.typeIn K (.ref fIL) = some (.type "function"))
    (noL : PySem.W.findIn K (.ref CL) "value" = some none)
    (lIL : K.lookup fIL = some ⟨ocIL, odIL, .func (PySem.W.fnOf "__init__" "InvalidList.__init__" (defArgs (inClass (top 2) 0)) (defBody (inClass (top 2) 0)) (defScope (inClass (top 2) 0)) (.ref TL) kVIL dcIL pmIL anIL cdIL ctIL), slIL⟩)
    (cIL : PySem.W.codeIn K cdIL "InvalidList.__init__" = true)
    (kIL : PySem.W.keepIn K (.ref fIL) = true)
    (lTL : K.lookup TL = some ⟨toL, tdL, .seq #[.none] tnL, tsL⟩)
    (aCE : PySem.W.nsIn K mainGlobals "InvalidItem" = some (some (.ref CE)))
    (xLE : K.lookup CE = some (excClassObj nmE qE CE NE bsE [.ref CH, .type "ValueError", .type "Exception", .type "BaseException", .type "object"] true snE sbE abE coE ddE kaE kbE kcE kdE keE "ValueError.__new__"))
    (gaE : PySem.W.findIn K (.ref CE) "__getattribute__" = some (some (.builtin "BaseException.__getattribute__")))
    (ggE : PySem.W.findIn K (.ref CE) "__getattr__" = some none)
    (haE : PySem.W.findIn K (.ref CE) "__class__" = some (some (.builtin "object.__class__")))
    (kCE : PySem.W.keepIn K (.ref CE) = true)
    (exE : PySem.W.subIn K (.ref CE) (.type "BaseException") = some true)
    (tyE : PySem.W.typeIn K (.ref CE) = some (.type "type"))
    (hdE : PySem.W.hasDictIn K CE = true)
    (icE : PySem.W.isClsIn K CE = true)
    (saE : PySem.W.findIn K (.ref CE) "__setattr__" = some (some (.builtin "object.__setattr__")))
    (iCE : PySem.W.findIn K (.ref CE) "__init__" = some (some (.ref fIE)))
    (tIE : PySem.W.typeIn K (.ref fIE) = some (.type "function"))
    (noE : PySem.W.findIn K (.ref CE) "value" = some none)
    (lIE : K.lookup fIE = some ⟨ocIE, odIE, .func (PySem.W.fnOf "__init__" "InvalidItem.__init__" (defArgs (inClass (top 3) 0)) (defBody (inClass (top 3) 0)) (defScope (inClass (top 3) 0)) (.ref TE) kVIE dcIE pmIE anIE cdIE ctIE), slIE⟩)
    (cIE : PySem.W.codeIn K cdIE "InvalidItem.__init__" = true)
    (kIE : PySem.W.keepIn K (.ref fIE) = true)
    (lTE : K.lookup TE = some ⟨toE, tdE, .seq #[.none] tnE, tsE⟩)
    (mLH : PySem.W.mroIn K CL (.ref CH) = some true)
    (mEH : PySem.W.mroIn K CE (.ref CH) = some true)
    (mLE : PySem.W.mroIn K CL (.ref CE) = some false)
    (mEL : PySem.W.mroIn K CE (.ref CL) = some false)
    (exB : PySem.W.subIn K (.ref CH) (.type "BaseException") = some true)
    (hn : PySem.W.specialIn K (.builtin "object.__class__") "__get__" = some (some (.builtin "getset_descriptor.__get__")))
    (ht : PySem.W.takesIn K (.builtin "object.__class__") = some true)
    (aB : PySem.W.nsIn K mainGlobals "Book" = some (some (.ref CB)))
    (mB : PySem.W.makesIn K CB = true)
    (kB : PySem.W.keepIn K (.ref CB) = true)
    (pgB : PySem.W.plainGet K CB Str.empty = true)
    (hdB : PySem.W.hasDictIn K CB = true)
    (poB : PySem.W.plainOver K CB = true)
    (saB : PySem.W.findIn K (.ref CB) "__setattr__" = some (some (.builtin "object.__setattr__")))
    (nB1 : PySem.W.findIn K (.ref CB) "_houses" = some none)
    (nB2 : PySem.W.findIn K (.ref CB) "_stands" = some none)
    (nB3 : PySem.W.findIn K (.ref CB) "_deeds" = some none)
    (nB4 : PySem.W.findIn K (.ref CB) "_hearings" = some none)
    (nB5 : PySem.W.findIn K (.ref CB) "_lost" = some none)
    (haB : PySem.W.findIn K (.ref CB) "__class__" = some (some (.builtin "object.__class__")))
    (hmB : PySem.W.mroIn K CB (.type "object") = some true)
    (icB : PySem.W.isClsIn K CB = true)
    (tyB : PySem.W.typeIn K (.ref CB) = some (.type "type"))
    (kn_NoneType : PySem.W.subIn K (.type "NoneType") (.ref CB) = some false)
    (nf_NoneType : PySem.W.notFirst K CB (.type "NoneType") = true)
    (sb_NoneType : PySem.W.subIn K (.ref CB) (.type "NoneType") = some false)
    (kn_bool : PySem.W.subIn K (.type "bool") (.ref CB) = some false)
    (nf_bool : PySem.W.notFirst K CB (.type "bool") = true)
    (sb_bool : PySem.W.subIn K (.ref CB) (.type "bool") = some false)
    (kn_int : PySem.W.subIn K (.type "int") (.ref CB) = some false)
    (nf_int : PySem.W.notFirst K CB (.type "int") = true)
    (sb_int : PySem.W.subIn K (.ref CB) (.type "int") = some false)
    (kn_str : PySem.W.subIn K (.type "str") (.ref CB) = some false)
    (nf_str : PySem.W.notFirst K CB (.type "str") = true)
    (sb_str : PySem.W.subIn K (.ref CB) (.type "str") = some false)
    (kn_list : PySem.W.subIn K (.type "list") (.ref CB) = some false)
    (nf_list : PySem.W.notFirst K CB (.type "list") = true)
    (sb_list : PySem.W.subIn K (.ref CB) (.type "list") = some false)
    (kn_tuple : PySem.W.subIn K (.type "tuple") (.ref CB) = some false)
    (nf_tuple : PySem.W.notFirst K CB (.type "tuple") = true)
    (sb_tuple : PySem.W.subIn K (.ref CB) (.type "tuple") = some false)
    (kn_dict : PySem.W.subIn K (.type "dict") (.ref CB) = some false)
    (nf_dict : PySem.W.notFirst K CB (.type "dict") = true)
    (sb_dict : PySem.W.subIn K (.ref CB) (.type "dict") = some false)
    (neB : PySem.W.findIn K (.ref CB) "__ne__" = some (some (.builtin "object.__ne__")))
    (atBI : PySem.W.findIn K (.ref CB) "__init__" = some (some (.ref fBI)))
    (fnBI : PySem.W.isFn K (.ref fBI) = true)
    (lBI : K.lookup fBI = some ⟨ocBI, odBI, .func (PySem.W.fnOf "__init__" "Book.__init__" (defArgs (inClass (top 14) 0)) (defBody (inClass (top 14) 0)) (defScope (inClass (top 14) 0)) .none kVBI dcBI pmBI anBI cdBI ctBI), slBI⟩)
    (cBI : PySem.W.codeIn K cdBI "Book.__init__" = true)
    (kBI : PySem.W.keepIn K (.ref fBI) = true)
    (atM1 : PySem.W.findIn K (.ref CB) "houses" = some (some (.ref fM1)))
    (fnM1 : PySem.W.isFn K (.ref fM1) = true)
    (lM1 : K.lookup fM1 = some ⟨ocM1, odM1, .func (PySem.W.fnOf "houses" "Book.houses" (defArgs (inClass (top 14) 1)) (defBody (inClass (top 14) 1)) (defScope (inClass (top 14) 1)) .none kVM1 dcM1 pmM1 anM1 cdM1 ctM1), slM1⟩)
    (cM1 : PySem.W.codeIn K cdM1 "Book.houses" = true)
    (kM1 : PySem.W.keepIn K (.ref fM1) = true)
    (atM2 : PySem.W.findIn K (.ref CB) "stands" = some (some (.ref fM2)))
    (fnM2 : PySem.W.isFn K (.ref fM2) = true)
    (lM2 : K.lookup fM2 = some ⟨ocM2, odM2, .func (PySem.W.fnOf "stands" "Book.stands" (defArgs (inClass (top 14) 2)) (defBody (inClass (top 14) 2)) (defScope (inClass (top 14) 2)) .none kVM2 dcM2 pmM2 anM2 cdM2 ctM2), slM2⟩)
    (cM2 : PySem.W.codeIn K cdM2 "Book.stands" = true)
    (kM2 : PySem.W.keepIn K (.ref fM2) = true)
    (atM3 : PySem.W.findIn K (.ref CB) "deeds" = some (some (.ref fM3)))
    (fnM3 : PySem.W.isFn K (.ref fM3) = true)
    (lM3 : K.lookup fM3 = some ⟨ocM3, odM3, .func (PySem.W.fnOf "deeds" "Book.deeds" (defArgs (inClass (top 14) 3)) (defBody (inClass (top 14) 3)) (defScope (inClass (top 14) 3)) .none kVM3 dcM3 pmM3 anM3 cdM3 ctM3), slM3⟩)
    (cM3 : PySem.W.codeIn K cdM3 "Book.deeds" = true)
    (kM3 : PySem.W.keepIn K (.ref fM3) = true)
    (atM4 : PySem.W.findIn K (.ref CB) "hearings" = some (some (.ref fM4)))
    (fnM4 : PySem.W.isFn K (.ref fM4) = true)
    (lM4 : K.lookup fM4 = some ⟨ocM4, odM4, .func (PySem.W.fnOf "hearings" "Book.hearings" (defArgs (inClass (top 14) 4)) (defBody (inClass (top 14) 4)) (defScope (inClass (top 14) 4)) .none kVM4 dcM4 pmM4 anM4 cdM4 ctM4), slM4⟩)
    (cM4 : PySem.W.codeIn K cdM4 "Book.hearings" = true)
    (kM4 : PySem.W.keepIn K (.ref fM4) = true)
    (atM5 : PySem.W.findIn K (.ref CB) "lost" = some (some (.ref fM5)))
    (fnM5 : PySem.W.isFn K (.ref fM5) = true)
    (lM5 : K.lookup fM5 = some ⟨ocM5, odM5, .func (PySem.W.fnOf "lost" "Book.lost" (defArgs (inClass (top 14) 5)) (defBody (inClass (top 14) 5)) (defScope (inClass (top 14) 5)) .none kVM5 dcM5 pmM5 anM5 cdM5 ctM5), slM5⟩)
    (cM5 : PySem.W.codeIn K cdM5 "Book.lost" = true)
    (kM5 : PySem.W.keepIn K (.ref fM5) = true)
    (atM6 : PySem.W.findIn K (.ref CB) "sounds" = some (some (.ref fM6)))
    (fnM6 : PySem.W.isFn K (.ref fM6) = true)
    (lM6 : K.lookup fM6 = some ⟨ocM6, odM6, .func (PySem.W.fnOf "sounds" "Book.sounds" (defArgs (inClass (top 14) 6)) (defBody (inClass (top 14) 6)) (defScope (inClass (top 14) 6)) .none kVM6 dcM6 pmM6 anM6 cdM6 ctM6), slM6⟩)
    (cM6 : PySem.W.codeIn K cdM6 "Book.sounds" = true)
    (kM6 : PySem.W.keepIn K (.ref fM6) = true)
    (atEq : PySem.W.findIn K (.ref CB) "__eq__" = some (some (.ref fEq)))
    (fnEq : PySem.W.isFn K (.ref fEq) = true)
    (lEq : K.lookup fEq = some ⟨ocEq, odEq, .func (PySem.W.fnOf "__eq__" "Book.__eq__" (defArgs (inClass (top 14) 7)) (defBody (inClass (top 14) 7)) (defScope (inClass (top 14) 7)) .none kVEq dcEq pmEq anEq cdEq ctEq), slEq⟩)
    (cEq : PySem.W.codeIn K cdEq "Book.__eq__" = true)
    (kEq : PySem.W.keepIn K (.ref fEq) = true)
    (aCe : PySem.W.nsIn K mainGlobals "_law_cell" = some (some (.ref fCe)))
    (lCe : K.lookup fCe = some ⟨ocCe, odCe, .func (PySem.W.fnOf "_law_cell" "_law_cell" (defArgs sCell) (defBody sCell) (defScope sCell) .none kVCe dcCe pmCe anCe cdCe ctCe), slCe⟩)
    (cCe : PySem.W.codeIn K cdCe "_law_cell" = true)
    (kCe : PySem.W.keepIn K (.ref fCe) = true)
    (aHa : PySem.W.nsIn K mainGlobals "_law_hash" = some (some (.ref fHa)))
    (lHa : K.lookup fHa = some ⟨ocHa, odHa, .func (PySem.W.fnOf "_law_hash" "_law_hash" (defArgs sHash) (defBody sHash) (defScope sHash) .none kVHa dcHa pmHa anHa cdHa ctHa), slHa⟩)
    (cHa : PySem.W.codeIn K cdHa "_law_hash" = true)
    (kHa : PySem.W.keepIn K (.ref fHa) = true)
    (aGe : PySem.W.nsIn K mainGlobals "_law_generator" = some (some (.ref fGe)))
    (lGe : K.lookup fGe = some ⟨ocGe, odGe, .func (PySem.W.fnOf "_law_generator" "_law_generator" (defArgs sGen) (defBody sGen) (defScope sGen) .none kVGe dcGe pmGe anGe cdGe ctGe), slGe⟩)
    (cGe : PySem.W.codeIn K cdGe "_law_generator" = true)
    (kGe : PySem.W.keepIn K (.ref fGe) = true)
    (aRa : PySem.W.nsIn K mainGlobals "_law_random" = some (some (.ref fRa)))
    (lRa : K.lookup fRa = some ⟨ocRa, odRa, .func (PySem.W.fnOf "_law_random" "_law_random" (defArgs sRand) (defBody sRand) (defScope sRand) .none kVRa dcRa pmRa anRa cdRa ctRa), slRa⟩)
    (cRa : PySem.W.codeIn K cdRa "_law_random" = true)
    (kRa : PySem.W.keepIn K (.ref fRa) = true)
    (aEn : PySem.W.nsIn K mainGlobals "_law_entry_drawn" = some (some (.ref fEn)))
    (lEn : K.lookup fEn = some ⟨ocEn, odEn, .func (PySem.W.fnOf "_law_entry_drawn" "_law_entry_drawn" (defArgs (top 20)) (defBody (top 20)) (defScope (top 20)) .none kVEn dcEn pmEn anEn cdEn ctEn), slEn⟩)
    (cEn : PySem.W.codeIn K cdEn "_law_entry_drawn" = true)
    (kEn : PySem.W.keepIn K (.ref fEn) = true)
    (aPa : PySem.W.nsIn K mainGlobals "_law_parts" = some (some (.ref fPa)))
    (lPa : K.lookup fPa = some ⟨ocPa, odPa, .func (PySem.W.fnOf "_law_parts" "_law_parts" (defArgs (top 21)) (defBody (top 21)) (defScope (top 21)) .none kVPa dcPa pmPa anPa cdPa ctPa), slPa⟩)
    (cPa : PySem.W.codeIn K cdPa "_law_parts" = true)
    (kPa : PySem.W.keepIn K (.ref fPa) = true)
    (aLb : PySem.W.nsIn K mainGlobals "_law_book" = some (some (.ref fLb)))
    (lLb : K.lookup fLb = some ⟨ocLb, odLb, .func (PySem.W.fnOf "_law_book" "_law_book" (defArgs (top 22)) (defBody (top 22)) (defScope (top 22)) .none kVLb dcLb pmLb anLb cdLb ctLb), slLb⟩)
    (cLb : PySem.W.codeIn K cdLb "_law_book" = true)
    (kLb : PySem.W.keepIn K (.ref fLb) = true)
    (aLi : PySem.W.nsIn K mainGlobals "_law_lists" = some (some (.ref fLi)))
    (lLi : K.lookup fLi = some ⟨ocLi, odLi, .func (PySem.W.fnOf "_law_lists" "_law_lists" (defArgs (top 23)) (defBody (top 23)) (defScope (top 23)) .none kVLi dcLi pmLi anLi cdLi ctLi), slLi⟩)
    (cLi : PySem.W.codeIn K cdLi "_law_lists" = true)
    (kLi : PySem.W.keepIn K (.ref fLi) = true)
    (aOt : PySem.W.nsIn K mainGlobals "_law_others" = some (some (.ref fOt)))
    (lOt : K.lookup fOt = some ⟨ocOt, odOt, .func (PySem.W.fnOf "_law_others" "_law_others" (defArgs (top 24)) (defBody (top 24)) (defScope (top 24)) .none kVOt dcOt pmOt anOt cdOt ctOt), slOt⟩)
    (cOt : PySem.W.codeIn K cdOt "_law_others" = true)
    (kOt : PySem.W.keepIn K (.ref fOt) = true)
    (aCa : PySem.W.nsIn K mainGlobals "_law_caught" = some (some (.ref fCa)))
    (lCa : K.lookup fCa = some ⟨ocCa, odCa, .func (PySem.W.fnOf "_law_caught" "_law_caught" (defArgs (top 25)) (defBody (top 25)) (defScope (top 25)) .none kVCa dcCa pmCa anCa cdCa ctCa), slCa⟩)
    (cCa : PySem.W.codeIn K cdCa "_law_caught" = true)
    (kCa : PySem.W.keepIn K (.ref fCa) = true)
    (aBa : PySem.W.nsIn K mainGlobals "_law_bad_entries" = some (some (.ref fBa)))
    (lBa : K.lookup fBa = some ⟨ocBa, odBa, .func (PySem.W.fnOf "_law_bad_entries" "_law_bad_entries" (defArgs (top 26)) (defBody (top 26)) (defScope (top 26)) .none kVBa dcBa pmBa anBa cdBa ctBa), slBa⟩)
    (cBa : PySem.W.codeIn K cdBa "_law_bad_entries" = true)
    (kBa : PySem.W.keepIn K (.ref fBa) = true)
    (aNr : PySem.W.nsIn K mainGlobals "_law_names_refused" = some (some (.ref fNr)))
    (lNr : K.lookup fNr = some ⟨ocNr, odNr, .func (PySem.W.fnOf "_law_names_refused" "_law_names_refused" (defArgs (top 27)) (defBody (top 27)) (defScope (top 27)) .none kVNr dcNr pmNr anNr cdNr ctNr), slNr⟩)
    (cNr : PySem.W.codeIn K cdNr "_law_names_refused" = true)
    (kNr : PySem.W.keepIn K (.ref fNr) = true)
    (aEr : PySem.W.nsIn K mainGlobals "_law_entries_refused" = some (some (.ref fEr)))
    (lEr : K.lookup fEr = some ⟨ocEr, odEr, .func (PySem.W.fnOf "_law_entries_refused" "_law_entries_refused" (defArgs (top 28)) (defBody (top 28)) (defScope (top 28)) .none kVEr dcEr pmEr anEr cdEr ctEr), slEr⟩)
    (cEr : PySem.W.codeIn K cdEr "_law_entries_refused" = true)
    (kEr : PySem.W.keepIn K (.ref fEr) = true)
    (aLa : PySem.W.nsIn K mainGlobals "law" = some (some (.ref fLa)))
    (lLa : K.lookup fLa = some ⟨ocLa, odLa, .func (PySem.W.fnOf "law" "law" (defArgs (top 29)) (defBody (top 29)) (defScope (top 29)) .none kVLa dcLa pmLa anLa cdLa ctLa), slLa⟩)
    (cLa : PySem.W.codeIn K cdLa "law" = true)
    (kLa : PySem.W.keepIn K (.ref fLa) = true)
    (aNa : PySem.W.nsIn K mainGlobals "is_name" = some (some (.ref fNa)))
    (lNa : K.lookup fNa = some ⟨ocNa, odNa, .func (PySem.W.fnOf "is_name" "is_name" (defArgs (top 5)) (defBody (top 5)) (defScope (top 5)) .none kVNa dcNa pmNa anNa cdNa ctNa), slNa⟩)
    (cNa : PySem.W.codeIn K cdNa "is_name" = true)
    (kNa : PySem.W.keepIn K (.ref fNa) = true)
    (aCm : PySem.W.nsIn K mainGlobals "check_many" = some (some (.ref fCm)))
    (lCm : K.lookup fCm = some ⟨ocCm, odCm, .func (PySem.W.fnOf "check_many" "check_many" (defArgs (top 7)) (defBody (top 7)) (defScope (top 7)) .none kVCm dcCm pmCm anCm cdCm ctCm), slCm⟩)
    (cCm : PySem.W.codeIn K cdCm "check_many" = true)
    (kCm : PySem.W.keepIn K (.ref fCm) = true)
    (aCn : PySem.W.nsIn K mainGlobals "check_names" = some (some (.ref fCn)))
    (lCn : K.lookup fCn = some ⟨ocCn, odCn, .func (PySem.W.fnOf "check_names" "check_names" (defArgs (top 8)) (defBody (top 8)) (defScope (top 8)) .none kVCn dcCn pmCn anCn cdCn ctCn), slCn⟩)
    (cCn : PySem.W.codeIn K cdCn "check_names" = true)
    (kCn : PySem.W.keepIn K (.ref fCn) = true)
    (aDe : PySem.W.nsIn K mainGlobals "is_deed" = some (some (.ref fDe)))
    (lDe : K.lookup fDe = some ⟨ocDe, odDe, .func (PySem.W.fnOf "is_deed" "is_deed" (defArgs (top 9)) (defBody (top 9)) (defScope (top 9)) .none kVDe dcDe pmDe anDe cdDe ctDe), slDe⟩)
    (cDe : PySem.W.codeIn K cdDe "is_deed" = true)
    (kDe : PySem.W.keepIn K (.ref fDe) = true)
    (aHe : PySem.W.nsIn K mainGlobals "is_hearing" = some (some (.ref fHe)))
    (lHe : K.lookup fHe = some ⟨ocHe, odHe, .func (PySem.W.fnOf "is_hearing" "is_hearing" (defArgs (top 10)) (defBody (top 10)) (defScope (top 10)) .none kVHe dcHe pmHe anHe cdHe ctHe), slHe⟩)
    (cHe : PySem.W.codeIn K cdHe "is_hearing" = true)
    (kHe : PySem.W.keepIn K (.ref fHe) = true)
    (aAl : PySem.W.nsIn K mainGlobals "is_heard_already" = some (some (.ref fAl)))
    (lAl : K.lookup fAl = some ⟨ocAl, odAl, .func (PySem.W.fnOf "is_heard_already" "is_heard_already" (defArgs (top 11)) (defBody (top 11)) (defScope (top 11)) .none kVAl dcAl pmAl anAl cdAl ctAl), slAl⟩)
    (cAl : PySem.W.codeIn K cdAl "is_heard_already" = true)
    (kAl : PySem.W.keepIn K (.ref fAl) = true)
    (aCd : PySem.W.nsIn K mainGlobals "check_deeds" = some (some (.ref fCd)))
    (lCd : K.lookup fCd = some ⟨ocCd, odCd, .func (PySem.W.fnOf "check_deeds" "check_deeds" (defArgs (top 12)) (defBody (top 12)) (defScope (top 12)) .none kVCd dcCd pmCd anCd cdCd ctCd), slCd⟩)
    (cCd : PySem.W.codeIn K cdCd "check_deeds" = true)
    (kCd : PySem.W.keepIn K (.ref fCd) = true)
    (aCh : PySem.W.nsIn K mainGlobals "check_hearings" = some (some (.ref fCh)))
    (lCh : K.lookup fCh = some ⟨ocCh, odCh, .func (PySem.W.fnOf "check_hearings" "check_hearings" (defArgs (top 13)) (defBody (top 13)) (defScope (top 13)) .none kVCh dcCh pmCh anCh cdCh ctCh), slCh⟩)
    (cCh : PySem.W.codeIn K cdCh "check_hearings" = true)
    (kCh : PySem.W.keepIn K (.ref fCh) = true)
    (nd : [CH, CL, CE].Nodup)
    (z_len : PySem.W.nsIn K mainGlobals "len" = some none)
    (z_int : PySem.W.nsIn K mainGlobals "int" = some none)
    (z_max : PySem.W.nsIn K mainGlobals "max" = some none)
    (z_range : PySem.W.nsIn K mainGlobals "range" = some none)
    (z_isinstance : PySem.W.nsIn K mainGlobals "isinstance" = some none)
    (z_repr : PySem.W.nsIn K mainGlobals "repr" = some none)
    (z_list : PySem.W.nsIn K mainGlobals "list" = some none)
    (z_str : PySem.W.nsIn K mainGlobals "str" = some none)
    (z_tuple : PySem.W.nsIn K mainGlobals "tuple" = some none)
    (z_all : PySem.W.nsIn K mainGlobals "all" = some none)
    (z_enumerate : PySem.W.nsIn K mainGlobals "enumerate" = some none)
    (z_sorted : PySem.W.nsIn K mainGlobals "sorted" = some none)
    (z_set : PySem.W.nsIn K mainGlobals "set" = some none)
    : ∃ fd : FuncData, (∀ (s : Shared) (v : Value), BindsTo s fd ⟨[v], []⟩ [("_law_script", v)]) ∧ ∀ base : Heap, K.In base → base.Ns mainGlobals mg → FnG l.prog w K mg base 9 fa fd ["_law_script"] (spLaw K) := by
  have e := hfa.symm.trans (PySem.W.mg_of X G aLa)
  cases e
  have OL : Own K CL fIL := ⟨⟨⟨_, _, _, _, _, _, _, _, _, _, _, _, _, _, _, xLL, by show PySem.HandSPX.refsVE PySem.HandSPX.veTail = true; decide +kernel⟩, saL, exL, tyL, kCL⟩, iCL, tIL⟩
  have FDL : FunD K "__init__" "InvalidList.__init__" (defArgs (inClass (top 2) 0)) (defBody (inClass (top 2) 0)) (defScope (inClass (top 2) 0)) [V.non] [] fIL _ := ⟨⟨ocIL, odIL, _, kVIL, dcIL, pmIL, anIL, cdIL, ctIL, slIL, rfl, lIL, cIL, .inr ⟨by simp, TL, _, [.none], tnL, rfl, lTL, rfl, .cons rfl .nil⟩, .inl rfl⟩, kIL⟩
  have ISL : IsC K CL := ⟨icL, ⟨gaL, ggL, exL, hdL⟩, haL, hn, ht, by rw [mro_of xLL]; rfl⟩
  have OE : Own K CE fIE := ⟨⟨⟨_, _, _, _, _, _, _, _, _, _, _, _, _, _, _, xLE, by show PySem.HandSPX.refsVE PySem.HandSPX.veTail = true; decide +kernel⟩, saE, exE, tyE, kCE⟩, iCE, tIE⟩
  have FDE : FunD K "__init__" "InvalidItem.__init__" (defArgs (inClass (top 3) 0)) (defBody (inClass (top 3) 0)) (defScope (inClass (top 3) 0)) [V.non] [] fIE _ := ⟨⟨ocIE, odIE, _, kVIE, dcIE, pmIE, anIE, cdIE, ctIE, slIE, rfl, lIE, cIE, .inr ⟨by simp, TE, _, [.none], tnE, rfl, lTE, rfl, .cons rfl .nil⟩, .inl rfl⟩, kIE⟩
  have ISE : IsC K CE := ⟨icE, ⟨gaE, ggE, exE, hdE⟩, haE, hn, ht, by rw [mro_of xLE]; rfl⟩
  have FCe := fun_mk (st := sCell) lCe cCe kCe
  have bCe := FCe.binds (ps := ["_law_script", "_law_index"]) fun _ _ _ _ _ _ us hl => match us, hl with | [_, _], _ => rfl
  have FHa := fun_mk (st := sHash) lHa cHa kHa
  have bHa := FHa.binds (ps := ["_law_seed", "_law_index"]) fun _ _ _ _ _ _ us hl => match us, hl with | [_, _], _ => rfl
  have FGe := fun_mk (st := sGen) lGe cGe kGe
  have bGe := FGe.binds (ps := ["_law_script", "_law_index"]) fun _ _ _ _ _ _ us hl => match us, hl with | [_, _], _ => rfl
  have FRa := fun_mk (st := sRand) lRa cRa kRa
  have bRa := FRa.binds (ps := ["_law_generator_here", "_law_bound"]) fun _ _ _ _ _ _ us hl => match us, hl with | [_, _], _ => rfl
  have FEn := fun_mk (st := (top 20)) lEn cEn kEn
  have bEn := FEn.binds (ps := ["_law_generator_here", "_law_houses", "_law_stands", "_law_sounds"]) fun _ _ _ _ _ _ us hl => match us, hl with | [_, _, _, _], _ => rfl
  have FPa := fun_mk (st := (top 21)) lPa cPa kPa
  have bPa := FPa.binds (ps := ["_law_generator_here", "_law_wide", "_law_high"]) fun _ _ _ _ _ _ us hl => match us, hl with | [_, _, _], _ => rfl
  have FLb := fun_mk (st := (top 22)) lLb cLb kLb
  have bLb := FLb.binds (ps := ["_law_parts_here"]) fun _ _ _ _ _ _ us hl => match us, hl with | [_], _ => rfl
  have FLi := fun_mk (st := (top 23)) lLi cLi kLi
  have bLi := FLi.binds (ps := ["_law_parts_here"]) fun _ _ _ _ _ _ us hl => match us, hl with | [_], _ => rfl
  have FOt := fun_mk (st := (top 24)) lOt cOt kOt
  have bOt := FOt.binds (ps := ["_law_parts_here"]) fun _ _ _ _ _ _ us hl => match us, hl with | [_], _ => rfl
  have FCa := fun_mk (st := (top 25)) lCa cCa kCa
  have bCa := FCa.binds (ps := ["_law_lists_here"]) fun _ _ _ _ _ _ us hl => match us, hl with | [_], _ => rfl
  have FBa := fun_mk (st := (top 26)) lBa cBa kBa
  have bBa := FBa.binds (ps := ["_law_silent"]) fun _ _ _ _ _ _ us hl => match us, hl with | [_], _ => rfl
  have FNr := fun_mk (st := (top 27)) lNr cNr kNr
  have bNr := FNr.binds (ps := ["_law_parts_here"]) fun _ _ _ _ _ _ us hl => match us, hl with | [_], _ => rfl
  have FEr := fun_mk (st := (top 28)) lEr cEr kEr
  have bEr := FEr.binds (ps := []) fun _ _ _ _ _ _ us hl => match us, hl with | [], _ => rfl
  have FLa := fun_mk (st := (top 29)) lLa cLa kLa
  have FNa := fun_mk (st := (top 5)) lNa cNa kNa
  have bNa := FNa.binds (ps := ["value"]) fun _ _ _ _ _ _ us hl => match us, hl with | [_], _ => rfl
  have FCm := fun_mk (st := (top 7)) lCm cCm kCm
  have bCm := FCm.binds (ps := ["value", "least", "most"]) fun _ _ _ _ _ _ us hl => match us, hl with | [_, _, _], _ => rfl
  have FCn := fun_mk (st := (top 8)) lCn cCn kCn
  have bCn := FCn.binds (ps := ["names", "taken"]) fun _ _ _ _ _ _ us hl => match us, hl with | [_, _], _ => rfl
  have FDe := fun_mk (st := (top 9)) lDe cDe kDe
  have bDe := FDe.binds (ps := ["houses", "stands", "value"]) fun _ _ _ _ _ _ us hl => match us, hl with | [_, _, _], _ => rfl
  have FHe := fun_mk (st := (top 10)) lHe cHe kHe
  have bHe := FHe.binds (ps := ["houses", "stands", "value"]) fun _ _ _ _ _ _ us hl => match us, hl with | [_, _, _], _ => rfl
  have FAl := fun_mk (st := (top 11)) lAl cAl kAl
  have bAl := FAl.binds (ps := ["hearing", "hearings"]) fun _ _ _ _ _ _ us hl => match us, hl with | [_, _], _ => rfl
  have FCd := fun_mk (st := (top 12)) lCd cCd kCd
  have bCd := FCd.binds (ps := ["houses", "stands", "deeds"]) fun _ _ _ _ _ _ us hl => match us, hl with | [_, _, _], _ => rfl
  have FCh := fun_mk (st := (top 13)) lCh cCh kCh
  have bCh := FCh.binds (ps := ["houses", "stands", "hearings"]) fun _ _ _ _ _ _ us hl => match us, hl with | [_, _, _], _ => rfl
  have FBI := fun_mk (st := (inClass (top 14) 0)) lBI cBI kBI
  have bBI := FBI.binds (ps := ["self", "houses", "stands", "deeds", "hearings", "lost"]) fun _ _ _ _ _ _ us hl => match us, hl with | [_, _, _, _, _, _], _ => rfl
  have FM1 := fun_mk (st := (inClass (top 14) 1)) lM1 cM1 kM1
  have bM1 := FM1.binds (ps := ["self"]) fun _ _ _ _ _ _ us hl => match us, hl with | [_], _ => rfl
  have FM2 := fun_mk (st := (inClass (top 14) 2)) lM2 cM2 kM2
  have bM2 := FM2.binds (ps := ["self"]) fun _ _ _ _ _ _ us hl => match us, hl with | [_], _ => rfl
  have FM3 := fun_mk (st := (inClass (top 14) 3)) lM3 cM3 kM3
  have bM3 := FM3.binds (ps := ["self"]) fun _ _ _ _ _ _ us hl => match us, hl with | [_], _ => rfl
  have FM4 := fun_mk (st := (inClass (top 14) 4)) lM4 cM4 kM4
  have bM4 := FM4.binds (ps := ["self"]) fun _ _ _ _ _ _ us hl => match us, hl with | [_], _ => rfl
  have FM5 := fun_mk (st := (inClass (top 14) 5)) lM5 cM5 kM5
  have bM5 := FM5.binds (ps := ["self"]) fun _ _ _ _ _ _ us hl => match us, hl with | [_], _ => rfl
  have FM6 := fun_mk (st := (inClass (top 14) 6)) lM6 cM6 kM6
  have bM6 := FM6.binds (ps := ["self"]) fun _ _ _ _ _ _ us hl => match us, hl with | [_], _ => rfl
  have FEq := fun_mk (st := (inClass (top 14) 7)) lEq cEq kEq
  have bEq := FEq.binds (ps := ["self", "other"]) fun _ _ _ _ _ _ us hl => match us, hl with | [_, _], _ => rfl
  have TG : GTxt mg K fCe fHa fGe fRa := ⟨PySem.W.mg_none_of X G z_len, PySem.W.mg_none_of X G z_int, PySem.W.mg_none_of X G z_max, PySem.W.mg_none_of X G z_range, PySem.W.mg_of X G aCe, PySem.W.mg_of X G aHa, PySem.W.mg_of X G aGe, PySem.W.mg_of X G aRa, kCe, kHa, kGe, kRa⟩
  have B : Bt mg := ⟨PySem.W.mg_none_of X G z_isinstance, PySem.W.mg_none_of X G z_str, PySem.W.mg_none_of X G z_list, PySem.W.mg_none_of X G z_tuple, PySem.W.mg_none_of X G z_len, PySem.W.mg_none_of X G z_all, PySem.W.mg_none_of X G z_enumerate, PySem.W.mg_none_of X G z_sorted, PySem.W.mg_none_of X G z_set, PySem.W.mg_none_of X G z_repr, PySem.W.mg_none_of X G z_range⟩
  simp only [List.nodup_cons, List.mem_cons, List.not_mem_nil, not_or, or_false, not_false_eq_true, List.nodup_nil, and_true] at nd
  have neq : Value.ref CL ≠ .ref CE := fun z => nd.2 (Value.ref.inj z)
  have eLH := exm_of exB (kit_of2 (C := .ref CL) icH tyH mLH fun _ => rfl).2
  have eEH := exm_of exB (kit_of2 (C := .ref CE) icH tyH mEH fun _ => rfl).2
  have kLE := (kit_of2 (C := .ref CL) icE tyE mLE fun z => (neq z).elim).1
  have kEL := (kit_of2 (C := .ref CE) icL tyL mEL fun z => (neq z.symm).elim).1
  have kLL : PySem.W.kitOne K (.ref CL) (.ref CL) = some true := by
    unfold PySem.W.kitOne
    rw [if_pos (by simp)]
  have kEE : PySem.W.kitOne K (.ref CE) (.ref CE) = some true := by
    unfold PySem.W.kitOne
    rw [if_pos (by simp)]
  have kkB : PySem.W.kitOne K (.ref CB) (.ref CB) = some true := by
    unfold PySem.W.kitOne
    rw [if_pos (by simp)]
  have TE : ErK K mg CH CL CE := ⟨PySem.W.mg_of X G aCH, PySem.W.mg_of X G aCL, PySem.W.mg_of X G aCE, eLH, eEH, ISL, ISE, noL, noE, kLL, kLE, kEL, kEE⟩
  have cB : BC K CB := ⟨⟨pgB, hdB, poB, saB⟩, nB1, nB2, nB3, nB4, nB5⟩
  have eB : BE K CB := ⟨cB, haB, hn, ht, hmB, kkB, fun d => by cases d <;> exact kit_ty2 icB tyB (by assumption)⟩
  have qB : QC K CB fEq := ⟨atEq, fnEq, neB, hmB, fun d => by cases d <;> assumption, fun d => by cases d <;> assumption⟩
  refine ⟨PySem.W.fnOf "law" "law" (defArgs (top 29)) (defBody (top 29)) (defScope (top 29)) .none kVLa dcLa pmLa anLa cdLa ctLa, fun s v => .of_eq rfl, fun base _ _ => ?_⟩
  have gL := erC_InvalidList (P := l.prog) (w := w) (base := base) FDL OL noL (PySem.W.mg_of X G aCL)
  have gE := erC_InvalidItem (P := l.prog) (w := w) (base := base) FDE OE noE (PySem.W.mg_of X G aCE)
  have GNa := ok_name (P := l.prog) (w := w) (base := base) FNa B
  have GDe := Deed.ok_deed (P := l.prog) (w := w) (base := base) FDe B GNa (PySem.W.mg_of X G aNa) kNa bNa
  have GHe := Hear.ok_hear (P := l.prog) (w := w) (base := base) FHe GDe (PySem.W.mg_of X G aDe) kDe bDe
  have GAl := Hear.ok_alr (P := l.prog) (w := w) (mg := mg) (base := base) FAl
  have TC : Chks l.prog w K mg base CL CE := ⟨⟨fCm, _, Chk.ok_many FCm B gL, PySem.W.mg_of X G aCm, kCm, bCm⟩, ⟨fCn, _, Chk.ok_names FCn B gE GNa (PySem.W.mg_of X G aNa) kNa bNa, PySem.W.mg_of X G aCn, kCn, bCn⟩,
    ⟨fCd, _, Lst.ok_deeds FCd gE GDe (PySem.W.mg_of X G aDe) kDe bDe, PySem.W.mg_of X G aCd, kCd, bCd⟩, ⟨fCh, _, Lst.ok_hears FCh B gE GHe (PySem.W.mg_of X G aHe) kHe bHe GAl (PySem.W.mg_of X G aAl) kAl bAl, PySem.W.mg_of X G aCh, kCh, bCh⟩⟩
  have BK : BkC l.prog w K mg base CL CE CB := ⟨⟨fBI, _, ⟨mB, atBI, fnBI, kB⟩, Bk.ok_init FBI B TC cB, bBI⟩, PySem.W.mg_of X G aB, cB⟩
  have GRa := ok_rand (P := l.prog) (w := w) (base := base) FRa TG FHa bHa
  have GEn := Ent.ok_entry (P := l.prog) (w := w) (base := base) FEn TG GRa bRa
  have dCa : DfG l.prog w K mg base 7 "_law_caught" ["_law_lists_here"] (spCau K) := ⟨fCa, _, ok_cau FCa B TE BK, PySem.W.mg_of X G aCa, kCa, bCa⟩
  have dLi : Df l.prog w K mg base CX0 1 "_law_lists" ["_law_parts_here"] (spLis K) := ⟨fLi, _, ok_lis FLi B, PySem.W.mg_of X G aLi, kLi, bLi⟩
  have L2h : LH2 l.prog w K mg base := ⟨dCa, dLi⟩
  have L1h : LH l.prog w K mg base := ⟨dCa, ⟨fBa, _, ok_bad FBa, PySem.W.mg_of X G aBa, kBa, bBa⟩⟩
  have T : LawT l.prog w K mg base CL CE CB := {
    gen := ⟨fGe, _, ok_gen FGe TG FCe bCe, PySem.W.mg_of X G aGe, kGe, bGe⟩
    parts := ⟨fPa, _, ok_parts FPa TG GRa bRa GEn bEn (PySem.W.mg_of X G aEn) kEn, PySem.W.mg_of X G aPa, kPa, bPa⟩
    lis := dLi
    lb := ⟨fLb, _, ok_lb FLb B BK, PySem.W.mg_of X G aLb, kLb, bLb⟩
    oth := ⟨fOt, _, ok_oth FOt B L2h, PySem.W.mg_of X G aOt, kOt, bOt⟩
    nr := ⟨fNr, _, ok_nr FNr B L2h, PySem.W.mg_of X G aNr, kNr, bNr⟩
    er := ⟨fEr, _, ok_er FEr B L1h, PySem.W.mg_of X G aEr, kEr, bEr⟩
    bk := BK
    houses := ⟨fM1, _, cB.cl, ⟨atM1, fnM1, kM1⟩, Bmk.ok_houses FM1 B cB, bM1⟩
    stands := ⟨fM2, _, cB.cl, ⟨atM2, fnM2, kM2⟩, Bmk.ok_stands FM2 B cB, bM2⟩
    deeds := ⟨fM3, _, cB.cl, ⟨atM3, fnM3, kM3⟩, Bmk.ok_deeds FM3 B cB, bM3⟩
    hearings := ⟨fM4, _, cB.cl, ⟨atM4, fnM4, kM4⟩, Bmk.ok_hearings FM4 B cB, bM4⟩
    lost := ⟨fM5, _, cB.cl, ⟨atM5, fnM5, kM5⟩, Bmk.ok_lost FM5 B cB, bM5⟩
    sounds := ⟨fM6, _, cB.cl, ⟨atM6, fnM6, kM6⟩, ok_snd FM6 B cB, bM6⟩
    eq := ⟨fEq, _, qB, ok_eq FEq B eB (PySem.W.mg_of X G aB), bEq⟩ }
  exact ok_law FLa B T
end Fi

open PySem PySem.W PyProof.Rows
set_option maxRecDepth 100000 in
set_option maxHeartbeats 0 in
theorem PySem.Challenge.cw_hushedasks_k10_books_made_holds : PySem.Challenge.rw_hushedasks_k10_books_made.Holds := by
  w_on; o_law; k_head; (case hw => w_witness2)
  k_fill
  refine Gu.walkG (l := PySem.Challenge.rw_hushedasks_k10_books_made) (n := 63) (k := 9) (x := "_law_script") (sp := Lw.spLaw) rfl (by decide) rfl ⟨rfl, by decide, by decide⟩ (fun w h Y => PySem.W.kIn_of Y) ?F ?S
  case F =>
    intro w mg fa h KX G hmg
    refine' Fi.all_mk KX G hmg ?aCH ?xLH ?gaH ?ggH ?haH ?kCH ?exH ?tyH ?hdH ?icH ?aCL ?xLL ?gaL ?ggL ?haL ?kCL ?exL ?tyL ?hdL ?icL ?saL ?iCL ?tIL ?noL ?lIL ?cIL ?kIL ?lTL ?aCE ?xLE ?gaE ?ggE ?haE ?kCE ?exE ?tyE ?hdE ?icE ?saE ?iCE ?tIE ?noE ?lIE ?cIE ?kIE ?lTE ?mLH ?mEH ?mLE ?mEL ?exB ?hn ?ht ?aB ?mB ?kB ?pgB ?hdB ?poB ?saB ?nB1 ?nB2 ?nB3 ?nB4 ?nB5 ?haB ?hmB ?icB ?tyB ?kn_NoneType ?nf_NoneType ?sb_NoneType ?kn_bool ?nf_bool ?sb_bool ?kn_int ?nf_int ?sb_int ?kn_str ?nf_str ?sb_str ?kn_list ?nf_list ?sb_list ?kn_tuple ?nf_tuple ?sb_tuple ?kn_dict ?nf_dict ?sb_dict ?neB ?atBI ?fnBI ?lBI ?cBI ?kBI ?atM1 ?fnM1 ?lM1 ?cM1 ?kM1 ?atM2 ?fnM2 ?lM2 ?cM2 ?kM2 ?atM3 ?fnM3 ?lM3 ?cM3 ?kM3 ?atM4 ?fnM4 ?lM4 ?cM4 ?kM4 ?atM5 ?fnM5 ?lM5 ?cM5 ?kM5 ?atM6 ?fnM6 ?lM6 ?cM6 ?kM6 ?atEq ?fnEq ?lEq ?cEq ?kEq ?aCe ?lCe ?cCe ?kCe ?aHa ?lHa ?cHa ?kHa ?aGe ?lGe ?cGe ?kGe ?aRa ?lRa ?cRa ?kRa ?aEn ?lEn ?cEn ?kEn ?aPa ?lPa ?cPa ?kPa ?aLb ?lLb ?cLb ?kLb ?aLi ?lLi ?cLi ?kLi ?aOt ?lOt ?cOt ?kOt ?aCa ?lCa ?cCa ?kCa ?aBa ?lBa ?cBa ?kBa ?aNr ?lNr ?cNr ?kNr ?aEr ?lEr ?cEr ?kEr ?aLa ?lLa ?cLa ?kLa ?aNa ?lNa ?cNa ?kNa ?aCm ?lCm ?cCm ?kCm ?aCn ?lCn ?cCn ?kCn ?aDe ?lDe ?cDe ?kDe ?aHe ?lHe ?cHe ?kHe ?aAl ?lAl ?cAl ?kAl ?aCd ?lCd ?cCd ?kCd ?aCh ?lCh ?cCh ?kCh ?nd ?z_len ?z_int ?z_max ?z_range ?z_isinstance ?z_repr ?z_list ?z_str ?z_tuple ?z_all ?z_enumerate ?z_sorted ?z_set
    (case aCH => k_is)
    (case xLH => k_is)
    (case gaH => k_is)
    (case ggH => k_is)
    (case haH => k_is)
    (case kCH => k_is)
    (case exH => k_is)
    (case tyH => k_is)
    (case hdH => k_is)
    (case icH => k_is)
    (case aCL => k_is)
    (case xLL => k_is)
    (case gaL => k_is)
    (case ggL => k_is)
    (case haL => k_is)
    (case kCL => k_is)
    (case exL => k_is)
    (case tyL => k_is)
    (case hdL => k_is)
    (case icL => k_is)
    (case saL => k_is)
    (case iCL => k_is)
    (case tIL => k_is)
    (case noL => k_is)
    (case lIL => k_is)
    (case cIL => k_is)
    (case kIL => k_is)
    (case lTL => k_is)
    (case aCE => k_is)
    (case xLE => k_is)
    (case gaE => k_is)
    (case ggE => k_is)
    (case haE => k_is)
    (case kCE => k_is)
    (case exE => k_is)
    (case tyE => k_is)
    (case hdE => k_is)
    (case icE => k_is)
    (case saE => k_is)
    (case iCE => k_is)
    (case tIE => k_is)
    (case noE => k_is)
    (case lIE => k_is)
    (case cIE => k_is)
    (case kIE => k_is)
    (case lTE => k_is)
    (case mLH => k_is)
    (case mEH => k_is)
    (case mLE => k_is)
    (case mEL => k_is)
    (case exB => k_is)
    (case hn => k_is)
    (case ht => k_is)
    (case aB => k_is)
    (case mB => k_is)
    (case kB => k_is)
    (case pgB => k_is)
    (case hdB => k_is)
    (case poB => k_is)
    (case saB => k_is)
    (case nB1 => k_is)
    (case nB2 => k_is)
    (case nB3 => k_is)
    (case nB4 => k_is)
    (case nB5 => k_is)
    (case haB => k_is)
    (case hmB => k_is)
    (case icB => k_is)
    (case tyB => k_is)
    (case kn_NoneType => k_is)
    (case nf_NoneType => k_is)
    (case sb_NoneType => k_is)
    (case kn_bool => k_is)
    (case nf_bool => k_is)
    (case sb_bool => k_is)
    (case kn_int => k_is)
    (case nf_int => k_is)
    (case sb_int => k_is)
    (case kn_str => k_is)
    (case nf_str => k_is)
    (case sb_str => k_is)
    (case kn_list => k_is)
    (case nf_list => k_is)
    (case sb_list => k_is)
    (case kn_tuple => k_is)
    (case nf_tuple => k_is)
    (case sb_tuple => k_is)
    (case kn_dict => k_is)
    (case nf_dict => k_is)
    (case sb_dict => k_is)
    (case neB => k_is)
    (case atBI => k_is)
    (case fnBI => k_is)
    (case lBI => k_is)
    (case cBI => k_is)
    (case kBI => k_is)
    (case atM1 => k_is)
    (case fnM1 => k_is)
    (case lM1 => k_is)
    (case cM1 => k_is)
    (case kM1 => k_is)
    (case atM2 => k_is)
    (case fnM2 => k_is)
    (case lM2 => k_is)
    (case cM2 => k_is)
    (case kM2 => k_is)
    (case atM3 => k_is)
    (case fnM3 => k_is)
    (case lM3 => k_is)
    (case cM3 => k_is)
    (case kM3 => k_is)
    (case atM4 => k_is)
    (case fnM4 => k_is)
    (case lM4 => k_is)
    (case cM4 => k_is)
    (case kM4 => k_is)
    (case atM5 => k_is)
    (case fnM5 => k_is)
    (case lM5 => k_is)
    (case cM5 => k_is)
    (case kM5 => k_is)
    (case atM6 => k_is)
    (case fnM6 => k_is)
    (case lM6 => k_is)
    (case cM6 => k_is)
    (case kM6 => k_is)
    (case atEq => k_is)
    (case fnEq => k_is)
    (case lEq => k_is)
    (case cEq => k_is)
    (case kEq => k_is)
    (case aCe => k_is)
    (case lCe => k_is)
    (case cCe => k_is)
    (case kCe => k_is)
    (case aHa => k_is)
    (case lHa => k_is)
    (case cHa => k_is)
    (case kHa => k_is)
    (case aGe => k_is)
    (case lGe => k_is)
    (case cGe => k_is)
    (case kGe => k_is)
    (case aRa => k_is)
    (case lRa => k_is)
    (case cRa => k_is)
    (case kRa => k_is)
    (case aEn => k_is)
    (case lEn => k_is)
    (case cEn => k_is)
    (case kEn => k_is)
    (case aPa => k_is)
    (case lPa => k_is)
    (case cPa => k_is)
    (case kPa => k_is)
    (case aLb => k_is)
    (case lLb => k_is)
    (case cLb => k_is)
    (case kLb => k_is)
    (case aLi => k_is)
    (case lLi => k_is)
    (case cLi => k_is)
    (case kLi => k_is)
    (case aOt => k_is)
    (case lOt => k_is)
    (case cOt => k_is)
    (case kOt => k_is)
    (case aCa => k_is)
    (case lCa => k_is)
    (case cCa => k_is)
    (case kCa => k_is)
    (case aBa => k_is)
    (case lBa => k_is)
    (case cBa => k_is)
    (case kBa => k_is)
    (case aNr => k_is)
    (case lNr => k_is)
    (case cNr => k_is)
    (case kNr => k_is)
    (case aEr => k_is)
    (case lEr => k_is)
    (case cEr => k_is)
    (case kEr => k_is)
    (case aLa => k_is)
    (case lLa => k_is)
    (case cLa => k_is)
    (case kLa => k_is)
    (case aNa => k_is)
    (case lNa => k_is)
    (case cNa => k_is)
    (case kNa => k_is)
    (case aCm => k_is)
    (case lCm => k_is)
    (case cCm => k_is)
    (case kCm => k_is)
    (case aCn => k_is)
    (case lCn => k_is)
    (case cCn => k_is)
    (case kCn => k_is)
    (case aDe => k_is)
    (case lDe => k_is)
    (case cDe => k_is)
    (case kDe => k_is)
    (case aHe => k_is)
    (case lHe => k_is)
    (case cHe => k_is)
    (case kHe => k_is)
    (case aAl => k_is)
    (case lAl => k_is)
    (case cAl => k_is)
    (case kAl => k_is)
    (case aCd => k_is)
    (case lCd => k_is)
    (case cCd => k_is)
    (case kCd => k_is)
    (case aCh => k_is)
    (case lCh => k_is)
    (case cCh => k_is)
    (case kCh => k_is)
    (case nd => decide)
    (case z_len => k_is)
    (case z_int => k_is)
    (case z_max => k_is)
    (case z_range => k_is)
    (case z_isinstance => k_is)
    (case z_repr => k_is)
    (case z_list => k_is)
    (case z_str => k_is)
    (case z_tuple => k_is)
    (case z_all => k_is)
    (case z_enumerate => k_is)
    (case z_sorted => k_is)
    (case z_set => k_is)
  case S =>
    intro K H a ns hl hS
    exact ⟨a, ns, rfl, hS, hl, fun _ => rfl⟩
