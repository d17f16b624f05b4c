import PyProof.Rows.All
import Wide.All
import OpenK.AllK
import Wide.FinOn
import HandS.ForMost
import HandS.Wide
import HandS.IsInst
import HandS.Zip
import HandS.Walk
import HandS.NoneIn
import PySem.Challenge.RW_dunnage_k01_parts_reckoned
set_option Elab.async false
set_option linter.all false
set_option maxRecDepth 100000
set_option maxHeartbeats 4000000
namespace DK
theorem fmod_gcd (a b : Int) : Int.gcd b (a.fmod b) = Int.gcd a b := by
  rw [Int.fmod_def, Int.gcd_sub_mul_left_right, Int.gcd_comm]
theorem fmod_lt {a b : Int} (h : b ≠ 0) : (a.fmod b).natAbs < b.natAbs := by
  rcases Int.lt_or_lt_of_ne h with h | h
  · have e := Int.neg_fmod_neg (-a) (-b)
    rw [Int.neg_neg, Int.neg_neg] at e
    have h1 := Int.fmod_nonneg_of_pos (-a) (show 0 < -b by omega)
    have h2 := Int.fmod_lt_of_pos (-a) (show 0 < -b by omega)
    omega
  · have h1 := Int.fmod_nonneg_of_pos a h
    have h2 := Int.fmod_lt_of_pos a h
    omega
theorem emod_gcd (a b : Int) : Int.gcd b (a % b) = Int.gcd a b := by
  rw [Int.emod_def, Int.gcd_sub_mul_left_right, Int.gcd_comm]
/-- the measure with the bottom's sign -/
def sg (t b : Int) : Int := if b < 0 then -(Int.gcd t b : Int) else (Int.gcd t b : Int)
def loT (t b : Int) : Int := t.fdiv (sg t b)
def loB (t b : Int) : Int := b.fdiv (sg t b)
theorem gcd_ne {t b : Int} (h : b ≠ 0) : Int.gcd t b ≠ 0 := fun z => h (Int.gcd_eq_zero_iff.mp z).2
theorem sg_ne {t b : Int} (h : b ≠ 0) : sg t b ≠ 0 := by
  have := gcd_ne (t := t) h
  unfold sg
  split <;> omega
theorem sg_nat (t b : Int) : (sg t b).natAbs = Int.gcd t b := by
  unfold sg
  split <;> omega
theorem sg_dvdT (t b : Int) : sg t b ∣ t := by
  unfold sg
  split
  · exact Int.neg_dvd.mpr (Int.gcd_dvd_left t b)
  · exact Int.gcd_dvd_left t b
theorem sg_dvdB (t b : Int) : sg t b ∣ b := by
  unfold sg
  split
  · exact Int.neg_dvd.mpr (Int.gcd_dvd_right t b)
  · exact Int.gcd_dvd_right t b
theorem fdiv_small {x m : Int} (hm : m ≠ 0) (h : m ∣ x) : (x.fdiv m).natAbs ≤ x.natAbs := by
  obtain ⟨c, rfl⟩ := h
  rw [Int.mul_fdiv_cancel_left c hm, Int.natAbs_mul]
  exact Nat.le_mul_of_pos_left _ (by omega)
theorem loT_le {t b : Int} (h : b ≠ 0) : (loT t b).natAbs ≤ t.natAbs := fdiv_small (sg_ne h) (sg_dvdT t b)
theorem loB_le {t b : Int} (h : b ≠ 0) : (loB t b).natAbs ≤ b.natAbs := fdiv_small (sg_ne h) (sg_dvdB t b)
theorem loB_ne {t b : Int} (h : b ≠ 0) : loB t b ≠ 0 := by
  intro z
  unfold loB at z
  obtain ⟨c, e⟩ := sg_dvdB t b
  have z2 : (sg t b * c).fdiv (sg t b) = 0 := by rw [← e]; exact z
  rw [Int.mul_fdiv_cancel_left c (sg_ne h)] at z2
  rw [z2, Int.mul_zero] at e
  exact h e
theorem sg_zero {b : Int} (h : b ≠ 0) : sg 0 b = b := by
  unfold sg
  rw [Int.gcd_zero_left]
  split <;> omega
theorem loT_zero (b : Int) : loT 0 b = 0 := by
  unfold loT
  exact Int.zero_fdiv _
theorem loB_zero {b : Int} (h : b ≠ 0) : loB 0 b = 1 := by
  unfold loB
  rw [sg_zero h]
  have e := Int.mul_fdiv_cancel_left 1 h
  rw [Int.mul_one] at e
  exact e
theorem gcd_abs (t b : Int) : Int.gcd (if t < 0 then -t else t) (if b < 0 then -b else b) = Int.gcd t b := by
  split <;> split <;> simp only [Int.neg_gcd, Int.gcd_neg]
end DK
namespace DK
open PySem PySem.Spec PyProof.Rows L2
/-! ### the text -/
def topS (i : Nat) : Stmt := PySem.Challenge.pw_dunnage_k01_parts_reckoned.main.body.getD i (.Pass ⟨0, 0, 0, 0⟩)
abbrev sCM : Stmt := topS 1
abbrev sPart : Stmt := topS 2
abbrev sPlus : Stmt := topS 3
abbrev sMinus : Stmt := topS 4
abbrev sTimes : Stmt := topS 5
abbrev sLess : Stmt := topS 6
abbrev sFeed : Stmt := topS 8
abbrev sSame : Stmt := topS 9
abbrev sLow : Stmt := topS 10
abbrev sAdd : Stmt := topS 11
abbrev sMul : Stmt := topS 12
abbrev sLLess : Stmt := topS 13
abbrev sBig : Stmt := topS 14
abbrev sLaw : Stmt := topS 15
theorem scCM : FnScope ["first", "second"] ["first", "second"] (defScope sCM) := ⟨rfl, rfl, rfl, by decide +kernel, rfl, by decide +kernel, by decide +kernel⟩
theorem scPart : FnScope ["top", "bottom", "measure"] ["top", "bottom"] (defScope sPart) := ⟨rfl, rfl, rfl, by decide +kernel, rfl, by decide +kernel, by decide +kernel⟩
theorem scPlus : FnScope ["a", "b"] ["a", "b"] (defScope sPlus) := ⟨rfl, rfl, rfl, by decide +kernel, rfl, by decide +kernel, by decide +kernel⟩
theorem scMinus : FnScope ["a", "b"] ["a", "b"] (defScope sMinus) := ⟨rfl, rfl, rfl, by decide +kernel, rfl, by decide +kernel, by decide +kernel⟩
theorem scTimes : FnScope ["a", "b"] ["a", "b"] (defScope sTimes) := ⟨rfl, rfl, rfl, by decide +kernel, rfl, by decide +kernel, by decide +kernel⟩
theorem scLess : FnScope ["a", "b"] ["a", "b"] (defScope sLess) := ⟨rfl, rfl, rfl, by decide +kernel, rfl, by decide +kernel, by decide +kernel⟩
/-! ### rules and heaps -/
def CDivS (_ j : Int) : Prop := j ≠ 0 ∧ j.natAbs.log2 < 9000
theorem op_fdivS {X : Cx} : OpR X (binaryOp .FloorDiv) (rI CDivS fun i j => .int (i.fdiv j)) := opI fun i j _ _ _ _ _ hc q => floordiv_int hc.1 q (.inl (PyProof.noPylong_of_log2 hc.2))
theorem same_upd {H : Hp} {p : Addr} {o : HO} (h : H p = none) : Same H (upd H p o) := fun b x e => by
  rw [upd_ne (ne_of_none e h)]
  exact e
theorem same_tup {K : PySem.W.Frag} {H H' : Hp} {a : Addr} {xs : List V} (e : Same H H') (h : SqT K H a xs) : SqT K H' a xs := by
  rcases h with (h | ⟨o, h⟩) | h
  · exact .inl (.inl (e _ _ h))
  · exact .inl (.inr ⟨o, e _ _ h⟩)
  · exact .inr h
/-- a number of at most 640 bits -/
def Sm (x : Int) : Prop := x.natAbs < 2 ^ 640
theorem Sm.le {x y : Int} (h : Sm y) (l : x.natAbs ≤ y.natAbs) : Sm x := Nat.lt_of_le_of_lt l h
theorem Sm.mul {x y : Int} (hx : Sm x) (hy : Sm y) : CMulW x y := wide_mul hx hy (by decide) (by decide) (by decide)
theorem Sm.lt {x y : Int} (hx : Sm x) (hy : Sm y) : (x * y).natAbs < 2 ^ 1280 := wide_lt hx hy
section
variable {P : Program} {w : World} {K : PySem.W.Frag} {mg : Str → Option Value} {base : Heap}
/-! ### common_measure -/
def spCM : Sp := fun vs H Q _ => ∃ a b : Int, vs = [.int a, .int b] ∧ Q (.int (Int.gcd a b : Nat)) H
theorem abs_gcd (a : Int) : (if a < 0 then -a else a) = ((Int.gcd a 0 : Nat) : Int) := by
  rw [Int.gcd_zero_right]
  split <;> omega
theorem ok_CM {f : Addr} {fd : FuncData} (F : Fun K "common_measure" "common_measure" sCM f fd) (mA : mg "abs" = none) : FnOk P w K mg base CX0 1 f fd ["first", "second"] spCM := by
  refine F.ok scCM (fun vs H Q E h => ?_) (fun cdv A outer s H vs Q E hr h => ?_)
  · obtain ⟨a, b, rfl, _⟩ := h
    rfl
  · obtain ⟨a, b, rfl, q⟩ := h
    refine ⟨_, pss_cons (ps_while PassesOwn.never (pt_truth (pv 1) (by intro _; rfl))
        (pss_one (ps_par (i := 0) (j := 1) (by rfl) scCM.nd rfl rfl (by decide) rfl rfl (pa_cons (pv 1) (pa_cons (pe_op op_modN (pv 0) (pv 1)) pa_nil)) (by rfl))))
      (pss_one (ps_ret (pe_callB call_abs (by rfl) mA (by decide +kernel) (pa_cons (pv 0) pa_nil)))), ?_⟩
    refine ⟨fun m σ H1 => ∃ x y : Int, σ = [some (.int x), some (.int y)] ∧ H1 = H ∧ m = y.natAbs ∧ Int.gcd x y = Int.gcd a b, ⟨_, a, b, rfl, rfl, rfl, rfl⟩, fun m σ H1 hW => ?_⟩
    obtain ⟨x, y, rfl, rfl, rfl, hg⟩ := hW
    refine ⟨.int y, rfl, (y != 0), rfl, ite2 (fun e => ?_) (fun e => ?_)⟩
    · have hy : y ≠ 0 := by simpa using e
      refine ⟨fun σ' H' => σ' = [some (.int y), some (.int (x.fmod y))] ∧ H' = H1, fun σ' H' hN => ?_, ?_⟩
      · obtain ⟨rfl, rfl⟩ := hN
        exact ⟨_, fmod_lt hy, _, _, rfl, rfl, rfl, by rw [fmod_gcd, hg]⟩
      · exact ⟨_, rfl, _, rfl, _, rfl, _, _, rfl, rfl, hy, _, _, rfl, rfl, rfl⟩
    · have hy : y = 0 := by simpa using e
      subst hy
      refine ⟨_, rfl, x, rfl, ?_⟩
      rw [abs_gcd, hg]
      exact q
/-! ### part -/
def spPart : Sp := fun vs H Q _ => ∃ t b : Int, vs = [.int t, .int b] ∧ b ≠ 0 ∧ b.natAbs < 2 ^ 4000 ∧ ∀ p, H p = none → Q (.ref p) (upd H p (.tup [.int (loT t b), .int (loB t b)]))
theorem sg_div {t b : Int} (h : b ≠ 0) (hb : b.natAbs < 2 ^ 4000) : sg t b ≠ 0 ∧ (sg t b).natAbs.log2 < 9000 := by
  refine ⟨sg_ne h, ?_⟩
  rw [sg_nat]
  have h1 := Int.gcd_le_natAbs_right t h
  exact Nat.lt_of_lt_of_le (PySem.Flt.log2_lt_of (show 0 < 4000 by decide) (Nat.lt_of_le_of_lt h1 hb)) (by decide)
theorem ok_part {f fC : Addr} {fd fdC : FuncData} (F : Fun K "part" "part" sPart f fd) (FC : Fun K "common_measure" "common_measure" sCM fC fdC) (bC : Binds K fdC ["first", "second"] []) (gC : mg "common_measure" = some (.ref fC)) (mA : mg "abs" = none) : FnOk P w K mg base CX0 2 f fd ["top", "bottom"] spPart := by
  have GC : FnOk P w K mg base CX0 1 fC fdC ["first", "second"] spCM := ok_CM FC mA
  refine F.ok scPart (fun vs H Q E h => ?_) (fun cdv A outer s H vs Q E hr h => ?_)
  · obtain ⟨a, b, rfl, _⟩ := h
    rfl
  · obtain ⟨t, b, rfl, hb, hz, q⟩ := h
    refine ⟨_, pss_cons (ps_set (i := 2) scPart.nd rfl (.inl rfl) (pe_call GC hr (by rfl) gC FC.kp bC .nil pass0 (pa_cons (pv 0) (pa_cons (pv 1) pa_nil))))
      (pss_cons (ps_if (pt_cmpR op_lt (pv 1) pe_int (nomark _)) (pss_one (ps_set (i := 2) scPart.nd rfl (.inl rfl) (pe_un un_neg (pv 2)))) pss_nil)
      (pss_one (ps_ret (pe_tup (pa_cons (pe_op op_fdivS (pv 0) (pv 2)) (pa_cons (pe_op op_fdivS (pv 1) (pv 2)) pa_nil)))))), ?_⟩
    refine ⟨_, rfl, _, rfl, t, b, rfl, ?_⟩
    have hd := sg_div (t := t) hb hz
    refine ⟨_, rfl, _, _, rfl, rfl, _, rfl, ite2 (fun e => ?_) (fun e => ?_)⟩
    · have hb0 : b < 0 := of_decide_eq_true e
      have es : -((Int.gcd t b : Nat) : Int) = sg t b := by
        unfold sg
        rw [if_pos hb0]
      obtain ⟨d1, d2⟩ : -((Int.gcd t b : Nat) : Int) ≠ 0 ∧ (-((Int.gcd t b : Nat) : Int)).natAbs.log2 < 9000 := by
        rw [es]
        exact hd
      have q' : ∀ p, H p = none → Q (.ref p) (upd H p (.tup [.int (t.fdiv (-((Int.gcd t b : Nat) : Int))), .int (b.fdiv (-((Int.gcd t b : Nat) : Int)))])) := by
        rw [es]
        exact q
      exact ⟨_, rfl, _, rfl, _, rfl, _, rfl, _, _, rfl, rfl, ⟨d1, d2⟩, _, rfl, _, rfl, _, _, rfl, rfl, ⟨d1, d2⟩, by show 2 ≤ sizeLine; decide, q'⟩
    · have hb0 : ¬ b < 0 := fun z => e (decide_eq_true z)
      have es : ((Int.gcd t b : Nat) : Int) = sg t b := by
        unfold sg
        rw [if_neg hb0]
      obtain ⟨d1, d2⟩ : ((Int.gcd t b : Nat) : Int) ≠ 0 ∧ (((Int.gcd t b : Nat) : Int)).natAbs.log2 < 9000 := by
        rw [es]
        exact hd
      have q' : ∀ p, H p = none → Q (.ref p) (upd H p (.tup [.int (t.fdiv ((Int.gcd t b : Nat) : Int)), .int (b.fdiv ((Int.gcd t b : Nat) : Int))])) := by
        rw [es]
        exact q
      exact ⟨_, rfl, _, rfl, _, _, rfl, rfl, ⟨d1, d2⟩, _, rfl, _, rfl, _, _, rfl, rfl, ⟨d1, d2⟩, by show 2 ≤ sizeLine; decide, q'⟩
/-! ### plus, minus, times, less -/
/-- two parts at a and b, of numbers that are not too great -/
def Two (K : PySem.W.Frag) (H : Hp) (vs : List V) (a0 a1 b0 b1 : Int) : Prop := ∃ a b : Addr, vs = [.ref a, .ref b] ∧ SqT K H a [.int a0, .int a1] ∧ SqT K H b [.int b0, .int b1] ∧ (Sm a0 ∧ Sm a1 ∧ Sm b0 ∧ Sm b1) ∧ a1 ≠ 0 ∧ b1 ≠ 0
def spTwo (K : PySem.W.Frag) (f g : Int → Int → Int → Int → Int) : Sp := fun vs H Q _ => ∃ a0 a1 b0 b1 : Int, Two K H vs a0 a1 b0 b1 ∧ ∀ p, H p = none → Q (.ref p) (upd H p (.tup [.int (loT (f a0 a1 b0 b1) (g a0 a1 b0 b1)), .int (loB (f a0 a1 b0 b1) (g a0 a1 b0 b1))]))
def mulNe {a b : Int} (ha : a ≠ 0) (hb : b ≠ 0) : a * b ≠ 0 := Int.mul_ne_zero ha hb
theorem w1280 {n : Nat} (h : n < 2 ^ 1280) : n < 2 ^ 4000 := Nat.lt_of_lt_of_le h (Nat.pow_le_pow_right (by decide) (by decide))
theorem at0 (x y : V) : atI [x, y] (0 : Int) = some x := atI_nat (j := 0) rfl
theorem at1 (x y : V) : atI [x, y] (1 : Int) = some y := atI_nat (j := 1) rfl
theorem ok_plus {f fP : Addr} {fd fdP : FuncData} (F : Fun K "plus" "plus" sPlus f fd) (FP : Fun K "part" "part" sPart fP fdP) (bP : Binds K fdP ["top", "bottom"] []) (gP : mg "part" = some (.ref fP)) (GP : FnOk P w K mg base CX0 2 fP fdP ["top", "bottom"] spPart) :
    FnOk P w K mg base CX0 3 f fd ["a", "b"] (spTwo K (fun a0 a1 b0 b1 => a0 * b1 + b0 * a1) (fun a0 a1 b0 b1 => a1 * b1)) := by
  refine F.ok scPlus (fun vs H Q E h => ?_) (fun cdv A outer s H vs Q E hr h => ?_)
  · obtain ⟨_, _, _, _, ⟨a, b, rfl, _⟩, _⟩ := h
    rfl
  · obtain ⟨a0, a1, b0, b1, ⟨a, b, rfl, hA, hB, ⟨s0, s1, s2, s3⟩, n1, n2⟩, q⟩ := h
    refine ⟨_, pss_one (ps_ret (pe_call GP hr (by rfl) gP FP.kp bP .nil pass0
      (pa_cons (pe_op op_add (pe_op op_mulW (pe_ix ix_tup (pv 0) pe_int (fun _ _ => rfl)) (pe_ix ix_tup (pv 1) pe_int (fun _ _ => rfl))) (pe_op op_mulW (pe_ix ix_tup (pv 1) pe_int (fun _ _ => rfl)) (pe_ix ix_tup (pv 0) pe_int (fun _ _ => rfl))))
      (pa_cons (pe_op op_mulW (pe_ix ix_tup (pv 0) pe_int (fun _ _ => rfl)) (pe_ix ix_tup (pv 1) pe_int (fun _ _ => rfl))) pa_nil)))), ?_⟩
    refine ⟨_, rfl, a, _, _, _, rfl, rfl, hA, at0 _ _, _, rfl, b, _, _, _, rfl, rfl, hB, at1 _ _, _, _, rfl, rfl, s0.mul s3, ?_⟩
    refine ⟨_, rfl, b, _, _, _, rfl, rfl, hB, at0 _ _, _, rfl, a, _, _, _, rfl, rfl, hA, at1 _ _, _, _, rfl, rfl, s2.mul s1, _, _, rfl, rfl, ?_⟩
    refine ⟨_, rfl, a, _, _, _, rfl, rfl, hA, at1 _ _, _, rfl, b, _, _, _, rfl, rfl, hB, at1 _ _, _, _, rfl, rfl, s1.mul s3, ?_⟩
    exact ⟨_, _, rfl, mulNe n1 n2, w1280 (s1.lt s3), q⟩
theorem ok_minus {f fP : Addr} {fd fdP : FuncData} (F : Fun K "minus" "minus" sMinus f fd) (FP : Fun K "part" "part" sPart fP fdP) (bP : Binds K fdP ["top", "bottom"] []) (gP : mg "part" = some (.ref fP)) (GP : FnOk P w K mg base CX0 2 fP fdP ["top", "bottom"] spPart) :
    FnOk P w K mg base CX0 3 f fd ["a", "b"] (spTwo K (fun a0 a1 b0 b1 => a0 * b1 - b0 * a1) (fun a0 a1 b0 b1 => a1 * b1)) := by
  refine F.ok scMinus (fun vs H Q E h => ?_) (fun cdv A outer s H vs Q E hr h => ?_)
  · obtain ⟨_, _, _, _, ⟨a, b, rfl, _⟩, _⟩ := h
    rfl
  · obtain ⟨a0, a1, b0, b1, ⟨a, b, rfl, hA, hB, ⟨s0, s1, s2, s3⟩, n1, n2⟩, q⟩ := h
    refine ⟨_, pss_one (ps_ret (pe_call GP hr (by rfl) gP FP.kp bP .nil pass0
      (pa_cons (pe_op op_sub (pe_op op_mulW (pe_ix ix_tup (pv 0) pe_int (fun _ _ => rfl)) (pe_ix ix_tup (pv 1) pe_int (fun _ _ => rfl))) (pe_op op_mulW (pe_ix ix_tup (pv 1) pe_int (fun _ _ => rfl)) (pe_ix ix_tup (pv 0) pe_int (fun _ _ => rfl))))
      (pa_cons (pe_op op_mulW (pe_ix ix_tup (pv 0) pe_int (fun _ _ => rfl)) (pe_ix ix_tup (pv 1) pe_int (fun _ _ => rfl))) pa_nil)))), ?_⟩
    refine ⟨_, rfl, a, _, _, _, rfl, rfl, hA, at0 _ _, _, rfl, b, _, _, _, rfl, rfl, hB, at1 _ _, _, _, rfl, rfl, s0.mul s3, ?_⟩
    refine ⟨_, rfl, b, _, _, _, rfl, rfl, hB, at0 _ _, _, rfl, a, _, _, _, rfl, rfl, hA, at1 _ _, _, _, rfl, rfl, s2.mul s1, _, _, rfl, rfl, ?_⟩
    refine ⟨_, rfl, a, _, _, _, rfl, rfl, hA, at1 _ _, _, rfl, b, _, _, _, rfl, rfl, hB, at1 _ _, _, _, rfl, rfl, s1.mul s3, ?_⟩
    exact ⟨_, _, rfl, mulNe n1 n2, w1280 (s1.lt s3), q⟩
theorem ok_times {f fP : Addr} {fd fdP : FuncData} (F : Fun K "times" "times" sTimes f fd) (FP : Fun K "part" "part" sPart fP fdP) (bP : Binds K fdP ["top", "bottom"] []) (gP : mg "part" = some (.ref fP)) (GP : FnOk P w K mg base CX0 2 fP fdP ["top", "bottom"] spPart) :
    FnOk P w K mg base CX0 3 f fd ["a", "b"] (spTwo K (fun a0 a1 b0 b1 => a0 * b0) (fun a0 a1 b0 b1 => a1 * b1)) := by
  refine F.ok scTimes (fun vs H Q E h => ?_) (fun cdv A outer s H vs Q E hr h => ?_)
  · obtain ⟨_, _, _, _, ⟨a, b, rfl, _⟩, _⟩ := h
    rfl
  · obtain ⟨a0, a1, b0, b1, ⟨a, b, rfl, hA, hB, ⟨s0, s1, s2, s3⟩, n1, n2⟩, q⟩ := h
    refine ⟨_, pss_one (ps_ret (pe_call GP hr (by rfl) gP FP.kp bP .nil pass0
      (pa_cons (pe_op op_mulW (pe_ix ix_tup (pv 0) pe_int (fun _ _ => rfl)) (pe_ix ix_tup (pv 1) pe_int (fun _ _ => rfl)))
      (pa_cons (pe_op op_mulW (pe_ix ix_tup (pv 0) pe_int (fun _ _ => rfl)) (pe_ix ix_tup (pv 1) pe_int (fun _ _ => rfl))) pa_nil)))), ?_⟩
    refine ⟨_, rfl, a, _, _, _, rfl, rfl, hA, at0 _ _, _, rfl, b, _, _, _, rfl, rfl, hB, at0 _ _, _, _, rfl, rfl, s0.mul s2, ?_⟩
    refine ⟨_, rfl, a, _, _, _, rfl, rfl, hA, at1 _ _, _, rfl, b, _, _, _, rfl, rfl, hB, at1 _ _, _, _, rfl, rfl, s1.mul s3, ?_⟩
    exact ⟨_, _, rfl, mulNe n1 n2, w1280 (s1.lt s3), q⟩
def spLess (K : PySem.W.Frag) : Sp := fun vs H Q _ => ∃ a0 a1 b0 b1 : Int, Two K H vs a0 a1 b0 b1 ∧ Q (.bl (decide (a0 * b1 < b0 * a1))) H
theorem ok_less {f : Addr} {fd : FuncData} (F : Fun K "less" "less" sLess f fd) : FnOk P w K mg base CX0 1 f fd ["a", "b"] (spLess K) := by
  refine F.ok scLess (fun vs H Q E h => ?_) (fun cdv A outer s H vs Q E hr h => ?_)
  · obtain ⟨_, _, _, _, ⟨a, b, rfl, _⟩, _⟩ := h
    rfl
  · obtain ⟨a0, a1, b0, b1, ⟨a, b, rfl, hA, hB, ⟨s0, s1, s2, s3⟩, n1, n2⟩, q⟩ := h
    refine ⟨_, pss_one (ps_ret (pe_cmpR op_lt (pe_op op_mulW (pe_ix ix_tup (pv 0) pe_int (fun _ _ => rfl)) (pe_ix ix_tup (pv 1) pe_int (fun _ _ => rfl))) (pe_op op_mulW (pe_ix ix_tup (pv 1) pe_int (fun _ _ => rfl)) (pe_ix ix_tup (pv 0) pe_int (fun _ _ => rfl))) (nomark _))), ?_⟩
    refine ⟨_, rfl, a, _, _, _, rfl, rfl, hA, at0 _ _, _, rfl, b, _, _, _, rfl, rfl, hB, at1 _ _, _, _, rfl, rfl, s0.mul s3, ?_⟩
    refine ⟨_, rfl, b, _, _, _, rfl, rfl, hB, at0 _ _, _, rfl, a, _, _, _, rfl, rfl, hA, at1 _ _, _, _, rfl, rfl, s2.mul s1, ?_⟩
    exact ⟨_, _, rfl, rfl, q⟩
end
end DK
namespace DK
open PySem PySem.Spec PyProof.Rows L2
theorem scLow : FnScope ["_law_top", "_law_bottom", "_law_one", "_law_other"] ["_law_top", "_law_bottom"] (defScope sLow) := ⟨rfl, rfl, rfl, by decide +kernel, rfl, by decide +kernel, by decide +kernel⟩
theorem scAdd : FnScope ["_law_a", "_law_b"] ["_law_a", "_law_b"] (defScope sAdd) := ⟨rfl, rfl, rfl, by decide +kernel, rfl, by decide +kernel, by decide +kernel⟩
theorem scMul : FnScope ["_law_a", "_law_b"] ["_law_a", "_law_b"] (defScope sMul) := ⟨rfl, rfl, rfl, by decide +kernel, rfl, by decide +kernel, by decide +kernel⟩
theorem scLLess : FnScope ["_law_a", "_law_b"] ["_law_a", "_law_b"] (defScope sLLess) := ⟨rfl, rfl, rfl, by decide +kernel, rfl, by decide +kernel, by decide +kernel⟩
theorem scBig : FnScope ["_law_d", "_law_many", "_law_found"] ["_law_d"] (defScope sBig) := ⟨rfl, rfl, rfl, by decide +kernel, rfl, by decide +kernel, by decide +kernel⟩
section
variable {P : Program} {w : World} {K : PySem.W.Frag} {mg : Str → Option Value} {base : Heap}
/-! ### _law_low -/
theorem ok_low {f : Addr} {fd : FuncData} (F : Fun K "_law_low" "_law_low" sLow f fd) (mA : mg "abs" = none) : FnOk P w K mg base CX0 1 f fd ["_law_top", "_law_bottom"] spPart := by
  refine F.ok scLow (fun vs H Q E h => ?_) (fun cdv A outer s H vs Q E hr h => ?_)
  · obtain ⟨a, b, rfl, _⟩ := h
    rfl
  · obtain ⟨t, b, rfl, hb, hz, q⟩ := h
    refine ⟨_, pss_cons (ps_par (i := 2) (j := 3) (by rfl) scLow.nd rfl rfl (by decide) rfl rfl (pa_cons (pe_callB call_abs (by rfl) mA (by decide +kernel) (pa_cons (pv 0) pa_nil)) (pa_cons (pe_callB call_abs (by rfl) mA (by decide +kernel) (pa_cons (pv 1) pa_nil)) pa_nil)) (by rfl))
      (pss_cons (ps_while PassesOwn.never (pt_cmpR op_gt (pv 3) pe_int (nomark _))
        (pss_one (ps_par (i := 2) (j := 3) (by rfl) scLow.nd rfl rfl (by decide) rfl rfl (pa_cons (pv 3) (pa_cons (pe_op op_mod (pv 2) (pv 3)) pa_nil)) (by rfl))))
      (pss_cons (ps_if (pt_cmpR op_lt (pv 1) pe_int (nomark _)) (pss_one (ps_set (i := 2) scLow.nd rfl (.inl rfl) (pe_op op_sub pe_int (pv 2)))) pss_nil)
      (pss_one (ps_ret (pe_tup (pa_cons (pe_op op_fdivS (pv 0) (pv 2)) (pa_cons (pe_op op_fdivS (pv 1) (pv 2)) pa_nil))))))), ?_⟩
    refine ⟨_, rfl, t, rfl, _, rfl, b, rfl, _, _, rfl, ?_⟩
    refine ⟨fun m σ H1 => ∃ x y : Int, σ = [some (.int t), some (.int b), some (.int x), some (.int y)] ∧ H1 = H ∧ m = y.toNat ∧ 0 ≤ x ∧ 0 ≤ y ∧ Int.gcd x y = Int.gcd t b,
      ⟨_, _, _, rfl, rfl, rfl, ?_, ?_, gcd_abs t b⟩, fun m σ H1 hW => ?_⟩
    · split <;> omega
    · split <;> omega
    · obtain ⟨x, y, rfl, rfl, rfl, hx, hy, hg⟩ := hW
      refine ⟨.int y, rfl, _, _, rfl, rfl, _, rfl, ite2 (fun e => ?_) (fun e => ?_)⟩
      · have hy : 0 < y := of_decide_eq_true e
        refine ⟨fun σ' H' => σ' = [some (.int t), some (.int b), some (.int y), some (.int (x % y))] ∧ H' = H1, fun σ' H' hN => ?_, ?_⟩
        · obtain ⟨rfl, rfl⟩ := hN
          have h1 := Int.emod_nonneg x (show y ≠ 0 by omega)
          have h2 := Int.emod_lt_of_pos x hy
          exact ⟨_, by omega, _, _, rfl, rfl, rfl, by omega, h1, by rw [emod_gcd, hg]⟩
        · exact ⟨_, rfl, _, rfl, _, rfl, _, _, rfl, rfl, hy, _, _, rfl, rfl, rfl⟩
      · have hy0 : y = 0 := by
          have : ¬ 0 < y := fun z => e (decide_eq_true z)
          omega
        subst hy0
        have ex : x = ((Int.gcd t b : Nat) : Int) := by
          rw [← hg, Int.gcd_zero_right]
          omega
        subst ex
        have hd := sg_div (t := t) hb hz
        refine ⟨_, rfl, _, _, rfl, rfl, _, rfl, ite2 (fun e => ?_) (fun e => ?_)⟩
        · have hb0 : b < 0 := of_decide_eq_true e
          have es : 0 - ((Int.gcd t b : Nat) : Int) = sg t b := by
            unfold sg
            rw [if_pos hb0]
            omega
          obtain ⟨d1, d2⟩ : 0 - ((Int.gcd t b : Nat) : Int) ≠ 0 ∧ (0 - ((Int.gcd t b : Nat) : Int)).natAbs.log2 < 9000 := by
            rw [es]
            exact hd
          have q' : ∀ p, H1 p = none → Q (.ref p) (upd H1 p (.tup [.int (t.fdiv (0 - ((Int.gcd t b : Nat) : Int))), .int (b.fdiv (0 - ((Int.gcd t b : Nat) : Int)))])) := by
            rw [es]
            exact q
          exact ⟨_, rfl, _, _, rfl, rfl, _, rfl, _, rfl, _, _, rfl, rfl, ⟨d1, d2⟩, _, rfl, _, rfl, _, _, rfl, rfl, ⟨d1, d2⟩, by show 2 ≤ sizeLine; decide, q'⟩
        · have hb0 : ¬ b < 0 := fun z => e (decide_eq_true z)
          have es : ((Int.gcd t b : Nat) : Int) = sg t b := by
            unfold sg
            rw [if_neg hb0]
          obtain ⟨d1, d2⟩ : ((Int.gcd t b : Nat) : Int) ≠ 0 ∧ (((Int.gcd t b : Nat) : Int)).natAbs.log2 < 9000 := by
            rw [es]
            exact hd
          have q' : ∀ p, H1 p = none → Q (.ref p) (upd H1 p (.tup [.int (t.fdiv ((Int.gcd t b : Nat) : Int)), .int (b.fdiv ((Int.gcd t b : Nat) : Int))])) := by
            rw [es]
            exact q
          exact ⟨_, rfl, _, rfl, _, _, rfl, rfl, ⟨d1, d2⟩, _, rfl, _, rfl, _, _, rfl, rfl, ⟨d1, d2⟩, by show 2 ≤ sizeLine; decide, q'⟩
/-! ### _law_add, _law_mul, _law_less -/
theorem ok_add {f fP : Addr} {fd fdP : FuncData} (F : Fun K "_law_add" "_law_add" sAdd f fd) (FP : Fun K "_law_low" "_law_low" sLow fP fdP) (bP : Binds K fdP ["_law_top", "_law_bottom"] []) (gP : mg "_law_low" = some (.ref fP)) (GP : FnOk P w K mg base CX0 1 fP fdP ["_law_top", "_law_bottom"] spPart) :
    FnOk P w K mg base CX0 2 f fd ["_law_a", "_law_b"] (spTwo K (fun a0 a1 b0 b1 => a0 * b1 + b0 * a1) (fun a0 a1 b0 b1 => a1 * b1)) := by
  refine F.ok scAdd (fun vs H Q E h => ?_) (fun cdv A outer s H vs Q E hr h => ?_)
  · obtain ⟨_, _, _, _, ⟨a, b, rfl, _⟩, _⟩ := h
    rfl
  · obtain ⟨a0, a1, b0, b1, ⟨a, b, rfl, hA, hB, ⟨s0, s1, s2, s3⟩, n1, n2⟩, q⟩ := h
    refine ⟨_, pss_one (ps_ret (pe_call GP hr (by rfl) gP FP.kp bP .nil pass0
      (pa_cons (pe_op op_add (pe_op op_mulW (pe_ix ix_tup (pv 0) pe_int (fun _ _ => rfl)) (pe_ix ix_tup (pv 1) pe_int (fun _ _ => rfl))) (pe_op op_mulW (pe_ix ix_tup (pv 1) pe_int (fun _ _ => rfl)) (pe_ix ix_tup (pv 0) pe_int (fun _ _ => rfl))))
      (pa_cons (pe_op op_mulW (pe_ix ix_tup (pv 0) pe_int (fun _ _ => rfl)) (pe_ix ix_tup (pv 1) pe_int (fun _ _ => rfl))) pa_nil)))), ?_⟩
    refine ⟨_, rfl, a, _, _, _, rfl, rfl, hA, at0 _ _, _, rfl, b, _, _, _, rfl, rfl, hB, at1 _ _, _, _, rfl, rfl, s0.mul s3, ?_⟩
    refine ⟨_, rfl, b, _, _, _, rfl, rfl, hB, at0 _ _, _, rfl, a, _, _, _, rfl, rfl, hA, at1 _ _, _, _, rfl, rfl, s2.mul s1, _, _, rfl, rfl, ?_⟩
    refine ⟨_, rfl, a, _, _, _, rfl, rfl, hA, at1 _ _, _, rfl, b, _, _, _, rfl, rfl, hB, at1 _ _, _, _, rfl, rfl, s1.mul s3, ?_⟩
    exact ⟨_, _, rfl, mulNe n1 n2, w1280 (s1.lt s3), q⟩
theorem ok_mul {f fP : Addr} {fd fdP : FuncData} (F : Fun K "_law_mul" "_law_mul" sMul f fd) (FP : Fun K "_law_low" "_law_low" sLow fP fdP) (bP : Binds K fdP ["_law_top", "_law_bottom"] []) (gP : mg "_law_low" = some (.ref fP)) (GP : FnOk P w K mg base CX0 1 fP fdP ["_law_top", "_law_bottom"] spPart) :
    FnOk P w K mg base CX0 2 f fd ["_law_a", "_law_b"] (spTwo K (fun a0 a1 b0 b1 => a0 * b0) (fun a0 a1 b0 b1 => a1 * b1)) := by
  refine F.ok scMul (fun vs H Q E h => ?_) (fun cdv A outer s H vs Q E hr h => ?_)
  · obtain ⟨_, _, _, _, ⟨a, b, rfl, _⟩, _⟩ := h
    rfl
  · obtain ⟨a0, a1, b0, b1, ⟨a, b, rfl, hA, hB, ⟨s0, s1, s2, s3⟩, n1, n2⟩, q⟩ := h
    refine ⟨_, pss_one (ps_ret (pe_call GP hr (by rfl) gP FP.kp bP .nil pass0
      (pa_cons (pe_op op_mulW (pe_ix ix_tup (pv 0) pe_int (fun _ _ => rfl)) (pe_ix ix_tup (pv 1) pe_int (fun _ _ => rfl)))
      (pa_cons (pe_op op_mulW (pe_ix ix_tup (pv 0) pe_int (fun _ _ => rfl)) (pe_ix ix_tup (pv 1) pe_int (fun _ _ => rfl))) pa_nil)))), ?_⟩
    refine ⟨_, rfl, a, _, _, _, rfl, rfl, hA, at0 _ _, _, rfl, b, _, _, _, rfl, rfl, hB, at0 _ _, _, _, rfl, rfl, s0.mul s2, ?_⟩
    refine ⟨_, rfl, a, _, _, _, rfl, rfl, hA, at1 _ _, _, rfl, b, _, _, _, rfl, rfl, hB, at1 _ _, _, _, rfl, rfl, s1.mul s3, ?_⟩
    exact ⟨_, _, rfl, mulNe n1 n2, w1280 (s1.lt s3), q⟩
theorem ok_lless {f : Addr} {fd : FuncData} (F : Fun K "_law_less" "_law_less" sLLess f fd) : FnOk P w K mg base CX0 1 f fd ["_law_a", "_law_b"] (spLess K) := by
  refine F.ok scLLess (fun vs H Q E h => ?_) (fun cdv A outer s H vs Q E hr h => ?_)
  · obtain ⟨_, _, _, _, ⟨a, b, rfl, _⟩, _⟩ := h
    rfl
  · obtain ⟨a0, a1, b0, b1, ⟨a, b, rfl, hA, hB, ⟨s0, s1, s2, s3⟩, n1, n2⟩, q⟩ := h
    refine ⟨_, pss_one (ps_ret (pe_cmpR op_lt (pe_op op_mulW (pe_ix ix_tup (pv 0) pe_int (fun _ _ => rfl)) (pe_ix ix_tup (pv 1) pe_int (fun _ _ => rfl))) (pe_op op_mulW (pe_ix ix_tup (pv 1) pe_int (fun _ _ => rfl)) (pe_ix ix_tup (pv 0) pe_int (fun _ _ => rfl))) (nomark _))), ?_⟩
    refine ⟨_, rfl, a, _, _, _, rfl, rfl, hA, at0 _ _, _, rfl, b, _, _, _, rfl, rfl, hB, at1 _ _, _, _, rfl, rfl, s0.mul s3, ?_⟩
    refine ⟨_, rfl, b, _, _, _, rfl, rfl, hB, at0 _ _, _, rfl, a, _, _, _, rfl, rfl, hA, at1 _ _, _, _, rfl, rfl, s2.mul s1, ?_⟩
    exact ⟨_, _, rfl, rfl, q⟩
/-! ### _law_big -/
def manyV : List V := [.int 1, .int 1009, .int (10 ^ (9 : Int).toNat), .int (10 ^ (60 : Int).toNat * 10 ^ (60 : Int).toNat * 10 ^ (60 : Int).toNat)]
theorem many_at (x : Int) : ∃ m : Int, atI manyV (x % 4) = some (.int m) ∧ 0 < m ∧ m ≤ 10 ^ 180 := by
  have h1 := Int.emod_nonneg x (show (4 : Int) ≠ 0 by decide)
  have h2 := Int.emod_lt_of_pos x (show (0 : Int) < 4 by decide)
  have h : x % 4 = 0 ∨ x % 4 = 1 ∨ x % 4 = 2 ∨ x % 4 = 3 := by omega
  rcases h with e | e | e | e <;> rw [e]
  · exact ⟨1, atI_nat (j := 0) rfl, by decide, by decide +kernel⟩
  · exact ⟨1009, atI_nat (j := 1) rfl, by decide, by decide +kernel⟩
  · exact ⟨_, atI_nat (j := 2) rfl, by decide +kernel, by decide +kernel⟩
  · exact ⟨_, atI_nat (j := 3) rfl, by decide +kernel, by decide +kernel⟩
theorem big_sm {x1 x2 x3 m : Int} (h0 : 0 < m) (h1 : m ≤ 10 ^ 180) : Sm (x1 % 29 * m + x2 % m + x3 % 7 * (m / 3)) := by
  have a1 := Int.emod_nonneg x1 (show (29 : Int) ≠ 0 by decide)
  have a2 := Int.emod_lt_of_pos x1 (show (0 : Int) < 29 by decide)
  have b1 := Int.emod_nonneg x2 (show m ≠ 0 by omega)
  have b2 := Int.emod_lt_of_pos x2 h0
  have c1 := Int.emod_nonneg x3 (show (7 : Int) ≠ 0 by decide)
  have c2 := Int.emod_lt_of_pos x3 (show (0 : Int) < 7 by decide)
  have d1 : 0 ≤ m / 3 := by omega
  have d2 : m / 3 ≤ m := by omega
  have e1 : 0 ≤ x1 % 29 * m := Int.mul_nonneg a1 (by omega)
  have e2 : x1 % 29 * m ≤ 28 * m := Int.mul_le_mul_of_nonneg_right (by omega) (by omega)
  have f1 : 0 ≤ x3 % 7 * (m / 3) := Int.mul_nonneg c1 d1
  have f2 : x3 % 7 * (m / 3) ≤ 6 * (m / 3) := Int.mul_le_mul_of_nonneg_right (by omega) d1
  have g : (40 : Int) * 10 ^ 180 < 2 ^ 640 := by decide +kernel
  unfold Sm
  have k : (x1 % 29 * m + x2 % m + x3 % 7 * (m / 3)).natAbs < (2 ^ 640 : Int).natAbs := by
    generalize (2 : Int) ^ 640 = B at g ⊢
    generalize (10 : Int) ^ 180 = C at g h1
    omega
  exact Nat.lt_of_lt_of_le k (by decide +kernel)
def spBig (K : PySem.W.Frag) : Sp := fun vs H Q _ => ∃ (a : Addr) (ds : List Int), vs = [.ref a] ∧ SqL K H a (ds.map V.int) ∧ 4 ≤ ds.length ∧ ∀ H' r, Same H H' → Sm r → Q (.int r) H'
theorem atD {ds : List Int} {j : Nat} (h : j < ds.length) : atI (ds.map V.int) (j : Int) = some (.int ds[j]) := atI_nat (by
  rw [List.getElem?_map, List.getElem?_eq_getElem h]
  rfl)
theorem c64 {x n : Int} (hn : 0 < n) (h : n < 1000) : -(2 ^ 64) < x % n ∧ x % n < 2 ^ 64 := by
  have a1 := Int.emod_nonneg x (show n ≠ 0 by omega)
  have a2 := Int.emod_lt_of_pos x hn
  omega
theorem ok_big {f : Addr} {fd : FuncData} (F : Fun K "_law_big" "_law_big" sBig f fd) : FnOk P w K mg base CX0 1 f fd ["_law_d"] (spBig K) := by
  refine F.ok scBig (fun vs H Q E h => ?_) (fun cdv A outer s H vs Q E hr h => ?_)
  · obtain ⟨_, _, rfl, _⟩ := h
    rfl
  · obtain ⟨a, ds, rfl, hA, hl, q⟩ := h
    refine ⟨_, pss_cons (ps_set (i := 1) scBig.nd rfl (.inl rfl) (pe_ix ix_list (pe_lst (pa_cons pe_int (pa_cons pe_int (pa_cons (pe_op op_pow pe_int pe_int) (pa_cons (pe_op op_mulW (pe_op op_mulW (pe_op op_pow pe_int pe_int) (pe_op op_pow pe_int pe_int)) (pe_op op_pow pe_int pe_int)) pa_nil)))))
        (pe_op op_mod (pe_ix ix_list (pv 0) pe_int (fun _ _ => rfl)) pe_int) (fun _ _ => rfl)))
      (pss_cons (ps_set (i := 2) scBig.nd rfl (.inl rfl) (pe_op op_add (pe_op op_add
          (pe_op op_mul (pe_op op_mod (pe_ix ix_list (pv 0) pe_int (fun _ _ => rfl)) pe_int) (pv 1))
          (pe_op op_mod (pe_ix ix_list (pv 0) pe_int (fun _ _ => rfl)) (pv 1)))
          (pe_op op_mul (pe_op op_mod (pe_ix ix_list (pv 0) pe_int (fun _ _ => rfl)) pe_int) (pe_op op_fdiv (pv 1) pe_int))))
      (pss_cons (ps_if (pt_cmpR op_eq (pe_op op_mod (pe_ix ix_list (pv 0) pe_int (fun _ _ => rfl)) pe_int) pe_int (nomark _)) (pss_one (ps_ret (pe_op op_sub pe_int (pv 2)))) pss_nil)
      (pss_one (ps_ret (pv 2))))), ?_⟩
    have w60 : ((10 : Int) ^ (60 : Int).toNat).natAbs < 2 ^ 200 := by decide +kernel
    have w120 : ((10 : Int) ^ (60 : Int).toNat * 10 ^ (60 : Int).toNat).natAbs < 2 ^ 400 := by decide +kernel
    obtain ⟨m, em, m0, m1⟩ := many_at ds[0]
    refine ⟨_, _, rfl, rfl, ⟨by decide, by decide, by decide⟩, ?_⟩
    refine ⟨_, _, rfl, rfl, ⟨by decide, by decide, by decide⟩, _, _, rfl, rfl, ⟨by decide, by decide, by decide⟩, _, _, rfl, rfl, wide_mul w60 w60 (by decide) (by decide) (by decide), ?_⟩
    refine ⟨_, _, rfl, rfl, ⟨by decide, by decide, by decide⟩, _, _, rfl, rfl, wide_mul w120 w60 (by decide) (by decide) (by decide), ?_⟩
    refine ⟨by show 4 ≤ sizeLine; decide, fun o no => ?_⟩
    have s1 : Same H (upd H o (.lst manyV)) := same_upd no
    have hA1 : SqL K (upd H o (.lst manyV)) a (ds.map V.int) := s1.seq hA
    refine ⟨_, rfl, a, _, _, _, rfl, rfl, hA1, atD (j := 0) (by omega), _, _, rfl, rfl, by show (0 : Int) < 4; decide, ?_⟩
    refine ⟨o, manyV, _, _, rfl, rfl, SqL.of upd_same, em, ?_⟩
    refine ⟨_, rfl, a, _, _, _, rfl, rfl, hA1, atD (j := 1) (by omega), _, _, rfl, rfl, by show (0 : Int) < 29; decide, ?_⟩
    refine ⟨_, rfl, _, _, rfl, rfl, .inl (c64 (by decide) (by decide)), ?_⟩
    refine ⟨_, rfl, a, _, _, _, rfl, rfl, hA1, atD (j := 2) (by omega), _, rfl, _, _, rfl, rfl, m0, _, _, rfl, rfl, ?_⟩
    refine ⟨_, rfl, a, _, _, _, rfl, rfl, hA1, atD (j := 3) (by omega), _, _, rfl, rfl, by show (0 : Int) < 7; decide, ?_⟩
    refine ⟨_, rfl, _, _, rfl, rfl, ⟨by decide, by decide⟩, _, _, rfl, rfl, .inl (c64 (by decide) (by decide)), _, _, rfl, rfl, ?_⟩
    have sm := big_sm (x1 := ds[1]) (x2 := ds[2]) (x3 := ds[3]) m0 m1
    refine ⟨_, rfl, a, _, _, _, rfl, rfl, hA1, atD (j := 3) (by omega), _, _, rfl, rfl, by show (0 : Int) < 3; decide, rfl, _, rfl, ite2 (fun e => ?_) (fun e => ?_)⟩
    · refine ⟨_, rfl, _, _, rfl, rfl, q _ _ s1 (sm.le ?_)⟩
      omega
    · exact ⟨_, rfl, q _ _ s1 sm⟩
end
end DK
namespace DK
open PySem PySem.Spec PyProof.Rows L2
theorem scSame : FnScope ["_law_found", "_law_due", "_law_one", "_law_other"] ["_law_found", "_law_due"] (defScope sSame) := ⟨rfl, rfl, rfl, by decide +kernel, rfl, by decide +kernel, by decide +kernel⟩
/-! ### _law_same: two values that tell the same -/
inductive Eqv (H : Hp) : Nat → V → V → Prop
  | non {n : Nat} : Eqv H n .non .non
  | bl {n : Nat} (b : Bool) : Eqv H n (.bl b) (.bl b)
  | int {n : Nat} (i : Int) : Eqv H n (.int i) (.int i)
  | str {n : Nat} (z : Str) : Eqv H n (.str z) (.str z)
  | tup {n : Nat} {a b : Addr} {xs ys : List V} (ha : H a = some (.tup xs)) (hb : H b = some (.tup ys)) (hl : xs.length = ys.length) (hz : xs.length ≤ 1000)
      (he : ∀ (i : Nat) (x y : V), xs[i]? = some x → ys[i]? = some y → Eqv H n x y) : Eqv H (n + 1) (.ref a) (.ref b)
  | lst {n : Nat} {a b : Addr} {xs ys : List V} (ha : H a = some (.lst xs)) (hb : H b = some (.lst ys)) (hl : xs.length = ys.length) (hz : xs.length ≤ 1000)
      (he : ∀ (i : Nat) (x y : V), xs[i]? = some x → ys[i]? = some y → Eqv H n x y) : Eqv H (n + 1) (.ref a) (.ref b)
theorem Eqv.keep {H H' : Hp} (s : Same H H') {n : Nat} {x y : V} (e : Eqv H n x y) : Eqv H' n x y := by
  induction e with
  | non => exact .non
  | bl b => exact .bl b
  | int i => exact .int i
  | str z => exact .str z
  | tup ha hb hl hz _ ih => exact .tup (s _ _ ha) (s _ _ hb) hl hz ih
  | lst ha hb hl hz _ ih => exact .lst (s _ _ ha) (s _ _ hb) hl hz ih
def spSame (n : Nat) : Sp := fun vs H Q _ => ∃ x y : V, vs = [x, y] ∧ Eqv H n x y ∧ ∀ H', Same H H' → Q (.bl true) H'
theorem walk_zipT {K : PySem.W.Frag} {a b : Addr} {xs ys : List V} {n : Nat} (hn : n = min xs.length ys.length) : Walk (RZ.ItzT K a b) n (fun H => SqT K H a xs ∧ SqT K H b ys) (YPair (fun i => xs[i]?) (fun i => ys[i]?)) := by
  subst hn
  refine ⟨fun i _ hi q => ?_, fun _ q => ⟨xs, ys, q.1, q.2, by omega⟩, fun i H v H' _ q y => ?_⟩
  · have h1 : i < xs.length := by omega
    have h2 : i < ys.length := by omega
    exact ⟨xs, ys, xs[i], ys[i], q.1, q.2, by simp [h1], by simp [h2]⟩
  · obtain ⟨T, x, z, h1, h2, h3, h4, h5⟩ := y
    exact ⟨T, x, z, h1, h2, h3, h4 xs q.1, h5 ys q.2⟩
theorem yes {σ : L2.St} {H : Hp} {Q : Bool → Hp → Prop} (h : Q true H) : tYes σ H Q := h
theorem all_true (n : Nat) : (List.replicate n true).all id = true := by
  induction n with
  | zero => rfl
  | succ n ih =>
    rw [List.replicate_succ, List.all_cons, ih]
    rfl
theorem rep_bl (n : Nat) : List.replicate n (V.bl true) = (List.replicate n true).map V.bl := by
  rw [List.map_replicate]
section
variable {P : Program} {w : World} {K : PySem.W.Frag} {mg : Str → Option Value} {base : Heap}
/-- the names that the def reads of the built-in ones -/
structure SameTxt (mg : Str → Option Value) : Prop where
  isi : mg "isinstance" = none
  bo : mg "bool" = none
  li : mg "list" = none
  tu : mg "tuple" = none
  le : mg "len" = none
  al : mg "all" = none
  zi : mg "zip" = none
  st : mg "str" = none
  it : mg "int" = none
theorem ok_same {f : Addr} {fd : FuncData} (F : Fun K "_law_same" "_law_same" sSame f fd) (bS : Binds K fd ["_law_found", "_law_due"] []) (gS : mg "_law_same" = some (.ref f)) (T : SameTxt mg) : ∀ n : Nat, FnOk P w K mg base CX0 (n + 1) f fd ["_law_found", "_law_due"] (spSame n)
  | 0 => by
    refine F.ok scSame (fun vs H Q E h => ?_) (fun cdv A outer s H vs Q E hr h => ?_)
    · obtain ⟨x, y, rfl, _⟩ := h
      rfl
    · obtain ⟨x, y, rfl, he, q⟩ := h
      have q0 := q H (Same.refl H)
      refine ⟨_, pss_cons (ps_if (pt_cmpR op_isN (pv 1) pe_non (nomark _)) (pss_one (ps_ret (pe_cmpR op_isN (pv 0) pe_non (nomark _)))) pss_nil)
        (pss_cons (ps_if (pt_val (pe_callB call_isi (by rfl) T.isi (by decide +kernel) (pa_cons (pv 1) (pa_cons (pe_bltn (v := .ty "bool") (by rfl) T.bo (by decide +kernel) rfl) pa_nil))))
          (pss_one (ps_ret (pe_and (pe_callB call_isi (by rfl) T.isi (by decide +kernel) (pa_cons (pv 0) (pa_cons (pe_bltn (v := .ty "bool") (by rfl) T.bo (by decide +kernel) rfl) pa_nil))) (pe_one (pe_cmpR op_eq (pv 0) (pv 1) (nomark _)))))) pss_nil)
        (pss_cons (ps_if (PW.pt (pw_or (pt_val (pe_callB call_isi (by rfl) T.isi (by decide +kernel) (pa_cons (pv 1) (pa_cons (pe_bltn (v := .ty "list") (by rfl) T.li (by decide +kernel) rfl) pa_nil))))
            (pw_or1 (pt_val (pe_callB call_isi (by rfl) T.isi (by decide +kernel) (pa_cons (pv 1) (pa_cons (pe_bltn (v := .ty "tuple") (by rfl) T.tu (by decide +kernel) rfl) pa_nil)))))))
          pss_never pss_nil)
        (pss_cons (ps_if (pt_val (pe_callB call_isi (by rfl) T.isi (by decide +kernel) (pa_cons (pv 1) (pa_cons (pe_bltn (v := .ty "str") (by rfl) T.st (by decide +kernel) rfl) pa_nil))))
          (pss_one (ps_ret (pe_and (pe_callB call_isi (by rfl) T.isi (by decide +kernel) (pa_cons (pv 0) (pa_cons (pe_bltn (v := .ty "str") (by rfl) T.st (by decide +kernel) rfl) pa_nil))) (pe_one (pe_cmpR op_eq (pv 0) (pv 1) (nomark _)))))) pss_nil)
        (pss_one (ps_ret (pe_and (pe_callB call_isi (by rfl) T.isi (by decide +kernel) (pa_cons (pv 0) (pa_cons (pe_bltn (v := .ty "int") (by rfl) T.it (by decide +kernel) rfl) pa_nil)))
          (pe_and (pe_not (pe_callB call_isi (by rfl) T.isi (by decide +kernel) (pa_cons (pv 0) (pa_cons (pe_bltn (v := .ty "bool") (by rfl) T.bo (by decide +kernel) rfl) pa_nil)))) (pe_one (pe_cmpR op_eq (pv 0) (pv 1) (nomark _)))))))))), ?_⟩
      cases he with
      | non => exact ⟨_, rfl, rfl, _, rfl, iteT ⟨_, rfl, rfl, q0⟩⟩
      | bl b =>
        refine ⟨_, rfl, rfl, _, rfl, iteF ?_⟩
        refine ⟨_, rfl, _, _, _, _, true, rfl, .ty _, .base (.bl b), kit_ty (by decide +kernel), _, rfl, iteT ?_⟩
        refine ⟨_, rfl, _, _, _, _, true, rfl, .ty _, .base (.bl b), kit_ty (by decide +kernel), _, rfl, iteT ?_⟩
        refine ⟨_, rfl, _, rfl, ?_, ?_⟩
        · simp [scal]
        · rw [decide_eq_true rfl]
          exact q0
      | int i =>
        refine ⟨_, rfl, rfl, _, rfl, iteF ?_⟩
        refine ⟨_, rfl, _, _, _, _, false, rfl, .ty _, .base (.int i), kit_ty (by decide +kernel), _, rfl, iteF ?_⟩
        refine ⟨_, rfl, _, _, _, _, false, rfl, .ty _, .base (.int i), kit_ty (by decide +kernel), _, rfl, iteF ?_⟩
        refine ⟨_, rfl, _, _, _, _, false, rfl, .ty _, .base (.int i), kit_ty (by decide +kernel), _, rfl, iteF ?_⟩
        refine ⟨_, rfl, _, _, _, _, false, rfl, .ty _, .base (.int i), kit_ty (by decide +kernel), _, rfl, iteF ?_⟩
        refine ⟨_, rfl, _, _, _, _, true, rfl, .ty _, .base (.int i), kit_ty (by decide +kernel), _, rfl, iteT ?_⟩
        refine ⟨_, rfl, _, _, _, _, false, rfl, .ty _, .base (.int i), kit_ty (by decide +kernel), _, rfl, _, rfl, iteT ?_⟩
        refine ⟨_, rfl, _, rfl, ?_, ?_⟩
        · simp [scal]
        · rw [decide_eq_true rfl]
          exact q0
      | str z =>
        refine ⟨_, rfl, rfl, _, rfl, iteF ?_⟩
        refine ⟨_, rfl, _, _, _, _, false, rfl, .ty _, .base (.str z), kit_ty (by decide +kernel), _, rfl, iteF ?_⟩
        refine ⟨_, rfl, _, _, _, _, false, rfl, .ty _, .base (.str z), kit_ty (by decide +kernel), _, rfl, iteF ?_⟩
        refine ⟨_, rfl, _, _, _, _, false, rfl, .ty _, .base (.str z), kit_ty (by decide +kernel), _, rfl, iteF ?_⟩
        refine ⟨_, rfl, _, _, _, _, true, rfl, .ty _, .base (.str z), kit_ty (by decide +kernel), _, rfl, iteT ?_⟩
        refine ⟨_, rfl, _, _, _, _, true, rfl, .ty _, .base (.str z), kit_ty (by decide +kernel), _, rfl, iteT ?_⟩
        refine ⟨_, rfl, _, rfl, ?_, ?_⟩
        · simp [scal]
        · rw [decide_eq_true rfl]
          exact q0
  | n + 1 => by
    have G : FnOk P w K mg base CX0 (n + 1) f fd ["_law_found", "_law_due"] (spSame n) := ok_same F bS gS T n
    refine F.ok scSame (fun vs H Q E h => ?_) (fun cdv A outer s H vs Q E hr h => ?_)
    · obtain ⟨x, y, rfl, _⟩ := h
      rfl
    · obtain ⟨x, y, rfl, he, q⟩ := h
      have q0 := q H (Same.refl H)
      refine ⟨_, pss_cons (ps_if (pt_cmpR op_isN (pv 1) pe_non (nomark _)) (pss_one (ps_ret (pe_cmpR op_isN (pv 0) pe_non (nomark _)))) pss_nil)
        (pss_cons (ps_if (pt_val (pe_callB call_isi (by rfl) T.isi (by decide +kernel) (pa_cons (pv 1) (pa_cons (pe_bltn (v := .ty "bool") (by rfl) T.bo (by decide +kernel) rfl) pa_nil))))
          (pss_one (ps_ret (pe_and (pe_callB call_isi (by rfl) T.isi (by decide +kernel) (pa_cons (pv 0) (pa_cons (pe_bltn (v := .ty "bool") (by rfl) T.bo (by decide +kernel) rfl) pa_nil))) (pe_one (pe_cmpR op_eq (pv 0) (pv 1) (nomark _)))))) pss_nil)
        (pss_cons (ps_if (PW.pt (pw_or (pt_val (pe_callB call_isi (by rfl) T.isi (by decide +kernel) (pa_cons (pv 1) (pa_cons (pe_bltn (v := .ty "list") (by rfl) T.li (by decide +kernel) rfl) pa_nil))))
            (pw_or1 (pt_val (pe_callB call_isi (by rfl) T.isi (by decide +kernel) (pa_cons (pv 1) (pa_cons (pe_bltn (v := .ty "tuple") (by rfl) T.tu (by decide +kernel) rfl) pa_nil)))))))
          (pss_cons (ps_if (PW.pt (pw_or (pt_cmpR op_ne (pe_callB call_isi (by rfl) T.isi (by decide +kernel) (pa_cons (pv 0) (pa_cons (pe_bltn (v := .ty "list") (by rfl) T.li (by decide +kernel) rfl) pa_nil))) (pe_callB call_isi (by rfl) T.isi (by decide +kernel) (pa_cons (pv 1) (pa_cons (pe_bltn (v := .ty "list") (by rfl) T.li (by decide +kernel) rfl) pa_nil))) (nomark _))
              (pw_or1 (pt_cmpR op_ne (pe_callB call_isi (by rfl) T.isi (by decide +kernel) (pa_cons (pv 0) (pa_cons (pe_bltn (v := .ty "tuple") (by rfl) T.tu (by decide +kernel) rfl) pa_nil))) (pe_callB call_isi (by rfl) T.isi (by decide +kernel) (pa_cons (pv 1) (pa_cons (pe_bltn (v := .ty "tuple") (by rfl) T.tu (by decide +kernel) rfl) pa_nil))) (nomark _)))))
              (pss_one (ps_ret pe_bl)) pss_nil)
            (pss_one (ps_ret (pe_and (pe_cmpR op_eq (pe_callB call_len_seq (by rfl) T.le PySem.boot_len (pa_cons (pv 0) pa_nil)) (pe_callB call_len_seq (by rfl) T.le PySem.boot_len (pa_cons (pv 1) pa_nil)) (nomark _))
              (pe_one (pe_callB (cr_all rfl) (by rfl) T.al (by decide +kernel) (pa_cons
                (pe_lc (own := [("_law_one", 2), ("_law_other", 3)]) (g := gTup K 2 (gCons (gName 2) (gCons (gName 3) gNil))) (tt := tYes) (by rfl) scSame.nd (RZ.pi_zipA (by rfl) T.zi (pa_cons (pv 0) (pa_cons (pv 1) pa_nil)))
                  (blkOk_by (N := ["_law_found", "_law_due", "_law_one", "_law_other"]) (sc := defScope sSame) (by decide +kernel))
                  (fun _ _ _ _ _ => pg_tup rfl (pgs_cons (pg_name (i := 2) scSame.nd rfl (Or.inl rfl)) (pgs_cons (pg_name (i := 3) scSame.nd rfl (Or.inl rfl)) pgs_nil)))
                  (fun _ _ _ _ _ => pts_nil)
                  (fun _ _ _ _ _ => pe_call G hr (by rfl) gS F.kp bS .nil pass0 (pa_cons (pv 2) (pa_cons (pv 3) pa_nil))))
                pa_nil)))))))
          pss_nil)
        (pss_cons (ps_if (pt_val (pe_callB call_isi (by rfl) T.isi (by decide +kernel) (pa_cons (pv 1) (pa_cons (pe_bltn (v := .ty "str") (by rfl) T.st (by decide +kernel) rfl) pa_nil))))
          (pss_one (ps_ret (pe_and (pe_callB call_isi (by rfl) T.isi (by decide +kernel) (pa_cons (pv 0) (pa_cons (pe_bltn (v := .ty "str") (by rfl) T.st (by decide +kernel) rfl) pa_nil))) (pe_one (pe_cmpR op_eq (pv 0) (pv 1) (nomark _)))))) pss_nil)
        (pss_one (ps_ret (pe_and (pe_callB call_isi (by rfl) T.isi (by decide +kernel) (pa_cons (pv 0) (pa_cons (pe_bltn (v := .ty "int") (by rfl) T.it (by decide +kernel) rfl) pa_nil)))
          (pe_and (pe_not (pe_callB call_isi (by rfl) T.isi (by decide +kernel) (pa_cons (pv 0) (pa_cons (pe_bltn (v := .ty "bool") (by rfl) T.bo (by decide +kernel) rfl) pa_nil)))) (pe_one (pe_cmpR op_eq (pv 0) (pv 1) (nomark _)))))))))), ?_⟩
      cases he with
      | non => exact ⟨_, rfl, rfl, _, rfl, iteT ⟨_, rfl, rfl, q0⟩⟩
      | bl b =>
        refine ⟨_, rfl, rfl, _, rfl, iteF ?_⟩
        refine ⟨_, rfl, _, _, _, _, true, rfl, .ty _, .base (.bl b), kit_ty (by decide +kernel), _, rfl, iteT ?_⟩
        refine ⟨_, rfl, _, _, _, _, true, rfl, .ty _, .base (.bl b), kit_ty (by decide +kernel), _, rfl, iteT ?_⟩
        refine ⟨_, rfl, _, rfl, ?_, ?_⟩
        · simp [scal]
        · rw [decide_eq_true rfl]
          exact q0
      | int i =>
        refine ⟨_, rfl, rfl, _, rfl, iteF ?_⟩
        refine ⟨_, rfl, _, _, _, _, false, rfl, .ty _, .base (.int i), kit_ty (by decide +kernel), _, rfl, iteF ?_⟩
        refine ⟨_, rfl, _, _, _, _, false, rfl, .ty _, .base (.int i), kit_ty (by decide +kernel), _, rfl, iteF ?_⟩
        refine ⟨_, rfl, _, _, _, _, false, rfl, .ty _, .base (.int i), kit_ty (by decide +kernel), _, rfl, iteF ?_⟩
        refine ⟨_, rfl, _, _, _, _, false, rfl, .ty _, .base (.int i), kit_ty (by decide +kernel), _, rfl, iteF ?_⟩
        refine ⟨_, rfl, _, _, _, _, true, rfl, .ty _, .base (.int i), kit_ty (by decide +kernel), _, rfl, iteT ?_⟩
        refine ⟨_, rfl, _, _, _, _, false, rfl, .ty _, .base (.int i), kit_ty (by decide +kernel), _, rfl, _, rfl, iteT ?_⟩
        refine ⟨_, rfl, _, rfl, ?_, ?_⟩
        · simp [scal]
        · rw [decide_eq_true rfl]
          exact q0
      | str z =>
        refine ⟨_, rfl, rfl, _, rfl, iteF ?_⟩
        refine ⟨_, rfl, _, _, _, _, false, rfl, .ty _, .base (.str z), kit_ty (by decide +kernel), _, rfl, iteF ?_⟩
        refine ⟨_, rfl, _, _, _, _, false, rfl, .ty _, .base (.str z), kit_ty (by decide +kernel), _, rfl, iteF ?_⟩
        refine ⟨_, rfl, _, _, _, _, false, rfl, .ty _, .base (.str z), kit_ty (by decide +kernel), _, rfl, iteF ?_⟩
        refine ⟨_, rfl, _, _, _, _, true, rfl, .ty _, .base (.str z), kit_ty (by decide +kernel), _, rfl, iteT ?_⟩
        refine ⟨_, rfl, _, _, _, _, true, rfl, .ty _, .base (.str z), kit_ty (by decide +kernel), _, rfl, iteT ?_⟩
        refine ⟨_, rfl, _, rfl, ?_, ?_⟩
        · simp [scal]
        · rw [decide_eq_true rfl]
          exact q0
      | @tup _ a b xs ys ha hb hl hz he =>
        refine ⟨_, rfl, rfl, _, rfl, iteF ?_⟩
        refine ⟨_, rfl, _, _, _, _, false, rfl, .ty _, .base (.tup hb), kit_ty (by decide +kernel), _, rfl, iteF ?_⟩
        refine ⟨_, rfl, _, _, _, _, false, rfl, .ty _, .base (.tup hb), kit_ty (by decide +kernel), _, rfl, iteF ?_⟩
        refine ⟨_, rfl, _, _, _, _, true, rfl, .ty _, .base (.tup hb), kit_ty (by decide +kernel), _, rfl, iteT ?_⟩
        refine ⟨_, rfl, _, _, _, _, false, rfl, .ty _, .base (.tup ha), kit_ty (by decide +kernel), _, rfl, _, _, _, _, false, rfl, .ty _, .base (.tup hb), kit_ty (by decide +kernel), rfl, _, rfl, iteF ?_⟩
        refine ⟨_, rfl, _, _, _, _, true, rfl, .ty _, .base (.tup ha), kit_ty (by decide +kernel), _, rfl, _, _, _, _, true, rfl, .ty _, .base (.tup hb), kit_ty (by decide +kernel), rfl, _, rfl, iteF ?_⟩
        refine ⟨_, rfl, a, xs, rfl, .inr (SqT.of ha), _, rfl, b, ys, rfl, .inr (SqT.of hb), rfl, _, rfl, ?_⟩
        rw [decide_eq_true (show V.int (xs.length : Int) = V.int (ys.length : Int) by rw [hl])]
        refine iteT ?_
        refine ⟨_, rfl, _, rfl, a, b, xs, ys, rfl, .inr ⟨SqT.of ha, SqT.of hb, fun D nD => ?_⟩⟩
        refine lc_it (walk_zipT (xs := xs) (ys := ys) (n := xs.length) (by omega)) (fun i H' => Same H H' ∧ H' D = some (.lst (List.replicate i (.bl true)))) ⟨same_upd nD, upd_same⟩ (fun i H' _ p => ⟨same_tup p.1 (SqT.of ha), same_tup p.1 (SqT.of hb)⟩) (fun i v H2 H3 hi p hy => ?_) (fun H2 p => ?_)
        · obtain ⟨p1, p2⟩ := p
          obtain ⟨T', x, y, rfl, nT, rfl, ex, ey⟩ := hy
          have sT : Same H2 (upd H2 T' (.tup [x, y])) := same_upd nT
          refine ⟨T', [x, y], rfl, .inl (.inl upd_same), rfl, x, [y], rfl, y, [], rfl, rfl, rfl, ?_⟩
          refine yes (iteT ?_)
          refine ⟨x, rfl, y, rfl, x, y, rfl, (he i x y ex ey).keep (p1.trans sT), fun H4 s4 => ?_⟩
          refine ⟨_, s4 _ _ (sT _ _ p2), ?_, ?_, ?_⟩
          · rw [List.length_replicate]
            exact small1000 (by omega)
          · intro c o e
            rw [upd_ne (ne_of_none e nD)]
            exact s4 _ _ (sT _ _ (p1 _ _ e))
          · rw [upd_same, List.replicate_succ']
        · refine ⟨D, List.replicate xs.length true, rfl, ?_, ?_⟩
          · rw [← rep_bl]
            exact SqL.of p.2
          · rw [all_true]
            exact q _ p.1
      | @lst _ a b xs ys ha hb hl hz he =>
        refine ⟨_, rfl, rfl, _, rfl, iteF ?_⟩
        refine ⟨_, rfl, _, _, _, _, false, rfl, .ty _, .base (.lst hb), kit_ty (by decide +kernel), _, rfl, iteF ?_⟩
        refine ⟨_, rfl, _, _, _, _, true, rfl, .ty _, .base (.lst hb), kit_ty (by decide +kernel), _, rfl, iteT ?_⟩
        refine ⟨_, rfl, _, _, _, _, true, rfl, .ty _, .base (.lst ha), kit_ty (by decide +kernel), _, rfl, _, _, _, _, true, rfl, .ty _, .base (.lst hb), kit_ty (by decide +kernel), rfl, _, rfl, iteF ?_⟩
        refine ⟨_, rfl, _, _, _, _, false, rfl, .ty _, .base (.lst ha), kit_ty (by decide +kernel), _, rfl, _, _, _, _, false, rfl, .ty _, .base (.lst hb), kit_ty (by decide +kernel), rfl, _, rfl, iteF ?_⟩
        refine ⟨_, rfl, a, xs, rfl, .inl (SqL.of ha), _, rfl, b, ys, rfl, .inl (SqL.of hb), rfl, _, rfl, ?_⟩
        rw [decide_eq_true (show V.int (xs.length : Int) = V.int (ys.length : Int) by rw [hl])]
        refine iteT ?_
        refine ⟨_, rfl, _, rfl, a, b, xs, ys, rfl, .inl ⟨SqL.of ha, SqL.of hb, fun D nD => ?_⟩⟩
        refine lc_it (walk_zip (xs := xs) (ys := ys) (n := xs.length) (by omega)) (fun i H' => Same H H' ∧ H' D = some (.lst (List.replicate i (.bl true)))) ⟨same_upd nD, upd_same⟩ (fun i H' _ p => ⟨p.1.seq (SqL.of ha), p.1.seq (SqL.of hb)⟩) (fun i v H2 H3 hi p hy => ?_) (fun H2 p => ?_)
        · obtain ⟨p1, p2⟩ := p
          obtain ⟨T', x, y, rfl, nT, rfl, ex, ey⟩ := hy
          have sT : Same H2 (upd H2 T' (.tup [x, y])) := same_upd nT
          refine ⟨T', [x, y], rfl, .inl (.inl upd_same), rfl, x, [y], rfl, y, [], rfl, rfl, rfl, ?_⟩
          refine yes (iteT ?_)
          refine ⟨x, rfl, y, rfl, x, y, rfl, (he i x y ex ey).keep (p1.trans sT), fun H4 s4 => ?_⟩
          refine ⟨_, s4 _ _ (sT _ _ p2), ?_, ?_, ?_⟩
          · rw [List.length_replicate]
            exact small1000 (by omega)
          · intro c o e
            rw [upd_ne (ne_of_none e nD)]
            exact s4 _ _ (sT _ _ (p1 _ _ e))
          · rw [upd_same, List.replicate_succ']
        · refine ⟨D, List.replicate xs.length true, rfl, ?_, ?_⟩
          · rw [← rep_bl]
            exact SqL.of p.2
          · rw [all_true]
            exact q _ p.1
end
end DK
namespace DK
open PySem PySem.Spec PyProof.Rows L2
theorem scFeed : FnScope ["_law_script", "_law_many", "_law_feed_here", "_law_salt", "_law_cell", "_law_rest", "_law_k"] ["_law_script", "_law_many"] (defScope sFeed) := ⟨rfl, rfl, rfl, by decide +kernel, rfl, by decide +kernel, by decide +kernel⟩
/-! ### _law_feed -/
def Fd (fs : List Int) : Prop := ∀ x ∈ fs, 0 ≤ x ∧ x < 1000003
theorem Fd.nil : Fd [] := fun x hx => nomatch hx
theorem Fd.app {fs : List Int} {x : Int} (h : Fd fs) (h0 : 0 ≤ x) (h1 : x < 1000003) : Fd (fs ++ [x]) := fun y hy => by
  rcases List.mem_append.mp hy with z | z
  · exact h y z
  · rw [List.mem_singleton.mp z]
    exact ⟨h0, h1⟩
theorem cut_to (xs : List V) (n : Nat) : cutV xs none (some (n : Int)) = xs.take n := by
  unfold cutV
  rw [HT.sIx_none, show HT.sIx xs.length xs.length (some (n : Int)) = min n xs.length from HT.sIx_nat xs.length xs.length n]
  rw [List.drop_zero, Nat.sub_zero]
  rcases Nat.le_total n xs.length with h | h
  · rw [Nat.min_eq_left h]
  · rw [Nat.min_eq_right h, List.take_length, List.take_of_length_le h]
theorem cut_from (xs : List V) (n : Nat) : cutV xs (some (n : Int)) none = xs.drop n := by
  unfold cutV
  rw [HT.sIx_none, show HT.sIx xs.length 0 (some (n : Int)) = min n xs.length from HT.sIx_nat xs.length 0 n]
  rcases Nat.le_total n xs.length with h | h
  · rw [Nat.min_eq_left h, List.take_of_length_le (by rw [List.length_drop]; omega)]
  · rw [Nat.min_eq_right h, List.drop_length, List.drop_of_length_le h, List.take_nil]
theorem app_map (fs : List Int) (x : Int) : fs.map V.int ++ [V.int x] = (fs ++ [x]).map V.int := by
  rw [List.map_append]
  rfl
theorem modB (x : Int) {n : Int} (h : 0 < n) : 0 ≤ x % n ∧ x % n < n := ⟨Int.emod_nonneg x (by omega), Int.emod_lt_of_pos x h⟩
def spFeed (K : PySem.W.Frag) : Sp := fun vs H Q _ => ∃ (a : Addr) (ns : List Int) (n : Nat), vs = [.ref a, .int (n : Int)] ∧ SqL K H a (ns.map V.int) ∧ n ≤ 5000 ∧
  ∀ H' p fs, Same H H' → H p = none → H' p = some (.lst (fs.map V.int)) → fs.length = n → Fd fs → Q (.ref p) H'
section
variable {P : Program} {w : World} {K : PySem.W.Frag} {mg : Str → Option Value} {base : Heap}
theorem nxt {D : Ends} {σ : L2.St} {H : Hp} (h : D.nx σ H) : tNext D σ H := h
theorem szl {n : Nat} (h : n ≤ 20000) : n < sizeLine := Nat.lt_of_le_of_lt h (by decide)
theorem ok_feed {f : Addr} {fd : FuncData} (F : Fun K "_law_feed" "_law_feed" sFeed f fd) (mr : mg "range" = none) (ml : mg "len" = none) : FnOk P w K mg base CX0 1 f fd ["_law_script", "_law_many"] (spFeed K) := by
  refine F.ok scFeed (fun vs H Q E h => ?_) (fun cdv A outer s H vs Q E hr h => ?_)
  · obtain ⟨_, _, _, rfl, _⟩ := h
    rfl
  · obtain ⟨a, ns, n, rfl, hA, hn, q⟩ := h
    refine ⟨_, pss_cons (ps_set (i := 2) scFeed.nd rfl (.inl rfl) (pe_lst pa_nil))
      (pss_cons (ps_set (i := 3) scFeed.nd rfl (.inl rfl) pe_int)
      (pss_cons (ps_for PassesOwn.never rfl (pi_list (pe_slice sl_list (pv 0) po_none (po_some pe_int))) (pg_name (i := 4) scFeed.nd rfl (.inl rfl))
        (pss_cons (ps_set (i := 3) scFeed.nd rfl (.inl rfl) (pe_op op_mod (pe_op op_add (pe_op op_add (pe_op op_mul (pv 3) pe_int) (pe_op op_mod (pv 4) pe_int)) pe_int) pe_int))
        (pss_cons (ps_set (i := 5) scFeed.nd rfl (.inl rfl) (pe_op op_sub (pv 4) (pe_op op_pow pe_int pe_int)))
        (pss_cons (ps_if (pt_cmpR op_lt (pv 5) pe_int (nomark _))
          (pss_one (ps_expr (pe_bm PySem.F.plainAttrs_list PySem.F.slot_list_append PySem.F.type_list_append mt_append (pv 2) (pa_cons (pe_op op_mod (pv 4) pe_int) pa_nil)))) pss_nil)
        (pss_one (ps_for PassesOwn.never rfl (pi_range1 rfl mr (pa_cons pe_int pa_nil)) (pg_name (i := 6) scFeed.nd rfl (.inl rfl))
          (pss_one (ps_if (pt_cmpR op_gt (pv 5) pe_int (nomark _))
            (pss_cons (ps_expr (pe_bm PySem.F.plainAttrs_list PySem.F.slot_list_append PySem.F.type_list_append mt_append (pv 2) (pa_cons (pe_op op_mod (pv 5) pe_int) pa_nil)))
            (pss_one (ps_set (i := 5) scFeed.nd rfl (.inl rfl) (pe_op op_fdiv (pv 5) pe_int)))) pss_nil))))))))
      (pss_cons (ps_for PassesOwn.never rfl (pi_range1 rfl mr (pa_cons (pe_op op_sub (pv 1) (pe_callB call_len_seq (by rfl) ml PySem.boot_len (pa_cons (pv 2) pa_nil))) pa_nil)) (pg_name (i := 6) scFeed.nd rfl (.inl rfl))
        (pss_cons (ps_set (i := 3) scFeed.nd rfl (.inl rfl) (pe_op op_mod (pe_op op_add (pe_op op_add (pe_op op_add (pe_op op_mul (pe_op op_mul (pv 3) (pv 3)) (pv 3)) (pe_op op_mul pe_int (pv 3))) (pe_op op_mul pe_int (pv 6))) pe_int) pe_int))
        (pss_one (ps_expr (pe_bm PySem.F.plainAttrs_list PySem.F.slot_list_append PySem.F.type_list_append mt_append (pv 2) (pa_cons (pe_op op_mod (pe_op op_fdiv (pv 3) pe_int) pe_int) pa_nil))))))
      (pss_one (ps_ret (pe_slice sl_list (pv 2) po_none (po_some (pv 1)))))))), ?_⟩
    refine ⟨Nat.zero_le _, fun o no => ?_⟩
    have s1 : Same H (upd H o (.lst [])) := same_upd no
    refine ⟨.ref a, rfl, 63, rfl, a, ns.map V.int, rfl, s1.seq hA, fun c nc => ?_⟩
    have nco : c ≠ o := fun e => by
      rw [e, upd_same] at nc
      cases nc
    have s2 := s1.trans (same_upd (o := .lst (cutV (ns.map V.int) none (some 63))) nc)
    have ecut : cutV (ns.map V.int) none (some 63) = (ns.take 63).map V.int := by
      rw [show ((63 : Int)) = ((63 : Nat) : Int) from rfl, cut_to, List.map_take]
    rw [ecut]
    rw [ecut] at s2
    refine ⟨c, rfl, ⟨_, SqL.of upd_same⟩, ?_⟩
    have hlen : ((ns.take 63).map V.int).length ≤ 63 := by
      rw [List.length_map, List.length_take]
      omega
    refine for_list (K := K) (a := c) (xs := (ns.take 63).map V.int) (fun i σ H3 => ∃ (fs : List Int) (salt : Int) (y4 y5 y6 : Option V), σ = [some (.ref a), some (.int n), some (.ref o), some (.int salt), y4, y5, y6] ∧ Same H H3 ∧ H3 c = some (.lst ((ns.take 63).map V.int)) ∧ H3 o = some (.lst (fs.map V.int)) ∧ fs.length ≤ 61 * i ∧ Fd fs ∧ 0 ≤ salt ∧ salt < 2147483647)
      ⟨[], 71, none, none, none, rfl, s2, upd_same, ?_, Nat.zero_le _, Fd.nil, by decide, by decide⟩ (fun i σ H3 _ p => ?_) (fun i x σ H3 hx p => ?_) (fun σ H3 p => ?_)
    · rw [upd_ne nco.symm, upd_same]
      rfl
    · obtain ⟨_, _, _, _, _, _, _, e, _⟩ := p
      exact SqL.of e
    · obtain ⟨fs, salt, y4, y5, y6, rfl, sm, ec, eo, hfl, hfd, t0, t1⟩ := p
      have hi : i < ((ns.take 63).map V.int).length := (List.getElem?_eq_some_iff.mp hx).1
      obtain ⟨cell, rfl⟩ : ∃ cell : Int, x = .int cell := by
        rw [List.getElem?_map] at hx
        cases e : (ns.take 63)[i]? with
        | none => rw [e] at hx; cases hx
        | some z => rw [e] at hx; exact ⟨z, (Option.some.inj hx).symm⟩
      have m1 := modB (salt * 48271 + cell % 2147483629 + 7) (n := 2147483647) (by decide)
      refine ⟨_, rfl, _, _, rfl, rfl, .inl ⟨by omega, by omega⟩, _, rfl, _, _, rfl, rfl, by show (0 : Int) < 2147483629; decide, _, _, rfl, rfl, _, _, rfl, rfl, _, _, rfl, rfl, by show (0 : Int) < 2147483647; decide, ?_⟩
      refine ⟨_, rfl, _, _, rfl, rfl, ⟨by decide, by decide, by decide⟩, _, _, rfl, rfl, ?_⟩
      -- the inner loop, from any list so far
      have inner : ∀ (salt2 : Int), 0 ≤ salt2 ∧ salt2 < 2147483647 → ∀ (gs : List Int) (H4 : Hp), Same H H4 → H4 c = some (.lst ((ns.take 63).map V.int)) → H4 o = some (.lst (gs.map V.int)) → gs.length ≤ 61 * i + 1 → Fd gs → ∀ (r0 : Int) (D : Ends),
          (∀ σ' H', (∃ (fs : List Int) (salt : Int) (y4 y5 y6 : Option V), σ' = [some (.ref a), some (.int n), some (.ref o), some (.int salt), y4, y5, y6] ∧ Same H H' ∧ H' c = some (.lst ((ns.take 63).map V.int)) ∧ H' o = some (.lst (fs.map V.int)) ∧ fs.length ≤ 61 * (i + 1) ∧ Fd fs ∧ 0 ≤ salt ∧ salt < 2147483647) → D.nx σ' H') →
          tFor (iRng1 (tCons (tC (.int 60)) tNil)) (gName 6) (tIfS (tTest (tOp (rI0 fun i j => .bl (decide (j < i))) (tVar 5) (tC (.int 0)))) (tSeq (tDrop (tBM K "list" rAppend (tVar 2) (tCons (tOp (rI (fun _ j => 0 < j) fun i j => .int (i % j)) (tVar 5) (tC (.int 1009))) tNil))) (tAsg (tOp (rI CDiv fun i j => .int (i / j)) (tVar 5) (tC (.int 1009))) (gName 5))) tNext) D
            [some (.ref a), some (.int n), some (.ref o), some (.int salt2), some (.int cell), some (.int r0), y6] H4 := by
        intro salt2 m1 gs H4 sm4 ec4 eo4 gl gd r0 D hD
        refine ⟨60, rfl, by decide, by decide, ?_⟩
        refine for_range (lo := 0) (n := 60) (fun j σ H5 => ∃ (gs : List Int) (r : Int) (y6 : Option V), σ = [some (.ref a), some (.int n), some (.ref o), some (.int salt2), some (.int cell), some (.int r), y6] ∧ Same H H5 ∧ H5 c = some (.lst ((ns.take 63).map V.int)) ∧ H5 o = some (.lst (gs.map V.int)) ∧ gs.length ≤ 61 * i + 1 + j ∧ Fd gs)
          ⟨gs, r0, y6, rfl, sm4, ec4, eo4, gl, gd⟩ (fun j σ H5 hj p => ?_) (fun σ H5 p => ?_)
        · obtain ⟨gs, r, z6, rfl, sm5, ec5, eo5, gl5, gd5⟩ := p
          refine ⟨_, rfl, _, _, rfl, rfl, _, rfl, ite2 (fun e => ?_) (fun e => ?_)⟩
          · have m2 := modB r (n := 1009) (by decide)
            refine ⟨.ref o, rfl, .inl ⟨rfl, _, SqL.of eo5⟩, _, rfl, _, _, rfl, rfl, by show (0 : Int) < 1009; decide, o, _, _, rfl, rfl, eo5, ?_, ?_⟩
            · rw [List.length_map]
              exact szl (by omega)
            · refine ⟨_, rfl, _, _, rfl, rfl, ⟨by decide, by decide⟩, gs ++ [r % 1009], _, _, rfl, ?_, ?_, ?_, ?_, ?_⟩
              · intro b z e
                rw [upd_ne (ne_of_none e no)]
                exact sm5 _ _ e
              · rw [upd_ne nco]
                exact ec5
              · rw [upd_same, app_map]
              · rw [List.length_append]
                show gs.length + 1 ≤ _
                omega
              · exact gd5.app m2.1 (by omega)
          · exact ⟨gs, r, _, rfl, sm5, ec5, eo5, by omega, gd5⟩
        · obtain ⟨gs, r, z6, rfl, sm5, ec5, eo5, gl5, gd5⟩ := p
          exact hD _ _ ⟨gs, salt2, _, _, _, rfl, sm5, ec5, eo5, by omega, gd5, m1.1, m1.2⟩
      refine ⟨_, rfl, _, _, rfl, rfl, _, rfl, ite2 (fun e => ?_) (fun e => ?_)⟩
      · have m3 := modB cell (n := 1000003) (by decide)
        refine ⟨.ref o, rfl, .inl ⟨rfl, _, SqL.of eo⟩, _, rfl, _, _, rfl, rfl, by show (0 : Int) < 1000003; decide, o, _, _, rfl, rfl, eo, ?_, ?_⟩
        · rw [List.length_map]
          exact szl (by omega)
        · refine inner _ m1 (fs ++ [cell % 1000003]) _ ?_ ?_ ?_ ?_ (hfd.app m3.1 m3.2) _ _ ?_
          · intro b z e
            rw [upd_ne (ne_of_none e no)]
            exact sm _ _ e
          · rw [upd_ne nco]
            exact ec
          · rw [upd_same, app_map]
          · rw [List.length_append]
            show fs.length + 1 ≤ _
            omega
          · exact fun σ' H' p => p
      · dsimp only [tNext]
        refine inner _ m1 fs _ sm ec eo (by omega) hfd _ _ ?_
        exact fun σ' H' p => p
    · obtain ⟨fs, salt, y4, y5, y6, rfl, sm, ec, eo, hfl, hfd, t0, t1⟩ := p
      have hl0 : fs.length ≤ 3843 := by omega
      refine ⟨_, rfl, _, rfl, o, _, rfl, .inl (SqL.of eo), _, _, rfl, rfl, _, rfl, ?_, ?_, ?_⟩
      · rw [List.length_map]
        omega
      · rw [List.length_map]
        omega
      · refine for_range (lo := 0) (n := ((n : Int) - ((fs.map V.int).length : Int)).toNat) (fun j σ H5 => ∃ (gs : List Int) (salt : Int) (y6 : Option V), σ = [some (.ref a), some (.int n), some (.ref o), some (.int salt), y4, y5, y6] ∧ Same H H5 ∧ H5 o = some (.lst (gs.map V.int)) ∧ gs.length = fs.length + j ∧ Fd gs ∧ 0 ≤ salt ∧ salt < 2147483647)
          ⟨fs, salt, y6, rfl, sm, eo, rfl, hfd, t0, t1⟩ (fun j σ H5 hj p => ?_) (fun σ H5 p => ?_)
        · obtain ⟨gs, salt, z6, rfl, sm5, eo5, gl5, gd5, t0, t1⟩ := p
          rw [List.length_map] at hj
          have b1 : 0 ≤ salt * salt := Int.mul_nonneg t0 t0
          have b2 : salt * salt ≤ 2147483647 * 2147483647 := Int.mul_le_mul (by omega) (by omega) t0 (by decide)
          refine ⟨_, rfl, _, rfl, _, _, rfl, rfl, .inl ⟨by omega, by omega⟩, _, rfl, _, _, rfl, rfl, .inl ⟨by omega, by omega⟩, ?_⟩
          refine ⟨_, rfl, _, _, rfl, rfl, .inl ⟨by decide, by decide⟩, _, _, rfl, rfl, _, rfl, _, _, rfl, rfl, .inl ⟨by decide, by decide⟩, _, _, rfl, rfl, _, _, rfl, rfl, _, _, rfl, rfl, by show (0 : Int) < 2147483629; decide, ?_⟩
          generalize hsalt : (salt * salt * salt + 69621 * salt + 17 * (0 + (j : Int)) + 3) = big
          have m1 := modB big (n := 2147483629) (by decide)
          have m2 := modB (big % 2147483629 / 1013) (n := 1009) (by decide)
          refine ⟨.ref o, rfl, .inl ⟨rfl, _, SqL.of eo5⟩, _, rfl, _, _, rfl, rfl, ⟨by decide, by decide⟩, _, _, rfl, rfl, by show (0 : Int) < 1009; decide, o, _, _, rfl, rfl, eo5, ?_, ?_⟩
          · rw [List.length_map]
            exact szl (by omega)
          · refine ⟨gs ++ [big % 2147483629 / 1013 % 1009], _, _, rfl, ?_, ?_, ?_, gd5.app m2.1 (by omega), m1.1, by omega⟩
            · intro b z e
              rw [upd_ne (ne_of_none e no)]
              exact sm5 _ _ e
            · rw [upd_same, app_map]
            · rw [List.length_append, gl5]
              show fs.length + j + 1 = _
              omega
        · obtain ⟨gs, salt, z6, rfl, sm5, eo5, gl5, gd5, t0, t1⟩ := p
          rw [List.length_map] at gl5
          refine ⟨.ref o, rfl, _, rfl, _, rfl, o, _, rfl, SqL.of eo5, fun p np => ?_⟩
          refine q _ p (gs.take n) (sm5.trans (same_upd np)) (sm5.free np) ?_ ?_ ?_
          · rw [upd_same, cut_to, List.map_take]
          · rw [List.length_take]
            omega
          · exact fun x hx => gd5 x (List.mem_of_mem_take hx)
end
end DK
namespace DK
open PySem PySem.Spec PyProof.Rows L2
abbrev nLaw : List Str := ["_law_script", "_law_feed_here", "_law_rows", "_law_turn", "_law_d", "_law_top", "_law_bottom", "_law_one", "_law_other", "_law_due"]
theorem scLaw : FnScope nLaw ["_law_script"] (defScope sLaw) := ⟨rfl, rfl, rfl, by decide +kernel, rfl, by decide +kernel, by decide +kernel⟩
theorem Eqv.two {H : Hp} {a b : Addr} {x y : Int} (ha : H a = some (.tup [.int x, .int y])) (hb : H b = some (.tup [.int x, .int y])) : Eqv H 1 (.ref a) (.ref b) := by
  refine .tup ha hb rfl (by show 2 ≤ 1000; decide) fun i v w hv hw => ?_
  have e : v = w := Option.some.inj (hv.symm.trans hw)
  subst e
  match i, hv with
  | 0, hv => cases hv; exact .int _
  | 1, hv => cases hv; exact .int _
  | _ + 2, hv => cases hv
/-- all the defs of the text, where they stand and what they promise -/
structure Txt (P : Program) (w : World) (K : PySem.W.Frag) (mg : Str → Option Value) (base : Heap) : Prop where
  r : mg "range" = none
  z : mg "zip" = none
  feed : ∃ f fd, FnOk P w K mg base CX0 1 f fd ["_law_script", "_law_many"] (spFeed K) ∧ mg "_law_feed" = some (.ref f) ∧ PySem.W.keepIn K (.ref f) = true ∧ Binds K fd ["_law_script", "_law_many"] []
  same : ∃ f fd, FnOk P w K mg base CX0 2 f fd ["_law_found", "_law_due"] (spSame 1) ∧ mg "_law_same" = some (.ref f) ∧ PySem.W.keepIn K (.ref f) = true ∧ Binds K fd ["_law_found", "_law_due"] []
  low : ∃ f fd, FnOk P w K mg base CX0 1 f fd ["_law_top", "_law_bottom"] spPart ∧ mg "_law_low" = some (.ref f) ∧ PySem.W.keepIn K (.ref f) = true ∧ Binds K fd ["_law_top", "_law_bottom"] []
  add : ∃ f fd, FnOk P w K mg base CX0 2 f fd ["_law_a", "_law_b"] (spTwo K (fun a0 a1 b0 b1 => a0 * b1 + b0 * a1) (fun a0 a1 b0 b1 => a1 * b1)) ∧ mg "_law_add" = some (.ref f) ∧ PySem.W.keepIn K (.ref f) = true ∧ Binds K fd ["_law_a", "_law_b"] []
  mul : ∃ f fd, FnOk P w K mg base CX0 2 f fd ["_law_a", "_law_b"] (spTwo K (fun a0 a1 b0 b1 => a0 * b0) (fun a0 a1 b0 b1 => a1 * b1)) ∧ mg "_law_mul" = some (.ref f) ∧ PySem.W.keepIn K (.ref f) = true ∧ Binds K fd ["_law_a", "_law_b"] []
  lless : ∃ f fd, FnOk P w K mg base CX0 1 f fd ["_law_a", "_law_b"] (spLess K) ∧ mg "_law_less" = some (.ref f) ∧ PySem.W.keepIn K (.ref f) = true ∧ Binds K fd ["_law_a", "_law_b"] []
  big : ∃ f fd, FnOk P w K mg base CX0 1 f fd ["_law_d"] (spBig K) ∧ mg "_law_big" = some (.ref f) ∧ PySem.W.keepIn K (.ref f) = true ∧ Binds K fd ["_law_d"] []
  part : ∃ f fd, FnOk P w K mg base CX0 2 f fd ["top", "bottom"] spPart ∧ mg "part" = some (.ref f) ∧ PySem.W.keepIn K (.ref f) = true ∧ Binds K fd ["top", "bottom"] []
  plus : ∃ f fd, FnOk P w K mg base CX0 3 f fd ["a", "b"] (spTwo K (fun a0 a1 b0 b1 => a0 * b1 + b0 * a1) (fun a0 a1 b0 b1 => a1 * b1)) ∧ mg "plus" = some (.ref f) ∧ PySem.W.keepIn K (.ref f) = true ∧ Binds K fd ["a", "b"] []
  minus : ∃ f fd, FnOk P w K mg base CX0 3 f fd ["a", "b"] (spTwo K (fun a0 a1 b0 b1 => a0 * b1 - b0 * a1) (fun a0 a1 b0 b1 => a1 * b1)) ∧ mg "minus" = some (.ref f) ∧ PySem.W.keepIn K (.ref f) = true ∧ Binds K fd ["a", "b"] []
  times : ∃ f fd, FnOk P w K mg base CX0 3 f fd ["a", "b"] (spTwo K (fun a0 a1 b0 b1 => a0 * b0) (fun a0 a1 b0 b1 => a1 * b1)) ∧ mg "times" = some (.ref f) ∧ PySem.W.keepIn K (.ref f) = true ∧ Binds K fd ["a", "b"] []
  less : ∃ f fd, FnOk P w K mg base CX0 1 f fd ["a", "b"] (spLess K) ∧ mg "less" = some (.ref f) ∧ PySem.W.keepIn K (.ref f) = true ∧ Binds K fd ["a", "b"] []
def spLaw (K : PySem.W.Frag) : Sp := fun vs H Q _ => ∃ (a : Addr) (ns : List Int), vs = [.ref a] ∧ SqL K H a (ns.map V.int) ∧ ∀ H', Q (.bl true) H'
theorem len2 {α : Type} {xs : List α} (h : xs.length = 2) : ∃ x y, xs = [x, y] := by
  match xs, h with
  | [x, y], _ => exact ⟨x, y, rfl⟩
section
variable {P : Program} {w : World} {K : PySem.W.Frag} {mg : Str → Option Value} {base : Heap}
theorem sm4000 {x : Int} (h : Sm x) : x.natAbs < 2 ^ 4000 := Nat.lt_of_lt_of_le h (Nat.pow_le_pow_right (by decide) (by decide))
theorem ok_law {f : Addr} {fd : FuncData} (F : Fun K "law" "law" sLaw f fd) (T : Txt P w K mg base) : FnOk P w K mg base CX0 4 f fd ["_law_script"] (spLaw K) := by
  obtain ⟨fFeed, dFeed, GFeed, gFeed, kFeed, bFeed⟩ := T.feed
  obtain ⟨fSame, dSame, GSame, gSame, kSame, bSame⟩ := T.same
  obtain ⟨fLow, dLow, GLow, gLow, kLow, bLow⟩ := T.low
  obtain ⟨fAdd, dAdd, GAdd, gAdd, kAdd, bAdd⟩ := T.add
  obtain ⟨fMul, dMul, GMul, gMul, kMul, bMul⟩ := T.mul
  obtain ⟨fLl, dLl, GLl, gLl, kLl, bLl⟩ := T.lless
  obtain ⟨fBig, dBig, GBig, gBig, kBig, bBig⟩ := T.big
  obtain ⟨fPart, dPart, GPart, gPart, kPart, bPart⟩ := T.part
  obtain ⟨fPlus, dPlus, GPlus, gPlus, kPlus, bPlus⟩ := T.plus
  obtain ⟨fMin, dMin, GMin, gMin, kMin, bMin⟩ := T.minus
  obtain ⟨fTim, dTim, GTim, gTim, kTim, bTim⟩ := T.times
  obtain ⟨fLess, dLess, GLess, gLess, kLess, bLess⟩ := T.less
  have mr := T.r
  have mz := T.z
  refine F.ok scLaw (fun vs H Q E h => ?_) (fun cdv A outer s H vs Q E hr h => ?_)
  · obtain ⟨_, _, rfl, _⟩ := h
    rfl
  · obtain ⟨a, ns, rfl, hA, q⟩ := h
    refine ⟨_, pss_cons (ps_set (i := 1) scLaw.nd rfl (.inl rfl) (pe_call GFeed (hr.mono (by decide)) (by rfl) gFeed kFeed bFeed .nil pass0 (pa_cons (pv 0) (pa_cons pe_int pa_nil))))
      (pss_cons (ps_set (i := 2) scLaw.nd rfl (.inl rfl) (pe_lst pa_nil))
      (pss_cons (ps_for PassesOwn.never rfl (pi_range1 rfl mr (pa_cons pe_int pa_nil)) (pg_name (i := 3) scLaw.nd rfl (.inl rfl))
        (pss_cons (ps_set (i := 4) scLaw.nd rfl (.inl rfl) (pe_slice sl_list (pv 1) (po_some (pe_op op_mul pe_int (pv 3))) po_none))
        (pss_cons (ps_set (i := 5) scLaw.nd rfl (.inl rfl) (pe_call GBig (hr.mono (by decide)) (by rfl) gBig kBig bBig .nil pass0 (pa_cons (pv 4) pa_nil)))
        (pss_cons (ps_set (i := 6) scLaw.nd rfl (.inl rfl) (pe_call GBig (hr.mono (by decide)) (by rfl) gBig kBig bBig .nil pass0 (pa_cons (pe_slice sl_list (pv 4) (po_some pe_int) po_none) pa_nil)))
        (pss_cons (ps_if (pt_cmpR op_eq (pv 6) pe_int (nomark _)) (pss_one (ps_set (i := 6) scLaw.nd rfl (.inl rfl) (pe_op op_add pe_int (pe_op op_mod (pe_ix ix_list (pv 4) pe_int (fun _ _ => rfl)) pe_int)))) pss_nil)
        (pss_one (ps_expr (pe_bm PySem.F.plainAttrs_list PySem.F.slot_list_append PySem.F.type_list_append mt_append (pv 2) (pa_cons (pe_tup (pa_cons (pv 5) (pa_cons (pv 6) pa_nil))) pa_nil)))))))))
      (pss_cons (ps_asg (pe_lc (own := [("_law_top", 5), ("_law_bottom", 6)]) (g := gTup K 2 (gCons (gName 5) (gCons (gName 6) gNil))) (tt := tYes) (by rfl) scLaw.nd (pi_list (pv 2))
          (blkOk_by (N := nLaw) (sc := defScope sLaw) (by decide +kernel))
          (fun _ _ _ _ _ => pg_tup rfl (pgs_cons (pg_name (i := 5) scLaw.nd rfl (Or.inl rfl)) (pgs_cons (pg_name (i := 6) scLaw.nd rfl (Or.inl rfl)) pgs_nil)))
          (fun _ _ _ _ _ => pts_nil)
          (fun _ _ _ _ _ => pe_call GLow (hr.mono (by decide)) (by rfl) gLow kLow bLow .nil pass0 (pa_cons (pv 5) (pa_cons (pv 6) pa_nil))))
        (pg_unl rfl (pgs_cons (pg_name (i := 7) scLaw.nd rfl (Or.inl rfl)) (pgs_cons (pg_name (i := 8) scLaw.nd rfl (Or.inl rfl)) pgs_nil))))
      (pss_cons (ps_for PassesOwn.never rfl (RZ.pi_zipA (by rfl) mz (pa_cons (pv 2) (pa_cons (pe_lst (pa_cons (pv 7) (pa_cons (pv 8) pa_nil))) pa_nil)))
          (pg_tup rfl (pgs_cons (pg_tup rfl (pgs_cons (pg_name (i := 5) scLaw.nd rfl (.inl rfl)) (pgs_cons (pg_name (i := 6) scLaw.nd rfl (.inl rfl)) pgs_nil))) (pgs_cons (pg_name (i := 9) scLaw.nd rfl (.inl rfl)) pgs_nil)))
        (pss_one (ps_if (PW.pt (pw_or (pt_not (pt_val (pe_call GSame (hr.mono (by decide)) (by rfl) gSame kSame bSame .nil pass0 (pa_cons (pe_call GPart (hr.mono (by decide)) (by rfl) gPart kPart bPart .nil pass0 (pa_cons (pv 5) (pa_cons (pv 6) pa_nil))) (pa_cons (pv 9) pa_nil)))))
            (pw_or1 (pt_not (pt_val (pe_call GSame (hr.mono (by decide)) (by rfl) gSame kSame bSame .nil pass0 (pa_cons (pe_call GPart (hr.mono (by decide)) (by rfl) gPart kPart bPart .nil pass0 (pa_cons pe_int (pa_cons (pv 6) pa_nil))) (pa_cons (pe_tup (pa_cons pe_int (pa_cons pe_int pa_nil))) pa_nil))))))))
          (pss_one (ps_ret pe_bl)) pss_nil)))
      (pss_cons (ps_if (PW.pt (pw_or (pt_not (pt_val (pe_call GSame (hr.mono (by decide)) (by rfl) gSame kSame bSame .nil pass0 (pa_cons (pe_call GPlus (hr.mono (by decide)) (by rfl) gPlus kPlus bPlus .nil pass0 (pa_cons (pv 7) (pa_cons (pv 8) pa_nil))) (pa_cons (pe_call GAdd (hr.mono (by decide)) (by rfl) gAdd kAdd bAdd .nil pass0 (pa_cons (pv 7) (pa_cons (pv 8) pa_nil))) pa_nil)))))
            (pw_or1 (pt_not (pt_val (pe_call GSame (hr.mono (by decide)) (by rfl) gSame kSame bSame .nil pass0 (pa_cons (pe_call GTim (hr.mono (by decide)) (by rfl) gTim kTim bTim .nil pass0 (pa_cons (pv 7) (pa_cons (pv 8) pa_nil))) (pa_cons (pe_call GMul (hr.mono (by decide)) (by rfl) gMul kMul bMul .nil pass0 (pa_cons (pv 7) (pa_cons (pv 8) pa_nil))) pa_nil))))))))
          (pss_one (ps_ret pe_bl)) pss_nil)
      (pss_cons (ps_if (pt_not (pt_val (pe_call GSame (hr.mono (by decide)) (by rfl) gSame kSame bSame .nil pass0 (pa_cons (pe_call GMin (hr.mono (by decide)) (by rfl) gMin kMin bMin .nil pass0 (pa_cons (pv 7) (pa_cons (pv 8) pa_nil)))
            (pa_cons (pe_call GAdd (hr.mono (by decide)) (by rfl) gAdd kAdd bAdd .nil pass0 (pa_cons (pv 7) (pa_cons (pe_tup (pa_cons (pe_op op_sub pe_int (pe_ix ix_tup (pv 8) pe_int (fun _ _ => rfl))) (pa_cons (pe_ix ix_tup (pv 8) pe_int (fun _ _ => rfl)) pa_nil))) pa_nil))) pa_nil)))))
          (pss_one (ps_ret pe_bl)) pss_nil)
      (pss_cons (ps_if (PW.pt (pw_or (pt_not (pt_val (pe_call GSame (hr.mono (by decide)) (by rfl) gSame kSame bSame .nil pass0 (pa_cons (pe_call GLess (hr.mono (by decide)) (by rfl) gLess kLess bLess .nil pass0 (pa_cons (pv 7) (pa_cons (pv 8) pa_nil))) (pa_cons (pe_call GLl (hr.mono (by decide)) (by rfl) gLl kLl bLl .nil pass0 (pa_cons (pv 7) (pa_cons (pv 8) pa_nil))) pa_nil)))))
            (pw_or1 (pt_not (pt_val (pe_call GSame (hr.mono (by decide)) (by rfl) gSame kSame bSame .nil pass0 (pa_cons (pe_call GLess (hr.mono (by decide)) (by rfl) gLess kLess bLess .nil pass0 (pa_cons (pv 7) (pa_cons (pv 7) pa_nil))) (pa_cons pe_bl pa_nil))))))))
          (pss_one (ps_ret pe_bl)) pss_nil)
      (pss_one (ps_ret (pe_and (pe_call GSame (hr.mono (by decide)) (by rfl) gSame kSame bSame .nil pass0 (pa_cons (pe_call GLess (hr.mono (by decide)) (by rfl) gLess kLess bLess .nil pass0 (pa_cons (pv 8) (pa_cons (pv 7) pa_nil))) (pa_cons (pe_call GLl (hr.mono (by decide)) (by rfl) gLl kLl bLl .nil pass0 (pa_cons (pv 8) (pa_cons (pv 7) pa_nil))) pa_nil)))
          (pe_one (pe_call GSame (hr.mono (by decide)) (by rfl) gSame kSame bSame .nil pass0 (pa_cons (pe_call GMin (hr.mono (by decide)) (by rfl) gMin kMin bMin .nil pass0 (pa_cons (pv 7) (pa_cons (pv 7) pa_nil))) (pa_cons (pe_tup (pa_cons pe_int (pa_cons pe_int pa_nil))) pa_nil)))))))))))))), ?_⟩
    -- the feed
    refine ⟨_, rfl, a, ns, 24, rfl, hA, by decide, fun H1 fa fs s1 nfa efa fl ffd => ?_⟩
    refine ⟨Nat.zero_le _, fun r nr => ?_⟩
    have nrf : fa ≠ r := ne_of_none efa nr
    -- two pairs of numbers
    refine ⟨2, rfl, by decide, by decide, ?_⟩
    refine for_range (lo := 0) (n := 2) (fun i σ H3 => ∃ (qs : List (Addr × Int × Int)) (y3 y4 y5 y6 : Option V), qs.length = i ∧ σ = [some (.ref a), some (.ref fa), some (.ref r), y3, y4, y5, y6, none, none, none] ∧ H3 fa = some (.lst (fs.map V.int)) ∧ H3 r = some (.lst (qs.map fun q => V.ref q.1)) ∧
        ∀ q ∈ qs, H3 q.1 = some (.tup [.int q.2.1, .int q.2.2]) ∧ Sm q.2.1 ∧ Sm q.2.2 ∧ q.2.2 ≠ 0)
      ⟨[], none, none, none, none, rfl, rfl, ?_, upd_same, fun q hq => nomatch hq⟩ (fun i σ H3 hi p => ?_) (fun σ H3 p => ?_)
    · rw [upd_ne nrf]
      exact efa
    · obtain ⟨qs, y3, y4, y5, y6, hl, rfl, ef, er, hq⟩ := p
      have e12 : (12 : Int) * (0 + (i : Int)) = ((12 * i : Nat) : Int) := by omega
      refine ⟨_, rfl, _, rfl, _, _, rfl, rfl, .inl ⟨by decide, by decide⟩, _, rfl, fa, _, rfl, SqL.of ef, fun d nd => ?_⟩
      rw [e12, cut_from, ← List.map_drop]
      have ed : (upd H3 d (.lst ((fs.drop (12 * i)).map V.int))) d = some (.lst ((fs.drop (12 * i)).map V.int)) := upd_same
      have sd : Same H3 (upd H3 d (.lst ((fs.drop (12 * i)).map V.int))) := same_upd nd
      have hdl : 12 ≤ (fs.drop (12 * i)).length := by
        rw [List.length_drop, fl]
        omega
      generalize hgs : fs.drop (12 * i) = gs at ed sd hdl ⊢
      refine ⟨_, rfl, d, gs, rfl, SqL.of ed, by omega, fun H4 t s4 st => ?_⟩
      refine ⟨_, rfl, 4, rfl, d, _, rfl, SqL.of (s4 _ _ ed), fun d2 nd2 => ?_⟩
      rw [show (4 : Int) = ((4 : Nat) : Int) from rfl, cut_from, ← List.map_drop]
      have s5 : Same H4 (upd H4 d2 (.lst ((gs.drop 4).map V.int))) := same_upd nd2
      refine ⟨d2, gs.drop 4, rfl, SqL.of upd_same, ?_, fun H6 b s6 sb => ?_⟩
      · rw [List.length_drop]
        omega
      have sA : Same H3 H6 := sd.trans (s4.trans (s5.trans s6))
      have fin : ∀ (b : Int), Sm b → b ≠ 0 → ∀ (D : Ends), (∀ σ' H', (∃ (qs : List (Addr × Int × Int)) (y3 y4 y5 y6 : Option V), qs.length = i + 1 ∧ σ' = [some (.ref a), some (.ref fa), some (.ref r), y3, y4, y5, y6, none, none, none] ∧ H' fa = some (.lst (fs.map V.int)) ∧ H' r = some (.lst (qs.map fun q => V.ref q.1)) ∧
          ∀ q ∈ qs, H' q.1 = some (.tup [.int q.2.1, .int q.2.2]) ∧ Sm q.2.1 ∧ Sm q.2.2 ∧ q.2.2 ≠ 0) → D.nx σ' H') →
          tDrop (tBM K "list" rAppend (tVar 2) (tCons (tTup (tCons (tVar 5) (tCons (tVar 6) tNil))) tNil)) D [some (.ref a), some (.ref fa), some (.ref r), some (.int (0 + (i : Int))), some (.ref d), some (.int t), some (.int b), none, none, none] H6 := by
        intro b sb hb D hD
        refine ⟨.ref r, rfl, .inl ⟨rfl, _, SqL.of (sA _ _ er)⟩, _, rfl, _, rfl, by show 2 ≤ sizeLine; decide, fun u nu => ?_⟩
        have su : Same H6 (upd H6 u (.tup [.int t, .int b])) := same_upd nu
        refine ⟨r, _, _, rfl, rfl, su _ _ (sA _ _ er), ?_, ?_⟩
        · rw [List.length_map]
          exact small1000 (by omega)
        · refine hD _ _ ⟨qs ++ [(u, t, b)], _, _, _, _, ?_, rfl, ?_, ?_, ?_⟩
          · rw [List.length_append, hl]
            rfl
          · rw [upd_ne nrf]
            exact su _ _ (sA _ _ ef)
          · rw [upd_same, List.map_append]
            rfl
          · intro z hz
            rcases List.mem_append.mp hz with hz | hz
            · obtain ⟨h1, h2⟩ := hq z hz
              refine ⟨?_, h2⟩
              rw [upd_ne (ne_of h1 er (by intro z; cases z))]
              exact su _ _ (sA _ _ h1)
            · rw [List.mem_singleton.mp hz]
              refine ⟨?_, st, sb, hb⟩
              rw [upd_ne (ne_of_none (sA _ _ er) nu).symm]
              exact upd_same
      refine ⟨_, rfl, rfl, _, rfl, ite2 (fun e => ?_) (fun e => ?_)⟩
      · have m9 := modB gs[8] (n := 9) (by decide)
        have e6 : H6 d = some (.lst (gs.map V.int)) := s6 _ _ (s5 _ _ (s4 _ _ ed))
        refine ⟨.ref d, rfl, d, _, _, _, rfl, rfl, SqL.of e6, atD (j := 8) (by omega), _, _, rfl, rfl, by show (0 : Int) < 9; decide, _, _, rfl, rfl, ?_⟩
        refine fin (1 + gs[8] % 9) ?_ (by omega) _ ?_
        · refine Nat.lt_of_lt_of_le (show (1 + gs[8] % 9).natAbs < 2 ^ 4 by omega) (Nat.pow_le_pow_right (by decide) (by decide))
        · exact fun σ' H' p => p
      · have hb : b ≠ 0 := fun z => e (decide_eq_true (by rw [z]))
        dsimp only [tNext]
        refine fin b sb hb _ ?_
        exact fun σ' H' p => p
    · obtain ⟨qs, y3, y4, y5, y6, hl, rfl, ef, er, hq⟩ := p
      obtain ⟨⟨p0, t0, b0⟩, ⟨p1, t1, b1⟩, rfl⟩ := len2 hl
      obtain ⟨e0, st0, sb0, n0⟩ := hq (p0, t0, b0) (by simp)
      obtain ⟨e1, st1, sb1, n1⟩ := hq (p1, t1, b1) (by simp)
      have pick : ∀ (i : Nat) (x : V), [V.ref p0, V.ref p1][i]? = some x → ∃ p t b, x = .ref p ∧ H3 p = some (.tup [.int t, .int b]) ∧ [(t0, b0), (t1, b1)][i]? = some (t, b) ∧ b ≠ 0 ∧ Sm b := fun i x hx => by
        match i, hx with
        | 0, hx => cases hx; exact ⟨p0, t0, b0, rfl, e0, rfl, n0, sb0⟩
        | 1, hx => cases hx; exact ⟨p1, t1, b1, rfl, e1, rfl, n1, sb1⟩
        | _ + 2, hx => cases hx
      -- one, other
      refine ⟨_, rfl, r, rfl, ⟨_, SqL.of er⟩, fun D nD => ?_⟩
      refine lc_list (K := K) (a := r) (xs := [.ref p0, .ref p1]) (fun i H' => Same H3 H' ∧ ∃ us : List Addr, us.length = i ∧ H' D = some (.lst (us.map V.ref)) ∧ ∀ (j : Nat) (u : Addr) (t b : Int), us[j]? = some u → [(t0, b0), (t1, b1)][j]? = some (t, b) → H' u = some (.tup [.int (loT t b), .int (loB t b)]))
        ⟨same_upd nD, [], rfl, upd_same, fun j u t b h => by cases h⟩ (fun i H' _ p => SqL.of (p.1 _ _ er)) (fun i x H' hx p => ?_) (fun H' p => ?_)
      · obtain ⟨sm, us, hul, eD, hu⟩ := p
        obtain ⟨p, t, b, rfl, ep, epr, hb, hsb⟩ := pick i x hx
        refine ⟨p, [.int t, .int b], rfl, SqT.of (sm _ _ ep), rfl, _, _, rfl, _, _, rfl, rfl, rfl, yes (iteT ?_)⟩
        refine ⟨_, rfl, _, rfl, t, b, rfl, hb, sm4000 hsb, fun u nu => ?_⟩
        have su : Same H' (upd H' u (.tup [.int (loT t b), .int (loB t b)])) := same_upd nu
        have nDu : D ≠ u := ne_of_none eD nu
        refine ⟨us.map V.ref, su _ _ eD, ?_, ?_, us ++ [u], ?_, ?_, ?_⟩
        · rw [List.length_map]
          have hi : i < 2 := (List.getElem?_eq_some_iff.mp hx).1
          exact small1000 (by omega)
        · intro c o e
          rw [upd_ne (ne_of_none e nD)]
          exact su _ _ (sm _ _ e)
        · rw [List.length_append, hul]
          rfl
        · rw [upd_same, List.map_append]
          rfl
        · intro j v t' b' hv hp
          rcases Nat.lt_trichotomy j us.length with h | h | h
          · rw [List.getElem?_append_left h] at hv
            have z := hu j v t' b' hv hp
            rw [upd_ne (ne_of z eD (by intro z; cases z))]
            exact su _ _ z
          · subst h
            rw [List.getElem?_append_right (Nat.le_refl _), Nat.sub_self] at hv
            cases hv
            rw [hul] at hp
            cases epr.symm.trans hp
            rw [upd_ne nDu.symm]
            exact upd_same
          · rw [List.getElem?_eq_none (by rw [List.length_append]; show us.length + 1 ≤ j; omega)] at hv
            cases hv
      · obtain ⟨sm, us, hul, eD, hu⟩ := p
        obtain ⟨u0, u1, rfl⟩ := len2 hul
        have eu0 := hu 0 u0 t0 b0 rfl rfl
        have eu1 := hu 1 u1 t1 b1 rfl rfl
        have a0 : Sm (loT t0 b0) := st0.le (loT_le n0)
        have a1 : Sm (loB t0 b0) := sb0.le (loB_le n0)
        have c0 : Sm (loT t1 b1) := st1.le (loT_le n1)
        have c1 : Sm (loB t1 b1) := sb1.le (loB_le n1)
        have na : loB t0 b0 ≠ 0 := loB_ne n0
        have nc : loB t1 b1 ≠ 0 := loB_ne n1
        refine ⟨D, [.ref u0, .ref u1], rfl, SqL.of eD, rfl, _, _, rfl, _, _, rfl, rfl, ?_⟩
        -- the loop over both
        refine ⟨_, rfl, _, rfl, _, rfl, by show 2 ≤ sizeLine; decide, fun l nl => ?_⟩
        have sl : Same H' (upd H' l (.lst [.ref u0, .ref u1])) := same_upd nl
        have el : (upd H' l (.lst [.ref u0, .ref u1])) l = some (.lst [.ref u0, .ref u1]) := upd_same
        have erl := sl _ _ (sm _ _ er)
        have eu0l := sl _ _ eu0
        have eu1l := sl _ _ eu1
        have pk := fun i x hx => pick i x hx
        have sml : Same H3 (upd H' l (.lst [.ref u0, .ref u1])) := sm.trans sl
        generalize upd H' l (.lst [.ref u0, .ref u1]) = HL at sl el erl eu0l eu1l sml ⊢
        refine ⟨r, l, [.ref p0, .ref p1], [.ref u0, .ref u1], rfl, .inl ⟨SqL.of erl, SqL.of el, ?_⟩⟩
        refine RZ.for_zipL (K := K) (a := r) (b := l) (xs := [.ref p0, .ref p1]) (ys := [.ref u0, .ref u1]) rfl (fun i σ Hn => Same HL Hn ∧ ∃ (y5 y6 y9 : Option V), σ = [some (.ref a), some (.ref fa), some (.ref r), y3, y4, y5, y6, some (.ref u0), some (.ref u1), y9])
          ⟨Same.refl _, _, _, _, rfl⟩ (fun i σ Hn p => ⟨SqL.of (p.1 _ _ erl), SqL.of (p.1 _ _ el)⟩) (fun i x y T σ Hn hx hy p nT => ?_) (fun σ Hn p => ?_)
        · obtain ⟨sn, z5, z6, z9, rfl⟩ := p
          obtain ⟨p, t, b, rfl, ep, epr, hb, hsb⟩ := pick i x hx
          obtain ⟨u, rfl, eu⟩ : ∃ u, y = .ref u ∧ HL u = some (.tup [.int (loT t b), .int (loB t b)]) := by
            match i, hy, epr with
            | 0, hy, epr => cases hy; cases epr; exact ⟨u0, rfl, eu0l⟩
            | 1, hy, epr => cases hy; cases epr; exact ⟨u1, rfl, eu1l⟩
            | _ + 2, hy, _ => cases hy
          have sT : Same Hn (upd Hn T (.tup [.ref p, .ref u])) := same_upd nT
          refine ⟨T, [.ref p, .ref u], rfl, SqT.of upd_same, rfl, _, _, rfl, p, [.int t, .int b], rfl, SqT.of (sT _ _ (sn _ _ (sml _ _ ep))), rfl, _, _, rfl, _, _, rfl, rfl, _, _, rfl, rfl, ?_⟩
          have euT := sT _ _ (sn _ _ eu)
          have snT := sn.trans sT
          generalize upd Hn T (.tup [.ref p, .ref u]) = HT at euT snT ⊢
          refine ⟨_, rfl, _, rfl, t, b, rfl, hb, sm4000 hsb, fun v nv => ?_⟩
          have sv : Same HT (upd HT v (.tup [.int (loT t b), .int (loB t b)])) := same_upd nv
          refine ⟨_, rfl, _, _, rfl, Eqv.two upd_same (sv _ _ euT), fun H5 s5 => ?_⟩
          refine ⟨_, rfl, iteF ?_⟩
          refine ⟨_, rfl, 0, b, rfl, hb, sm4000 hsb, fun v2 nv2 => ?_⟩
          refine ⟨by show 2 ≤ sizeLine; decide, fun v3 nv3 => ?_⟩
          rw [loT_zero, loB_zero hb] at nv3 ⊢
          refine ⟨_, _, rfl, Eqv.two (x := 0) (y := 1) (same_upd nv3 _ _ upd_same) upd_same, fun H7 s7 => ?_⟩
          refine ⟨_, rfl, iteF ?_⟩
          exact ⟨snT.trans (sv.trans (s5.trans ((same_upd nv2).trans ((same_upd nv3).trans s7)))), _, _, _, rfl⟩
        · obtain ⟨sn, z5, z6, z9, rfl⟩ := p
          have e0n := sn _ _ eu0l
          have e1n := sn _ _ eu1l
          -- plus and times
          have two01 : ∀ {Hx : Hp}, Same Hn Hx → Two K Hx [.ref u0, .ref u1] (loT t0 b0) (loB t0 b0) (loT t1 b1) (loB t1 b1) := fun sx => ⟨u0, u1, rfl, SqT.of (sx _ _ e0n), SqT.of (sx _ _ e1n), ⟨a0, a1, c0, c1⟩, na, nc⟩
          have two10 : ∀ {Hx : Hp}, Same Hn Hx → Two K Hx [.ref u1, .ref u0] (loT t1 b1) (loB t1 b1) (loT t0 b0) (loB t0 b0) := fun sx => ⟨u1, u0, rfl, SqT.of (sx _ _ e1n), SqT.of (sx _ _ e0n), ⟨c0, c1, a0, a1⟩, nc, na⟩
          have two00 : ∀ {Hx : Hp}, Same Hn Hx → Two K Hx [.ref u0, .ref u0] (loT t0 b0) (loB t0 b0) (loT t0 b0) (loB t0 b0) := fun sx => ⟨u0, u0, rfl, SqT.of (sx _ _ e0n), SqT.of (sx _ _ e0n), ⟨a0, a1, a0, a1⟩, na, na⟩
          refine ⟨_, rfl, _, rfl, _, _, _, _, two01 (Same.refl _), fun v1 nv1 => ?_⟩
          have s1' := same_upd (o := .tup [.int (loT (loT t0 b0 * loB t1 b1 + loT t1 b1 * loB t0 b0) (loB t0 b0 * loB t1 b1)), .int (loB (loT t0 b0 * loB t1 b1 + loT t1 b1 * loB t0 b0) (loB t0 b0 * loB t1 b1))]) nv1
          refine ⟨_, rfl, _, rfl, _, _, _, _, two01 s1', fun v2 nv2 => ?_⟩
          refine ⟨_, _, rfl, Eqv.two (same_upd nv2 _ _ upd_same) upd_same, fun H5 s5 => ?_⟩
          refine ⟨_, rfl, iteF ?_⟩
          have k5 : Same Hn H5 := s1'.trans ((same_upd nv2).trans s5)
          refine ⟨_, rfl, _, rfl, _, _, _, _, two01 k5, fun v3 nv3 => ?_⟩
          have k6 := k5.trans (same_upd (o := .tup [.int (loT (loT t0 b0 * loT t1 b1) (loB t0 b0 * loB t1 b1)), .int (loB (loT t0 b0 * loT t1 b1) (loB t0 b0 * loB t1 b1))]) nv3)
          refine ⟨_, rfl, _, rfl, _, _, _, _, two01 k6, fun v4 nv4 => ?_⟩
          refine ⟨_, _, rfl, Eqv.two (same_upd nv4 _ _ upd_same) upd_same, fun H7 s7 => ?_⟩
          refine ⟨_, rfl, iteF ?_⟩
          have k7 : Same Hn H7 := k6.trans ((same_upd nv4).trans s7)
          -- minus
          refine ⟨_, rfl, _, rfl, _, _, _, _, two01 k7, fun v5 nv5 => ?_⟩
          have k8 := k7.trans (same_upd (o := .tup [.int (loT (loT t0 b0 * loB t1 b1 - loT t1 b1 * loB t0 b0) (loB t0 b0 * loB t1 b1)), .int (loB (loT t0 b0 * loB t1 b1 - loT t1 b1 * loB t0 b0) (loB t0 b0 * loB t1 b1))]) nv5)
          refine ⟨_, rfl, _, rfl, u1, _, _, _, rfl, rfl, SqT.of (k8 _ _ e1n), at0 _ _, _, _, rfl, rfl, _, rfl, u1, _, _, _, rfl, rfl, SqT.of (k8 _ _ e1n), at1 _ _, by show 2 ≤ sizeLine; decide, fun v6 nv6 => ?_⟩
          have k9 := k8.trans (same_upd (o := .tup [.int (0 - loT t1 b1), .int (loB t1 b1)]) nv6)
          refine ⟨_, _, _, _, ⟨u0, v6, rfl, SqT.of (k9 _ _ e0n), SqT.of upd_same, ⟨a0, a1, c0.le (by omega), c1⟩, na, nc⟩, fun v7 nv7 => ?_⟩
          have em : loT t0 b0 * loB t1 b1 + (0 - loT t1 b1) * loB t0 b0 = loT t0 b0 * loB t1 b1 - loT t1 b1 * loB t0 b0 := by
            rw [Int.sub_mul, Int.zero_mul]
            omega
          refine ⟨_, _, rfl, Eqv.two (same_upd nv7 _ _ (same_upd nv6 _ _ upd_same)) (by rw [upd_same]; dsimp only; rw [em]), fun H9 s9 => ?_⟩
          refine ⟨_, rfl, iteF ?_⟩
          have kA : Same Hn H9 := k9.trans ((same_upd nv7).trans s9)
          -- less
          refine ⟨_, rfl, _, rfl, _, _, _, _, two01 kA, ?_⟩
          refine ⟨_, rfl, _, rfl, _, _, _, _, two01 kA, ?_⟩
          refine ⟨_, _, rfl, .bl _, fun HA sA => ?_⟩
          refine ⟨_, rfl, iteF ?_⟩
          have kB := kA.trans sA
          refine ⟨_, rfl, _, rfl, _, _, _, _, two00 kB, ?_⟩
          rw [decide_eq_false (Int.lt_irrefl _)]
          refine ⟨_, _, rfl, .bl _, fun HB sB => ?_⟩
          refine ⟨_, rfl, iteF ?_⟩
          have kC := kB.trans sB
          refine ⟨_, rfl, _, rfl, _, _, _, _, two10 kC, ?_⟩
          refine ⟨_, rfl, _, rfl, _, _, _, _, two10 kC, ?_⟩
          refine ⟨_, _, rfl, .bl _, fun HC sC => ?_⟩
          refine ⟨_, rfl, iteT ?_⟩
          have kD := kC.trans sC
          refine ⟨_, rfl, _, rfl, _, _, _, _, two00 kD, fun v8 nv8 => ?_⟩
          refine ⟨by show 2 ≤ sizeLine; decide, fun v9 nv9 => ?_⟩
          dsimp only at nv9 ⊢
          rw [Int.sub_self, loT_zero, loB_zero (mulNe na na)] at nv9 ⊢
          refine ⟨_, _, rfl, Eqv.two (x := 0) (y := 1) (same_upd nv9 _ _ upd_same) upd_same, fun HE sE => q _⟩
end
end DK
namespace DK
open PySem PySem.Spec PyProof.Rows L2
/-! ### what the top has written -/
theorem all_mk {l : PySem.W.OpenLaw} {w : World} {K : PySem.W.Frag} {h : Heap} {mg : Str → Option Value} {fa : Addr} (X : K.In h) (G : h.Ns mainGlobals mg) (hfa : mg "law" = some (.ref fa))
    {f1 : Addr} {od1 an1 : Option Addr} {sl1 : Array (Option Value)} {oc1 kV1 dc1 pm1 cd1 ct1 : Value}
    (a1 : PySem.W.nsIn K mainGlobals "common_measure" = some (some (.ref f1))) (l1 : K.lookup f1 = some ⟨oc1, od1, .func (PySem.W.fnOf "common_measure" "common_measure" (defArgs sCM) (defBody sCM) (defScope sCM) .none kV1 dc1 pm1 an1 cd1 ct1), sl1⟩) (c1 : PySem.W.codeIn K cd1 "common_measure" = true) (k1 : PySem.W.keepIn K (.ref f1) = true)
    {f2 : Addr} {od2 an2 : Option Addr} {sl2 : Array (Option Value)} {oc2 kV2 dc2 pm2 cd2 ct2 : Value}
    (a2 : PySem.W.nsIn K mainGlobals "part" = some (some (.ref f2))) (l2 : K.lookup f2 = some ⟨oc2, od2, .func (PySem.W.fnOf "part" "part" (defArgs sPart) (defBody sPart) (defScope sPart) .none kV2 dc2 pm2 an2 cd2 ct2), sl2⟩) (c2 : PySem.W.codeIn K cd2 "part" = true) (k2 : PySem.W.keepIn K (.ref f2) = true)
    {f3 : Addr} {od3 an3 : Option Addr} {sl3 : Array (Option Value)} {oc3 kV3 dc3 pm3 cd3 ct3 : Value}
    (a3 : PySem.W.nsIn K mainGlobals "plus" = some (some (.ref f3))) (l3 : K.lookup f3 = some ⟨oc3, od3, .func (PySem.W.fnOf "plus" "plus" (defArgs sPlus) (defBody sPlus) (defScope sPlus) .none kV3 dc3 pm3 an3 cd3 ct3), sl3⟩) (c3 : PySem.W.codeIn K cd3 "plus" = true) (k3 : PySem.W.keepIn K (.ref f3) = true)
    {f4 : Addr} {od4 an4 : Option Addr} {sl4 : Array (Option Value)} {oc4 kV4 dc4 pm4 cd4 ct4 : Value}
    (a4 : PySem.W.nsIn K mainGlobals "minus" = some (some (.ref f4))) (l4 : K.lookup f4 = some ⟨oc4, od4, .func (PySem.W.fnOf "minus" "minus" (defArgs sMinus) (defBody sMinus) (defScope sMinus) .none kV4 dc4 pm4 an4 cd4 ct4), sl4⟩) (c4 : PySem.W.codeIn K cd4 "minus" = true) (k4 : PySem.W.keepIn K (.ref f4) = true)
    {f5 : Addr} {od5 an5 : Option Addr} {sl5 : Array (Option Value)} {oc5 kV5 dc5 pm5 cd5 ct5 : Value}
    (a5 : PySem.W.nsIn K mainGlobals "times" = some (some (.ref f5))) (l5 : K.lookup f5 = some ⟨oc5, od5, .func (PySem.W.fnOf "times" "times" (defArgs sTimes) (defBody sTimes) (defScope sTimes) .none kV5 dc5 pm5 an5 cd5 ct5), sl5⟩) (c5 : PySem.W.codeIn K cd5 "times" = true) (k5 : PySem.W.keepIn K (.ref f5) = true)
    {f6 : Addr} {od6 an6 : Option Addr} {sl6 : Array (Option Value)} {oc6 kV6 dc6 pm6 cd6 ct6 : Value}
    (a6 : PySem.W.nsIn K mainGlobals "less" = some (some (.ref f6))) (l6 : K.lookup f6 = some ⟨oc6, od6, .func (PySem.W.fnOf "less" "less" (defArgs sLess) (defBody sLess) (defScope sLess) .none kV6 dc6 pm6 an6 cd6 ct6), sl6⟩) (c6 : PySem.W.codeIn K cd6 "less" = true) (k6 : PySem.W.keepIn K (.ref f6) = true)
    {f7 : Addr} {od7 an7 : Option Addr} {sl7 : Array (Option Value)} {oc7 kV7 dc7 pm7 cd7 ct7 : Value}
    (a7 : PySem.W.nsIn K mainGlobals "_law_feed" = some (some (.ref f7))) (l7 : K.lookup f7 = some ⟨oc7, od7, .func (PySem.W.fnOf "_law_feed" "_law_feed" (defArgs sFeed) (defBody sFeed) (defScope sFeed) .none kV7 dc7 pm7 an7 cd7 ct7), sl7⟩) (c7 : PySem.W.codeIn K cd7 "_law_feed" = true) (k7 : PySem.W.keepIn K (.ref f7) = true)
    {f8 : Addr} {od8 an8 : Option Addr} {sl8 : Array (Option Value)} {oc8 kV8 dc8 pm8 cd8 ct8 : Value}
    (a8 : PySem.W.nsIn K mainGlobals "_law_same" = some (some (.ref f8))) (l8 : K.lookup f8 = some ⟨oc8, od8, .func (PySem.W.fnOf "_law_same" "_law_same" (defArgs sSame) (defBody sSame) (defScope sSame) .none kV8 dc8 pm8 an8 cd8 ct8), sl8⟩) (c8 : PySem.W.codeIn K cd8 "_law_same" = true) (k8 : PySem.W.keepIn K (.ref f8) = true)
    {f9 : Addr} {od9 an9 : Option Addr} {sl9 : Array (Option Value)} {oc9 kV9 dc9 pm9 cd9 ct9 : Value}
    (a9 : PySem.W.nsIn K mainGlobals "_law_low" = some (some (.ref f9))) (l9 : K.lookup f9 = some ⟨oc9, od9, .func (PySem.W.fnOf "_law_low" "_law_low" (defArgs sLow) (defBody sLow) (defScope sLow) .none kV9 dc9 pm9 an9 cd9 ct9), sl9⟩) (c9 : PySem.W.codeIn K cd9 "_law_low" = true) (k9 : PySem.W.keepIn K (.ref f9) = true)
    {f10 : Addr} {od10 an10 : Option Addr} {sl10 : Array (Option Value)} {oc10 kV10 dc10 pm10 cd10 ct10 : Value}
    (a10 : PySem.W.nsIn K mainGlobals "_law_add" = some (some (.ref f10))) (l10 : K.lookup f10 = some ⟨oc10, od10, .func (PySem.W.fnOf "_law_add" "_law_add" (defArgs sAdd) (defBody sAdd) (defScope sAdd) .none kV10 dc10 pm10 an10 cd10 ct10), sl10⟩) (c10 : PySem.W.codeIn K cd10 "_law_add" = true) (k10 : PySem.W.keepIn K (.ref f10) = true)
    {f11 : Addr} {od11 an11 : Option Addr} {sl11 : Array (Option Value)} {oc11 kV11 dc11 pm11 cd11 ct11 : Value}
    (a11 : PySem.W.nsIn K mainGlobals "_law_mul" = some (some (.ref f11))) (l11 : K.lookup f11 = some ⟨oc11, od11, .func (PySem.W.fnOf "_law_mul" "_law_mul" (defArgs sMul) (defBody sMul) (defScope sMul) .none kV11 dc11 pm11 an11 cd11 ct11), sl11⟩) (c11 : PySem.W.codeIn K cd11 "_law_mul" = true) (k11 : PySem.W.keepIn K (.ref f11) = true)
    {f12 : Addr} {od12 an12 : Option Addr} {sl12 : Array (Option Value)} {oc12 kV12 dc12 pm12 cd12 ct12 : Value}
    (a12 : PySem.W.nsIn K mainGlobals "_law_less" = some (some (.ref f12))) (l12 : K.lookup f12 = some ⟨oc12, od12, .func (PySem.W.fnOf "_law_less" "_law_less" (defArgs sLLess) (defBody sLLess) (defScope sLLess) .none kV12 dc12 pm12 an12 cd12 ct12), sl12⟩) (c12 : PySem.W.codeIn K cd12 "_law_less" = true) (k12 : PySem.W.keepIn K (.ref f12) = true)
    {f13 : Addr} {od13 an13 : Option Addr} {sl13 : Array (Option Value)} {oc13 kV13 dc13 pm13 cd13 ct13 : Value}
    (a13 : PySem.W.nsIn K mainGlobals "_law_big" = some (some (.ref f13))) (l13 : K.lookup f13 = some ⟨oc13, od13, .func (PySem.W.fnOf "_law_big" "_law_big" (defArgs sBig) (defBody sBig) (defScope sBig) .none kV13 dc13 pm13 an13 cd13 ct13), sl13⟩) (c13 : PySem.W.codeIn K cd13 "_law_big" = true) (k13 : PySem.W.keepIn K (.ref f13) = true)
    {f14 : Addr} {od14 an14 : Option Addr} {sl14 : Array (Option Value)} {oc14 kV14 dc14 pm14 cd14 ct14 : Value}
    (a14 : PySem.W.nsIn K mainGlobals "law" = some (some (.ref f14))) (l14 : K.lookup f14 = some ⟨oc14, od14, .func (PySem.W.fnOf "law" "law" (defArgs sLaw) (defBody sLaw) (defScope sLaw) .none kV14 dc14 pm14 an14 cd14 ct14), sl14⟩) (c14 : PySem.W.codeIn K cd14 "law" = true) (k14 : PySem.W.keepIn K (.ref f14) = true)
    (z1 : PySem.W.nsIn K mainGlobals "abs" = some none)
    (z2 : PySem.W.nsIn K mainGlobals "range" = some none)
    (z3 : PySem.W.nsIn K mainGlobals "len" = some none)
    (z4 : PySem.W.nsIn K mainGlobals "isinstance" = some none)
    (z5 : PySem.W.nsIn K mainGlobals "bool" = some none)
    (z6 : PySem.W.nsIn K mainGlobals "list" = some none)
    (z7 : PySem.W.nsIn K mainGlobals "tuple" = some none)
    (z8 : PySem.W.nsIn K mainGlobals "all" = some none)
    (z9 : PySem.W.nsIn K mainGlobals "zip" = some none)
    (z10 : PySem.W.nsIn K mainGlobals "str" = some none)
    (z11 : PySem.W.nsIn K mainGlobals "int" = some none)
    : ∃ fd : FuncData, (∀ (s : Shared) (v : Value), BindsTo s fd ⟨[v], []⟩ [("_law_script", v)]) ∧ ∀ base : Heap, K.In base → base.Ns mainGlobals mg → FnOk l.prog w K mg base CX0 4 fa fd ["_law_script"] (spLaw K) := by
  have e := hfa.symm.trans (PySem.W.mg_of X G a14)
  cases e
  have F1 := fun_mk (st := sCM) l1 c1 k1
  have b1 := F1.binds (ps := ["first", "second"]) fun _ _ _ _ _ _ us hl => match us, hl with | [_, _], _ => rfl
  have g1 := PySem.W.mg_of X G a1
  have F2 := fun_mk (st := sPart) l2 c2 k2
  have b2 := F2.binds (ps := ["top", "bottom"]) fun _ _ _ _ _ _ us hl => match us, hl with | [_, _], _ => rfl
  have g2 := PySem.W.mg_of X G a2
  have F3 := fun_mk (st := sPlus) l3 c3 k3
  have b3 := F3.binds (ps := ["a", "b"]) fun _ _ _ _ _ _ us hl => match us, hl with | [_, _], _ => rfl
  have g3 := PySem.W.mg_of X G a3
  have F4 := fun_mk (st := sMinus) l4 c4 k4
  have b4 := F4.binds (ps := ["a", "b"]) fun _ _ _ _ _ _ us hl => match us, hl with | [_, _], _ => rfl
  have g4 := PySem.W.mg_of X G a4
  have F5 := fun_mk (st := sTimes) l5 c5 k5
  have b5 := F5.binds (ps := ["a", "b"]) fun _ _ _ _ _ _ us hl => match us, hl with | [_, _], _ => rfl
  have g5 := PySem.W.mg_of X G a5
  have F6 := fun_mk (st := sLess) l6 c6 k6
  have b6 := F6.binds (ps := ["a", "b"]) fun _ _ _ _ _ _ us hl => match us, hl with | [_, _], _ => rfl
  have g6 := PySem.W.mg_of X G a6
  have F7 := fun_mk (st := sFeed) l7 c7 k7
  have b7 := F7.binds (ps := ["_law_script", "_law_many"]) fun _ _ _ _ _ _ us hl => match us, hl with | [_, _], _ => rfl
  have g7 := PySem.W.mg_of X G a7
  have F8 := fun_mk (st := sSame) l8 c8 k8
  have b8 := F8.binds (ps := ["_law_found", "_law_due"]) fun _ _ _ _ _ _ us hl => match us, hl with | [_, _], _ => rfl
  have g8 := PySem.W.mg_of X G a8
  have F9 := fun_mk (st := sLow) l9 c9 k9
  have b9 := F9.binds (ps := ["_law_top", "_law_bottom"]) fun _ _ _ _ _ _ us hl => match us, hl with | [_, _], _ => rfl
  have g9 := PySem.W.mg_of X G a9
  have F10 := fun_mk (st := sAdd) l10 c10 k10
  have b10 := F10.binds (ps := ["_law_a", "_law_b"]) fun _ _ _ _ _ _ us hl => match us, hl with | [_, _], _ => rfl
  have g10 := PySem.W.mg_of X G a10
  have F11 := fun_mk (st := sMul) l11 c11 k11
  have b11 := F11.binds (ps := ["_law_a", "_law_b"]) fun _ _ _ _ _ _ us hl => match us, hl with | [_, _], _ => rfl
  have g11 := PySem.W.mg_of X G a11
  have F12 := fun_mk (st := sLLess) l12 c12 k12
  have b12 := F12.binds (ps := ["_law_a", "_law_b"]) fun _ _ _ _ _ _ us hl => match us, hl with | [_, _], _ => rfl
  have g12 := PySem.W.mg_of X G a12
  have F13 := fun_mk (st := sBig) l13 c13 k13
  have b13 := F13.binds (ps := ["_law_d"]) fun _ _ _ _ _ _ us hl => match us, hl with | [_], _ => rfl
  have g13 := PySem.W.mg_of X G a13
  have F14 := fun_mk (st := sLaw) l14 c14 k14
  have m1 := PySem.W.mg_none_of X G z1
  have m2 := PySem.W.mg_none_of X G z2
  have m3 := PySem.W.mg_none_of X G z3
  have m4 := PySem.W.mg_none_of X G z4
  have m5 := PySem.W.mg_none_of X G z5
  have m6 := PySem.W.mg_none_of X G z6
  have m7 := PySem.W.mg_none_of X G z7
  have m8 := PySem.W.mg_none_of X G z8
  have m9 := PySem.W.mg_none_of X G z9
  have m10 := PySem.W.mg_none_of X G z10
  have m11 := PySem.W.mg_none_of X G z11
  refine ⟨PySem.W.fnOf "law" "law" (defArgs sLaw) (defBody sLaw) (defScope sLaw) .none kV14 dc14 pm14 an14 cd14 ct14, fun s v => .of_eq rfl, fun base _ _ => ?_⟩
  have GP : FnOk l.prog w K mg base CX0 2 f2 _ ["top", "bottom"] spPart := ok_part F2 F1 b1 g1 m1
  have GL : FnOk l.prog w K mg base CX0 1 f9 _ ["_law_top", "_law_bottom"] spPart := ok_low F9 m1
  have GS : FnOk l.prog w K mg base CX0 2 f8 _ ["_law_found", "_law_due"] (spSame 1) := ok_same F8 b8 g8 ⟨m4, m5, m6, m7, m3, m8, m9, m10, m11⟩ 1
  exact ok_law F14 ⟨m2, m9, ⟨_, _, ok_feed F7 m2 m3, g7, k7, b7⟩, ⟨_, _, GS, g8, k8, b8⟩, ⟨_, _, GL, g9, k9, b9⟩, ⟨_, _, ok_add F10 F9 b9 g9 GL, g10, k10, b10⟩, ⟨_, _, ok_mul F11 F9 b9 g9 GL, g11, k11, b11⟩, ⟨_, _, ok_lless F12, g12, k12, b12⟩, ⟨_, _, ok_big F13, g13, k13, b13⟩, ⟨_, _, GP, g2, k2, b2⟩, ⟨_, _, ok_plus F3 F2 b2 g2 GP, g3, k3, b3⟩, ⟨_, _, ok_minus F4 F2 b2 g2 GP, g4, k4, b4⟩, ⟨_, _, ok_times F5 F2 b2 g2 GP, g5, k5, b5⟩, ⟨_, _, ok_less F6, g6, k6, b6⟩⟩
end DK
open PySem PySem.W PyProof.Rows
set_option maxHeartbeats 0 in
theorem PySem.Challenge.cw_dunnage_k01_parts_reckoned_holds : PySem.Challenge.rw_dunnage_k01_parts_reckoned.Holds := by
  w_on; o_law; k_head; (case hw => w_witness2)
  k_fill
  refine L2.walk_of (l := PySem.Challenge.rw_dunnage_k01_parts_reckoned) (n := 63) (k := 4) (x := "_law_script") (CX := fun _ => L2.CX0) (sp := fun w => DK.spLaw _) rfl (by decide) rfl ⟨rfl, by decide, by decide⟩ (fun w h Y => PySem.W.kIn_of Y) ?F (fun _ _ a ns hl _ hS => ⟨a, ns, rfl, hS, fun _ => rfl⟩) (fun _ _ _ _ _ h => h)
  case F =>
    intro w mg fa h KX G hmg
    refine' DK.all_mk KX G hmg ?a1 ?l1 ?c1 ?k1 ?a2 ?l2 ?c2 ?k2 ?a3 ?l3 ?c3 ?k3 ?a4 ?l4 ?c4 ?k4 ?a5 ?l5 ?c5 ?k5 ?a6 ?l6 ?c6 ?k6 ?a7 ?l7 ?c7 ?k7 ?a8 ?l8 ?c8 ?k8 ?a9 ?l9 ?c9 ?k9 ?a10 ?l10 ?c10 ?k10 ?a11 ?l11 ?c11 ?k11 ?a12 ?l12 ?c12 ?k12 ?a13 ?l13 ?c13 ?k13 ?a14 ?l14 ?c14 ?k14 ?z1 ?z2 ?z3 ?z4 ?z5 ?z6 ?z7 ?z8 ?z9 ?z10 ?z11
    (case a1 => k_is); (case l1 => k_is); (case c1 => k_is); (case k1 => k_is); (case a2 => k_is); (case l2 => k_is); (case c2 => k_is); (case k2 => k_is); (case a3 => k_is); (case l3 => k_is); (case c3 => k_is); (case k3 => k_is); (case a4 => k_is); (case l4 => k_is); (case c4 => k_is); (case k4 => k_is); (case a5 => k_is); (case l5 => k_is); (case c5 => k_is); (case k5 => k_is); (case a6 => k_is); (case l6 => k_is); (case c6 => k_is); (case k6 => k_is); (case a7 => k_is); (case l7 => k_is); (case c7 => k_is); (case k7 => k_is); (case a8 => k_is); (case l8 => k_is); (case c8 => k_is); (case k8 => k_is); (case a9 => k_is); (case l9 => k_is); (case c9 => k_is); (case k9 => k_is); (case a10 => k_is); (case l10 => k_is); (case c10 => k_is); (case k10 => k_is); (case a11 => k_is); (case l11 => k_is); (case c11 => k_is); (case k11 => k_is); (case a12 => k_is); (case l12 => k_is); (case c12 => k_is); (case k12 => k_is); (case a13 => k_is); (case l13 => k_is); (case c13 => k_is); (case k13 => k_is); (case a14 => k_is); (case l14 => k_is); (case c14 => k_is); (case k14 => k_is); (case z1 => k_is); (case z2 => k_is); (case z3 => k_is); (case z4 => k_is); (case z5 => k_is); (case z6 => k_is); (case z7 => k_is); (case z8 => k_is); (case z9 => k_is); (case z10 => k_is); (case z11 => k_is)
