/-
  Rows.WideShiftsSaid: for every number of package wide and every two places of 8 bits the statement WideShifts answers true and leaves its arguments as they were. No condition.
-/
import Derived.Test.YtinmjloidablnaaWideShNH
import Derived.Test.YtinmjloidablnaaWideShNL
import Derived.Test.YtinmjloidablnaaWideShNZ
import Derived.Test.YtinmjloidablnaaWideShFH
import Derived.Test.YtinmjloidablnaaWideShFL
import Derived.Test.YtinmjloidablnaaWideShFZ
import Derived.Test.YtinmjloidablnaaWideP
import Derived.Lib.SmallJoins
namespace Go.Proofs.Ytinmjloidablnaa
open Go.RowKit
set_option linter.unusedVariables false

theorem shiftsWalk (A n m : Int) (ha : Rng A) (n0 : 0 ≤ n) (n1 : n ≤ 255) (m0 : 0 ≤ m) (m1 : m ≤ 255) (w : World) :
    Calls Try.prog 5 #[.agg #[.int .u64 (hi A), .int .u64 (lo A)], .int .u8 n, .int .u8 m] w (fun e w' => e = .returned (.bool true) ∧ Below w.heap.size w w') := by
  have eM := e_mul A n
  have eG := e_left A n m n0 m0
  have eS := e_right A n m n0 m0
  have eB := e_bit A n m n0 m0
  have eQ := e_low A n ha
  by_cases fn : n < 128
  · have eC := e_cmp A n n0 fn
    by_cases z : hi A = 0
    · by_cases y : lo A = 0
      · have zA : A = 0 := by rw [← hilo A, z, y]; rfl
        exact shiftsWalkN0 A n m _ _ _ _ _ _ _ ha n0 n1 m0 m1 fn (rng_md _) (rng_div ha _) (rng_md _) (rng_md _) (Lib.hid rfl) (Lib.hid rfl) (Lib.hid rfl) _ (rng_low A n ha) (Lib.hid eC) (Lib.hid eQ) (Lib.hid rfl) (Lib.hid eM) (Lib.hid eG) (Lib.hid rfl) (Lib.hid eS) (Lib.hid rfl) (Lib.hid eB) (Lib.hid rfl)
          (Lib.hid (by rw [zA]; exact len_zero)) (by simp [z]) (by simp [y]) w
      · have nA : A ≠ 0 := fun q => y (by rw [q]; exact l00)
        obtain ⟨k1, k2, _, _⟩ := len_spec A ha nA
        exact shiftsWalkNl A n m _ _ _ _ _ _ _ _ ha n0 n1 m0 m1 fn (rng_md _) (rng_div ha _) (rng_md _) (rng_md _) (Lib.hid rfl) (Lib.hid rfl) (Lib.hid rfl) _ (rng_low A n ha) (Lib.hid eC) (Lib.hid eQ) (Lib.hid rfl) (Lib.hid eM) (Lib.hid eG) (Lib.hid rfl) (Lib.hid eS) (Lib.hid rfl) (Lib.hid eB) (Lib.hid rfl)
          (Lib.hid rfl) (by simpa using y) (by simp; omega) k1 k2 (Lib.hid (len_bit A ha nA)) (Lib.hid (len_out A ha nA)) w
    · have nA : A ≠ 0 := fun q => z (by rw [q]; exact h00)
      obtain ⟨k1, k2, _, _⟩ := len_spec A ha nA
      exact shiftsWalkNh A n m _ _ _ _ _ _ _ _ ha n0 n1 m0 m1 fn (rng_md _) (rng_div ha _) (rng_md _) (rng_md _) (Lib.hid rfl) (Lib.hid rfl) (Lib.hid rfl) _ (rng_low A n ha) (Lib.hid eC) (Lib.hid eQ) (Lib.hid rfl) (Lib.hid eM) (Lib.hid eG) (Lib.hid rfl) (Lib.hid eS) (Lib.hid rfl) (Lib.hid eB) (Lib.hid rfl)
        (Lib.hid rfl) (by simpa using z) (by simp; omega) k1 k2 (Lib.hid (len_bit A ha nA)) (Lib.hid (len_out A ha nA)) w
  · have fn : 128 ≤ n := by omega
    rw [e_low_far A n ha fn] at eQ
    by_cases z : hi A = 0
    · by_cases y : lo A = 0
      · have zA : A = 0 := by rw [← hilo A, z, y]; rfl
        exact shiftsWalkF0 A n m _ _ _ _ _ _ _ ha n0 n1 m0 m1 fn (rng_md _) (rng_div ha _) (rng_md _) (rng_md _) (Lib.hid rfl) (Lib.hid rfl) (Lib.hid rfl) (Lib.hid eQ) (Lib.hid rfl) (Lib.hid eM) (Lib.hid eG) (Lib.hid rfl) (Lib.hid eS) (Lib.hid rfl) (Lib.hid eB) (Lib.hid rfl)
          (Lib.hid (by rw [zA]; exact len_zero)) (by simp [z]) (by simp [y]) w
      · have nA : A ≠ 0 := fun q => y (by rw [q]; exact l00)
        obtain ⟨k1, k2, _, _⟩ := len_spec A ha nA
        exact shiftsWalkFl A n m _ _ _ _ _ _ _ _ ha n0 n1 m0 m1 fn (rng_md _) (rng_div ha _) (rng_md _) (rng_md _) (Lib.hid rfl) (Lib.hid rfl) (Lib.hid rfl) (Lib.hid eQ) (Lib.hid rfl) (Lib.hid eM) (Lib.hid eG) (Lib.hid rfl) (Lib.hid eS) (Lib.hid rfl) (Lib.hid eB) (Lib.hid rfl)
          (Lib.hid rfl) (by simpa using y) (by simp; omega) k1 k2 (Lib.hid (len_bit A ha nA)) (Lib.hid (len_out A ha nA)) w
    · have nA : A ≠ 0 := fun q => z (by rw [q]; exact h00)
      obtain ⟨k1, k2, _, _⟩ := len_spec A ha nA
      exact shiftsWalkFh A n m _ _ _ _ _ _ _ _ ha n0 n1 m0 m1 fn (rng_md _) (rng_div ha _) (rng_md _) (rng_md _) (Lib.hid rfl) (Lib.hid rfl) (Lib.hid rfl) (Lib.hid eQ) (Lib.hid rfl) (Lib.hid eM) (Lib.hid eG) (Lib.hid rfl) (Lib.hid eS) (Lib.hid rfl) (Lib.hid eB) (Lib.hid rfl)
        (Lib.hid rfl) (by simpa using z) (by simp; omega) k1 k2 (Lib.hid (len_bit A ha nA)) (Lib.hid (len_out A ha nA)) w
end Go.Proofs.Ytinmjloidablnaa
namespace Go.Proofs.Ytinmjloidablnaa.wideShifts
open Go.ChangeShapes Go.WideShapes Go.ChangeAt Go.RowKit Go.Joins
set_option linter.unusedVariables false

set_option maxRecDepth 100000 in
theorem lifted (os : Os) (started : os.Started) (H : Type) (enc : TypeId × Value → H) :
    ReturnsInHanded {} Try.checked os 5 .any (Rows.wideShiftsSpec.pre6 enc Try.prog Try.f5 Rows.wideShiftsRow.domain false) (Rows.wideShiftsSpec.post enc Try.prog Try.f5 false true false false) := by
  refine returnsInHanded_of_change (C := Try.checked) own started (by kernel_rfl) Try.func5
    (ChangeSpec.witness6 (enc := enc) (C := Try.checked) false ⟨#[], #[.agg #[.int .u64 0, .int .u64 0], .int .u8 0, .int .u8 0], []⟩ 8 (by kernel_rfl) (by kernel_rfl) (by kernel_rfl) (by kernel_rfl)) ?_
  intro W base args ds gs before hval0 hW hcnd _
  have hval : ∀ (j : Nat) t v, Try.f5.params[j]? = some t → args[j]? = some v → Value.okWide Try.prog W .any base t v := hval0
  have hW' := hW
  obtain ⟨p, q, hA0, hV, rfl, hfz, hnd⟩ := hW
  have hA : DataW.TrodAll enc Try.prog W 0 (fun _ => true) true Try.f5.params.toList args.toList ds p := hA0
  rw [Try.params5] at hA hval
  obtain ⟨v0, v1, v2, d0, d1, d2, p0, p1, p2, rfl, rfl, rfl, h0, h1, h2⟩ := trodAll_three hA
  obtain ⟨rfl, rfl⟩ := trodVars_none hV
  obtain ⟨A, ra, rfl, rfl, rfl, sa⟩ := openU (hval 0 24 v0 rfl rfl) h0
  obtain ⟨n, rfl, rfl, rfl, wn⟩ := open_int Try.underlying5 (hval 1 5 v1 rfl rfl) h1
  obtain ⟨m, rfl, rfl, rfl, wm⟩ := open_int Try.underlying5 (hval 2 5 v2 rfl rfl) h2
  have bn := bounds_u8 wn
  have bm := bounds_u8 wm
  clear hA0 hval0
  simp only [List.append_nil] at hW'
  refine (shiftsWalk A n m ra bn.1 bn.2 bm.1 bm.2 W).mono fun e W' ⟨he, hb⟩ => ?_
  subst he
  exact ⟨_, rfl, post_of_below (pa := []) (pv := []) hW' (fun _ _ _ => trodAll_mk1 (shut_bool Try.underlying4 _)) (fun sp _ => trodAll_mk3 (sa _ sp) (shut_int Try.underlying5 wn) (shut_int Try.underlying5 wm)) (fun _ _ => rfl) rfl
    hb (ok_one (by kernel_rfl) rfl (okWide_bool_mk Try.underlying4 _))⟩

theorem over : Rows.wideShiftsRow.holds Try.pinned (OpenSpec.ofChange Rows.wideShiftsSpec) :=
  OpenClaim.holds_of_wide 5 Try.f5 rfl rfl rfl rfl rfl rfl rfl ⟨rfl, rfl, rfl, rfl, rfl⟩ rfl rfl rfl rfl rfl (by kernel_rfl) Try.func5 (by kernel_rfl)
    (of_decide_eq_true (by kernel_rfl)) (by unfold Func.isWrapper; first | (rw [if_pos (by decide +kernel)]; kernel_rfl) | (rw [if_neg (by decide +kernel)]; exact ⟨rfl, rfl⟩))
    (fun os started H enc _ => lifted os started H enc)
end Go.Proofs.Ytinmjloidablnaa.wideShifts
namespace Go.Proofs.Ytinmjloidablnaa
theorem wideShifts_holds : Rows.WideShiftsSaid := wideShifts.over
#print axioms wideShifts_holds
end Go.Proofs.Ytinmjloidablnaa
