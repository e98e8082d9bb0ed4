/-
  Rows.PcgBackSaid: for every state the statement PcgBack answers true and leaves its arguments as they are. It stands on no condition.
-/
import Derived.Test.YthnmekieanndgaaPcgBackW
import Derived.Test.YthnmekieanndgaaPcgX
namespace Go.Proofs.Ythnmekieanndgaa.pcgBack
open Go.ChangeShapes Go.WideShapes Go.ChangeAt Go.RowKit Go.Joins
set_option linter.unusedVariables false

set_option maxRecDepth 100000 in
theorem lifted (os : Os) (started : os.Started) (H : Type) (enc : TypeId × Value → H) :
    ReturnsInHanded {} Try.checked os 5 .any (Rows.pcgBackSpec.pre6 enc Try.prog Try.f5 Rows.pcgBackRow.domain false) (Rows.pcgBackSpec.post enc Try.prog Try.f5 false true false false) := by
  refine returnsInHanded_of_change (C := Try.checked) own started (by kernel_rfl) Try.func5
    (ChangeSpec.witness6 (enc := enc) (C := Try.checked) false ⟨#[], #[.agg #[.int .u64 0, .int .u64 0, .int .u64 0, .int .u64 0]], []⟩ 8 (by kernel_rfl) (by kernel_rfl) (by kernel_rfl) (by kernel_rfl)) ?_
  intro W base args ds gs before hval0 hW hcnd _
  have hval : ∀ (j : Nat) t v, Try.f5.params[j]? = some t → args[j]? = some v → Value.okWide Try.prog W .any base t v := hval0
  have hW' := hW
  obtain ⟨p, q, hA0, hV, rfl, hfz, hnd⟩ := hW
  have hA : DataW.TrodAll enc Try.prog W 0 (fun _ => true) true Try.f5.params.toList args.toList ds p := hA0
  rw [Try.params5] at hA hval
  obtain ⟨v0, d0, rfl, rfl, h0⟩ := trodAll_one hA
  obtain ⟨rfl, rfl⟩ := trodVars_none hV
  obtain ⟨ms, ws, rfl, rfl, rfl, zs⟩ := openPs (hval 0 26 v0 rfl rfl) h0
  clear hA0 hval0
  simp only [List.append_nil] at hW'
  refine (pcgBack px awake10h ms ws _).mono fun e W' ⟨he, hb⟩ => ?_
  subst he
  have again : ∀ sp : Nat → Bool, (∀ q ∈ ([] : List MemPlace), sp q.block = true) → DataW.TrodAll enc Try.prog W' 0 sp true [26] [ms.val] [Ps.data ms] (([] : List MemPlace)) := fun sp hs =>
    trodAll_mk1 (zs _ sp)
  exact ⟨_, rfl, post_of_below (pa := ([] : List MemPlace)) (pv := []) hW' (fun _ _ _ => trodAll_mk1 (shut_bool Try.underlying4 _)) (fun sp hs => again sp (fun q hq => (by simp at hq))) (fun _ _ => rfl) (by simp)
    hb (ok_one (by kernel_rfl) rfl (okWide_bool_mk Try.underlying4 _))⟩

theorem over : Rows.pcgBackRow.holds Try.pinned (OpenSpec.ofChange Rows.pcgBackSpec) :=
  OpenClaim.holds_of_wide 5 Try.f5 rfl rfl rfl rfl rfl rfl rfl ⟨rfl, rfl, rfl, rfl, rfl⟩ rfl rfl rfl rfl rfl (by kernel_rfl) Try.func5 (by kernel_rfl)
    (of_decide_eq_true (by kernel_rfl)) (by unfold Func.isWrapper; first | (rw [if_pos (by decide +kernel)]; kernel_rfl) | (rw [if_neg (by decide +kernel)]; exact ⟨rfl, rfl⟩))
    (fun os started H enc _ => lifted os started H enc)
end Go.Proofs.Ythnmekieanndgaa.pcgBack
namespace Go.Proofs.Ythnmekieanndgaa
theorem pcgBack_holds : Rows.PcgBackSaid := pcgBack.over
#print axioms pcgBack_holds
end Go.Proofs.Ythnmekieanndgaa
