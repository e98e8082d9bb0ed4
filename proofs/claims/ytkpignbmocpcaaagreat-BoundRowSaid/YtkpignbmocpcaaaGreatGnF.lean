/-
  What the call New of package seed answers for the kind Mix.
-/
import Derived.Test.YtkpignbmocpcaaaGreatGnE
namespace Go.Proofs.YtkpignbmocpcaaaGreat
open Go.RowKit
set_option linter.unusedVariables false
set_option maxRecDepth 100000

set_option maxHeartbeats 1000000 in
theorem sOfMix (s : Int) (w : World) : Calls Tryz.prog 61 #[.int .u64 s] w (fun e w' => e = .returned (.agg (stC s)) ∧ Below w.heap.size w w') := by
  unfold stC
  go_enter Tryz.func61, Tryz.ntmps61
  go_wp2
  go_returns
  exact ⟨rfl, below_allocs _ _⟩
theorem run_store_func (a : Addr) (fn : Fn) (first cap : Array Value) (m : Mode) (w : World) : (store a (.func fn first cap) m).run Tryz.prog w = stored Tryz.prog w a (.func fn first cap) m := run_store Tryz.prog w a _ m rfl
theorem run_store_nilF (a : Addr) (m : Mode) (w : World) : (store a .nilFunc m).run Tryz.prog w = stored Tryz.prog w a .nilFunc m := run_store Tryz.prog w a _ m rfl
theorem sWays (w : World) : Calls Tryz.prog 55 #[] w (fun e w' => e = .returned (.agg #[.nilFunc, .func (.func 61) #[] #[], .func (.func 62) #[] #[], .func (.func 63) #[] #[], .func (.func 64) #[] #[]]) ∧ Below w.heap.size w w') := by
  go_enter Tryz.func55, Tryz.ntmps55
  have hst := run_store_func
  have hsn := run_store_nilF
  go_wp2
  go_returns
  exact ⟨rfl, below_allocs _ _⟩
/-- An empty state and the row of the ways. -/
def wF : Array Value := #[.nilFunc, .func (.func 61) #[] #[], .func (.func 62) #[] #[], .func (.func 63) #[] #[], .func (.func 64) #[] #[]]
set_option maxHeartbeats 1000000 in
theorem sNew (s : Int) (w : World) : Calls Tryz.prog 47 #[.int .i64 1, .int .u64 s] w (fun e w' => e = .returned (.tuple #[.agg (stC s), .int .i64 0]) ∧ Below w.heap.size w w') := by
  have hst := run_store_func
  have hsn := run_store_nilF
  have K0 := Blk.new w stZ 106
  have B0 := below_allocs w (.cells stZ 106)
  unfold stZ at K0 B0
  go_enter Tryz.func47, Tryz.ntmps47
  go_upto_region 1 with fail
  generalize hW : w.alloc _ = W1 at K0 B0 ⊢
  clear hW
  go_wp2_with fail
  refine (sWays _).mono ?_
  rintro e V ⟨rfl, hb⟩
  have K1 := K0.below hb
  have B1 := below_then B0 hb
  clear hb K0 B0
  go_upto_region 2 with fail
  have R := Blk.new V wF 123
  unfold wF at R
  have K2 := K1.below (below_allocs V (.cells wF 123))
  have B2 := below_then B1 (below_allocs V (.cells wF 123))
  unfold wF at K2 B2
  generalize V.alloc _ = V2 at R K2 B2 ⊢
  have r1 := R.cell 1 _ rfl
  clear K1 B1 R
  go_wp2_with fail
  refine (sOfMix s _).mono ?_
  rintro e V3 ⟨rfl, hb⟩
  have K3 := Lib.hid (And.intro (K2.below hb) (below_then B2 hb))
  clear hb K2 B2 r1
  go_wp2_with (first | (refine list_store rfl _ _ rfl w.heap.size rfl rfl rfl K3.out.1 ?_; intro w5 N0 NL NF NS; have B5 := NL _ (Nat.le_refl _) _ K3.out.2; clear K3 NL NF NS) | fail)
  exact bodyPost_ret (res_st Tryz.results47 _ _ w.heap.size _ rfl N0) rfl ⟨rfl, B5⟩
end Go.Proofs.YtkpignbmocpcaaaGreat
