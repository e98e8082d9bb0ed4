/-
  What the call Mul of package wide answers: the product modulo 2^128.
  No condition beside that each word lies below 2^64.
-/
import Derived.Test.YtkpignbmocpcaaaGreatWideA
namespace Go.Proofs.YtkpignbmocpcaaaGreat.Wd
open Go.RowKit
set_option linter.unusedVariables false

set_option maxRecDepth 100000 in
set_option maxHeartbeats 400000 in
theorem wMul (ah al bh bl : Int) (a1 : 0 ≤ ah) (a2 : ah < 18446744073709551616) (a3 : 0 ≤ al) (a4 : al < 18446744073709551616) (b1 : 0 ≤ bh) (b2 : bh < 18446744073709551616) (b3 : 0 ≤ bl) (b4 : bl < 18446744073709551616) (w : World) :
    Calls Tryz.prog 11 #[.agg #[.int .u64 ah, .int .u64 al], .agg #[.int .u64 bh, .int .u64 bl]] w
      (U1 (fun h l => Is (((ah * 18446744073709551616 + al) * (bh * 18446744073709551616 + bl)) % 340282366920938463463374607431768211456) h l) w) := by
  go_enter Tryz.func11, Tryz.ntmps11
  go_wp2_with fail
  refine (wFull _ _ (by omega) (by omega) (by omega) (by omega) _).mono ?_
  rintro e w' ⟨h, l, ⟨c1, c2, c3, c4, hv⟩, rfl, hb⟩
  have HV := Lib.hid hv
  clear hv
  obtain ⟨z0, ca0, ca1⟩ := (((Has.fresh w ah al 31).alloc _).alloc _).below hb
  obtain ⟨z1, cb0, cb1⟩ := ((Has.fresh _ bh bl 31).alloc _).below hb
  have z2 : w.heap.size + 1 + 1 < w'.heap.size := by have := hb.size; simp at this; omega
  simp only [World.size_alloc] at z1 cb0 cb1
  have fr : w'.frozen? ⟨w.heap.size + 1 + 1, 0, none⟩ = false := by rw [hb.frozen (p := ⟨w.heap.size + 1 + 1, 0, none⟩) (by simp)]; simp [go_sem]
  have fr1 : w'.frozen? ⟨w.heap.size + 1 + 1, 1, none⟩ = false := by rw [hb.frozen (p := ⟨w.heap.size + 1 + 1, 1, none⟩) (by simp)]; simp [go_sem]
  have cr : w'.cell? ⟨w.heap.size + 1 + 1, 0, none⟩ = some (.int .u64 0) := by rw [hb.cell (p := ⟨w.heap.size + 1 + 1, 0, none⟩) (by simp)]; simp [go_sem]
  have cr1 : w'.cell? ⟨w.heap.size + 1 + 1, 1, none⟩ = some (.int .u64 0) := by rw [hb.cell (p := ⟨w.heap.size + 1 + 1, 1, none⟩) (by simp)]; simp [go_sem]
  have hb0 : Below w.heap.size w w' := below_then (by go_grown) hb
  go_wp2
  have eq : IntKind.u64.wrap (h + IntKind.u64.wrap (IntKind.u64.wrap (ah * bl) + IntKind.u64.wrap (al * bh))) = (h + (ah * bl + al * bh)) % 18446744073709551616 := by
    simp only [IntKind.wrap_u64]
    generalize ah * bl = p
    generalize al * bh = q
    omega
  rw [eq]
  have Q := mul128 ah al bh bl h l HV.out c1 c2 c3 c4
  generalize (h + (ah * bl + al * bh)) % 18446744073709551616 = q at Q ⊢
  refine bodyPost_ret (v := .agg #[.int .u64 q, .int .u64 l]) (by simp [results, Tryz.results11, go_sem, cr, cr1, z2]) rfl ⟨_, _, Q, rfl, ?_⟩
  go_grown

end Go.Proofs.YtkpignbmocpcaaaGreat.Wd
