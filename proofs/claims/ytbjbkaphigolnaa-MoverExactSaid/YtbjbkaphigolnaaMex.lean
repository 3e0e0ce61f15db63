/- The walk of MoverExact: commands, and what is proved, are what the document says, of any mover, look and age. -/
import Derived.Test.YtbjbkaphigolnaaMv
namespace Go.Proofs.Ytbjbkaphigolnaa.Mv
open Go.RowKit

set_option maxHeartbeats 4000000 in
theorem exact_walk (c o v s : Int) (q : Bool) (x y z : Int) (w : World) :
    Calls Try.prog 3 #[.agg #[.int .i64 c, .int .i64 o], .agg #[.int .i64 v, .int .i64 s, .bool q], .agg #[.int .i64 x, .int .i64 y, .int .i64 z]] w fun e w' => e = .returned (.bool true) ∧ Below w.heap.size w w' := by
  have KL := lives_any
  have K1 := start_any x
  have K2 := command_any c o x y
  have K3 := rcommand_any c o x y
  have K4 := proven_any c o v s q z
  have K5 := rproven_any c o v s q z
  generalize pv c o v s q z = r at *
  generalize (if c = y then o else x) = g at *
  have f0 := (((Fr.refl (fun _ => False) w).alloc (.cells #[.int .i64 c, .int .i64 o] 23)).alloc (.cells #[.int .i64 v, .int .i64 s, .bool q] 25)).alloc (.cells #[.int .i64 x, .int .i64 y, .int .i64 z] 26)
  have i1 := (((Is.new w 23 #[.int .i64 c, .int .i64 o]).alloc (.cells #[.int .i64 v, .int .i64 s, .bool q] 25)).alloc (.cells #[.int .i64 x, .int .i64 y, .int .i64 z] 26))
  have i2 := ((Is.new (w.alloc (.cells #[.int .i64 c, .int .i64 o] 23)) 25 #[.int .i64 v, .int .i64 s, .bool q]).alloc (.cells #[.int .i64 x, .int .i64 y, .int .i64 z] 26))
  have i3 := Is.new ((w.alloc (.cells #[.int .i64 c, .int .i64 o] 23)).alloc (.cells #[.int .i64 v, .int .i64 s, .bool q] 25)) 26 #[.int .i64 x, .int .i64 y, .int .i64 z]
  simp only [World.size_alloc] at i2 i3
  go_enter Try.func3, Try.ntmps3
  go_wp2_with fail
  refine (KL _).mono ?_
  clear KL
  rintro e w1 ⟨rfl, f1⟩
  replace i1 := i1.fr f1 id
  replace i2 := i2.fr f1 id
  replace i3 := i3.fr f1 id
  replace f1 := f0.trans f1 (fun _ _ h => h)
  clear f0
  generalize hb1 : w.heap.size = b1 at *
  clear hb1
  have y0 := i3.cell 0
  have y1 := i3.cell 1
  have y2 := i3.cell 2
  go_wp2_with fail
  go_quiet (fail)
  go_wp2_with fail
  clear y0 y1 y2 i3
  replace i1 : Is (w1.drewN nq) b1 _ _ := i1
  replace i2 : Is (w1.drewN nq) (b1 + 1) _ _ := i2
  replace f1 := f1.drewN nq
  generalize w1.drewN nq = w2 at *
  have c0 : ∀ u : Fro w2, u.w.cell? ⟨b1, 0, none⟩ = some (.int .i64 c) := cell_fro (i1.cell 0)
  have c1 : ∀ u : Fro w2, u.w.cell? ⟨b1, 1, none⟩ = some (.int .i64 o) := cell_fro (i1.cell 1)
  have l0 : ∀ u : Fro w2, u.w.cell? ⟨b1 + 1, 0, none⟩ = some (.int .i64 v) := cell_fro (i2.cell 0)
  have l1 : ∀ u : Fro w2, u.w.cell? ⟨b1 + 1, 1, none⟩ = some (.int .i64 s) := cell_fro (i2.cell 1)
  have l2 : ∀ u : Fro w2, u.w.cell? ⟨b1 + 1, 2, none⟩ = some (.bool q) := cell_fro (i2.cell 2)
  clear i1 i2
  refine region_fro (by kernel_rfl) (by kernel_rfl) ?_
  repeat (go_big_quiet_step (first | (go_at_call 8; with_reducible exact call_fro (K1 _)) | (go_at_call 9; with_reducible exact call_fro (K2 _)) | (go_at_call 10; with_reducible exact call_fro (K3 _)) | (go_at_call 11; with_reducible exact call_fro (K4 _)) | (go_at_call 12; with_reducible exact call_fro (K5 _))))
  refine wpQuiet_nil ?_
  rintro _ ⟨⟨w6, f6⟩, rfl⟩
  clear c0 c1 l0 l1 l2 K1 K2 K3 K4 K5
  have f8 := f1.trans f6 (fun _ _ h => h)
  clear f1 f6
  go_wp2_with fail
  go_ret
  exact ⟨rfl, f8.toBelow0⟩
end Go.Proofs.Ytbjbkaphigolnaa.Mv
