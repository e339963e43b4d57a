/-
  What the program's Stuck comes to.
-/
import Derived.Test.YtakadejpgndhpaaISix
import Derived.Deep.QuietTactic
import Derived.BigQuiet
namespace Go.Proofs.Ytakadejpgndhpaa
open Go.RowKit Pl Go.BigFrame
set_option maxHeartbeats 4000000
set_option maxRecDepth 100000
set_option linter.unusedVariables false

theorem istuck_any (h : PgH) (L : Pg) (k : StaH) (s : Sta) (w : World) (B : Nat) (hP : PgR w B h L) (hS : StaR w B k s) (hB : B ≤ w.heap.size) (SP : PgS L) (LS : StaS s) (r : Bool) (hr : Hid (stuckB L s = r)) :
    Calls Try.prog 42 #[PgV h L, StaV k s] w fun e w' => e = .returned (.bool r) ∧ Below w.heap.size w w' := by
  have LP := PgS_L SP
  have LS' := StaS_L LS
  obtain ⟨W, hW⟩ : ∃ W, W = (w.alloc (.cells #[.slice h.A L.length h.c] 30)).alloc (.cells #[.slice k.A0 s.f0.length k.c0, .slice k.A1 s.f1.length k.c1, .slice k.A2 s.f2.length k.c2, .slice k.A3 s.f3.length k.c3, .slice k.A4 s.f4.length k.c4] 56) := ⟨_, rfl⟩
  have bW : Below w.heap.size w W := by rw [hW]; go_grown
  have k0 : Bk W w.heap.size 30 #[.slice h.A L.length h.c] := by rw [hW]; exact (Bk.new w _ _).alloc _
  have k1 : Bk W (w.heap.size + 1) 56 #[.slice k.A0 s.f0.length k.c0, .slice k.A1 s.f1.length k.c1, .slice k.A2 s.f2.length k.c2, .slice k.A3 s.f3.length k.c3, .slice k.A4 s.f4.length k.c4] := by
    rw [hW]; have := Bk.new (w.alloc (.cells #[.slice h.A L.length h.c] 30)) #[.slice k.A0 s.f0.length k.c0, .slice k.A1 s.f1.length k.c1, .slice k.A2 s.f2.length k.c2, .slice k.A3 s.f3.length k.c3, .slice k.A4 s.f4.length k.c4] 56
    rwa [World.size_alloc] at this
  have P0 := Lib.hid (hP.below bW hB)
  have Q0 := Lib.hid (hS.below bW hB)
  have B0 := Lib.hid bW
  have z0 := bW.size
  have HW := Lib.hid hW
  have hBW : B ≤ W.heap.size := by omega
  have lp := k0.lt
  have ls := k1.lt
  have gp : ∀ x : Ws (Fr W []), x.val.cell? ⟨w.heap.size, 0, none⟩ = some (.slice h.A L.length h.c) := Ws.same (bs := []) lp (k0.cell 0)
  have gs0 : ∀ x : Ws (Fr W []), x.val.cell? ⟨w.heap.size + 1, 0, none⟩ = some (.slice k.A0 s.f0.length k.c0) := Ws.same (bs := []) ls (k1.cell 0)
  have gs1 : ∀ x : Ws (Fr W []), x.val.cell? ⟨w.heap.size + 1, 1, none⟩ = some (.slice k.A1 s.f1.length k.c1) := Ws.same (bs := []) ls (k1.cell 1)
  have gs2 : ∀ x : Ws (Fr W []), x.val.cell? ⟨w.heap.size + 1, 2, none⟩ = some (.slice k.A2 s.f2.length k.c2) := Ws.same (bs := []) ls (k1.cell 2)
  have gs3 : ∀ x : Ws (Fr W []), x.val.cell? ⟨w.heap.size + 1, 3, none⟩ = some (.slice k.A3 s.f3.length k.c3) := Ws.same (bs := []) ls (k1.cell 3)
  have gs4 : ∀ x : Ws (Fr W []), x.val.cell? ⟨w.heap.size + 1, 4, none⟩ = some (.slice k.A4 s.f4.length k.c4) := Ws.same (bs := []) ls (k1.cell 4)
  have Gp := Lib.hid (fun x : Ws (Fr W []) => P0.out.below x.ok.below hBW)
  have Gs := Lib.hid (fun x : Ws (Fr W []) => Q0.out.below x.ok.below hBW)
  have Gz := Lib.hid (fun x : Ws (Fr W []) => Nat.le_trans hBW x.ok.below.size)
  have HS := Lib.hid (fr_none W)
  haveI hne := Nonempty.intro (Ws.mk _ (fr_none W))
  clear hW bW k0 k1 hP hS z0
  rcases Bool.eq_false_or_eq_true (stB L s) with hst | hst
  rotate_left
  · have hfin : Hid (r = false) := Lib.hid (by rw [← hr.out, stuckB, hst]; rfl)
    have HST := Lib.hid hst
    clear hr hst
    go_enter Try.func42, Try.ntmps42
    go_wp2_with fail
    rw [← HW.out]
    refine region_in (by kernel_rfl) HS.out.drew ?_
    repeat (go_big_quiet_step (first | (go_at_call 93; exact call_in (istok_any h L k s _ B (Gp.out _) (Gs.out _) (Gz.out _) LP LS' false HST))))
    refine wpQuiet_nil ?_
    rintro _ ⟨⟨w2, hw2⟩, rfl⟩
    have hB2 := below_on B0.out hw2.below
    go_wp2
    go_ret
    exact ⟨by rw [hfin.out]; rfl, hB2⟩
  have P := stB_parts hst
  have p31 := P.n1
  have p32 := P.n3
  have HP := Lib.hid P
  have HST := Lib.hid hst
  have HR : Hid (stuckF L (wdF L s) = r) := Lib.hid (by rw [← hr.out, stuckB, hst, Bool.true_and])
  have hLp := P.prog
  have IV := Lib.hid (inv_wd P)
  clear hr hst P
  go_enter Try.func42, Try.ntmps42
  go_wp2_with fail
  rw [← HW.out]
  refine region_in (by kernel_rfl) HS.out.drew ?_
  repeat (go_big_quiet_step (first | (go_at_call 93; exact call_in (istok_any h L k s _ B (Gp.out _) (Gs.out _) (Gz.out _) LP LS' true HST)) | (go_at_call 95; exact call_in (packed_any h L k s _ B (Gp.out _) (Gs.out _) (Gz.out _) HP.out)) | (go_at_call 94; exact call_in (isstuck_any h L (wdF L s) _ B (Gp.out _) (Gz.out _) hLp IV.out r HR))))
  refine wpQuiet_nil ?_
  rintro _ ⟨⟨w2, hw2⟩, rfl⟩
  have hB2 := below_on B0.out hw2.below
  go_wp2
  go_ret
  exact ⟨rfl, hB2⟩
end Go.Proofs.Ytakadejpgndhpaa
