/-
  Plain facts on the step of a state: the state of a state's word is the state; the order of the writes does not matter.
-/
import Derived.Test.YtiljakbjbiinkaaSPut
import Derived.Deep.RegionHeld3
import Derived.Deep.DeepCutAuto
namespace Go.Proofs.Ytiljakbjbiinkaa
open Go.RowKit Pl
set_option maxHeartbeats 4000000
set_option maxRecDepth 100000
set_option linter.unusedVariables false

/-- What l2Own leaves. -/
def OwnP (w : World) (lo hi : Nat) (k : StaH) (L : Pg) (g : Nat → Nat) (e : Ending) (w' : World) : Prop := e = .returned (.tuple #[]) ∧ Only lo hi w w' ∧ StaO w' lo hi k (staF L g)
theorem len_eq (L : Pg) (f g : Nat → Nat) : (staF L f).f0.length = (staF L g).f0.length ∧ (staF L f).f1.length = (staF L g).f1.length ∧ (staF L f).f2.length = (staF L g).f2.length ∧ (staF L f).f3.length = (staF L g).f3.length ∧ (staF L f).f4.length = (staF L g).f4.length := by
  obtain ⟨a0, a1, a2, a3, a4⟩ := sta_len L f
  obtain ⟨b0, b1, b2, b3, b4⟩ := sta_len L g
  exact ⟨a0.trans b0.symm, a1.trans b1.symm, a2.trans b2.symm, a3.trans b3.symm, a4.trans b4.symm⟩
theorem staV_eq (k : StaH) (L : Pg) (f g : Nat → Nat) : StaV k (staF L f) = StaV k (staF L g) := by
  obtain ⟨a0, a1, a2, a3, a4⟩ := len_eq L f g
  unfold StaV
  rw [a0, a1, a2, a3, a4]
theorem sgo_at (f0 : Nat → Nat) (h : PgH) (k : StaH) (L : Pg) (f : Nat → Nat) (t m : Nat) (w V : World) (B lo hi : Nat) (hP : PgR w B h L) (hV : Only lo hi w V) (hB : B ≤ lo) (hlo : lo ≤ w.heap.size) (hO : StaO V lo hi k (staF L f)) (hhi : hi ≤ w.heap.size) (h32 : L.length ≤ 3) (ht : t < L.length) (hm : m ≤ 6) (hf : f (3 + t) ≤ 7) (r : Nat) (hr : Hid (min (f (3 + t) + m) (L.getD t []).length = r)) :
    Calls Try.prog 187 #[PgV h L, StaV k (staF L f0), .int .i64 t, .int .i64 m] V fun e w' => e = .returned (.tuple #[]) ∧ Only lo hi w w' ∧ StaO w' lo hi k (staF L (upd f (3 + t) r)) := by
  rw [staV_eq k L f0 f]
  have z := hV.size
  refine (sgo_any h k L f t m V B lo hi (hP.below (hV.to_below hB (by omega)) (Nat.le_refl _)) hB (by omega) hO (by omega) h32 ht hm hf r hr).mono ?_
  rintro e w' ⟨rfl, h1, h2⟩
  exact ⟨rfl, hV.trans h1, h2⟩
theorem sset_at (f0 : Nat → Nat) (k : StaH) (L : Pg) (f : Nat → Nat) (t r v : Nat) (w V : World) (lo hi : Nat) (hV : Only lo hi w V) (hO : StaO V lo hi k (staF L f)) (hhi : hi ≤ w.heap.size) (h32 : L.length ≤ 3) (ht : t < L.length) (hr : r < 3) (hv : v < 4) :
    Calls Try.prog 166 #[StaV k (staF L f0), .int .i64 t, .int .i64 r, .int .i64 v] V fun e w' => e = .returned (.tuple #[]) ∧ Only lo hi V w' ∧ Only lo hi w w' ∧ StaO w' lo hi k (staF L (upd f (6 + (t * 3 + r)) v)) := by
  rw [staV_eq k L f0 f]
  have z := hV.size
  refine (sset_any k L f t r v V lo hi hO (by omega) h32 ht hr hv).mono ?_
  rintro e w' ⟨rfl, h1, h2⟩
  exact ⟨rfl, h1, hV.trans h1, h2⟩

theorem sown_rest (h : PgH) (k : StaH) (L : Pg) (f : Nat → Nat) (t : Nat) (q a b c : Int) (s : Bool) (w : World) (B lo hi : Nat) (hP : PgR w B h L) (hB : B ≤ lo) (hlo : lo ≤ w.heap.size) (hO : StaO w lo hi k (staF L f)) (hhi : hi ≤ w.heap.size) (h32 : L.length ≤ 3) (ht : t < L.length) (hok : okF WS f) (h0 : q ≠ 0) (h6 : q ≠ 6) (h7 : q ≠ 7) (h8 : q ≠ 8) (h9 : q ≠ 9) (h10 : q ≠ 10) (r : Nat) (hr : Hid (min (f (3 + t) + 1) (L.getD t []).length = r)) :
    Calls Try.prog 169 #[PgV h L, StaV k (staF L f), .int .i64 t, St q a b c s] w (OwnP w lo hi k L (upd f (3 + t) r)) := by
  have ht3 : t < 3 := by omega
  have hf0 : f (3 + t) ≤ 7 := by have := fld_lt fld0 hok (i := t) (show t < 3 by omega); have e : (2 : Nat) ^ fB 0 = 8 := rfl; omega
  obtain ⟨W, hW⟩ : ∃ W, W = (((w.alloc (.cells #[.slice h.A L.length h.c] 30)).alloc (.cells #[.slice k.A0 (staF L f).f0.length k.c0, .slice k.A1 (staF L f).f1.length k.c1, .slice k.A2 (staF L f).f2.length k.c2, .slice k.A3 (staF L f).f3.length k.c3, .slice k.A4 (staF L f).f4.length k.c4] 41)).alloc (.cells #[.int .i64 q, .int .i64 a, .int .i64 b, .int .i64 c, .bool s] 132)) := ⟨_, rfl⟩
  have bW : Below w.heap.size w W := by rw [hW]; go_grown
  have sW : W.heap.size = w.heap.size + 1 + 1 + 1 := by rw [hW]; simp
  have k0 : Bk W w.heap.size 30 #[.slice h.A L.length h.c] := by rw [hW]; exact ((Bk.new w _ _).alloc _).alloc _
  have k1 : Bk W (w.heap.size + 1) 41 #[.slice k.A0 (staF L f).f0.length k.c0, .slice k.A1 (staF L f).f1.length k.c1, .slice k.A2 (staF L f).f2.length k.c2, .slice k.A3 (staF L f).f3.length k.c3, .slice k.A4 (staF L f).f4.length k.c4] := by
    rw [hW]; have := (Bk.new (w.alloc (.cells #[.slice h.A L.length h.c] 30)) #[.slice k.A0 (staF L f).f0.length k.c0, .slice k.A1 (staF L f).f1.length k.c1, .slice k.A2 (staF L f).f2.length k.c2, .slice k.A3 (staF L f).f3.length k.c3, .slice k.A4 (staF L f).f4.length k.c4] 41).alloc (.cells #[.int .i64 q, .int .i64 a, .int .i64 b, .int .i64 c, .bool s] 132)
    rwa [World.size_alloc] at this
  have k2 : Bk W (w.heap.size + 1 + 1) 132 #[.int .i64 q, .int .i64 a, .int .i64 b, .int .i64 c, .bool s] := by
    rw [hW]; have := Bk.new ((w.alloc (.cells #[.slice h.A L.length h.c] 30)).alloc (.cells #[.slice k.A0 (staF L f).f0.length k.c0, .slice k.A1 (staF L f).f1.length k.c1, .slice k.A2 (staF L f).f2.length k.c2, .slice k.A3 (staF L f).f3.length k.c3, .slice k.A4 (staF L f).f4.length k.c4] 41)) #[.int .i64 q, .int .i64 a, .int .i64 b, .int .i64 c, .bool s] 132
    rwa [World.size_alloc, World.size_alloc] at this
  have K0 := Lib.hid k0
  have K1 := Lib.hid k1
  have K2 := Lib.hid k2
  have OnW := Lib.hid (Only.of_below bW : Only lo hi w W)
  have OW := Lib.hid (hO.below bW hhi)
  have PP := Lib.hid hP
  have sWa := Nat.le_of_eq sW
  have sWb := Nat.le_of_eq sW.symm
  have HW := Lib.hid hW
  have bp : W.cell? ⟨w.heap.size, 0, none⟩ = some (.slice h.A L.length h.c) := (K0.out).cell 0
  have bs0 : W.cell? ⟨w.heap.size + 1, 0, none⟩ = some (.slice k.A0 (staF L f).f0.length k.c0) := (K1.out).cell 0
  have bs1 : W.cell? ⟨w.heap.size + 1, 1, none⟩ = some (.slice k.A1 (staF L f).f1.length k.c1) := (K1.out).cell 1
  have bs2 : W.cell? ⟨w.heap.size + 1, 2, none⟩ = some (.slice k.A2 (staF L f).f2.length k.c2) := (K1.out).cell 2
  have bs3 : W.cell? ⟨w.heap.size + 1, 3, none⟩ = some (.slice k.A3 (staF L f).f3.length k.c3) := (K1.out).cell 3
  have bs4 : W.cell? ⟨w.heap.size + 1, 4, none⟩ = some (.slice k.A4 (staF L f).f4.length k.c4) := (K1.out).cell 4
  have bx0 : W.cell? ⟨w.heap.size + 1 + 1, 0, none⟩ = some (.int .i64 q) := (K2.out).cell 0
  have bx1 : W.cell? ⟨w.heap.size + 1 + 1, 1, none⟩ = some (.int .i64 a) := (K2.out).cell 1
  have bx2 : W.cell? ⟨w.heap.size + 1 + 1, 2, none⟩ = some (.int .i64 b) := (K2.out).cell 2
  have bx3 : W.cell? ⟨w.heap.size + 1 + 1, 3, none⟩ = some (.int .i64 c) := (K2.out).cell 3
  have bx4 : W.cell? ⟨w.heap.size + 1 + 1, 4, none⟩ = some (.bool s) := (K2.out).cell 4
  clear hW bW sW k0 k1 k2 hO hP
  have g0 : (q == 0) = false := by simp [h0]
  have g6 : (q == 6) = false := by simp [h6]
  have g7 : (q == 7) = false := by simp [h7]
  have g8 : (q == 8) = false := by simp [h8]
  have g9 : (q == 9) = false := by simp [h9]
  have g10 : (q == 10) = false := by simp [h10]
  clear h0 h6 h7 h8 h9 h10
  go_enter Try.func169, Try.ntmps169
  go_wp2_with fail
  rw [← HW.out]
  refine (sgo_at f h k L f t 1 w W B lo hi PP.out OnW.out hB hlo OW.out hhi h32 ht (by omega) hf0 r hr).mono ?_
  rintro e wz ⟨rfl, onz, oz⟩
  clear bp bs0 bs1 bs2 bs3 bs4 bx0 bx1 bx2 bx3 bx4
  go_wp2
  exact bodyPost_end (v := .tuple #[]) (by simp [results, Try.results169, go_sem]) rfl ⟨rfl, onz, oz⟩
theorem sown_0 (h : PgH) (k : StaH) (L : Pg) (f : Nat → Nat) (t : Nat) (n : Nat) (b c : Int) (s : Bool) (w : World) (B lo hi : Nat) (hP : PgR w B h L) (hB : B ≤ lo) (hlo : lo ≤ w.heap.size) (hO : StaO w lo hi k (staF L f)) (hhi : hi ≤ w.heap.size) (h32 : L.length ≤ 3) (ht : t < L.length) (hok : okF WS f) (hn : n < 3) (hbc : valB b c = true) (v : Nat) (hv : Hid (sumF f t b c = v)) (r : Nat) (hr : Hid (min (f (3 + t) + 1) (L.getD t []).length = r)) :
    Calls Try.prog 169 #[PgV h L, StaV k (staF L f), .int .i64 t, St 0 n b c s] w (OwnP w lo hi k L (upd (upd f (6 + (t * 3 + n)) v) (3 + t) r)) := by
  have ht3 : t < 3 := by omega
  have hf0 : f (3 + t) ≤ 7 := by have := fld_lt fld0 hok (i := t) (show t < 3 by omega); have e : (2 : Nat) ^ fB 0 = 8 := rfl; omega
  obtain ⟨W, hW⟩ : ∃ W, W = (((w.alloc (.cells #[.slice h.A L.length h.c] 30)).alloc (.cells #[.slice k.A0 (staF L f).f0.length k.c0, .slice k.A1 (staF L f).f1.length k.c1, .slice k.A2 (staF L f).f2.length k.c2, .slice k.A3 (staF L f).f3.length k.c3, .slice k.A4 (staF L f).f4.length k.c4] 41)).alloc (.cells #[.int .i64 0, .int .i64 n, .int .i64 b, .int .i64 c, .bool s] 132)) := ⟨_, rfl⟩
  have bW : Below w.heap.size w W := by rw [hW]; go_grown
  have sW : W.heap.size = w.heap.size + 1 + 1 + 1 := by rw [hW]; simp
  have k0 : Bk W w.heap.size 30 #[.slice h.A L.length h.c] := by rw [hW]; exact ((Bk.new w _ _).alloc _).alloc _
  have k1 : Bk W (w.heap.size + 1) 41 #[.slice k.A0 (staF L f).f0.length k.c0, .slice k.A1 (staF L f).f1.length k.c1, .slice k.A2 (staF L f).f2.length k.c2, .slice k.A3 (staF L f).f3.length k.c3, .slice k.A4 (staF L f).f4.length k.c4] := by
    rw [hW]; have := (Bk.new (w.alloc (.cells #[.slice h.A L.length h.c] 30)) #[.slice k.A0 (staF L f).f0.length k.c0, .slice k.A1 (staF L f).f1.length k.c1, .slice k.A2 (staF L f).f2.length k.c2, .slice k.A3 (staF L f).f3.length k.c3, .slice k.A4 (staF L f).f4.length k.c4] 41).alloc (.cells #[.int .i64 0, .int .i64 n, .int .i64 b, .int .i64 c, .bool s] 132)
    rwa [World.size_alloc] at this
  have k2 : Bk W (w.heap.size + 1 + 1) 132 #[.int .i64 0, .int .i64 n, .int .i64 b, .int .i64 c, .bool s] := by
    rw [hW]; have := Bk.new ((w.alloc (.cells #[.slice h.A L.length h.c] 30)).alloc (.cells #[.slice k.A0 (staF L f).f0.length k.c0, .slice k.A1 (staF L f).f1.length k.c1, .slice k.A2 (staF L f).f2.length k.c2, .slice k.A3 (staF L f).f3.length k.c3, .slice k.A4 (staF L f).f4.length k.c4] 41)) #[.int .i64 0, .int .i64 n, .int .i64 b, .int .i64 c, .bool s] 132
    rwa [World.size_alloc, World.size_alloc] at this
  have K0 := Lib.hid k0
  have K1 := Lib.hid k1
  have K2 := Lib.hid k2
  have OnW := Lib.hid (Only.of_below bW : Only lo hi w W)
  have OW := Lib.hid (hO.below bW hhi)
  have PP := Lib.hid hP
  have sWa := Nat.le_of_eq sW
  have sWb := Nat.le_of_eq sW.symm
  have HW := Lib.hid hW
  have bp : W.cell? ⟨w.heap.size, 0, none⟩ = some (.slice h.A L.length h.c) := (K0.out).cell 0
  have bs0 : W.cell? ⟨w.heap.size + 1, 0, none⟩ = some (.slice k.A0 (staF L f).f0.length k.c0) := (K1.out).cell 0
  have bs1 : W.cell? ⟨w.heap.size + 1, 1, none⟩ = some (.slice k.A1 (staF L f).f1.length k.c1) := (K1.out).cell 1
  have bs2 : W.cell? ⟨w.heap.size + 1, 2, none⟩ = some (.slice k.A2 (staF L f).f2.length k.c2) := (K1.out).cell 2
  have bs3 : W.cell? ⟨w.heap.size + 1, 3, none⟩ = some (.slice k.A3 (staF L f).f3.length k.c3) := (K1.out).cell 3
  have bs4 : W.cell? ⟨w.heap.size + 1, 4, none⟩ = some (.slice k.A4 (staF L f).f4.length k.c4) := (K1.out).cell 4
  have bx0 : W.cell? ⟨w.heap.size + 1 + 1, 0, none⟩ = some (.int .i64 0) := (K2.out).cell 0
  have bx1 : W.cell? ⟨w.heap.size + 1 + 1, 1, none⟩ = some (.int .i64 n) := (K2.out).cell 1
  have bx2 : W.cell? ⟨w.heap.size + 1 + 1, 2, none⟩ = some (.int .i64 b) := (K2.out).cell 2
  have bx3 : W.cell? ⟨w.heap.size + 1 + 1, 3, none⟩ = some (.int .i64 c) := (K2.out).cell 3
  have bx4 : W.cell? ⟨w.heap.size + 1 + 1, 4, none⟩ = some (.bool s) := (K2.out).cell 4
  clear hW bW sW k0 k1 k2 hO hP
  have hv4 : v < 4 := by rw [← hv.out]; exact sumF_lt hbc
  have hr' : Hid (min ((upd f (6 + (t * 3 + n)) v) (3 + t) + 1) (L.getD t []).length = r) := Lib.hid (by rw [← hr.out]; unfold upd; rw [if_neg (by omega)])
  have hf1 : (upd f (6 + (t * 3 + n)) v) (3 + t) ≤ 7 := by unfold upd; rw [if_neg (by omega)]; exact hf0
  have zhi : hi ≤ W.heap.size := by omega
  have allS : ∀ w', Only lo hi W w' → (w'.cell? ⟨w.heap.size, 0, none⟩ = some (.slice h.A L.length h.c) ∧ w'.cell? ⟨w.heap.size + 1, 0, none⟩ = some (.slice k.A0 (staF L f).f0.length k.c0) ∧ w'.cell? ⟨w.heap.size + 1, 1, none⟩ = some (.slice k.A1 (staF L f).f1.length k.c1) ∧ w'.cell? ⟨w.heap.size + 1, 2, none⟩ = some (.slice k.A2 (staF L f).f2.length k.c2) ∧ w'.cell? ⟨w.heap.size + 1, 3, none⟩ = some (.slice k.A3 (staF L f).f3.length k.c3) ∧ w'.cell? ⟨w.heap.size + 1, 4, none⟩ = some (.slice k.A4 (staF L f).f4.length k.c4) ∧ w'.cell? ⟨w.heap.size + 1 + 1, 0, none⟩ = some (.int .i64 0) ∧ w'.cell? ⟨w.heap.size + 1 + 1, 1, none⟩ = some (.int .i64 n) ∧ w'.cell? ⟨w.heap.size + 1 + 1, 2, none⟩ = some (.int .i64 b) ∧ w'.cell? ⟨w.heap.size + 1 + 1, 3, none⟩ = some (.int .i64 c) ∧ w'.cell? ⟨w.heap.size + 1 + 1, 4, none⟩ = some (.bool s)) := fun w' ho => ⟨(only_bk K0.out ho (Or.inr (by omega))).cell 0, (only_bk K1.out ho (Or.inr (by omega))).cell 0, (only_bk K1.out ho (Or.inr (by omega))).cell 1, (only_bk K1.out ho (Or.inr (by omega))).cell 2, (only_bk K1.out ho (Or.inr (by omega))).cell 3, (only_bk K1.out ho (Or.inr (by omega))).cell 4, (only_bk K2.out ho (Or.inr (by omega))).cell 0, (only_bk K2.out ho (Or.inr (by omega))).cell 1, (only_bk K2.out ho (Or.inr (by omega))).cell 2, (only_bk K2.out ho (Or.inr (by omega))).cell 3, (only_bk K2.out ho (Or.inr (by omega))).cell 4⟩
  have AllS := Lib.hid allS
  clear allS
  have hd : Only lo hi W W.drew := ⟨rfl, rfl, rfl, Nat.le_refl _, fun _ _ _ => rfl⟩
  go_enter Try.func169, Try.ntmps169
  go_wp2_with fail
  rw [← HW.out]
  go_region_held3 (fun w' => w'.cell? ⟨w.heap.size, 0, none⟩ = some (.slice h.A L.length h.c) ∧ w'.cell? ⟨w.heap.size + 1, 0, none⟩ = some (.slice k.A0 (staF L f).f0.length k.c0) ∧ w'.cell? ⟨w.heap.size + 1, 1, none⟩ = some (.slice k.A1 (staF L f).f1.length k.c1) ∧ w'.cell? ⟨w.heap.size + 1, 2, none⟩ = some (.slice k.A2 (staF L f).f2.length k.c2) ∧ w'.cell? ⟨w.heap.size + 1, 3, none⟩ = some (.slice k.A3 (staF L f).f3.length k.c3) ∧ w'.cell? ⟨w.heap.size + 1, 4, none⟩ = some (.slice k.A4 (staF L f).f4.length k.c4) ∧ w'.cell? ⟨w.heap.size + 1 + 1, 0, none⟩ = some (.int .i64 0) ∧ w'.cell? ⟨w.heap.size + 1 + 1, 1, none⟩ = some (.int .i64 n) ∧ w'.cell? ⟨w.heap.size + 1 + 1, 2, none⟩ = some (.int .i64 b) ∧ w'.cell? ⟨w.heap.size + 1 + 1, 3, none⟩ = some (.int .i64 c) ∧ w'.cell? ⟨w.heap.size + 1 + 1, 4, none⟩ = some (.bool s)) (first | (go_split_ands; exact AllS.out _ (by assumption)) | (exact AllS.out _ (by assumption))) (first | (go_at_call 167; go_split_ands; refine (ssum_any k L f t b c _ hi (OW.out.rd.below (show Below W.heap.size W _ from by go_grown) zhi) (Nat.le_trans zhi (show Below W.heap.size W _ from by go_grown).size) hok h32 ht hbc v hv).mono ?_; rintro e v0 ⟨rfl, hv0⟩; have hB0 : Below W.heap.size W v0 := below_on (by go_grown) hv0; have on0 : Only lo hi W v0 := Only.of_below hB0; clear hv0) | (go_at_call 166; go_split_ands; refine (sset_at f k L f t n v w _ lo hi (OnW.out.trans on0) (OW.out.below hB0 zhi) hhi h32 ht hn hv4).mono ?_; rintro e v1 ⟨rfl, ho1, hw1, hs1⟩; have on1 : Only lo hi W v1 := on0.trans ho1; have On1 := Lib.hid hw1; have O1 := Lib.hid hs1; clear ho1 hw1 hs1))
  clear bp bs0 bs1 bs2 bs3 bs4 bx0 bx1 bx2 bx3 bx4
  have KC0 := only_bk K0.out on1 (Or.inr (by omega))
  have KC1 := only_bk K1.out on1 (Or.inr (by omega))
  have KC2 := only_bk K2.out on1 (Or.inr (by omega))
  have bp : v1.cell? ⟨w.heap.size, 0, none⟩ = some (.slice h.A L.length h.c) := (KC0).cell 0
  have bs0 : v1.cell? ⟨w.heap.size + 1, 0, none⟩ = some (.slice k.A0 (staF L f).f0.length k.c0) := (KC1).cell 0
  have bs1 : v1.cell? ⟨w.heap.size + 1, 1, none⟩ = some (.slice k.A1 (staF L f).f1.length k.c1) := (KC1).cell 1
  have bs2 : v1.cell? ⟨w.heap.size + 1, 2, none⟩ = some (.slice k.A2 (staF L f).f2.length k.c2) := (KC1).cell 2
  have bs3 : v1.cell? ⟨w.heap.size + 1, 3, none⟩ = some (.slice k.A3 (staF L f).f3.length k.c3) := (KC1).cell 3
  have bs4 : v1.cell? ⟨w.heap.size + 1, 4, none⟩ = some (.slice k.A4 (staF L f).f4.length k.c4) := (KC1).cell 4
  have bx0 : v1.cell? ⟨w.heap.size + 1 + 1, 0, none⟩ = some (.int .i64 0) := (KC2).cell 0
  have bx1 : v1.cell? ⟨w.heap.size + 1 + 1, 1, none⟩ = some (.int .i64 n) := (KC2).cell 1
  have bx2 : v1.cell? ⟨w.heap.size + 1 + 1, 2, none⟩ = some (.int .i64 b) := (KC2).cell 2
  have bx3 : v1.cell? ⟨w.heap.size + 1 + 1, 3, none⟩ = some (.int .i64 c) := (KC2).cell 3
  have bx4 : v1.cell? ⟨w.heap.size + 1 + 1, 4, none⟩ = some (.bool s) := (KC2).cell 4
  clear KC0 KC1 KC2
  go_wp2_with fail
  refine (sgo_at f h k L _ t 1 w v1 B lo hi PP.out On1.out hB hlo O1.out hhi h32 ht (by omega) hf1 r hr').mono ?_
  rintro e wz ⟨rfl, onz, oz⟩
  clear bp bs0 bs1 bs2 bs3 bs4 bx0 bx1 bx2 bx3 bx4
  go_wp2
  exact bodyPost_end (v := .tuple #[]) (by simp [results, Try.results169, go_sem]) rfl ⟨rfl, onz, oz⟩
end Go.Proofs.Ytiljakbjbiinkaa
namespace Go.Proofs.Ytiljakbjbiinkaa
open Go.RowKit Pl
set_option maxHeartbeats 4000000
set_option maxRecDepth 100000
set_option linter.unusedVariables false

theorem sown_6 (h : PgH) (k : StaH) (L : Pg) (f : Nat → Nat) (t : Nat) (n : Nat) (b c : Int) (s : Bool) (w : World) (B lo hi : Nat) (hP : PgR w B h L) (hB : B ≤ lo) (hlo : lo ≤ w.heap.size) (hO : StaO w lo hi k (staF L f)) (hhi : hi ≤ w.heap.size) (h32 : L.length ≤ 3) (ht : t < L.length) (hok : okF WS f) (hn : n < 2) (r : Nat) (hr : Hid (min (f (3 + t) + 1) (L.getD t []).length = r)) :
    Calls Try.prog 169 #[PgV h L, StaV k (staF L f), .int .i64 t, St 6 n b c s] w (OwnP w lo hi k L (upd (upd f (18 + n) (t + 1)) (3 + t) r)) := by
  obtain ⟨A0, A1, A2, A3, A4, c0, c1, c2, c3, c4⟩ := k
  have ht3 : t < 3 := by omega
  have hf0 : f (3 + t) ≤ 7 := by have := fld_lt fld0 hok (i := t) (show t < 3 by omega); have e : (2 : Nat) ^ fB 0 = 8 := rfl; omega
  obtain ⟨W, hW⟩ : ∃ W, W = (((w.alloc (.cells #[.slice h.A L.length h.c] 30)).alloc (.cells #[.slice A0 (staF L f).f0.length c0, .slice A1 (staF L f).f1.length c1, .slice A2 (staF L f).f2.length c2, .slice A3 (staF L f).f3.length c3, .slice A4 (staF L f).f4.length c4] 41)).alloc (.cells #[.int .i64 6, .int .i64 n, .int .i64 b, .int .i64 c, .bool s] 132)) := ⟨_, rfl⟩
  have bW : Below w.heap.size w W := by rw [hW]; go_grown
  have sW : W.heap.size = w.heap.size + 1 + 1 + 1 := by rw [hW]; simp
  have k0 : Bk W w.heap.size 30 #[.slice h.A L.length h.c] := by rw [hW]; exact ((Bk.new w _ _).alloc _).alloc _
  have k1 : Bk W (w.heap.size + 1) 41 #[.slice A0 (staF L f).f0.length c0, .slice A1 (staF L f).f1.length c1, .slice A2 (staF L f).f2.length c2, .slice A3 (staF L f).f3.length c3, .slice A4 (staF L f).f4.length c4] := by
    rw [hW]; have := (Bk.new (w.alloc (.cells #[.slice h.A L.length h.c] 30)) #[.slice A0 (staF L f).f0.length c0, .slice A1 (staF L f).f1.length c1, .slice A2 (staF L f).f2.length c2, .slice A3 (staF L f).f3.length c3, .slice A4 (staF L f).f4.length c4] 41).alloc (.cells #[.int .i64 6, .int .i64 n, .int .i64 b, .int .i64 c, .bool s] 132)
    rwa [World.size_alloc] at this
  have k2 : Bk W (w.heap.size + 1 + 1) 132 #[.int .i64 6, .int .i64 n, .int .i64 b, .int .i64 c, .bool s] := by
    rw [hW]; have := Bk.new ((w.alloc (.cells #[.slice h.A L.length h.c] 30)).alloc (.cells #[.slice A0 (staF L f).f0.length c0, .slice A1 (staF L f).f1.length c1, .slice A2 (staF L f).f2.length c2, .slice A3 (staF L f).f3.length c3, .slice A4 (staF L f).f4.length c4] 41)) #[.int .i64 6, .int .i64 n, .int .i64 b, .int .i64 c, .bool s] 132
    rwa [World.size_alloc, World.size_alloc] at this
  have K0 := Lib.hid k0
  have K1 := Lib.hid k1
  have K2 := Lib.hid k2
  have OnW := Lib.hid (Only.of_below bW : Only lo hi w W)
  have OW := Lib.hid (hO.below bW hhi)
  have PP := Lib.hid hP
  have sWa := Nat.le_of_eq sW
  have sWb := Nat.le_of_eq sW.symm
  have HW := Lib.hid hW
  have bp : W.cell? ⟨w.heap.size, 0, none⟩ = some (.slice h.A L.length h.c) := (K0.out).cell 0
  have bs0 : W.cell? ⟨w.heap.size + 1, 0, none⟩ = some (.slice A0 (staF L f).f0.length c0) := (K1.out).cell 0
  have bs1 : W.cell? ⟨w.heap.size + 1, 1, none⟩ = some (.slice A1 (staF L f).f1.length c1) := (K1.out).cell 1
  have bs2 : W.cell? ⟨w.heap.size + 1, 2, none⟩ = some (.slice A2 (staF L f).f2.length c2) := (K1.out).cell 2
  have bs3 : W.cell? ⟨w.heap.size + 1, 3, none⟩ = some (.slice A3 (staF L f).f3.length c3) := (K1.out).cell 3
  have bs4 : W.cell? ⟨w.heap.size + 1, 4, none⟩ = some (.slice A4 (staF L f).f4.length c4) := (K1.out).cell 4
  have bx0 : W.cell? ⟨w.heap.size + 1 + 1, 0, none⟩ = some (.int .i64 6) := (K2.out).cell 0
  have bx1 : W.cell? ⟨w.heap.size + 1 + 1, 1, none⟩ = some (.int .i64 n) := (K2.out).cell 1
  have bx2 : W.cell? ⟨w.heap.size + 1 + 1, 2, none⟩ = some (.int .i64 b) := (K2.out).cell 2
  have bx3 : W.cell? ⟨w.heap.size + 1 + 1, 3, none⟩ = some (.int .i64 c) := (K2.out).cell 3
  have bx4 : W.cell? ⟨w.heap.size + 1 + 1, 4, none⟩ = some (.bool s) := (K2.out).cell 4
  clear hW bW sW k0 k1 k2 hO hP
  have zhi : hi ≤ W.heap.size := by omega
  have hr' : Hid (min ((upd f (18 + n) (t + 1)) (3 + t) + 1) (L.getD t []).length = r) := Lib.hid (by rw [← hr.out]; unfold upd; rw [if_neg (by omega)])
  have hf1 : (upd f (18 + n) (t + 1)) (3 + t) ≤ 7 := by unfold upd; rw [if_neg (by omega)]; exact hf0
  obtain ⟨g, hA, hlo', hhi', hgw, hcl, hfz, hput⟩ := sta_put3 h32 OW.out (i := n) (hn) ((t + 1)) ((t : Int)) (by simp [fL]; omega)
  simp only at hA
  subst hA
  have hlt3 : ((n : Nat) : Int) < ((staF L f).f3.length : Int) := by have := (sta_len L f); rw [this.2.2.2.1]; omega
  have Put := Lib.hid hput
  clear hput
  have hne0 : g ≠ w.heap.size := by omega
  have hne1 : g ≠ w.heap.size + 1 := by omega
  have hne2 : g ≠ w.heap.size + 1 + 1 := by omega
  have on1 : Only lo hi W (W.setCell ⟨g, n, none⟩ (.int .i64 (t : Int))) := Only.setCell (Only.refl lo hi W) (p := ⟨g, n, none⟩) hlo' hhi' _
  have On1 := Lib.hid (OnW.out.trans on1)
  have O1 := Lib.hid (show StaO (W.setCell ⟨g, n, none⟩ (.int .i64 (t : Int))) lo hi ⟨A0, A1, A2, some ⟨g, 0, none⟩, A4, c0, c1, c2, c3, c4⟩ (staF L (upd f (18 + n) (t + 1))) from Put.out)
  have vp : (W.setCell ⟨g, n, none⟩ (.int .i64 (t : Int))).cell? ⟨w.heap.size, 0, none⟩ = some (.slice h.A L.length h.c) := (only_bk K0.out on1 (Or.inr (by omega))).cell 0
  have vs0 : (W.setCell ⟨g, n, none⟩ (.int .i64 (t : Int))).cell? ⟨w.heap.size + 1, 0, none⟩ = some (.slice A0 (staF L f).f0.length c0) := (only_bk K1.out on1 (Or.inr (by omega))).cell 0
  have vs1 : (W.setCell ⟨g, n, none⟩ (.int .i64 (t : Int))).cell? ⟨w.heap.size + 1, 1, none⟩ = some (.slice A1 (staF L f).f1.length c1) := (only_bk K1.out on1 (Or.inr (by omega))).cell 1
  have vs2 : (W.setCell ⟨g, n, none⟩ (.int .i64 (t : Int))).cell? ⟨w.heap.size + 1, 2, none⟩ = some (.slice A2 (staF L f).f2.length c2) := (only_bk K1.out on1 (Or.inr (by omega))).cell 2
  have vs3 : (W.setCell ⟨g, n, none⟩ (.int .i64 (t : Int))).cell? ⟨w.heap.size + 1, 3, none⟩ = some (.slice (some ⟨g, 0, none⟩) (staF L f).f3.length c3) := (only_bk K1.out on1 (Or.inr (by omega))).cell 3
  have vs4 : (W.setCell ⟨g, n, none⟩ (.int .i64 (t : Int))).cell? ⟨w.heap.size + 1, 4, none⟩ = some (.slice A4 (staF L f).f4.length c4) := (only_bk K1.out on1 (Or.inr (by omega))).cell 4
  go_enter Try.func169, Try.ntmps169
  go_upto_region 1 with (fail)
  rw [← HW.out]
  go_wp2_with fail
  clear vp vs0 vs1 vs2 vs3 vs4 hcl hfz
  refine (sgo_at f h ⟨A0, A1, A2, some ⟨g, 0, none⟩, A4, c0, c1, c2, c3, c4⟩ L (upd f (18 + n) (t + 1)) t 1 w (W.setCell ⟨g, n, none⟩ (.int .i64 (t : Int))) B lo hi PP.out On1.out hB hlo O1.out hhi h32 ht (by omega) hf1 r hr').mono ?_
  rintro e wz ⟨rfl, onz, oz⟩
  clear bp bs0 bs1 bs2 bs3 bs4 bx0 bx1 bx2 bx3 bx4
  go_wp2
  exact bodyPost_end (v := .tuple #[]) (by simp [results, Try.results169, go_sem]) rfl ⟨rfl, onz, oz⟩
theorem sown_7 (h : PgH) (k : StaH) (L : Pg) (f : Nat → Nat) (t : Nat) (n : Nat) (b c : Int) (s : Bool) (w : World) (B lo hi : Nat) (hP : PgR w B h L) (hB : B ≤ lo) (hlo : lo ≤ w.heap.size) (hO : StaO w lo hi k (staF L f)) (hhi : hi ≤ w.heap.size) (h32 : L.length ≤ 3) (ht : t < L.length) (hok : okF WS f) (hn : n < 2) (r : Nat) (hr : Hid (min (f (3 + t) + 1) (L.getD t []).length = r)) :
    Calls Try.prog 169 #[PgV h L, StaV k (staF L f), .int .i64 t, St 7 n b c s] w (OwnP w lo hi k L (upd (upd f (18 + n) 0) (3 + t) r)) := by
  obtain ⟨A0, A1, A2, A3, A4, c0, c1, c2, c3, c4⟩ := k
  have ht3 : t < 3 := by omega
  have hf0 : f (3 + t) ≤ 7 := by have := fld_lt fld0 hok (i := t) (show t < 3 by omega); have e : (2 : Nat) ^ fB 0 = 8 := rfl; omega
  obtain ⟨W, hW⟩ : ∃ W, W = (((w.alloc (.cells #[.slice h.A L.length h.c] 30)).alloc (.cells #[.slice A0 (staF L f).f0.length c0, .slice A1 (staF L f).f1.length c1, .slice A2 (staF L f).f2.length c2, .slice A3 (staF L f).f3.length c3, .slice A4 (staF L f).f4.length c4] 41)).alloc (.cells #[.int .i64 7, .int .i64 n, .int .i64 b, .int .i64 c, .bool s] 132)) := ⟨_, rfl⟩
  have bW : Below w.heap.size w W := by rw [hW]; go_grown
  have sW : W.heap.size = w.heap.size + 1 + 1 + 1 := by rw [hW]; simp
  have k0 : Bk W w.heap.size 30 #[.slice h.A L.length h.c] := by rw [hW]; exact ((Bk.new w _ _).alloc _).alloc _
  have k1 : Bk W (w.heap.size + 1) 41 #[.slice A0 (staF L f).f0.length c0, .slice A1 (staF L f).f1.length c1, .slice A2 (staF L f).f2.length c2, .slice A3 (staF L f).f3.length c3, .slice A4 (staF L f).f4.length c4] := by
    rw [hW]; have := (Bk.new (w.alloc (.cells #[.slice h.A L.length h.c] 30)) #[.slice A0 (staF L f).f0.length c0, .slice A1 (staF L f).f1.length c1, .slice A2 (staF L f).f2.length c2, .slice A3 (staF L f).f3.length c3, .slice A4 (staF L f).f4.length c4] 41).alloc (.cells #[.int .i64 7, .int .i64 n, .int .i64 b, .int .i64 c, .bool s] 132)
    rwa [World.size_alloc] at this
  have k2 : Bk W (w.heap.size + 1 + 1) 132 #[.int .i64 7, .int .i64 n, .int .i64 b, .int .i64 c, .bool s] := by
    rw [hW]; have := Bk.new ((w.alloc (.cells #[.slice h.A L.length h.c] 30)).alloc (.cells #[.slice A0 (staF L f).f0.length c0, .slice A1 (staF L f).f1.length c1, .slice A2 (staF L f).f2.length c2, .slice A3 (staF L f).f3.length c3, .slice A4 (staF L f).f4.length c4] 41)) #[.int .i64 7, .int .i64 n, .int .i64 b, .int .i64 c, .bool s] 132
    rwa [World.size_alloc, World.size_alloc] at this
  have K0 := Lib.hid k0
  have K1 := Lib.hid k1
  have K2 := Lib.hid k2
  have OnW := Lib.hid (Only.of_below bW : Only lo hi w W)
  have OW := Lib.hid (hO.below bW hhi)
  have PP := Lib.hid hP
  have sWa := Nat.le_of_eq sW
  have sWb := Nat.le_of_eq sW.symm
  have HW := Lib.hid hW
  have bp : W.cell? ⟨w.heap.size, 0, none⟩ = some (.slice h.A L.length h.c) := (K0.out).cell 0
  have bs0 : W.cell? ⟨w.heap.size + 1, 0, none⟩ = some (.slice A0 (staF L f).f0.length c0) := (K1.out).cell 0
  have bs1 : W.cell? ⟨w.heap.size + 1, 1, none⟩ = some (.slice A1 (staF L f).f1.length c1) := (K1.out).cell 1
  have bs2 : W.cell? ⟨w.heap.size + 1, 2, none⟩ = some (.slice A2 (staF L f).f2.length c2) := (K1.out).cell 2
  have bs3 : W.cell? ⟨w.heap.size + 1, 3, none⟩ = some (.slice A3 (staF L f).f3.length c3) := (K1.out).cell 3
  have bs4 : W.cell? ⟨w.heap.size + 1, 4, none⟩ = some (.slice A4 (staF L f).f4.length c4) := (K1.out).cell 4
  have bx0 : W.cell? ⟨w.heap.size + 1 + 1, 0, none⟩ = some (.int .i64 7) := (K2.out).cell 0
  have bx1 : W.cell? ⟨w.heap.size + 1 + 1, 1, none⟩ = some (.int .i64 n) := (K2.out).cell 1
  have bx2 : W.cell? ⟨w.heap.size + 1 + 1, 2, none⟩ = some (.int .i64 b) := (K2.out).cell 2
  have bx3 : W.cell? ⟨w.heap.size + 1 + 1, 3, none⟩ = some (.int .i64 c) := (K2.out).cell 3
  have bx4 : W.cell? ⟨w.heap.size + 1 + 1, 4, none⟩ = some (.bool s) := (K2.out).cell 4
  clear hW bW sW k0 k1 k2 hO hP
  have zhi : hi ≤ W.heap.size := by omega
  have hr' : Hid (min ((upd f (18 + n) 0) (3 + t) + 1) (L.getD t []).length = r) := Lib.hid (by rw [← hr.out]; unfold upd; rw [if_neg (by omega)])
  have hf1 : (upd f (18 + n) 0) (3 + t) ≤ 7 := by unfold upd; rw [if_neg (by omega)]; exact hf0
  obtain ⟨g, hA, hlo', hhi', hgw, hcl, hfz, hput⟩ := sta_put3 h32 OW.out (i := n) (hn) (0) (-1) (by simp [fL])
  simp only at hA
  subst hA
  have hlt3 : ((n : Nat) : Int) < ((staF L f).f3.length : Int) := by have := (sta_len L f); rw [this.2.2.2.1]; omega
  have Put := Lib.hid hput
  clear hput
  have hne0 : g ≠ w.heap.size := by omega
  have hne1 : g ≠ w.heap.size + 1 := by omega
  have hne2 : g ≠ w.heap.size + 1 + 1 := by omega
  have on1 : Only lo hi W (W.setCell ⟨g, n, none⟩ (.int .i64 (-1))) := Only.setCell (Only.refl lo hi W) (p := ⟨g, n, none⟩) hlo' hhi' _
  have On1 := Lib.hid (OnW.out.trans on1)
  have O1 := Lib.hid (show StaO (W.setCell ⟨g, n, none⟩ (.int .i64 (-1))) lo hi ⟨A0, A1, A2, some ⟨g, 0, none⟩, A4, c0, c1, c2, c3, c4⟩ (staF L (upd f (18 + n) 0)) from Put.out)
  have vp : (W.setCell ⟨g, n, none⟩ (.int .i64 (-1))).cell? ⟨w.heap.size, 0, none⟩ = some (.slice h.A L.length h.c) := (only_bk K0.out on1 (Or.inr (by omega))).cell 0
  have vs0 : (W.setCell ⟨g, n, none⟩ (.int .i64 (-1))).cell? ⟨w.heap.size + 1, 0, none⟩ = some (.slice A0 (staF L f).f0.length c0) := (only_bk K1.out on1 (Or.inr (by omega))).cell 0
  have vs1 : (W.setCell ⟨g, n, none⟩ (.int .i64 (-1))).cell? ⟨w.heap.size + 1, 1, none⟩ = some (.slice A1 (staF L f).f1.length c1) := (only_bk K1.out on1 (Or.inr (by omega))).cell 1
  have vs2 : (W.setCell ⟨g, n, none⟩ (.int .i64 (-1))).cell? ⟨w.heap.size + 1, 2, none⟩ = some (.slice A2 (staF L f).f2.length c2) := (only_bk K1.out on1 (Or.inr (by omega))).cell 2
  have vs3 : (W.setCell ⟨g, n, none⟩ (.int .i64 (-1))).cell? ⟨w.heap.size + 1, 3, none⟩ = some (.slice (some ⟨g, 0, none⟩) (staF L f).f3.length c3) := (only_bk K1.out on1 (Or.inr (by omega))).cell 3
  have vs4 : (W.setCell ⟨g, n, none⟩ (.int .i64 (-1))).cell? ⟨w.heap.size + 1, 4, none⟩ = some (.slice A4 (staF L f).f4.length c4) := (only_bk K1.out on1 (Or.inr (by omega))).cell 4
  go_enter Try.func169, Try.ntmps169
  go_upto_region 1 with (fail)
  rw [← HW.out]
  go_wp2_with fail
  clear vp vs0 vs1 vs2 vs3 vs4 hcl hfz
  refine (sgo_at f h ⟨A0, A1, A2, some ⟨g, 0, none⟩, A4, c0, c1, c2, c3, c4⟩ L (upd f (18 + n) 0) t 1 w (W.setCell ⟨g, n, none⟩ (.int .i64 (-1))) B lo hi PP.out On1.out hB hlo O1.out hhi h32 ht (by omega) hf1 r hr').mono ?_
  rintro e wz ⟨rfl, onz, oz⟩
  clear bp bs0 bs1 bs2 bs3 bs4 bx0 bx1 bx2 bx3 bx4
  go_wp2
  exact bodyPost_end (v := .tuple #[]) (by simp [results, Try.results169, go_sem]) rfl ⟨rfl, onz, oz⟩
end Go.Proofs.Ytiljakbjbiinkaa
namespace Go.Proofs.Ytiljakbjbiinkaa
open Go.RowKit Pl
set_option maxHeartbeats 4000000
set_option maxRecDepth 100000
set_option linter.unusedVariables false

theorem sown_8 (h : PgH) (k : StaH) (L : Pg) (f : Nat → Nat) (t : Nat) (n : Nat) (b c : Int) (s : Bool) (w : World) (B lo hi : Nat) (hP : PgR w B h L) (hB : B ≤ lo) (hlo : lo ≤ w.heap.size) (hO : StaO w lo hi k (staF L f)) (hhi : hi ≤ w.heap.size) (h32 : L.length ≤ 3) (ht : t < L.length) (hok : okF WS f) (hn : n < 2) (hbc : valB b c = true) (v : Nat) (hv : Hid (sumF f t b c = v)) (r : Nat) (hr : Hid (min (f (3 + t) + 1) (L.getD t []).length = r)) :
    Calls Try.prog 169 #[PgV h L, StaV k (staF L f), .int .i64 t, St 8 n b c s] w (OwnP w lo hi k L (upd (upd f (20 + n) (v + 1)) (3 + t) r)) := by
  obtain ⟨A0, A1, A2, A3, A4, c0, c1, c2, c3, c4⟩ := k
  have ht3 : t < 3 := by omega
  have hf0 : f (3 + t) ≤ 7 := by have := fld_lt fld0 hok (i := t) (show t < 3 by omega); have e : (2 : Nat) ^ fB 0 = 8 := rfl; omega
  obtain ⟨W, hW⟩ : ∃ W, W = (((w.alloc (.cells #[.slice h.A L.length h.c] 30)).alloc (.cells #[.slice A0 (staF L f).f0.length c0, .slice A1 (staF L f).f1.length c1, .slice A2 (staF L f).f2.length c2, .slice A3 (staF L f).f3.length c3, .slice A4 (staF L f).f4.length c4] 41)).alloc (.cells #[.int .i64 8, .int .i64 n, .int .i64 b, .int .i64 c, .bool s] 132)) := ⟨_, rfl⟩
  have bW : Below w.heap.size w W := by rw [hW]; go_grown
  have sW : W.heap.size = w.heap.size + 1 + 1 + 1 := by rw [hW]; simp
  have k0 : Bk W w.heap.size 30 #[.slice h.A L.length h.c] := by rw [hW]; exact ((Bk.new w _ _).alloc _).alloc _
  have k1 : Bk W (w.heap.size + 1) 41 #[.slice A0 (staF L f).f0.length c0, .slice A1 (staF L f).f1.length c1, .slice A2 (staF L f).f2.length c2, .slice A3 (staF L f).f3.length c3, .slice A4 (staF L f).f4.length c4] := by
    rw [hW]; have := (Bk.new (w.alloc (.cells #[.slice h.A L.length h.c] 30)) #[.slice A0 (staF L f).f0.length c0, .slice A1 (staF L f).f1.length c1, .slice A2 (staF L f).f2.length c2, .slice A3 (staF L f).f3.length c3, .slice A4 (staF L f).f4.length c4] 41).alloc (.cells #[.int .i64 8, .int .i64 n, .int .i64 b, .int .i64 c, .bool s] 132)
    rwa [World.size_alloc] at this
  have k2 : Bk W (w.heap.size + 1 + 1) 132 #[.int .i64 8, .int .i64 n, .int .i64 b, .int .i64 c, .bool s] := by
    rw [hW]; have := Bk.new ((w.alloc (.cells #[.slice h.A L.length h.c] 30)).alloc (.cells #[.slice A0 (staF L f).f0.length c0, .slice A1 (staF L f).f1.length c1, .slice A2 (staF L f).f2.length c2, .slice A3 (staF L f).f3.length c3, .slice A4 (staF L f).f4.length c4] 41)) #[.int .i64 8, .int .i64 n, .int .i64 b, .int .i64 c, .bool s] 132
    rwa [World.size_alloc, World.size_alloc] at this
  have K0 := Lib.hid k0
  have K1 := Lib.hid k1
  have K2 := Lib.hid k2
  have OnW := Lib.hid (Only.of_below bW : Only lo hi w W)
  have OW := Lib.hid (hO.below bW hhi)
  have PP := Lib.hid hP
  have sWa := Nat.le_of_eq sW
  have sWb := Nat.le_of_eq sW.symm
  have HW := Lib.hid hW
  have bp : W.cell? ⟨w.heap.size, 0, none⟩ = some (.slice h.A L.length h.c) := (K0.out).cell 0
  have bs0 : W.cell? ⟨w.heap.size + 1, 0, none⟩ = some (.slice A0 (staF L f).f0.length c0) := (K1.out).cell 0
  have bs1 : W.cell? ⟨w.heap.size + 1, 1, none⟩ = some (.slice A1 (staF L f).f1.length c1) := (K1.out).cell 1
  have bs2 : W.cell? ⟨w.heap.size + 1, 2, none⟩ = some (.slice A2 (staF L f).f2.length c2) := (K1.out).cell 2
  have bs3 : W.cell? ⟨w.heap.size + 1, 3, none⟩ = some (.slice A3 (staF L f).f3.length c3) := (K1.out).cell 3
  have bs4 : W.cell? ⟨w.heap.size + 1, 4, none⟩ = some (.slice A4 (staF L f).f4.length c4) := (K1.out).cell 4
  have bx0 : W.cell? ⟨w.heap.size + 1 + 1, 0, none⟩ = some (.int .i64 8) := (K2.out).cell 0
  have bx1 : W.cell? ⟨w.heap.size + 1 + 1, 1, none⟩ = some (.int .i64 n) := (K2.out).cell 1
  have bx2 : W.cell? ⟨w.heap.size + 1 + 1, 2, none⟩ = some (.int .i64 b) := (K2.out).cell 2
  have bx3 : W.cell? ⟨w.heap.size + 1 + 1, 3, none⟩ = some (.int .i64 c) := (K2.out).cell 3
  have bx4 : W.cell? ⟨w.heap.size + 1 + 1, 4, none⟩ = some (.bool s) := (K2.out).cell 4
  clear hW bW sW k0 k1 k2 hO hP
  have hv4 : v < 4 := by rw [← hv.out]; exact sumF_lt hbc
  have hr' : Hid (min ((upd f (20 + n) (v + 1)) (3 + t) + 1) (L.getD t []).length = r) := Lib.hid (by rw [← hr.out]; unfold upd; rw [if_neg (by omega)])
  have hf1 : (upd f (20 + n) (v + 1)) (3 + t) ≤ 7 := by unfold upd; rw [if_neg (by omega)]; exact hf0
  obtain ⟨g, hA, hlo', hhi', hgw, hcl, hfz, hput⟩ := sta_put4 h32 OW.out (i := n) (hn) (v + 1) (v : Int) (by simp [fL]; omega)
  simp only at hA
  subst hA
  have hlt4 : ((n : Nat) : Int) < ((staF L f).f4.length : Int) := by have := (sta_len L f); rw [this.2.2.2.2]; omega
  clear hput hcl hfz
  have zhi : hi ≤ W.heap.size := by omega
  have allS : ∀ w', Only lo hi W w' → (w'.cell? ⟨w.heap.size, 0, none⟩ = some (.slice h.A L.length h.c) ∧ w'.cell? ⟨w.heap.size + 1, 0, none⟩ = some (.slice A0 (staF L f).f0.length c0) ∧ w'.cell? ⟨w.heap.size + 1, 1, none⟩ = some (.slice A1 (staF L f).f1.length c1) ∧ w'.cell? ⟨w.heap.size + 1, 2, none⟩ = some (.slice A2 (staF L f).f2.length c2) ∧ w'.cell? ⟨w.heap.size + 1, 3, none⟩ = some (.slice A3 (staF L f).f3.length c3) ∧ w'.cell? ⟨w.heap.size + 1, 4, none⟩ = some (.slice (some ⟨g, 0, none⟩) (staF L f).f4.length c4) ∧ w'.cell? ⟨w.heap.size + 1 + 1, 0, none⟩ = some (.int .i64 8) ∧ w'.cell? ⟨w.heap.size + 1 + 1, 1, none⟩ = some (.int .i64 n) ∧ w'.cell? ⟨w.heap.size + 1 + 1, 2, none⟩ = some (.int .i64 b) ∧ w'.cell? ⟨w.heap.size + 1 + 1, 3, none⟩ = some (.int .i64 c) ∧ w'.cell? ⟨w.heap.size + 1 + 1, 4, none⟩ = some (.bool s)) := fun w' ho => ⟨(only_bk K0.out ho (Or.inr (by omega))).cell 0, (only_bk K1.out ho (Or.inr (by omega))).cell 0, (only_bk K1.out ho (Or.inr (by omega))).cell 1, (only_bk K1.out ho (Or.inr (by omega))).cell 2, (only_bk K1.out ho (Or.inr (by omega))).cell 3, (only_bk K1.out ho (Or.inr (by omega))).cell 4, (only_bk K2.out ho (Or.inr (by omega))).cell 0, (only_bk K2.out ho (Or.inr (by omega))).cell 1, (only_bk K2.out ho (Or.inr (by omega))).cell 2, (only_bk K2.out ho (Or.inr (by omega))).cell 3, (only_bk K2.out ho (Or.inr (by omega))).cell 4⟩
  have AllS := Lib.hid allS
  clear allS
  have hd : Only lo hi W W.drew := ⟨rfl, rfl, rfl, Nat.le_refl _, fun _ _ _ => rfl⟩
  go_enter Try.func169, Try.ntmps169
  go_upto_region 1 with (fail)
  rw [← HW.out]
  go_wp2_with fail
  go_region_held3 (fun w' => w'.cell? ⟨w.heap.size, 0, none⟩ = some (.slice h.A L.length h.c) ∧ w'.cell? ⟨w.heap.size + 1, 0, none⟩ = some (.slice A0 (staF L f).f0.length c0) ∧ w'.cell? ⟨w.heap.size + 1, 1, none⟩ = some (.slice A1 (staF L f).f1.length c1) ∧ w'.cell? ⟨w.heap.size + 1, 2, none⟩ = some (.slice A2 (staF L f).f2.length c2) ∧ w'.cell? ⟨w.heap.size + 1, 3, none⟩ = some (.slice A3 (staF L f).f3.length c3) ∧ w'.cell? ⟨w.heap.size + 1, 4, none⟩ = some (.slice (some ⟨g, 0, none⟩) (staF L f).f4.length c4) ∧ w'.cell? ⟨w.heap.size + 1 + 1, 0, none⟩ = some (.int .i64 8) ∧ w'.cell? ⟨w.heap.size + 1 + 1, 1, none⟩ = some (.int .i64 n) ∧ w'.cell? ⟨w.heap.size + 1 + 1, 2, none⟩ = some (.int .i64 b) ∧ w'.cell? ⟨w.heap.size + 1 + 1, 3, none⟩ = some (.int .i64 c) ∧ w'.cell? ⟨w.heap.size + 1 + 1, 4, none⟩ = some (.bool s)) (first | (go_split_ands; exact AllS.out _ (by assumption)) | (exact AllS.out _ (by assumption))) (first | (go_at_call 167; go_split_ands; refine (ssum_any ⟨A0, A1, A2, A3, some ⟨g, 0, none⟩, c0, c1, c2, c3, c4⟩ L f t b c _ hi (OW.out.rd.below (show Below W.heap.size W _ from by go_grown) zhi) (Nat.le_trans zhi (show Below W.heap.size W _ from by go_grown).size) hok h32 ht hbc v hv).mono ?_; rintro e v0 ⟨rfl, hv0⟩; have hB0 : Below W.heap.size W v0 := below_on (by go_grown) hv0; have on0 : Only lo hi W v0 := Only.of_below hB0; obtain ⟨g', hA', -, -, -, hcv, hfv, hpv⟩ := sta_put4 h32 (OW.out.below hB0 zhi) (i := n) hn (v + 1) (v : Int) (by simp [fL]; omega); obtain rfl : g = g' := (by simp only at hA'; injection hA' with e; injection e); have on1 : Only lo hi W (v0.setCell ⟨g, n, none⟩ (.int .i64 v)) := on0.setCell (p := ⟨g, n, none⟩) hlo' hhi' _; have O1 := Lib.hid hpv; clear hv0 hpv hA'))
  clear bp bs0 bs1 bs2 bs3 bs4 bx0 bx1 bx2 bx3 bx4
  have On1 := Lib.hid (OnW.out.trans on1)
  obtain ⟨V, hV⟩ : ∃ V, V = (v0.setCell ⟨g, n, none⟩ (.int .i64 v)) := ⟨_, rfl⟩
  rw [← hV] at O1 On1 on1
  rw [← hV]
  clear hV hfv hcv
  have KC0 := only_bk K0.out on1 (Or.inr (by omega))
  have KC1 := only_bk K1.out on1 (Or.inr (by omega))
  have KC2 := only_bk K2.out on1 (Or.inr (by omega))
  have bp : V.cell? ⟨w.heap.size, 0, none⟩ = some (.slice h.A L.length h.c) := (KC0).cell 0
  have bs0 : V.cell? ⟨w.heap.size + 1, 0, none⟩ = some (.slice A0 (staF L f).f0.length c0) := (KC1).cell 0
  have bs1 : V.cell? ⟨w.heap.size + 1, 1, none⟩ = some (.slice A1 (staF L f).f1.length c1) := (KC1).cell 1
  have bs2 : V.cell? ⟨w.heap.size + 1, 2, none⟩ = some (.slice A2 (staF L f).f2.length c2) := (KC1).cell 2
  have bs3 : V.cell? ⟨w.heap.size + 1, 3, none⟩ = some (.slice A3 (staF L f).f3.length c3) := (KC1).cell 3
  have bs4 : V.cell? ⟨w.heap.size + 1, 4, none⟩ = some (.slice (some ⟨g, 0, none⟩) (staF L f).f4.length c4) := (KC1).cell 4
  have bx0 : V.cell? ⟨w.heap.size + 1 + 1, 0, none⟩ = some (.int .i64 8) := (KC2).cell 0
  have bx1 : V.cell? ⟨w.heap.size + 1 + 1, 1, none⟩ = some (.int .i64 n) := (KC2).cell 1
  have bx2 : V.cell? ⟨w.heap.size + 1 + 1, 2, none⟩ = some (.int .i64 b) := (KC2).cell 2
  have bx3 : V.cell? ⟨w.heap.size + 1 + 1, 3, none⟩ = some (.int .i64 c) := (KC2).cell 3
  have bx4 : V.cell? ⟨w.heap.size + 1 + 1, 4, none⟩ = some (.bool s) := (KC2).cell 4
  clear KC0 KC1 KC2
  go_wp2_with fail
  refine (sgo_at f h ⟨A0, A1, A2, A3, some ⟨g, 0, none⟩, c0, c1, c2, c3, c4⟩ L (upd f (20 + n) (v + 1)) t 1 w V B lo hi PP.out On1.out hB hlo O1.out hhi h32 ht (by omega) hf1 r hr').mono ?_
  rintro e wz ⟨rfl, onz, oz⟩
  clear bp bs0 bs1 bs2 bs3 bs4 bx0 bx1 bx2 bx3 bx4
  go_wp2
  exact bodyPost_end (v := .tuple #[]) (by simp [results, Try.results169, go_sem]) rfl ⟨rfl, onz, oz⟩
end Go.Proofs.Ytiljakbjbiinkaa
namespace Go.Proofs.Ytiljakbjbiinkaa
open Go.RowKit Pl
set_option maxHeartbeats 4000000
set_option maxRecDepth 100000
set_option linter.unusedVariables false

theorem sown_9 (h : PgH) (k : StaH) (L : Pg) (f : Nat → Nat) (t : Nat) (n m : Nat) (c : Int) (s : Bool) (w : World) (B lo hi : Nat) (hP : PgR w B h L) (hB : B ≤ lo) (hlo : lo ≤ w.heap.size) (hO : StaO w lo hi k (staF L f)) (hhi : hi ≤ w.heap.size) (h32 : L.length ≤ 3) (ht : t < L.length) (hok : okF WS f) (hn : n < 3) (hm2 : m < 2) (v : Nat) (hv4 : v < 4) (hv : f (20 + m) = v + 1) (r : Nat) (hr : Hid (min (f (3 + t) + 1) (L.getD t []).length = r)) :
    Calls Try.prog 169 #[PgV h L, StaV k (staF L f), .int .i64 t, St 9 n m c s] w (OwnP w lo hi k L (upd (upd (upd f (6 + (t * 3 + n)) v) (20 + m) 0) (3 + t) r)) := by
  obtain ⟨A0, A1, A2, A3, A4, c0, c1, c2, c3, c4⟩ := k
  have ht3 : t < 3 := by omega
  have hf0 : f (3 + t) ≤ 7 := by have := fld_lt fld0 hok (i := t) (show t < 3 by omega); have e : (2 : Nat) ^ fB 0 = 8 := rfl; omega
  obtain ⟨W, hW⟩ : ∃ W, W = (((w.alloc (.cells #[.slice h.A L.length h.c] 30)).alloc (.cells #[.slice A0 (staF L f).f0.length c0, .slice A1 (staF L f).f1.length c1, .slice A2 (staF L f).f2.length c2, .slice A3 (staF L f).f3.length c3, .slice A4 (staF L f).f4.length c4] 41)).alloc (.cells #[.int .i64 9, .int .i64 n, .int .i64 m, .int .i64 c, .bool s] 132)) := ⟨_, rfl⟩
  have bW : Below w.heap.size w W := by rw [hW]; go_grown
  have sW : W.heap.size = w.heap.size + 1 + 1 + 1 := by rw [hW]; simp
  have k0 : Bk W w.heap.size 30 #[.slice h.A L.length h.c] := by rw [hW]; exact ((Bk.new w _ _).alloc _).alloc _
  have k1 : Bk W (w.heap.size + 1) 41 #[.slice A0 (staF L f).f0.length c0, .slice A1 (staF L f).f1.length c1, .slice A2 (staF L f).f2.length c2, .slice A3 (staF L f).f3.length c3, .slice A4 (staF L f).f4.length c4] := by
    rw [hW]; have := (Bk.new (w.alloc (.cells #[.slice h.A L.length h.c] 30)) #[.slice A0 (staF L f).f0.length c0, .slice A1 (staF L f).f1.length c1, .slice A2 (staF L f).f2.length c2, .slice A3 (staF L f).f3.length c3, .slice A4 (staF L f).f4.length c4] 41).alloc (.cells #[.int .i64 9, .int .i64 n, .int .i64 m, .int .i64 c, .bool s] 132)
    rwa [World.size_alloc] at this
  have k2 : Bk W (w.heap.size + 1 + 1) 132 #[.int .i64 9, .int .i64 n, .int .i64 m, .int .i64 c, .bool s] := by
    rw [hW]; have := Bk.new ((w.alloc (.cells #[.slice h.A L.length h.c] 30)).alloc (.cells #[.slice A0 (staF L f).f0.length c0, .slice A1 (staF L f).f1.length c1, .slice A2 (staF L f).f2.length c2, .slice A3 (staF L f).f3.length c3, .slice A4 (staF L f).f4.length c4] 41)) #[.int .i64 9, .int .i64 n, .int .i64 m, .int .i64 c, .bool s] 132
    rwa [World.size_alloc, World.size_alloc] at this
  have K0 := Lib.hid k0
  have K1 := Lib.hid k1
  have K2 := Lib.hid k2
  have OnW := Lib.hid (Only.of_below bW : Only lo hi w W)
  have OW := Lib.hid (hO.below bW hhi)
  have PP := Lib.hid hP
  have sWa := Nat.le_of_eq sW
  have sWb := Nat.le_of_eq sW.symm
  have HW := Lib.hid hW
  have bp : W.cell? ⟨w.heap.size, 0, none⟩ = some (.slice h.A L.length h.c) := (K0.out).cell 0
  have bs0 : W.cell? ⟨w.heap.size + 1, 0, none⟩ = some (.slice A0 (staF L f).f0.length c0) := (K1.out).cell 0
  have bs1 : W.cell? ⟨w.heap.size + 1, 1, none⟩ = some (.slice A1 (staF L f).f1.length c1) := (K1.out).cell 1
  have bs2 : W.cell? ⟨w.heap.size + 1, 2, none⟩ = some (.slice A2 (staF L f).f2.length c2) := (K1.out).cell 2
  have bs3 : W.cell? ⟨w.heap.size + 1, 3, none⟩ = some (.slice A3 (staF L f).f3.length c3) := (K1.out).cell 3
  have bs4 : W.cell? ⟨w.heap.size + 1, 4, none⟩ = some (.slice A4 (staF L f).f4.length c4) := (K1.out).cell 4
  have bx0 : W.cell? ⟨w.heap.size + 1 + 1, 0, none⟩ = some (.int .i64 9) := (K2.out).cell 0
  have bx1 : W.cell? ⟨w.heap.size + 1 + 1, 1, none⟩ = some (.int .i64 n) := (K2.out).cell 1
  have bx2 : W.cell? ⟨w.heap.size + 1 + 1, 2, none⟩ = some (.int .i64 m) := (K2.out).cell 2
  have bx3 : W.cell? ⟨w.heap.size + 1 + 1, 3, none⟩ = some (.int .i64 c) := (K2.out).cell 3
  have bx4 : W.cell? ⟨w.heap.size + 1 + 1, 4, none⟩ = some (.bool s) := (K2.out).cell 4
  clear hW bW sW k0 k1 k2 hO hP
  have hr' : Hid (min ((upd (upd f (6 + (t * 3 + n)) v) (20 + m) 0) (3 + t) + 1) (L.getD t []).length = r) := Lib.hid (by rw [← hr.out]; unfold upd; rw [if_neg (by omega), if_neg (by omega)])
  have hf1 : (upd (upd f (6 + (t * 3 + n)) v) (20 + m) 0) (3 + t) ≤ 7 := by unfold upd; rw [if_neg (by omega), if_neg (by omega)]; exact hf0
  obtain ⟨g, hA, hlo', hhi', hgw, hcl, hfz, hput⟩ := sta_put4 h32 OW.out (i := m) hm2 0 (-1) (by simp [fL])
  simp only at hA
  subst hA
  have hlt4 : ((m : Nat) : Int) < ((staF L f).f4.length : Int) := by have := (sta_len L f); rw [this.2.2.2.2]; omega
  have hcm : W.cell? ⟨g, m, none⟩ = some (.int .i64 (v : Int)) := by rw [hcl, hv]; simp [fL]; omega
  have HV := Lib.hid hv
  clear hput hcl hfz hv
  have zhi : hi ≤ W.heap.size := by omega
  have allS : ∀ w', Only lo hi W w' → (w'.cell? ⟨w.heap.size, 0, none⟩ = some (.slice h.A L.length h.c) ∧ w'.cell? ⟨w.heap.size + 1, 0, none⟩ = some (.slice A0 (staF L f).f0.length c0) ∧ w'.cell? ⟨w.heap.size + 1, 1, none⟩ = some (.slice A1 (staF L f).f1.length c1) ∧ w'.cell? ⟨w.heap.size + 1, 2, none⟩ = some (.slice A2 (staF L f).f2.length c2) ∧ w'.cell? ⟨w.heap.size + 1, 3, none⟩ = some (.slice A3 (staF L f).f3.length c3) ∧ w'.cell? ⟨w.heap.size + 1, 4, none⟩ = some (.slice (some ⟨g, 0, none⟩) (staF L f).f4.length c4) ∧ w'.cell? ⟨w.heap.size + 1 + 1, 0, none⟩ = some (.int .i64 9) ∧ w'.cell? ⟨w.heap.size + 1 + 1, 1, none⟩ = some (.int .i64 n) ∧ w'.cell? ⟨w.heap.size + 1 + 1, 2, none⟩ = some (.int .i64 m) ∧ w'.cell? ⟨w.heap.size + 1 + 1, 3, none⟩ = some (.int .i64 c) ∧ w'.cell? ⟨w.heap.size + 1 + 1, 4, none⟩ = some (.bool s)) := fun w' ho => ⟨(only_bk K0.out ho (Or.inr (by omega))).cell 0, (only_bk K1.out ho (Or.inr (by omega))).cell 0, (only_bk K1.out ho (Or.inr (by omega))).cell 1, (only_bk K1.out ho (Or.inr (by omega))).cell 2, (only_bk K1.out ho (Or.inr (by omega))).cell 3, (only_bk K1.out ho (Or.inr (by omega))).cell 4, (only_bk K2.out ho (Or.inr (by omega))).cell 0, (only_bk K2.out ho (Or.inr (by omega))).cell 1, (only_bk K2.out ho (Or.inr (by omega))).cell 2, (only_bk K2.out ho (Or.inr (by omega))).cell 3, (only_bk K2.out ho (Or.inr (by omega))).cell 4⟩
  have AllS := Lib.hid allS
  clear allS
  have hd : Only lo hi W W.drew := ⟨rfl, rfl, rfl, Nat.le_refl _, fun _ _ _ => rfl⟩
  go_enter Try.func169, Try.ntmps169
  go_upto_region 1 with (fail)
  rw [← HW.out]
  go_wp2_with fail
  have hcd : W.drew.cell? ⟨g, m, none⟩ = some (.int .i64 (v : Int)) := hcm
  have OD := Lib.hid (show StaO W.drew lo hi ⟨A0, A1, A2, A3, some ⟨g, 0, none⟩, c0, c1, c2, c3, c4⟩ (staF L f) from OW.out.keep (Nat.le_refl _) (Nat.le_refl _) fun _ _ _ => rfl)
  have FD := Lib.hid (show (W.drew.cell? ⟨w.heap.size, 0, none⟩ = some (.slice h.A L.length h.c) ∧ W.drew.cell? ⟨w.heap.size + 1, 0, none⟩ = some (.slice A0 (staF L f).f0.length c0) ∧ W.drew.cell? ⟨w.heap.size + 1, 1, none⟩ = some (.slice A1 (staF L f).f1.length c1) ∧ W.drew.cell? ⟨w.heap.size + 1, 2, none⟩ = some (.slice A2 (staF L f).f2.length c2) ∧ W.drew.cell? ⟨w.heap.size + 1, 3, none⟩ = some (.slice A3 (staF L f).f3.length c3) ∧ W.drew.cell? ⟨w.heap.size + 1, 4, none⟩ = some (.slice (some ⟨g, 0, none⟩) (staF L f).f4.length c4) ∧ W.drew.cell? ⟨w.heap.size + 1 + 1, 0, none⟩ = some (.int .i64 9) ∧ W.drew.cell? ⟨w.heap.size + 1 + 1, 1, none⟩ = some (.int .i64 n) ∧ W.drew.cell? ⟨w.heap.size + 1 + 1, 2, none⟩ = some (.int .i64 m) ∧ W.drew.cell? ⟨w.heap.size + 1 + 1, 3, none⟩ = some (.int .i64 c) ∧ W.drew.cell? ⟨w.heap.size + 1 + 1, 4, none⟩ = some (.bool s) ∧ W.drew.cell? ⟨g, m, none⟩ = some (.int .i64 (v : Int))) from by obtain ⟨z0, z1, z2, z3, z4, z5, z6, z7, z8, z9, z10⟩ := AllS.out _ hd; exact ⟨z0, z1, z2, z3, z4, z5, z6, z7, z8, z9, z10, hcd⟩)
  go_region_held3 (fun w' => w'.cell? ⟨w.heap.size, 0, none⟩ = some (.slice h.A L.length h.c) ∧ w'.cell? ⟨w.heap.size + 1, 0, none⟩ = some (.slice A0 (staF L f).f0.length c0) ∧ w'.cell? ⟨w.heap.size + 1, 1, none⟩ = some (.slice A1 (staF L f).f1.length c1) ∧ w'.cell? ⟨w.heap.size + 1, 2, none⟩ = some (.slice A2 (staF L f).f2.length c2) ∧ w'.cell? ⟨w.heap.size + 1, 3, none⟩ = some (.slice A3 (staF L f).f3.length c3) ∧ w'.cell? ⟨w.heap.size + 1, 4, none⟩ = some (.slice (some ⟨g, 0, none⟩) (staF L f).f4.length c4) ∧ w'.cell? ⟨w.heap.size + 1 + 1, 0, none⟩ = some (.int .i64 9) ∧ w'.cell? ⟨w.heap.size + 1 + 1, 1, none⟩ = some (.int .i64 n) ∧ w'.cell? ⟨w.heap.size + 1 + 1, 2, none⟩ = some (.int .i64 m) ∧ w'.cell? ⟨w.heap.size + 1 + 1, 3, none⟩ = some (.int .i64 c) ∧ w'.cell? ⟨w.heap.size + 1 + 1, 4, none⟩ = some (.bool s) ∧ w'.cell? ⟨g, m, none⟩ = some (.int .i64 (v : Int))) (first | (with_reducible exact F1.out) | (with_reducible exact FD.out)) (first | (go_at_call 166; go_split_ands; refine (sset_at f ⟨A0, A1, A2, A3, some ⟨g, 0, none⟩, c0, c1, c2, c3, c4⟩ L f t n v w W.drew lo hi (OnW.out.trans hd) OD.out hhi h32 ht hn hv4).mono ?_; rintro e v1 ⟨rfl, ho1, hw1, hs1⟩; have on1 : Only lo hi W v1 := hd.trans ho1; obtain ⟨g', hA', -, -, -, hcv, hfv, hpv⟩ := sta_put4 h32 hs1 (i := m) hm2 0 (-1) (by simp [fL]); obtain rfl : g = g' := (by simp only at hA'; injection hA' with e; injection e); have hcw : v1.cell? ⟨g, m, none⟩ = some (.int .i64 (v : Int)) := (by rw [hcv]; unfold upd; rw [if_neg (by omega), HV.out]; simp [fL]; omega); have On1 := Lib.hid hw1; have P1 := Lib.hid hpv; clear ho1 hw1 hs1 hpv hA' hcv; have F1 := Lib.hid (show (v1.cell? ⟨w.heap.size, 0, none⟩ = some (.slice h.A L.length h.c) ∧ v1.cell? ⟨w.heap.size + 1, 0, none⟩ = some (.slice A0 (staF L f).f0.length c0) ∧ v1.cell? ⟨w.heap.size + 1, 1, none⟩ = some (.slice A1 (staF L f).f1.length c1) ∧ v1.cell? ⟨w.heap.size + 1, 2, none⟩ = some (.slice A2 (staF L f).f2.length c2) ∧ v1.cell? ⟨w.heap.size + 1, 3, none⟩ = some (.slice A3 (staF L f).f3.length c3) ∧ v1.cell? ⟨w.heap.size + 1, 4, none⟩ = some (.slice (some ⟨g, 0, none⟩) (staF L f).f4.length c4) ∧ v1.cell? ⟨w.heap.size + 1 + 1, 0, none⟩ = some (.int .i64 9) ∧ v1.cell? ⟨w.heap.size + 1 + 1, 1, none⟩ = some (.int .i64 n) ∧ v1.cell? ⟨w.heap.size + 1 + 1, 2, none⟩ = some (.int .i64 m) ∧ v1.cell? ⟨w.heap.size + 1 + 1, 3, none⟩ = some (.int .i64 c) ∧ v1.cell? ⟨w.heap.size + 1 + 1, 4, none⟩ = some (.bool s) ∧ v1.cell? ⟨g, m, none⟩ = some (.int .i64 (v : Int))) from (by obtain ⟨z0, z1, z2, z3, z4, z5, z6, z7, z8, z9, z10⟩ := AllS.out _ on1; exact ⟨z0, z1, z2, z3, z4, z5, z6, z7, z8, z9, z10, hcw⟩))))
  clear bp bs0 bs1 bs2 bs3 bs4 bx0 bx1 bx2 bx3 bx4
  clear F1 FD hcd hcm
  have KC0 := only_bk K0.out on1 (Or.inr (by omega))
  have KC1 := only_bk K1.out on1 (Or.inr (by omega))
  have KC2 := only_bk K2.out on1 (Or.inr (by omega))
  have bp : v1.cell? ⟨w.heap.size, 0, none⟩ = some (.slice h.A L.length h.c) := (KC0).cell 0
  have bs0 : v1.cell? ⟨w.heap.size + 1, 0, none⟩ = some (.slice A0 (staF L f).f0.length c0) := (KC1).cell 0
  have bs1 : v1.cell? ⟨w.heap.size + 1, 1, none⟩ = some (.slice A1 (staF L f).f1.length c1) := (KC1).cell 1
  have bs2 : v1.cell? ⟨w.heap.size + 1, 2, none⟩ = some (.slice A2 (staF L f).f2.length c2) := (KC1).cell 2
  have bs3 : v1.cell? ⟨w.heap.size + 1, 3, none⟩ = some (.slice A3 (staF L f).f3.length c3) := (KC1).cell 3
  have bs4 : v1.cell? ⟨w.heap.size + 1, 4, none⟩ = some (.slice (some ⟨g, 0, none⟩) (staF L f).f4.length c4) := (KC1).cell 4
  have bx0 : v1.cell? ⟨w.heap.size + 1 + 1, 0, none⟩ = some (.int .i64 9) := (KC2).cell 0
  have bx1 : v1.cell? ⟨w.heap.size + 1 + 1, 1, none⟩ = some (.int .i64 n) := (KC2).cell 1
  have bx2 : v1.cell? ⟨w.heap.size + 1 + 1, 2, none⟩ = some (.int .i64 m) := (KC2).cell 2
  have bx3 : v1.cell? ⟨w.heap.size + 1 + 1, 3, none⟩ = some (.int .i64 c) := (KC2).cell 3
  have bx4 : v1.cell? ⟨w.heap.size + 1 + 1, 4, none⟩ = some (.bool s) := (KC2).cell 4
  clear KC0 KC1 KC2
  have hne0 : g ≠ w.heap.size := by omega
  have hne1 : g ≠ w.heap.size + 1 := by omega
  have hne2 : g ≠ w.heap.size + 1 + 1 := by omega
  have on2 : Only lo hi W (v1.setCell ⟨g, m, none⟩ (.int .i64 (-1))) := on1.setCell (p := ⟨g, m, none⟩) hlo' hhi' _
  have On2 := Lib.hid (OnW.out.trans on2)
  have vp : (v1.setCell ⟨g, m, none⟩ (.int .i64 (-1))).cell? ⟨w.heap.size, 0, none⟩ = some (.slice h.A L.length h.c) := (only_bk K0.out on2 (Or.inr (by omega))).cell 0
  have vs0 : (v1.setCell ⟨g, m, none⟩ (.int .i64 (-1))).cell? ⟨w.heap.size + 1, 0, none⟩ = some (.slice A0 (staF L f).f0.length c0) := (only_bk K1.out on2 (Or.inr (by omega))).cell 0
  have vs1 : (v1.setCell ⟨g, m, none⟩ (.int .i64 (-1))).cell? ⟨w.heap.size + 1, 1, none⟩ = some (.slice A1 (staF L f).f1.length c1) := (only_bk K1.out on2 (Or.inr (by omega))).cell 1
  have vs2 : (v1.setCell ⟨g, m, none⟩ (.int .i64 (-1))).cell? ⟨w.heap.size + 1, 2, none⟩ = some (.slice A2 (staF L f).f2.length c2) := (only_bk K1.out on2 (Or.inr (by omega))).cell 2
  have vs3 : (v1.setCell ⟨g, m, none⟩ (.int .i64 (-1))).cell? ⟨w.heap.size + 1, 3, none⟩ = some (.slice A3 (staF L f).f3.length c3) := (only_bk K1.out on2 (Or.inr (by omega))).cell 3
  have vs4 : (v1.setCell ⟨g, m, none⟩ (.int .i64 (-1))).cell? ⟨w.heap.size + 1, 4, none⟩ = some (.slice (some ⟨g, 0, none⟩) (staF L f).f4.length c4) := (only_bk K1.out on2 (Or.inr (by omega))).cell 4
  go_wp2_with fail
  clear vp vs0 vs1 vs2 vs3 vs4 hcw hfv
  refine (sgo_at f h ⟨A0, A1, A2, A3, some ⟨g, 0, none⟩, c0, c1, c2, c3, c4⟩ L (upd (upd f (6 + (t * 3 + n)) v) (20 + m) 0) t 1 w (v1.setCell ⟨g, m, none⟩ (.int .i64 (-1))) B lo hi PP.out On2.out hB hlo P1.out hhi h32 ht (by omega) hf1 r hr').mono ?_
  rintro e wz ⟨rfl, onz, oz⟩
  clear bp bs0 bs1 bs2 bs3 bs4 bx0 bx1 bx2 bx3 bx4
  go_wp2
  exact bodyPost_end (v := .tuple #[]) (by simp [results, Try.results169, go_sem]) rfl ⟨rfl, onz, oz⟩
end Go.Proofs.Ytiljakbjbiinkaa
namespace Go.Proofs.Ytiljakbjbiinkaa
open Go.RowKit Pl
set_option maxHeartbeats 4000000
set_option maxRecDepth 100000
set_option linter.unusedVariables false

theorem sown_10n (h : PgH) (k : StaH) (L : Pg) (f : Nat → Nat) (t : Nat) (n q : Nat) (c : Int) (s : Bool) (w : World) (B lo hi : Nat) (hP : PgR w B h L) (hB : B ≤ lo) (hlo : lo ≤ w.heap.size) (hO : StaO w lo hi k (staF L f)) (hhi : hi ≤ w.heap.size) (h32 : L.length ≤ 3) (ht : t < L.length) (hok : okF WS f) (hn : n < 3) (hq1 : 1 ≤ q) (hq6 : q ≤ 6) (v : Nat) (hv4 : v < 4) (hl6 : (L.getD t []).length ≤ 6) (hv : f (6 + (t * 3 + n)) = v) (hv0 : v ≠ 0) (r : Nat) (hr : Hid (min (f (3 + t) + 1) (L.getD t []).length = r)) :
    Calls Try.prog 169 #[PgV h L, StaV k (staF L f), .int .i64 t, St 10 n q c s] w (OwnP w lo hi k L (upd f (3 + t) r)) := by
  obtain ⟨A0, A1, A2, A3, A4, c0, c1, c2, c3, c4⟩ := k
  have ht3 : t < 3 := by omega
  have hf0 : f (3 + t) ≤ 7 := by have := fld_lt fld0 hok (i := t) (show t < 3 by omega); have e : (2 : Nat) ^ fB 0 = 8 := rfl; omega
  obtain ⟨W, hW⟩ : ∃ W, W = (((w.alloc (.cells #[.slice h.A L.length h.c] 30)).alloc (.cells #[.slice A0 (staF L f).f0.length c0, .slice A1 (staF L f).f1.length c1, .slice A2 (staF L f).f2.length c2, .slice A3 (staF L f).f3.length c3, .slice A4 (staF L f).f4.length c4] 41)).alloc (.cells #[.int .i64 10, .int .i64 n, .int .i64 q, .int .i64 c, .bool s] 132)) := ⟨_, rfl⟩
  have bW : Below w.heap.size w W := by rw [hW]; go_grown
  have sW : W.heap.size = w.heap.size + 1 + 1 + 1 := by rw [hW]; simp
  have k0 : Bk W w.heap.size 30 #[.slice h.A L.length h.c] := by rw [hW]; exact ((Bk.new w _ _).alloc _).alloc _
  have k1 : Bk W (w.heap.size + 1) 41 #[.slice A0 (staF L f).f0.length c0, .slice A1 (staF L f).f1.length c1, .slice A2 (staF L f).f2.length c2, .slice A3 (staF L f).f3.length c3, .slice A4 (staF L f).f4.length c4] := by
    rw [hW]; have := (Bk.new (w.alloc (.cells #[.slice h.A L.length h.c] 30)) #[.slice A0 (staF L f).f0.length c0, .slice A1 (staF L f).f1.length c1, .slice A2 (staF L f).f2.length c2, .slice A3 (staF L f).f3.length c3, .slice A4 (staF L f).f4.length c4] 41).alloc (.cells #[.int .i64 10, .int .i64 n, .int .i64 q, .int .i64 c, .bool s] 132)
    rwa [World.size_alloc] at this
  have k2 : Bk W (w.heap.size + 1 + 1) 132 #[.int .i64 10, .int .i64 n, .int .i64 q, .int .i64 c, .bool s] := by
    rw [hW]; have := Bk.new ((w.alloc (.cells #[.slice h.A L.length h.c] 30)).alloc (.cells #[.slice A0 (staF L f).f0.length c0, .slice A1 (staF L f).f1.length c1, .slice A2 (staF L f).f2.length c2, .slice A3 (staF L f).f3.length c3, .slice A4 (staF L f).f4.length c4] 41)) #[.int .i64 10, .int .i64 n, .int .i64 q, .int .i64 c, .bool s] 132
    rwa [World.size_alloc, World.size_alloc] at this
  have K0 := Lib.hid k0
  have K1 := Lib.hid k1
  have K2 := Lib.hid k2
  have OnW := Lib.hid (Only.of_below bW : Only lo hi w W)
  have OW := Lib.hid (hO.below bW hhi)
  have PP := Lib.hid hP
  have sWa := Nat.le_of_eq sW
  have sWb := Nat.le_of_eq sW.symm
  have HW := Lib.hid hW
  have bp : W.cell? ⟨w.heap.size, 0, none⟩ = some (.slice h.A L.length h.c) := (K0.out).cell 0
  have bs0 : W.cell? ⟨w.heap.size + 1, 0, none⟩ = some (.slice A0 (staF L f).f0.length c0) := (K1.out).cell 0
  have bs1 : W.cell? ⟨w.heap.size + 1, 1, none⟩ = some (.slice A1 (staF L f).f1.length c1) := (K1.out).cell 1
  have bs2 : W.cell? ⟨w.heap.size + 1, 2, none⟩ = some (.slice A2 (staF L f).f2.length c2) := (K1.out).cell 2
  have bs3 : W.cell? ⟨w.heap.size + 1, 3, none⟩ = some (.slice A3 (staF L f).f3.length c3) := (K1.out).cell 3
  have bs4 : W.cell? ⟨w.heap.size + 1, 4, none⟩ = some (.slice A4 (staF L f).f4.length c4) := (K1.out).cell 4
  have bx0 : W.cell? ⟨w.heap.size + 1 + 1, 0, none⟩ = some (.int .i64 10) := (K2.out).cell 0
  have bx1 : W.cell? ⟨w.heap.size + 1 + 1, 1, none⟩ = some (.int .i64 n) := (K2.out).cell 1
  have bx2 : W.cell? ⟨w.heap.size + 1 + 1, 2, none⟩ = some (.int .i64 q) := (K2.out).cell 2
  have bx3 : W.cell? ⟨w.heap.size + 1 + 1, 3, none⟩ = some (.int .i64 c) := (K2.out).cell 3
  have bx4 : W.cell? ⟨w.heap.size + 1 + 1, 4, none⟩ = some (.bool s) := (K2.out).cell 4
  clear hW bW sW k0 k1 k2 hO hP
  obtain ⟨g, hA, hlo', hhi', hgw, hcl, hfz, hput⟩ := sta_put1 h32 OW.out (i := t * 3 + n) (by omega) 0 0 (by simp [fL])
  simp only at hA
  subst hA
  have hlt1 : ((t * 3 + n : Nat) : Int) < ((staF L f).f1.length : Int) := by have := (sta_len L f); rw [this.2.1]; omega
  have hcm : W.cell? ⟨g, t * 3 + n, none⟩ = some (.int .i64 (v : Int)) := by rw [hcl, hv]; simp [fL]
  have e1 : IntKind.i64.wrap ((t : Int) * 3) = (t : Int) * 3 := wrap64_small (by omega) (by omega)
  have e2 : IntKind.i64.wrap ((t : Int) * 3 + (n : Int)) = ((t * 3 + n : Nat) : Int) := by rw [wrap64_small (by omega) (by omega)]; omega
  have hv1 : ((v : Int) == 0) = false := by simp [hv0]
  clear hput hcl hfz hv
  have zhi : hi ≤ W.heap.size := by omega
  have allS : ∀ w', Only lo hi W w' → (w'.cell? ⟨w.heap.size, 0, none⟩ = some (.slice h.A L.length h.c) ∧ w'.cell? ⟨w.heap.size + 1, 0, none⟩ = some (.slice A0 (staF L f).f0.length c0) ∧ w'.cell? ⟨w.heap.size + 1, 1, none⟩ = some (.slice (some ⟨g, 0, none⟩) (staF L f).f1.length c1) ∧ w'.cell? ⟨w.heap.size + 1, 2, none⟩ = some (.slice A2 (staF L f).f2.length c2) ∧ w'.cell? ⟨w.heap.size + 1, 3, none⟩ = some (.slice A3 (staF L f).f3.length c3) ∧ w'.cell? ⟨w.heap.size + 1, 4, none⟩ = some (.slice A4 (staF L f).f4.length c4) ∧ w'.cell? ⟨w.heap.size + 1 + 1, 0, none⟩ = some (.int .i64 10) ∧ w'.cell? ⟨w.heap.size + 1 + 1, 1, none⟩ = some (.int .i64 n) ∧ w'.cell? ⟨w.heap.size + 1 + 1, 2, none⟩ = some (.int .i64 q) ∧ w'.cell? ⟨w.heap.size + 1 + 1, 3, none⟩ = some (.int .i64 c) ∧ w'.cell? ⟨w.heap.size + 1 + 1, 4, none⟩ = some (.bool s)) := fun w' ho => ⟨(only_bk K0.out ho (Or.inr (by omega))).cell 0, (only_bk K1.out ho (Or.inr (by omega))).cell 0, (only_bk K1.out ho (Or.inr (by omega))).cell 1, (only_bk K1.out ho (Or.inr (by omega))).cell 2, (only_bk K1.out ho (Or.inr (by omega))).cell 3, (only_bk K1.out ho (Or.inr (by omega))).cell 4, (only_bk K2.out ho (Or.inr (by omega))).cell 0, (only_bk K2.out ho (Or.inr (by omega))).cell 1, (only_bk K2.out ho (Or.inr (by omega))).cell 2, (only_bk K2.out ho (Or.inr (by omega))).cell 3, (only_bk K2.out ho (Or.inr (by omega))).cell 4⟩
  have AllS := Lib.hid allS
  clear allS
  have hd : Only lo hi W W.drew := ⟨rfl, rfl, rfl, Nat.le_refl _, fun _ _ _ => rfl⟩
  go_enter Try.func169, Try.ntmps169
  go_upto_region 1 with (fail)
  rw [← HW.out]
  go_wp2_with fail
  refine (sgo_at f h ⟨A0, some ⟨g, 0, none⟩, A2, A3, A4, c0, c1, c2, c3, c4⟩ L f t 1 w W B lo hi PP.out OnW.out hB hlo OW.out hhi h32 ht (by omega) hf0 r hr).mono ?_
  rintro e wz ⟨rfl, onz, oz⟩
  clear bp bs0 bs1 bs2 bs3 bs4 bx0 bx1 bx2 bx3 bx4
  go_wp2
  exact bodyPost_end (v := .tuple #[]) (by simp [results, Try.results169, go_sem]) rfl ⟨rfl, onz, oz⟩
theorem sown_10z (h : PgH) (k : StaH) (L : Pg) (f : Nat → Nat) (t : Nat) (n q : Nat) (c : Int) (s : Bool) (w : World) (B lo hi : Nat) (hP : PgR w B h L) (hB : B ≤ lo) (hlo : lo ≤ w.heap.size) (hO : StaO w lo hi k (staF L f)) (hhi : hi ≤ w.heap.size) (h32 : L.length ≤ 3) (ht : t < L.length) (hok : okF WS f) (hn : n < 3) (hq1 : 1 ≤ q) (hq6 : q ≤ 6) (v : Nat) (hv4 : v < 4) (hl6 : (L.getD t []).length ≤ 6) (hv : f (6 + (t * 3 + n)) = v) (hv0 : v = 0) (r : Nat) (hr : Hid (min (f (3 + t) + 1 + q) (L.getD t []).length = r)) :
    Calls Try.prog 169 #[PgV h L, StaV k (staF L f), .int .i64 t, St 10 n q c s] w (OwnP w lo hi k L (upd f (3 + t) r)) := by
  obtain ⟨A0, A1, A2, A3, A4, c0, c1, c2, c3, c4⟩ := k
  have ht3 : t < 3 := by omega
  have hf0 : f (3 + t) ≤ 7 := by have := fld_lt fld0 hok (i := t) (show t < 3 by omega); have e : (2 : Nat) ^ fB 0 = 8 := rfl; omega
  obtain ⟨W, hW⟩ : ∃ W, W = (((w.alloc (.cells #[.slice h.A L.length h.c] 30)).alloc (.cells #[.slice A0 (staF L f).f0.length c0, .slice A1 (staF L f).f1.length c1, .slice A2 (staF L f).f2.length c2, .slice A3 (staF L f).f3.length c3, .slice A4 (staF L f).f4.length c4] 41)).alloc (.cells #[.int .i64 10, .int .i64 n, .int .i64 q, .int .i64 c, .bool s] 132)) := ⟨_, rfl⟩
  have bW : Below w.heap.size w W := by rw [hW]; go_grown
  have sW : W.heap.size = w.heap.size + 1 + 1 + 1 := by rw [hW]; simp
  have k0 : Bk W w.heap.size 30 #[.slice h.A L.length h.c] := by rw [hW]; exact ((Bk.new w _ _).alloc _).alloc _
  have k1 : Bk W (w.heap.size + 1) 41 #[.slice A0 (staF L f).f0.length c0, .slice A1 (staF L f).f1.length c1, .slice A2 (staF L f).f2.length c2, .slice A3 (staF L f).f3.length c3, .slice A4 (staF L f).f4.length c4] := by
    rw [hW]; have := (Bk.new (w.alloc (.cells #[.slice h.A L.length h.c] 30)) #[.slice A0 (staF L f).f0.length c0, .slice A1 (staF L f).f1.length c1, .slice A2 (staF L f).f2.length c2, .slice A3 (staF L f).f3.length c3, .slice A4 (staF L f).f4.length c4] 41).alloc (.cells #[.int .i64 10, .int .i64 n, .int .i64 q, .int .i64 c, .bool s] 132)
    rwa [World.size_alloc] at this
  have k2 : Bk W (w.heap.size + 1 + 1) 132 #[.int .i64 10, .int .i64 n, .int .i64 q, .int .i64 c, .bool s] := by
    rw [hW]; have := Bk.new ((w.alloc (.cells #[.slice h.A L.length h.c] 30)).alloc (.cells #[.slice A0 (staF L f).f0.length c0, .slice A1 (staF L f).f1.length c1, .slice A2 (staF L f).f2.length c2, .slice A3 (staF L f).f3.length c3, .slice A4 (staF L f).f4.length c4] 41)) #[.int .i64 10, .int .i64 n, .int .i64 q, .int .i64 c, .bool s] 132
    rwa [World.size_alloc, World.size_alloc] at this
  have K0 := Lib.hid k0
  have K1 := Lib.hid k1
  have K2 := Lib.hid k2
  have OnW := Lib.hid (Only.of_below bW : Only lo hi w W)
  have OW := Lib.hid (hO.below bW hhi)
  have PP := Lib.hid hP
  have sWa := Nat.le_of_eq sW
  have sWb := Nat.le_of_eq sW.symm
  have HW := Lib.hid hW
  have bp : W.cell? ⟨w.heap.size, 0, none⟩ = some (.slice h.A L.length h.c) := (K0.out).cell 0
  have bs0 : W.cell? ⟨w.heap.size + 1, 0, none⟩ = some (.slice A0 (staF L f).f0.length c0) := (K1.out).cell 0
  have bs1 : W.cell? ⟨w.heap.size + 1, 1, none⟩ = some (.slice A1 (staF L f).f1.length c1) := (K1.out).cell 1
  have bs2 : W.cell? ⟨w.heap.size + 1, 2, none⟩ = some (.slice A2 (staF L f).f2.length c2) := (K1.out).cell 2
  have bs3 : W.cell? ⟨w.heap.size + 1, 3, none⟩ = some (.slice A3 (staF L f).f3.length c3) := (K1.out).cell 3
  have bs4 : W.cell? ⟨w.heap.size + 1, 4, none⟩ = some (.slice A4 (staF L f).f4.length c4) := (K1.out).cell 4
  have bx0 : W.cell? ⟨w.heap.size + 1 + 1, 0, none⟩ = some (.int .i64 10) := (K2.out).cell 0
  have bx1 : W.cell? ⟨w.heap.size + 1 + 1, 1, none⟩ = some (.int .i64 n) := (K2.out).cell 1
  have bx2 : W.cell? ⟨w.heap.size + 1 + 1, 2, none⟩ = some (.int .i64 q) := (K2.out).cell 2
  have bx3 : W.cell? ⟨w.heap.size + 1 + 1, 3, none⟩ = some (.int .i64 c) := (K2.out).cell 3
  have bx4 : W.cell? ⟨w.heap.size + 1 + 1, 4, none⟩ = some (.bool s) := (K2.out).cell 4
  clear hW bW sW k0 k1 k2 hO hP
  obtain ⟨g, hA, hlo', hhi', hgw, hcl, hfz, hput⟩ := sta_put1 h32 OW.out (i := t * 3 + n) (by omega) 0 0 (by simp [fL])
  simp only at hA
  subst hA
  have hlt1 : ((t * 3 + n : Nat) : Int) < ((staF L f).f1.length : Int) := by have := (sta_len L f); rw [this.2.1]; omega
  have hcm : W.cell? ⟨g, t * 3 + n, none⟩ = some (.int .i64 (v : Int)) := by rw [hcl, hv]; simp [fL]
  have e1 : IntKind.i64.wrap ((t : Int) * 3) = (t : Int) * 3 := wrap64_small (by omega) (by omega)
  have e2 : IntKind.i64.wrap ((t : Int) * 3 + (n : Int)) = ((t * 3 + n : Nat) : Int) := by rw [wrap64_small (by omega) (by omega)]; omega
  subst hv0
  clear hput hcl hfz hv
  have zhi : hi ≤ W.heap.size := by omega
  have allS : ∀ w', Only lo hi W w' → (w'.cell? ⟨w.heap.size, 0, none⟩ = some (.slice h.A L.length h.c) ∧ w'.cell? ⟨w.heap.size + 1, 0, none⟩ = some (.slice A0 (staF L f).f0.length c0) ∧ w'.cell? ⟨w.heap.size + 1, 1, none⟩ = some (.slice (some ⟨g, 0, none⟩) (staF L f).f1.length c1) ∧ w'.cell? ⟨w.heap.size + 1, 2, none⟩ = some (.slice A2 (staF L f).f2.length c2) ∧ w'.cell? ⟨w.heap.size + 1, 3, none⟩ = some (.slice A3 (staF L f).f3.length c3) ∧ w'.cell? ⟨w.heap.size + 1, 4, none⟩ = some (.slice A4 (staF L f).f4.length c4) ∧ w'.cell? ⟨w.heap.size + 1 + 1, 0, none⟩ = some (.int .i64 10) ∧ w'.cell? ⟨w.heap.size + 1 + 1, 1, none⟩ = some (.int .i64 n) ∧ w'.cell? ⟨w.heap.size + 1 + 1, 2, none⟩ = some (.int .i64 q) ∧ w'.cell? ⟨w.heap.size + 1 + 1, 3, none⟩ = some (.int .i64 c) ∧ w'.cell? ⟨w.heap.size + 1 + 1, 4, none⟩ = some (.bool s)) := fun w' ho => ⟨(only_bk K0.out ho (Or.inr (by omega))).cell 0, (only_bk K1.out ho (Or.inr (by omega))).cell 0, (only_bk K1.out ho (Or.inr (by omega))).cell 1, (only_bk K1.out ho (Or.inr (by omega))).cell 2, (only_bk K1.out ho (Or.inr (by omega))).cell 3, (only_bk K1.out ho (Or.inr (by omega))).cell 4, (only_bk K2.out ho (Or.inr (by omega))).cell 0, (only_bk K2.out ho (Or.inr (by omega))).cell 1, (only_bk K2.out ho (Or.inr (by omega))).cell 2, (only_bk K2.out ho (Or.inr (by omega))).cell 3, (only_bk K2.out ho (Or.inr (by omega))).cell 4⟩
  have AllS := Lib.hid allS
  clear allS
  have hd : Only lo hi W W.drew := ⟨rfl, rfl, rfl, Nat.le_refl _, fun _ _ _ => rfl⟩
  go_enter Try.func169, Try.ntmps169
  go_upto_region 1 with (fail)
  rw [← HW.out]
  go_wp2_with fail
  obtain ⟨r1, hr1⟩ : ∃ r1, min (f (3 + t) + q) (L.getD t []).length = r1 := ⟨_, rfl⟩
  have hr1' : Hid (min ((upd f (3 + t) r1) (3 + t) + 1) (L.getD t []).length = r) := Lib.hid (by rw [← hr.out, show (upd f (3 + t) r1) (3 + t) = r1 by unfold upd; rw [if_pos rfl]]; omega)
  have eu : upd (upd f (3 + t) r1) (3 + t) r = upd f (3 + t) r := by funext z; unfold upd; split <;> rfl
  have hf1 : (upd f (3 + t) r1) (3 + t) ≤ 7 := by rw [show (upd f (3 + t) r1) (3 + t) = r1 by unfold upd; rw [if_pos rfl]]; omega
  have hlen : (L.getD t []).length ≤ 6 := hl6
  have z0 := OnW.out.size
  refine (sgo_any h ⟨A0, some ⟨g, 0, none⟩, A2, A3, A4, c0, c1, c2, c3, c4⟩ L f t q W B lo hi (PP.out.below (OnW.out.to_below hB (by omega)) (Nat.le_refl _)) hB (by omega) OW.out zhi h32 ht hq6 hf0 r1 (Lib.hid hr1)).mono ?_
  rintro e U ⟨rfl, onu, ou⟩
  have on1 := onu
  have On1 := Lib.hid (OnW.out.trans onu)
  have O1 := Lib.hid ou
  clear bp bs0 bs1 bs2 bs3 bs4 bx0 bx1 bx2 bx3 bx4
  have KC0 := only_bk K0.out on1 (Or.inr (by omega))
  have KC1 := only_bk K1.out on1 (Or.inr (by omega))
  have KC2 := only_bk K2.out on1 (Or.inr (by omega))
  have bp : U.cell? ⟨w.heap.size, 0, none⟩ = some (.slice h.A L.length h.c) := (KC0).cell 0
  have bs0 : U.cell? ⟨w.heap.size + 1, 0, none⟩ = some (.slice A0 (staF L f).f0.length c0) := (KC1).cell 0
  have bs1 : U.cell? ⟨w.heap.size + 1, 1, none⟩ = some (.slice (some ⟨g, 0, none⟩) (staF L f).f1.length c1) := (KC1).cell 1
  have bs2 : U.cell? ⟨w.heap.size + 1, 2, none⟩ = some (.slice A2 (staF L f).f2.length c2) := (KC1).cell 2
  have bs3 : U.cell? ⟨w.heap.size + 1, 3, none⟩ = some (.slice A3 (staF L f).f3.length c3) := (KC1).cell 3
  have bs4 : U.cell? ⟨w.heap.size + 1, 4, none⟩ = some (.slice A4 (staF L f).f4.length c4) := (KC1).cell 4
  have bx0 : U.cell? ⟨w.heap.size + 1 + 1, 0, none⟩ = some (.int .i64 10) := (KC2).cell 0
  have bx1 : U.cell? ⟨w.heap.size + 1 + 1, 1, none⟩ = some (.int .i64 n) := (KC2).cell 1
  have bx2 : U.cell? ⟨w.heap.size + 1 + 1, 2, none⟩ = some (.int .i64 q) := (KC2).cell 2
  have bx3 : U.cell? ⟨w.heap.size + 1 + 1, 3, none⟩ = some (.int .i64 c) := (KC2).cell 3
  have bx4 : U.cell? ⟨w.heap.size + 1 + 1, 4, none⟩ = some (.bool s) := (KC2).cell 4
  clear KC0 KC1 KC2
  clear onu ou
  go_wp2_with fail
  refine (sgo_at f h ⟨A0, some ⟨g, 0, none⟩, A2, A3, A4, c0, c1, c2, c3, c4⟩ L (upd f (3 + t) r1) t 1 w U B lo hi PP.out On1.out hB hlo O1.out hhi h32 ht (by omega) hf1 r hr1').mono ?_
  rintro e wz ⟨rfl, onz, oz⟩
  clear bp bs0 bs1 bs2 bs3 bs4 bx0 bx1 bx2 bx3 bx4
  go_wp2
  exact bodyPost_end (v := .tuple #[]) (by simp [results, Try.results169, go_sem]) rfl ⟨rfl, onz, by rw [← eu]; exact oz⟩
end Go.Proofs.Ytiljakbjbiinkaa
namespace Go.Proofs.Ytiljakbjbiinkaa
open Go.RowKit Pl
set_option maxHeartbeats 1000000
set_option maxRecDepth 100000
set_option linter.unusedVariables false

/-- What a statement does beside places. -/
def ownF (f : Nat → Nat) (t : Nat) (x : Sm) : Nat → Nat := if x.k = 1 ∨ x.k = 2 ∨ x.k = 3 ∨ x.k = 4 then f else affF f t x
theorem sown_any (h : PgH) (k : StaH) (L : Pg) (f : Nat → Nat) (t : Nat) (x : Sm) (w : World) (B lo hi : Nat) (hP : PgR w B h L) (hB : B ≤ lo) (hlo : lo ≤ w.heap.size) (hO : StaO w lo hi k (staF L f)) (hhi : hi ≤ w.heap.size) (h32 : L.length ≤ 3) (ht : t < L.length) (hok : okF WS f)
    (hlt : f (3 + t) < (L.getD t []).length) (hl6 : (L.getD t []).length ≤ 6) (hx : x.okb = true) (h1 : x.k = 9 → ∀ n : Nat, x.b = (n : Int) → 1 ≤ f (20 + n) ∧ f (20 + n) ≤ 4) :
    Calls Try.prog 169 #[PgV h L, StaV k (staF L f), .int .i64 t, x.val] w (OwnP w lo hi k L (upd (ownF f t x) (3 + t) (nextF L f t x))) := by
  obtain ⟨q, a, b, c, s⟩ := x
  have hx' : okB q a b c s = true := hx
  simp only at h1
  have ht3 : t < 3 := by omega
  have hr1 : Hid (min (f (3 + t) + 1) (L.getD t []).length = f (3 + t) + 1) := Lib.hid (by omega)
  have nx : q ≠ 10 → nextF L f t ⟨q, a, b, c, s⟩ = f (3 + t) + 1 := fun e => by unfold nextF; rw [if_neg e]
  by_cases k0 : q = 0
  · subst k0
    obtain ⟨n, hn, rfl⟩ := ok_a3 hx' (by omega)
    have hv := ok_sum hx' (by omega)
    rw [nx (by omega)]
    exact sown_0 h k L f t n b c s w B lo hi hP hB hlo hO hhi h32 ht hok hn hv _ (Lib.hid rfl) _ hr1
  by_cases k6 : q = 6
  · subst k6
    obtain ⟨n, hn, rfl⟩ := ok_ab2 hx' (by omega)
    rw [nx (by omega)]
    exact sown_6 h k L f t n b c s w B lo hi hP hB hlo hO hhi h32 ht hok hn _ hr1
  by_cases k7 : q = 7
  · subst k7
    obtain ⟨n, hn, rfl⟩ := ok_ab2 hx' (by omega)
    rw [nx (by omega)]
    exact sown_7 h k L f t n b c s w B lo hi hP hB hlo hO hhi h32 ht hok hn _ hr1
  by_cases k8 : q = 8
  · subst k8
    obtain ⟨n, hn, rfl⟩ := ok_ab2 hx' (by omega)
    have hv := ok_sum hx' (by omega)
    rw [nx (by omega)]
    exact sown_8 h k L f t n b c s w B lo hi hP hB hlo hO hhi h32 ht hok hn hv _ (Lib.hid rfl) _ hr1
  by_cases k9 : q = 9
  · subst k9
    obtain ⟨n, hn, rfl⟩ := ok_a3 hx' (by omega)
    obtain ⟨m, hm, rfl⟩ := ok_b2 hx' rfl
    have h11 := h1 rfl m rfl
    rw [nx (by omega)]
    have hv : f (20 + m) = (f (20 + m) - 1) + 1 := by omega
    exact sown_9 h k L f t n m c s w B lo hi hP hB hlo hO hhi h32 ht hok hn hm _ (by omega) hv _ hr1
  by_cases k10 : q = 10
  · subst k10
    obtain ⟨n, hn, rfl⟩ := ok_a3 hx' (by omega)
    obtain ⟨m, hm1, hm6, rfl⟩ := ok_skip hx' rfl
    have e : ownF f t ⟨10, n, m, c, s⟩ = f := rfl
    rw [e]
    have hv4 := reg_lt hok ht3 hn
    by_cases hz : f (6 + (t * 3 + n)) = 0
    · have en : nextF L f t ⟨10, n, m, c, s⟩ = min (f (3 + t) + 1 + m) (L.getD t []).length := by unfold nextF; rw [if_pos rfl, Int.toNat_natCast, if_pos hz]; rfl
      rw [en]
      exact sown_10z h k L f t n m c s w B lo hi hP hB hlo hO hhi h32 ht hok hn hm1 hm6 _ hv4 hl6 rfl hz _ (Lib.hid rfl)
    · have en : nextF L f t ⟨10, n, m, c, s⟩ = f (3 + t) + 1 := by unfold nextF; rw [if_pos rfl, Int.toNat_natCast, if_neg hz]
      rw [en]
      exact sown_10n h k L f t n m c s w B lo hi hP hB hlo hO hhi h32 ht hok hn hm1 hm6 _ hv4 hl6 rfl hz _ hr1
  have e : ownF f t ⟨q, a, b, c, s⟩ = f := by
    unfold ownF
    split
    · rfl
    · rename_i hn
      simp only [not_or] at hn
      simp [affF, k0, hn.1, hn.2.1, hn.2.2.1, hn.2.2.2, k6, k7, k8, k9]
  rw [e, nx k10]
  exact sown_rest h k L f t q a b c s w B lo hi hP hB hlo hO hhi h32 ht hok k0 k6 k7 k8 k9 k10 _ hr1
end Go.Proofs.Ytiljakbjbiinkaa
namespace Go.Proofs.Ytiljakbjbiinkaa
open Go.RowKit Pl
set_option maxHeartbeats 1000000
set_option maxRecDepth 100000
set_option linter.unusedVariables false

theorem fldI_back {f : Nat → Nat} {b : Nat} {l : Int} {xs : List Int} (hlo : ∀ (k : Nat) (x : Int), xs[k]? = some x → l ≤ x) (h : ∀ i, i < xs.length → f (b + i) = (xs.getD i 0 - l).toNat) : fldI f b l xs.length = xs := by
  apply List.ext_getElem?
  intro i
  by_cases hi : i < xs.length
  · have hx : xs[i]? = some xs[i] := List.getElem?_eq_getElem hi
    have := hlo i _ hx
    rw [fldI_at hi, h i hi, getD_at hx, hx]
    congr 1; omega
  · rw [List.getElem?_eq_none (by rw [fldI_length]; omega), List.getElem?_eq_none (by omega)]
theorem staF_pk {L : Pg} {s : Sta} (P : StP L s) : staF L (pkF s) = s := by
  have m0 := P.m0; have m1 := P.m1; have m2 := P.m2; have m3 := P.m3; have m4 := P.m4
  have e0 : fldI (pkF s) 3 (fL 0) L.length = s.f0 := by
    rw [← m0]; exact fldI_back (l := 0) (fun k x hx => (P.v0 k x hx).1) fun i hi => by rw [pk_at P (by omega)]; simp
  have e1 : fldI (pkF s) 6 (fL 1) (L.length * 3) = s.f1 := by
    rw [← m1]; exact fldI_back (l := 0) (fun k x hx => (P.v1 k x hx).1) fun i hi => by rw [pk_reg P (by omega)]; simp
  have e2 : fldI (pkF s) 15 (fL 2) 3 = s.f2 := by
    rw [show (3 : Nat) = s.f2.length from m2.symm]; exact fldI_back (l := 0) (fun k x hx => (P.v2 k x hx).1) fun i hi => by rw [pk_mem P (by omega)]; simp
  have e3 : fldI (pkF s) 18 (fL 3) 2 = s.f3 := by
    rw [show (2 : Nat) = s.f3.length from m3.symm]; exact fldI_back (l := -1) (fun k x hx => (P.v3 k x hx).1) fun i hi => by rw [pk_own P (by omega)]; rfl
  have e4 : fldI (pkF s) 20 (fL 4) 2 = s.f4 := by
    rw [show (2 : Nat) = s.f4.length from m4.symm]; exact fldI_back (l := -1) (fun k x hx => (P.v4 k x hx).1) fun i hi => by rw [pk_chan P (by omega)]; rfl
  unfold staF
  rw [e0, e1, e2, e3, e4]
theorem staF_wd {L : Pg} {s : Sta} (P : StP L s) : staF L (wdF L s) = s := by
  rw [staF_congr (g := pkF s) fun p hp => wdF_hi P hp]; exact staF_pk P
theorem upd_comm {f : Nat → Nat} {p q u v : Nat} (h : p ≠ q) : upd (upd f p u) q v = upd (upd f q v) p u := by
  funext z
  unfold upd
  split <;> split <;> first | rfl | omega
theorem sum_upd {f : Nat → Nat} {t m nx : Nat} {b c : Int} (hm : m < 6) : sumF (upd f m nx) t b c = sumF f t b c := by
  unfold sumF
  have : upd f m nx (6 + (t * 3 + b.toNat)) = f (6 + (t * 3 + b.toNat)) := by unfold upd; rw [if_neg (by omega)]
  rw [this]
theorem aff_upd {f : Nat → Nat} {t m nx : Nat} {x : Sm} (hm : m < 6) : affF (upd f m nx) t x = upd (affF f t x) m nx := by
  have e : ∀ q, 6 ≤ q → upd f m nx q = f q := fun q hq => by unfold upd; rw [if_neg (by omega)]
  unfold affF
  rw [sum_upd hm, e (15 + x.b.toNat) (by omega), e (20 + x.b.toNat) (by omega)]
  funext z
  repeat' split
  all_goals (simp only [upd])
  all_goals (repeat' split)
  all_goals first | rfl | omega
theorem staF_step {L : Pg} {f : Nat → Nat} {t : Nat} (h3 : L.length ≤ 3) (ht : t < 3) : staF L (stepF L f t) = staF L (upd (affF f t (smAt L t (f (3 + t)))) (3 + t) (nextF L f t (smAt L t (f (3 + t))))) := by
  unfold stepF
  rw [aff_upd (by omega)]
  exact staF_congr fun p hp => keptF_hi h3 hp
end Go.Proofs.Ytiljakbjbiinkaa
