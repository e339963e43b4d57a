/-
  What the reference model's l2Do and Do come to.
-/
import Derived.Test.YtiljakbjbiinkaaDoZ
import Derived.Deep.RegionHeld3
import Derived.Deep.DeepCutAuto
import Derived.Test.YtiljakbjbiinkaaIDo
import Derived.Test.YtiljakbjbiinkaaSCan
namespace Go.Proofs.Ytiljakbjbiinkaa
open Go.RowKit Pl
set_option maxHeartbeats 4000000
set_option maxRecDepth 100000
set_option linter.unusedVariables false

/-- The word behind a statement, but for the bits that tell who can go on. -/
def doF (L : Pg) (f : Nat → Nat) (t : Nat) (x : Sm) : Nat → Nat := upd (affF f t x) (3 + t) (nextF L f t x)
def l2DoP (w : World) (L : Pg) (g : Nat → Nat) (e : Ending) (w' : World) : Prop := ∃ k, e = .returned (StaV k (staF L g)) ∧ Below w.heap.size w w' ∧ w.heap.size ≤ w'.heap.size ∧ StaO w' w.heap.size w'.heap.size k (staF L g)
theorem sown_at (f0 : Nat → Nat) (h : PgH) (k : StaH) (L : Pg) (f : Nat → Nat) (t : Nat) (x : Sm) (w : World) (B lo hi : Nat) (hP : PgR w B h L) (hB : B ≤ lo) (hlo : lo ≤ w.heap.size) (hO : StaO w lo hi k (staF L f)) (hhi : hi ≤ w.heap.size) (h32 : L.length ≤ 3) (ht : t < L.length) (hok : okF WS f)
    (hlt : f (3 + t) < (L.getD t []).length) (hl6 : (L.getD t []).length ≤ 6) (hx : x.okb = true) (h1 : x.k = 9 → ∀ n : Nat, x.b = (n : Int) → 1 ≤ f (20 + n) ∧ f (20 + n) ≤ 4) :
    Calls Try.prog 169 #[PgV h L, StaV k (staF L f0), .int .i64 t, x.val] w (OwnP w lo hi k L (upd (ownF f t x) (3 + t) (nextF L f t x))) := by
  rw [staV_eq k L f0 f]
  exact sown_any h k L f t x w B lo hi hP hB hlo hO hhi h32 ht hok hlt hl6 hx h1
theorem sta_mem {w : World} {lo hi g i m : Nat} {k : StaH} {L : Pg} {f : Nat → Nat} (h32 : L.length ≤ 3) (h : StaO w lo hi k (staF L f)) (hi' : i < 3) (hm : f (15 + i) = m) (hA : k.A2 = some ⟨g, 0, none⟩ := by rfl) : w.cell? ⟨g, i, none⟩ = some (.int .i64 (m : Int)) := by
  obtain ⟨g', hA', -, -, -, hc, -, -⟩ := sta_put2 h32 h hi' 0 0 rfl
  rw [hA] at hA'
  injection hA' with hA'
  injection hA' with e1
  subst e1
  rw [hc, hm]
  have : fL 2 = 0 := rfl
  rw [this, Int.add_zero]
theorem ok_pl {a b c : Int} {s : Bool} (h : okB 2 a b c s = true) : ∃ n : Nat, n < 3 ∧ a = (n : Int) := ok_a3 h (by omega)
theorem nextF_ne {L : Pg} {f : Nat → Nat} {t : Nat} {x : Sm} (h : x.k ≠ 10) : nextF L f t x = f (3 + t) + 1 := by unfold nextF; rw [if_neg h]
theorem ownF_id {f : Nat → Nat} {t : Nat} {x : Sm} (h : x.k = 1 ∨ x.k = 2 ∨ x.k = 3 ∨ x.k = 4) : ownF f t x = f := by unfold ownF; rw [if_pos h]
theorem aff_lo {f : Nat → Nat} {p v : Nat} {r : Nat} (hp : 6 ≤ p) (hr : r < 3) : upd f p v (3 + r) = f (3 + r) := by unfold upd; rw [if_neg (by omega)]

theorem sdo_0 (h : PgH) (k : StaH) (L : Pg) (f : Nat → Nat) (t : Nat) (q a b c : Int) (d : Bool) (w : World) (B : Nat) (hP : PgR w B h L) (hS : StaR w B k (staF L f)) (hB : B ≤ w.heap.size) (h32 : L.length ≤ 3) (ht : t < L.length) (hok : okF WS f) (xs : List Sm) (hxs : L[t]? = some xs) (hat : f (3 + t) < xs.length) (hxx : xs[f (3 + t)]? = some ⟨q, a, b, c, d⟩) (hx : okB q a b c d = true) (hl6 : (L.getD t []).length ≤ 6) (h1 : q = 9 → ∀ n : Nat, b = (n : Int) → 1 ≤ f (20 + n) ∧ f (20 + n) ≤ 4) (hq1 : q ≠ 1) (hq2 : q ≠ 2) (hq3 : q ≠ 3) (hq4 : q ≠ 4) :
    Calls Try.prog 116 #[PgV h L, StaV k (staF L f), .int .i64 t] w (l2DoP w L (doF L f t ⟨q, a, b, c, d⟩)) := by
  have n1 : (q == 1) = false := by simp [hq1]
  have n2 : (q == 2) = false := by simp [hq2]
  have n3 : (q == 3) = false := by simp [hq3]
  have n4 : (q == 4) = false := by simp [hq4]
  have hat' : f (3 + t) < (L.getD t []).length := by rw [getD_some hxs]; exact hat
  have ht3 : t < 3 := by omega
  obtain ⟨W, hW⟩ : ∃ W, W = (((w.alloc (.cells #[.slice h.A L.length h.c] 30)).alloc (.cells #[.slice k.A0 (staF L f).f0.length k.c0, .slice k.A1 (staF L f).f1.length k.c1, .slice k.A2 (staF L f).f2.length k.c2, .slice k.A3 (staF L f).f3.length k.c3, .slice k.A4 (staF L f).f4.length k.c4] 41)).alloc (.cells #[.slice none 0 0, .slice none 0 0, .slice none 0 0, .slice none 0 0, .slice none 0 0] 41)) := ⟨_, rfl⟩
  have bW : Below w.heap.size w W := by rw [hW]; go_grown
  have sW : W.heap.size = w.heap.size + 1 + 1 + 1 := by rw [hW]; simp
  have k0 : Bk W w.heap.size 30 #[.slice h.A L.length h.c] := by rw [hW]; exact ((Bk.new w _ _).alloc _).alloc _
  have k1 : Bk W (w.heap.size + 1) 41 #[.slice k.A0 (staF L f).f0.length k.c0, .slice k.A1 (staF L f).f1.length k.c1, .slice k.A2 (staF L f).f2.length k.c2, .slice k.A3 (staF L f).f3.length k.c3, .slice k.A4 (staF L f).f4.length k.c4] := by
    rw [hW]; have := (Bk.new (w.alloc (.cells #[.slice h.A L.length h.c] 30)) #[.slice k.A0 (staF L f).f0.length k.c0, .slice k.A1 (staF L f).f1.length k.c1, .slice k.A2 (staF L f).f2.length k.c2, .slice k.A3 (staF L f).f3.length k.c3, .slice k.A4 (staF L f).f4.length k.c4] 41).alloc (.cells #[.slice none 0 0, .slice none 0 0, .slice none 0 0, .slice none 0 0, .slice none 0 0] 41)
    rwa [World.size_alloc] at this
  have k2 : Bk W (w.heap.size + 1 + 1) 41 #[.slice none 0 0, .slice none 0 0, .slice none 0 0, .slice none 0 0, .slice none 0 0] := by
    rw [hW]; have := Bk.new ((w.alloc (.cells #[.slice h.A L.length h.c] 30)).alloc (.cells #[.slice k.A0 (staF L f).f0.length k.c0, .slice k.A1 (staF L f).f1.length k.c1, .slice k.A2 (staF L f).f2.length k.c2, .slice k.A3 (staF L f).f3.length k.c3, .slice k.A4 (staF L f).f4.length k.c4] 41)) #[.slice none 0 0, .slice none 0 0, .slice none 0 0, .slice none 0 0, .slice none 0 0] 41
    rwa [World.size_alloc, World.size_alloc] at this
  have KP := Lib.hid k0
  have KR := Lib.hid k2
  have BW := Lib.hid bW
  have P0 := Lib.hid (hP.below bW hB)
  have S0 := Lib.hid (hS.below bW hB)
  have sWa := Nat.le_of_eq sW
  have sWb := Nat.le_of_eq sW.symm
  have HW := Lib.hid hW
  have bf0 : W.cell? ⟨w.heap.size + 1, 0, none⟩ = some (.slice k.A0 (staF L f).f0.length k.c0) := k1.cell 0
  have bf1 : W.cell? ⟨w.heap.size + 1, 1, none⟩ = some (.slice k.A1 (staF L f).f1.length k.c1) := k1.cell 1
  have bf2 : W.cell? ⟨w.heap.size + 1, 2, none⟩ = some (.slice k.A2 (staF L f).f2.length k.c2) := k1.cell 2
  have bf3 : W.cell? ⟨w.heap.size + 1, 3, none⟩ = some (.slice k.A3 (staF L f).f3.length k.c3) := k1.cell 3
  have bf4 : W.cell? ⟨w.heap.size + 1, 4, none⟩ = some (.slice k.A4 (staF L f).f4.length k.c4) := k1.cell 4
  clear hW bW sW k0 k1 k2 hP hS
  have LN := Lib.hid (sta_len L f)
  go_enter Try.func116, Try.ntmps116
  go_wp2_with fail
  rw [← HW.out]
  refine (scopy_any k (staF L f) W W.heap.size (S0.out.up (Below.refl W.heap.size W) (by omega) (by omega)) (Nat.le_refl _) (by obtain ⟨a0, a1, a2, a3, a4⟩ := LN.out; exact ⟨by omega, by omega, by omega, by omega, by omega⟩)).mono ?_
  rintro e w1 ⟨⟨K0, K1, K2, K3, K4, C0, C1, C2, C3, C4⟩, rfl, hb1, hz1, ho1⟩
  clear bf0 bf1 bf2 bf3 bf4
  have KP1 := Lib.hid (KP.out.below hb1 KP.out.lt)
  have KR1 := Lib.hid (KR.out.below hb1 KR.out.lt)
  have B1 := Lib.hid (below_on BW.out hb1)
  have P1 := Lib.hid (P0.out.below hb1 (by omega))
  have O1 := Lib.hid ho1
  clear hb1 ho1
  go_wp2_with fail
  obtain ⟨V, hV⟩ : ∃ V, V = w1.alloc (.cells #[.slice K0 (staF L f).f0.length C0, .slice K1 (staF L f).f1.length C1, .slice K2 (staF L f).f2.length C2, .slice K3 (staF L f).f3.length C3, .slice K4 (staF L f).f4.length C4] 41) := ⟨_, rfl⟩
  rw [← hV]
  have bV : Below w1.heap.size w1 V := by rw [hV]; go_grown
  have zV : V.heap.size = w1.heap.size + 1 := by rw [hV]; simp
  have zVa := Nat.le_of_eq zV
  have zVb := Nat.le_of_eq zV.symm
  have KS := Lib.hid (show Bk V w1.heap.size 41 #[.slice K0 (staF L f).f0.length C0, .slice K1 (staF L f).f1.length C1, .slice K2 (staF L f).f2.length C2, .slice K3 (staF L f).f3.length C3, .slice K4 (staF L f).f4.length C4] from by rw [hV]; exact Bk.new _ _ _)
  have KPV := Lib.hid (KP1.out.below bV KP1.out.lt)
  have KRV := Lib.hid (KR1.out.below bV KR1.out.lt)
  have BV := Lib.hid (below_on B1.out bV)
  have PV := Lib.hid (P1.out.below bV (by omega))
  have OV := Lib.hid (O1.out.below bV (Nat.le_refl _))
  clear hV bV zV KP1 KR1 B1 P1 O1 KP KR BW P0 S0
  obtain ⟨b1, off1, xs', Ai, ci, hA, hb1, hx', hc1, -, hmi, hrow⟩ := pg_at PV.out ht
  obtain rfl : xs = xs' := by rw [hxs] at hx'; injection hx'
  have lt0 : t < (staF L f).f0.length := by rw [LN.out.1]; exact ht
  obtain ⟨b2, off2, i, hA2, hb2, hi2, -, hc2⟩ := OV.out.rd.r0.int_ (k := t) lt0
  obtain rfl : i = ((f (3 + t) : Nat) : Int) := by
    have : (staF L f).f0[t]? = some ((f (3 + t) : Int) + 0) := fldI_at (l := 0) ht
    rw [hi2] at this; injection this with this
  obtain ⟨b3, off3, x', hA3, hb3, hx3, -, c0, c1, c2, c3, c4⟩ := hrow.at_ hat
  obtain rfl : (⟨q, a, b, c, d⟩ : Sm) = x' := by rw [hxx] at hx3; injection hx3
  simp only at c0 c1 c2 c3 c4
  subst hA3
  obtain ⟨i, hi0⟩ : ∃ i, f (3 + t) = i := ⟨_, rfl⟩
  rw [hi0] at hc2 c0 c1 c2 c3 c4 hat
  have e0 := KPV.out.cell 0
  have e1 := KS.out.cell 0
  simp only [List.getElem?_toArray, List.getElem?_cons_zero] at e0 e1
  rw [hA] at e0
  simp only at hA2
  rw [hA2] at e1
  have hti : (t : Int) < (L.length : Int) := by omega
  have hti2 : (t : Int) < ((staF L f).f0.length : Int) := by omega
  have him : (i : Int) < (xs.length : Int) := by omega
  have l0 := KPV.out.lt
  have l1 := KS.out.lt
  unfold maxLen at hmi
  have hb1v : b1 < V.heap.size := by omega
  have hb2v : b2 < V.heap.size := by omega
  have hb3v : b3 < V.heap.size := by omega
  have g_e0 : V.cell? ⟨w.heap.size, 0, none⟩ = some (.slice (some ⟨b1, off1, none⟩) L.length h.c) := e0
  have g_e1 : V.cell? ⟨w1.heap.size, 0, none⟩ = some (.slice (some ⟨b2, off2, none⟩) (staF L f).f0.length C0) := e1
  have g_hc1 : V.cell? ⟨b1, off1 + t, none⟩ = some (.slice (some ⟨b3, off3, none⟩) xs.length ci) := hc1
  have g_hc2 : V.cell? ⟨b2, off2 + t, none⟩ = some (.int .i64 (i : Int)) := hc2
  have g_c0 : V.cell? ⟨b3, off3 + i * 5, none⟩ = some (.int .i64 q) := c0
  have g_c1 : V.cell? ⟨b3, off3 + i * 5 + 1, none⟩ = some (.int .i64 a) := c1
  have g_c2 : V.cell? ⟨b3, off3 + i * 5 + 2, none⟩ = some (.int .i64 b) := c2
  have g_c3 : V.cell? ⟨b3, off3 + i * 5 + 3, none⟩ = some (.int .i64 c) := c3
  have g_c4 : V.cell? ⟨b3, off3 + i * 5 + 4, none⟩ = some (.bool d) := c4
  have allS : ∀ w', Below V.heap.size V w' → (Below V.heap.size V w' ∧ w'.cell? ⟨w.heap.size, 0, none⟩ = some (.slice (some ⟨b1, off1, none⟩) L.length h.c) ∧ w'.cell? ⟨w1.heap.size, 0, none⟩ = some (.slice (some ⟨b2, off2, none⟩) (staF L f).f0.length C0) ∧ w'.cell? ⟨b1, off1 + t, none⟩ = some (.slice (some ⟨b3, off3, none⟩) xs.length ci) ∧ w'.cell? ⟨b2, off2 + t, none⟩ = some (.int .i64 (i : Int)) ∧ w'.cell? ⟨b3, off3 + i * 5, none⟩ = some (.int .i64 q) ∧ w'.cell? ⟨b3, off3 + i * 5 + 1, none⟩ = some (.int .i64 a) ∧ w'.cell? ⟨b3, off3 + i * 5 + 2, none⟩ = some (.int .i64 b) ∧ w'.cell? ⟨b3, off3 + i * 5 + 3, none⟩ = some (.int .i64 c) ∧ w'.cell? ⟨b3, off3 + i * 5 + 4, none⟩ = some (.bool d)) := fun w' hb => ⟨hb, (hb.cell (p := ⟨w.heap.size, 0, none⟩) (by show w.heap.size < V.heap.size; exact l0)).trans g_e0, (hb.cell (p := ⟨w1.heap.size, 0, none⟩) (by show w1.heap.size < V.heap.size; exact l1)).trans g_e1, (hb.cell (p := ⟨b1, off1 + t, none⟩) (by show b1 < V.heap.size; exact hb1v)).trans g_hc1, (hb.cell (p := ⟨b2, off2 + t, none⟩) (by show b2 < V.heap.size; exact hb2v)).trans g_hc2, (hb.cell (p := ⟨b3, off3 + i * 5, none⟩) (by show b3 < V.heap.size; exact hb3v)).trans g_c0, (hb.cell (p := ⟨b3, off3 + i * 5 + 1, none⟩) (by show b3 < V.heap.size; exact hb3v)).trans g_c1, (hb.cell (p := ⟨b3, off3 + i * 5 + 2, none⟩) (by show b3 < V.heap.size; exact hb3v)).trans g_c2, (hb.cell (p := ⟨b3, off3 + i * 5 + 3, none⟩) (by show b3 < V.heap.size; exact hb3v)).trans g_c3, (hb.cell (p := ⟨b3, off3 + i * 5 + 4, none⟩) (by show b3 < V.heap.size; exact hb3v)).trans g_c4⟩
  have AllS := Lib.hid allS
  have HA := Lib.hid hA
  have HA2 := Lib.hid hA2
  clear allS hA hA2 hx' hrow hi2 hx3 e0 e1 hc1 hc2 c0 c1 c2 c3 c4 g_e0 g_e1 g_hc1 g_hc2 g_c0 g_c1 g_c2 g_c3 g_c4
  go_region_held3 (fun w' => Below V.heap.size V w' ∧ w'.cell? ⟨w.heap.size, 0, none⟩ = some (.slice (some ⟨b1, off1, none⟩) L.length h.c) ∧ w'.cell? ⟨w1.heap.size, 0, none⟩ = some (.slice (some ⟨b2, off2, none⟩) (staF L f).f0.length C0) ∧ w'.cell? ⟨b1, off1 + t, none⟩ = some (.slice (some ⟨b3, off3, none⟩) xs.length ci) ∧ w'.cell? ⟨b2, off2 + t, none⟩ = some (.int .i64 (i : Int)) ∧ w'.cell? ⟨b3, off3 + i * 5, none⟩ = some (.int .i64 q) ∧ w'.cell? ⟨b3, off3 + i * 5 + 1, none⟩ = some (.int .i64 a) ∧ w'.cell? ⟨b3, off3 + i * 5 + 2, none⟩ = some (.int .i64 b) ∧ w'.cell? ⟨b3, off3 + i * 5 + 3, none⟩ = some (.int .i64 c) ∧ w'.cell? ⟨b3, off3 + i * 5 + 4, none⟩ = some (.bool d)) (first | (go_split_ands; exact AllS.out _ (by go_grown)) | (exact AllS.out _ (by go_grown))) (fail)
  obtain ⟨U, hU⟩ : ∃ U, U = (V.alloc (.cells #[.int .i64 q, .int .i64 a, .int .i64 b, .int .i64 c, .bool d] 132)).drew := ⟨_, rfl⟩
  rw [← hU]
  have bU : Below V.heap.size V U := by rw [hU]; exact ((Below.refl _ _).alloc (Nat.le_refl _) _).drew
  have zU : U.heap.size = V.heap.size + 1 := by rw [hU]; show (World.alloc _ _).heap.size = _; simp
  have zUa := Nat.le_of_eq zU
  have zUb := Nat.le_of_eq zU.symm
  have KX := Lib.hid (show Bk U V.heap.size 132 #[.int .i64 q, .int .i64 a, .int .i64 b, .int .i64 c, .bool d] from by rw [hU]; exact Bk.new V _ _)
  have KPU := Lib.hid (KPV.out.below bU KPV.out.lt)
  have KSU := Lib.hid (KS.out.below bU KS.out.lt)
  have KRU := Lib.hid (KRV.out.below bU KRV.out.lt)
  have BU := Lib.hid (below_on BV.out bU)
  have PU := Lib.hid (PV.out.below bU (by omega))
  have OU := Lib.hid (OV.out.below bU (by omega))
  clear AllS hU bU zU KPV KS KRV BV PV OV
  try clear hHeld
  have HAT := Lib.hid hat'
  have H1 := Lib.hid h1
  clear hat' h1
  have hd : upd (affF f t ⟨q, a, b, c, d⟩) (3 + t) (nextF L f t ⟨q, a, b, c, d⟩) = upd (ownF f t ⟨q, a, b, c, d⟩) (3 + t) (nextF L f t ⟨q, a, b, c, d⟩) := by unfold ownF; rw [if_neg (by simp [hq1, hq2, hq3, hq4])]
  have HD := Lib.hid (show doF L f t ⟨q, a, b, c, d⟩ = _ from hd)
  clear hd
  have op : U.cell? ⟨w.heap.size, 0, none⟩ = some (.slice h.A L.length h.c) := (KPU.out).cell 0
  have os0 : U.cell? ⟨w1.heap.size, 0, none⟩ = some (.slice K0 (staF L f).f0.length C0) := (KSU.out).cell 0
  have os1 : U.cell? ⟨w1.heap.size, 1, none⟩ = some (.slice K1 (staF L f).f1.length C1) := (KSU.out).cell 1
  have os2 : U.cell? ⟨w1.heap.size, 2, none⟩ = some (.slice K2 (staF L f).f2.length C2) := (KSU.out).cell 2
  have os3 : U.cell? ⟨w1.heap.size, 3, none⟩ = some (.slice K3 (staF L f).f3.length C3) := (KSU.out).cell 3
  have os4 : U.cell? ⟨w1.heap.size, 4, none⟩ = some (.slice K4 (staF L f).f4.length C4) := (KSU.out).cell 4
  have ox0 : U.cell? ⟨V.heap.size, 0, none⟩ = some (.int .i64 q) := (KX.out).cell 0
  have ox1 : U.cell? ⟨V.heap.size, 1, none⟩ = some (.int .i64 a) := (KX.out).cell 1
  have ox2 : U.cell? ⟨V.heap.size, 2, none⟩ = some (.int .i64 b) := (KX.out).cell 2
  have ox3 : U.cell? ⟨V.heap.size, 3, none⟩ = some (.int .i64 c) := (KX.out).cell 3
  have ox4 : U.cell? ⟨V.heap.size, 4, none⟩ = some (.bool d) := (KX.out).cell 4
  go_wp2_with fail
  clear op os0 ox0 os1 ox1 os2 ox2 os3 ox3 os4 ox4
  refine (sown_at f h ⟨K0, K1, K2, K3, K4, C0, C1, C2, C3, C4⟩ L (f) t ⟨q, a, b, c, d⟩ U B W.heap.size w1.heap.size PU.out (by omega) (by omega) OU.out (by omega) h32 ht hok HAT.out hl6 hx H1.out).mono ?_
  rintro e wz ⟨rfl, onz, oz⟩
  have zz := onz.size
  have KSZ := Lib.hid (only_bk KSU.out onz (Or.inr (by omega)))
  have KRZ := Lib.hid (only_bk KRU.out onz (Or.inl (by omega)))
  have BZ := Lib.hid (BU.out.trans (onz.to_below (B := w.heap.size) (by omega) (by omega)))
  have OZ := Lib.hid oz
  clear onz oz
  have z0 : wz.cell? ⟨w1.heap.size, 0, none⟩ = some (.slice K0 (staF L f).f0.length C0) := KSZ.out.cell 0
  have z1 : wz.cell? ⟨w1.heap.size, 1, none⟩ = some (.slice K1 (staF L f).f1.length C1) := KSZ.out.cell 1
  have z2 : wz.cell? ⟨w1.heap.size, 2, none⟩ = some (.slice K2 (staF L f).f2.length C2) := KSZ.out.cell 2
  have z3 : wz.cell? ⟨w1.heap.size, 3, none⟩ = some (.slice K3 (staF L f).f3.length C3) := KSZ.out.cell 3
  have z4 : wz.cell? ⟨w1.heap.size, 4, none⟩ = some (.slice K4 (staF L f).f4.length C4) := KSZ.out.cell 4
  have cr0 : wz.cell? ⟨w.heap.size + 1 + 1, 0, none⟩ = some (.slice none 0 0) := KRZ.out.cell 0
  have fr0 : wz.frozen? ⟨w.heap.size + 1 + 1, 0, none⟩ = false := KRZ.out.free 0
  have cr1 : wz.cell? ⟨w.heap.size + 1 + 1, 1, none⟩ = some (.slice none 0 0) := KRZ.out.cell 1
  have fr1 : wz.frozen? ⟨w.heap.size + 1 + 1, 1, none⟩ = false := KRZ.out.free 1
  have cr2 : wz.cell? ⟨w.heap.size + 1 + 1, 2, none⟩ = some (.slice none 0 0) := KRZ.out.cell 2
  have fr2 : wz.frozen? ⟨w.heap.size + 1 + 1, 2, none⟩ = false := KRZ.out.free 2
  have cr3 : wz.cell? ⟨w.heap.size + 1 + 1, 3, none⟩ = some (.slice none 0 0) := KRZ.out.cell 3
  have fr3 : wz.frozen? ⟨w.heap.size + 1 + 1, 3, none⟩ = false := KRZ.out.free 3
  have cr4 : wz.cell? ⟨w.heap.size + 1 + 1, 4, none⟩ = some (.slice none 0 0) := KRZ.out.cell 4
  have fr4 : wz.frozen? ⟨w.heap.size + 1 + 1, 4, none⟩ = false := KRZ.out.free 4
  go_wp2
  clear z0 cr0 fr0 z1 cr1 fr1 z2 cr2 fr2 z3 cr3 fr3 z4 cr4 fr4
  have kF : Bk (((((wz.setCell ⟨w.heap.size + 1 + 1, 0, none⟩ (.slice K0 (staF L f).f0.length C0)).setCell ⟨w.heap.size + 1 + 1, 1, none⟩ (.slice K1 (staF L f).f1.length C1)).setCell ⟨w.heap.size + 1 + 1, 2, none⟩ (.slice K2 (staF L f).f2.length C2)).setCell ⟨w.heap.size + 1 + 1, 3, none⟩ (.slice K3 (staF L f).f3.length C3)).setCell ⟨w.heap.size + 1 + 1, 4, none⟩ (.slice K4 (staF L f).f4.length C4)) (w.heap.size + 1 + 1) 41 #[.slice K0 (staF L f).f0.length C0, .slice K1 (staF L f).f1.length C1, .slice K2 (staF L f).f2.length C2, .slice K3 (staF L f).f3.length C3, .slice K4 (staF L f).f4.length C4] := by
    have a0 := KRZ.out
    have a1 := a0.set 0 (.slice K0 (staF L f).f0.length C0)
    have a2 := a1.set 1 (.slice K1 (staF L f).f1.length C1)
    have a3 := a2.set 2 (.slice K2 (staF L f).f2.length C2)
    have a4 := a3.set 3 (.slice K3 (staF L f).f3.length C3)
    have a5 := a4.set 4 (.slice K4 (staF L f).f4.length C4)
    simpa using a5
  have bF : Below w.heap.size w (((((wz.setCell ⟨w.heap.size + 1 + 1, 0, none⟩ (.slice K0 (staF L f).f0.length C0)).setCell ⟨w.heap.size + 1 + 1, 1, none⟩ (.slice K1 (staF L f).f1.length C1)).setCell ⟨w.heap.size + 1 + 1, 2, none⟩ (.slice K2 (staF L f).f2.length C2)).setCell ⟨w.heap.size + 1 + 1, 3, none⟩ (.slice K3 (staF L f).f3.length C3)).setCell ⟨w.heap.size + 1 + 1, 4, none⟩ (.slice K4 (staF L f).f4.length C4)) := (((((BZ.out.setCell (p := ⟨w.heap.size + 1 + 1, 0, none⟩) (show w.heap.size ≤ w.heap.size + 1 + 1 by omega) _).setCell (p := ⟨w.heap.size + 1 + 1, 1, none⟩) (show w.heap.size ≤ w.heap.size + 1 + 1 by omega) _).setCell (p := ⟨w.heap.size + 1 + 1, 2, none⟩) (show w.heap.size ≤ w.heap.size + 1 + 1 by omega) _).setCell (p := ⟨w.heap.size + 1 + 1, 3, none⟩) (show w.heap.size ≤ w.heap.size + 1 + 1 by omega) _).setCell (p := ⟨w.heap.size + 1 + 1, 4, none⟩) (show w.heap.size ≤ w.heap.size + 1 + 1 by omega) _)
  have nF : ∀ q, w.heap.size + 1 + 1 < q → (((((wz.setCell ⟨w.heap.size + 1 + 1, 0, none⟩ (.slice K0 (staF L f).f0.length C0)).setCell ⟨w.heap.size + 1 + 1, 1, none⟩ (.slice K1 (staF L f).f1.length C1)).setCell ⟨w.heap.size + 1 + 1, 2, none⟩ (.slice K2 (staF L f).f2.length C2)).setCell ⟨w.heap.size + 1 + 1, 3, none⟩ (.slice K3 (staF L f).f3.length C3)).setCell ⟨w.heap.size + 1 + 1, 4, none⟩ (.slice K4 (staF L f).f4.length C4)).heap[q]? = wz.heap[q]? := fun q hq => (Below.heap_setCell _ _ _ q (by show q ≠ w.heap.size + 1 + 1; omega)).trans ((Below.heap_setCell _ _ _ q (by show q ≠ w.heap.size + 1 + 1; omega)).trans ((Below.heap_setCell _ _ _ q (by show q ≠ w.heap.size + 1 + 1; omega)).trans ((Below.heap_setCell _ _ _ q (by show q ≠ w.heap.size + 1 + 1; omega)).trans (Below.heap_setCell _ _ _ q (by show q ≠ w.heap.size + 1 + 1; omega)))))
  have zF : wz.heap.size ≤ (((((wz.setCell ⟨w.heap.size + 1 + 1, 0, none⟩ (.slice K0 (staF L f).f0.length C0)).setCell ⟨w.heap.size + 1 + 1, 1, none⟩ (.slice K1 (staF L f).f1.length C1)).setCell ⟨w.heap.size + 1 + 1, 2, none⟩ (.slice K2 (staF L f).f2.length C2)).setCell ⟨w.heap.size + 1 + 1, 3, none⟩ (.slice K3 (staF L f).f3.length C3)).setCell ⟨w.heap.size + 1 + 1, 4, none⟩ (.slice K4 (staF L f).f4.length C4)).heap.size := by simp
  have HF := Lib.hid kF
  have BF := Lib.hid bF
  have NF := Lib.hid nF
  obtain ⟨F, hF⟩ : ∃ F, F = (((((wz.setCell ⟨w.heap.size + 1 + 1, 0, none⟩ (.slice K0 (staF L f).f0.length C0)).setCell ⟨w.heap.size + 1 + 1, 1, none⟩ (.slice K1 (staF L f).f1.length C1)).setCell ⟨w.heap.size + 1 + 1, 2, none⟩ (.slice K2 (staF L f).f2.length C2)).setCell ⟨w.heap.size + 1 + 1, 3, none⟩ (.slice K3 (staF L f).f3.length C3)).setCell ⟨w.heap.size + 1 + 1, 4, none⟩ (.slice K4 (staF L f).f4.length C4)) := ⟨_, rfl⟩
  rw [← hF] at HF BF NF zF
  rw [← hF]
  clear kF bF nF hF
  have c0 := HF.out.cell 0
  have c1 := HF.out.cell 1
  have c2 := HF.out.cell 2
  have c3 := HF.out.cell 3
  have c4 := HF.out.cell 4
  simp only [List.getElem?_toArray, List.getElem?_cons_zero, List.getElem?_cons_succ] at c0 c1 c2 c3 c4
  refine bodyPost_ret (v := .agg #[.slice K0 (staF L f).f0.length C0, .slice K1 (staF L f).f1.length C1, .slice K2 (staF L f).f2.length C2, .slice K3 (staF L f).f3.length C3, .slice K4 (staF L f).f4.length C4]) (by simp [results, Try.results116, c0, c1, c2, c3, c4, go_sem]) rfl ?_
  refine ⟨⟨K0, K1, K2, K3, K4, C0, C1, C2, C3, C4⟩, ?_, BF.out, by omega, ?_⟩
  · rw [← staV_eq _ L f]
  · rw [HD.out]
    exact OZ.out.keep (by omega) (by omega) fun q0 h1 h2 => NF.out q0 (by omega)
end Go.Proofs.Ytiljakbjbiinkaa
namespace Go.Proofs.Ytiljakbjbiinkaa
open Go.RowKit Pl
set_option maxHeartbeats 4000000
set_option maxRecDepth 100000
set_option linter.unusedVariables false

theorem sdo_1 (h : PgH) (k : StaH) (L : Pg) (f : Nat → Nat) (t : Nat) (a b c : Int) (d : Bool) (w : World) (B : Nat) (hP : PgR w B h L) (hS : StaR w B k (staF L f)) (hB : B ≤ w.heap.size) (h32 : L.length ≤ 3) (ht : t < L.length) (hok : okF WS f) (xs : List Sm) (hxs : L[t]? = some xs) (hat : f (3 + t) < xs.length) (hxx : xs[f (3 + t)]? = some ⟨1, a, b, c, d⟩) (hx : okB 1 a b c d = true) (hl6 : (L.getD t []).length ≤ 6) (h1 : (1 : Int) = 9 → ∀ n : Nat, b = (n : Int) → 1 ≤ f (20 + n) ∧ f (20 + n) ≤ 4) :
    Calls Try.prog 116 #[PgV h L, StaV k (staF L f), .int .i64 t] w (l2DoP w L (doF L f t ⟨1, a, b, c, d⟩)) := by
  have hat' : f (3 + t) < (L.getD t []).length := by rw [getD_some hxs]; exact hat
  have ht3 : t < 3 := by omega
  obtain ⟨W, hW⟩ : ∃ W, W = (((w.alloc (.cells #[.slice h.A L.length h.c] 30)).alloc (.cells #[.slice k.A0 (staF L f).f0.length k.c0, .slice k.A1 (staF L f).f1.length k.c1, .slice k.A2 (staF L f).f2.length k.c2, .slice k.A3 (staF L f).f3.length k.c3, .slice k.A4 (staF L f).f4.length k.c4] 41)).alloc (.cells #[.slice none 0 0, .slice none 0 0, .slice none 0 0, .slice none 0 0, .slice none 0 0] 41)) := ⟨_, rfl⟩
  have bW : Below w.heap.size w W := by rw [hW]; go_grown
  have sW : W.heap.size = w.heap.size + 1 + 1 + 1 := by rw [hW]; simp
  have k0 : Bk W w.heap.size 30 #[.slice h.A L.length h.c] := by rw [hW]; exact ((Bk.new w _ _).alloc _).alloc _
  have k1 : Bk W (w.heap.size + 1) 41 #[.slice k.A0 (staF L f).f0.length k.c0, .slice k.A1 (staF L f).f1.length k.c1, .slice k.A2 (staF L f).f2.length k.c2, .slice k.A3 (staF L f).f3.length k.c3, .slice k.A4 (staF L f).f4.length k.c4] := by
    rw [hW]; have := (Bk.new (w.alloc (.cells #[.slice h.A L.length h.c] 30)) #[.slice k.A0 (staF L f).f0.length k.c0, .slice k.A1 (staF L f).f1.length k.c1, .slice k.A2 (staF L f).f2.length k.c2, .slice k.A3 (staF L f).f3.length k.c3, .slice k.A4 (staF L f).f4.length k.c4] 41).alloc (.cells #[.slice none 0 0, .slice none 0 0, .slice none 0 0, .slice none 0 0, .slice none 0 0] 41)
    rwa [World.size_alloc] at this
  have k2 : Bk W (w.heap.size + 1 + 1) 41 #[.slice none 0 0, .slice none 0 0, .slice none 0 0, .slice none 0 0, .slice none 0 0] := by
    rw [hW]; have := Bk.new ((w.alloc (.cells #[.slice h.A L.length h.c] 30)).alloc (.cells #[.slice k.A0 (staF L f).f0.length k.c0, .slice k.A1 (staF L f).f1.length k.c1, .slice k.A2 (staF L f).f2.length k.c2, .slice k.A3 (staF L f).f3.length k.c3, .slice k.A4 (staF L f).f4.length k.c4] 41)) #[.slice none 0 0, .slice none 0 0, .slice none 0 0, .slice none 0 0, .slice none 0 0] 41
    rwa [World.size_alloc, World.size_alloc] at this
  have KP := Lib.hid k0
  have KR := Lib.hid k2
  have BW := Lib.hid bW
  have P0 := Lib.hid (hP.below bW hB)
  have S0 := Lib.hid (hS.below bW hB)
  have sWa := Nat.le_of_eq sW
  have sWb := Nat.le_of_eq sW.symm
  have HW := Lib.hid hW
  have bf0 : W.cell? ⟨w.heap.size + 1, 0, none⟩ = some (.slice k.A0 (staF L f).f0.length k.c0) := k1.cell 0
  have bf1 : W.cell? ⟨w.heap.size + 1, 1, none⟩ = some (.slice k.A1 (staF L f).f1.length k.c1) := k1.cell 1
  have bf2 : W.cell? ⟨w.heap.size + 1, 2, none⟩ = some (.slice k.A2 (staF L f).f2.length k.c2) := k1.cell 2
  have bf3 : W.cell? ⟨w.heap.size + 1, 3, none⟩ = some (.slice k.A3 (staF L f).f3.length k.c3) := k1.cell 3
  have bf4 : W.cell? ⟨w.heap.size + 1, 4, none⟩ = some (.slice k.A4 (staF L f).f4.length k.c4) := k1.cell 4
  clear hW bW sW k0 k1 k2 hP hS
  have LN := Lib.hid (sta_len L f)
  go_enter Try.func116, Try.ntmps116
  go_wp2_with fail
  rw [← HW.out]
  refine (scopy_any k (staF L f) W W.heap.size (S0.out.up (Below.refl W.heap.size W) (by omega) (by omega)) (Nat.le_refl _) (by obtain ⟨a0, a1, a2, a3, a4⟩ := LN.out; exact ⟨by omega, by omega, by omega, by omega, by omega⟩)).mono ?_
  rintro e w1 ⟨⟨K0, K1, K2, K3, K4, C0, C1, C2, C3, C4⟩, rfl, hb1, hz1, ho1⟩
  clear bf0 bf1 bf2 bf3 bf4
  have KP1 := Lib.hid (KP.out.below hb1 KP.out.lt)
  have KR1 := Lib.hid (KR.out.below hb1 KR.out.lt)
  have B1 := Lib.hid (below_on BW.out hb1)
  have P1 := Lib.hid (P0.out.below hb1 (by omega))
  have O1 := Lib.hid ho1
  clear hb1 ho1
  go_wp2_with fail
  obtain ⟨V, hV⟩ : ∃ V, V = w1.alloc (.cells #[.slice K0 (staF L f).f0.length C0, .slice K1 (staF L f).f1.length C1, .slice K2 (staF L f).f2.length C2, .slice K3 (staF L f).f3.length C3, .slice K4 (staF L f).f4.length C4] 41) := ⟨_, rfl⟩
  rw [← hV]
  have bV : Below w1.heap.size w1 V := by rw [hV]; go_grown
  have zV : V.heap.size = w1.heap.size + 1 := by rw [hV]; simp
  have zVa := Nat.le_of_eq zV
  have zVb := Nat.le_of_eq zV.symm
  have KS := Lib.hid (show Bk V w1.heap.size 41 #[.slice K0 (staF L f).f0.length C0, .slice K1 (staF L f).f1.length C1, .slice K2 (staF L f).f2.length C2, .slice K3 (staF L f).f3.length C3, .slice K4 (staF L f).f4.length C4] from by rw [hV]; exact Bk.new _ _ _)
  have KPV := Lib.hid (KP1.out.below bV KP1.out.lt)
  have KRV := Lib.hid (KR1.out.below bV KR1.out.lt)
  have BV := Lib.hid (below_on B1.out bV)
  have PV := Lib.hid (P1.out.below bV (by omega))
  have OV := Lib.hid (O1.out.below bV (Nat.le_refl _))
  clear hV bV zV KP1 KR1 B1 P1 O1 KP KR BW P0 S0
  obtain ⟨b1, off1, xs', Ai, ci, hA, hb1, hx', hc1, -, hmi, hrow⟩ := pg_at PV.out ht
  obtain rfl : xs = xs' := by rw [hxs] at hx'; injection hx'
  have lt0 : t < (staF L f).f0.length := by rw [LN.out.1]; exact ht
  obtain ⟨b2, off2, i, hA2, hb2, hi2, -, hc2⟩ := OV.out.rd.r0.int_ (k := t) lt0
  obtain rfl : i = ((f (3 + t) : Nat) : Int) := by
    have : (staF L f).f0[t]? = some ((f (3 + t) : Int) + 0) := fldI_at (l := 0) ht
    rw [hi2] at this; injection this with this
  obtain ⟨b3, off3, x', hA3, hb3, hx3, -, c0, c1, c2, c3, c4⟩ := hrow.at_ hat
  obtain rfl : (⟨1, a, b, c, d⟩ : Sm) = x' := by rw [hxx] at hx3; injection hx3
  simp only at c0 c1 c2 c3 c4
  subst hA3
  obtain ⟨i, hi0⟩ : ∃ i, f (3 + t) = i := ⟨_, rfl⟩
  rw [hi0] at hc2 c0 c1 c2 c3 c4 hat
  have e0 := KPV.out.cell 0
  have e1 := KS.out.cell 0
  simp only [List.getElem?_toArray, List.getElem?_cons_zero] at e0 e1
  rw [hA] at e0
  simp only at hA2
  rw [hA2] at e1
  have hti : (t : Int) < (L.length : Int) := by omega
  have hti2 : (t : Int) < ((staF L f).f0.length : Int) := by omega
  have him : (i : Int) < (xs.length : Int) := by omega
  have l0 := KPV.out.lt
  have l1 := KS.out.lt
  unfold maxLen at hmi
  have hb1v : b1 < V.heap.size := by omega
  have hb2v : b2 < V.heap.size := by omega
  have hb3v : b3 < V.heap.size := by omega
  have g_e0 : V.cell? ⟨w.heap.size, 0, none⟩ = some (.slice (some ⟨b1, off1, none⟩) L.length h.c) := e0
  have g_e1 : V.cell? ⟨w1.heap.size, 0, none⟩ = some (.slice (some ⟨b2, off2, none⟩) (staF L f).f0.length C0) := e1
  have g_hc1 : V.cell? ⟨b1, off1 + t, none⟩ = some (.slice (some ⟨b3, off3, none⟩) xs.length ci) := hc1
  have g_hc2 : V.cell? ⟨b2, off2 + t, none⟩ = some (.int .i64 (i : Int)) := hc2
  have g_c0 : V.cell? ⟨b3, off3 + i * 5, none⟩ = some (.int .i64 1) := c0
  have g_c1 : V.cell? ⟨b3, off3 + i * 5 + 1, none⟩ = some (.int .i64 a) := c1
  have g_c2 : V.cell? ⟨b3, off3 + i * 5 + 2, none⟩ = some (.int .i64 b) := c2
  have g_c3 : V.cell? ⟨b3, off3 + i * 5 + 3, none⟩ = some (.int .i64 c) := c3
  have g_c4 : V.cell? ⟨b3, off3 + i * 5 + 4, none⟩ = some (.bool d) := c4
  have allS : ∀ w', Below V.heap.size V w' → (Below V.heap.size V w' ∧ w'.cell? ⟨w.heap.size, 0, none⟩ = some (.slice (some ⟨b1, off1, none⟩) L.length h.c) ∧ w'.cell? ⟨w1.heap.size, 0, none⟩ = some (.slice (some ⟨b2, off2, none⟩) (staF L f).f0.length C0) ∧ w'.cell? ⟨b1, off1 + t, none⟩ = some (.slice (some ⟨b3, off3, none⟩) xs.length ci) ∧ w'.cell? ⟨b2, off2 + t, none⟩ = some (.int .i64 (i : Int)) ∧ w'.cell? ⟨b3, off3 + i * 5, none⟩ = some (.int .i64 1) ∧ w'.cell? ⟨b3, off3 + i * 5 + 1, none⟩ = some (.int .i64 a) ∧ w'.cell? ⟨b3, off3 + i * 5 + 2, none⟩ = some (.int .i64 b) ∧ w'.cell? ⟨b3, off3 + i * 5 + 3, none⟩ = some (.int .i64 c) ∧ w'.cell? ⟨b3, off3 + i * 5 + 4, none⟩ = some (.bool d)) := fun w' hb => ⟨hb, (hb.cell (p := ⟨w.heap.size, 0, none⟩) (by show w.heap.size < V.heap.size; exact l0)).trans g_e0, (hb.cell (p := ⟨w1.heap.size, 0, none⟩) (by show w1.heap.size < V.heap.size; exact l1)).trans g_e1, (hb.cell (p := ⟨b1, off1 + t, none⟩) (by show b1 < V.heap.size; exact hb1v)).trans g_hc1, (hb.cell (p := ⟨b2, off2 + t, none⟩) (by show b2 < V.heap.size; exact hb2v)).trans g_hc2, (hb.cell (p := ⟨b3, off3 + i * 5, none⟩) (by show b3 < V.heap.size; exact hb3v)).trans g_c0, (hb.cell (p := ⟨b3, off3 + i * 5 + 1, none⟩) (by show b3 < V.heap.size; exact hb3v)).trans g_c1, (hb.cell (p := ⟨b3, off3 + i * 5 + 2, none⟩) (by show b3 < V.heap.size; exact hb3v)).trans g_c2, (hb.cell (p := ⟨b3, off3 + i * 5 + 3, none⟩) (by show b3 < V.heap.size; exact hb3v)).trans g_c3, (hb.cell (p := ⟨b3, off3 + i * 5 + 4, none⟩) (by show b3 < V.heap.size; exact hb3v)).trans g_c4⟩
  have AllS := Lib.hid allS
  have HA := Lib.hid hA
  have HA2 := Lib.hid hA2
  clear allS hA hA2 hx' hrow hi2 hx3 e0 e1 hc1 hc2 c0 c1 c2 c3 c4 g_e0 g_e1 g_hc1 g_hc2 g_c0 g_c1 g_c2 g_c3 g_c4
  go_region_held3 (fun w' => Below V.heap.size V w' ∧ w'.cell? ⟨w.heap.size, 0, none⟩ = some (.slice (some ⟨b1, off1, none⟩) L.length h.c) ∧ w'.cell? ⟨w1.heap.size, 0, none⟩ = some (.slice (some ⟨b2, off2, none⟩) (staF L f).f0.length C0) ∧ w'.cell? ⟨b1, off1 + t, none⟩ = some (.slice (some ⟨b3, off3, none⟩) xs.length ci) ∧ w'.cell? ⟨b2, off2 + t, none⟩ = some (.int .i64 (i : Int)) ∧ w'.cell? ⟨b3, off3 + i * 5, none⟩ = some (.int .i64 1) ∧ w'.cell? ⟨b3, off3 + i * 5 + 1, none⟩ = some (.int .i64 a) ∧ w'.cell? ⟨b3, off3 + i * 5 + 2, none⟩ = some (.int .i64 b) ∧ w'.cell? ⟨b3, off3 + i * 5 + 3, none⟩ = some (.int .i64 c) ∧ w'.cell? ⟨b3, off3 + i * 5 + 4, none⟩ = some (.bool d)) (first | (go_split_ands; exact AllS.out _ (by go_grown)) | (exact AllS.out _ (by go_grown))) (fail)
  obtain ⟨U, hU⟩ : ∃ U, U = (V.alloc (.cells #[.int .i64 1, .int .i64 a, .int .i64 b, .int .i64 c, .bool d] 132)).drew := ⟨_, rfl⟩
  rw [← hU]
  have bU : Below V.heap.size V U := by rw [hU]; exact ((Below.refl _ _).alloc (Nat.le_refl _) _).drew
  have zU : U.heap.size = V.heap.size + 1 := by rw [hU]; show (World.alloc _ _).heap.size = _; simp
  have zUa := Nat.le_of_eq zU
  have zUb := Nat.le_of_eq zU.symm
  have KX := Lib.hid (show Bk U V.heap.size 132 #[.int .i64 1, .int .i64 a, .int .i64 b, .int .i64 c, .bool d] from by rw [hU]; exact Bk.new V _ _)
  have KPU := Lib.hid (KPV.out.below bU KPV.out.lt)
  have KSU := Lib.hid (KS.out.below bU KS.out.lt)
  have KRU := Lib.hid (KRV.out.below bU KRV.out.lt)
  have BU := Lib.hid (below_on BV.out bU)
  have PU := Lib.hid (PV.out.below bU (by omega))
  have OU := Lib.hid (OV.out.below bU (by omega))
  clear AllS hU bU zU KPV KS KRV BV PV OV
  try clear hHeld
  have HAT := Lib.hid hat'
  have H1 := Lib.hid h1
  clear hat' h1
  obtain ⟨na, hna, rfl⟩ := ok_a3 hx (by omega)
  obtain ⟨nb, hnb, rfl⟩ := ok_b3 hx (by omega)
  obtain ⟨g, hgA, hg0, hg1, hg2, hgc, hgf, hput⟩ := sta_put2 h32 OU.out (i := nb) hnb (f (15 + nb)) ((f (15 + nb) : Int)) (by simp [fL])
  simp only at hgA
  subst hgA
  have fl2 : fL 2 = 0 := rfl
  rw [fl2, Int.add_zero] at hgc
  have hl2 : ((nb : Nat) : Int) < ((staF L f).f2.length : Int) := by rw [LN.out.2.2.1]; omega
  clear hput
  obtain ⟨m, hm⟩ : ∃ m, f (15 + nb) = m := ⟨_, rfl⟩
  have hm4 : m < 4 := by rw [← hm]; exact mem_lt hok hnb
  rw [hm] at hgc
  have hok1 : okF WS (upd f (6 + (t * 3 + na)) m) := okF_upd fld1 hok (i := t * 3 + na) (show t * 3 + na < 9 by omega) (show m < 4 by omega)
  have HD := Lib.hid (show doF L f t ⟨1, na, nb, c, d⟩ = upd (ownF (upd f (6 + (t * 3 + na)) m) t ⟨1, na, nb, c, d⟩) (3 + t) (nextF L (upd f (6 + (t * 3 + na)) m) t ⟨1, na, nb, c, d⟩) from by
    unfold doF; rw [ownF_id (Or.inl rfl), nextF_ne (show (1 : Int) ≠ 10 by decide), nextF_ne (show (1 : Int) ≠ 10 by decide), aff_lo (by omega) ht3, ← hm]; rfl)
  have HM := Lib.hid hm
  clear hm
  have allS : ∀ w', Below U.heap.size U w' → (w'.cell? ⟨w1.heap.size, 0, none⟩ = some (.slice K0 (staF L f).f0.length C0) ∧ w'.cell? ⟨w1.heap.size, 1, none⟩ = some (.slice K1 (staF L f).f1.length C1) ∧ w'.cell? ⟨w1.heap.size, 2, none⟩ = some (.slice (some ⟨g, 0, none⟩) (staF L f).f2.length C2) ∧ w'.cell? ⟨w1.heap.size, 3, none⟩ = some (.slice K3 (staF L f).f3.length C3) ∧ w'.cell? ⟨w1.heap.size, 4, none⟩ = some (.slice K4 (staF L f).f4.length C4) ∧ w'.cell? ⟨V.heap.size, 1, none⟩ = some (.int .i64 na) ∧ w'.cell? ⟨V.heap.size, 2, none⟩ = some (.int .i64 nb) ∧ w'.cell? ⟨g, nb, none⟩ = some (.int .i64 (m : Int))) := fun w' hb => ⟨(KSU.out.below hb KSU.out.lt).cell 0, (KSU.out.below hb KSU.out.lt).cell 1, (KSU.out.below hb KSU.out.lt).cell 2, (KSU.out.below hb KSU.out.lt).cell 3, (KSU.out.below hb KSU.out.lt).cell 4, (KX.out.below hb KX.out.lt).cell 1, (KX.out.below hb KX.out.lt).cell 2, (hb.cell (p := ⟨g, nb, none⟩) hg2).trans hgc⟩
  have AllS := Lib.hid allS
  clear allS
  have up : U.cell? ⟨w.heap.size, 0, none⟩ = some (.slice h.A L.length h.c) := (KPU.out).cell 0
  have us0 : U.cell? ⟨w1.heap.size, 0, none⟩ = some (.slice K0 (staF L f).f0.length C0) := (KSU.out).cell 0
  have us1 : U.cell? ⟨w1.heap.size, 1, none⟩ = some (.slice K1 (staF L f).f1.length C1) := (KSU.out).cell 1
  have us2 : U.cell? ⟨w1.heap.size, 2, none⟩ = some (.slice (some ⟨g, 0, none⟩) (staF L f).f2.length C2) := (KSU.out).cell 2
  have us3 : U.cell? ⟨w1.heap.size, 3, none⟩ = some (.slice K3 (staF L f).f3.length C3) := (KSU.out).cell 3
  have us4 : U.cell? ⟨w1.heap.size, 4, none⟩ = some (.slice K4 (staF L f).f4.length C4) := (KSU.out).cell 4
  have ux0 : U.cell? ⟨V.heap.size, 0, none⟩ = some (.int .i64 1) := (KX.out).cell 0
  have ux1 : U.cell? ⟨V.heap.size, 1, none⟩ = some (.int .i64 na) := (KX.out).cell 1
  have ux2 : U.cell? ⟨V.heap.size, 2, none⟩ = some (.int .i64 nb) := (KX.out).cell 2
  have ux3 : U.cell? ⟨V.heap.size, 3, none⟩ = some (.int .i64 c) := (KX.out).cell 3
  have ux4 : U.cell? ⟨V.heap.size, 4, none⟩ = some (.bool d) := (KX.out).cell 4
  go_wp2_with fail
  clear up us0 ux0 us1 ux1 us2 ux2 us3 ux3 us4 ux4
  go_region_held3 (fun w' => w'.cell? ⟨w1.heap.size, 0, none⟩ = some (.slice K0 (staF L f).f0.length C0) ∧ w'.cell? ⟨w1.heap.size, 1, none⟩ = some (.slice K1 (staF L f).f1.length C1) ∧ w'.cell? ⟨w1.heap.size, 2, none⟩ = some (.slice (some ⟨g, 0, none⟩) (staF L f).f2.length C2) ∧ w'.cell? ⟨w1.heap.size, 3, none⟩ = some (.slice K3 (staF L f).f3.length C3) ∧ w'.cell? ⟨w1.heap.size, 4, none⟩ = some (.slice K4 (staF L f).f4.length C4) ∧ w'.cell? ⟨V.heap.size, 1, none⟩ = some (.int .i64 na) ∧ w'.cell? ⟨V.heap.size, 2, none⟩ = some (.int .i64 nb) ∧ w'.cell? ⟨g, nb, none⟩ = some (.int .i64 (m : Int))) (first | (with_reducible exact Fin.out) | (go_split_ands; refine AllS.out _ ?_; go_grown; done) | (refine AllS.out _ ?_; go_grown; done)) (first | (go_at_call 166; go_split_ands; refine (sset_at f ⟨K0, K1, (some ⟨g, 0, none⟩), K3, K4, C0, C1, C2, C3, C4⟩ L f t na m U _ W.heap.size w1.heap.size (Only.of_below (show Below U.heap.size U _ from by go_grown)) (OU.out.below (show Below U.heap.size U _ from by go_grown) (by omega)) (by omega) h32 ht hna hm4).mono ?_; rintro e v0 ⟨rfl, -, on0, ov⟩; have zv0 := on0.size; have KSY := Lib.hid (only_bk KSU.out on0 (Or.inr (by omega))); have KXY := Lib.hid (only_bk KX.out on0 (Or.inr (by omega))); have KPY := Lib.hid (only_bk KPU.out on0 (Or.inl (by omega))); have KRY := Lib.hid (only_bk KRU.out on0 (Or.inl (by omega))); have PY := Lib.hid (PU.out.below (on0.to_below (B := w.heap.size) (by omega) (by omega)) (by omega)); have BY := Lib.hid (BU.out.trans (on0.to_below (B := w.heap.size) (by omega) (by omega))); have OY := Lib.hid ov; have fin : v0.cell? ⟨w1.heap.size, 0, none⟩ = some (.slice K0 (staF L f).f0.length C0) ∧ v0.cell? ⟨w1.heap.size, 1, none⟩ = some (.slice K1 (staF L f).f1.length C1) ∧ v0.cell? ⟨w1.heap.size, 2, none⟩ = some (.slice (some ⟨g, 0, none⟩) (staF L f).f2.length C2) ∧ v0.cell? ⟨w1.heap.size, 3, none⟩ = some (.slice K3 (staF L f).f3.length C3) ∧ v0.cell? ⟨w1.heap.size, 4, none⟩ = some (.slice K4 (staF L f).f4.length C4) ∧ v0.cell? ⟨V.heap.size, 1, none⟩ = some (.int .i64 na) ∧ v0.cell? ⟨V.heap.size, 2, none⟩ = some (.int .i64 nb) ∧ v0.cell? ⟨g, nb, none⟩ = some (.int .i64 (m : Int)) := ⟨KSY.out.cell 0, KSY.out.cell 1, KSY.out.cell 2, KSY.out.cell 3, KSY.out.cell 4, KXY.out.cell 1, KXY.out.cell 2, (sta_mem h32 OY.out hnb (by unfold upd; rw [if_neg (by omega)]; exact HM.out))⟩; have Fin := Lib.hid fin; clear fin on0 ov))
  clear AllS Fin
  try clear hHeld
  have op : v0.cell? ⟨w.heap.size, 0, none⟩ = some (.slice h.A L.length h.c) := (KPY.out).cell 0
  have os0 : v0.cell? ⟨w1.heap.size, 0, none⟩ = some (.slice K0 (staF L f).f0.length C0) := (KSY.out).cell 0
  have os1 : v0.cell? ⟨w1.heap.size, 1, none⟩ = some (.slice K1 (staF L f).f1.length C1) := (KSY.out).cell 1
  have os2 : v0.cell? ⟨w1.heap.size, 2, none⟩ = some (.slice (some ⟨g, 0, none⟩) (staF L f).f2.length C2) := (KSY.out).cell 2
  have os3 : v0.cell? ⟨w1.heap.size, 3, none⟩ = some (.slice K3 (staF L f).f3.length C3) := (KSY.out).cell 3
  have os4 : v0.cell? ⟨w1.heap.size, 4, none⟩ = some (.slice K4 (staF L f).f4.length C4) := (KSY.out).cell 4
  have ox0 : v0.cell? ⟨V.heap.size, 0, none⟩ = some (.int .i64 1) := (KXY.out).cell 0
  have ox1 : v0.cell? ⟨V.heap.size, 1, none⟩ = some (.int .i64 na) := (KXY.out).cell 1
  have ox2 : v0.cell? ⟨V.heap.size, 2, none⟩ = some (.int .i64 nb) := (KXY.out).cell 2
  have ox3 : v0.cell? ⟨V.heap.size, 3, none⟩ = some (.int .i64 c) := (KXY.out).cell 3
  have ox4 : v0.cell? ⟨V.heap.size, 4, none⟩ = some (.bool d) := (KXY.out).cell 4
  go_wp2_with fail
  clear op os0 ox0 os1 ox1 os2 ox2 os3 ox3 os4 ox4
  refine (sown_at f h ⟨K0, K1, (some ⟨g, 0, none⟩), K3, K4, C0, C1, C2, C3, C4⟩ L (upd f (6 + (t * 3 + na)) m) t ⟨1, na, nb, c, d⟩ v0 B W.heap.size w1.heap.size PY.out (by omega) (by omega) OY.out (by omega) h32 ht hok1 (by rw [aff_lo (by omega) ht3]; exact HAT.out) hl6 hx (fun e => absurd (show (1 : Int) = 9 from e) (by decide))).mono ?_
  rintro e wz ⟨rfl, onz, oz⟩
  have zz := onz.size
  have KSZ := Lib.hid (only_bk KSY.out onz (Or.inr (by omega)))
  have KRZ := Lib.hid (only_bk KRY.out onz (Or.inl (by omega)))
  have BZ := Lib.hid (BY.out.trans (onz.to_below (B := w.heap.size) (by omega) (by omega)))
  have OZ := Lib.hid oz
  clear onz oz
  have z0 : wz.cell? ⟨w1.heap.size, 0, none⟩ = some (.slice K0 (staF L f).f0.length C0) := KSZ.out.cell 0
  have z1 : wz.cell? ⟨w1.heap.size, 1, none⟩ = some (.slice K1 (staF L f).f1.length C1) := KSZ.out.cell 1
  have z2 : wz.cell? ⟨w1.heap.size, 2, none⟩ = some (.slice (some ⟨g, 0, none⟩) (staF L f).f2.length C2) := KSZ.out.cell 2
  have z3 : wz.cell? ⟨w1.heap.size, 3, none⟩ = some (.slice K3 (staF L f).f3.length C3) := KSZ.out.cell 3
  have z4 : wz.cell? ⟨w1.heap.size, 4, none⟩ = some (.slice K4 (staF L f).f4.length C4) := KSZ.out.cell 4
  have cr0 : wz.cell? ⟨w.heap.size + 1 + 1, 0, none⟩ = some (.slice none 0 0) := KRZ.out.cell 0
  have fr0 : wz.frozen? ⟨w.heap.size + 1 + 1, 0, none⟩ = false := KRZ.out.free 0
  have cr1 : wz.cell? ⟨w.heap.size + 1 + 1, 1, none⟩ = some (.slice none 0 0) := KRZ.out.cell 1
  have fr1 : wz.frozen? ⟨w.heap.size + 1 + 1, 1, none⟩ = false := KRZ.out.free 1
  have cr2 : wz.cell? ⟨w.heap.size + 1 + 1, 2, none⟩ = some (.slice none 0 0) := KRZ.out.cell 2
  have fr2 : wz.frozen? ⟨w.heap.size + 1 + 1, 2, none⟩ = false := KRZ.out.free 2
  have cr3 : wz.cell? ⟨w.heap.size + 1 + 1, 3, none⟩ = some (.slice none 0 0) := KRZ.out.cell 3
  have fr3 : wz.frozen? ⟨w.heap.size + 1 + 1, 3, none⟩ = false := KRZ.out.free 3
  have cr4 : wz.cell? ⟨w.heap.size + 1 + 1, 4, none⟩ = some (.slice none 0 0) := KRZ.out.cell 4
  have fr4 : wz.frozen? ⟨w.heap.size + 1 + 1, 4, none⟩ = false := KRZ.out.free 4
  go_wp2
  clear z0 cr0 fr0 z1 cr1 fr1 z2 cr2 fr2 z3 cr3 fr3 z4 cr4 fr4
  have kF : Bk (((((wz.setCell ⟨w.heap.size + 1 + 1, 0, none⟩ (.slice K0 (staF L f).f0.length C0)).setCell ⟨w.heap.size + 1 + 1, 1, none⟩ (.slice K1 (staF L f).f1.length C1)).setCell ⟨w.heap.size + 1 + 1, 2, none⟩ (.slice (some ⟨g, 0, none⟩) (staF L f).f2.length C2)).setCell ⟨w.heap.size + 1 + 1, 3, none⟩ (.slice K3 (staF L f).f3.length C3)).setCell ⟨w.heap.size + 1 + 1, 4, none⟩ (.slice K4 (staF L f).f4.length C4)) (w.heap.size + 1 + 1) 41 #[.slice K0 (staF L f).f0.length C0, .slice K1 (staF L f).f1.length C1, .slice (some ⟨g, 0, none⟩) (staF L f).f2.length C2, .slice K3 (staF L f).f3.length C3, .slice K4 (staF L f).f4.length C4] := by
    have a0 := KRZ.out
    have a1 := a0.set 0 (.slice K0 (staF L f).f0.length C0)
    have a2 := a1.set 1 (.slice K1 (staF L f).f1.length C1)
    have a3 := a2.set 2 (.slice (some ⟨g, 0, none⟩) (staF L f).f2.length C2)
    have a4 := a3.set 3 (.slice K3 (staF L f).f3.length C3)
    have a5 := a4.set 4 (.slice K4 (staF L f).f4.length C4)
    simpa using a5
  have bF : Below w.heap.size w (((((wz.setCell ⟨w.heap.size + 1 + 1, 0, none⟩ (.slice K0 (staF L f).f0.length C0)).setCell ⟨w.heap.size + 1 + 1, 1, none⟩ (.slice K1 (staF L f).f1.length C1)).setCell ⟨w.heap.size + 1 + 1, 2, none⟩ (.slice (some ⟨g, 0, none⟩) (staF L f).f2.length C2)).setCell ⟨w.heap.size + 1 + 1, 3, none⟩ (.slice K3 (staF L f).f3.length C3)).setCell ⟨w.heap.size + 1 + 1, 4, none⟩ (.slice K4 (staF L f).f4.length C4)) := (((((BZ.out.setCell (p := ⟨w.heap.size + 1 + 1, 0, none⟩) (show w.heap.size ≤ w.heap.size + 1 + 1 by omega) _).setCell (p := ⟨w.heap.size + 1 + 1, 1, none⟩) (show w.heap.size ≤ w.heap.size + 1 + 1 by omega) _).setCell (p := ⟨w.heap.size + 1 + 1, 2, none⟩) (show w.heap.size ≤ w.heap.size + 1 + 1 by omega) _).setCell (p := ⟨w.heap.size + 1 + 1, 3, none⟩) (show w.heap.size ≤ w.heap.size + 1 + 1 by omega) _).setCell (p := ⟨w.heap.size + 1 + 1, 4, none⟩) (show w.heap.size ≤ w.heap.size + 1 + 1 by omega) _)
  have nF : ∀ q, w.heap.size + 1 + 1 < q → (((((wz.setCell ⟨w.heap.size + 1 + 1, 0, none⟩ (.slice K0 (staF L f).f0.length C0)).setCell ⟨w.heap.size + 1 + 1, 1, none⟩ (.slice K1 (staF L f).f1.length C1)).setCell ⟨w.heap.size + 1 + 1, 2, none⟩ (.slice (some ⟨g, 0, none⟩) (staF L f).f2.length C2)).setCell ⟨w.heap.size + 1 + 1, 3, none⟩ (.slice K3 (staF L f).f3.length C3)).setCell ⟨w.heap.size + 1 + 1, 4, none⟩ (.slice K4 (staF L f).f4.length C4)).heap[q]? = wz.heap[q]? := fun q hq => (Below.heap_setCell _ _ _ q (by show q ≠ w.heap.size + 1 + 1; omega)).trans ((Below.heap_setCell _ _ _ q (by show q ≠ w.heap.size + 1 + 1; omega)).trans ((Below.heap_setCell _ _ _ q (by show q ≠ w.heap.size + 1 + 1; omega)).trans ((Below.heap_setCell _ _ _ q (by show q ≠ w.heap.size + 1 + 1; omega)).trans (Below.heap_setCell _ _ _ q (by show q ≠ w.heap.size + 1 + 1; omega)))))
  have zF : wz.heap.size ≤ (((((wz.setCell ⟨w.heap.size + 1 + 1, 0, none⟩ (.slice K0 (staF L f).f0.length C0)).setCell ⟨w.heap.size + 1 + 1, 1, none⟩ (.slice K1 (staF L f).f1.length C1)).setCell ⟨w.heap.size + 1 + 1, 2, none⟩ (.slice (some ⟨g, 0, none⟩) (staF L f).f2.length C2)).setCell ⟨w.heap.size + 1 + 1, 3, none⟩ (.slice K3 (staF L f).f3.length C3)).setCell ⟨w.heap.size + 1 + 1, 4, none⟩ (.slice K4 (staF L f).f4.length C4)).heap.size := by simp
  have HF := Lib.hid kF
  have BF := Lib.hid bF
  have NF := Lib.hid nF
  obtain ⟨F, hF⟩ : ∃ F, F = (((((wz.setCell ⟨w.heap.size + 1 + 1, 0, none⟩ (.slice K0 (staF L f).f0.length C0)).setCell ⟨w.heap.size + 1 + 1, 1, none⟩ (.slice K1 (staF L f).f1.length C1)).setCell ⟨w.heap.size + 1 + 1, 2, none⟩ (.slice (some ⟨g, 0, none⟩) (staF L f).f2.length C2)).setCell ⟨w.heap.size + 1 + 1, 3, none⟩ (.slice K3 (staF L f).f3.length C3)).setCell ⟨w.heap.size + 1 + 1, 4, none⟩ (.slice K4 (staF L f).f4.length C4)) := ⟨_, rfl⟩
  rw [← hF] at HF BF NF zF
  rw [← hF]
  clear kF bF nF hF
  have c0 := HF.out.cell 0
  have c1 := HF.out.cell 1
  have c2 := HF.out.cell 2
  have c3 := HF.out.cell 3
  have c4 := HF.out.cell 4
  simp only [List.getElem?_toArray, List.getElem?_cons_zero, List.getElem?_cons_succ] at c0 c1 c2 c3 c4
  refine bodyPost_ret (v := .agg #[.slice K0 (staF L f).f0.length C0, .slice K1 (staF L f).f1.length C1, .slice (some ⟨g, 0, none⟩) (staF L f).f2.length C2, .slice K3 (staF L f).f3.length C3, .slice K4 (staF L f).f4.length C4]) (by simp [results, Try.results116, c0, c1, c2, c3, c4, go_sem]) rfl ?_
  refine ⟨⟨K0, K1, (some ⟨g, 0, none⟩), K3, K4, C0, C1, C2, C3, C4⟩, ?_, BF.out, by omega, ?_⟩
  · rw [← staV_eq _ L f]
  · rw [HD.out]
    exact OZ.out.keep (by omega) (by omega) fun q0 h1 h2 => NF.out q0 (by omega)
end Go.Proofs.Ytiljakbjbiinkaa
namespace Go.Proofs.Ytiljakbjbiinkaa
open Go.RowKit Pl
set_option maxHeartbeats 4000000
set_option maxRecDepth 100000
set_option linter.unusedVariables false

theorem sdo_2 (h : PgH) (k : StaH) (L : Pg) (f : Nat → Nat) (t : Nat) (a b c : Int) (d : Bool) (w : World) (B : Nat) (hP : PgR w B h L) (hS : StaR w B k (staF L f)) (hB : B ≤ w.heap.size) (h32 : L.length ≤ 3) (ht : t < L.length) (hok : okF WS f) (xs : List Sm) (hxs : L[t]? = some xs) (hat : f (3 + t) < xs.length) (hxx : xs[f (3 + t)]? = some ⟨2, a, b, c, d⟩) (hx : okB 2 a b c d = true) (hl6 : (L.getD t []).length ≤ 6) (h1 : (2 : Int) = 9 → ∀ n : Nat, b = (n : Int) → 1 ≤ f (20 + n) ∧ f (20 + n) ≤ 4) :
    Calls Try.prog 116 #[PgV h L, StaV k (staF L f), .int .i64 t] w (l2DoP w L (doF L f t ⟨2, a, b, c, d⟩)) := by
  have hat' : f (3 + t) < (L.getD t []).length := by rw [getD_some hxs]; exact hat
  have ht3 : t < 3 := by omega
  obtain ⟨W, hW⟩ : ∃ W, W = (((w.alloc (.cells #[.slice h.A L.length h.c] 30)).alloc (.cells #[.slice k.A0 (staF L f).f0.length k.c0, .slice k.A1 (staF L f).f1.length k.c1, .slice k.A2 (staF L f).f2.length k.c2, .slice k.A3 (staF L f).f3.length k.c3, .slice k.A4 (staF L f).f4.length k.c4] 41)).alloc (.cells #[.slice none 0 0, .slice none 0 0, .slice none 0 0, .slice none 0 0, .slice none 0 0] 41)) := ⟨_, rfl⟩
  have bW : Below w.heap.size w W := by rw [hW]; go_grown
  have sW : W.heap.size = w.heap.size + 1 + 1 + 1 := by rw [hW]; simp
  have k0 : Bk W w.heap.size 30 #[.slice h.A L.length h.c] := by rw [hW]; exact ((Bk.new w _ _).alloc _).alloc _
  have k1 : Bk W (w.heap.size + 1) 41 #[.slice k.A0 (staF L f).f0.length k.c0, .slice k.A1 (staF L f).f1.length k.c1, .slice k.A2 (staF L f).f2.length k.c2, .slice k.A3 (staF L f).f3.length k.c3, .slice k.A4 (staF L f).f4.length k.c4] := by
    rw [hW]; have := (Bk.new (w.alloc (.cells #[.slice h.A L.length h.c] 30)) #[.slice k.A0 (staF L f).f0.length k.c0, .slice k.A1 (staF L f).f1.length k.c1, .slice k.A2 (staF L f).f2.length k.c2, .slice k.A3 (staF L f).f3.length k.c3, .slice k.A4 (staF L f).f4.length k.c4] 41).alloc (.cells #[.slice none 0 0, .slice none 0 0, .slice none 0 0, .slice none 0 0, .slice none 0 0] 41)
    rwa [World.size_alloc] at this
  have k2 : Bk W (w.heap.size + 1 + 1) 41 #[.slice none 0 0, .slice none 0 0, .slice none 0 0, .slice none 0 0, .slice none 0 0] := by
    rw [hW]; have := Bk.new ((w.alloc (.cells #[.slice h.A L.length h.c] 30)).alloc (.cells #[.slice k.A0 (staF L f).f0.length k.c0, .slice k.A1 (staF L f).f1.length k.c1, .slice k.A2 (staF L f).f2.length k.c2, .slice k.A3 (staF L f).f3.length k.c3, .slice k.A4 (staF L f).f4.length k.c4] 41)) #[.slice none 0 0, .slice none 0 0, .slice none 0 0, .slice none 0 0, .slice none 0 0] 41
    rwa [World.size_alloc, World.size_alloc] at this
  have KP := Lib.hid k0
  have KR := Lib.hid k2
  have BW := Lib.hid bW
  have P0 := Lib.hid (hP.below bW hB)
  have S0 := Lib.hid (hS.below bW hB)
  have sWa := Nat.le_of_eq sW
  have sWb := Nat.le_of_eq sW.symm
  have HW := Lib.hid hW
  have bf0 : W.cell? ⟨w.heap.size + 1, 0, none⟩ = some (.slice k.A0 (staF L f).f0.length k.c0) := k1.cell 0
  have bf1 : W.cell? ⟨w.heap.size + 1, 1, none⟩ = some (.slice k.A1 (staF L f).f1.length k.c1) := k1.cell 1
  have bf2 : W.cell? ⟨w.heap.size + 1, 2, none⟩ = some (.slice k.A2 (staF L f).f2.length k.c2) := k1.cell 2
  have bf3 : W.cell? ⟨w.heap.size + 1, 3, none⟩ = some (.slice k.A3 (staF L f).f3.length k.c3) := k1.cell 3
  have bf4 : W.cell? ⟨w.heap.size + 1, 4, none⟩ = some (.slice k.A4 (staF L f).f4.length k.c4) := k1.cell 4
  clear hW bW sW k0 k1 k2 hP hS
  have LN := Lib.hid (sta_len L f)
  go_enter Try.func116, Try.ntmps116
  go_wp2_with fail
  rw [← HW.out]
  refine (scopy_any k (staF L f) W W.heap.size (S0.out.up (Below.refl W.heap.size W) (by omega) (by omega)) (Nat.le_refl _) (by obtain ⟨a0, a1, a2, a3, a4⟩ := LN.out; exact ⟨by omega, by omega, by omega, by omega, by omega⟩)).mono ?_
  rintro e w1 ⟨⟨K0, K1, K2, K3, K4, C0, C1, C2, C3, C4⟩, rfl, hb1, hz1, ho1⟩
  clear bf0 bf1 bf2 bf3 bf4
  have KP1 := Lib.hid (KP.out.below hb1 KP.out.lt)
  have KR1 := Lib.hid (KR.out.below hb1 KR.out.lt)
  have B1 := Lib.hid (below_on BW.out hb1)
  have P1 := Lib.hid (P0.out.below hb1 (by omega))
  have O1 := Lib.hid ho1
  clear hb1 ho1
  go_wp2_with fail
  obtain ⟨V, hV⟩ : ∃ V, V = w1.alloc (.cells #[.slice K0 (staF L f).f0.length C0, .slice K1 (staF L f).f1.length C1, .slice K2 (staF L f).f2.length C2, .slice K3 (staF L f).f3.length C3, .slice K4 (staF L f).f4.length C4] 41) := ⟨_, rfl⟩
  rw [← hV]
  have bV : Below w1.heap.size w1 V := by rw [hV]; go_grown
  have zV : V.heap.size = w1.heap.size + 1 := by rw [hV]; simp
  have zVa := Nat.le_of_eq zV
  have zVb := Nat.le_of_eq zV.symm
  have KS := Lib.hid (show Bk V w1.heap.size 41 #[.slice K0 (staF L f).f0.length C0, .slice K1 (staF L f).f1.length C1, .slice K2 (staF L f).f2.length C2, .slice K3 (staF L f).f3.length C3, .slice K4 (staF L f).f4.length C4] from by rw [hV]; exact Bk.new _ _ _)
  have KPV := Lib.hid (KP1.out.below bV KP1.out.lt)
  have KRV := Lib.hid (KR1.out.below bV KR1.out.lt)
  have BV := Lib.hid (below_on B1.out bV)
  have PV := Lib.hid (P1.out.below bV (by omega))
  have OV := Lib.hid (O1.out.below bV (Nat.le_refl _))
  clear hV bV zV KP1 KR1 B1 P1 O1 KP KR BW P0 S0
  obtain ⟨b1, off1, xs', Ai, ci, hA, hb1, hx', hc1, -, hmi, hrow⟩ := pg_at PV.out ht
  obtain rfl : xs = xs' := by rw [hxs] at hx'; injection hx'
  have lt0 : t < (staF L f).f0.length := by rw [LN.out.1]; exact ht
  obtain ⟨b2, off2, i, hA2, hb2, hi2, -, hc2⟩ := OV.out.rd.r0.int_ (k := t) lt0
  obtain rfl : i = ((f (3 + t) : Nat) : Int) := by
    have : (staF L f).f0[t]? = some ((f (3 + t) : Int) + 0) := fldI_at (l := 0) ht
    rw [hi2] at this; injection this with this
  obtain ⟨b3, off3, x', hA3, hb3, hx3, -, c0, c1, c2, c3, c4⟩ := hrow.at_ hat
  obtain rfl : (⟨2, a, b, c, d⟩ : Sm) = x' := by rw [hxx] at hx3; injection hx3
  simp only at c0 c1 c2 c3 c4
  subst hA3
  obtain ⟨i, hi0⟩ : ∃ i, f (3 + t) = i := ⟨_, rfl⟩
  rw [hi0] at hc2 c0 c1 c2 c3 c4 hat
  have e0 := KPV.out.cell 0
  have e1 := KS.out.cell 0
  simp only [List.getElem?_toArray, List.getElem?_cons_zero] at e0 e1
  rw [hA] at e0
  simp only at hA2
  rw [hA2] at e1
  have hti : (t : Int) < (L.length : Int) := by omega
  have hti2 : (t : Int) < ((staF L f).f0.length : Int) := by omega
  have him : (i : Int) < (xs.length : Int) := by omega
  have l0 := KPV.out.lt
  have l1 := KS.out.lt
  unfold maxLen at hmi
  have hb1v : b1 < V.heap.size := by omega
  have hb2v : b2 < V.heap.size := by omega
  have hb3v : b3 < V.heap.size := by omega
  have g_e0 : V.cell? ⟨w.heap.size, 0, none⟩ = some (.slice (some ⟨b1, off1, none⟩) L.length h.c) := e0
  have g_e1 : V.cell? ⟨w1.heap.size, 0, none⟩ = some (.slice (some ⟨b2, off2, none⟩) (staF L f).f0.length C0) := e1
  have g_hc1 : V.cell? ⟨b1, off1 + t, none⟩ = some (.slice (some ⟨b3, off3, none⟩) xs.length ci) := hc1
  have g_hc2 : V.cell? ⟨b2, off2 + t, none⟩ = some (.int .i64 (i : Int)) := hc2
  have g_c0 : V.cell? ⟨b3, off3 + i * 5, none⟩ = some (.int .i64 2) := c0
  have g_c1 : V.cell? ⟨b3, off3 + i * 5 + 1, none⟩ = some (.int .i64 a) := c1
  have g_c2 : V.cell? ⟨b3, off3 + i * 5 + 2, none⟩ = some (.int .i64 b) := c2
  have g_c3 : V.cell? ⟨b3, off3 + i * 5 + 3, none⟩ = some (.int .i64 c) := c3
  have g_c4 : V.cell? ⟨b3, off3 + i * 5 + 4, none⟩ = some (.bool d) := c4
  have allS : ∀ w', Below V.heap.size V w' → (Below V.heap.size V w' ∧ w'.cell? ⟨w.heap.size, 0, none⟩ = some (.slice (some ⟨b1, off1, none⟩) L.length h.c) ∧ w'.cell? ⟨w1.heap.size, 0, none⟩ = some (.slice (some ⟨b2, off2, none⟩) (staF L f).f0.length C0) ∧ w'.cell? ⟨b1, off1 + t, none⟩ = some (.slice (some ⟨b3, off3, none⟩) xs.length ci) ∧ w'.cell? ⟨b2, off2 + t, none⟩ = some (.int .i64 (i : Int)) ∧ w'.cell? ⟨b3, off3 + i * 5, none⟩ = some (.int .i64 2) ∧ w'.cell? ⟨b3, off3 + i * 5 + 1, none⟩ = some (.int .i64 a) ∧ w'.cell? ⟨b3, off3 + i * 5 + 2, none⟩ = some (.int .i64 b) ∧ w'.cell? ⟨b3, off3 + i * 5 + 3, none⟩ = some (.int .i64 c) ∧ w'.cell? ⟨b3, off3 + i * 5 + 4, none⟩ = some (.bool d)) := fun w' hb => ⟨hb, (hb.cell (p := ⟨w.heap.size, 0, none⟩) (by show w.heap.size < V.heap.size; exact l0)).trans g_e0, (hb.cell (p := ⟨w1.heap.size, 0, none⟩) (by show w1.heap.size < V.heap.size; exact l1)).trans g_e1, (hb.cell (p := ⟨b1, off1 + t, none⟩) (by show b1 < V.heap.size; exact hb1v)).trans g_hc1, (hb.cell (p := ⟨b2, off2 + t, none⟩) (by show b2 < V.heap.size; exact hb2v)).trans g_hc2, (hb.cell (p := ⟨b3, off3 + i * 5, none⟩) (by show b3 < V.heap.size; exact hb3v)).trans g_c0, (hb.cell (p := ⟨b3, off3 + i * 5 + 1, none⟩) (by show b3 < V.heap.size; exact hb3v)).trans g_c1, (hb.cell (p := ⟨b3, off3 + i * 5 + 2, none⟩) (by show b3 < V.heap.size; exact hb3v)).trans g_c2, (hb.cell (p := ⟨b3, off3 + i * 5 + 3, none⟩) (by show b3 < V.heap.size; exact hb3v)).trans g_c3, (hb.cell (p := ⟨b3, off3 + i * 5 + 4, none⟩) (by show b3 < V.heap.size; exact hb3v)).trans g_c4⟩
  have AllS := Lib.hid allS
  have HA := Lib.hid hA
  have HA2 := Lib.hid hA2
  clear allS hA hA2 hx' hrow hi2 hx3 e0 e1 hc1 hc2 c0 c1 c2 c3 c4 g_e0 g_e1 g_hc1 g_hc2 g_c0 g_c1 g_c2 g_c3 g_c4
  go_region_held3 (fun w' => Below V.heap.size V w' ∧ w'.cell? ⟨w.heap.size, 0, none⟩ = some (.slice (some ⟨b1, off1, none⟩) L.length h.c) ∧ w'.cell? ⟨w1.heap.size, 0, none⟩ = some (.slice (some ⟨b2, off2, none⟩) (staF L f).f0.length C0) ∧ w'.cell? ⟨b1, off1 + t, none⟩ = some (.slice (some ⟨b3, off3, none⟩) xs.length ci) ∧ w'.cell? ⟨b2, off2 + t, none⟩ = some (.int .i64 (i : Int)) ∧ w'.cell? ⟨b3, off3 + i * 5, none⟩ = some (.int .i64 2) ∧ w'.cell? ⟨b3, off3 + i * 5 + 1, none⟩ = some (.int .i64 a) ∧ w'.cell? ⟨b3, off3 + i * 5 + 2, none⟩ = some (.int .i64 b) ∧ w'.cell? ⟨b3, off3 + i * 5 + 3, none⟩ = some (.int .i64 c) ∧ w'.cell? ⟨b3, off3 + i * 5 + 4, none⟩ = some (.bool d)) (first | (go_split_ands; exact AllS.out _ (by go_grown)) | (exact AllS.out _ (by go_grown))) (fail)
  obtain ⟨U, hU⟩ : ∃ U, U = (V.alloc (.cells #[.int .i64 2, .int .i64 a, .int .i64 b, .int .i64 c, .bool d] 132)).drew := ⟨_, rfl⟩
  rw [← hU]
  have bU : Below V.heap.size V U := by rw [hU]; exact ((Below.refl _ _).alloc (Nat.le_refl _) _).drew
  have zU : U.heap.size = V.heap.size + 1 := by rw [hU]; show (World.alloc _ _).heap.size = _; simp
  have zUa := Nat.le_of_eq zU
  have zUb := Nat.le_of_eq zU.symm
  have KX := Lib.hid (show Bk U V.heap.size 132 #[.int .i64 2, .int .i64 a, .int .i64 b, .int .i64 c, .bool d] from by rw [hU]; exact Bk.new V _ _)
  have KPU := Lib.hid (KPV.out.below bU KPV.out.lt)
  have KSU := Lib.hid (KS.out.below bU KS.out.lt)
  have KRU := Lib.hid (KRV.out.below bU KRV.out.lt)
  have BU := Lib.hid (below_on BV.out bU)
  have PU := Lib.hid (PV.out.below bU (by omega))
  have OU := Lib.hid (OV.out.below bU (by omega))
  clear AllS hU bU zU KPV KS KRV BV PV OV
  try clear hHeld
  have HAT := Lib.hid hat'
  have H1 := Lib.hid h1
  clear hat' h1
  obtain ⟨na, hna, rfl⟩ : ∃ n : Nat, n < 3 ∧ a = (n : Int) := ok_pl hx
  have hval : valB b c = true := ok_sum hx (by omega)
  obtain ⟨m, hm⟩ : ∃ m, sumF f t b c = m := ⟨_, rfl⟩
  have hm4 : m < 4 := by rw [← hm]; exact sumF_lt hval
  have lt2 : na < (staF L f).f2.length := by rw [LN.out.2.2.1]; omega
  obtain ⟨g0, o0, y0, hgA, hgb, -, -, -⟩ := OU.out.rd.r2.int_ (k := na) lt2
  obtain ⟨g, hgA', hg0, hg1, hg2, hgc, hgf, -⟩ := sta_put2 h32 OU.out (i := na) hna 0 0 rfl
  clear hgA hgb
  simp only at hgA'
  subst hgA'
  have hl2 : ((na : Nat) : Int) < ((staF L f).f2.length : Int) := by rw [LN.out.2.2.1]; omega
  have hok1 : okF WS (upd f (15 + na) m) := okF_upd fld2 hok (i := na) (show na < 3 by omega) (show m < 4 by omega)
  have HD := Lib.hid (show doF L f t ⟨2, na, b, c, d⟩ = upd (ownF (upd f (15 + na) m) t ⟨2, na, b, c, d⟩) (3 + t) (nextF L (upd f (15 + na) m) t ⟨2, na, b, c, d⟩) from by
    unfold doF; rw [ownF_id (Or.inr (Or.inl rfl)), nextF_ne (show (2 : Int) ≠ 10 by decide), nextF_ne (show (2 : Int) ≠ 10 by decide), aff_lo (by omega) ht3, ← hm]; rfl)
  have HM := Lib.hid hm
  clear hm hgc hgf
  have allS : ∀ w', Below U.heap.size U w' → (w'.cell? ⟨w1.heap.size, 0, none⟩ = some (.slice K0 (staF L f).f0.length C0) ∧ w'.cell? ⟨w1.heap.size, 1, none⟩ = some (.slice K1 (staF L f).f1.length C1) ∧ w'.cell? ⟨w1.heap.size, 2, none⟩ = some (.slice (some ⟨g, 0, none⟩) (staF L f).f2.length C2) ∧ w'.cell? ⟨w1.heap.size, 3, none⟩ = some (.slice K3 (staF L f).f3.length C3) ∧ w'.cell? ⟨w1.heap.size, 4, none⟩ = some (.slice K4 (staF L f).f4.length C4) ∧ w'.cell? ⟨V.heap.size, 1, none⟩ = some (.int .i64 na) ∧ w'.cell? ⟨V.heap.size, 2, none⟩ = some (.int .i64 b) ∧ w'.cell? ⟨V.heap.size, 3, none⟩ = some (.int .i64 c)) := fun w' hb => ⟨(KSU.out.below hb KSU.out.lt).cell 0, (KSU.out.below hb KSU.out.lt).cell 1, (KSU.out.below hb KSU.out.lt).cell 2, (KSU.out.below hb KSU.out.lt).cell 3, (KSU.out.below hb KSU.out.lt).cell 4, (KX.out.below hb KX.out.lt).cell 1, (KX.out.below hb KX.out.lt).cell 2, (KX.out.below hb KX.out.lt).cell 3⟩
  have AllS := Lib.hid allS
  clear allS
  have up : U.cell? ⟨w.heap.size, 0, none⟩ = some (.slice h.A L.length h.c) := (KPU.out).cell 0
  have us0 : U.cell? ⟨w1.heap.size, 0, none⟩ = some (.slice K0 (staF L f).f0.length C0) := (KSU.out).cell 0
  have us1 : U.cell? ⟨w1.heap.size, 1, none⟩ = some (.slice K1 (staF L f).f1.length C1) := (KSU.out).cell 1
  have us2 : U.cell? ⟨w1.heap.size, 2, none⟩ = some (.slice (some ⟨g, 0, none⟩) (staF L f).f2.length C2) := (KSU.out).cell 2
  have us3 : U.cell? ⟨w1.heap.size, 3, none⟩ = some (.slice K3 (staF L f).f3.length C3) := (KSU.out).cell 3
  have us4 : U.cell? ⟨w1.heap.size, 4, none⟩ = some (.slice K4 (staF L f).f4.length C4) := (KSU.out).cell 4
  have ux0 : U.cell? ⟨V.heap.size, 0, none⟩ = some (.int .i64 2) := (KX.out).cell 0
  have ux1 : U.cell? ⟨V.heap.size, 1, none⟩ = some (.int .i64 na) := (KX.out).cell 1
  have ux2 : U.cell? ⟨V.heap.size, 2, none⟩ = some (.int .i64 b) := (KX.out).cell 2
  have ux3 : U.cell? ⟨V.heap.size, 3, none⟩ = some (.int .i64 c) := (KX.out).cell 3
  have ux4 : U.cell? ⟨V.heap.size, 4, none⟩ = some (.bool d) := (KX.out).cell 4
  go_wp2_with fail
  clear up us0 ux0 us1 ux1 us2 ux2 us3 ux3 us4 ux4
  go_region_held3 (fun w' => w'.cell? ⟨w1.heap.size, 0, none⟩ = some (.slice K0 (staF L f).f0.length C0) ∧ w'.cell? ⟨w1.heap.size, 1, none⟩ = some (.slice K1 (staF L f).f1.length C1) ∧ w'.cell? ⟨w1.heap.size, 2, none⟩ = some (.slice (some ⟨g, 0, none⟩) (staF L f).f2.length C2) ∧ w'.cell? ⟨w1.heap.size, 3, none⟩ = some (.slice K3 (staF L f).f3.length C3) ∧ w'.cell? ⟨w1.heap.size, 4, none⟩ = some (.slice K4 (staF L f).f4.length C4) ∧ w'.cell? ⟨V.heap.size, 1, none⟩ = some (.int .i64 na) ∧ w'.cell? ⟨V.heap.size, 2, none⟩ = some (.int .i64 b) ∧ w'.cell? ⟨V.heap.size, 3, none⟩ = some (.int .i64 c)) (first | (with_reducible exact Fin.out) | (go_split_ands; refine AllS.out _ ?_; go_grown; done) | (refine AllS.out _ ?_; go_grown; done)) (first | (go_at_call 167; go_split_ands; refine (ssum_any ⟨K0, K1, (some ⟨g, 0, none⟩), K3, K4, C0, C1, C2, C3, C4⟩ L f t b c _ w1.heap.size (OU.out.rd.up (show Below U.heap.size U _ from by go_grown) (by omega) (Nat.le_refl _)) (Nat.le_trans (show w1.heap.size ≤ U.heap.size by omega) (show Below U.heap.size U _ from by go_grown).size) hok h32 ht hval m HM).mono ?_; rintro e v0 ⟨rfl, hv⟩; have hB0 : Below U.heap.size U v0 := below_on (by go_grown) hv; clear hv; have hz0 := hB0.size; have O0 := OU.out.below hB0 (by omega); obtain ⟨g', hgB, -, -, hg3, hgc, hgf, hput⟩ := sta_put2 h32 O0 (i := na) hna m (m : Int) (by simp [fL]); injection hgB with hgB; injection hgB with hgB; subst hgB; have Put := Lib.hid hput; have KS1 := KSU.out.below hB0 KSU.out.lt; have KX1 := KX.out.below hB0 KX.out.lt; have Bv0 := Lib.hid hB0; have fin : (v0.setCell ⟨g, na, none⟩ (.int .i64 (m : Int))).cell? ⟨w1.heap.size, 0, none⟩ = some (.slice K0 (staF L f).f0.length C0) ∧ (v0.setCell ⟨g, na, none⟩ (.int .i64 (m : Int))).cell? ⟨w1.heap.size, 1, none⟩ = some (.slice K1 (staF L f).f1.length C1) ∧ (v0.setCell ⟨g, na, none⟩ (.int .i64 (m : Int))).cell? ⟨w1.heap.size, 2, none⟩ = some (.slice (some ⟨g, 0, none⟩) (staF L f).f2.length C2) ∧ (v0.setCell ⟨g, na, none⟩ (.int .i64 (m : Int))).cell? ⟨w1.heap.size, 3, none⟩ = some (.slice K3 (staF L f).f3.length C3) ∧ (v0.setCell ⟨g, na, none⟩ (.int .i64 (m : Int))).cell? ⟨w1.heap.size, 4, none⟩ = some (.slice K4 (staF L f).f4.length C4) ∧ (v0.setCell ⟨g, na, none⟩ (.int .i64 (m : Int))).cell? ⟨V.heap.size, 1, none⟩ = some (.int .i64 na) ∧ (v0.setCell ⟨g, na, none⟩ (.int .i64 (m : Int))).cell? ⟨V.heap.size, 2, none⟩ = some (.int .i64 b) ∧ (v0.setCell ⟨g, na, none⟩ (.int .i64 (m : Int))).cell? ⟨V.heap.size, 3, none⟩ = some (.int .i64 c) := ⟨(KS1.far (p := ⟨g, na, none⟩) (show w1.heap.size ≠ g by omega) _).cell 0, (KS1.far (p := ⟨g, na, none⟩) (show w1.heap.size ≠ g by omega) _).cell 1, (KS1.far (p := ⟨g, na, none⟩) (show w1.heap.size ≠ g by omega) _).cell 2, (KS1.far (p := ⟨g, na, none⟩) (show w1.heap.size ≠ g by omega) _).cell 3, (KS1.far (p := ⟨g, na, none⟩) (show w1.heap.size ≠ g by omega) _).cell 4, (KX1.far (p := ⟨g, na, none⟩) (show V.heap.size ≠ g by omega) _).cell 1, (KX1.far (p := ⟨g, na, none⟩) (show V.heap.size ≠ g by omega) _).cell 2, (KX1.far (p := ⟨g, na, none⟩) (show V.heap.size ≠ g by omega) _).cell 3⟩; have Fin := Lib.hid fin; clear fin hput O0 KS1 KX1))
  clear AllS Fin hg3 hgc hgf
  try clear hHeld
  have on0 : Only W.heap.size w1.heap.size U (v0.setCell ⟨g, na, none⟩ (.int .i64 (m : Int))) := (Only.of_below Bv0.out).setCell (p := ⟨g, na, none⟩) hg0 hg1 _
  have hX0 := Put.out
  obtain ⟨X, hX⟩ : ∃ X, X = v0.setCell ⟨g, na, none⟩ (.int .i64 (m : Int)) := ⟨_, rfl⟩
  rw [← hX] at on0 hX0
  rw [← hX]
  have zv0 := on0.size
  have KSY := Lib.hid (only_bk KSU.out on0 (Or.inr (by omega)))
  have KXY := Lib.hid (only_bk KX.out on0 (Or.inr (by omega)))
  have KPY := Lib.hid (only_bk KPU.out on0 (Or.inl (by omega)))
  have KRY := Lib.hid (only_bk KRU.out on0 (Or.inl (by omega)))
  have PY := Lib.hid (PU.out.below (on0.to_below (B := w.heap.size) (by omega) (by omega)) (by omega))
  have BY := Lib.hid (BU.out.trans (on0.to_below (B := w.heap.size) (by omega) (by omega)))
  have OY := Lib.hid hX0
  clear hX0 hX Put Bv0
  have op : X.cell? ⟨w.heap.size, 0, none⟩ = some (.slice h.A L.length h.c) := (KPY.out).cell 0
  have os0 : X.cell? ⟨w1.heap.size, 0, none⟩ = some (.slice K0 (staF L f).f0.length C0) := (KSY.out).cell 0
  have os1 : X.cell? ⟨w1.heap.size, 1, none⟩ = some (.slice K1 (staF L f).f1.length C1) := (KSY.out).cell 1
  have os2 : X.cell? ⟨w1.heap.size, 2, none⟩ = some (.slice (some ⟨g, 0, none⟩) (staF L f).f2.length C2) := (KSY.out).cell 2
  have os3 : X.cell? ⟨w1.heap.size, 3, none⟩ = some (.slice K3 (staF L f).f3.length C3) := (KSY.out).cell 3
  have os4 : X.cell? ⟨w1.heap.size, 4, none⟩ = some (.slice K4 (staF L f).f4.length C4) := (KSY.out).cell 4
  have ox0 : X.cell? ⟨V.heap.size, 0, none⟩ = some (.int .i64 2) := (KXY.out).cell 0
  have ox1 : X.cell? ⟨V.heap.size, 1, none⟩ = some (.int .i64 na) := (KXY.out).cell 1
  have ox2 : X.cell? ⟨V.heap.size, 2, none⟩ = some (.int .i64 b) := (KXY.out).cell 2
  have ox3 : X.cell? ⟨V.heap.size, 3, none⟩ = some (.int .i64 c) := (KXY.out).cell 3
  have ox4 : X.cell? ⟨V.heap.size, 4, none⟩ = some (.bool d) := (KXY.out).cell 4
  go_wp2_with fail
  clear op os0 ox0 os1 ox1 os2 ox2 os3 ox3 os4 ox4
  refine (sown_at f h ⟨K0, K1, (some ⟨g, 0, none⟩), K3, K4, C0, C1, C2, C3, C4⟩ L (upd f (15 + na) m) t ⟨2, na, b, c, d⟩ X B W.heap.size w1.heap.size PY.out (by omega) (by omega) OY.out (by omega) h32 ht hok1 (by rw [show upd f (15 + na) m (3 + t) = f (3 + t) from aff_lo (by omega) ht3]; exact HAT.out) hl6 hx (fun e => absurd (show (2 : Int) = 9 from e) (by decide))).mono ?_
  rintro e wz ⟨rfl, onz, oz⟩
  have zz := onz.size
  have KSZ := Lib.hid (only_bk KSY.out onz (Or.inr (by omega)))
  have KRZ := Lib.hid (only_bk KRY.out onz (Or.inl (by omega)))
  have BZ := Lib.hid (BY.out.trans (onz.to_below (B := w.heap.size) (by omega) (by omega)))
  have OZ := Lib.hid oz
  clear onz oz
  have z0 : wz.cell? ⟨w1.heap.size, 0, none⟩ = some (.slice K0 (staF L f).f0.length C0) := KSZ.out.cell 0
  have z1 : wz.cell? ⟨w1.heap.size, 1, none⟩ = some (.slice K1 (staF L f).f1.length C1) := KSZ.out.cell 1
  have z2 : wz.cell? ⟨w1.heap.size, 2, none⟩ = some (.slice (some ⟨g, 0, none⟩) (staF L f).f2.length C2) := KSZ.out.cell 2
  have z3 : wz.cell? ⟨w1.heap.size, 3, none⟩ = some (.slice K3 (staF L f).f3.length C3) := KSZ.out.cell 3
  have z4 : wz.cell? ⟨w1.heap.size, 4, none⟩ = some (.slice K4 (staF L f).f4.length C4) := KSZ.out.cell 4
  have cr0 : wz.cell? ⟨w.heap.size + 1 + 1, 0, none⟩ = some (.slice none 0 0) := KRZ.out.cell 0
  have fr0 : wz.frozen? ⟨w.heap.size + 1 + 1, 0, none⟩ = false := KRZ.out.free 0
  have cr1 : wz.cell? ⟨w.heap.size + 1 + 1, 1, none⟩ = some (.slice none 0 0) := KRZ.out.cell 1
  have fr1 : wz.frozen? ⟨w.heap.size + 1 + 1, 1, none⟩ = false := KRZ.out.free 1
  have cr2 : wz.cell? ⟨w.heap.size + 1 + 1, 2, none⟩ = some (.slice none 0 0) := KRZ.out.cell 2
  have fr2 : wz.frozen? ⟨w.heap.size + 1 + 1, 2, none⟩ = false := KRZ.out.free 2
  have cr3 : wz.cell? ⟨w.heap.size + 1 + 1, 3, none⟩ = some (.slice none 0 0) := KRZ.out.cell 3
  have fr3 : wz.frozen? ⟨w.heap.size + 1 + 1, 3, none⟩ = false := KRZ.out.free 3
  have cr4 : wz.cell? ⟨w.heap.size + 1 + 1, 4, none⟩ = some (.slice none 0 0) := KRZ.out.cell 4
  have fr4 : wz.frozen? ⟨w.heap.size + 1 + 1, 4, none⟩ = false := KRZ.out.free 4
  go_wp2
  clear z0 cr0 fr0 z1 cr1 fr1 z2 cr2 fr2 z3 cr3 fr3 z4 cr4 fr4
  have kF : Bk (((((wz.setCell ⟨w.heap.size + 1 + 1, 0, none⟩ (.slice K0 (staF L f).f0.length C0)).setCell ⟨w.heap.size + 1 + 1, 1, none⟩ (.slice K1 (staF L f).f1.length C1)).setCell ⟨w.heap.size + 1 + 1, 2, none⟩ (.slice (some ⟨g, 0, none⟩) (staF L f).f2.length C2)).setCell ⟨w.heap.size + 1 + 1, 3, none⟩ (.slice K3 (staF L f).f3.length C3)).setCell ⟨w.heap.size + 1 + 1, 4, none⟩ (.slice K4 (staF L f).f4.length C4)) (w.heap.size + 1 + 1) 41 #[.slice K0 (staF L f).f0.length C0, .slice K1 (staF L f).f1.length C1, .slice (some ⟨g, 0, none⟩) (staF L f).f2.length C2, .slice K3 (staF L f).f3.length C3, .slice K4 (staF L f).f4.length C4] := by
    have a0 := KRZ.out
    have a1 := a0.set 0 (.slice K0 (staF L f).f0.length C0)
    have a2 := a1.set 1 (.slice K1 (staF L f).f1.length C1)
    have a3 := a2.set 2 (.slice (some ⟨g, 0, none⟩) (staF L f).f2.length C2)
    have a4 := a3.set 3 (.slice K3 (staF L f).f3.length C3)
    have a5 := a4.set 4 (.slice K4 (staF L f).f4.length C4)
    simpa using a5
  have bF : Below w.heap.size w (((((wz.setCell ⟨w.heap.size + 1 + 1, 0, none⟩ (.slice K0 (staF L f).f0.length C0)).setCell ⟨w.heap.size + 1 + 1, 1, none⟩ (.slice K1 (staF L f).f1.length C1)).setCell ⟨w.heap.size + 1 + 1, 2, none⟩ (.slice (some ⟨g, 0, none⟩) (staF L f).f2.length C2)).setCell ⟨w.heap.size + 1 + 1, 3, none⟩ (.slice K3 (staF L f).f3.length C3)).setCell ⟨w.heap.size + 1 + 1, 4, none⟩ (.slice K4 (staF L f).f4.length C4)) := (((((BZ.out.setCell (p := ⟨w.heap.size + 1 + 1, 0, none⟩) (show w.heap.size ≤ w.heap.size + 1 + 1 by omega) _).setCell (p := ⟨w.heap.size + 1 + 1, 1, none⟩) (show w.heap.size ≤ w.heap.size + 1 + 1 by omega) _).setCell (p := ⟨w.heap.size + 1 + 1, 2, none⟩) (show w.heap.size ≤ w.heap.size + 1 + 1 by omega) _).setCell (p := ⟨w.heap.size + 1 + 1, 3, none⟩) (show w.heap.size ≤ w.heap.size + 1 + 1 by omega) _).setCell (p := ⟨w.heap.size + 1 + 1, 4, none⟩) (show w.heap.size ≤ w.heap.size + 1 + 1 by omega) _)
  have nF : ∀ q, w.heap.size + 1 + 1 < q → (((((wz.setCell ⟨w.heap.size + 1 + 1, 0, none⟩ (.slice K0 (staF L f).f0.length C0)).setCell ⟨w.heap.size + 1 + 1, 1, none⟩ (.slice K1 (staF L f).f1.length C1)).setCell ⟨w.heap.size + 1 + 1, 2, none⟩ (.slice (some ⟨g, 0, none⟩) (staF L f).f2.length C2)).setCell ⟨w.heap.size + 1 + 1, 3, none⟩ (.slice K3 (staF L f).f3.length C3)).setCell ⟨w.heap.size + 1 + 1, 4, none⟩ (.slice K4 (staF L f).f4.length C4)).heap[q]? = wz.heap[q]? := fun q hq => (Below.heap_setCell _ _ _ q (by show q ≠ w.heap.size + 1 + 1; omega)).trans ((Below.heap_setCell _ _ _ q (by show q ≠ w.heap.size + 1 + 1; omega)).trans ((Below.heap_setCell _ _ _ q (by show q ≠ w.heap.size + 1 + 1; omega)).trans ((Below.heap_setCell _ _ _ q (by show q ≠ w.heap.size + 1 + 1; omega)).trans (Below.heap_setCell _ _ _ q (by show q ≠ w.heap.size + 1 + 1; omega)))))
  have zF : wz.heap.size ≤ (((((wz.setCell ⟨w.heap.size + 1 + 1, 0, none⟩ (.slice K0 (staF L f).f0.length C0)).setCell ⟨w.heap.size + 1 + 1, 1, none⟩ (.slice K1 (staF L f).f1.length C1)).setCell ⟨w.heap.size + 1 + 1, 2, none⟩ (.slice (some ⟨g, 0, none⟩) (staF L f).f2.length C2)).setCell ⟨w.heap.size + 1 + 1, 3, none⟩ (.slice K3 (staF L f).f3.length C3)).setCell ⟨w.heap.size + 1 + 1, 4, none⟩ (.slice K4 (staF L f).f4.length C4)).heap.size := by simp
  have HF := Lib.hid kF
  have BF := Lib.hid bF
  have NF := Lib.hid nF
  obtain ⟨F, hF⟩ : ∃ F, F = (((((wz.setCell ⟨w.heap.size + 1 + 1, 0, none⟩ (.slice K0 (staF L f).f0.length C0)).setCell ⟨w.heap.size + 1 + 1, 1, none⟩ (.slice K1 (staF L f).f1.length C1)).setCell ⟨w.heap.size + 1 + 1, 2, none⟩ (.slice (some ⟨g, 0, none⟩) (staF L f).f2.length C2)).setCell ⟨w.heap.size + 1 + 1, 3, none⟩ (.slice K3 (staF L f).f3.length C3)).setCell ⟨w.heap.size + 1 + 1, 4, none⟩ (.slice K4 (staF L f).f4.length C4)) := ⟨_, rfl⟩
  rw [← hF] at HF BF NF zF
  rw [← hF]
  clear kF bF nF hF
  have c0 := HF.out.cell 0
  have c1 := HF.out.cell 1
  have c2 := HF.out.cell 2
  have c3 := HF.out.cell 3
  have c4 := HF.out.cell 4
  simp only [List.getElem?_toArray, List.getElem?_cons_zero, List.getElem?_cons_succ] at c0 c1 c2 c3 c4
  refine bodyPost_ret (v := .agg #[.slice K0 (staF L f).f0.length C0, .slice K1 (staF L f).f1.length C1, .slice (some ⟨g, 0, none⟩) (staF L f).f2.length C2, .slice K3 (staF L f).f3.length C3, .slice K4 (staF L f).f4.length C4]) (by simp [results, Try.results116, c0, c1, c2, c3, c4, go_sem]) rfl ?_
  refine ⟨⟨K0, K1, (some ⟨g, 0, none⟩), K3, K4, C0, C1, C2, C3, C4⟩, ?_, BF.out, by omega, ?_⟩
  · rw [← staV_eq _ L f]
  · rw [HD.out]
    exact OZ.out.keep (by omega) (by omega) fun q0 h1 h2 => NF.out q0 (by omega)
end Go.Proofs.Ytiljakbjbiinkaa
namespace Go.Proofs.Ytiljakbjbiinkaa
open Go.RowKit Pl
set_option maxHeartbeats 4000000
set_option maxRecDepth 100000
set_option linter.unusedVariables false

theorem sdo_3 (h : PgH) (k : StaH) (L : Pg) (f : Nat → Nat) (t : Nat) (a b c : Int) (d : Bool) (w : World) (B : Nat) (hP : PgR w B h L) (hS : StaR w B k (staF L f)) (hB : B ≤ w.heap.size) (h32 : L.length ≤ 3) (ht : t < L.length) (hok : okF WS f) (xs : List Sm) (hxs : L[t]? = some xs) (hat : f (3 + t) < xs.length) (hxx : xs[f (3 + t)]? = some ⟨3, a, b, c, d⟩) (hx : okB 3 a b c d = true) (hl6 : (L.getD t []).length ≤ 6) (h1 : (3 : Int) = 9 → ∀ n : Nat, b = (n : Int) → 1 ≤ f (20 + n) ∧ f (20 + n) ≤ 4) :
    Calls Try.prog 116 #[PgV h L, StaV k (staF L f), .int .i64 t] w (l2DoP w L (doF L f t ⟨3, a, b, c, d⟩)) := by
  have hat' : f (3 + t) < (L.getD t []).length := by rw [getD_some hxs]; exact hat
  have ht3 : t < 3 := by omega
  obtain ⟨W, hW⟩ : ∃ W, W = (((w.alloc (.cells #[.slice h.A L.length h.c] 30)).alloc (.cells #[.slice k.A0 (staF L f).f0.length k.c0, .slice k.A1 (staF L f).f1.length k.c1, .slice k.A2 (staF L f).f2.length k.c2, .slice k.A3 (staF L f).f3.length k.c3, .slice k.A4 (staF L f).f4.length k.c4] 41)).alloc (.cells #[.slice none 0 0, .slice none 0 0, .slice none 0 0, .slice none 0 0, .slice none 0 0] 41)) := ⟨_, rfl⟩
  have bW : Below w.heap.size w W := by rw [hW]; go_grown
  have sW : W.heap.size = w.heap.size + 1 + 1 + 1 := by rw [hW]; simp
  have k0 : Bk W w.heap.size 30 #[.slice h.A L.length h.c] := by rw [hW]; exact ((Bk.new w _ _).alloc _).alloc _
  have k1 : Bk W (w.heap.size + 1) 41 #[.slice k.A0 (staF L f).f0.length k.c0, .slice k.A1 (staF L f).f1.length k.c1, .slice k.A2 (staF L f).f2.length k.c2, .slice k.A3 (staF L f).f3.length k.c3, .slice k.A4 (staF L f).f4.length k.c4] := by
    rw [hW]; have := (Bk.new (w.alloc (.cells #[.slice h.A L.length h.c] 30)) #[.slice k.A0 (staF L f).f0.length k.c0, .slice k.A1 (staF L f).f1.length k.c1, .slice k.A2 (staF L f).f2.length k.c2, .slice k.A3 (staF L f).f3.length k.c3, .slice k.A4 (staF L f).f4.length k.c4] 41).alloc (.cells #[.slice none 0 0, .slice none 0 0, .slice none 0 0, .slice none 0 0, .slice none 0 0] 41)
    rwa [World.size_alloc] at this
  have k2 : Bk W (w.heap.size + 1 + 1) 41 #[.slice none 0 0, .slice none 0 0, .slice none 0 0, .slice none 0 0, .slice none 0 0] := by
    rw [hW]; have := Bk.new ((w.alloc (.cells #[.slice h.A L.length h.c] 30)).alloc (.cells #[.slice k.A0 (staF L f).f0.length k.c0, .slice k.A1 (staF L f).f1.length k.c1, .slice k.A2 (staF L f).f2.length k.c2, .slice k.A3 (staF L f).f3.length k.c3, .slice k.A4 (staF L f).f4.length k.c4] 41)) #[.slice none 0 0, .slice none 0 0, .slice none 0 0, .slice none 0 0, .slice none 0 0] 41
    rwa [World.size_alloc, World.size_alloc] at this
  have KP := Lib.hid k0
  have KR := Lib.hid k2
  have BW := Lib.hid bW
  have P0 := Lib.hid (hP.below bW hB)
  have S0 := Lib.hid (hS.below bW hB)
  have sWa := Nat.le_of_eq sW
  have sWb := Nat.le_of_eq sW.symm
  have HW := Lib.hid hW
  have bf0 : W.cell? ⟨w.heap.size + 1, 0, none⟩ = some (.slice k.A0 (staF L f).f0.length k.c0) := k1.cell 0
  have bf1 : W.cell? ⟨w.heap.size + 1, 1, none⟩ = some (.slice k.A1 (staF L f).f1.length k.c1) := k1.cell 1
  have bf2 : W.cell? ⟨w.heap.size + 1, 2, none⟩ = some (.slice k.A2 (staF L f).f2.length k.c2) := k1.cell 2
  have bf3 : W.cell? ⟨w.heap.size + 1, 3, none⟩ = some (.slice k.A3 (staF L f).f3.length k.c3) := k1.cell 3
  have bf4 : W.cell? ⟨w.heap.size + 1, 4, none⟩ = some (.slice k.A4 (staF L f).f4.length k.c4) := k1.cell 4
  clear hW bW sW k0 k1 k2 hP hS
  have LN := Lib.hid (sta_len L f)
  go_enter Try.func116, Try.ntmps116
  go_wp2_with fail
  rw [← HW.out]
  refine (scopy_any k (staF L f) W W.heap.size (S0.out.up (Below.refl W.heap.size W) (by omega) (by omega)) (Nat.le_refl _) (by obtain ⟨a0, a1, a2, a3, a4⟩ := LN.out; exact ⟨by omega, by omega, by omega, by omega, by omega⟩)).mono ?_
  rintro e w1 ⟨⟨K0, K1, K2, K3, K4, C0, C1, C2, C3, C4⟩, rfl, hb1, hz1, ho1⟩
  clear bf0 bf1 bf2 bf3 bf4
  have KP1 := Lib.hid (KP.out.below hb1 KP.out.lt)
  have KR1 := Lib.hid (KR.out.below hb1 KR.out.lt)
  have B1 := Lib.hid (below_on BW.out hb1)
  have P1 := Lib.hid (P0.out.below hb1 (by omega))
  have O1 := Lib.hid ho1
  clear hb1 ho1
  go_wp2_with fail
  obtain ⟨V, hV⟩ : ∃ V, V = w1.alloc (.cells #[.slice K0 (staF L f).f0.length C0, .slice K1 (staF L f).f1.length C1, .slice K2 (staF L f).f2.length C2, .slice K3 (staF L f).f3.length C3, .slice K4 (staF L f).f4.length C4] 41) := ⟨_, rfl⟩
  rw [← hV]
  have bV : Below w1.heap.size w1 V := by rw [hV]; go_grown
  have zV : V.heap.size = w1.heap.size + 1 := by rw [hV]; simp
  have zVa := Nat.le_of_eq zV
  have zVb := Nat.le_of_eq zV.symm
  have KS := Lib.hid (show Bk V w1.heap.size 41 #[.slice K0 (staF L f).f0.length C0, .slice K1 (staF L f).f1.length C1, .slice K2 (staF L f).f2.length C2, .slice K3 (staF L f).f3.length C3, .slice K4 (staF L f).f4.length C4] from by rw [hV]; exact Bk.new _ _ _)
  have KPV := Lib.hid (KP1.out.below bV KP1.out.lt)
  have KRV := Lib.hid (KR1.out.below bV KR1.out.lt)
  have BV := Lib.hid (below_on B1.out bV)
  have PV := Lib.hid (P1.out.below bV (by omega))
  have OV := Lib.hid (O1.out.below bV (Nat.le_refl _))
  clear hV bV zV KP1 KR1 B1 P1 O1 KP KR BW P0 S0
  obtain ⟨b1, off1, xs', Ai, ci, hA, hb1, hx', hc1, -, hmi, hrow⟩ := pg_at PV.out ht
  obtain rfl : xs = xs' := by rw [hxs] at hx'; injection hx'
  have lt0 : t < (staF L f).f0.length := by rw [LN.out.1]; exact ht
  obtain ⟨b2, off2, i, hA2, hb2, hi2, -, hc2⟩ := OV.out.rd.r0.int_ (k := t) lt0
  obtain rfl : i = ((f (3 + t) : Nat) : Int) := by
    have : (staF L f).f0[t]? = some ((f (3 + t) : Int) + 0) := fldI_at (l := 0) ht
    rw [hi2] at this; injection this with this
  obtain ⟨b3, off3, x', hA3, hb3, hx3, -, c0, c1, c2, c3, c4⟩ := hrow.at_ hat
  obtain rfl : (⟨3, a, b, c, d⟩ : Sm) = x' := by rw [hxx] at hx3; injection hx3
  simp only at c0 c1 c2 c3 c4
  subst hA3
  obtain ⟨i, hi0⟩ : ∃ i, f (3 + t) = i := ⟨_, rfl⟩
  rw [hi0] at hc2 c0 c1 c2 c3 c4 hat
  have e0 := KPV.out.cell 0
  have e1 := KS.out.cell 0
  simp only [List.getElem?_toArray, List.getElem?_cons_zero] at e0 e1
  rw [hA] at e0
  simp only at hA2
  rw [hA2] at e1
  have hti : (t : Int) < (L.length : Int) := by omega
  have hti2 : (t : Int) < ((staF L f).f0.length : Int) := by omega
  have him : (i : Int) < (xs.length : Int) := by omega
  have l0 := KPV.out.lt
  have l1 := KS.out.lt
  unfold maxLen at hmi
  have hb1v : b1 < V.heap.size := by omega
  have hb2v : b2 < V.heap.size := by omega
  have hb3v : b3 < V.heap.size := by omega
  have g_e0 : V.cell? ⟨w.heap.size, 0, none⟩ = some (.slice (some ⟨b1, off1, none⟩) L.length h.c) := e0
  have g_e1 : V.cell? ⟨w1.heap.size, 0, none⟩ = some (.slice (some ⟨b2, off2, none⟩) (staF L f).f0.length C0) := e1
  have g_hc1 : V.cell? ⟨b1, off1 + t, none⟩ = some (.slice (some ⟨b3, off3, none⟩) xs.length ci) := hc1
  have g_hc2 : V.cell? ⟨b2, off2 + t, none⟩ = some (.int .i64 (i : Int)) := hc2
  have g_c0 : V.cell? ⟨b3, off3 + i * 5, none⟩ = some (.int .i64 3) := c0
  have g_c1 : V.cell? ⟨b3, off3 + i * 5 + 1, none⟩ = some (.int .i64 a) := c1
  have g_c2 : V.cell? ⟨b3, off3 + i * 5 + 2, none⟩ = some (.int .i64 b) := c2
  have g_c3 : V.cell? ⟨b3, off3 + i * 5 + 3, none⟩ = some (.int .i64 c) := c3
  have g_c4 : V.cell? ⟨b3, off3 + i * 5 + 4, none⟩ = some (.bool d) := c4
  have allS : ∀ w', Below V.heap.size V w' → (Below V.heap.size V w' ∧ w'.cell? ⟨w.heap.size, 0, none⟩ = some (.slice (some ⟨b1, off1, none⟩) L.length h.c) ∧ w'.cell? ⟨w1.heap.size, 0, none⟩ = some (.slice (some ⟨b2, off2, none⟩) (staF L f).f0.length C0) ∧ w'.cell? ⟨b1, off1 + t, none⟩ = some (.slice (some ⟨b3, off3, none⟩) xs.length ci) ∧ w'.cell? ⟨b2, off2 + t, none⟩ = some (.int .i64 (i : Int)) ∧ w'.cell? ⟨b3, off3 + i * 5, none⟩ = some (.int .i64 3) ∧ w'.cell? ⟨b3, off3 + i * 5 + 1, none⟩ = some (.int .i64 a) ∧ w'.cell? ⟨b3, off3 + i * 5 + 2, none⟩ = some (.int .i64 b) ∧ w'.cell? ⟨b3, off3 + i * 5 + 3, none⟩ = some (.int .i64 c) ∧ w'.cell? ⟨b3, off3 + i * 5 + 4, none⟩ = some (.bool d)) := fun w' hb => ⟨hb, (hb.cell (p := ⟨w.heap.size, 0, none⟩) (by show w.heap.size < V.heap.size; exact l0)).trans g_e0, (hb.cell (p := ⟨w1.heap.size, 0, none⟩) (by show w1.heap.size < V.heap.size; exact l1)).trans g_e1, (hb.cell (p := ⟨b1, off1 + t, none⟩) (by show b1 < V.heap.size; exact hb1v)).trans g_hc1, (hb.cell (p := ⟨b2, off2 + t, none⟩) (by show b2 < V.heap.size; exact hb2v)).trans g_hc2, (hb.cell (p := ⟨b3, off3 + i * 5, none⟩) (by show b3 < V.heap.size; exact hb3v)).trans g_c0, (hb.cell (p := ⟨b3, off3 + i * 5 + 1, none⟩) (by show b3 < V.heap.size; exact hb3v)).trans g_c1, (hb.cell (p := ⟨b3, off3 + i * 5 + 2, none⟩) (by show b3 < V.heap.size; exact hb3v)).trans g_c2, (hb.cell (p := ⟨b3, off3 + i * 5 + 3, none⟩) (by show b3 < V.heap.size; exact hb3v)).trans g_c3, (hb.cell (p := ⟨b3, off3 + i * 5 + 4, none⟩) (by show b3 < V.heap.size; exact hb3v)).trans g_c4⟩
  have AllS := Lib.hid allS
  have HA := Lib.hid hA
  have HA2 := Lib.hid hA2
  clear allS hA hA2 hx' hrow hi2 hx3 e0 e1 hc1 hc2 c0 c1 c2 c3 c4 g_e0 g_e1 g_hc1 g_hc2 g_c0 g_c1 g_c2 g_c3 g_c4
  go_region_held3 (fun w' => Below V.heap.size V w' ∧ w'.cell? ⟨w.heap.size, 0, none⟩ = some (.slice (some ⟨b1, off1, none⟩) L.length h.c) ∧ w'.cell? ⟨w1.heap.size, 0, none⟩ = some (.slice (some ⟨b2, off2, none⟩) (staF L f).f0.length C0) ∧ w'.cell? ⟨b1, off1 + t, none⟩ = some (.slice (some ⟨b3, off3, none⟩) xs.length ci) ∧ w'.cell? ⟨b2, off2 + t, none⟩ = some (.int .i64 (i : Int)) ∧ w'.cell? ⟨b3, off3 + i * 5, none⟩ = some (.int .i64 3) ∧ w'.cell? ⟨b3, off3 + i * 5 + 1, none⟩ = some (.int .i64 a) ∧ w'.cell? ⟨b3, off3 + i * 5 + 2, none⟩ = some (.int .i64 b) ∧ w'.cell? ⟨b3, off3 + i * 5 + 3, none⟩ = some (.int .i64 c) ∧ w'.cell? ⟨b3, off3 + i * 5 + 4, none⟩ = some (.bool d)) (first | (go_split_ands; exact AllS.out _ (by go_grown)) | (exact AllS.out _ (by go_grown))) (fail)
  obtain ⟨U, hU⟩ : ∃ U, U = (V.alloc (.cells #[.int .i64 3, .int .i64 a, .int .i64 b, .int .i64 c, .bool d] 132)).drew := ⟨_, rfl⟩
  rw [← hU]
  have bU : Below V.heap.size V U := by rw [hU]; exact ((Below.refl _ _).alloc (Nat.le_refl _) _).drew
  have zU : U.heap.size = V.heap.size + 1 := by rw [hU]; show (World.alloc _ _).heap.size = _; simp
  have zUa := Nat.le_of_eq zU
  have zUb := Nat.le_of_eq zU.symm
  have KX := Lib.hid (show Bk U V.heap.size 132 #[.int .i64 3, .int .i64 a, .int .i64 b, .int .i64 c, .bool d] from by rw [hU]; exact Bk.new V _ _)
  have KPU := Lib.hid (KPV.out.below bU KPV.out.lt)
  have KSU := Lib.hid (KS.out.below bU KS.out.lt)
  have KRU := Lib.hid (KRV.out.below bU KRV.out.lt)
  have BU := Lib.hid (below_on BV.out bU)
  have PU := Lib.hid (PV.out.below bU (by omega))
  have OU := Lib.hid (OV.out.below bU (by omega))
  clear AllS hU bU zU KPV KS KRV BV PV OV
  try clear hHeld
  have HAT := Lib.hid hat'
  have H1 := Lib.hid h1
  clear hat' h1
  obtain ⟨na, hna, rfl⟩ := ok_a3 hx (by omega)
  obtain ⟨nb, hnb, rfl⟩ := ok_b3 hx (by omega)
  obtain ⟨nc, hnc, rfl⟩ := ok_c4 hx (by omega)
  obtain ⟨g, hgA, hg0, hg1, hg2, hgc, hgf, hput⟩ := sta_put2 h32 OU.out (i := nb) hnb (0) (((0 : Nat) : Int)) (by simp [fL])
  simp only at hgA
  subst hgA
  have fl2 : fL 2 = 0 := rfl
  rw [fl2, Int.add_zero] at hgc
  have hl2 : ((nb : Nat) : Int) < ((staF L f).f2.length : Int) := by rw [LN.out.2.2.1]; omega
  clear hput hgf
  obtain ⟨m, hm⟩ : ∃ m, f (15 + nb) = m := ⟨_, rfl⟩
  have hm4 : m < 4 := by rw [← hm]; exact mem_lt hok hnb
  rw [hm] at hgc
  obtain ⟨v, hv⟩ : ∃ v, nc = v := ⟨_, rfl⟩
  have hv4 : v < 4 := by rw [← hv]; omega
  have hokm : okF WS (upd f (15 + nb) v) := okF_upd fld2 hok (i := nb) (show nb < 3 by omega) (show v < 4 by omega)
  have hok1 : okF WS (upd (upd f (15 + nb) v) (6 + (t * 3 + na)) m) := okF_upd fld1 hokm (i := t * 3 + na) (show t * 3 + na < 9 by omega) (show m < 4 by omega)
  have hlo : (upd (upd f (15 + nb) v) (6 + (t * 3 + na)) m) (3 + t) = f (3 + t) := (aff_lo (by omega) ht3).trans (aff_lo (by omega) ht3)
  have haf : affF f t ⟨3, na, nb, nc, d⟩ = upd (upd f (15 + nb) v) (6 + (t * 3 + na)) m := by
    rw [← hv, ← hm]; exact upd_comm (f := f) (p := 6 + (t * 3 + na)) (q := 15 + nb) (by omega)
  have hd : doF L f t ⟨3, na, nb, nc, d⟩ = upd (ownF (upd (upd f (15 + nb) v) (6 + (t * 3 + na)) m) t ⟨3, na, nb, nc, d⟩) (3 + t) (nextF L (upd (upd f (15 + nb) v) (6 + (t * 3 + na)) m) t ⟨3, na, nb, nc, d⟩) := by
    unfold doF; rw [ownF_id (Or.inr (Or.inr (Or.inl rfl))), nextF_ne (show (3 : Int) ≠ 10 by decide), nextF_ne (show (3 : Int) ≠ 10 by decide), hlo, haf]
  have HD := Lib.hid hd
  have HLO := Lib.hid hlo
  have HV := Lib.hid hv
  clear hd hlo hm hv haf
  have allS : ∀ w', Below U.heap.size U w' → (w'.cell? ⟨V.heap.size, 0, none⟩ = some (.int .i64 3) ∧ w'.cell? ⟨V.heap.size, 1, none⟩ = some (.int .i64 na) ∧ w'.cell? ⟨V.heap.size, 2, none⟩ = some (.int .i64 nb) ∧ w'.cell? ⟨V.heap.size, 3, none⟩ = some (.int .i64 nc) ∧ w'.cell? ⟨V.heap.size, 4, none⟩ = some (.bool d) ∧ w'.cell? ⟨w1.heap.size, 0, none⟩ = some (.slice K0 (staF L f).f0.length C0) ∧ w'.cell? ⟨w1.heap.size, 1, none⟩ = some (.slice K1 (staF L f).f1.length C1) ∧ w'.cell? ⟨w1.heap.size, 2, none⟩ = some (.slice (some ⟨g, 0, none⟩) (staF L f).f2.length C2) ∧ w'.cell? ⟨w1.heap.size, 3, none⟩ = some (.slice K3 (staF L f).f3.length C3) ∧ w'.cell? ⟨w1.heap.size, 4, none⟩ = some (.slice K4 (staF L f).f4.length C4)) := fun w' hb => ⟨(KX.out.below hb KX.out.lt).cell 0, (KX.out.below hb KX.out.lt).cell 1, (KX.out.below hb KX.out.lt).cell 2, (KX.out.below hb KX.out.lt).cell 3, (KX.out.below hb KX.out.lt).cell 4, (KSU.out.below hb KSU.out.lt).cell 0, (KSU.out.below hb KSU.out.lt).cell 1, (KSU.out.below hb KSU.out.lt).cell 2, (KSU.out.below hb KSU.out.lt).cell 3, (KSU.out.below hb KSU.out.lt).cell 4⟩
  have AllS := Lib.hid allS
  clear allS
  have up : U.cell? ⟨w.heap.size, 0, none⟩ = some (.slice h.A L.length h.c) := (KPU.out).cell 0
  have us0 : U.cell? ⟨w1.heap.size, 0, none⟩ = some (.slice K0 (staF L f).f0.length C0) := (KSU.out).cell 0
  have us1 : U.cell? ⟨w1.heap.size, 1, none⟩ = some (.slice K1 (staF L f).f1.length C1) := (KSU.out).cell 1
  have us2 : U.cell? ⟨w1.heap.size, 2, none⟩ = some (.slice (some ⟨g, 0, none⟩) (staF L f).f2.length C2) := (KSU.out).cell 2
  have us3 : U.cell? ⟨w1.heap.size, 3, none⟩ = some (.slice K3 (staF L f).f3.length C3) := (KSU.out).cell 3
  have us4 : U.cell? ⟨w1.heap.size, 4, none⟩ = some (.slice K4 (staF L f).f4.length C4) := (KSU.out).cell 4
  have ux0 : U.cell? ⟨V.heap.size, 0, none⟩ = some (.int .i64 3) := (KX.out).cell 0
  have ux1 : U.cell? ⟨V.heap.size, 1, none⟩ = some (.int .i64 na) := (KX.out).cell 1
  have ux2 : U.cell? ⟨V.heap.size, 2, none⟩ = some (.int .i64 nb) := (KX.out).cell 2
  have ux3 : U.cell? ⟨V.heap.size, 3, none⟩ = some (.int .i64 nc) := (KX.out).cell 3
  have ux4 : U.cell? ⟨V.heap.size, 4, none⟩ = some (.bool d) := (KX.out).cell 4
  go_wp2_with fail
  clear up us0 ux0 us1 ux1 us2 ux2 us3 ux3 us4 ux4
  go_region_held3 (fun w' => w'.cell? ⟨V.heap.size, 0, none⟩ = some (.int .i64 3) ∧ w'.cell? ⟨V.heap.size, 1, none⟩ = some (.int .i64 na) ∧ w'.cell? ⟨V.heap.size, 2, none⟩ = some (.int .i64 nb) ∧ w'.cell? ⟨V.heap.size, 3, none⟩ = some (.int .i64 nc) ∧ w'.cell? ⟨V.heap.size, 4, none⟩ = some (.bool d) ∧ w'.cell? ⟨w1.heap.size, 0, none⟩ = some (.slice K0 (staF L f).f0.length C0) ∧ w'.cell? ⟨w1.heap.size, 1, none⟩ = some (.slice K1 (staF L f).f1.length C1) ∧ w'.cell? ⟨w1.heap.size, 2, none⟩ = some (.slice (some ⟨g, 0, none⟩) (staF L f).f2.length C2) ∧ w'.cell? ⟨w1.heap.size, 3, none⟩ = some (.slice K3 (staF L f).f3.length C3) ∧ w'.cell? ⟨w1.heap.size, 4, none⟩ = some (.slice K4 (staF L f).f4.length C4)) (first | (with_reducible exact Fin.out) | (go_split_ands; refine AllS.out _ ?_; go_grown; done) | (refine AllS.out _ ?_; go_grown; done)) (first | (go_at_call 168; go_split_ands; refine (snew_any ⟨3, na, nb, nc, d⟩ m _ hm4 nc rfl hnc v (Lib.hid (by rw [if_neg (show ¬ (3 : Int) = 4 by decide)]; exact HV.out))).mono ?_; rintro e v0 ⟨rfl, hv⟩; have hB0 : Below U.heap.size U v0 := below_on (by go_grown) hv; clear hv; have hz0 := hB0.size; have O0 := OU.out.below hB0 (by omega); obtain ⟨g', hgB, -, -, hg3, hgc', hgf, hput⟩ := sta_put2 h32 O0 (i := nb) hnb v (v : Int) (by simp [fL]); injection hgB with hgB; injection hgB with hgB; subst hgB; have Put := Lib.hid hput; have KS1 := KSU.out.below hB0 KSU.out.lt; have KX1 := KX.out.below hB0 KX.out.lt; have Bv0 := Lib.hid hB0; have fin : (v0.setCell ⟨g, nb, none⟩ (.int .i64 (v : Int))).cell? ⟨V.heap.size, 0, none⟩ = some (.int .i64 3) ∧ (v0.setCell ⟨g, nb, none⟩ (.int .i64 (v : Int))).cell? ⟨V.heap.size, 1, none⟩ = some (.int .i64 na) ∧ (v0.setCell ⟨g, nb, none⟩ (.int .i64 (v : Int))).cell? ⟨V.heap.size, 2, none⟩ = some (.int .i64 nb) ∧ (v0.setCell ⟨g, nb, none⟩ (.int .i64 (v : Int))).cell? ⟨V.heap.size, 3, none⟩ = some (.int .i64 nc) ∧ (v0.setCell ⟨g, nb, none⟩ (.int .i64 (v : Int))).cell? ⟨V.heap.size, 4, none⟩ = some (.bool d) ∧ (v0.setCell ⟨g, nb, none⟩ (.int .i64 (v : Int))).cell? ⟨w1.heap.size, 0, none⟩ = some (.slice K0 (staF L f).f0.length C0) ∧ (v0.setCell ⟨g, nb, none⟩ (.int .i64 (v : Int))).cell? ⟨w1.heap.size, 1, none⟩ = some (.slice K1 (staF L f).f1.length C1) ∧ (v0.setCell ⟨g, nb, none⟩ (.int .i64 (v : Int))).cell? ⟨w1.heap.size, 2, none⟩ = some (.slice (some ⟨g, 0, none⟩) (staF L f).f2.length C2) ∧ (v0.setCell ⟨g, nb, none⟩ (.int .i64 (v : Int))).cell? ⟨w1.heap.size, 3, none⟩ = some (.slice K3 (staF L f).f3.length C3) ∧ (v0.setCell ⟨g, nb, none⟩ (.int .i64 (v : Int))).cell? ⟨w1.heap.size, 4, none⟩ = some (.slice K4 (staF L f).f4.length C4) := ⟨(KX1.far (p := ⟨g, nb, none⟩) (show V.heap.size ≠ g by omega) _).cell 0, (KX1.far (p := ⟨g, nb, none⟩) (show V.heap.size ≠ g by omega) _).cell 1, (KX1.far (p := ⟨g, nb, none⟩) (show V.heap.size ≠ g by omega) _).cell 2, (KX1.far (p := ⟨g, nb, none⟩) (show V.heap.size ≠ g by omega) _).cell 3, (KX1.far (p := ⟨g, nb, none⟩) (show V.heap.size ≠ g by omega) _).cell 4, (KS1.far (p := ⟨g, nb, none⟩) (show w1.heap.size ≠ g by omega) _).cell 0, (KS1.far (p := ⟨g, nb, none⟩) (show w1.heap.size ≠ g by omega) _).cell 1, (KS1.far (p := ⟨g, nb, none⟩) (show w1.heap.size ≠ g by omega) _).cell 2, (KS1.far (p := ⟨g, nb, none⟩) (show w1.heap.size ≠ g by omega) _).cell 3, (KS1.far (p := ⟨g, nb, none⟩) (show w1.heap.size ≠ g by omega) _).cell 4⟩; have Fin := Lib.hid fin; clear fin hput O0 KS1 KX1))
  clear AllS Fin hg3 hgc hgc' hgf
  try clear hHeld
  have on0 : Only W.heap.size w1.heap.size U (v0.setCell ⟨g, nb, none⟩ (.int .i64 (v : Int))) := (Only.of_below Bv0.out).setCell (p := ⟨g, nb, none⟩) hg0 hg1 _
  have hX0 := Put.out
  obtain ⟨X, hX⟩ : ∃ X, X = v0.setCell ⟨g, nb, none⟩ (.int .i64 (v : Int)) := ⟨_, rfl⟩
  rw [← hX] at on0 hX0
  rw [← hX]
  have zv0 := on0.size
  have KSY := Lib.hid (only_bk KSU.out on0 (Or.inr (by omega)))
  have KXY := Lib.hid (only_bk KX.out on0 (Or.inr (by omega)))
  have KPY := Lib.hid (only_bk KPU.out on0 (Or.inl (by omega)))
  have KRY := Lib.hid (only_bk KRU.out on0 (Or.inl (by omega)))
  have PY := Lib.hid (PU.out.below (on0.to_below (B := w.heap.size) (by omega) (by omega)) (by omega))
  have BY := Lib.hid (BU.out.trans (on0.to_below (B := w.heap.size) (by omega) (by omega)))
  have OY := Lib.hid hX0
  clear hX0 hX Put Bv0
  have yp : X.cell? ⟨w.heap.size, 0, none⟩ = some (.slice h.A L.length h.c) := (KPY.out).cell 0
  have ys0 : X.cell? ⟨w1.heap.size, 0, none⟩ = some (.slice K0 (staF L f).f0.length C0) := (KSY.out).cell 0
  have ys1 : X.cell? ⟨w1.heap.size, 1, none⟩ = some (.slice K1 (staF L f).f1.length C1) := (KSY.out).cell 1
  have ys2 : X.cell? ⟨w1.heap.size, 2, none⟩ = some (.slice (some ⟨g, 0, none⟩) (staF L f).f2.length C2) := (KSY.out).cell 2
  have ys3 : X.cell? ⟨w1.heap.size, 3, none⟩ = some (.slice K3 (staF L f).f3.length C3) := (KSY.out).cell 3
  have ys4 : X.cell? ⟨w1.heap.size, 4, none⟩ = some (.slice K4 (staF L f).f4.length C4) := (KSY.out).cell 4
  have yx0 : X.cell? ⟨V.heap.size, 0, none⟩ = some (.int .i64 3) := (KXY.out).cell 0
  have yx1 : X.cell? ⟨V.heap.size, 1, none⟩ = some (.int .i64 na) := (KXY.out).cell 1
  have yx2 : X.cell? ⟨V.heap.size, 2, none⟩ = some (.int .i64 nb) := (KXY.out).cell 2
  have yx3 : X.cell? ⟨V.heap.size, 3, none⟩ = some (.int .i64 nc) := (KXY.out).cell 3
  have yx4 : X.cell? ⟨V.heap.size, 4, none⟩ = some (.bool d) := (KXY.out).cell 4
  go_wp2_with fail
  clear yp ys0 yx0 ys1 yx1 ys2 yx2 ys3 yx3 ys4 yx4
  refine (sset_at f ⟨K0, K1, (some ⟨g, 0, none⟩), K3, K4, C0, C1, C2, C3, C4⟩ L (upd f (15 + nb) v) t na m X X W.heap.size w1.heap.size (Only.refl _ _ _) OY.out (by omega) h32 ht hna hm4).mono ?_
  rintro e Y ⟨rfl, on1, -, ov⟩
  have zy := on1.size
  have KSW := Lib.hid (only_bk KSY.out on1 (Or.inr (by omega)))
  have KXW := Lib.hid (only_bk KXY.out on1 (Or.inr (by omega)))
  have KPW := Lib.hid (only_bk KPY.out on1 (Or.inl (by omega)))
  have KRW := Lib.hid (only_bk KRY.out on1 (Or.inl (by omega)))
  have PW := Lib.hid (PY.out.below (on1.to_below (B := w.heap.size) (by omega) (by omega)) (by omega))
  have BYY := Lib.hid (BY.out.trans (on1.to_below (B := w.heap.size) (by omega) (by omega)))
  have OYY := Lib.hid ov
  clear on1 ov on0
  have op : Y.cell? ⟨w.heap.size, 0, none⟩ = some (.slice h.A L.length h.c) := (KPW.out).cell 0
  have os0 : Y.cell? ⟨w1.heap.size, 0, none⟩ = some (.slice K0 (staF L f).f0.length C0) := (KSW.out).cell 0
  have os1 : Y.cell? ⟨w1.heap.size, 1, none⟩ = some (.slice K1 (staF L f).f1.length C1) := (KSW.out).cell 1
  have os2 : Y.cell? ⟨w1.heap.size, 2, none⟩ = some (.slice (some ⟨g, 0, none⟩) (staF L f).f2.length C2) := (KSW.out).cell 2
  have os3 : Y.cell? ⟨w1.heap.size, 3, none⟩ = some (.slice K3 (staF L f).f3.length C3) := (KSW.out).cell 3
  have os4 : Y.cell? ⟨w1.heap.size, 4, none⟩ = some (.slice K4 (staF L f).f4.length C4) := (KSW.out).cell 4
  have ox0 : Y.cell? ⟨V.heap.size, 0, none⟩ = some (.int .i64 3) := (KXW.out).cell 0
  have ox1 : Y.cell? ⟨V.heap.size, 1, none⟩ = some (.int .i64 na) := (KXW.out).cell 1
  have ox2 : Y.cell? ⟨V.heap.size, 2, none⟩ = some (.int .i64 nb) := (KXW.out).cell 2
  have ox3 : Y.cell? ⟨V.heap.size, 3, none⟩ = some (.int .i64 nc) := (KXW.out).cell 3
  have ox4 : Y.cell? ⟨V.heap.size, 4, none⟩ = some (.bool d) := (KXW.out).cell 4
  go_wp2_with fail
  clear op os0 ox0 os1 ox1 os2 ox2 os3 ox3 os4 ox4
  refine (sown_at f h ⟨K0, K1, (some ⟨g, 0, none⟩), K3, K4, C0, C1, C2, C3, C4⟩ L (upd (upd f (15 + nb) v) (6 + (t * 3 + na)) m) t ⟨3, na, nb, nc, d⟩ Y B W.heap.size w1.heap.size PW.out (by omega) (by omega) OYY.out (by omega) h32 ht hok1 (by rw [HLO.out]; exact HAT.out) hl6 hx (fun e => absurd (show (3 : Int) = 9 from e) (by decide))).mono ?_
  rintro e wz ⟨rfl, onz, oz⟩
  have zz := onz.size
  have KSZ := Lib.hid (only_bk KSW.out onz (Or.inr (by omega)))
  have KRZ := Lib.hid (only_bk KRW.out onz (Or.inl (by omega)))
  have BZ := Lib.hid (BYY.out.trans (onz.to_below (B := w.heap.size) (by omega) (by omega)))
  have OZ := Lib.hid oz
  clear onz oz
  have z0 : wz.cell? ⟨w1.heap.size, 0, none⟩ = some (.slice K0 (staF L f).f0.length C0) := KSZ.out.cell 0
  have z1 : wz.cell? ⟨w1.heap.size, 1, none⟩ = some (.slice K1 (staF L f).f1.length C1) := KSZ.out.cell 1
  have z2 : wz.cell? ⟨w1.heap.size, 2, none⟩ = some (.slice (some ⟨g, 0, none⟩) (staF L f).f2.length C2) := KSZ.out.cell 2
  have z3 : wz.cell? ⟨w1.heap.size, 3, none⟩ = some (.slice K3 (staF L f).f3.length C3) := KSZ.out.cell 3
  have z4 : wz.cell? ⟨w1.heap.size, 4, none⟩ = some (.slice K4 (staF L f).f4.length C4) := KSZ.out.cell 4
  have cr0 : wz.cell? ⟨w.heap.size + 1 + 1, 0, none⟩ = some (.slice none 0 0) := KRZ.out.cell 0
  have fr0 : wz.frozen? ⟨w.heap.size + 1 + 1, 0, none⟩ = false := KRZ.out.free 0
  have cr1 : wz.cell? ⟨w.heap.size + 1 + 1, 1, none⟩ = some (.slice none 0 0) := KRZ.out.cell 1
  have fr1 : wz.frozen? ⟨w.heap.size + 1 + 1, 1, none⟩ = false := KRZ.out.free 1
  have cr2 : wz.cell? ⟨w.heap.size + 1 + 1, 2, none⟩ = some (.slice none 0 0) := KRZ.out.cell 2
  have fr2 : wz.frozen? ⟨w.heap.size + 1 + 1, 2, none⟩ = false := KRZ.out.free 2
  have cr3 : wz.cell? ⟨w.heap.size + 1 + 1, 3, none⟩ = some (.slice none 0 0) := KRZ.out.cell 3
  have fr3 : wz.frozen? ⟨w.heap.size + 1 + 1, 3, none⟩ = false := KRZ.out.free 3
  have cr4 : wz.cell? ⟨w.heap.size + 1 + 1, 4, none⟩ = some (.slice none 0 0) := KRZ.out.cell 4
  have fr4 : wz.frozen? ⟨w.heap.size + 1 + 1, 4, none⟩ = false := KRZ.out.free 4
  go_wp2
  clear z0 cr0 fr0 z1 cr1 fr1 z2 cr2 fr2 z3 cr3 fr3 z4 cr4 fr4
  have kF : Bk (((((wz.setCell ⟨w.heap.size + 1 + 1, 0, none⟩ (.slice K0 (staF L f).f0.length C0)).setCell ⟨w.heap.size + 1 + 1, 1, none⟩ (.slice K1 (staF L f).f1.length C1)).setCell ⟨w.heap.size + 1 + 1, 2, none⟩ (.slice (some ⟨g, 0, none⟩) (staF L f).f2.length C2)).setCell ⟨w.heap.size + 1 + 1, 3, none⟩ (.slice K3 (staF L f).f3.length C3)).setCell ⟨w.heap.size + 1 + 1, 4, none⟩ (.slice K4 (staF L f).f4.length C4)) (w.heap.size + 1 + 1) 41 #[.slice K0 (staF L f).f0.length C0, .slice K1 (staF L f).f1.length C1, .slice (some ⟨g, 0, none⟩) (staF L f).f2.length C2, .slice K3 (staF L f).f3.length C3, .slice K4 (staF L f).f4.length C4] := by
    have a0 := KRZ.out
    have a1 := a0.set 0 (.slice K0 (staF L f).f0.length C0)
    have a2 := a1.set 1 (.slice K1 (staF L f).f1.length C1)
    have a3 := a2.set 2 (.slice (some ⟨g, 0, none⟩) (staF L f).f2.length C2)
    have a4 := a3.set 3 (.slice K3 (staF L f).f3.length C3)
    have a5 := a4.set 4 (.slice K4 (staF L f).f4.length C4)
    simpa using a5
  have bF : Below w.heap.size w (((((wz.setCell ⟨w.heap.size + 1 + 1, 0, none⟩ (.slice K0 (staF L f).f0.length C0)).setCell ⟨w.heap.size + 1 + 1, 1, none⟩ (.slice K1 (staF L f).f1.length C1)).setCell ⟨w.heap.size + 1 + 1, 2, none⟩ (.slice (some ⟨g, 0, none⟩) (staF L f).f2.length C2)).setCell ⟨w.heap.size + 1 + 1, 3, none⟩ (.slice K3 (staF L f).f3.length C3)).setCell ⟨w.heap.size + 1 + 1, 4, none⟩ (.slice K4 (staF L f).f4.length C4)) := (((((BZ.out.setCell (p := ⟨w.heap.size + 1 + 1, 0, none⟩) (show w.heap.size ≤ w.heap.size + 1 + 1 by omega) _).setCell (p := ⟨w.heap.size + 1 + 1, 1, none⟩) (show w.heap.size ≤ w.heap.size + 1 + 1 by omega) _).setCell (p := ⟨w.heap.size + 1 + 1, 2, none⟩) (show w.heap.size ≤ w.heap.size + 1 + 1 by omega) _).setCell (p := ⟨w.heap.size + 1 + 1, 3, none⟩) (show w.heap.size ≤ w.heap.size + 1 + 1 by omega) _).setCell (p := ⟨w.heap.size + 1 + 1, 4, none⟩) (show w.heap.size ≤ w.heap.size + 1 + 1 by omega) _)
  have nF : ∀ q, w.heap.size + 1 + 1 < q → (((((wz.setCell ⟨w.heap.size + 1 + 1, 0, none⟩ (.slice K0 (staF L f).f0.length C0)).setCell ⟨w.heap.size + 1 + 1, 1, none⟩ (.slice K1 (staF L f).f1.length C1)).setCell ⟨w.heap.size + 1 + 1, 2, none⟩ (.slice (some ⟨g, 0, none⟩) (staF L f).f2.length C2)).setCell ⟨w.heap.size + 1 + 1, 3, none⟩ (.slice K3 (staF L f).f3.length C3)).setCell ⟨w.heap.size + 1 + 1, 4, none⟩ (.slice K4 (staF L f).f4.length C4)).heap[q]? = wz.heap[q]? := fun q hq => (Below.heap_setCell _ _ _ q (by show q ≠ w.heap.size + 1 + 1; omega)).trans ((Below.heap_setCell _ _ _ q (by show q ≠ w.heap.size + 1 + 1; omega)).trans ((Below.heap_setCell _ _ _ q (by show q ≠ w.heap.size + 1 + 1; omega)).trans ((Below.heap_setCell _ _ _ q (by show q ≠ w.heap.size + 1 + 1; omega)).trans (Below.heap_setCell _ _ _ q (by show q ≠ w.heap.size + 1 + 1; omega)))))
  have zF : wz.heap.size ≤ (((((wz.setCell ⟨w.heap.size + 1 + 1, 0, none⟩ (.slice K0 (staF L f).f0.length C0)).setCell ⟨w.heap.size + 1 + 1, 1, none⟩ (.slice K1 (staF L f).f1.length C1)).setCell ⟨w.heap.size + 1 + 1, 2, none⟩ (.slice (some ⟨g, 0, none⟩) (staF L f).f2.length C2)).setCell ⟨w.heap.size + 1 + 1, 3, none⟩ (.slice K3 (staF L f).f3.length C3)).setCell ⟨w.heap.size + 1 + 1, 4, none⟩ (.slice K4 (staF L f).f4.length C4)).heap.size := by simp
  have HF := Lib.hid kF
  have BF := Lib.hid bF
  have NF := Lib.hid nF
  obtain ⟨F, hF⟩ : ∃ F, F = (((((wz.setCell ⟨w.heap.size + 1 + 1, 0, none⟩ (.slice K0 (staF L f).f0.length C0)).setCell ⟨w.heap.size + 1 + 1, 1, none⟩ (.slice K1 (staF L f).f1.length C1)).setCell ⟨w.heap.size + 1 + 1, 2, none⟩ (.slice (some ⟨g, 0, none⟩) (staF L f).f2.length C2)).setCell ⟨w.heap.size + 1 + 1, 3, none⟩ (.slice K3 (staF L f).f3.length C3)).setCell ⟨w.heap.size + 1 + 1, 4, none⟩ (.slice K4 (staF L f).f4.length C4)) := ⟨_, rfl⟩
  rw [← hF] at HF BF NF zF
  rw [← hF]
  clear kF bF nF hF
  have c0 := HF.out.cell 0
  have c1 := HF.out.cell 1
  have c2 := HF.out.cell 2
  have c3 := HF.out.cell 3
  have c4 := HF.out.cell 4
  simp only [List.getElem?_toArray, List.getElem?_cons_zero, List.getElem?_cons_succ] at c0 c1 c2 c3 c4
  refine bodyPost_ret (v := .agg #[.slice K0 (staF L f).f0.length C0, .slice K1 (staF L f).f1.length C1, .slice (some ⟨g, 0, none⟩) (staF L f).f2.length C2, .slice K3 (staF L f).f3.length C3, .slice K4 (staF L f).f4.length C4]) (by simp [results, Try.results116, c0, c1, c2, c3, c4, go_sem]) rfl ?_
  refine ⟨⟨K0, K1, (some ⟨g, 0, none⟩), K3, K4, C0, C1, C2, C3, C4⟩, ?_, BF.out, by omega, ?_⟩
  · rw [← staV_eq _ L f]
  · rw [HD.out]
    exact OZ.out.keep (by omega) (by omega) fun q0 h1 h2 => NF.out q0 (by omega)
end Go.Proofs.Ytiljakbjbiinkaa
namespace Go.Proofs.Ytiljakbjbiinkaa
open Go.RowKit Pl
set_option maxHeartbeats 4000000
set_option maxRecDepth 100000
set_option linter.unusedVariables false

theorem sdo_4 (h : PgH) (k : StaH) (L : Pg) (f : Nat → Nat) (t : Nat) (a b c : Int) (d : Bool) (w : World) (B : Nat) (hP : PgR w B h L) (hS : StaR w B k (staF L f)) (hB : B ≤ w.heap.size) (h32 : L.length ≤ 3) (ht : t < L.length) (hok : okF WS f) (xs : List Sm) (hxs : L[t]? = some xs) (hat : f (3 + t) < xs.length) (hxx : xs[f (3 + t)]? = some ⟨4, a, b, c, d⟩) (hx : okB 4 a b c d = true) (hl6 : (L.getD t []).length ≤ 6) (h1 : (4 : Int) = 9 → ∀ n : Nat, b = (n : Int) → 1 ≤ f (20 + n) ∧ f (20 + n) ≤ 4) :
    Calls Try.prog 116 #[PgV h L, StaV k (staF L f), .int .i64 t] w (l2DoP w L (doF L f t ⟨4, a, b, c, d⟩)) := by
  have hat' : f (3 + t) < (L.getD t []).length := by rw [getD_some hxs]; exact hat
  have ht3 : t < 3 := by omega
  obtain ⟨W, hW⟩ : ∃ W, W = (((w.alloc (.cells #[.slice h.A L.length h.c] 30)).alloc (.cells #[.slice k.A0 (staF L f).f0.length k.c0, .slice k.A1 (staF L f).f1.length k.c1, .slice k.A2 (staF L f).f2.length k.c2, .slice k.A3 (staF L f).f3.length k.c3, .slice k.A4 (staF L f).f4.length k.c4] 41)).alloc (.cells #[.slice none 0 0, .slice none 0 0, .slice none 0 0, .slice none 0 0, .slice none 0 0] 41)) := ⟨_, rfl⟩
  have bW : Below w.heap.size w W := by rw [hW]; go_grown
  have sW : W.heap.size = w.heap.size + 1 + 1 + 1 := by rw [hW]; simp
  have k0 : Bk W w.heap.size 30 #[.slice h.A L.length h.c] := by rw [hW]; exact ((Bk.new w _ _).alloc _).alloc _
  have k1 : Bk W (w.heap.size + 1) 41 #[.slice k.A0 (staF L f).f0.length k.c0, .slice k.A1 (staF L f).f1.length k.c1, .slice k.A2 (staF L f).f2.length k.c2, .slice k.A3 (staF L f).f3.length k.c3, .slice k.A4 (staF L f).f4.length k.c4] := by
    rw [hW]; have := (Bk.new (w.alloc (.cells #[.slice h.A L.length h.c] 30)) #[.slice k.A0 (staF L f).f0.length k.c0, .slice k.A1 (staF L f).f1.length k.c1, .slice k.A2 (staF L f).f2.length k.c2, .slice k.A3 (staF L f).f3.length k.c3, .slice k.A4 (staF L f).f4.length k.c4] 41).alloc (.cells #[.slice none 0 0, .slice none 0 0, .slice none 0 0, .slice none 0 0, .slice none 0 0] 41)
    rwa [World.size_alloc] at this
  have k2 : Bk W (w.heap.size + 1 + 1) 41 #[.slice none 0 0, .slice none 0 0, .slice none 0 0, .slice none 0 0, .slice none 0 0] := by
    rw [hW]; have := Bk.new ((w.alloc (.cells #[.slice h.A L.length h.c] 30)).alloc (.cells #[.slice k.A0 (staF L f).f0.length k.c0, .slice k.A1 (staF L f).f1.length k.c1, .slice k.A2 (staF L f).f2.length k.c2, .slice k.A3 (staF L f).f3.length k.c3, .slice k.A4 (staF L f).f4.length k.c4] 41)) #[.slice none 0 0, .slice none 0 0, .slice none 0 0, .slice none 0 0, .slice none 0 0] 41
    rwa [World.size_alloc, World.size_alloc] at this
  have KP := Lib.hid k0
  have KR := Lib.hid k2
  have BW := Lib.hid bW
  have P0 := Lib.hid (hP.below bW hB)
  have S0 := Lib.hid (hS.below bW hB)
  have sWa := Nat.le_of_eq sW
  have sWb := Nat.le_of_eq sW.symm
  have HW := Lib.hid hW
  have bf0 : W.cell? ⟨w.heap.size + 1, 0, none⟩ = some (.slice k.A0 (staF L f).f0.length k.c0) := k1.cell 0
  have bf1 : W.cell? ⟨w.heap.size + 1, 1, none⟩ = some (.slice k.A1 (staF L f).f1.length k.c1) := k1.cell 1
  have bf2 : W.cell? ⟨w.heap.size + 1, 2, none⟩ = some (.slice k.A2 (staF L f).f2.length k.c2) := k1.cell 2
  have bf3 : W.cell? ⟨w.heap.size + 1, 3, none⟩ = some (.slice k.A3 (staF L f).f3.length k.c3) := k1.cell 3
  have bf4 : W.cell? ⟨w.heap.size + 1, 4, none⟩ = some (.slice k.A4 (staF L f).f4.length k.c4) := k1.cell 4
  clear hW bW sW k0 k1 k2 hP hS
  have LN := Lib.hid (sta_len L f)
  go_enter Try.func116, Try.ntmps116
  go_wp2_with fail
  rw [← HW.out]
  refine (scopy_any k (staF L f) W W.heap.size (S0.out.up (Below.refl W.heap.size W) (by omega) (by omega)) (Nat.le_refl _) (by obtain ⟨a0, a1, a2, a3, a4⟩ := LN.out; exact ⟨by omega, by omega, by omega, by omega, by omega⟩)).mono ?_
  rintro e w1 ⟨⟨K0, K1, K2, K3, K4, C0, C1, C2, C3, C4⟩, rfl, hb1, hz1, ho1⟩
  clear bf0 bf1 bf2 bf3 bf4
  have KP1 := Lib.hid (KP.out.below hb1 KP.out.lt)
  have KR1 := Lib.hid (KR.out.below hb1 KR.out.lt)
  have B1 := Lib.hid (below_on BW.out hb1)
  have P1 := Lib.hid (P0.out.below hb1 (by omega))
  have O1 := Lib.hid ho1
  clear hb1 ho1
  go_wp2_with fail
  obtain ⟨V, hV⟩ : ∃ V, V = w1.alloc (.cells #[.slice K0 (staF L f).f0.length C0, .slice K1 (staF L f).f1.length C1, .slice K2 (staF L f).f2.length C2, .slice K3 (staF L f).f3.length C3, .slice K4 (staF L f).f4.length C4] 41) := ⟨_, rfl⟩
  rw [← hV]
  have bV : Below w1.heap.size w1 V := by rw [hV]; go_grown
  have zV : V.heap.size = w1.heap.size + 1 := by rw [hV]; simp
  have zVa := Nat.le_of_eq zV
  have zVb := Nat.le_of_eq zV.symm
  have KS := Lib.hid (show Bk V w1.heap.size 41 #[.slice K0 (staF L f).f0.length C0, .slice K1 (staF L f).f1.length C1, .slice K2 (staF L f).f2.length C2, .slice K3 (staF L f).f3.length C3, .slice K4 (staF L f).f4.length C4] from by rw [hV]; exact Bk.new _ _ _)
  have KPV := Lib.hid (KP1.out.below bV KP1.out.lt)
  have KRV := Lib.hid (KR1.out.below bV KR1.out.lt)
  have BV := Lib.hid (below_on B1.out bV)
  have PV := Lib.hid (P1.out.below bV (by omega))
  have OV := Lib.hid (O1.out.below bV (Nat.le_refl _))
  clear hV bV zV KP1 KR1 B1 P1 O1 KP KR BW P0 S0
  obtain ⟨b1, off1, xs', Ai, ci, hA, hb1, hx', hc1, -, hmi, hrow⟩ := pg_at PV.out ht
  obtain rfl : xs = xs' := by rw [hxs] at hx'; injection hx'
  have lt0 : t < (staF L f).f0.length := by rw [LN.out.1]; exact ht
  obtain ⟨b2, off2, i, hA2, hb2, hi2, -, hc2⟩ := OV.out.rd.r0.int_ (k := t) lt0
  obtain rfl : i = ((f (3 + t) : Nat) : Int) := by
    have : (staF L f).f0[t]? = some ((f (3 + t) : Int) + 0) := fldI_at (l := 0) ht
    rw [hi2] at this; injection this with this
  obtain ⟨b3, off3, x', hA3, hb3, hx3, -, c0, c1, c2, c3, c4⟩ := hrow.at_ hat
  obtain rfl : (⟨4, a, b, c, d⟩ : Sm) = x' := by rw [hxx] at hx3; injection hx3
  simp only at c0 c1 c2 c3 c4
  subst hA3
  obtain ⟨i, hi0⟩ : ∃ i, f (3 + t) = i := ⟨_, rfl⟩
  rw [hi0] at hc2 c0 c1 c2 c3 c4 hat
  have e0 := KPV.out.cell 0
  have e1 := KS.out.cell 0
  simp only [List.getElem?_toArray, List.getElem?_cons_zero] at e0 e1
  rw [hA] at e0
  simp only at hA2
  rw [hA2] at e1
  have hti : (t : Int) < (L.length : Int) := by omega
  have hti2 : (t : Int) < ((staF L f).f0.length : Int) := by omega
  have him : (i : Int) < (xs.length : Int) := by omega
  have l0 := KPV.out.lt
  have l1 := KS.out.lt
  unfold maxLen at hmi
  have hb1v : b1 < V.heap.size := by omega
  have hb2v : b2 < V.heap.size := by omega
  have hb3v : b3 < V.heap.size := by omega
  have g_e0 : V.cell? ⟨w.heap.size, 0, none⟩ = some (.slice (some ⟨b1, off1, none⟩) L.length h.c) := e0
  have g_e1 : V.cell? ⟨w1.heap.size, 0, none⟩ = some (.slice (some ⟨b2, off2, none⟩) (staF L f).f0.length C0) := e1
  have g_hc1 : V.cell? ⟨b1, off1 + t, none⟩ = some (.slice (some ⟨b3, off3, none⟩) xs.length ci) := hc1
  have g_hc2 : V.cell? ⟨b2, off2 + t, none⟩ = some (.int .i64 (i : Int)) := hc2
  have g_c0 : V.cell? ⟨b3, off3 + i * 5, none⟩ = some (.int .i64 4) := c0
  have g_c1 : V.cell? ⟨b3, off3 + i * 5 + 1, none⟩ = some (.int .i64 a) := c1
  have g_c2 : V.cell? ⟨b3, off3 + i * 5 + 2, none⟩ = some (.int .i64 b) := c2
  have g_c3 : V.cell? ⟨b3, off3 + i * 5 + 3, none⟩ = some (.int .i64 c) := c3
  have g_c4 : V.cell? ⟨b3, off3 + i * 5 + 4, none⟩ = some (.bool d) := c4
  have allS : ∀ w', Below V.heap.size V w' → (Below V.heap.size V w' ∧ w'.cell? ⟨w.heap.size, 0, none⟩ = some (.slice (some ⟨b1, off1, none⟩) L.length h.c) ∧ w'.cell? ⟨w1.heap.size, 0, none⟩ = some (.slice (some ⟨b2, off2, none⟩) (staF L f).f0.length C0) ∧ w'.cell? ⟨b1, off1 + t, none⟩ = some (.slice (some ⟨b3, off3, none⟩) xs.length ci) ∧ w'.cell? ⟨b2, off2 + t, none⟩ = some (.int .i64 (i : Int)) ∧ w'.cell? ⟨b3, off3 + i * 5, none⟩ = some (.int .i64 4) ∧ w'.cell? ⟨b3, off3 + i * 5 + 1, none⟩ = some (.int .i64 a) ∧ w'.cell? ⟨b3, off3 + i * 5 + 2, none⟩ = some (.int .i64 b) ∧ w'.cell? ⟨b3, off3 + i * 5 + 3, none⟩ = some (.int .i64 c) ∧ w'.cell? ⟨b3, off3 + i * 5 + 4, none⟩ = some (.bool d)) := fun w' hb => ⟨hb, (hb.cell (p := ⟨w.heap.size, 0, none⟩) (by show w.heap.size < V.heap.size; exact l0)).trans g_e0, (hb.cell (p := ⟨w1.heap.size, 0, none⟩) (by show w1.heap.size < V.heap.size; exact l1)).trans g_e1, (hb.cell (p := ⟨b1, off1 + t, none⟩) (by show b1 < V.heap.size; exact hb1v)).trans g_hc1, (hb.cell (p := ⟨b2, off2 + t, none⟩) (by show b2 < V.heap.size; exact hb2v)).trans g_hc2, (hb.cell (p := ⟨b3, off3 + i * 5, none⟩) (by show b3 < V.heap.size; exact hb3v)).trans g_c0, (hb.cell (p := ⟨b3, off3 + i * 5 + 1, none⟩) (by show b3 < V.heap.size; exact hb3v)).trans g_c1, (hb.cell (p := ⟨b3, off3 + i * 5 + 2, none⟩) (by show b3 < V.heap.size; exact hb3v)).trans g_c2, (hb.cell (p := ⟨b3, off3 + i * 5 + 3, none⟩) (by show b3 < V.heap.size; exact hb3v)).trans g_c3, (hb.cell (p := ⟨b3, off3 + i * 5 + 4, none⟩) (by show b3 < V.heap.size; exact hb3v)).trans g_c4⟩
  have AllS := Lib.hid allS
  have HA := Lib.hid hA
  have HA2 := Lib.hid hA2
  clear allS hA hA2 hx' hrow hi2 hx3 e0 e1 hc1 hc2 c0 c1 c2 c3 c4 g_e0 g_e1 g_hc1 g_hc2 g_c0 g_c1 g_c2 g_c3 g_c4
  go_region_held3 (fun w' => Below V.heap.size V w' ∧ w'.cell? ⟨w.heap.size, 0, none⟩ = some (.slice (some ⟨b1, off1, none⟩) L.length h.c) ∧ w'.cell? ⟨w1.heap.size, 0, none⟩ = some (.slice (some ⟨b2, off2, none⟩) (staF L f).f0.length C0) ∧ w'.cell? ⟨b1, off1 + t, none⟩ = some (.slice (some ⟨b3, off3, none⟩) xs.length ci) ∧ w'.cell? ⟨b2, off2 + t, none⟩ = some (.int .i64 (i : Int)) ∧ w'.cell? ⟨b3, off3 + i * 5, none⟩ = some (.int .i64 4) ∧ w'.cell? ⟨b3, off3 + i * 5 + 1, none⟩ = some (.int .i64 a) ∧ w'.cell? ⟨b3, off3 + i * 5 + 2, none⟩ = some (.int .i64 b) ∧ w'.cell? ⟨b3, off3 + i * 5 + 3, none⟩ = some (.int .i64 c) ∧ w'.cell? ⟨b3, off3 + i * 5 + 4, none⟩ = some (.bool d)) (first | (go_split_ands; exact AllS.out _ (by go_grown)) | (exact AllS.out _ (by go_grown))) (fail)
  obtain ⟨U, hU⟩ : ∃ U, U = (V.alloc (.cells #[.int .i64 4, .int .i64 a, .int .i64 b, .int .i64 c, .bool d] 132)).drew := ⟨_, rfl⟩
  rw [← hU]
  have bU : Below V.heap.size V U := by rw [hU]; exact ((Below.refl _ _).alloc (Nat.le_refl _) _).drew
  have zU : U.heap.size = V.heap.size + 1 := by rw [hU]; show (World.alloc _ _).heap.size = _; simp
  have zUa := Nat.le_of_eq zU
  have zUb := Nat.le_of_eq zU.symm
  have KX := Lib.hid (show Bk U V.heap.size 132 #[.int .i64 4, .int .i64 a, .int .i64 b, .int .i64 c, .bool d] from by rw [hU]; exact Bk.new V _ _)
  have KPU := Lib.hid (KPV.out.below bU KPV.out.lt)
  have KSU := Lib.hid (KS.out.below bU KS.out.lt)
  have KRU := Lib.hid (KRV.out.below bU KRV.out.lt)
  have BU := Lib.hid (below_on BV.out bU)
  have PU := Lib.hid (PV.out.below bU (by omega))
  have OU := Lib.hid (OV.out.below bU (by omega))
  clear AllS hU bU zU KPV KS KRV BV PV OV
  try clear hHeld
  have HAT := Lib.hid hat'
  have H1 := Lib.hid h1
  clear hat' h1
  obtain ⟨na, hna, rfl⟩ := ok_a3 hx (by omega)
  obtain ⟨nb, hnb, rfl⟩ := ok_b3 hx (by omega)
  obtain ⟨nc, hnc, rfl⟩ := ok_c4 hx (by omega)
  obtain ⟨g, hgA, hg0, hg1, hg2, hgc, hgf, hput⟩ := sta_put2 h32 OU.out (i := nb) hnb (0) (((0 : Nat) : Int)) (by simp [fL])
  simp only at hgA
  subst hgA
  have fl2 : fL 2 = 0 := rfl
  rw [fl2, Int.add_zero] at hgc
  have hl2 : ((nb : Nat) : Int) < ((staF L f).f2.length : Int) := by rw [LN.out.2.2.1]; omega
  clear hput hgf
  obtain ⟨m, hm⟩ : ∃ m, f (15 + nb) = m := ⟨_, rfl⟩
  have hm4 : m < 4 := by rw [← hm]; exact mem_lt hok hnb
  rw [hm] at hgc
  obtain ⟨v, hv⟩ : ∃ v, (m + nc) % 4 = v := ⟨_, rfl⟩
  have hv4 : v < 4 := by rw [← hv]; omega
  have hokm : okF WS (upd f (15 + nb) v) := okF_upd fld2 hok (i := nb) (show nb < 3 by omega) (show v < 4 by omega)
  have hok1 : okF WS (upd (upd f (15 + nb) v) (6 + (t * 3 + na)) m) := okF_upd fld1 hokm (i := t * 3 + na) (show t * 3 + na < 9 by omega) (show m < 4 by omega)
  have hlo : (upd (upd f (15 + nb) v) (6 + (t * 3 + na)) m) (3 + t) = f (3 + t) := (aff_lo (by omega) ht3).trans (aff_lo (by omega) ht3)
  have haf : affF f t ⟨4, na, nb, nc, d⟩ = upd (upd f (15 + nb) v) (6 + (t * 3 + na)) m := by
    rw [← hv, ← hm]; exact upd_comm (f := f) (p := 6 + (t * 3 + na)) (q := 15 + nb) (by omega)
  have hd : doF L f t ⟨4, na, nb, nc, d⟩ = upd (ownF (upd (upd f (15 + nb) v) (6 + (t * 3 + na)) m) t ⟨4, na, nb, nc, d⟩) (3 + t) (nextF L (upd (upd f (15 + nb) v) (6 + (t * 3 + na)) m) t ⟨4, na, nb, nc, d⟩) := by
    unfold doF; rw [ownF_id (Or.inr (Or.inr (Or.inr rfl))), nextF_ne (show (4 : Int) ≠ 10 by decide), nextF_ne (show (4 : Int) ≠ 10 by decide), hlo, haf]
  have HD := Lib.hid hd
  have HLO := Lib.hid hlo
  have HV := Lib.hid hv
  clear hd hlo hm hv haf
  have allS : ∀ w', Below U.heap.size U w' → (w'.cell? ⟨V.heap.size, 0, none⟩ = some (.int .i64 4) ∧ w'.cell? ⟨V.heap.size, 1, none⟩ = some (.int .i64 na) ∧ w'.cell? ⟨V.heap.size, 2, none⟩ = some (.int .i64 nb) ∧ w'.cell? ⟨V.heap.size, 3, none⟩ = some (.int .i64 nc) ∧ w'.cell? ⟨V.heap.size, 4, none⟩ = some (.bool d) ∧ w'.cell? ⟨w1.heap.size, 0, none⟩ = some (.slice K0 (staF L f).f0.length C0) ∧ w'.cell? ⟨w1.heap.size, 1, none⟩ = some (.slice K1 (staF L f).f1.length C1) ∧ w'.cell? ⟨w1.heap.size, 2, none⟩ = some (.slice (some ⟨g, 0, none⟩) (staF L f).f2.length C2) ∧ w'.cell? ⟨w1.heap.size, 3, none⟩ = some (.slice K3 (staF L f).f3.length C3) ∧ w'.cell? ⟨w1.heap.size, 4, none⟩ = some (.slice K4 (staF L f).f4.length C4)) := fun w' hb => ⟨(KX.out.below hb KX.out.lt).cell 0, (KX.out.below hb KX.out.lt).cell 1, (KX.out.below hb KX.out.lt).cell 2, (KX.out.below hb KX.out.lt).cell 3, (KX.out.below hb KX.out.lt).cell 4, (KSU.out.below hb KSU.out.lt).cell 0, (KSU.out.below hb KSU.out.lt).cell 1, (KSU.out.below hb KSU.out.lt).cell 2, (KSU.out.below hb KSU.out.lt).cell 3, (KSU.out.below hb KSU.out.lt).cell 4⟩
  have AllS := Lib.hid allS
  clear allS
  have up : U.cell? ⟨w.heap.size, 0, none⟩ = some (.slice h.A L.length h.c) := (KPU.out).cell 0
  have us0 : U.cell? ⟨w1.heap.size, 0, none⟩ = some (.slice K0 (staF L f).f0.length C0) := (KSU.out).cell 0
  have us1 : U.cell? ⟨w1.heap.size, 1, none⟩ = some (.slice K1 (staF L f).f1.length C1) := (KSU.out).cell 1
  have us2 : U.cell? ⟨w1.heap.size, 2, none⟩ = some (.slice (some ⟨g, 0, none⟩) (staF L f).f2.length C2) := (KSU.out).cell 2
  have us3 : U.cell? ⟨w1.heap.size, 3, none⟩ = some (.slice K3 (staF L f).f3.length C3) := (KSU.out).cell 3
  have us4 : U.cell? ⟨w1.heap.size, 4, none⟩ = some (.slice K4 (staF L f).f4.length C4) := (KSU.out).cell 4
  have ux0 : U.cell? ⟨V.heap.size, 0, none⟩ = some (.int .i64 4) := (KX.out).cell 0
  have ux1 : U.cell? ⟨V.heap.size, 1, none⟩ = some (.int .i64 na) := (KX.out).cell 1
  have ux2 : U.cell? ⟨V.heap.size, 2, none⟩ = some (.int .i64 nb) := (KX.out).cell 2
  have ux3 : U.cell? ⟨V.heap.size, 3, none⟩ = some (.int .i64 nc) := (KX.out).cell 3
  have ux4 : U.cell? ⟨V.heap.size, 4, none⟩ = some (.bool d) := (KX.out).cell 4
  go_wp2_with fail
  clear up us0 ux0 us1 ux1 us2 ux2 us3 ux3 us4 ux4
  go_region_held3 (fun w' => w'.cell? ⟨V.heap.size, 0, none⟩ = some (.int .i64 4) ∧ w'.cell? ⟨V.heap.size, 1, none⟩ = some (.int .i64 na) ∧ w'.cell? ⟨V.heap.size, 2, none⟩ = some (.int .i64 nb) ∧ w'.cell? ⟨V.heap.size, 3, none⟩ = some (.int .i64 nc) ∧ w'.cell? ⟨V.heap.size, 4, none⟩ = some (.bool d) ∧ w'.cell? ⟨w1.heap.size, 0, none⟩ = some (.slice K0 (staF L f).f0.length C0) ∧ w'.cell? ⟨w1.heap.size, 1, none⟩ = some (.slice K1 (staF L f).f1.length C1) ∧ w'.cell? ⟨w1.heap.size, 2, none⟩ = some (.slice (some ⟨g, 0, none⟩) (staF L f).f2.length C2) ∧ w'.cell? ⟨w1.heap.size, 3, none⟩ = some (.slice K3 (staF L f).f3.length C3) ∧ w'.cell? ⟨w1.heap.size, 4, none⟩ = some (.slice K4 (staF L f).f4.length C4)) (first | (with_reducible exact Fin.out) | (go_split_ands; refine AllS.out _ ?_; go_grown; done) | (refine AllS.out _ ?_; go_grown; done)) (first | (go_at_call 168; go_split_ands; refine (snew_any ⟨4, na, nb, nc, d⟩ m _ hm4 nc rfl hnc v (Lib.hid (by rw [if_pos (show (4 : Int) = 4 from rfl)]; exact HV.out))).mono ?_; rintro e v0 ⟨rfl, hv⟩; have hB0 : Below U.heap.size U v0 := below_on (by go_grown) hv; clear hv; have hz0 := hB0.size; have O0 := OU.out.below hB0 (by omega); obtain ⟨g', hgB, -, -, hg3, hgc', hgf, hput⟩ := sta_put2 h32 O0 (i := nb) hnb v (v : Int) (by simp [fL]); injection hgB with hgB; injection hgB with hgB; subst hgB; have Put := Lib.hid hput; have KS1 := KSU.out.below hB0 KSU.out.lt; have KX1 := KX.out.below hB0 KX.out.lt; have Bv0 := Lib.hid hB0; have fin : (v0.setCell ⟨g, nb, none⟩ (.int .i64 (v : Int))).cell? ⟨V.heap.size, 0, none⟩ = some (.int .i64 4) ∧ (v0.setCell ⟨g, nb, none⟩ (.int .i64 (v : Int))).cell? ⟨V.heap.size, 1, none⟩ = some (.int .i64 na) ∧ (v0.setCell ⟨g, nb, none⟩ (.int .i64 (v : Int))).cell? ⟨V.heap.size, 2, none⟩ = some (.int .i64 nb) ∧ (v0.setCell ⟨g, nb, none⟩ (.int .i64 (v : Int))).cell? ⟨V.heap.size, 3, none⟩ = some (.int .i64 nc) ∧ (v0.setCell ⟨g, nb, none⟩ (.int .i64 (v : Int))).cell? ⟨V.heap.size, 4, none⟩ = some (.bool d) ∧ (v0.setCell ⟨g, nb, none⟩ (.int .i64 (v : Int))).cell? ⟨w1.heap.size, 0, none⟩ = some (.slice K0 (staF L f).f0.length C0) ∧ (v0.setCell ⟨g, nb, none⟩ (.int .i64 (v : Int))).cell? ⟨w1.heap.size, 1, none⟩ = some (.slice K1 (staF L f).f1.length C1) ∧ (v0.setCell ⟨g, nb, none⟩ (.int .i64 (v : Int))).cell? ⟨w1.heap.size, 2, none⟩ = some (.slice (some ⟨g, 0, none⟩) (staF L f).f2.length C2) ∧ (v0.setCell ⟨g, nb, none⟩ (.int .i64 (v : Int))).cell? ⟨w1.heap.size, 3, none⟩ = some (.slice K3 (staF L f).f3.length C3) ∧ (v0.setCell ⟨g, nb, none⟩ (.int .i64 (v : Int))).cell? ⟨w1.heap.size, 4, none⟩ = some (.slice K4 (staF L f).f4.length C4) := ⟨(KX1.far (p := ⟨g, nb, none⟩) (show V.heap.size ≠ g by omega) _).cell 0, (KX1.far (p := ⟨g, nb, none⟩) (show V.heap.size ≠ g by omega) _).cell 1, (KX1.far (p := ⟨g, nb, none⟩) (show V.heap.size ≠ g by omega) _).cell 2, (KX1.far (p := ⟨g, nb, none⟩) (show V.heap.size ≠ g by omega) _).cell 3, (KX1.far (p := ⟨g, nb, none⟩) (show V.heap.size ≠ g by omega) _).cell 4, (KS1.far (p := ⟨g, nb, none⟩) (show w1.heap.size ≠ g by omega) _).cell 0, (KS1.far (p := ⟨g, nb, none⟩) (show w1.heap.size ≠ g by omega) _).cell 1, (KS1.far (p := ⟨g, nb, none⟩) (show w1.heap.size ≠ g by omega) _).cell 2, (KS1.far (p := ⟨g, nb, none⟩) (show w1.heap.size ≠ g by omega) _).cell 3, (KS1.far (p := ⟨g, nb, none⟩) (show w1.heap.size ≠ g by omega) _).cell 4⟩; have Fin := Lib.hid fin; clear fin hput O0 KS1 KX1))
  clear AllS Fin hg3 hgc hgc' hgf
  try clear hHeld
  have on0 : Only W.heap.size w1.heap.size U (v0.setCell ⟨g, nb, none⟩ (.int .i64 (v : Int))) := (Only.of_below Bv0.out).setCell (p := ⟨g, nb, none⟩) hg0 hg1 _
  have hX0 := Put.out
  obtain ⟨X, hX⟩ : ∃ X, X = v0.setCell ⟨g, nb, none⟩ (.int .i64 (v : Int)) := ⟨_, rfl⟩
  rw [← hX] at on0 hX0
  rw [← hX]
  have zv0 := on0.size
  have KSY := Lib.hid (only_bk KSU.out on0 (Or.inr (by omega)))
  have KXY := Lib.hid (only_bk KX.out on0 (Or.inr (by omega)))
  have KPY := Lib.hid (only_bk KPU.out on0 (Or.inl (by omega)))
  have KRY := Lib.hid (only_bk KRU.out on0 (Or.inl (by omega)))
  have PY := Lib.hid (PU.out.below (on0.to_below (B := w.heap.size) (by omega) (by omega)) (by omega))
  have BY := Lib.hid (BU.out.trans (on0.to_below (B := w.heap.size) (by omega) (by omega)))
  have OY := Lib.hid hX0
  clear hX0 hX Put Bv0
  have yp : X.cell? ⟨w.heap.size, 0, none⟩ = some (.slice h.A L.length h.c) := (KPY.out).cell 0
  have ys0 : X.cell? ⟨w1.heap.size, 0, none⟩ = some (.slice K0 (staF L f).f0.length C0) := (KSY.out).cell 0
  have ys1 : X.cell? ⟨w1.heap.size, 1, none⟩ = some (.slice K1 (staF L f).f1.length C1) := (KSY.out).cell 1
  have ys2 : X.cell? ⟨w1.heap.size, 2, none⟩ = some (.slice (some ⟨g, 0, none⟩) (staF L f).f2.length C2) := (KSY.out).cell 2
  have ys3 : X.cell? ⟨w1.heap.size, 3, none⟩ = some (.slice K3 (staF L f).f3.length C3) := (KSY.out).cell 3
  have ys4 : X.cell? ⟨w1.heap.size, 4, none⟩ = some (.slice K4 (staF L f).f4.length C4) := (KSY.out).cell 4
  have yx0 : X.cell? ⟨V.heap.size, 0, none⟩ = some (.int .i64 4) := (KXY.out).cell 0
  have yx1 : X.cell? ⟨V.heap.size, 1, none⟩ = some (.int .i64 na) := (KXY.out).cell 1
  have yx2 : X.cell? ⟨V.heap.size, 2, none⟩ = some (.int .i64 nb) := (KXY.out).cell 2
  have yx3 : X.cell? ⟨V.heap.size, 3, none⟩ = some (.int .i64 nc) := (KXY.out).cell 3
  have yx4 : X.cell? ⟨V.heap.size, 4, none⟩ = some (.bool d) := (KXY.out).cell 4
  go_wp2_with fail
  clear yp ys0 yx0 ys1 yx1 ys2 yx2 ys3 yx3 ys4 yx4
  refine (sset_at f ⟨K0, K1, (some ⟨g, 0, none⟩), K3, K4, C0, C1, C2, C3, C4⟩ L (upd f (15 + nb) v) t na m X X W.heap.size w1.heap.size (Only.refl _ _ _) OY.out (by omega) h32 ht hna hm4).mono ?_
  rintro e Y ⟨rfl, on1, -, ov⟩
  have zy := on1.size
  have KSW := Lib.hid (only_bk KSY.out on1 (Or.inr (by omega)))
  have KXW := Lib.hid (only_bk KXY.out on1 (Or.inr (by omega)))
  have KPW := Lib.hid (only_bk KPY.out on1 (Or.inl (by omega)))
  have KRW := Lib.hid (only_bk KRY.out on1 (Or.inl (by omega)))
  have PW := Lib.hid (PY.out.below (on1.to_below (B := w.heap.size) (by omega) (by omega)) (by omega))
  have BYY := Lib.hid (BY.out.trans (on1.to_below (B := w.heap.size) (by omega) (by omega)))
  have OYY := Lib.hid ov
  clear on1 ov on0
  have op : Y.cell? ⟨w.heap.size, 0, none⟩ = some (.slice h.A L.length h.c) := (KPW.out).cell 0
  have os0 : Y.cell? ⟨w1.heap.size, 0, none⟩ = some (.slice K0 (staF L f).f0.length C0) := (KSW.out).cell 0
  have os1 : Y.cell? ⟨w1.heap.size, 1, none⟩ = some (.slice K1 (staF L f).f1.length C1) := (KSW.out).cell 1
  have os2 : Y.cell? ⟨w1.heap.size, 2, none⟩ = some (.slice (some ⟨g, 0, none⟩) (staF L f).f2.length C2) := (KSW.out).cell 2
  have os3 : Y.cell? ⟨w1.heap.size, 3, none⟩ = some (.slice K3 (staF L f).f3.length C3) := (KSW.out).cell 3
  have os4 : Y.cell? ⟨w1.heap.size, 4, none⟩ = some (.slice K4 (staF L f).f4.length C4) := (KSW.out).cell 4
  have ox0 : Y.cell? ⟨V.heap.size, 0, none⟩ = some (.int .i64 4) := (KXW.out).cell 0
  have ox1 : Y.cell? ⟨V.heap.size, 1, none⟩ = some (.int .i64 na) := (KXW.out).cell 1
  have ox2 : Y.cell? ⟨V.heap.size, 2, none⟩ = some (.int .i64 nb) := (KXW.out).cell 2
  have ox3 : Y.cell? ⟨V.heap.size, 3, none⟩ = some (.int .i64 nc) := (KXW.out).cell 3
  have ox4 : Y.cell? ⟨V.heap.size, 4, none⟩ = some (.bool d) := (KXW.out).cell 4
  go_wp2_with fail
  clear op os0 ox0 os1 ox1 os2 ox2 os3 ox3 os4 ox4
  refine (sown_at f h ⟨K0, K1, (some ⟨g, 0, none⟩), K3, K4, C0, C1, C2, C3, C4⟩ L (upd (upd f (15 + nb) v) (6 + (t * 3 + na)) m) t ⟨4, na, nb, nc, d⟩ Y B W.heap.size w1.heap.size PW.out (by omega) (by omega) OYY.out (by omega) h32 ht hok1 (by rw [HLO.out]; exact HAT.out) hl6 hx (fun e => absurd (show (4 : Int) = 9 from e) (by decide))).mono ?_
  rintro e wz ⟨rfl, onz, oz⟩
  have zz := onz.size
  have KSZ := Lib.hid (only_bk KSW.out onz (Or.inr (by omega)))
  have KRZ := Lib.hid (only_bk KRW.out onz (Or.inl (by omega)))
  have BZ := Lib.hid (BYY.out.trans (onz.to_below (B := w.heap.size) (by omega) (by omega)))
  have OZ := Lib.hid oz
  clear onz oz
  have z0 : wz.cell? ⟨w1.heap.size, 0, none⟩ = some (.slice K0 (staF L f).f0.length C0) := KSZ.out.cell 0
  have z1 : wz.cell? ⟨w1.heap.size, 1, none⟩ = some (.slice K1 (staF L f).f1.length C1) := KSZ.out.cell 1
  have z2 : wz.cell? ⟨w1.heap.size, 2, none⟩ = some (.slice (some ⟨g, 0, none⟩) (staF L f).f2.length C2) := KSZ.out.cell 2
  have z3 : wz.cell? ⟨w1.heap.size, 3, none⟩ = some (.slice K3 (staF L f).f3.length C3) := KSZ.out.cell 3
  have z4 : wz.cell? ⟨w1.heap.size, 4, none⟩ = some (.slice K4 (staF L f).f4.length C4) := KSZ.out.cell 4
  have cr0 : wz.cell? ⟨w.heap.size + 1 + 1, 0, none⟩ = some (.slice none 0 0) := KRZ.out.cell 0
  have fr0 : wz.frozen? ⟨w.heap.size + 1 + 1, 0, none⟩ = false := KRZ.out.free 0
  have cr1 : wz.cell? ⟨w.heap.size + 1 + 1, 1, none⟩ = some (.slice none 0 0) := KRZ.out.cell 1
  have fr1 : wz.frozen? ⟨w.heap.size + 1 + 1, 1, none⟩ = false := KRZ.out.free 1
  have cr2 : wz.cell? ⟨w.heap.size + 1 + 1, 2, none⟩ = some (.slice none 0 0) := KRZ.out.cell 2
  have fr2 : wz.frozen? ⟨w.heap.size + 1 + 1, 2, none⟩ = false := KRZ.out.free 2
  have cr3 : wz.cell? ⟨w.heap.size + 1 + 1, 3, none⟩ = some (.slice none 0 0) := KRZ.out.cell 3
  have fr3 : wz.frozen? ⟨w.heap.size + 1 + 1, 3, none⟩ = false := KRZ.out.free 3
  have cr4 : wz.cell? ⟨w.heap.size + 1 + 1, 4, none⟩ = some (.slice none 0 0) := KRZ.out.cell 4
  have fr4 : wz.frozen? ⟨w.heap.size + 1 + 1, 4, none⟩ = false := KRZ.out.free 4
  go_wp2
  clear z0 cr0 fr0 z1 cr1 fr1 z2 cr2 fr2 z3 cr3 fr3 z4 cr4 fr4
  have kF : Bk (((((wz.setCell ⟨w.heap.size + 1 + 1, 0, none⟩ (.slice K0 (staF L f).f0.length C0)).setCell ⟨w.heap.size + 1 + 1, 1, none⟩ (.slice K1 (staF L f).f1.length C1)).setCell ⟨w.heap.size + 1 + 1, 2, none⟩ (.slice (some ⟨g, 0, none⟩) (staF L f).f2.length C2)).setCell ⟨w.heap.size + 1 + 1, 3, none⟩ (.slice K3 (staF L f).f3.length C3)).setCell ⟨w.heap.size + 1 + 1, 4, none⟩ (.slice K4 (staF L f).f4.length C4)) (w.heap.size + 1 + 1) 41 #[.slice K0 (staF L f).f0.length C0, .slice K1 (staF L f).f1.length C1, .slice (some ⟨g, 0, none⟩) (staF L f).f2.length C2, .slice K3 (staF L f).f3.length C3, .slice K4 (staF L f).f4.length C4] := by
    have a0 := KRZ.out
    have a1 := a0.set 0 (.slice K0 (staF L f).f0.length C0)
    have a2 := a1.set 1 (.slice K1 (staF L f).f1.length C1)
    have a3 := a2.set 2 (.slice (some ⟨g, 0, none⟩) (staF L f).f2.length C2)
    have a4 := a3.set 3 (.slice K3 (staF L f).f3.length C3)
    have a5 := a4.set 4 (.slice K4 (staF L f).f4.length C4)
    simpa using a5
  have bF : Below w.heap.size w (((((wz.setCell ⟨w.heap.size + 1 + 1, 0, none⟩ (.slice K0 (staF L f).f0.length C0)).setCell ⟨w.heap.size + 1 + 1, 1, none⟩ (.slice K1 (staF L f).f1.length C1)).setCell ⟨w.heap.size + 1 + 1, 2, none⟩ (.slice (some ⟨g, 0, none⟩) (staF L f).f2.length C2)).setCell ⟨w.heap.size + 1 + 1, 3, none⟩ (.slice K3 (staF L f).f3.length C3)).setCell ⟨w.heap.size + 1 + 1, 4, none⟩ (.slice K4 (staF L f).f4.length C4)) := (((((BZ.out.setCell (p := ⟨w.heap.size + 1 + 1, 0, none⟩) (show w.heap.size ≤ w.heap.size + 1 + 1 by omega) _).setCell (p := ⟨w.heap.size + 1 + 1, 1, none⟩) (show w.heap.size ≤ w.heap.size + 1 + 1 by omega) _).setCell (p := ⟨w.heap.size + 1 + 1, 2, none⟩) (show w.heap.size ≤ w.heap.size + 1 + 1 by omega) _).setCell (p := ⟨w.heap.size + 1 + 1, 3, none⟩) (show w.heap.size ≤ w.heap.size + 1 + 1 by omega) _).setCell (p := ⟨w.heap.size + 1 + 1, 4, none⟩) (show w.heap.size ≤ w.heap.size + 1 + 1 by omega) _)
  have nF : ∀ q, w.heap.size + 1 + 1 < q → (((((wz.setCell ⟨w.heap.size + 1 + 1, 0, none⟩ (.slice K0 (staF L f).f0.length C0)).setCell ⟨w.heap.size + 1 + 1, 1, none⟩ (.slice K1 (staF L f).f1.length C1)).setCell ⟨w.heap.size + 1 + 1, 2, none⟩ (.slice (some ⟨g, 0, none⟩) (staF L f).f2.length C2)).setCell ⟨w.heap.size + 1 + 1, 3, none⟩ (.slice K3 (staF L f).f3.length C3)).setCell ⟨w.heap.size + 1 + 1, 4, none⟩ (.slice K4 (staF L f).f4.length C4)).heap[q]? = wz.heap[q]? := fun q hq => (Below.heap_setCell _ _ _ q (by show q ≠ w.heap.size + 1 + 1; omega)).trans ((Below.heap_setCell _ _ _ q (by show q ≠ w.heap.size + 1 + 1; omega)).trans ((Below.heap_setCell _ _ _ q (by show q ≠ w.heap.size + 1 + 1; omega)).trans ((Below.heap_setCell _ _ _ q (by show q ≠ w.heap.size + 1 + 1; omega)).trans (Below.heap_setCell _ _ _ q (by show q ≠ w.heap.size + 1 + 1; omega)))))
  have zF : wz.heap.size ≤ (((((wz.setCell ⟨w.heap.size + 1 + 1, 0, none⟩ (.slice K0 (staF L f).f0.length C0)).setCell ⟨w.heap.size + 1 + 1, 1, none⟩ (.slice K1 (staF L f).f1.length C1)).setCell ⟨w.heap.size + 1 + 1, 2, none⟩ (.slice (some ⟨g, 0, none⟩) (staF L f).f2.length C2)).setCell ⟨w.heap.size + 1 + 1, 3, none⟩ (.slice K3 (staF L f).f3.length C3)).setCell ⟨w.heap.size + 1 + 1, 4, none⟩ (.slice K4 (staF L f).f4.length C4)).heap.size := by simp
  have HF := Lib.hid kF
  have BF := Lib.hid bF
  have NF := Lib.hid nF
  obtain ⟨F, hF⟩ : ∃ F, F = (((((wz.setCell ⟨w.heap.size + 1 + 1, 0, none⟩ (.slice K0 (staF L f).f0.length C0)).setCell ⟨w.heap.size + 1 + 1, 1, none⟩ (.slice K1 (staF L f).f1.length C1)).setCell ⟨w.heap.size + 1 + 1, 2, none⟩ (.slice (some ⟨g, 0, none⟩) (staF L f).f2.length C2)).setCell ⟨w.heap.size + 1 + 1, 3, none⟩ (.slice K3 (staF L f).f3.length C3)).setCell ⟨w.heap.size + 1 + 1, 4, none⟩ (.slice K4 (staF L f).f4.length C4)) := ⟨_, rfl⟩
  rw [← hF] at HF BF NF zF
  rw [← hF]
  clear kF bF nF hF
  have c0 := HF.out.cell 0
  have c1 := HF.out.cell 1
  have c2 := HF.out.cell 2
  have c3 := HF.out.cell 3
  have c4 := HF.out.cell 4
  simp only [List.getElem?_toArray, List.getElem?_cons_zero, List.getElem?_cons_succ] at c0 c1 c2 c3 c4
  refine bodyPost_ret (v := .agg #[.slice K0 (staF L f).f0.length C0, .slice K1 (staF L f).f1.length C1, .slice (some ⟨g, 0, none⟩) (staF L f).f2.length C2, .slice K3 (staF L f).f3.length C3, .slice K4 (staF L f).f4.length C4]) (by simp [results, Try.results116, c0, c1, c2, c3, c4, go_sem]) rfl ?_
  refine ⟨⟨K0, K1, (some ⟨g, 0, none⟩), K3, K4, C0, C1, C2, C3, C4⟩, ?_, BF.out, by omega, ?_⟩
  · rw [← staV_eq _ L f]
  · rw [HD.out]
    exact OZ.out.keep (by omega) (by omega) fun q0 h1 h2 => NF.out q0 (by omega)
end Go.Proofs.Ytiljakbjbiinkaa
namespace Go.Proofs.Ytiljakbjbiinkaa
open Go.RowKit Pl
set_option maxHeartbeats 4000000
set_option maxRecDepth 100000
set_option linter.unusedVariables false

theorem sdo_any (h : PgH) (k : StaH) (L : Pg) (f : Nat → Nat) (t : Nat) (w : World) (B : Nat) (hP : PgR w B h L) (hS : StaR w B k (staF L f)) (hB : B ≤ w.heap.size) (hL : progB L = true) (ht : t < L.length) (hf : Good L f) (hc : canF L f t = true) (h4 : ∀ n, n < 2 → f (20 + n) ≤ 4) :
    Calls Try.prog 116 #[PgV h L, StaV k (staF L f), .int .i64 t] w (l2DoP w L (stepF L f t)) := by
  obtain ⟨h31, h32⟩ := prog_len hL
  obtain ⟨xs, hxs⟩ : ∃ xs, L[t]? = some xs := ⟨L[t], List.getElem?_eq_getElem ht⟩
  have hd : L.getD t [] = xs := getD_some hxs
  have hle := hf.at_ t xs hxs
  unfold canF at hc
  rw [hd] at hc
  have hml : f (3 + t) < xs.length := by
    have : f (3 + t) ≠ xs.length := by intro e; rw [e] at hc; simp at hc
    omega
  obtain ⟨hx6, hxok⟩ := prog_thr hL hxs
  have hsx : smAt L t (f (3 + t)) = xs[f (3 + t)] := by unfold smAt; rw [hd]; simp [List.getD, hml]
  have hxx : xs[f (3 + t)]? = some (smAt L t (f (3 + t))) := by rw [hsx]; exact List.getElem?_eq_getElem hml
  have hok := hxok _ _ hxx
  have h1 : (smAt L t (f (3 + t))).k = 9 → ∀ n : Nat, (smAt L t (f (3 + t))).b = (n : Int) → 1 ≤ f (20 + n) ∧ f (20 + n) ≤ 4 := fun hk n hn' => by
    obtain ⟨n', hn2, hb'⟩ := ok_get hok hk
    have : n = n' := by omega
    subst this
    refine ⟨?_, h4 n hn2⟩
    have hw : waitF f t (smAt L t (f (3 + t))) = (f (20 + n) == 0) := by unfold waitF; rw [hk, hn']; simp
    rw [hw] at hc
    have h0 : f (20 + n) ≠ 0 := by intro e; rw [e] at hc; simp at hc
    omega
  have he : staF L (stepF L f t) = staF L (doF L f t (smAt L t (f (3 + t)))) := staF_step h32 (by omega)
  have hl6 : (L.getD t []).length ≤ 6 := by rw [hd]; exact hx6
  unfold l2DoP
  rw [he]
  show Calls _ _ _ w (l2DoP w L _)
  clear he hc hsx hle
  obtain ⟨q, a, b, c, d, hx⟩ : ∃ q a b c d, smAt L t (f (3 + t)) = ⟨q, a, b, c, d⟩ := ⟨_, _, _, _, _, rfl⟩
  rw [hx] at hxx hok h1 ⊢
  simp only at h1
  by_cases e1 : q = 1
  · subst e1; exact sdo_1 h k L f t a b c d w B hP hS hB h32 ht hf.ok xs hxs hml hxx hok hl6 h1
  by_cases e2 : q = 2
  · subst e2; exact sdo_2 h k L f t a b c d w B hP hS hB h32 ht hf.ok xs hxs hml hxx hok hl6 h1
  by_cases e3 : q = 3
  · subst e3; exact sdo_3 h k L f t a b c d w B hP hS hB h32 ht hf.ok xs hxs hml hxx hok hl6 h1
  by_cases e4 : q = 4
  · subst e4; exact sdo_4 h k L f t a b c d w B hP hS hB h32 ht hf.ok xs hxs hml hxx hok hl6 h1
  exact sdo_0 h k L f t q a b c d w B hP hS hB h32 ht hf.ok xs hxs hml hxx hok hl6 h1 e1 e2 e3 e4

theorem sdo_at (h : PgH) (k : StaH) (L : Pg) (s : Sta) (t : Nat) (w : World) (B : Nat) (hP : PgR w B h L) (hS : StaR w B k s) (hB : B ≤ w.heap.size) (P : StP L s) (ht : t < L.length) (hc : canF L (wdF L s) t = true) (h4 : ∀ n, n < 2 → wdF L s (20 + n) ≤ 4) :
    Calls Try.prog 116 #[PgV h L, StaV k s, .int .i64 t] w (l2DoP w L (stepF L (wdF L s) t)) := by
  have e := staF_wd P
  have h0 := sdo_any h k L (wdF L s) t w B hP (by rw [e]; exact hS) hB P.prog ht (wdF_good P) hc h4
  rw [e] at h0
  exact h0
end Go.Proofs.Ytiljakbjbiinkaa
