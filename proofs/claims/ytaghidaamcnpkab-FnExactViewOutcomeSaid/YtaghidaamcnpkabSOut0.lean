/-
  What the reference model's l2Outcome comes to, on states that are told by a word's numbers.
-/
import Derived.Test.YtaghidaamcnpkabOutU
import Derived.Test.YtaghidaamcnpkabSCopy
import Derived.Deep.RegionHeld3
import Derived.Deep.RegionLaw
import Derived.Deep.AppendLies
import Derived.Deep.DeepCutAuto
namespace Go.Proofs.Ytaghidaamcnpkab
open Go.RowKit Pl
set_option maxHeartbeats 8000000
set_option maxRecDepth 100000
set_option linter.unusedVariables false

/-- The outcome's box with two lists of numbers. -/
def Got1 (w : World) (xs ys : List Int) (sa : Value) (wx : World) : Prop :=
  ∃ (b : Nat) (A0 A1 : Option Addr) (c0 c1 lo0 hi0 lo1 hi1 : Nat), sa = .pointer (some ⟨b, 0, none⟩) ∧ Below w.heap.size w wx ∧ Bk wx b 60 #[.slice A0 xs.length c0, .slice A1 ys.length c1, .slice none 0 0] ∧ OwnVs wx lo0 hi0 3 A0 (ints xs) ∧ OwnVs wx lo1 hi1 3 A1 (ints ys) ∧ w.heap.size ≤ lo0 ∧ hi0 ≤ wx.heap.size ∧ w.heap.size ≤ lo1 ∧ hi1 ≤ wx.heap.size ∧ w.heap.size ≤ b ∧ b < wx.heap.size ∧ (b < lo0 ∨ hi0 ≤ b) ∧ (b < lo1 ∨ hi1 ≤ b) ∧ (hi0 ≤ lo1 ∨ hi1 ≤ lo0)
theorem got1_late {w v1 : World} {xs ys : List Int} {A0 A1 : Option Addr} {c0 c1 lo0 hi0 lo1 hi1 : Nat} (h1 : Below w.heap.size w v1) (i0 : OwnVs v1 lo0 hi0 3 A0 (ints xs)) (i1 : OwnVs v1 lo1 hi1 3 A1 (ints ys)) (a0 : w.heap.size ≤ lo0) (a1 : hi0 ≤ v1.heap.size) (a2 : w.heap.size ≤ lo1) (a3 : hi1 ≤ v1.heap.size) (s2 : hi0 ≤ lo1 ∨ hi1 ≤ lo0) :
    Got1 w xs ys (.pointer (some ⟨v1.heap.size, 0, none⟩)) (v1.alloc (.cells #[.slice A0 xs.length c0, .slice A1 ys.length c1, .slice none 0 0] 60)) := by
  have z : (v1.alloc (.cells #[.slice A0 xs.length c0, .slice A1 ys.length c1, .slice none 0 0] 60)).heap.size = v1.heap.size + 1 := by simp
  exact ⟨_, A0, A1, c0, c1, lo0, hi0, lo1, hi1, rfl, h1.alloc h1.size _, Bk.new _ _ _, i0.below ((Below.refl v1.heap.size v1).alloc (Nat.le_refl _) _) a1, i1.below ((Below.refl v1.heap.size v1).alloc (Nat.le_refl _) _) a3, a0, by omega, a2, by omega, h1.size, by omega, Or.inr a1, Or.inr a3, s2⟩
theorem got1_early {w v1 : World} {xs ys : List Int} {A0 A1 : Option Addr} {b c0 c1 lo0 hi0 lo1 hi1 : Nat} (h1 : Below w.heap.size w v1) (hb : Bk v1 b 60 #[.slice none 0 0, .slice none 0 0, .slice none 0 0]) (hwb : w.heap.size ≤ b) (i0 : OwnVs v1 lo0 hi0 3 A0 (ints xs)) (i1 : OwnVs v1 lo1 hi1 3 A1 (ints ys)) (a0 : w.heap.size ≤ lo0) (a1 : hi0 ≤ v1.heap.size) (a2 : w.heap.size ≤ lo1) (a3 : hi1 ≤ v1.heap.size) (s0 : b < lo0 ∨ hi0 ≤ b) (s1 : b < lo1 ∨ hi1 ≤ b) (s2 : hi0 ≤ lo1 ∨ hi1 ≤ lo0) :
    Got1 w xs ys (.pointer (some ⟨b, 0, none⟩)) (((v1.setCell ⟨b, 0, none⟩ (.slice A0 xs.length c0)).setCell ⟨b, 1, none⟩ (.slice A1 ys.length c1)).setCell ⟨b, 2, none⟩ (.slice none 0 0)) := by
  have hbl := hb.lt
  have kF : Bk (((v1.setCell ⟨b, 0, none⟩ (.slice A0 xs.length c0)).setCell ⟨b, 1, none⟩ (.slice A1 ys.length c1)).setCell ⟨b, 2, none⟩ (.slice none 0 0)) b 60 #[.slice A0 xs.length c0, .slice A1 ys.length c1, .slice none 0 0] := by
    have a0 := hb
    have a1 := a0.set 0 (.slice A0 xs.length c0)
    have a2 := a1.set 1 (.slice A1 ys.length c1)
    have a3 := a2.set 2 (.slice none 0 0)
    simpa using a3
  have zF : (((v1.setCell ⟨b, 0, none⟩ (.slice A0 xs.length c0)).setCell ⟨b, 1, none⟩ (.slice A1 ys.length c1)).setCell ⟨b, 2, none⟩ (.slice none 0 0)).heap.size = v1.heap.size := by simp
  refine ⟨b, A0, A1, c0, c1, lo0, hi0, lo1, hi1, rfl, (((h1.setCell (p := ⟨b, 0, none⟩) (show w.heap.size ≤ b from hwb) _).setCell (p := ⟨b, 1, none⟩) (show w.heap.size ≤ b from hwb) _).setCell (p := ⟨b, 2, none⟩) (show w.heap.size ≤ b from hwb) _), kF, ?_, ?_, a0, by omega, a2, by omega, hwb, by omega, s0, s1, s2⟩
  · exact i0.keep (Nat.le_refl _) (Nat.le_refl _) fun i h4 h5 => ((Below.heap_setCell _ _ _ i (by show i ≠ b; omega)).trans ((Below.heap_setCell _ _ _ i (by show i ≠ b; omega)).trans (Below.heap_setCell _ _ _ i (by show i ≠ b; omega))))
  · exact i1.keep (Nat.le_refl _) (Nat.le_refl _) fun i h4 h5 => ((Below.heap_setCell _ _ _ i (by show i ≠ b; omega)).trans ((Below.heap_setCell _ _ _ i (by show i ≠ b; omega)).trans (Below.heap_setCell _ _ _ i (by show i ≠ b; omega))))

theorem in_tight {w : World} {lo hi g : Nat} {vs : List Value} (h : InVs w lo hi (some ⟨g, 0, none⟩) vs) : InVs w g (g + 1) (some ⟨g, 0, none⟩) vs := fun hn => by
  obtain ⟨g', off, hA, h0, h1, hc⟩ := h hn
  injection hA with hA
  injection hA with e1 e2
  subst e1
  exact ⟨g, off, by rw [← e2], Nat.le_refl _, by omega, hc⟩
theorem own_tite {w : World} {lo hi g : Nat} {t : TypeId} {vs : List Value} (h : OwnVs w lo hi t (some ⟨g, 0, none⟩) vs) : OwnVs w g (g + 1) t (some ⟨g, 0, none⟩) vs := fun hn => by
  obtain ⟨g', cs, hA, h0, h1, hb, hc⟩ := h hn
  injection hA with hA
  injection hA with e1 e2
  subst e1
  exact ⟨g, cs, rfl, Nat.le_refl _, by omega, hb, hc⟩
theorem own_sep {w w2 : World} {lo hi lo2 hi2 : Nat} {t t2 : TypeId} {A A2 : Option Addr} {vs us : List Value} (h : OwnVs w lo hi t A vs) (h2 : OwnVs w2 lo2 hi2 t2 A2 us) (hd : hi ≤ lo2 ∨ hi2 ≤ lo) (hv : 0 < vs.length) (hu : 0 < us.length) : A ≠ A2 := by
  obtain ⟨g, cs, rfl, a0, a1, -⟩ := h hv
  obtain ⟨g2, cs2, rfl, b0, b1, -⟩ := h2 hu
  intro e
  injection e with e
  injection e with e
  omega
def hdr2 (b : Nat) (w' : World) : Value := (w'.cell? ⟨b, 2, none⟩).getD (.bool false)
theorem hdr2_of {b : Nat} {w' : World} {v : Value} (h : w'.cell? ⟨b, 2, none⟩ = some v) : w'.cell? ⟨b, 2, none⟩ = some (hdr2 b w') := by unfold hdr2; rw [h]; rfl
theorem hdr2_eq {b : Nat} {w' : World} {v : Value} (h : w'.cell? ⟨b, 2, none⟩ = some v) : hdr2 b w' = v := by unfold hdr2; rw [h]; rfl
theorem own_base {w : World} {base n c2 : Nat} {t : TypeId} {A : Option Addr} {vs : List Value} (h : w.ownsRow base t 1 (.slice A n c2) n vs) {v : Value} (_ : v = v) (a : Addr) (hA : A = some a) : base ≤ a.block := by
  rcases h.2 with ⟨h0, _⟩ | ⟨g, cap, cur, hv, hb, _⟩
  · rw [hA] at h0; cases h0
  · rw [hA] at hv
    injection hv with hv
    injection hv with hv
    rw [hv]; exact hb
theorem far3 {wr X w3 : World} {row : Option Nat} (hb : Below wr.heap.size wr X) (hg : X.grownBy w3 row) : ∀ q, q < wr.heap.size → some q ≠ row → w3.heap[q]? = wr.heap[q]? := fun q hq hne =>
  (hg.block q (Nat.lt_of_lt_of_le hq hb.size) hne).trans (hb.block q hq)
theorem below3 {W wr X w3 : World} {row : Option Nat} (h : Below W.heap.size W wr) (hb : Below wr.heap.size wr X) (hg : X.grownBy w3 row) (hne : ∀ q, q < W.heap.size → some q ≠ row) : Below W.heap.size W w3 :=
  have h0 := h.trans (hb.mono h.size)
  ⟨hg.os.trans h0.os, hg.tape.trans h0.tape, hg.output.trans h0.output, Nat.le_trans h0.size hg.size, fun q hq => (hg.block q (Nat.lt_of_lt_of_le hq h0.size) (hne q hq)).trans (h0.block q hq)⟩
theorem grown_set (w : World) (p : Addr) (v : Value) : w.grownBy (w.setCell p v) (some p.block) := ⟨rfl, rfl, rfl, by simp, fun q _ hne => Below.heap_setCell w p v q (fun e => hne (by rw [e]))⟩
def SOutP (w : World) (o : Oc) (e : Ending) (w' : World) : Prop := ∃ k, e = .returned (OcV k o) ∧ Below w.heap.size w w' ∧ w.heap.size ≤ w'.heap.size ∧ OcI w' w.heap.size w'.heap.size k o
def SOutO (w : World) (o : Oc) (e : Ending) (w' : World) : Prop := ∃ k, e = .returned (OcV k o) ∧ Below w.heap.size w w' ∧ w.heap.size ≤ w'.heap.size ∧ OcO w' w.heap.size w'.heap.size k o
theorem sout1_any (h : PgH) (L : Pg) (k : StaH) (f : Nat → Nat) (w : World) (B : Nat) (hP : PgR w B h L) (hS : StaR w B k (staF L f)) (hB : B ≤ w.heap.size) (h31 : 1 ≤ L.length) (h32 : L.length ≤ 3) :
    Calls Try.prog 103 #[PgV h L, StaV k (staF L f)] w (SOutO w (ocF L f)) := by
  obtain ⟨W, hW⟩ : ∃ W, W = (((w.alloc (.cells #[.slice h.A L.length h.c] 32)).alloc (.cells #[.slice k.A0 (staF L f).f0.length k.c0, .slice k.A1 (staF L f).f1.length k.c1, .slice k.A2 (staF L f).f2.length k.c2, .slice k.A3 (staF L f).f3.length k.c3, .slice k.A4 (staF L f).f4.length k.c4] 50)).alloc (.cells #[.slice none 0 0, .slice none 0 0, .slice none 0 0] 60)) := ⟨_, rfl⟩
  have bW : Below w.heap.size w W := by rw [hW]; go_grown
  have sW : W.heap.size = w.heap.size + 1 + 1 + 1 := by rw [hW]; simp
  have k0 : Bk W w.heap.size 32 #[.slice h.A L.length h.c] := by rw [hW]; exact ((Bk.new w _ _).alloc _).alloc _
  have k1 : Bk W (w.heap.size + 1) 50 #[.slice k.A0 (staF L f).f0.length k.c0, .slice k.A1 (staF L f).f1.length k.c1, .slice k.A2 (staF L f).f2.length k.c2, .slice k.A3 (staF L f).f3.length k.c3, .slice k.A4 (staF L f).f4.length k.c4] := by
    rw [hW]; have := (Bk.new (w.alloc (.cells #[.slice h.A L.length h.c] 32)) #[.slice k.A0 (staF L f).f0.length k.c0, .slice k.A1 (staF L f).f1.length k.c1, .slice k.A2 (staF L f).f2.length k.c2, .slice k.A3 (staF L f).f3.length k.c3, .slice k.A4 (staF L f).f4.length k.c4] 50).alloc (.cells #[.slice none 0 0, .slice none 0 0, .slice none 0 0] 60)
    rwa [World.size_alloc] at this
  have k2 : Bk W (w.heap.size + 1 + 1) 60 #[.slice none 0 0, .slice none 0 0, .slice none 0 0] := by
    rw [hW]; have := Bk.new ((w.alloc (.cells #[.slice h.A L.length h.c] 32)).alloc (.cells #[.slice k.A0 (staF L f).f0.length k.c0, .slice k.A1 (staF L f).f1.length k.c1, .slice k.A2 (staF L f).f2.length k.c2, .slice k.A3 (staF L f).f3.length k.c3, .slice k.A4 (staF L f).f4.length k.c4] 50)) #[.slice none 0 0, .slice none 0 0, .slice none 0 0] 60
    rwa [World.size_alloc, World.size_alloc] at this
  have P0 := Lib.hid (hP.below bW hB)
  have Q0 := Lib.hid (hS.below bW hB)
  have K0 := Lib.hid k0
  have K1 := Lib.hid k1
  have K2 := Lib.hid k2
  have BW := Lib.hid bW
  have LN := Lib.hid (sta_len L f)
  have sWa := Nat.le_of_eq sW
  have sWb := Nat.le_of_eq sW.symm
  have HW := Lib.hid hW
  clear k0 k1 k2 bW sW hW hP hS
  have allS : ∀ w', Below W.heap.size W w' → (Below W.heap.size W w' ∧ w'.cell? ⟨w.heap.size + 1, 1, none⟩ = some (.slice k.A1 (staF L f).f1.length k.c1) ∧ w'.cell? ⟨w.heap.size + 1, 2, none⟩ = some (.slice k.A2 (staF L f).f2.length k.c2)) := fun w' hb => ⟨hb, (K1.out.below hb K1.out.lt).cell 1, (K1.out.below hb K1.out.lt).cell 2⟩
  have AllS := Lib.hid allS
  clear allS
  have c_s1 : W.cell? ⟨w.heap.size + 1, 1, none⟩ = some (.slice k.A1 (staF L f).f1.length k.c1) := K1.out.cell 1
  have c_s2 : W.cell? ⟨w.heap.size + 1, 2, none⟩ = some (.slice k.A2 (staF L f).f2.length k.c2) := K1.out.cell 2
  go_enter Try.func103, Try.ntmps103
  go_upto_region 1 with (fail)
  rw [← HW.out]
  go_cut [5] (fun sa wx => Got1 W (staF L f).f1 (staF L f).f2 sa wx)
  case first =>
    have tok1 : True := trivial
    go_region_held3 (fun w' => Below W.heap.size W w' ∧ w'.cell? ⟨w.heap.size + 1, 1, none⟩ = some (.slice k.A1 (staF L f).f1.length k.c1) ∧ w'.cell? ⟨w.heap.size + 1, 2, none⟩ = some (.slice k.A2 (staF L f).f2.length k.c2)) (first | (go_split_ands; exact AllS.out _ (by go_grown)) | (exact AllS.out _ (by go_grown))) (first | (go_at_call 132; clear tok1; go_split_ands; refine (nums_any k.A1 k.c1 (staF L f).f1 _ W.heap.size ((Q0.out.r1).up (show Below W.heap.size W _ from by go_grown) (by omega) (by omega)) (show Below W.heap.size W _ from by go_grown).size (by obtain ⟨e0, e1, e2, e3, e4⟩ := LN.out; omega)).mono ?_; rintro e v0 ⟨g0, d0, rfl, -, -, hgg0, hv0, hi0⟩; have Ov0 := Lib.hid hi0; have hBv0 : Below W.heap.size W v0 := below_on (by go_grown) hv0; have hzv0 := hv0.size; (try simp at hzv0); have hy0 := hBv0.size; (try (have hsv0 : W.heap.size < v0.heap.size := (by omega))); have kv0 := Lib.hid hv0; have hgs0 := hgg0; (try simp at hgs0); have hgl0 : g0 < v0.heap.size := own_lt hi0 (by rw [ints_length]; obtain ⟨e0, e1, e2, e3, e4⟩ := LN.out; omega); have Tv0 := Lib.hid (own_tite Ov0.out); obtain ⟨hcc0, hff0⟩ := bcell hv0; clear hi0 hv0 hgg0) | (go_at_call 132; go_split_ands; refine (nums_any k.A2 k.c2 (staF L f).f2 _ W.heap.size ((Q0.out.r2).up (show Below W.heap.size W _ from by go_grown) (by omega) (by omega)) (show Below W.heap.size W _ from by go_grown).size (by obtain ⟨e0, e1, e2, e3, e4⟩ := LN.out; omega)).mono ?_; rintro e v1 ⟨g1, d1, rfl, -, -, hgg1, hv1, hi1⟩; have Ov1 := Lib.hid hi1; have hBv1 : Below W.heap.size W v1 := below_on (by go_grown) hv1; have hzv1 := hv1.size; (try simp at hzv1); have hy1 := hBv1.size; (try (have hsv1 : W.heap.size < v1.heap.size := (by omega))); have kv1 := Lib.hid hv1; have hgs1 := hgg1; (try simp at hgs1); have hgl1 : g1 < v1.heap.size := own_lt hi1 (by rw [ints_length]; obtain ⟨e0, e1, e2, e3, e4⟩ := LN.out; omega); have Tv1 := Lib.hid (own_tite Ov1.out); obtain ⟨hcc1, hff1⟩ := bcell hv1; have hk01 : Below v0.heap.size v0 v1 := below_on (by go_grown) hv1; (try (have hsk01 : v0.heap.size < v1.heap.size := (by omega))); clear hi1 hv1 hgg1))
    all_goals go_wp2_with fail
    all_goals go_meet
    · exact got1_late hBv1 (Tv0.out.below hk01 (by omega)) Tv1.out (by omega) (by omega) (by omega) (by omega) (by omega)
    · exact got1_early hBv1 ((Bk.new v0 #[.slice none 0 0, .slice none 0 0, .slice none 0 0] 60).below kv1.out (by simp)) hy0 (Tv0.out.below hk01 (by omega)) Tv1.out (by omega) (by omega) (by omega) (by omega) (by omega) (by omega) (by omega)
    · exact got1_early hBv1 (((bk_drew (Bk.new W #[.slice none 0 0, .slice none 0 0, .slice none 0 0] 60)).below kv0.out (by show _ < (World.alloc _ _).heap.size; simp)).below kv1.out (by omega)) (Nat.le_refl _) (Tv0.out.below hk01 (by omega)) Tv1.out (by omega) (by omega) (by omega) (by omega) (by omega) (by omega) (by omega)
  clear AllS c_s1 c_s2
  obtain ⟨b, A0, A1, k0, k1, lo0, hi0, lo1, hi1, rfl, hby, hky, hi0', hi1', j0, j1, j2, j3, j4, j5, j6, j7, j8⟩ := hcut
  obtain ⟨y, rfl⟩ : ∃ V, V = wc := ⟨_, rfl⟩
  have z1 := hby.size
  have K0y := Lib.hid (K0.out.below hby K0.out.lt)
  have K1y := Lib.hid (K1.out.below hby K1.out.lt)
  have BY := Lib.hid hby
  have KY := Lib.hid hky
  have I0 := Lib.hid hi0'
  have I1 := Lib.hid hi1'
  clear hby hky hi0' hi1'
  have hp0 := K0y.out.lt
  have hp1 := K1y.out.lt
  obtain ⟨i0, hi, iz0, iz1, iz2⟩ := info_parts Try.info4
  go_wp2
  go_loopw [6] (fun i wr => ∃ (n : Nat) (A2 : Option Addr) (k2 : Nat), n ≤ L.length ∧ i = .int .i64 n ∧ Below W.heap.size W wr ∧ y.heap.size ≤ wr.heap.size ∧ Bk wr b 60 #[.slice A0 (staF L f).f1.length k0, .slice A1 (staF L f).f2.length k1, .slice A2 n k2] ∧ OwnVs wr lo0 hi0 3 A0 (ints (staF L f).f1) ∧ OwnVs wr lo1 hi1 3 A1 (ints (staF L f).f2) ∧ wr.ownsRow y.heap.size 4 1 (.slice A2 n k2) n (bools ((List.range n).map (doneB L f)))) (fun i _ => L.length - (intOf i).toNat)
  case atStart => exact ⟨0, none, 0, Nat.zero_le _, rfl, BY.out, Nat.le_refl _, KY.out, I0.out, I1.out, by simp [bools], Or.inl ⟨rfl, rfl⟩⟩
  case round =>
    obtain ⟨n, A2, k2, hn, rfl, hbel, hyz, hkb, hv0, hv1, hown⟩ := hrel
    have HB := Lib.hid hbel
    have KB := Lib.hid hkb
    have V0 := Lib.hid hv0
    have V1 := Lib.hid hv1
    have HO := Lib.hid hown
    have hzw := hbel.size
    have KP := Lib.hid (K0.out.below hbel K0.out.lt)
    have KSs := Lib.hid (K1.out.below hbel K1.out.lt)
    have KRr := Lib.hid (K2.out.below hbel K2.out.lt)
    have PR := Lib.hid (P0.out.below hbel (by omega))
    have SR := Lib.hid (Q0.out.below hbel (by omega))
    have lb := KB.out.lt
    have lp := KP.out.lt
    have lss := KSs.out.lt
    clear hbel hkb hv0 hv1 hown
    by_cases hlt : n < L.length
    · obtain ⟨b1, off1, xs, Ai, ci, hA, hb1, hx', hc1, -, hmi, hrow⟩ := pg_at PR.out hlt
      have lt0 : n < (staF L f).f0.length := by rw [LN.out.1]; exact hlt
      obtain ⟨b2, off2, i, hA2, hb2, hi2, -, hc2⟩ := SR.out.r0.int_ (k := n) lt0
      obtain rfl : i = ((f (3 + n) : Nat) : Int) := by
        have : (staF L f).f0[n]? = some ((f (3 + n) : Int) + 0) := fldI_at (l := 0) hlt
        rw [hi2] at this; injection this with this
      obtain ⟨r, hr⟩ : ∃ r, doneB L f n = r := ⟨_, rfl⟩
      have hcmp : (((f (3 + n) : Nat) : Int) == (xs.length : Int)) = r := by
        rw [← hr]; unfold doneB; rw [getD_some hx', Bool.eq_iff_iff]; simp; omega
      have HX : Hid (bools ((List.range (n + 1)).map (doneB L f)) = bools ((List.range n).map (doneB L f)) ++ [.bool r]) := Lib.hid (by simp [bools, List.range_succ, hr])
      have hti : (n : Int) < (L.length : Int) := by omega
      have hti2 : (n : Int) < ((staF L f).f0.length : Int) := by omega
      have hb1w : b1 < wr.heap.size := by omega
      have hb2w : b2 < wr.heap.size := by omega
      have e0 := KP.out.cell 0
      have e1 := KSs.out.cell 0
      simp only [List.getElem?_toArray, List.getElem?_cons_zero] at e0 e1
      rw [hA] at e0
      rw [hA2] at e1
      unfold maxLen at hmi
      have allS : ∀ w', Below wr.heap.size wr w' → (w'.cell? ⟨w.heap.size, 0, none⟩ = some (.slice (some ⟨b1, off1, none⟩) L.length h.c) ∧ w'.cell? ⟨w.heap.size + 1, 0, none⟩ = some (.slice (some ⟨b2, off2, none⟩) (staF L f).f0.length k.c0) ∧ w'.cell? ⟨b1, off1 + n, none⟩ = some (.slice Ai xs.length ci) ∧ w'.cell? ⟨b2, off2 + n, none⟩ = some (.int .i64 ((f (3 + n) : Nat) : Int)) ∧ w'.cell? ⟨b, 2, none⟩ = some (hdr2 b w')) := fun w' hb => ⟨(hb.cell (p := ⟨w.heap.size, 0, none⟩) (by show w.heap.size < wr.heap.size; exact lp)).trans e0, (hb.cell (p := ⟨w.heap.size + 1, 0, none⟩) (by show w.heap.size + 1 < wr.heap.size; exact lss)).trans e1, (hb.cell (p := ⟨b1, off1 + n, none⟩) (by show b1 < wr.heap.size; exact hb1w)).trans hc1, (hb.cell (p := ⟨b2, off2 + n, none⟩) (by show b2 < wr.heap.size; exact hb2w)).trans hc2, hdr2_of ((KB.out.below hb KB.out.lt).cell 2)⟩
      have allH : ∀ w', Below wr.heap.size wr w' → hdr2 b w' = .slice A2 n k2 := fun w' hb => hdr2_eq ((KB.out.below hb KB.out.lt).cell 2)
      have AllS := Lib.hid allS
      have AllH := Lib.hid allH
      have HCs := Lib.hid (And.intro hc1 hc2)
      have E01 := Lib.hid (And.intro e0 e1)
      clear allS allH hx' hrow hi2 hA hA2 hr
      have cp : wr.cell? ⟨w.heap.size, 0, none⟩ = some (.slice (some ⟨b1, off1, none⟩) L.length h.c) := e0
      clear e0 e1
      have nb : ∀ q, q < y.heap.size → some q ≠ (Value.slice A2 n k2).ownBlock := fun q hq e => by
        cases hA2' : A2 with
        | none => rw [hA2'] at e; simp [Value.ownBlock] at e
        | some a =>
          rw [hA2'] at e
          simp [Value.ownBlock] at e
          have := own_base HO.out (v := .bool true) rfl a hA2'
          omega
      have NB := Lib.hid nb
      clear nb
      have cs0 : wr.cell? ⟨w.heap.size + 1, 0, none⟩ = some (.slice (some ⟨b2, off2, none⟩) (staF L f).f0.length k.c0) := E01.out.2
      have cb2 : wr.cell? ⟨b, 2, none⟩ = some (.slice A2 n k2) := KB.out.cell 2
      go_upto_region 5 with (fail)
      go_region_law (refine step_append_lies _ rfl (.tmp 22) (.tmp 35) 58 rfl y.heap.size 4 i0 _ 1 1 Try.underlying58 hi iz0 iz1 iz2 rfl (by decide) (.slice A2 n k2) n (bools ((List.range n).map (doneB L f))) rfl (HO.out.alloc _) ⟨_, 0, none⟩ 1 1 [.bool r] rfl rfl (cell1_new _ _ _) (by intro u hu; simp at hu; subst hu; rfl) (by omega) (by unfold maxLen; omega) (by omega) (by simp; omega) _ rfl ?_; intro g2 cap2 w3 hown3 hgrow3 hat3 hlt3; have hblk : ∀ q, q < wr.heap.size → some q ≠ (Value.slice A2 n k2).ownBlock → w3.heap[q]? = wr.heap[q]? := (by refine far3 ?_ hgrow3; go_grown); have hbw : Below W.heap.size W w3 := (by refine below3 HB.out ?_ hgrow3 (fun q hq => NB.out q (by omega)); go_grown); have hz3 := hgrow3.size; (try simp at hz3); have HBk := Lib.hid hblk; have HB3 := Lib.hid hbw; have HO3 := Lib.hid hown3; have KB3 := Lib.hid (show Bk w3 b 60 #[.slice A0 (staF L f).f1.length k0, .slice A1 (staF L f).f2.length k1, .slice A2 n k2] from (hblk b lb (NB.out (b) (by omega))).trans KB.out); have hg2 : y.heap.size ≤ g2 := own_base hown3 (v := .bool true) rfl ⟨g2, 0, none⟩ rfl; have cfr : w3.frozen? ⟨b, 2, none⟩ = false := KB3.out.free 2; have ccl : w3.cell? ⟨b, 2, none⟩ = some (.slice A2 n k2) := KB3.out.cell 2; clear hblk hbw hgrow3 hat3 hown3)
      all_goals
        try clear hHeld
        clear cfr ccl cp cs0 cb2 AllS AllH hc1 hc2
        obtain ⟨X, hX⟩ : ∃ X, X = w3.setCell ⟨b, 2, none⟩ (.slice (some ⟨g2, 0, none⟩) (n + 1) cap2) := ⟨_, rfl⟩
        rw [← hX]
        have zX : X.heap.size = w3.heap.size := by rw [hX]; simp
        have KX := Lib.hid (show Bk X b 60 #[.slice A0 (staF L f).f1.length k0, .slice A1 (staF L f).f2.length k1, .slice (some ⟨g2, 0, none⟩) (n + 1) cap2] from by rw [hX]; have := KB3.out.set 2 (.slice (some ⟨g2, 0, none⟩) (n + 1) cap2); simpa using this)
        have BX := Lib.hid (show Below W.heap.size W X from by rw [hX]; exact HB3.out.setCell (p := ⟨b, 2, none⟩) (show W.heap.size ≤ b by omega) _)
        have blk : ∀ q, q < y.heap.size → q ≠ b → X.heap[q]? = wr.heap[q]? := fun q h1 h2 => by rw [hX]; exact (Below.heap_setCell w3 ⟨b, 2, none⟩ (.slice (some ⟨g2, 0, none⟩) (n + 1) cap2) q h2).trans (HBk.out q (by omega) (NB.out q h1))
        have X0 := Lib.hid (V0.out.keep (Nat.le_refl _) (Nat.le_refl _) fun q h1 h2 => blk q (by omega) (by omega))
        have X1 := Lib.hid (V1.out.keep (Nat.le_refl _) (Nat.le_refl _) fun q h1 h2 => blk q (by omega) (by omega))
        have OX := Lib.hid (show X.ownsRow y.heap.size 4 1 (.slice (some ⟨g2, 0, none⟩) (n + 1) cap2) (n + 1) (bools ((List.range (n + 1)).map (doneB L f))) from by rw [hX, HX.out]; exact HO3.out.kept (grown_set w3 ⟨b, 2, none⟩ (.slice (some ⟨g2, 0, none⟩) (n + 1) cap2)) (Or.inr (by simp [Value.ownBlock]; omega)))
        clear hX blk
        go_wp2
        go_roundw
        case rel => exact ⟨n + 1, some ⟨g2, 0, none⟩, cap2, by omega, by go_num, BX.out, by omega, KX.out, X0.out, X1.out, OX.out⟩
        case measure => simp [intOf]; omega
    · have hnl : n = L.length := by omega
      subst hnl
      have cp : wr.cell? ⟨w.heap.size, 0, none⟩ = some (.slice h.A L.length h.c) := KP.out.cell 0
      have cq0 : wr.cell? ⟨b, 0, none⟩ = some (.slice A0 (staF L f).f1.length k0) := KB.out.cell 0
      have cq1 : wr.cell? ⟨b, 1, none⟩ = some (.slice A1 (staF L f).f2.length k1) := KB.out.cell 1
      have cq2 : wr.cell? ⟨b, 2, none⟩ = some (.slice A2 L.length k2) := KB.out.cell 2
      have cr0 : wr.cell? ⟨w.heap.size + 1 + 1, 0, none⟩ = some (.slice none 0 0) := KRr.out.cell 0
      have fr0 : wr.frozen? ⟨w.heap.size + 1 + 1, 0, none⟩ = false := KRr.out.free 0
      have cr1 : wr.cell? ⟨w.heap.size + 1 + 1, 1, none⟩ = some (.slice none 0 0) := KRr.out.cell 1
      have fr1 : wr.frozen? ⟨w.heap.size + 1 + 1, 1, none⟩ = false := KRr.out.free 1
      have cr2 : wr.cell? ⟨w.heap.size + 1 + 1, 2, none⟩ = some (.slice none 0 0) := KRr.out.cell 2
      have fr2 : wr.frozen? ⟨w.heap.size + 1 + 1, 2, none⟩ = false := KRr.out.free 2
      go_wp2
      clear cp cq0 cq1 cq2
      clear cr0 fr0 cr1 fr1 cr2 fr2
      have kF : Bk (((wr.setCell ⟨w.heap.size + 1 + 1, 0, none⟩ (.slice A0 (staF L f).f1.length k0)).setCell ⟨w.heap.size + 1 + 1, 1, none⟩ (.slice A1 (staF L f).f2.length k1)).setCell ⟨w.heap.size + 1 + 1, 2, none⟩ (.slice A2 L.length k2)) (w.heap.size + 1 + 1) 60 #[.slice A0 (staF L f).f1.length k0, .slice A1 (staF L f).f2.length k1, .slice A2 L.length k2] := by
        have a0 := KRr.out
        have a1 := a0.set 0 (.slice A0 (staF L f).f1.length k0)
        have a2 := a1.set 1 (.slice A1 (staF L f).f2.length k1)
        have a3 := a2.set 2 (.slice A2 L.length k2)
        simpa using a3
      have bF : Below w.heap.size w (((wr.setCell ⟨w.heap.size + 1 + 1, 0, none⟩ (.slice A0 (staF L f).f1.length k0)).setCell ⟨w.heap.size + 1 + 1, 1, none⟩ (.slice A1 (staF L f).f2.length k1)).setCell ⟨w.heap.size + 1 + 1, 2, none⟩ (.slice A2 L.length k2)) := ((((below_on BW.out HB.out).setCell (p := ⟨w.heap.size + 1 + 1, 0, none⟩) (show w.heap.size ≤ w.heap.size + 1 + 1 by omega) _).setCell (p := ⟨w.heap.size + 1 + 1, 1, none⟩) (show w.heap.size ≤ w.heap.size + 1 + 1 by omega) _).setCell (p := ⟨w.heap.size + 1 + 1, 2, none⟩) (show w.heap.size ≤ w.heap.size + 1 + 1 by omega) _)
      have nF : ∀ q, w.heap.size + 1 + 1 < q → (((wr.setCell ⟨w.heap.size + 1 + 1, 0, none⟩ (.slice A0 (staF L f).f1.length k0)).setCell ⟨w.heap.size + 1 + 1, 1, none⟩ (.slice A1 (staF L f).f2.length k1)).setCell ⟨w.heap.size + 1 + 1, 2, none⟩ (.slice A2 L.length k2)).heap[q]? = wr.heap[q]? := fun q hq => (Below.heap_setCell _ _ _ q (by show q ≠ w.heap.size + 1 + 1; omega)).trans ((Below.heap_setCell _ _ _ q (by show q ≠ w.heap.size + 1 + 1; omega)).trans (Below.heap_setCell _ _ _ q (by show q ≠ w.heap.size + 1 + 1; omega)))
      have zF : wr.heap.size ≤ (((wr.setCell ⟨w.heap.size + 1 + 1, 0, none⟩ (.slice A0 (staF L f).f1.length k0)).setCell ⟨w.heap.size + 1 + 1, 1, none⟩ (.slice A1 (staF L f).f2.length k1)).setCell ⟨w.heap.size + 1 + 1, 2, none⟩ (.slice A2 L.length k2)).heap.size := by simp
      have HF := Lib.hid kF
      have BF := Lib.hid bF
      have NF := Lib.hid nF
      obtain ⟨F, hF⟩ : ∃ F, F = (((wr.setCell ⟨w.heap.size + 1 + 1, 0, none⟩ (.slice A0 (staF L f).f1.length k0)).setCell ⟨w.heap.size + 1 + 1, 1, none⟩ (.slice A1 (staF L f).f2.length k1)).setCell ⟨w.heap.size + 1 + 1, 2, none⟩ (.slice A2 L.length k2)) := ⟨_, rfl⟩
      rw [← hF] at HF BF NF zF
      rw [← hF]
      clear kF bF nF hF
      have c0 := HF.out.cell 0
      have c1 := HF.out.cell 1
      have c2 := HF.out.cell 2
      simp only [List.getElem?_toArray, List.getElem?_cons_zero, List.getElem?_cons_succ] at c0 c1 c2
      refine bodyPost_ret (v := .agg #[.slice A0 (staF L f).f1.length k0, .slice A1 (staF L f).f2.length k1, .slice A2 L.length k2]) (by simp [results, Try.results103, c0, c1, c2, go_sem]) rfl ?_
      refine ⟨⟨A0, A1, A2, k0, k1, k2⟩, by simp [OcV, ocF, staF], BF.out, by omega, ⟨?_, ?_, ?_, ?_, ?_, ?_⟩⟩
      · exact V0.out.keep (by omega) (by omega) fun q h1 h2 => NF.out q (by omega)
      · exact V1.out.keep (by omega) (by omega) fun q h1 h2 => NF.out q (by omega)
      · exact (own_vs HO.out rfl).keep (by omega) (by omega) fun q h1 h2 => NF.out q (by omega)
      · exact fun h0 h1 => own_sep V0.out V1.out j8 (by rw [ints_length]; exact h0) (by rw [ints_length]; exact h1)
      · exact fun h0 h1 => own_sep V0.out (own_vs HO.out rfl) (Or.inl j1) (by rw [ints_length]; exact h0) (by simpa [bools, ocF] using h1)
      · exact fun h0 h1 => own_sep V1.out (own_vs HO.out rfl) (Or.inl j3) (by rw [ints_length]; exact h0) (by simpa [bools, ocF] using h1)
theorem sout0_any (h : PgH) (L : Pg) (k : StaH) (f : Nat → Nat) (w : World) (B : Nat) (hP : PgR w B h L) (hS : StaR w B k (staF L f)) (hB : B ≤ w.heap.size) (h31 : 1 ≤ L.length) (h32 : L.length ≤ 3) :
    Calls Try.prog 103 #[PgV h L, StaV k (staF L f)] w (SOutP w (ocF L f)) :=
  (sout1_any h L k f w B hP hS hB h31 h32).mono fun _ _ ⟨k, h1, h2, h3, h4⟩ => ⟨k, h1, h2, h3, h4.in_⟩
end Go.Proofs.Ytaghidaamcnpkab
