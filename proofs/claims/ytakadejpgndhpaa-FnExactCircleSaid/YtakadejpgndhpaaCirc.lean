/-
  What comesBack and Circle come to, of the program and of the reference model.
-/
import Derived.Test.YtakadejpgndhpaaSWait
import Derived.Deep.RegionHeld3
namespace Go.Proofs.Ytakadejpgndhpaa
open Go.RowKit Pl
set_option maxHeartbeats 4000000
set_option maxRecDepth 100000
set_option linter.unusedVariables false

theorem comes_any (A : Option Addr) (c : Nat) (ws : List Int) (t : Nat) (w : World) (B : Nat) (hV : Vs w B A (ints ws)) (hB : B ≤ w.heap.size) (h3 : ws.length ≤ 3) (hl : Hid (limB ws)) (ht : t < ws.length) (r : Bool) (hr : Hid (cirB ws t = r)) :
    Calls Try.prog 97 #[.slice A ws.length c, .int .i64 t] w fun e w' => e = .returned (.bool r) ∧ w = w' := by
  have hr1 := hr.out
  unfold cirB at hr1
  have HR := Lib.hid hr1
  clear hr hr1
  go_enter Try.func97, Try.ntmps97
  go_wp2
  go_loopw [5, 9] (fun av iv wr => ∃ (k a : Nat), k ≤ ws.length ∧ iv = .int .i64 k ∧ av = .int .i64 a ∧ a < ws.length ∧ wr = w ∧ Hid (backP ws t (ws.length - k) a = r)) (fun _ iv _ => ws.length - (intOf iv).toNat)
  case atStart => exact ⟨0, t, Nat.zero_le _, rfl, rfl, ht, rfl, HR⟩
  case round =>
    obtain ⟨k, a, hk, rfl, rfl, ha, rfl, hrest⟩ := hrel
    clear HR
    by_cases hlt : k < ws.length
    · have hi1 : (k : Int) < (ws.length : Int) := by omega
      have hi2 : (a : Int) < (ws.length : Int) := by omega
      obtain ⟨b1, off1, v, rfl, hb1, hx, -, hx0⟩ := hV.int_ ha
      have hlim := hl.out a v hx
      have hv : ws.getD a 0 = v := by rw [List.getD, hx]; rfl
      have hr2 := hrest.out
      obtain ⟨m, hm⟩ : ∃ m, ws.length - k = m + 1 := ⟨ws.length - k - 1, by omega⟩
      rw [hm, backP, Int.toNat_natCast, hv] at hr2
      have hbw := Nat.lt_of_lt_of_le hb1 hB
      by_cases h1 : v = -1
      · subst h1
        rw [if_pos (Or.inl rfl)] at hr2
        have hne : ((-1 : Int) == (t : Int)) = false := by simp <;> omega
        have hfin : Hid (r = false) := Lib.hid (by rw [← hr2, hne])
        clear hr2 hv hx hrest hV hm
        go_wp2
        go_ret
        exact ⟨by rw [hfin.out]; rfl, rfl⟩
      by_cases h2 : v = (t : Int)
      · subst h2
        rw [if_pos (Or.inr rfl)] at hr2
        have hne : ((t : Int) == (-1 : Int)) = false := by simp <;> omega
        have hfin : Hid (r = true) := Lib.hid (by rw [← hr2]; simp)
        clear hr2 hv hx hrest hV hm
        go_wp2
        go_ret
        exact ⟨by rw [hfin.out]; simp, rfl⟩
      rw [if_neg (by omega)] at hr2
      obtain ⟨a', rfl⟩ := Int.eq_ofNat_of_zero_le (show 0 ≤ v by omega)
      have e1 : ((a' : Int) == (-1 : Int)) = false := by simp <;> omega
      have e2 : ((a' : Int) == (t : Int)) = false := by simpa using h2
      have HN := Lib.hid (show backP ws t (ws.length - (k + 1)) a' = r by rw [show ws.length - (k + 1) = m by omega]; exact hr2)
      clear hr2 hv hx hrest hV hm h1 h2
      go_wp2
      go_roundw
      case rel => exact ⟨k + 1, a', by omega, by go_num, rfl, by omega, by first | rfl | trivial, HN⟩
      case measure => simp [intOf]; omega
    · have hkn : k = ws.length := by omega
      subst hkn
      have hr2 := hrest.out
      rw [Nat.sub_self, backP] at hr2
      have hfin : Hid (r = false) := Lib.hid hr2.symm
      clear hr2 hrest
      go_wp2
      go_ret
      exact ⟨by rw [hfin.out]; rfl, rfl⟩
theorem waitE_facts {L : Pg} {s : Sta} : limB (waitE L s) ∧ (waitE L s).length ≤ 3 ∧ cirE L s = cirK (waitE L s) (waitE L s).length := by
  unfold waitE cirE
  rcases Bool.eq_false_or_eq_true (stB L s) with h | h
  · have P := stB_parts h
    rw [h]
    exact ⟨waits_lim P.prog (inv_wd P), by show (waitsL _ _).length ≤ 3; rw [waitsL_length]; exact P.n3, by show cirK _ _ = cirK (waitsL _ _) (waitsL _ _).length; rw [waitsL_length]⟩
  · simp only [h, Bool.false_eq_true, if_false]
    refine ⟨fun k x hx => ?_, by simp, rfl⟩
    simp at hx
theorem cirI_next (ws : List Int) (k : Nat) : ints (cirK ws (k + 1)) = ints (cirK ws k) ++ ints (if cirB ws k then [(k : Int)] else []) := by rw [cirK_next]; simp [ints]
theorem icirc_any (h : PgH) (L : Pg) (k : StaH) (s : Sta) (w : World) (B : Nat) (hP : PgR w B h L) (hS : StaR w B k s) (hB : B ≤ w.heap.size) (SP : PgS L) (LS : StaS s) :
    Calls Try.prog 51 #[PgV h L, StaV k s] w (AnsIl1 w (cirE L s)) := by
  obtain ⟨W, hW⟩ : ∃ W, W = (w.alloc (.cells #[.slice h.A L.length h.c] 30)).alloc (.cells #[.slice k.A0 s.f0.length k.c0, .slice k.A1 s.f1.length k.c1, .slice k.A2 s.f2.length k.c2, .slice k.A3 s.f3.length k.c3, .slice k.A4 s.f4.length k.c4] 56) := ⟨_, rfl⟩
  have bW : Below w.heap.size w W := by rw [hW]; go_grown
  have hct := iwaits_any h L k s W B (hP.below bW hB) (hS.below bW hB) (Nat.le_trans hB bW.size) SP LS
  obtain ⟨hlim, hlen, hE⟩ := waitE_facts (L := L) (s := s)
  rw [hE]
  generalize waitE L s = ws at hct hlim hlen
  have Hct := Lib.hid hct
  have HL := Lib.hid hlim
  have B0 := Lib.hid bW
  have HW := Lib.hid hW
  obtain ⟨i0, hi, iz0, iz1, iz2⟩ := info_parts Try.info3
  clear hW bW hP hS hct hlim hE
  go_enter Try.func51, Try.ntmps51
  go_wp2_with fail
  rw [← HW.out]
  refine Hct.out.mono ?_
  rintro e w1 ⟨⟨A, c⟩, he, hb, hz1, ho⟩
  have he : e = .returned (.slice A ws.length c) := he
  subst he
  have B1 := Lib.hid (below_on B0.out hb)
  have OV := Lib.hid (show Vs w1 w1.heap.size A (ints ws) from ho.o0.vs)
  obtain ⟨M, hM⟩ : ∃ M, M = w1.heap.size := ⟨_, rfl⟩
  rw [← hM] at OV
  have start := Lib.hid (show (w1.alloc (.cells #[] 3)).ownsRow M 3 1 (.slice (some ⟨M, 0, none⟩) 0 0) 0 (ints (cirK ws 0)) by rw [hM]; exact World.ownsRow_made w1 #[] 0 (Nat.le_refl _) (by decide) (by simp))
  have bst := Lib.hid (show Below M w1 (w1.alloc (.cells #[] 3)) by rw [hM]; exact (Below.refl _ _).alloc (Nat.le_refl _) _)
  have hMa := Nat.le_of_eq hM
  have hMb := Nat.le_of_eq hM.symm
  have hw1 : w.heap.size ≤ w1.heap.size := B1.out.size
  clear hb ho hz1
  go_wp2
  rw [← hM]
  clear hM
  go_loopw [6, 14] (fun ov iv wr => ∃ k g cap : Nat, k ≤ ws.length ∧ iv = .int .i64 k ∧ ov = .slice (some ⟨g, 0, none⟩) (cirK ws k).length cap ∧ M ≤ g ∧ wr.ownsRow M 3 1 (.slice (some ⟨g, 0, none⟩) (cirK ws k).length cap) (cirK ws k).length (ints (cirK ws k)) ∧ Below M w1 wr) (fun _ iv _ => ws.length - (intOf iv).toNat)
  case atStart => exact ⟨0, M, 0, Nat.zero_le _, rfl, rfl, Nat.le_refl _, start.out, bst.out⟩
  case round =>
    obtain ⟨k, g, cap, hk, rfl, rfl, hgg, hown, hbel⟩ := hrel
    clear start bst
    have hz := hbel.size
    have Hown := Lib.hid hown
    have Hb := Lib.hid hbel
    have hzM : M ≤ wr.heap.size := by omega
    have hck := cirK_len ws k
    have VR := Lib.hid (OV.out.below hbel (Nat.le_refl _))
    clear hown
    by_cases hlt : k < ws.length
    · have hi1 : (k : Int) < (ws.length : Int) := by omega
      rcases Bool.eq_false_or_eq_true (cirB ws k) with hc | hc
      · have HC := Lib.hid hc
        have EK := Lib.hid (show ints (cirK ws (k + 1)) = ints (cirK ws k) ++ [.int .i64 (k : Int)] by rw [cirI_next, hc]; rfl)
        have EL := Lib.hid (show (cirK ws (k + 1)).length = (cirK ws k).length + 1 by rw [cirK_next, hc]; simp)
        clear hc hbel
        go_wp2_with fail
        refine (comes_any A c ws k wr M VR.out hzM hlen HL hlt true HC).mono ?_
        rintro e wx ⟨rfl, rfl⟩
        go_wp2_with (at_builtin; refine wpList_append_own _ rfl (.tmp 20) (.tmp 22) 51 rfl M 3 i0 _ 1 8 Try.underlying51 hi iz0 iz1 iz2 rfl (by decide) _ (cirK ws k).length _ rfl (Hown.out.alloc _) ⟨_, 0, none⟩ 1 1 [.int .i64 _] rfl rfl (cell1_new _ _ _) (by intro u hu; simp at hu; subst hu; rfl) (by unfold maxLen; omega) (by omega) (by simp; omega) ?_; intro v' w3 own3 grow3 _; obtain ⟨g3, cap3, rfl, hg3, hlt3⟩ := own3.form (by omega); have Own3 := Lib.hid own3; have B3 := Lib.hid ((Hb.out.alloc hzM _).grown grow3 (by simp; omega) (by intro q hq; cases hq; exact hgg)); clear own3 grow3)
        go_roundw
        case rel => exact ⟨k + 1, g3, cap3, by omega, by go_num, by rw [EL.out], hg3, by rw [EL.out, EK.out]; exact Own3.out, B3.out⟩
        case measure => simp [intOf]; omega
      · have HC := Lib.hid hc
        have EK := Lib.hid (show ints (cirK ws (k + 1)) = ints (cirK ws k) by rw [cirI_next, hc]; simp [ints])
        have EL := Lib.hid (show (cirK ws (k + 1)).length = (cirK ws k).length by rw [cirK_next, hc]; simp)
        clear hc hbel
        go_wp2_with fail
        refine (comes_any A c ws k wr M VR.out hzM hlen HL hlt false HC).mono ?_
        rintro e wx ⟨rfl, rfl⟩
        go_wp2
        go_roundw
        case rel => exact ⟨k + 1, g, cap, by omega, by go_num, by rw [EL.out], hgg, by rw [EL.out, EK.out]; exact Hown.out, Hb.out⟩
        case measure => simp [intOf]; omega
    · have hkl : k = ws.length := by omega
      subst hkl
      have hfb := Lib.hid (B1.out.trans (hbel.mono (show w.heap.size ≤ M by omega)))
      clear hbel
      go_wp2
      go_ret
      exact ⟨⟨some ⟨g, 0, none⟩, cap⟩, rfl, hfb.out, hfb.out.size, ⟨(own_vs Hown.out rfl).more (by omega) (Nat.le_refl _)⟩⟩
theorem scirc_any (h : PgH) (L : Pg) (k : StaH) (s : Sta) (w : World) (B : Nat) (hP : PgR w B h L) (hS : StaR w B k s) (hB : B ≤ w.heap.size) (SP : PgS L) (LS : StaS s) :
    Calls Try.prog 50 #[PgV h L, StaV k s] w (AnsIl1 w (cirE L s)) := by
  obtain ⟨W, hW⟩ : ∃ W, W = (w.alloc (.cells #[.slice h.A L.length h.c] 30)).alloc (.cells #[.slice k.A0 s.f0.length k.c0, .slice k.A1 s.f1.length k.c1, .slice k.A2 s.f2.length k.c2, .slice k.A3 s.f3.length k.c3, .slice k.A4 s.f4.length k.c4] 56) := ⟨_, rfl⟩
  have bW : Below w.heap.size w W := by rw [hW]; go_grown
  have hct := swaits_any h L k s W B (hP.below bW hB) (hS.below bW hB) (Nat.le_trans hB bW.size) SP LS
  obtain ⟨hlim, hlen, hE⟩ := waitE_facts (L := L) (s := s)
  rw [hE]
  generalize waitE L s = ws at hct hlim hlen
  have Hct := Lib.hid hct
  have HL := Lib.hid hlim
  have B0 := Lib.hid bW
  have HW := Lib.hid hW
  obtain ⟨i0, hi, iz0, iz1, iz2⟩ := info_parts Try.info3
  clear hW bW hP hS hct hlim hE
  go_enter Try.func50, Try.ntmps50
  go_wp2_with fail
  rw [← HW.out]
  refine Hct.out.mono ?_
  rintro e w1 ⟨⟨A, c⟩, he, hb, hz1, ho⟩
  have he : e = .returned (.slice A ws.length c) := he
  subst he
  have B1 := Lib.hid (below_on B0.out hb)
  have OV := Lib.hid (show Vs w1 w1.heap.size A (ints ws) from ho.o0.vs)
  obtain ⟨M, hM⟩ : ∃ M, M = w1.heap.size := ⟨_, rfl⟩
  rw [← hM] at OV
  have start := Lib.hid (show (w1.alloc (.cells #[] 3)).ownsRow M 3 1 (.slice (some ⟨M, 0, none⟩) 0 0) 0 (ints (cirK ws 0)) by rw [hM]; exact World.ownsRow_made w1 #[] 0 (Nat.le_refl _) (by decide) (by simp))
  have bst := Lib.hid (show Below M w1 (w1.alloc (.cells #[] 3)) by rw [hM]; exact (Below.refl _ _).alloc (Nat.le_refl _) _)
  have hMa := Nat.le_of_eq hM
  have hMb := Nat.le_of_eq hM.symm
  have hw1 : w.heap.size ≤ w1.heap.size := B1.out.size
  clear hb ho hz1
  go_wp2
  rw [← hM]
  clear hM
  go_loopw [6, 7] (fun ov iv wr => ∃ k g cap : Nat, k ≤ ws.length ∧ iv = .int .i64 k ∧ ov = .slice (some ⟨g, 0, none⟩) (cirK ws k).length cap ∧ M ≤ g ∧ wr.ownsRow M 3 1 (.slice (some ⟨g, 0, none⟩) (cirK ws k).length cap) (cirK ws k).length (ints (cirK ws k)) ∧ Below M w1 wr) (fun _ iv _ => ws.length - (intOf iv).toNat)
  case atStart => exact ⟨0, M, 0, Nat.zero_le _, rfl, rfl, Nat.le_refl _, start.out, bst.out⟩
  case round =>
    obtain ⟨k, g, cap, hk, rfl, rfl, hgg, hown, hbel⟩ := hrel
    clear start bst
    have hz := hbel.size
    have Hown := Lib.hid hown
    have Hb := Lib.hid hbel
    have hzM : M ≤ wr.heap.size := by omega
    have hck := cirK_len ws k
    have VR := Lib.hid (OV.out.below hbel (Nat.le_refl _))
    clear hown
    by_cases hlt : k < ws.length
    · have hi1 : (k : Int) < (ws.length : Int) := by omega
      obtain ⟨b1, off1, v0, rfl, hb1, hx, -, hx0⟩ := VR.out.int_ hlt
      have hv0 : ws.getD k 0 = v0 := by rw [List.getD, hx]; rfl
      have hl0 := HL.out k v0 hx
      have hbw : b1 < wr.heap.size := by omega
      obtain ⟨R, hR⟩ : ∃ R, backS ws k ws.length v0 = R := ⟨_, rfl⟩
      have hcir := back_same HL.out hlen hlt
      rw [hv0, hR] at hcir
      have HC := Lib.hid hcir
      have HR := Lib.hid hR
      clear hx hv0 hR hcir hbel
      go_wp2
      obtain ⟨wo, rfl⟩ : ∃ wo : World, wo = wr := ⟨_, rfl⟩
      go_loopw [8, 9] (fun av jv wx => ∃ (j : Nat) (a : Int), j ≤ ws.length ∧ jv = .int .i64 j ∧ av = .int .i64 a ∧ (-1 ≤ a ∧ a < (ws.length : Int)) ∧ wx = wo ∧ Hid (backS ws k (ws.length - j) a = R)) (fun _ jv _ => ws.length - (intOf jv).toNat)
      case atStart => exact ⟨0, v0, Nat.zero_le _, rfl, rfl, hl0, rfl, HR⟩
      case round =>
        obtain ⟨j, a, hj, rfl, rfl, hla, rfl, hrest⟩ := hrel
        clear HR hx0
        by_cases hjn : j < ws.length
        · have hj1 : (j : Int) < (ws.length : Int) := by omega
          have hr2 := hrest.out
          obtain ⟨m, hm⟩ : ∃ m, ws.length - j = m + 1 := ⟨ws.length - j - 1, by omega⟩
          rw [hm, backS] at hr2
          by_cases ha0 : 0 ≤ a
          · by_cases hak : a = (k : Int)
            · rw [if_neg (by omega)] at hr2
              subst hak
              have hcc : cirB ws k = true := by rw [← HC.out, ← hr2]; simp
              have EK := Lib.hid (show ints (cirK ws (k + 1)) = ints (cirK ws k) ++ [.int .i64 (k : Int)] by rw [cirI_next, hcc]; rfl)
              have EL := Lib.hid (show (cirK ws (k + 1)).length = (cirK ws k).length + 1 by rw [cirK_next, hcc]; simp)
              clear hcc hr2 hrest
              go_wp2_with (at_builtin; refine wpList_append_own _ rfl (.tmp 46) (.tmp 48) 51 rfl M 3 i0 _ 1 8 Try.underlying51 hi iz0 iz1 iz2 rfl (by decide) _ (cirK ws k).length _ rfl (Hown.out.alloc _) ⟨_, 0, none⟩ 1 1 [.int .i64 _] rfl rfl (cell1_new _ _ _) (by intro u hu; simp at hu; subst hu; rfl) (by unfold maxLen; omega) (by omega) (by simp; omega) ?_; intro v' w3 own3 grow3 _; obtain ⟨g3, cap3, rfl, hg3, hlt3⟩ := own3.form (by omega); have Own3 := Lib.hid own3; have B3 := Lib.hid ((Hb.out.alloc hzM _).grown grow3 (by simp; omega) (by intro q hq; cases hq; exact hgg)); clear own3 grow3)
              go_roundw
              case rel => exact ⟨k + 1, g3, cap3, by omega, by go_num, by rw [EL.out], hg3, by rw [EL.out, EK.out]; exact Own3.out, B3.out⟩
              case measure => simp [intOf]; omega
            · rw [if_pos ⟨ha0, hak⟩] at hr2
              obtain ⟨a', rfl⟩ := Int.eq_ofNat_of_zero_le ha0
              have ha' : a' < ws.length := by omega
              obtain ⟨b2, off2, v, hA2, hb2, hx, -, hx0⟩ := VR.out.int_ ha'
              injection hA2 with hA2
              injection hA2 with hA2 hA3
              subst hA2
              subst hA3
              have hlv := HL.out a' v hx
              have hv : ws.getD a' 0 = v := by rw [List.getD, hx]; rfl
              rw [Int.toNat_natCast, hv] at hr2
              have HN := Lib.hid (show backS ws k (ws.length - (j + 1)) v = R by rw [show ws.length - (j + 1) = m by omega]; exact hr2)
              have e1 : ((a' : Int) == (k : Int)) = false := by simpa using hak
              have e2 : ((a' : Int) != (k : Int)) = true := by simp <;> omega
              clear hr2 hv hx hrest hm
              go_wp2
              go_roundw
              case rel => exact ⟨j + 1, v, by omega, by go_num, rfl, hlv, by first | rfl | trivial, HN⟩
              case measure => simp [intOf]; omega
          · rw [if_neg (by omega)] at hr2
            have hae : a = -1 := by omega
            subst hae
            have hne : ((-1 : Int) == (k : Int)) = false := by simp <;> omega
            have hcc : cirB ws k = false := by rw [← HC.out, ← hr2, hne]
            have EK := Lib.hid (show ints (cirK ws (k + 1)) = ints (cirK ws k) by rw [cirI_next, hcc]; simp [ints])
            have EL := Lib.hid (show (cirK ws (k + 1)).length = (cirK ws k).length by rw [cirK_next, hcc]; simp)
            clear hcc hr2 hrest
            go_wp2
            go_roundw
            case rel => exact ⟨k + 1, g, cap, by omega, by go_num, by rw [EL.out], hgg, by rw [EL.out, EK.out]; exact Hown.out, Hb.out⟩
            case measure => simp [intOf]; omega
        · have hr2 := hrest.out
          have hj0 : ws.length - j = 0 := by omega
          have hj1 : ¬ (j : Int) < (ws.length : Int) := by omega
          rw [hj0, backS] at hr2
          by_cases hak : a = (k : Int)
          · subst hak
            have hcc : cirB ws k = true := by rw [← HC.out, ← hr2]; simp
            have EK := Lib.hid (show ints (cirK ws (k + 1)) = ints (cirK ws k) ++ [.int .i64 (k : Int)] by rw [cirI_next, hcc]; rfl)
            have EL := Lib.hid (show (cirK ws (k + 1)).length = (cirK ws k).length + 1 by rw [cirK_next, hcc]; simp)
            clear hcc hr2 hrest
            go_wp2_with (at_builtin; refine wpList_append_own _ rfl (.tmp 46) (.tmp 48) 51 rfl M 3 i0 _ 1 8 Try.underlying51 hi iz0 iz1 iz2 rfl (by decide) _ (cirK ws k).length _ rfl (Hown.out.alloc _) ⟨_, 0, none⟩ 1 1 [.int .i64 _] rfl rfl (cell1_new _ _ _) (by intro u hu; simp at hu; subst hu; rfl) (by unfold maxLen; omega) (by omega) (by simp; omega) ?_; intro v' w3 own3 grow3 _; obtain ⟨g3, cap3, rfl, hg3, hlt3⟩ := own3.form (by omega); have Own3 := Lib.hid own3; have B3 := Lib.hid ((Hb.out.alloc hzM _).grown grow3 (by simp; omega) (by intro q hq; cases hq; exact hgg)); clear own3 grow3)
            go_roundw
            case rel => exact ⟨k + 1, g3, cap3, by omega, by go_num, by rw [EL.out], hg3, by rw [EL.out, EK.out]; exact Own3.out, B3.out⟩
            case measure => simp [intOf]; omega
          · have hne : (a == (k : Int)) = false := by simpa using hak
            have hcc : cirB ws k = false := by rw [← HC.out, ← hr2, hne]
            have EK := Lib.hid (show ints (cirK ws (k + 1)) = ints (cirK ws k) by rw [cirI_next, hcc]; simp [ints])
            have EL := Lib.hid (show (cirK ws (k + 1)).length = (cirK ws k).length by rw [cirK_next, hcc]; simp)
            clear hcc hr2 hrest
            go_wp2
            go_roundw
            case rel => exact ⟨k + 1, g, cap, by omega, by go_num, by rw [EL.out], hgg, by rw [EL.out, EK.out]; exact Hown.out, Hb.out⟩
            case measure => simp [intOf]; omega
    · have hkl : k = ws.length := by omega
      subst hkl
      have hfb := Lib.hid (B1.out.trans (hbel.mono (show w.heap.size ≤ M by omega)))
      clear hbel
      go_wp2
      go_ret
      exact ⟨⟨some ⟨g, 0, none⟩, cap⟩, rfl, hfb.out, hfb.out.size, ⟨(own_vs Hown.out rfl).more (by omega) (Nat.le_refl _)⟩⟩
end Go.Proofs.Ytakadejpgndhpaa
