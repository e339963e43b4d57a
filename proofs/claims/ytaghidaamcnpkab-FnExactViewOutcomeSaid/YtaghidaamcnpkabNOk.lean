/-
  Whether a record is a state on a machine with views: what the program's ViewOk and its helpers come to.
-/
import Derived.Test.YtaghidaamcnpkabVwd
import Derived.Test.YtaghidaamcnpkabStOk
namespace Go.Proofs.Ytaghidaamcnpkab
open Go.RowKit Pl Go.BigFrame
set_option maxHeartbeats 4000000
set_option maxRecDepth 100000
set_option linter.unusedVariables false

def vinB : Nss → List Int → Bool
  | n :: N, i :: x => inB i 0 ((n.length : Int) - 1) && vinB N x
  | _, _ => true
def viewB (N : Nss) (x : List Int) : Bool := decide (x.length = N.length) && vinB N x
def viewsB (N : Nss) (rows : Iss) (c : Int) : Bool := ((rows.length : Int) == c) && rows.all (viewB N)
def ntB (N : Nss) (p i : Nat) (n : Nt) : Bool := (inB n.v 0 3 && viewB N n.w) && (n.w.getD p 0 == (i : Int))
def ntsB (N : Nss) (p : Nat) : Nat → Nts → Bool
  | _, [] => true
  | i, n :: r => ntB N p i n && ntsB N p (i + 1) r
def placeB (N : Nss) (p : Nat) (own : Nts) : Bool := (inB (own.length : Int) 1 10 && !(own.headD default).g) && ntsB N p 0 own
def placesB (N : Nss) : Nat → Nss → Bool
  | _, [] => true
  | p, own :: r => placeB N p own && placesB N (p + 1) r
def notesB (N : Nss) : Bool := decide (N.length = 3) && placesB N 0 N
def vwB (L : Pg) (o : Vwd) : Bool := (((((stB L o.st && numB o.st.f2 3 0 0) && notesB o.n) && viewsB o.n o.v (L.length : Int)) && viewsB o.n o.l 2) && viewsB o.n o.k 2) && viewB o.n o.f

theorem iview_any (k : NssH) (N : Nss) (A : Option Addr) (x : List Int) (c : Nat) (w : World) (B : Nat) (hN : NssR w B k N) (hx : Vs w B A (ints x)) (lN : NssL N maxLen) (lx : x.length ≤ maxLen) (r : Bool) (hr : Hid (viewB N x = r)) :
    Calls Try.prog 92 #[NssV k N, .slice A x.length c] w fun e w' => e = .returned (.bool r) ∧ w = w' := by
  obtain ⟨Ak, ck⟩ := k
  show Calls Try.prog 92 #[.slice Ak N.length ck, .slice A x.length c] w _
  have l1 := lN.l
  have HL := Lib.hid lN.e
  clear lN
  unfold maxLen at l1 lx
  by_cases hn : x.length = N.length
  · have hn' : ((x.length : Int) != (N.length : Int)) = false := by simp [hn]
    have hle : x.length ≤ N.length := by omega
    have hfin : Hid (vinB N x = r) := Lib.hid (by rw [← hr.out, viewB]; simp [hn])
    clear hr hn
    go_enter Try.func92, Try.ntmps92
    go_wp2
    go_loop [14] (fun i => ∃ k : Nat, k ≤ x.length ∧ i = .int .i64 k ∧ Hid (vinB (N.drop k) (x.drop k) = r)) (fun i => x.length - (intOf i).toNat)
    case atStart => exact ⟨0, Nat.zero_le _, rfl, by simpa using hfin⟩
    case round =>
      obtain ⟨k, hk, rfl, hrest⟩ := hrel
      clear hfin hn'
      by_cases hlt : k < x.length
      · obtain ⟨b, off, y, rfl, hb, hy, hd, hx0⟩ := hx.int_ hlt
        obtain ⟨b2, off2, n, q, hA2, hb2, hn2, hd2, c2, -⟩ := hN.at_ (i := k) (show k < N.length by omega)
        have ln := (HL.out n (List.mem_of_getElem? hn2)).l
        unfold maxLen at ln
        have hi2 : (k : Int) < (N.length : Int) := by omega
        have Hd := Lib.hid hd
        have Hd2 := Lib.hid hd2
        have hA2' : Ak = _ := hA2
        subst hA2'
        clear hd hd2 hy hn2 hA2 hN hx
        rcases Bool.eq_false_or_eq_true (inB y 0 ((n.length : Int) - 1)) with he | he
        all_goals
          have He := Lib.hid he
          clear he
          go_wp2_with (go_at_call 116; refine (within_b _ _ _ _ _ He).mono ?_; rintro e w' ⟨rfl, rfl⟩)
        · go_round
          case rel => exact ⟨k + 1, by omega, by go_num, Lib.hid (by
            have := hrest.out
            rw [Hd.out, Hd2.out, vinB, He.out] at this
            simpa using this)⟩
          case measure => simp [intOf]; omega
        · go_ret
          refine ⟨?_, rfl⟩
          have := hrest.out
          rw [Hd.out, Hd2.out, vinB, He.out] at this
          rw [← this]; rfl
      · have hlast : Hid (r = true) := Lib.hid (by
          have := hrest.out
          have ez : x.drop k = [] := List.drop_eq_nil_of_le (by omega)
          rw [ez] at this
          rw [← this]; cases (List.drop k N) <;> rfl)
        go_wp2
        go_ret
        exact ⟨by rw [hlast.out]; rfl, rfl⟩
  · have hn' : ((x.length : Int) != (N.length : Int)) = true := by simp; omega
    have hfin : Hid (r = false) := Lib.hid (by rw [← hr.out, viewB]; simp [hn])
    clear hr hn
    go_enter Try.func92, Try.ntmps92
    go_wp2
    go_ret
    exact ⟨by rw [hfin.out]; rfl, rfl⟩

theorem iviews_any (k : NssH) (N : Nss) (k2 : IssH) (rows : Iss) (c : Int) (w : World) (B : Nat) (hN : NssR w B k N) (hx : IssR w B k2 rows) (lN : NssL N maxLen) (lx : IssM rows maxLen) (r : Bool) (hr : Hid (viewsB N rows c = r)) :
    Calls Try.prog 91 #[NssV k N, IssV k2 rows, .int .i64 c] w fun e w' => e = .returned (.bool r) ∧ w = w' := by
  obtain ⟨A2, c2⟩ := k2
  obtain ⟨hv⟩ := hx
  have hv : Vss w B A2 (vsIss rows) := hv
  show Calls Try.prog 91 #[NssV k N, .slice A2 rows.length c2, .int .i64 c] w _
  have l1 := lx.l0
  have HL := Lib.hid lx.l1
  clear lx
  unfold maxLen at l1
  by_cases hn : (rows.length : Int) = c
  · have hn' : ((rows.length : Int) != c) = false := by simp [hn]
    have hfin : Hid (rows.all (viewB N) = r) := Lib.hid (by rw [← hr.out, viewsB]; simp [hn])
    clear hr hn
    go_enter Try.func91, Try.ntmps91
    go_wp2
    go_loop [15] (fun i => ∃ k : Nat, k ≤ rows.length ∧ i = .int .i64 k ∧ Hid ((rows.drop k).all (viewB N) = r)) (fun i => rows.length - (intOf i).toNat)
    case atStart => exact ⟨0, Nat.zero_le _, rfl, by simpa using hfin⟩
    case round =>
      obtain ⟨m, hm, rfl, hrest⟩ := hrel
      clear hfin hn'
      by_cases hlt : m < rows.length
      · obtain ⟨xs, hxs, hd⟩ := drop_at hlt
        obtain ⟨b, off, Ai, ci, rfl, hb, hx0, hrow⟩ := hv.at_ (vsIss_at hxs)
        rw [ints_length] at hx0
        have hl := HL.out xs (List.mem_of_getElem? hxs)
        have Hd := Lib.hid hd
        have Hw := Lib.hid hrow
        clear hd hxs hrow hv
        rcases Bool.eq_false_or_eq_true (viewB N xs) with he | he
        all_goals
          have He := Lib.hid he
          clear he
          go_wp2_with (go_at_call 92; refine (iview_any k N Ai xs ci _ B hN Hw.out lN hl _ He).mono ?_; rintro e w' ⟨rfl, rfl⟩)
        · go_round
          case rel => exact ⟨m + 1, by omega, by go_num, Lib.hid (by
            have := hrest.out
            rw [Hd.out, List.all_cons, He.out] at this
            simpa using this)⟩
          case measure => simp [intOf]; omega
        · go_ret
          refine ⟨?_, rfl⟩
          have := hrest.out
          rw [Hd.out, List.all_cons, He.out] at this
          rw [← this]; rfl
      · have hlast : Hid (r = true) := Lib.hid (by
          have := hrest.out
          rw [List.drop_eq_nil_of_le (by omega)] at this
          rw [← this]; rfl)
        go_wp2
        go_ret
        exact ⟨by rw [hlast.out]; rfl, rfl⟩
  · have hn' : ((rows.length : Int) != c) = true := by simp [hn]
    have hfin : Hid (r = false) := Lib.hid (by rw [← hr.out, viewsB]; simp [hn])
    clear hr hn
    go_enter Try.func91, Try.ntmps91
    go_wp2
    go_ret
    exact ⟨by rw [hfin.out]; rfl, rfl⟩

theorem viewB_len {N : Nss} {x : List Int} (h : viewB N x = true) : x.length = N.length := by
  unfold viewB at h
  simp only [Bool.and_eq_true, decide_eq_true_eq] at h
  exact h.1
theorem ipnotes_any (k : NssH) (N : Nss) (p : Nat) (own : Nts) (w : World) (B : Nat) (hN : NssR w B k N) (hB : B ≤ w.heap.size) (lN : NssL N maxLen) (hp : N[p]? = some own) (r : Bool) (hr : Hid (placeB N p own = r)) :
    Calls Try.prog 126 #[NssV k N, .int .i64 (p : Int)] w fun e w' => e = .returned (.bool r) ∧ Below w.heap.size w w' := by
  obtain ⟨Ak, ck⟩ := k
  have hpl : p < N.length := (List.getElem?_eq_some_iff.1 hp).1
  obtain ⟨b, off, own', q, hA, hb, ho, -, c0, hO⟩ := hN.at_ hpl
  obtain rfl : own = own' := by rw [hp] at ho; injection ho
  have hA' : Ak = _ := hA
  have HN := Lib.hid hN
  have HlN := Lib.hid lN
  subst hA'
  have lo := lN.e own (List.mem_of_getElem? hp)
  have l1 := lo.l
  have l0 := lN.l
  have HL := Lib.hid lo.e
  unfold maxLen at l1 l0
  clear hA ho hN lN lo
  have hp2 : (p : Int) < (N.length : Int) := by omega
  show Calls Try.prog 126 #[.slice (some ⟨b, off, none⟩) N.length ck, .int .i64 (p : Int)] w _
  rcases Bool.eq_false_or_eq_true (inB (own.length : Int) 1 10) with h1 | h1
  rotate_left
  · have hfin : Hid (r = false) := Lib.hid (by rw [← hr.out, placeB, h1]; rfl)
    have H1 := Lib.hid h1
    clear h1 hr
    go_enter Try.func126, Try.ntmps126
    go_wp2_with (go_at_call 116; refine (within_b _ _ _ _ _ H1.out).mono ?_; rintro e w' ⟨rfl, rfl⟩)
    go_ret
    exact ⟨by rw [hfin.out]; rfl, Below.refl _ _⟩
  have hlen : 1 ≤ own.length ∧ own.length ≤ 10 := by
    unfold inB at h1
    simp only [Bool.and_eq_true, decide_eq_true_eq] at h1
    omega
  have H1 := Lib.hid h1
  obtain ⟨bo, fo, x0, q0, hA0, hbo, hx0, -, ⟨-, -, g2⟩, -⟩ := hO.at_ (i := 0) (by omega)
  have hh : own.headD default = x0 := by cases own with
    | nil => simp at hx0
    | cons a t => simpa using hx0
  obtain ⟨Aq, cq⟩ := q
  have hA0' : Aq = _ := hA0
  rcases Bool.eq_false_or_eq_true x0.g with h2 | h2
  · have hfin : Hid (r = false) := Lib.hid (by rw [← hr.out, placeB, hh, h2]; simp)
    rw [h2] at g2
    subst hA0'
    rw [Nat.zero_mul, Nat.add_zero] at g2
    clear h1 hr hA0 hx0 hh
    go_enter Try.func126, Try.ntmps126
    go_wp2_with (go_at_call 116; refine (within_b _ _ _ _ _ H1.out).mono ?_; rintro e w' ⟨rfl, rfl⟩)
    go_ret
    exact ⟨by rw [hfin.out]; rfl, Below.refl _ _⟩
  have hfin : Hid (ntsB N p 0 own = r) := Lib.hid (by rw [← hr.out, placeB, hh, h2, h1]; simp)
  rw [h2] at g2
  subst hA0'
  rw [Nat.zero_mul, Nat.add_zero] at g2
  have HO := Lib.hid hO
  clear h1 h2 hr hA0 hx0 hh hO
  go_enter Try.func126, Try.ntmps126
  go_wp2_with (go_at_call 116; refine (within_b _ _ _ _ _ H1.out).mono ?_; rintro e w' ⟨rfl, rfl⟩)
  go_loopw [24] (fun i wr => ∃ m : Nat, m ≤ own.length ∧ i = .int .i64 m ∧ Below w.heap.size w wr ∧ Hid (ntsB N p m (own.drop m) = r)) (fun i _ => own.length - (intOf i).toNat)
  case atStart => exact ⟨0, Nat.zero_le _, rfl, Below.refl _ _, by simpa using hfin⟩
  case round =>
    obtain ⟨m, hm, rfl, hbel, hrest⟩ := hrel
    clear hfin c0 g2
    by_cases hlt : m < own.length
    · obtain ⟨b1, off1, n, q1, hA1, hb1, hn, hd, ⟨d0, d1, d2⟩, hv⟩ := (HO.out.below hbel hB).at_ hlt
      have hA1' : some (⟨bo, fo, none⟩ : Addr) = some ⟨b1, off1, none⟩ := hA1
      injection hA1' with hA1'
      injection hA1' with e1 e2
      subst e1 e2
      have ln := HL.out n (List.mem_of_getElem? hn)
      have hz := hbel.size
      have Hd := Lib.hid hd
      have Hb := Lib.hid hbel
      have hi1 : (m : Int) < (own.length : Int) := by omega
      obtain ⟨W, hW⟩ : ∃ W, W = wr.alloc (.cells #[.int .i64 n.v, .slice q1.A n.w.length q1.c, .bool n.g] 127) := ⟨_, rfl⟩
      have bW : Below wr.heap.size wr W := by rw [hW]; go_grown
      have kW : Bk W wr.heap.size 127 #[.int .i64 n.v, .slice q1.A n.w.length q1.c, .bool n.g] := by rw [hW]; exact Bk.new _ _ _
      have k0 := kW.cell 0
      have k1 := kW.cell 1
      simp only [List.getElem?_toArray, List.getElem?_cons_zero, List.getElem?_cons_succ] at k0 k1
      have lW := kW.lt
      have Nr := Lib.hid ((HN.out.below hbel hB).below bW (by omega))
      have Vr := Lib.hid (hv.below bW (by omega))
      have BW := Lib.hid (below_on hbel bW)
      have HW := Lib.hid hW
      clear hd hbel hn hv hW bW kW hA1
      rcases Bool.eq_false_or_eq_true (inB n.v 0 3) with h1 | h1
      rotate_left
      · have He := Lib.hid h1
        have hlast : Hid (r = false) := Lib.hid (by rw [← hrest.out, Hd.out, ntsB, ntB, h1]; rfl)
        clear h1
        go_wp2_with fail
        rw [← HW.out]
        refine (within_b _ _ _ _ _ He).mono ?_
        rintro e w' ⟨rfl, rfl⟩
        go_wp2
        go_ret
        exact ⟨by rw [hlast.out]; rfl, BW.out⟩
      have He := Lib.hid h1
      rcases Bool.eq_false_or_eq_true (viewB N n.w) with h2 | h2
      rotate_left
      · have He2 := Lib.hid h2
        have hlast : Hid (r = false) := Lib.hid (by rw [← hrest.out, Hd.out, ntsB, ntB, h1, h2]; rfl)
        clear h1 h2
        go_wp2_with fail
        rw [← HW.out]
        refine (within_b _ _ _ _ _ He).mono ?_
        rintro e w' ⟨rfl, rfl⟩
        go_wp2_with fail
        refine (iview_any ⟨_, ck⟩ N q1.A n.w q1.c W B Nr.out Vr.out HlN.out ln _ He2).mono ?_
        rintro e w' ⟨rfl, rfl⟩
        go_wp2
        go_ret
        exact ⟨by rw [hlast.out]; rfl, BW.out⟩
      have He2 := Lib.hid h2
      have hwl := viewB_len h2
      obtain ⟨bv, ov, y, hAv, hbv, hy, -, hv0⟩ := Vr.out.int_ (k := p) (by omega)
      have hyd : n.w.getD p 0 = y := by rw [List.getD_eq_getElem?_getD, hy]; rfl
      have hwl' : (p : Int) < (n.w.length : Int) := by omega
      obtain ⟨Av, cv⟩ := q1
      have hAv' : Av = _ := hAv
      obtain ⟨nv, nw, ng⟩ := n
      simp only at *
      clear hAv
      subst hAv'
      by_cases h3 : y = (m : Int)
      · have hne : (y != (m : Int)) = false := by rw [h3]; exact bne_self_eq_false _
        have hnext : Hid (ntsB N p (m + 1) (own.drop (m + 1)) = r) := Lib.hid (by
          have := hrest.out
          rw [Hd.out, ntsB, ntB] at this
          simp only [h1, h2, hyd, h3, beq_self_eq_true, Bool.and_self, Bool.true_and] at this
          exact this)
        clear h1 h2 h3 hyd hwl hy
        go_wp2_with fail
        rw [← HW.out]
        refine (within_b _ _ _ _ _ He).mono ?_
        rintro e w' ⟨rfl, rfl⟩
        go_wp2_with fail
        refine (iview_any ⟨_, ck⟩ N _ nw cv W B Nr.out Vr.out HlN.out ln _ He2).mono ?_
        rintro e w' ⟨rfl, rfl⟩
        go_wp2
        go_roundw
        case rel => exact ⟨m + 1, by omega, by go_num, BW.out, hnext⟩
        case measure => simp [intOf]; omega
      · have hne : (y != (m : Int)) = true := by rw [bne_iff_ne]; exact h3
        have hlast : Hid (r = false) := Lib.hid (by
          have := hrest.out
          rw [Hd.out, ntsB, ntB] at this
          have h4 : (nw.getD p 0 == (m : Int)) = false := by rw [hyd]; exact beq_eq_false_iff_ne.2 h3
          simp only [h4, Bool.and_false, Bool.false_and] at this
          exact this.symm)
        clear h1 h2 h3 hyd hwl hy
        go_wp2_with fail
        rw [← HW.out]
        refine (within_b _ _ _ _ _ He).mono ?_
        rintro e w' ⟨rfl, rfl⟩
        go_wp2_with fail
        refine (iview_any ⟨_, ck⟩ N _ nw cv W B Nr.out Vr.out HlN.out ln _ He2).mono ?_
        rintro e w' ⟨rfl, rfl⟩
        go_wp2
        go_ret
        exact ⟨by rw [hlast.out]; rfl, BW.out⟩
    · have hlast : Hid (r = true) := Lib.hid (by
        have := hrest.out
        rw [List.drop_eq_nil_of_le (by omega)] at this
        rw [← this]; rfl)
      go_wp2
      go_ret
      exact ⟨by rw [hlast.out]; rfl, hbel⟩
theorem inotes_any (k : NssH) (N : Nss) (w : World) (B : Nat) (hN : NssR w B k N) (hB : B ≤ w.heap.size) (lN : NssL N maxLen) (r : Bool) (hr : Hid (notesB N = r)) :
    Calls Try.prog 90 #[NssV k N] w fun e w' => e = .returned (.bool r) ∧ Below w.heap.size w w' := by
  have l0 := lN.l
  unfold maxLen at l0
  by_cases hn : N.length = 3
  · have hn' : ((N.length : Int) != 3) = false := by simp [hn]
    have hfin : Hid (placesB N 0 N = r) := Lib.hid (by rw [← hr.out, notesB]; simp [hn])
    clear hr hn
    go_enter Try.func90, Try.ntmps90
    go_wp2
    go_loopw [9] (fun i wr => ∃ m : Nat, m ≤ N.length ∧ i = .int .i64 m ∧ Below w.heap.size w wr ∧ Hid (placesB N m (N.drop m) = r)) (fun i _ => N.length - (intOf i).toNat)
    case atStart => exact ⟨0, Nat.zero_le _, rfl, Below.refl _ _, by simpa using hfin⟩
    case round =>
      obtain ⟨m, hm, rfl, hbel, hrest⟩ := hrel
      clear hfin hn'
      by_cases hlt : m < N.length
      · obtain ⟨own, hown, hd⟩ := drop_at hlt
        have Hd := Lib.hid hd
        have Ho := Lib.hid hown
        have Nr := Lib.hid (hN.below hbel hB)
        have Hb := Lib.hid hbel
        have hz := hbel.size
        clear hd hown hbel
        rcases Bool.eq_false_or_eq_true (placeB N m own) with he | he
        all_goals
          have He := Lib.hid he
          clear he
          go_wp2_with fail
          refine (ipnotes_any k N m own wr B Nr.out (by omega) lN Ho.out _ He).mono ?_
          rintro e w1 ⟨rfl, hb1⟩
          have hB1 := Lib.hid (below_on Hb.out hb1)
          clear hb1
          go_wp2
        · go_roundw
          case rel => exact ⟨m + 1, by omega, by go_num, hB1.out, Lib.hid (by
            have := hrest.out
            rw [Hd.out, placesB, He.out] at this
            simpa using this)⟩
          case measure => simp [intOf]; omega
        · go_ret
          refine ⟨?_, hB1.out⟩
          have := hrest.out
          rw [Hd.out, placesB, He.out] at this
          rw [← this]; rfl
      · have hlast : Hid (r = true) := Lib.hid (by
          have := hrest.out
          rw [List.drop_eq_nil_of_le (by omega)] at this
          rw [← this]; rfl)
        go_wp2
        go_ret
        exact ⟨by rw [hlast.out]; rfl, hbel⟩
  · have hn' : ((N.length : Int) != 3) = true := by simp; omega
    have hfin : Hid (r = false) := Lib.hid (by rw [← hr.out, notesB]; simp [hn])
    clear hr hn
    go_enter Try.func90, Try.ntmps90
    go_wp2
    go_ret
    exact ⟨by rw [hfin.out]; rfl, Below.refl _ _⟩
end Go.Proofs.Ytaghidaamcnpkab
