/-
  Whether a record is a state on a machine with views: what the reference model's ViewOk and its helpers come to.
-/
import Derived.Test.YtaghidaamcnpkabNOk
namespace Go.Proofs.Ytaghidaamcnpkab
open Go.RowKit Pl Go.BigFrame
set_option maxHeartbeats 4000000
set_option maxRecDepth 100000
set_option linter.unusedVariables false

def lenB (own : Nts) : Bool := inB (own.length : Int) 1 10
def sntB (N : Nss) (p i : Nat) (n : Nt) : Bool := ntB N p i n && !(n.g && decide (i = 0))
def sntsB (N : Nss) (p : Nat) : Nat → Nts → Bool
  | _, [] => true
  | i, n :: r => sntB N p i n && sntsB N p (i + 1) r
def splacesB (N : Nss) : Nat → Nss → Bool
  | _, [] => true
  | p, own :: r => sntsB N p 0 own && splacesB N (p + 1) r
theorem sntsB_on (N : Nss) (p : Nat) : ∀ (r : Nts) (i : Nat), sntsB N p (i + 1) r = ntsB N p (i + 1) r := by
  intro r
  induction r with
  | nil => intro i; rfl
  | cons n r ih => intro i; simp [sntsB, ntsB, sntB, ih]
theorem placeB_s (N : Nss) (p : Nat) (own : Nts) : placeB N p own = (lenB own && sntsB N p 0 own) := by
  unfold placeB lenB
  cases own with
  | nil => simp [inB]
  | cons a t =>
    rw [sntsB, ntsB, sntsB_on]
    unfold sntB
    simp only [List.headD_cons, decide_true, Bool.and_true]
    cases inB _ 1 10 <;> cases a.g <;> simp
theorem placesB_s (N : Nss) : ∀ (M : Nss) (p : Nat), placesB N p M = (M.all lenB && splacesB N p M) := by
  intro M
  induction M with
  | nil => intro p; rfl
  | cons own r ih =>
    intro p
    rw [placesB, splacesB, List.all_cons, placeB_s, ih]
    cases lenB own <;> cases sntsB N p 0 own <;> cases r.all lenB <;> simp

theorem sview_any (k : NssH) (N : Nss) (A : Option Addr) (x : List Int) (c : Nat) (w : World) (B : Nat) (hN : NssR w B k N) (hx : Vs w B A (ints x)) (hB : B ≤ w.heap.size) (lN : NssL N maxLen) (lx : x.length ≤ maxLen) (h3 : N.length = 3) (r : Bool) (hr : Hid (viewB N x = r)) :
    Calls Try.prog 82 #[NssV k N, .slice A x.length c] w fun e w' => e = .returned (.bool r) ∧ Below w.heap.size w w' := by
  obtain ⟨Ak, ck⟩ := k
  show Calls Try.prog 82 #[.slice Ak N.length ck, .slice A x.length c] w _
  have l1 := lN.l
  have HL := Lib.hid lN.e
  have h3a := Nat.le_of_eq h3
  have h3b := Nat.le_of_eq h3.symm
  clear lN
  unfold maxLen at l1 lx
  by_cases hn : x.length = 3
  · have hn' : ((x.length : Int) != 3) = false := by simp [hn]
    have hle : x.length ≤ N.length := by omega
    have hfin : Hid (vinB N x = r) := Lib.hid (by rw [← hr.out, viewB, hn, h3]; simp)
    clear hr hn h3
    go_enter Try.func82, Try.ntmps82
    go_wp2
    go_loopw [5] (fun i wr => ∃ k : Nat, k ≤ x.length ∧ i = .int .i64 k ∧ Below w.heap.size w wr ∧ Hid (vinB (N.drop k) (x.drop k) = r)) (fun i _ => x.length - (intOf i).toNat)
    case atStart => exact ⟨0, Nat.zero_le _, rfl, Below.refl _ _, by simpa using hfin⟩
    case round =>
      obtain ⟨k, hk, rfl, hbel, hrest⟩ := hrel
      clear hfin hn'
      by_cases hlt : k < x.length
      · obtain ⟨b, off, y, rfl, hb, hy, hd, hx0⟩ := (hx.below hbel hB).int_ hlt
        obtain ⟨b2, off2, n, q, hA2, hb2, hn2, hd2, c2, -⟩ := (hN.below hbel hB).at_ (i := k) (show k < N.length by omega)
        have ln := (HL.out n (List.mem_of_getElem? hn2)).l
        unfold maxLen at ln
        have hi2 : (k : Int) < (N.length : Int) := by omega
        have Hd := Lib.hid hd
        have Hd2 := Lib.hid hd2
        have hA2' : Ak = _ := hA2
        subst hA2'
        have hz := hbel.size
        have gx0 := Ws.same (bs := []) (w0 := wr) (by omega) hx0
        have gy0 := Ws.same (bs := []) (w0 := wr) (by omega) c2
        have HS := Lib.hid (fr_none wr)
        haveI hne := Nonempty.intro (Ws.mk _ (fr_none wr))
        clear hd hd2 hy hn2 hA2 hx0 c2
        rcases Bool.eq_false_or_eq_true (inB y 0 ((n.length : Int) - 1)) with he | he
        all_goals
          have He := Lib.hid he
          clear he
          have LI := Lib.hid (fun v : World => (l1In_b y 0 ((n.length : Int) - 1) v _ He).mono (fun e w' h => (⟨h.1, by rw [← h.2]; exact Below.refl _ _⟩ : e = .returned (.bool _) ∧ Below v.heap.size v w')))
          go_wp2_with fail
          refine region_in (by kernel_rfl) HS.out.drew ?_
          repeat (go_big_quiet_step ((go_at_call 47; exact call_in (LI.out _))))
          refine wpQuiet_nil ?_
          rintro w2 ⟨⟨_, hw2⟩, rfl⟩
          have hB2 : Below w.heap.size w w2 := below_on hbel hw2.below
          clear gx0 gy0
          go_wp2
        · go_roundw
          case rel => exact ⟨k + 1, by omega, by go_num, hB2, Lib.hid (by
            have := hrest.out
            rw [Hd.out, Hd2.out, vinB, He.out] at this
            simpa using this)⟩
          case measure => simp [intOf]; omega
        · go_ret
          refine ⟨?_, hB2⟩
          have := hrest.out
          rw [Hd.out, Hd2.out, vinB, He.out] at this
          rw [← this]; rfl
      · have hlast : Hid (r = true) := Lib.hid (by
          have := hrest.out
          have ez : x.drop k = [] := List.drop_eq_nil_of_le (by omega)
          rw [ez] at this
          rw [← this]; cases (List.drop k N) <;> rfl)
        go_wp2
        go_ret
        exact ⟨by rw [hlast.out]; rfl, hbel⟩
  · have hn' : ((x.length : Int) != 3) = true := by simp; omega
    have hfin : Hid (r = false) := Lib.hid (by rw [← hr.out, viewB, h3]; simp [hn])
    clear hr hn h3
    go_enter Try.func82, Try.ntmps82
    go_wp2
    go_ret
    exact ⟨by rw [hfin.out]; rfl, Below.refl _ _⟩

theorem sviews_any (k : NssH) (N : Nss) (k2 : IssH) (rows : Iss) (c : Int) (w : World) (B : Nat) (hN : NssR w B k N) (hx : IssR w B k2 rows) (hB : B ≤ w.heap.size) (lN : NssL N maxLen) (lx : IssM rows maxLen) (h3 : N.length = 3) (r : Bool) (hr : Hid (viewsB N rows c = r)) :
    Calls Try.prog 83 #[NssV k N, IssV k2 rows, .int .i64 c] w fun e w' => e = .returned (.bool r) ∧ Below w.heap.size w w' := by
  obtain ⟨A2, c2⟩ := k2
  obtain ⟨hv⟩ := hx
  have hv : Vss w B A2 (vsIss rows) := hv
  show Calls Try.prog 83 #[NssV k N, .slice A2 rows.length c2, .int .i64 c] w _
  have l1 := lx.l0
  have HL := Lib.hid lx.l1
  have H3 := Lib.hid h3
  clear lx h3
  unfold maxLen at l1
  obtain ⟨s, hs⟩ : ∃ s, ((rows.length : Int) == c) = s := ⟨_, rfl⟩
  have hfin : Hid ((rows.all (viewB N) && s) = r) := Lib.hid (by rw [← hr.out, viewsB, hs, Bool.and_comm])
  clear hr
  go_enter Try.func83, Try.ntmps83
  go_wp2
  go_loopw [7] (fun i wr => ∃ k : Nat, k ≤ rows.length ∧ i = .int .i64 k ∧ Below w.heap.size w wr ∧ Hid (((rows.drop k).all (viewB N) && s) = r)) (fun i _ => rows.length - (intOf i).toNat)
  case atStart => exact ⟨0, Nat.zero_le _, rfl, Below.refl _ _, by simpa using hfin⟩
  case round =>
    obtain ⟨m, hm, rfl, hbel, hrest⟩ := hrel
    clear hfin
    by_cases hlt : m < rows.length
    · obtain ⟨xs, hxs, hd⟩ := drop_at hlt
      obtain ⟨b, off, Ai, ci, rfl, hb, hx0, hrow⟩ := (hv.below hbel hB).at_ (vsIss_at hxs)
      rw [ints_length] at hx0
      have hl := HL.out xs (List.mem_of_getElem? hxs)
      have Hd := Lib.hid hd
      have Hw := Lib.hid hrow
      have Hb := Lib.hid hbel
      have hz := hbel.size
      have Nr := Lib.hid (hN.below hbel hB)
      clear hd hxs hrow hv hs hbel hN
      rcases Bool.eq_false_or_eq_true (viewB N xs) with he | he
      all_goals
        have He := Lib.hid he
        clear he
        go_wp2_with fail
        refine (sview_any k N Ai xs ci wr B Nr.out Hw.out (by omega) lN hl H3.out _ He).mono ?_
        rintro e w1 ⟨rfl, hb1⟩
        have hB1 := Lib.hid (below_on Hb.out hb1)
        clear hb1
        go_wp2
      · go_roundw
        case rel => exact ⟨m + 1, by omega, by go_num, hB1.out, Lib.hid (by
          have := hrest.out
          rw [Hd.out, List.all_cons, He.out] at this
          simpa using this)⟩
        case measure => simp [intOf]; omega
      · go_ret
        refine ⟨?_, hB1.out⟩
        have := hrest.out
        rw [Hd.out, List.all_cons, He.out] at this
        rw [← this]; rfl
    · have hlast : Hid (s = r) := Lib.hid (by
        have := hrest.out
        rw [List.drop_eq_nil_of_le (by omega)] at this
        simpa using this)
      go_wp2
      go_ret
      exact ⟨by rw [← hlast.out, ← hs]; rfl, hbel⟩

theorem sviewok_any (h : PgH) (L : Pg) (k : VwdH) (o : Vwd) (w : World) (B : Nat) (hP : PgR w B h L) (hS : VwdR w B k o) (hB : B ≤ w.heap.size) (SP : PgS L) (LS : VwdS o) (r : Bool) (hr : Hid (vwB L o = r)) :
    Calls Try.prog 46 #[PgV h L, VwdV k o] w fun e w' => e = .returned (.bool r) ∧ Below w.heap.size w w' := by
  have LP := PgS_L SP
  have LL := VwdS_L LS
  obtain ⟨Ls, Ln, Lv, Ll, Lk, Lf⟩ := LL
  have hll := LP.l
  have hnl := Ln.l
  have hl5 := Ls.l2
  unfold maxLen at hll hnl
  obtain ⟨W, hW⟩ : ∃ W, W = (w.alloc (.cells #[.slice h.A L.length h.c] 32)).alloc (.cells #[.slice k.h.A0 o.st.f0.length k.h.c0, .slice k.h.A1 o.st.f1.length k.h.c1, .slice k.h.A2 o.st.f2.length k.h.c2, .slice k.h.A3 o.st.f3.length k.h.c3, .slice k.h.A4 o.st.f4.length k.h.c4, .slice k.n.A o.n.length k.n.c, .slice k.v.A o.v.length k.v.c, .slice k.l.A o.l.length k.l.c, .slice k.k.A o.k.length k.k.c, .slice k.f.A o.f.length k.f.c] 53) := ⟨_, rfl⟩
  have bW : Below w.heap.size w W := by rw [hW]; go_grown
  have k0 : Bk W w.heap.size 32 #[.slice h.A L.length h.c] := by rw [hW]; exact (Bk.new w _ _).alloc _
  have k1 : Bk W (w.heap.size + 1) 53 #[.slice k.h.A0 o.st.f0.length k.h.c0, .slice k.h.A1 o.st.f1.length k.h.c1, .slice k.h.A2 o.st.f2.length k.h.c2, .slice k.h.A3 o.st.f3.length k.h.c3, .slice k.h.A4 o.st.f4.length k.h.c4, .slice k.n.A o.n.length k.n.c, .slice k.v.A o.v.length k.v.c, .slice k.l.A o.l.length k.l.c, .slice k.k.A o.k.length k.k.c, .slice k.f.A o.f.length k.f.c] := by
    rw [hW]; have := Bk.new (w.alloc (.cells #[.slice h.A L.length h.c] 32)) #[.slice k.h.A0 o.st.f0.length k.h.c0, .slice k.h.A1 o.st.f1.length k.h.c1, .slice k.h.A2 o.st.f2.length k.h.c2, .slice k.h.A3 o.st.f3.length k.h.c3, .slice k.h.A4 o.st.f4.length k.h.c4, .slice k.n.A o.n.length k.n.c, .slice k.v.A o.v.length k.v.c, .slice k.l.A o.l.length k.l.c, .slice k.k.A o.k.length k.k.c, .slice k.f.A o.f.length k.f.c] 53
    rwa [World.size_alloc] at this
  have P0 := Lib.hid (hP.below bW hB)
  have Q0 := Lib.hid (hS.below bW hB)
  have K0 := Lib.hid k0
  have J0 := Lib.hid k1
  have B0 := Lib.hid bW
  have z0 := bW.size
  have HW := Lib.hid hW
  clear hW bW k0 k1 hP hS
  rcases Bool.eq_false_or_eq_true (stB L o.st) with h0 | h0
  rotate_left
  · have hfin : Hid (r = false) := Lib.hid (by rw [← hr.out, vwB]; simp only [h0, Bool.false_and])
    have G := Lib.hid h0
    clear hr h0
    go_enter Try.func46, Try.ntmps46
    go_wp2_with fail
    rw [← HW.out]
    refine (sstok_any h L k.h o.st W B P0.out Q0.out.s (by omega) SP LS.s false G).mono ?_
    rintro e w1 ⟨rfl, hb⟩
    have B1 := Lib.hid (below_on B0.out hb)
    have Q1 := Lib.hid (Q0.out.below hb (by omega))
    have K1 := Lib.hid (K0.out.below hb K0.out.lt)
    have J1 := Lib.hid (J0.out.below hb J0.out.lt)
    have z1 := hb.size
    clear hb P0 Q0 K0 J0 B0
    go_wp2
    go_ret
    exact ⟨by rw [hfin.out]; rfl, B1.out⟩
  have H0 := Lib.hid h0
  rcases Bool.eq_false_or_eq_true (numB o.st.f2 3 0 0) with h1 | h1
  rotate_left
  · have hfin : Hid (r = false) := Lib.hid (by rw [← hr.out, vwB]; simp only [h0, h1, Bool.false_and, Bool.and_false])
    have G := Lib.hid h1
    clear hr h0 h1
    go_enter Try.func46, Try.ntmps46
    go_wp2_with fail
    rw [← HW.out]
    refine (sstok_any h L k.h o.st W B P0.out Q0.out.s (by omega) SP LS.s true H0).mono ?_
    rintro e w1 ⟨rfl, hb⟩
    have B1 := Lib.hid (below_on B0.out hb)
    have Q1 := Lib.hid (Q0.out.below hb (by omega))
    have K1 := Lib.hid (K0.out.below hb K0.out.lt)
    have J1 := Lib.hid (J0.out.below hb J0.out.lt)
    have z1 := hb.size
    clear hb P0 Q0 K0 J0 B0
    have c2 : w1.cell? ⟨w.heap.size + 1, 2, none⟩ = some (.slice k.h.A2 o.st.f2.length k.h.c2) := J1.out.cell 2
    have lJ := J1.out.lt
    go_wp2_with fail
    clear c2
    refine (all_any k.h.A2 o.st.f2 k.h.c2 3 0 0 w1 B Q1.out.s.r2 hl5 false G).mono ?_
    rintro e w' ⟨rfl, rfl⟩
    go_wp2
    go_ret
    exact ⟨by rw [hfin.out]; rfl, B1.out⟩
  have H1 := Lib.hid h1
  by_cases h3 : o.n.length = 3
  rotate_left
  · have hfin : Hid (r = false) := Lib.hid (by rw [← hr.out, vwB, notesB]; simp only [h0, h1, decide_eq_false h3, Bool.false_and, Bool.and_false])
    have hne : ((o.n.length : Int) != 3) = true := by rw [bne_iff_ne]; omega
    clear hr h0 h1 h3
    go_enter Try.func46, Try.ntmps46
    go_wp2_with fail
    rw [← HW.out]
    refine (sstok_any h L k.h o.st W B P0.out Q0.out.s (by omega) SP LS.s true H0).mono ?_
    rintro e w1 ⟨rfl, hb⟩
    have B1 := Lib.hid (below_on B0.out hb)
    have Q1 := Lib.hid (Q0.out.below hb (by omega))
    have K1 := Lib.hid (K0.out.below hb K0.out.lt)
    have J1 := Lib.hid (J0.out.below hb J0.out.lt)
    have z1 := hb.size
    clear hb P0 Q0 K0 J0 B0
    have c2 : w1.cell? ⟨w.heap.size + 1, 2, none⟩ = some (.slice k.h.A2 o.st.f2.length k.h.c2) := J1.out.cell 2
    have lJ := J1.out.lt
    go_wp2_with fail
    clear c2
    refine (all_any k.h.A2 o.st.f2 k.h.c2 3 0 0 w1 B Q1.out.s.r2 hl5 true H1).mono ?_
    rintro e w' ⟨rfl, rfl⟩
    have c5 : w1.cell? ⟨w.heap.size + 1, 5, none⟩ = some (.slice k.n.A o.n.length k.n.c) := J1.out.cell 5
    go_wp2
    go_ret
    exact ⟨by rw [hfin.out]; rfl, B1.out⟩
  have hne : ((o.n.length : Int) != 3) = false := by rw [bne_eq_false_iff_eq]; omega
  obtain ⟨rest, hrest0⟩ : ∃ q, (((viewsB o.n o.v (L.length : Int) && viewsB o.n o.l 2) && viewsB o.n o.k 2) && viewB o.n o.f) = q := ⟨_, rfl⟩
  have hfin : Hid ((o.n.all lenB && (splacesB o.n 0 o.n && rest)) = r) := Lib.hid (by
    rw [← hr.out, ← hrest0, vwB, notesB, placesB_s]
    simp only [h0, h1, h3, decide_true, Bool.true_and, Bool.and_assoc])
  have HRest := Lib.hid hrest0
  have H3 := Lib.hid h3
  have h3a := Nat.le_of_eq h3
  have h3b := Nat.le_of_eq h3.symm
  clear hr h0 h1 h3 hrest0
  obtain ⟨An, cn, hAn⟩ : ∃ A c, k.n = ⟨A, c⟩ := ⟨_, _, rfl⟩
  have HAn := Lib.hid hAn
  clear hAn
  go_enter Try.func46, Try.ntmps46
  go_wp2_with fail
  rw [← HW.out]
  refine (sstok_any h L k.h o.st W B P0.out Q0.out.s (by omega) SP LS.s true H0).mono ?_
  rintro e w1 ⟨rfl, hb⟩
  have B1 := Lib.hid (below_on B0.out hb)
  have Q1 := Lib.hid (Q0.out.below hb (by omega))
  have K1 := Lib.hid (K0.out.below hb K0.out.lt)
  have J1 := Lib.hid (J0.out.below hb J0.out.lt)
  have z1 := hb.size
  clear hb P0 Q0 K0 J0 B0
  have c2 : w1.cell? ⟨w.heap.size + 1, 2, none⟩ = some (.slice k.h.A2 o.st.f2.length k.h.c2) := J1.out.cell 2
  have lJ := J1.out.lt
  go_wp2_with fail
  clear c2
  refine (all_any k.h.A2 o.st.f2 k.h.c2 3 0 0 w1 B Q1.out.s.r2 hl5 true H1).mono ?_
  rintro e w' ⟨rfl, rfl⟩
  have c5 : w1.cell? ⟨w.heap.size + 1, 5, none⟩ = some (.slice An o.n.length cn) := by have := J1.out.cell 5; rw [HAn.out] at this; exact this
  have hBz : B ≤ w.heap.size := hB
  have R1 := Lib.hid (show NssR w1 B ⟨An, cn⟩ o.n from HAn.out ▸ Q1.out.n)
  have HL := Lib.hid Ln.e
  have HLn := Lib.hid Ln
  have HLf := Lib.hid Lf
  clear HW H0 H1
  go_wp2
  go_loop [5] (fun i => ∃ m : Nat, m ≤ 3 ∧ i = .int .i64 m ∧ Hid (((o.n.drop m).all lenB && (splacesB o.n 0 o.n && rest)) = r)) (fun i => 3 - (intOf i).toNat)
  case atStart => exact ⟨0, Nat.zero_le _, rfl, by simpa using hfin⟩
  case round =>
    obtain ⟨m, hm, rfl, hrest⟩ := hrel
    clear hfin hne
    by_cases hlt : m < 3
    · obtain ⟨b2, off2, own, q, hA2, hb2, hn2, hd2, d2, -⟩ := R1.out.at_ (i := m) (show m < o.n.length by omega)
      have ln := (HL.out own (List.mem_of_getElem? hn2)).l
      unfold maxLen at ln
      have hi2 : (m : Int) < (o.n.length : Int) := by omega
      have Hd2 := Lib.hid hd2
      have hA2' : An = _ := hA2
      subst hA2'
      clear hd2 hn2 hA2
      rcases Bool.eq_false_or_eq_true (lenB own) with he | he
      all_goals
        have He := Lib.hid (show inB (own.length : Int) 1 10 = _ from he)
        have He2 := Lib.hid he
        clear he
        go_wp2_with (go_at_call 47; refine (l1In_b _ _ _ _ _ He).mono ?_; rintro e w' ⟨rfl, rfl⟩)
      · go_round
        case rel => exact ⟨m + 1, by omega, by go_num, Lib.hid (by
          have := hrest.out
          rw [Hd2.out, List.all_cons, He2.out] at this
          simpa using this)⟩
        case measure => simp [intOf]; omega
      · go_ret
        refine ⟨?_, B1.out⟩
        have := hrest.out
        rw [Hd2.out, List.all_cons, He2.out] at this
        rw [← this]; rfl
    · have hrest6 : Hid ((splacesB o.n 0 o.n && rest) = r) := Lib.hid (by
        have := hrest.out
        have ez : o.n.drop m = [] := List.drop_eq_nil_of_le (by omega)
        rw [ez] at this
        simpa using this)
      clear hrest
      have hm3 : ¬ (m : Int) < 3 := by omega
      clear c5
      go_wp2
      go_loopw [6] (fun i wr => ∃ p : Nat, p ≤ 3 ∧ i = .int .i64 p ∧ Below w1.heap.size w1 wr ∧ Hid ((splacesB o.n p (o.n.drop p) && rest) = r)) (fun i _ => 3 - (intOf i).toNat)
      case atStart => exact ⟨0, Nat.zero_le _, rfl, Below.refl _ _, by simpa using hrest6⟩
      case round =>
        obtain ⟨p, hp, rfl, hbel, hrest⟩ := hrel
        clear hrest6 hm3
        have zw := hbel.size
        have Hb := Lib.hid hbel
        by_cases hlt2 : p < 3
        · obtain ⟨b2, off2, own, q, hA2, hb2, hn2, hd2, d2, hO⟩ := (R1.out.below hbel (by omega)).at_ (i := p) (show p < o.n.length by omega)
          have lo := HL.out own (List.mem_of_getElem? hn2)
          have ln := lo.l
          have Hlo := Lib.hid lo.e
          unfold maxLen at ln
          have hi2 : (p : Int) < (o.n.length : Int) := by omega
          have Hd2 := Lib.hid hd2
          have HO := Lib.hid hO
          have hA2' : An = _ := hA2
          subst hA2'
          have start7 : Hid ((sntsB o.n p 0 own && (splacesB o.n (p + 1) (o.n.drop (p + 1)) && rest)) = r) := Lib.hid (by
            have := hrest.out
            rw [hd2, splacesB, Bool.and_assoc] at this
            exact this)
          clear hd2 hn2 hA2 hrest lo hO
          obtain ⟨Aq, cq⟩ := q
          have D2 := Lib.hid d2
          have hb2w : b2 < wr.heap.size := by omega
          obtain ⟨wo, rfl⟩ : ∃ wo : World, wo = wr := ⟨_, rfl⟩
          clear hbel d2
          go_wp2
          go_loopw [7] (fun i wr => ∃ m2 : Nat, m2 ≤ own.length ∧ i = .int .i64 m2 ∧ Below wo.heap.size wo wr ∧ Hid ((sntsB o.n p m2 (own.drop m2) && (splacesB o.n (p + 1) (o.n.drop (p + 1)) && rest)) = r)) (fun i _ => own.length - (intOf i).toNat)
          case atStart => exact ⟨0, Nat.zero_le _, rfl, Below.refl _ _, by simpa using start7⟩
          case round =>
            obtain ⟨m2, hm2, rfl, hbel2, hrest2⟩ := hrel
            clear start7
            have zw2 := hbel2.size
            have Bw := Lib.hid (below_on Hb.out hbel2)
            have c5 : wr.cell? ⟨w.heap.size + 1, 5, none⟩ = some (.slice (some ⟨b2, off2, none⟩) o.n.length cn) := by
              have := (J1.out.below Bw.out J1.out.lt).cell 5; rw [HAn.out] at this; exact this
            have lJ := (J1.out.below Bw.out J1.out.lt).lt
            have d2 : wr.cell? ⟨b2, off2 + p, none⟩ = some (.slice Aq own.length cq) := (hbel2.cell (p := ⟨b2, off2 + p, none⟩) hb2w).trans D2.out
            by_cases hlt3 : m2 < own.length
            · obtain ⟨b3, off3, n, ⟨Av, cv⟩, hA3, hb3, hn3, hd3, ⟨e0, e1, e2⟩, hv⟩ := (HO.out.below hbel2 (by omega)).at_ hlt3
              have hA3' : Aq = _ := hA3
              subst hA3'
              have lnw := Hlo.out n (List.mem_of_getElem? hn3)
              have Hd3 := Lib.hid hd3
              have hi3 : (m2 : Int) < (own.length : Int) := by omega
              obtain ⟨W, hW⟩ : ∃ W, W = wr.alloc (.cells #[.int .i64 n.v, .slice Av n.w.length cv, .bool n.g] 127) := ⟨_, rfl⟩
              have bW : Below wr.heap.size wr W := by rw [hW]; go_grown
              have kW : Bk W wr.heap.size 127 #[.int .i64 n.v, .slice Av n.w.length cv, .bool n.g] := by rw [hW]; exact Bk.new _ _ _
              have k0 := kW.cell 0
              have k1 := kW.cell 1
              simp only [List.getElem?_toArray, List.getElem?_cons_zero, List.getElem?_cons_succ] at k0 k1
              have lW := kW.lt
              have KW := Lib.hid kW
              have Nr := Lib.hid ((R1.out.below Bw.out (by omega)).below bW (by omega))
              have Vr := Lib.hid (hv.below bW (by omega))
              have BW := Lib.hid (below_on hbel2 bW)
              have zW := bW.size
              have c5W : W.cell? ⟨w.heap.size + 1, 5, none⟩ = some (.slice (some ⟨b2, off2, none⟩) o.n.length cn) := (bW.cell (p := ⟨w.heap.size + 1, 5, none⟩) lJ).trans c5
              have HW := Lib.hid hW
              clear hd3 hn3 hv hW bW kW hA3 hbel2 Bw
              rcases Bool.eq_false_or_eq_true (inB n.v 0 3) with h1 | h1
              rotate_left
              · have He := Lib.hid h1
                have hlast : Hid (r = false) := Lib.hid (by rw [← hrest2.out, Hd3.out, sntsB, sntB, ntB, h1]; rfl)
                clear h1
                go_wp2_with fail
                rw [← HW.out]
                refine (l1In_b _ _ _ _ _ He).mono ?_
                rintro e w' ⟨rfl, rfl⟩
                go_wp2
                go_ret
                exact ⟨by rw [hlast.out]; rfl, B1.out.trans ((Hb.out.trans (BW.out.mono zw)).mono (by omega))⟩
              have He := Lib.hid h1
              rcases Bool.eq_false_or_eq_true (viewB o.n n.w) with h2 | h2
              rotate_left
              · have He2 := Lib.hid h2
                have hlast : Hid (r = false) := Lib.hid (by rw [← hrest2.out, Hd3.out, sntsB, sntB, ntB, h1, h2]; rfl)
                clear h1 h2
                go_wp2_with fail
                rw [← HW.out]
                refine (l1In_b _ _ _ _ _ He).mono ?_
                rintro e w' ⟨rfl, rfl⟩
                go_wp2_with fail
                refine (sview_any ⟨_, cn⟩ o.n Av n.w cv W B Nr.out Vr.out (by omega) HLn.out lnw H3.out _ He2).mono ?_
                rintro e u ⟨rfl, hbu⟩
                have BU := Lib.hid (below_on BW.out hbu)
                clear hbu
                go_wp2
                go_ret
                exact ⟨by rw [hlast.out]; rfl, B1.out.trans ((Hb.out.trans (BU.out.mono zw)).mono (by omega))⟩
              have He2 := Lib.hid h2
              have hwl := viewB_len h2
              obtain ⟨bv, ov, y, hAv, hbv, hy, -, hv0⟩ := Vr.out.int_ (k := p) (by omega)
              have hyd : n.w.getD p 0 = y := by rw [List.getD_eq_getElem?_getD, hy]; rfl
              have hwl' : (p : Int) < (n.w.length : Int) := by omega
              have hAv' : Av = _ := hAv
              clear hAv hy
              subst hAv'
              by_cases h3 : y = (m2 : Int)
              rotate_left
              · have hne : (y != (m2 : Int)) = true := by rw [bne_iff_ne]; exact h3
                have hlast : Hid (r = false) := Lib.hid (by
                  have := hrest2.out
                  rw [Hd3.out, sntsB, sntB, ntB] at this
                  have h4 : (n.w.getD p 0 == (m2 : Int)) = false := by rw [hyd]; exact beq_eq_false_iff_ne.2 h3
                  simp only [h4, Bool.and_false, Bool.false_and] at this
                  exact this.symm)
                clear h1 h2 h3 hyd hwl
                go_wp2_with fail
                rw [← HW.out]
                refine (l1In_b _ _ _ _ _ He).mono ?_
                rintro e w' ⟨rfl, rfl⟩
                go_wp2_with fail
                refine (sview_any ⟨_, cn⟩ o.n _ n.w cv W B Nr.out Vr.out (by omega) HLn.out lnw H3.out _ He2).mono ?_
                rintro e u ⟨rfl, hbu⟩
                have BU := Lib.hid (below_on BW.out hbu)
                have hv1 := (hbu.cell (p := ⟨bv, ov + p, none⟩) (by show bv < W.heap.size; omega)).trans hv0
                have k1' : u.cell? ⟨wr.heap.size, 1, none⟩ = _ := (hbu.cell (p := ⟨wr.heap.size, 1, none⟩) lW).trans k1
                have hzu := hbu.size
                clear hbu k0 k1 hv0
                go_wp2
                go_ret
                exact ⟨by rw [hlast.out]; rfl, B1.out.trans ((Hb.out.trans (BU.out.mono zw)).mono (by omega))⟩
              have hne : (y != (m2 : Int)) = false := by rw [h3]; exact bne_self_eq_false _
              obtain ⟨g, hg⟩ : ∃ g, n.g = g := ⟨_, rfl⟩
              have KG : Hid (W.cell? ⟨wr.heap.size, 2, none⟩ = some (.bool g)) := Lib.hid (by rw [← hg]; exact KW.out.cell 2)
              obtain ⟨s0, hs0⟩ : ∃ b, ((m2 : Int) == 0) = b := ⟨_, rfl⟩
              have hs1 : decide (m2 = 0) = s0 := by rw [← hs0]; by_cases hz : m2 = 0 <;> simp [hz]
              have hnext : Hid ((!(g && s0) && (sntsB o.n p (m2 + 1) (own.drop (m2 + 1)) && (splacesB o.n (p + 1) (o.n.drop (p + 1)) && rest))) = r) := Lib.hid (by
                have := hrest2.out
                rw [Hd3.out, sntsB, sntB, ntB] at this
                simp only [h1, h2, hyd, h3, beq_self_eq_true, Bool.and_self, Bool.true_and, hg, hs1, Bool.and_assoc] at this
                exact this)
              clear h1 h2 h3 hyd hwl hg hs1 KW
              rcases Bool.eq_false_or_eq_true g with hh | hh
              all_goals
                subst hh
                rcases Bool.eq_false_or_eq_true s0 with hh | hh
                all_goals
                  subst hh
                  go_wp2_with fail
                  rw [← HW.out]
                  refine (l1In_b _ _ _ _ _ He).mono ?_
                  rintro e w' ⟨rfl, rfl⟩
                  go_wp2_with fail
                  refine (sview_any ⟨_, cn⟩ o.n _ n.w cv W B Nr.out Vr.out (by omega) HLn.out lnw H3.out _ He2).mono ?_
                  rintro e u ⟨rfl, hbu⟩
                  have BU := Lib.hid (below_on BW.out hbu)
                  have hv1 := (hbu.cell (p := ⟨bv, ov + p, none⟩) (by show bv < W.heap.size; omega)).trans hv0
                  have k1' : u.cell? ⟨wr.heap.size, 1, none⟩ = _ := (hbu.cell (p := ⟨wr.heap.size, 1, none⟩) lW).trans k1
                  have k2' : u.cell? ⟨wr.heap.size, 2, none⟩ = _ := (hbu.cell (p := ⟨wr.heap.size, 2, none⟩) lW).trans KG.out
                  have hzu := hbu.size
                  clear hbu k0 k1 hv0
                  go_wp2
              · go_ret
                exact ⟨by rw [← hnext.out]; rfl, B1.out.trans ((Hb.out.trans (BU.out.mono zw)).mono (by omega))⟩
              all_goals
                go_roundw
                case rel => exact ⟨m2 + 1, by omega, by go_num, BU.out, by simpa using hnext⟩
                case measure => simp [intOf]; omega
            · have hnext : Hid ((splacesB o.n (p + 1) (o.n.drop (p + 1)) && rest) = r) := Lib.hid (by
                have := hrest2.out
                have ez : own.drop m2 = [] := List.drop_eq_nil_of_le (by omega)
                rw [ez] at this
                simpa [sntsB] using this)
              have hi3 : ¬ (m2 : Int) < (own.length : Int) := by omega
              have BU := Lib.hid (Hb.out.trans (hbel2.mono zw))
              clear hrest2 hbel2 Bw
              go_wp2
              go_roundw
              case rel => exact ⟨p + 1, by omega, by go_num, BU.out, hnext⟩
              case measure => simp [intOf]; omega
        · have hlast : Hid (rest = r) := Lib.hid (by
            have := hrest.out
            have ez : o.n.drop p = [] := List.drop_eq_nil_of_le (by omega)
            rw [ez] at this
            simpa [splacesB] using this)
          have hi3 : ¬ (p : Int) < 3 := by omega
          have Bz := Lib.hid (B1.out.trans (hbel.mono (by omega)))
          have Qz := Lib.hid (Q1.out.below hbel (by omega))
          have Kz := Lib.hid (K1.out.below hbel K1.out.lt)
          have Jz := Lib.hid (J1.out.below hbel J1.out.lt)
          clear hrest hbel Hb

          obtain ⟨s0, hs0⟩ : ∃ s, viewsB o.n o.v (L.length : Int) = s := ⟨_, rfl⟩
          have S0 := Lib.hid hs0
          clear hs0
          obtain ⟨s1, hs1⟩ : ∃ s, viewsB o.n o.l 2 = s := ⟨_, rfl⟩
          have S1 := Lib.hid hs1
          clear hs1
          obtain ⟨s2, hs2⟩ : ∃ s, viewsB o.n o.k 2 = s := ⟨_, rfl⟩
          have S2 := Lib.hid hs2
          clear hs2
          obtain ⟨s3, hs3⟩ : ∃ s, viewB o.n o.f = s := ⟨_, rfl⟩
          have S3 := Lib.hid hs3
          clear hs3
          have hend : Hid (r = (((s0 && s1) && s2) && s3)) := Lib.hid (by rw [← hlast.out, ← HRest.out, S0.out, S1.out, S2.out, S3.out])
          clear hlast HRest
          have c5 : wr.cell? ⟨w.heap.size + 1, 5, none⟩ = some (.slice k.n.A o.n.length k.n.c) := Jz.out.cell 5
          have c6 : wr.cell? ⟨w.heap.size + 1, 6, none⟩ = some (.slice k.v.A o.v.length k.v.c) := Jz.out.cell 6
          have cP : wr.cell? ⟨w.heap.size, 0, none⟩ = some (.slice h.A L.length h.c) := Kz.out.cell 0
          have lJ := Jz.out.lt
          have zz0 := lJ
          go_wp2_with fail
          clear lJ c5 c6 cP
          refine (sviews_any k.n o.n k.v o.v (L.length : Int) wr B Qz.out.n Qz.out.v (by omega) Ln Lv H3.out _ S0).mono ?_
          rintro e v0 ⟨rfl, hb⟩
          have Bv0 := Lib.hid (below_on Bz.out hb)
          have Qv0 := Lib.hid (Qz.out.below hb (by omega))
          have Kv0 := Lib.hid (Kz.out.below hb Kz.out.lt)
          have Jv0 := Lib.hid (Jz.out.below hb Jz.out.lt)
          have zv0 := hb.size
          clear hb
          rcases Bool.eq_false_or_eq_true s0 with hq | hq
          rotate_left
          · subst hq
            go_wp2
            go_ret
            exact ⟨by rw [hend.out]; simp, Bv0.out⟩
          subst hq
          have c5 : v0.cell? ⟨w.heap.size + 1, 5, none⟩ = some (.slice k.n.A o.n.length k.n.c) := Jv0.out.cell 5
          have c7 : v0.cell? ⟨w.heap.size + 1, 7, none⟩ = some (.slice k.l.A o.l.length k.l.c) := Jv0.out.cell 7
          have lJ := Jv0.out.lt
          have zz1 := lJ
          go_wp2_with fail
          clear lJ c5 c7
          refine (sviews_any k.n o.n k.l o.l 2 v0 B Qv0.out.n Qv0.out.l (by omega) Ln Ll H3.out _ S1).mono ?_
          rintro e v1 ⟨rfl, hb⟩
          have Bv1 := Lib.hid (below_on Bv0.out hb)
          have Qv1 := Lib.hid (Qv0.out.below hb (by omega))
          have Kv1 := Lib.hid (Kv0.out.below hb Kv0.out.lt)
          have Jv1 := Lib.hid (Jv0.out.below hb Jv0.out.lt)
          have zv1 := hb.size
          clear hb
          rcases Bool.eq_false_or_eq_true s1 with hq | hq
          rotate_left
          · subst hq
            go_wp2
            go_ret
            exact ⟨by rw [hend.out]; simp, Bv1.out⟩
          subst hq
          have c5 : v1.cell? ⟨w.heap.size + 1, 5, none⟩ = some (.slice k.n.A o.n.length k.n.c) := Jv1.out.cell 5
          have c8 : v1.cell? ⟨w.heap.size + 1, 8, none⟩ = some (.slice k.k.A o.k.length k.k.c) := Jv1.out.cell 8
          have lJ := Jv1.out.lt
          have zz2 := lJ
          go_wp2_with fail
          clear lJ c5 c8
          refine (sviews_any k.n o.n k.k o.k 2 v1 B Qv1.out.n Qv1.out.k (by omega) Ln Lk H3.out _ S2).mono ?_
          rintro e v2 ⟨rfl, hb⟩
          have Bv2 := Lib.hid (below_on Bv1.out hb)
          have Qv2 := Lib.hid (Qv1.out.below hb (by omega))
          have Kv2 := Lib.hid (Kv1.out.below hb Kv1.out.lt)
          have Jv2 := Lib.hid (Jv1.out.below hb Jv1.out.lt)
          have zv2 := hb.size
          clear hb
          rcases Bool.eq_false_or_eq_true s2 with hq | hq
          rotate_left
          · subst hq
            go_wp2
            go_ret
            exact ⟨by rw [hend.out]; simp, Bv2.out⟩
          subst hq
          have c5 : v2.cell? ⟨w.heap.size + 1, 5, none⟩ = some (.slice k.n.A o.n.length k.n.c) := Jv2.out.cell 5
          have c9 : v2.cell? ⟨w.heap.size + 1, 9, none⟩ = some (.slice k.f.A o.f.length k.f.c) := Jv2.out.cell 9
          have lJ := Jv2.out.lt
          have zz3 := lJ
          go_wp2_with fail
          clear lJ c5 c9
          refine (sview_any k.n o.n k.f.A o.f k.f.c v2 B Qv2.out.n Qv2.out.f (by omega) Ln Lf H3.out _ S3).mono ?_
          rintro e v3 ⟨rfl, hb⟩
          have Bv3 := Lib.hid (below_on Bv2.out hb)
          have Qv3 := Lib.hid (Qv2.out.below hb (by omega))
          have Kv3 := Lib.hid (Kv2.out.below hb Kv2.out.lt)
          have Jv3 := Lib.hid (Jv2.out.below hb Jv2.out.lt)
          have zv3 := hb.size
          clear hb
          go_wp2
          go_ret
          exact ⟨by rw [hend.out]; simp, Bv3.out⟩
end Go.Proofs.Ytaghidaamcnpkab
