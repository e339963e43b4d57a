/-
  What the reference model's ViewWays comes to.
-/
import Derived.Test.YtaghidaamcnpkabSNFr
import Derived.Test.YtaghidaamcnpkabSNOk
import Derived.Deep.QuietTactic
namespace Go.Proofs.Ytaghidaamcnpkab
open Go.RowKit Pl Go.BigFrame
set_option maxHeartbeats 8000000
set_option maxRecDepth 100000
set_option linter.unusedVariables false

theorem mayB_load (o : Vwd) (p i : Nat) : mayB (wayR o p) false i = true := rfl
theorem mayB_free (o : Vwd) (p i : Nat) : mayB (wayR o p) true i = freeB (o.n.getD p []) (i + 1) := by
  unfold mayB mpB freeB wayR
  rw [List.getElem?_map]
  cases (o.n.getD p [])[i + 1]? with
  | none => rfl
  | some x =>
    show (false || !((ntF x 0 : Int) == 1)) = !x.g
    have e : ntF x 0 = if x.g then 1 else 0 := by unfold ntF swF upd; simp
    rw [e]
    cases x.g <;> rfl
theorem bk_grow9 {w w' : World} {row : Option Nat} {b : Nat} {t : TypeId} {cs : Array Value} (h : Bk w b t cs) (hg : w.grownBy w' row) (hne : some b ≠ row) : Bk w' b t cs := (hg.block b h.lt hne).trans h
theorem own_ne {w : World} {base g n cap X : Nat} {xs : List Value} {cs : Array Value} (h : w.ownsRow base 3 1 (.slice (some ⟨g, 0, none⟩) n cap) n xs) (hb : Bk w X 107 cs) : g ≠ X := by
  rintro rfl
  obtain ⟨-, h1⟩ := h
  rcases h1 with ⟨h1, -⟩ | ⟨g', cap', cur, e1, -, e3, -⟩
  · cases h1
  · injection e1 with e4
    injection e4 with e4
    injection e4 with e5
    subst e5
    have h2 := e3.symm.trans hb
    injection h2 with h2
    injection h2 with _ h3
    exact absurd h3 (by decide)
theorem kind_load {x : Sm} {p : Nat} (hp : placeZ x.k x.a x.b x.c x.s = (p : Int)) : writesB x.k x.a x.b x.c x.s = !(x.k == 1) := by
  have hp0 : ¬ placeZ x.k x.a x.b x.c x.s = -1 := by omega
  unfold placeZ at hp0
  unfold writesB
  split at hp0
  · rename_i hk
    rw [hk, Bool.true_and]
    split at hp0
    · rename_i h2
      rw [h2]; rfl
    · split at hp0
      · rename_i h3
        rcases h3 with h3 | h3 | h3 <;> rw [h3] <;> rfl
      · exact absurd rfl hp0
  · exact absurd rfl hp0
theorem sways9_any (h : PgH) (L : Pg) (k : VwdH) (o : Vwd) (t : Nat) (w : World) (B : Nat) (hP : PgR w B h L) (hR : VwdR w B k o) (hB : B ≤ w.heap.size) (H : VwP L o) (ht : t < L.length) :
    Calls Try.prog 48 #[PgV h L, VwdV k o, .int .i64 t] w (AnsIlW w (if nxZ L o.st t then wayT L o t else [])) := by
  obtain ⟨i0_, hi, iz0, iz1, iz2⟩ := info_parts Try.info3
  obtain ⟨W, hW⟩ : ∃ W, W = ((w.alloc (.cells #[.slice h.A L.length h.c] 32)).alloc (.cells #[.slice k.h.A0 o.st.f0.length k.h.c0, .slice k.h.A1 o.st.f1.length k.h.c1, .slice k.h.A2 o.st.f2.length k.h.c2, .slice k.h.A3 o.st.f3.length k.h.c3, .slice k.h.A4 o.st.f4.length k.h.c4, .slice k.n.A o.n.length k.n.c, .slice k.v.A o.v.length k.v.c, .slice k.l.A o.l.length k.l.c, .slice k.k.A o.k.length k.k.c, .slice k.f.A o.f.length k.f.c] 53)).alloc (.cells #[] 3) := ⟨_, rfl⟩
  have bW : Below w.heap.size w W := by rw [hW]; go_grown
  have sW : W.heap.size = w.heap.size + 1 + 1 + 1 := by rw [hW]; simp
  have k0 : Bk W w.heap.size 32 #[.slice h.A L.length h.c] := by rw [hW]; exact ((Bk.new w _ _).alloc _).alloc _
  have k1 : Bk W (w.heap.size + 1) 53 #[.slice k.h.A0 o.st.f0.length k.h.c0, .slice k.h.A1 o.st.f1.length k.h.c1, .slice k.h.A2 o.st.f2.length k.h.c2, .slice k.h.A3 o.st.f3.length k.h.c3, .slice k.h.A4 o.st.f4.length k.h.c4, .slice k.n.A o.n.length k.n.c, .slice k.v.A o.v.length k.v.c, .slice k.l.A o.l.length k.l.c, .slice k.k.A o.k.length k.k.c, .slice k.f.A o.f.length k.f.c] := by
    rw [hW]; have := (Bk.new (w.alloc (.cells #[.slice h.A L.length h.c] 32)) #[.slice k.h.A0 o.st.f0.length k.h.c0, .slice k.h.A1 o.st.f1.length k.h.c1, .slice k.h.A2 o.st.f2.length k.h.c2, .slice k.h.A3 o.st.f3.length k.h.c3, .slice k.h.A4 o.st.f4.length k.h.c4, .slice k.n.A o.n.length k.n.c, .slice k.v.A o.v.length k.v.c, .slice k.l.A o.l.length k.l.c, .slice k.k.A o.k.length k.k.c, .slice k.f.A o.f.length k.f.c] 53).alloc (.cells #[] 3)
    rwa [World.size_alloc] at this
  have o0 : W.ownsRow (w.heap.size + 1 + 1) 3 1 (.slice (some ⟨w.heap.size + 1 + 1, 0, none⟩) 0 0) 0 (ints []) := by
    rw [hW]
    obtain ⟨V, hV⟩ : ∃ V, V = (w.alloc (.cells #[.slice h.A L.length h.c] 32)).alloc (.cells #[.slice k.h.A0 o.st.f0.length k.h.c0, .slice k.h.A1 o.st.f1.length k.h.c1, .slice k.h.A2 o.st.f2.length k.h.c2, .slice k.h.A3 o.st.f3.length k.h.c3, .slice k.h.A4 o.st.f4.length k.h.c4, .slice k.n.A o.n.length k.n.c, .slice k.v.A o.v.length k.v.c, .slice k.l.A o.l.length k.l.c, .slice k.k.A o.k.length k.k.c, .slice k.f.A o.f.length k.f.c] 53) := ⟨_, rfl⟩
    rw [← hV]
    have e : w.heap.size + 1 + 1 = V.heap.size := by rw [hV]; simp
    rw [e]
    exact World.ownsRow_made V #[] 0 (Nat.le_refl _) (by decide) (by simp)
  have P0 := Lib.hid (hP.below bW hB)
  have R0 := Lib.hid (hR.below bW hB)
  have K0 := Lib.hid k0
  have J0 := Lib.hid k1
  have B0 := Lib.hid bW
  have O0 := Lib.hid o0
  have z0 := bW.size
  have sWa := Nat.le_of_eq sW
  have sWb := Nat.le_of_eq sW.symm
  have HW := Lib.hid hW
  have HH := Lib.hid H
  have P := H.st
  have p31 := P.n1
  have p32 := P.n3
  have HN3 := Lib.hid H.ns.n3
  clear hW bW sW k0 k1 o0 hP hR H
  have c0 : W.cell? ⟨w.heap.size, 0, none⟩ = some (.slice h.A L.length h.c) := K0.out.cell 0
  have y0 : W.cell? ⟨w.heap.size + 1, 0, none⟩ = some (.slice k.h.A0 o.st.f0.length k.h.c0) := J0.out.cell 0
  have y1 : W.cell? ⟨w.heap.size + 1, 1, none⟩ = some (.slice k.h.A1 o.st.f1.length k.h.c1) := J0.out.cell 1
  have y2 : W.cell? ⟨w.heap.size + 1, 2, none⟩ = some (.slice k.h.A2 o.st.f2.length k.h.c2) := J0.out.cell 2
  have y3 : W.cell? ⟨w.heap.size + 1, 3, none⟩ = some (.slice k.h.A3 o.st.f3.length k.h.c3) := J0.out.cell 3
  have y4 : W.cell? ⟨w.heap.size + 1, 4, none⟩ = some (.slice k.h.A4 o.st.f4.length k.h.c4) := J0.out.cell 4
  have l0 := K0.out.lt
  have l1 := J0.out.lt
  have hv00 := P.v0 t (o.st.f0.getD t 0) (at_getD 0 (by rw [P.m0]; exact ht))
  by_cases hd : ((L.getD t []).length : Int) ≤ o.st.f0.getD t 0
  · have eR : Hid ((if nxZ L o.st t then wayT L o t else []) = []) := Lib.hid (by
      have : nxZ L o.st t = false := by unfold nxZ; rw [decide_eq_false (by omega), Bool.false_and]
      rw [this]; rfl)
    rw [eR.out]
    have HNX := Lib.hid (snext_no h L k.h o.st t W B P0.out R0.out.s (by omega) P ht hd)
    clear P
    go_enter Try.func48, Try.ntmps48
    go_wp2_with (rw [← HW.out])
    refine HNX.out.mono ?_
    rintro e w1 ⟨rfl, hb1⟩
    have B1 := Lib.hid (below_on B0.out hb1)
    clear hb1 c0 y0 y1 y2 y3 y4
    go_wp2
    go_ret
    exact ⟨⟨some ⟨w.heap.size + 1 + 1, 0, none⟩, 0⟩, rfl, by first | exact B1.out | exact B1.out.alloc B1.out.size _, by have := B1.out.size; first | omega | (simp; omega), ⟨OwnVs.nil _ _ _ _ _⟩⟩
  obtain ⟨i, hi0⟩ : ∃ i : Nat, o.st.f0.getD t 0 = (i : Int) := ⟨(o.st.f0.getD t 0).toNat, by omega⟩
  have hlt : i < (L.getD t []).length := by omega
  obtain ⟨r, hr⟩ : ∃ r, okZ o.st t (smAt L t i) = r := ⟨_, rfl⟩
  have enx : nxZ L o.st t = r := by unfold nxZ; rw [decide_eq_true (by omega), Bool.true_and, hi0, Int.toNat_natCast, hr]
  obtain ⟨x, hx⟩ : ∃ x, smAt L t i = x := ⟨_, rfl⟩
  have enS : nxS L o t = x := by unfold nxS; rw [hi0, Int.toNat_natCast, hx]
  have HNX := Lib.hid (show Calls Try.prog 84 #[PgV h L, StaV k.h o.st, .int .i64 t] W fun e w' => e = .returned (.tuple #[.agg #[.int .i64 x.k, .int .i64 x.a, .int .i64 x.b, .int .i64 x.c, .bool x.s], .bool r]) ∧ Below W.heap.size W w' by
    have := snext_yes h L k.h o.st t W B P0.out R0.out.s (by omega) P ht i hi0 hlt r (Lib.hid hr)
    rw [hx] at this
    exact this)
  cases r
  · rw [enx]
    clear P hr enS hx hd
    go_enter Try.func48, Try.ntmps48
    go_wp2_with (rw [← HW.out])
    refine HNX.out.mono ?_
    rintro e w1 ⟨rfl, hb1⟩
    have B1 := Lib.hid (below_on B0.out hb1)
    clear hb1 c0 y0 y1 y2 y3 y4
    go_wp2
    go_ret
    exact ⟨⟨some ⟨w.heap.size + 1 + 1, 0, none⟩, 0⟩, rfl, by first | exact B1.out | exact B1.out.alloc B1.out.size _, by have := B1.out.size; first | omega | (simp; omega), ⟨OwnVs.nil _ _ _ _ _⟩⟩
  rw [enx, if_pos rfl]
  obtain ⟨E, hE⟩ : ∃ E, wayT L o t = E := ⟨_, rfl⟩
  rw [hE]
  rcases place_in x.k x.a x.b x.c x.s with hp | ⟨p, hp3, hp⟩
  · have eE : Hid (E = [0]) := Lib.hid (by rw [← hE, wayT, enS, if_pos hp])
    rw [eE.out]
    have HPL := Lib.hid (fun (V : World) => show Calls Try.prog 85 #[.agg #[.int .i64 x.k, .int .i64 x.a, .int .i64 x.b, .int .i64 x.c, .bool x.s]] V fun e w' => e = .returned (.int .i64 (-1)) ∧ Below V.heap.size V w' by
      have := splace_any x.k x.a x.b x.c x.s V
      rw [hp] at this
      exact this)
    clear P hr enS hx hd hE
    go_enter Try.func48, Try.ntmps48
    go_wp2_with (rw [← HW.out])
    refine HNX.out.mono ?_
    rintro e w1 ⟨rfl, hb1⟩
    have B1 := Lib.hid (below_on B0.out hb1)
    have O1 := Lib.hid (World.ownsRow.kept O0.out (grown_of_below hb1 none) (by simp [Value.ownBlock]))
    have z1 := hb1.size
    clear hb1 c0 y0 y1 y2 y3 y4 l0 l1
    go_wp2_with fail
    refine (HPL.out _).mono ?_
    rintro e w2 ⟨rfl, hb2⟩
    have bA : Below w1.heap.size w1 (w1.alloc (.cells #[.int .i64 x.k, .int .i64 x.a, .int .i64 x.b, .int .i64 x.c, .bool x.s] 107)) := (Below.refl _ _).alloc (Nat.le_refl _) _
    have b12 : Below w1.heap.size w1 w2 := bA.trans (hb2.mono bA.size)
    have B2 := Lib.hid (below_on B1.out b12)
    have O2 := Lib.hid (World.ownsRow.kept O1.out (grown_of_below b12 none) (by simp [Value.ownBlock]))
    have z2 := b12.size
    clear bA b12 hb2
    go_wp2_with (at_builtin; refine wpList_append_own _ rfl (.tmp 29) (.tmp 30) 25 rfl (w.heap.size + 1 + 1) 3 i0_ _ 1 8 Try.underlying25 hi iz0 iz1 iz2 rfl (by decide) _ 0 _ rfl (O2.out.alloc _) ⟨_, 0, none⟩ 1 1 [.int .i64 _] rfl rfl (cell1_new _ _ _) (by intro u hu; simp at hu; subst hu; rfl) (by unfold maxLen; omega) (by omega) (by simp; omega) ?_; intro v' w7 own7 grow7 _; obtain ⟨g7, cap7, rfl, hg7, hlt7⟩ := own7.form (by omega); have Own7 := Lib.hid own7; have B7 := Lib.hid ((B2.out.alloc (show w.heap.size ≤ w2.heap.size by omega) _).grown grow7 (by simp; omega) (by intro q hq; cases hq; exact Nat.le_trans (Nat.le_succ _) (Nat.le_succ _))); clear own7 grow7)
    go_ret
    exact ⟨⟨some ⟨g7, 0, none⟩, cap7⟩, rfl, B7.out, B7.out.size, ⟨(own_vs Own7.out rfl).more (by omega) (Nat.le_refl _)⟩⟩
  · obtain ⟨c, hcw⟩ : ∃ c, writesB x.k x.a x.b x.c x.s = c := ⟨_, rfl⟩
    have hck := kind_load hp
    rw [hcw] at hck
    replace hck := Lib.hid hck
    have eE : E = wayP o c t p := by rw [← hE, wayT, enS, if_neg (by rw [hp]; omega), hcw, hp, Int.toNat_natCast]
    obtain ⟨hv1, hv2⟩ := views_small (c := L.length) HH.out.ns HH.out.v
    have htv : (t : Int) < (o.v.length : Int) := by omega
    have htv2 : t < o.v.length := by omega
    clear hv1 hv2
    have hvv : viewB o.n (o.v.getD t []) = true := by
      have := HH.out.v
      unfold viewsB at this
      rw [Bool.and_eq_true] at this
      exact List.all_eq_true.1 this.2 _ (mem_getD [] htv2)
    obtain ⟨rw0, hrw⟩ : ∃ r, o.v.getD t [] = r := ⟨_, rfl⟩
    have hvt : o.v[t]? = some rw0 := by
      rw [← hrw]; exact at_getD [] htv2
    obtain ⟨rr, hrr⟩ : ∃ r, o.n.getD p [] = r := ⟨_, rfl⟩
    have hnp : o.n[p]? = some rr := by
      rw [← hrr]; exact at_getD [] (by rw [HN3.out]; exact hp3)
    rw [hrw] at hvv
    obtain ⟨hr3, -⟩ := view_small HH.out.ns hvv
    have hvi : rw0[p]? = some (rw0.getD p 0) := at_getD 0 (by omega)
    have hv2 := hvv
    unfold viewB at hv2
    rw [Bool.and_eq_true] at hv2
    obtain ⟨hv3, hv4⟩ := vinB_at hv2.2 hnp hvi
    obtain ⟨j0, hj0⟩ : ∃ j : Nat, rw0.getD p 0 = (j : Int) := ⟨(rw0.getD p 0).toNat, by omega⟩
    rw [hj0] at hvi hv4
    have eS : wayR o p = rr.map ntF := by unfold wayR; rw [hrr]
    have lS : (wayR o p).length = rr.length := by rw [eS, List.length_map]
    have hl16 : rr.length ≤ 16 := (HH.out.np.l rr (List.mem_of_getElem? hnp)).2
    obtain ⟨S, hS⟩ : ∃ S, wayR o p = S := ⟨_, rfl⟩
    have eE2 : E = way9 S c j0 (rr.length - j0) := by rw [eE, wayP, hrw, hj0, Int.toNat_natCast, hS, ← lS, hS]
    have HMB := Lib.hid (show c = true → ∀ i, mayB S c i = freeB rr (i + 1) by
      intro hc i
      rw [hc, ← hS, mayB_free, hrr])
    have HML := Lib.hid (show c = false → ∀ i, mayB S c i = true by
      intro hc i
      rw [hc]; rfl)
    have EE := Lib.hid eE2
    have HPL := Lib.hid (fun (V : World) => show Calls Try.prog 85 #[.agg #[.int .i64 x.k, .int .i64 x.a, .int .i64 x.b, .int .i64 x.c, .bool x.s]] V fun e w' => e = .returned (.int .i64 p) ∧ Below V.heap.size V w' by
      have := splace_any x.k x.a x.b x.c x.s V
      rw [hp] at this
      exact this)
    have HVT := Lib.hid hvt
    have HNP := Lib.hid hnp
    have HVI := Lib.hid hvi
    clear P hr enS hx hd hE hcw eE hvv hvt hnp hvi hv2 hv3 eS lS hS eE2 hp hrw hrr hj0
    clear hi0
    go_enter Try.func48, Try.ntmps48
    go_wp2_with (rw [← HW.out])
    refine HNX.out.mono ?_
    rintro e w1 ⟨rfl, hb1⟩
    have B1 := Lib.hid (below_on B0.out hb1)
    have O1 := Lib.hid (World.ownsRow.kept O0.out (grown_of_below hb1 none) (by simp [Value.ownBlock]))
    have z1 := hb1.size
    have R1 := Lib.hid (R0.out.below hb1 (by omega))
    have J1 := Lib.hid (J0.out.below hb1 J0.out.lt)
    clear hb1 c0 y0 y1 y2 y3 y4 l0 l1 R0 J0 O0 B0 K0 P0
    go_wp2_with fail
    refine (HPL.out _).mono ?_
    rintro e w2 ⟨rfl, hb2⟩
    have bA : Below w1.heap.size w1 (w1.alloc (.cells #[.int .i64 x.k, .int .i64 x.a, .int .i64 x.b, .int .i64 x.c, .bool x.s] 107)) := (Below.refl _ _).alloc (Nat.le_refl _) _
    have b12 : Below w1.heap.size w1 w2 := bA.trans (hb2.mono bA.size)
    have B2 := Lib.hid (below_on B1.out b12)
    have KX := Lib.hid (show Bk w2 w1.heap.size 107 #[.int .i64 x.k, .int .i64 x.a, .int .i64 x.b, .int .i64 x.c, .bool x.s] from (Bk.new w1 #[.int .i64 x.k, .int .i64 x.a, .int .i64 x.b, .int .i64 x.c, .bool x.s] 107).below hb2 (by simp))
    have O2 := Lib.hid (World.ownsRow.kept O1.out (grown_of_below b12 none) (by simp [Value.ownBlock]))
    have z2 := b12.size
    have R2 := Lib.hid (R1.out.below b12 (by omega))
    have J2 := Lib.hid (J1.out.below b12 J1.out.lt)
    clear bA b12 hb2 R1 J1 O1 B1 HPL
    obtain ⟨bb, off, Ai, ci, hA, hbb, hcr, hrow⟩ := R2.out.v.v.at_ (vsIss_at HVT.out)
    obtain ⟨b3, off3, xv, hA3, hb3, hx3, -, hc3⟩ := hrow.int_ (k := p) (by omega)
    rw [HVI.out] at hx3
    injection hx3 with hx3
    subst hx3
    have y6 : w2.cell? ⟨w.heap.size + 1, 6, none⟩ = some (.slice k.v.A o.v.length k.v.c) := J2.out.cell 6
    have l1 := J2.out.lt
    have hbw : bb < w2.heap.size := by omega
    have hb3w : b3 < w2.heap.size := by omega
    rw [ints_length] at hcr
    have hpr : (p : Int) < (rw0.length : Int) := by omega
    rw [hA] at y6
    rw [hA3] at hcr
    have ep : decide ((p : Int) < 0) = false := decide_eq_false (by omega)
    clear hA hA3 hrow HVT HVI
    go_wp2_with fail
    clear y6 l1 hcr hc3
    have zM : w.heap.size + 1 + 1 < w2.heap.size := by omega
    obtain ⟨M, hM⟩ : ∃ M, w.heap.size + 1 + 1 = M := ⟨_, rfl⟩
    rw [hM] at O2 ⊢
    have hMw : w.heap.size ≤ M := by omega
    have hM2 : M < w2.heap.size := by omega
    have hM3 : w.heap.size + 1 < M := by omega
    have hX1 := KX.out.lt
    have hjl : (j0 : Int) < (rr.length : Int) := by omega
    obtain ⟨X, hX⟩ : ∃ X, w1.heap.size = X := ⟨_, rfl⟩
    rw [hX] at KX ⊢
    have hMX : M < X := by omega
    clear hX1 hX
    have hX1 := KX.out.lt
    go_loopw [7, 12] (fun ov iv wr => ∃ n g cap : Nat, j0 + n ≤ rr.length ∧ iv = .int .i64 ((j0 + n : Nat) : Int) ∧ ov = .slice (some ⟨g, 0, none⟩) (way9 S c j0 n).length cap ∧ M ≤ g ∧ wr.ownsRow M 3 1 (.slice (some ⟨g, 0, none⟩) (way9 S c j0 n).length cap) (way9 S c j0 n).length (ints (way9 S c j0 n)) ∧ Bk wr X 107 #[.int .i64 x.k, .int .i64 x.a, .int .i64 x.b, .int .i64 x.c, .bool x.s] ∧ Below M w2 wr) (fun _ iv _ => rr.length - (intOf iv).toNat)
    case atStart => exact ⟨0, M, 0, by omega, rfl, rfl, Nat.le_refl _, O2.out, KX.out, Below.refl _ _⟩
    case round =>
      obtain ⟨n, g, cap, hn, rfl, rfl, hgg, hown, hkx, hbel⟩ := hrel
      clear O2
      have hXg := own_ne hown hkx
      have hz := hbel.size
      have Hown := Lib.hid hown
      have Hx := Lib.hid hkx
      have Hb := Lib.hid hbel
      have hwl := way9_len S c j0 n
      have hXr := hkx.lt
      clear hown hkx
      by_cases hlt : j0 + n < rr.length
      · have hi1 : ((j0 + n : Nat) : Int) < (rr.length : Int) := by omega
        have Rr := R2.out.below hbel (by omega)
        have RR := Lib.hid Rr
        obtain ⟨bb5, off5, r5, kN, hA5, hbb5, hr5, -, hc5, -⟩ := Rr.n.at_ (i := p) (by rw [HN3.out]; exact hp3)
        rw [HNP.out] at hr5
        injection hr5 with hr5
        subst hr5
        have Jr := J2.out.below hbel hM3
        have y0 : wr.cell? ⟨w.heap.size + 1, 0, none⟩ = some (.slice k.h.A0 o.st.f0.length k.h.c0) := Jr.cell 0
        have y1 : wr.cell? ⟨w.heap.size + 1, 1, none⟩ = some (.slice k.h.A1 o.st.f1.length k.h.c1) := Jr.cell 1
        have y2 : wr.cell? ⟨w.heap.size + 1, 2, none⟩ = some (.slice k.h.A2 o.st.f2.length k.h.c2) := Jr.cell 2
        have y3 : wr.cell? ⟨w.heap.size + 1, 3, none⟩ = some (.slice k.h.A3 o.st.f3.length k.h.c3) := Jr.cell 3
        have y4 : wr.cell? ⟨w.heap.size + 1, 4, none⟩ = some (.slice k.h.A4 o.st.f4.length k.h.c4) := Jr.cell 4
        have y5 : wr.cell? ⟨w.heap.size + 1, 5, none⟩ = some (.slice k.n.A o.n.length k.n.c) := Jr.cell 5
        have y6 : wr.cell? ⟨w.heap.size + 1, 6, none⟩ = some (.slice k.v.A o.v.length k.v.c) := Jr.cell 6
        have y7 : wr.cell? ⟨w.heap.size + 1, 7, none⟩ = some (.slice k.l.A o.l.length k.l.c) := Jr.cell 7
        have y8 : wr.cell? ⟨w.heap.size + 1, 8, none⟩ = some (.slice k.k.A o.k.length k.k.c) := Jr.cell 8
        have y9 : wr.cell? ⟨w.heap.size + 1, 9, none⟩ = some (.slice k.f.A o.f.length k.f.c) := Jr.cell 9
        have lJ := Jr.lt
        have st0 : wr.cell? ⟨X, 0, none⟩ = some (.int .i64 x.k) := Hx.out.cell 0
        have hbw5 : bb5 < wr.heap.size := by omega
        have hpn : (p : Int) < (o.n.length : Int) := by rw [HN3.out]; omega
        clear hbel Rr Jr
        cases c
        · have hk1 : x.k = 1 := by have h9 := hck.out; simpa using h9
          rw [hk1] at st0
          have hm : mayB S false (j0 + n) = true := HML.out rfl _
          have EK := Lib.hid (show ints (way9 S false j0 (n + 1)) = ints (way9 S false j0 n) ++ [.int .i64 ((j0 + n : Nat) : Int)] by rw [way9_yes hm]; simp [ints])
          have EL := Lib.hid (show (way9 S false j0 (n + 1)).length = (way9 S false j0 n).length + 1 by rw [way9_yes hm]; simp)
          rw [hA5] at y5
          clear hm hck hk1 y0 y1 y2 y3 y4 y6 y7 y8 y9
          go_wp2_with (at_builtin; refine wpList_append_own _ rfl (.tmp 54) (.tmp 56) 25 rfl M 3 i0_ _ 1 8 Try.underlying25 hi iz0 iz1 iz2 rfl (by decide) _ (way9 S _ j0 n).length _ rfl (Hown.out.alloc _) ⟨_, 0, none⟩ 1 1 [.int .i64 _] rfl rfl (cell1_new _ _ _) (by intro u hu; simp at hu; subst hu; rfl) (by unfold maxLen; omega) (by omega) (by simp; omega) ?_; intro v' w7 own7 grow7 _; obtain ⟨g7, cap7, rfl, hg7, hlt7⟩ := own7.form (by omega); have K7 := Lib.hid (bk_grow9 (Hx.out.alloc (.cells #[.int .i64 _] 3)) grow7 (fun h => hXg (Option.some.inj h).symm)); have Own7 := Lib.hid own7; have B7 := Lib.hid ((Hb.out.alloc (show M ≤ wr.heap.size by omega) _).grown grow7 (by simp; omega) (by intro q hq; cases hq; exact hgg)); clear own7 grow7)
          go_roundw
          case rel => exact ⟨n + 1, g7, cap7, by omega, by go_num, by rw [EL.out], hg7, by rw [EL.out, EK.out]; exact Own7.out, K7.out, B7.out⟩
          case measure => simp [intOf]; omega
        · have hk1 : (x.k == 1) = false := by have h9 := hck.out; simpa using h9
          have hk2 : ¬ x.k = 1 := by simpa using hk1
          obtain ⟨fr, hfr⟩ : ∃ f, freeB rr (j0 + n + 1) = f := ⟨_, rfl⟩
          have hm := HMB.out rfl (j0 + n)
          rw [hfr] at hm
          have HF := Lib.hid (show Calls Try.prog 86 #[VwdV k o, .int .i64 p, .int .i64 (((j0 + n : Nat) : Int) + 1)] wr fun e w' => e = .returned (.bool fr) ∧ Below wr.heap.size wr w' from
            sfree_any k o p (j0 + n + 1) rr wr B RR.out (by omega) HNP.out (by omega) (by rw [HN3.out]; exact Nat.le_refl _) fr (Lib.hid hfr))
          have hA5' := Lib.hid hA5
          clear hfr hck
          rw [hA5] at y5
          go_wp2_with fail
          trace_state
          rw [← hA5'.out]
          refine HF.out.mono ?_
          rintro e wa ⟨rfl, hba⟩
          have Oa := Lib.hid (World.ownsRow.kept Hown.out (grown_of_below hba none) (by simp [Value.ownBlock]))
          have Ka := Lib.hid (Hx.out.below hba hXr)
          have Ba := Lib.hid (Hb.out.trans (hba.mono (show M ≤ wr.heap.size by omega)))
          have za := hba.size
          clear hba y0 y1 y2 y3 y4 y5 y6 y7 y8 y9 st0 lJ hc5
          cases fr
          · have EL := Lib.hid (way9_no hm)
            clear hm
            go_wp2
            go_roundw
            case rel => exact ⟨n + 1, g, cap, by omega, by go_num, by rw [EL.out], hgg, by rw [EL.out]; exact Oa.out, Ka.out, Ba.out⟩
            case measure => simp [intOf]; omega
          · have EK := Lib.hid (show ints (way9 S true j0 (n + 1)) = ints (way9 S true j0 n) ++ [.int .i64 ((j0 + n : Nat) : Int)] by rw [way9_yes hm]; simp [ints])
            have EL := Lib.hid (show (way9 S true j0 (n + 1)).length = (way9 S true j0 n).length + 1 by rw [way9_yes hm]; simp)
            clear hm
            go_wp2_with (at_builtin; refine wpList_append_own _ rfl (.tmp 63) (.tmp 65) 25 rfl M 3 i0_ _ 1 8 Try.underlying25 hi iz0 iz1 iz2 rfl (by decide) _ (way9 S _ j0 n).length _ rfl (Oa.out.alloc _) ⟨_, 0, none⟩ 1 1 [.int .i64 _] rfl rfl (cell1_new _ _ _) (by intro u hu; simp at hu; subst hu; rfl) (by unfold maxLen; omega) (by omega) (by simp; omega) ?_; intro v' w7 own7 grow7 _; obtain ⟨g7, cap7, rfl, hg7, hlt7⟩ := own7.form (by omega); have K7 := Lib.hid (bk_grow9 (Ka.out.alloc (.cells #[.int .i64 _] 3)) grow7 (fun h => hXg (Option.some.inj h).symm)); have Own7 := Lib.hid own7; have B7 := Lib.hid ((Ba.out.alloc (show M ≤ wa.heap.size by omega) _).grown grow7 (by simp; omega) (by intro q hq; cases hq; exact hgg)); clear own7 grow7)
            go_roundw
            case rel => exact ⟨n + 1, g7, cap7, by omega, by go_num, by rw [EL.out], hg7, by rw [EL.out, EK.out]; exact Own7.out, K7.out, B7.out⟩
            case measure => simp [intOf]; omega
      · have hjl2 : j0 + n = rr.length := by omega
        have hi1 : ¬ ((j0 + n : Nat) : Int) < (rr.length : Int) := by omega
        have hns : rr.length - j0 = n := by omega
        have Rr := R2.out.below hbel (by omega)
        obtain ⟨bb5, off5, r5, kN, hA5, hbb5, hr5, -, hc5, -⟩ := Rr.n.at_ (i := p) (by rw [HN3.out]; exact hp3)
        rw [HNP.out] at hr5
        injection hr5 with hr5
        subst hr5
        have y5 : wr.cell? ⟨w.heap.size + 1, 5, none⟩ = some (.slice k.n.A o.n.length k.n.c) := (J2.out.below hbel hM3).cell 5
        have lJ := (J2.out.below hbel hM3).lt
        have hbw5 : bb5 < wr.heap.size := by omega
        have hpn : (p : Int) < (o.n.length : Int) := by rw [HN3.out]; omega
        have hfb := Lib.hid (B2.out.trans (hbel.mono hMw))
        rw [hA5] at y5
        clear hbel Rr
        go_wp2
        go_ret
        have ee : E = way9 S c j0 n := by rw [EE.out, hns]
        rw [ee]
        exact ⟨⟨some ⟨g, 0, none⟩, cap⟩, rfl, hfb.out, hfb.out.size, ⟨(own_vs Hown.out rfl).more (by omega) (Nat.le_refl _)⟩⟩
theorem sviewways_any (h : PgH) (L : Pg) (k : VwdH) (o : Vwd) (th : Int) (w : World) (B : Nat) (hP : PgR w B h L) (hS : VwdR w B k o) (hB : B ≤ w.heap.size) (SP : PgS L) (LS : VwdS o) :
    Calls Try.prog 19 #[PgV h L, VwdV k o, .int .i64 th] w (AnsIlW w (wayE L o th)) := by
  obtain ⟨W, hW⟩ : ∃ W, W = (w.alloc (.cells #[.slice h.A L.length h.c] 32)).alloc (.cells #[.slice k.h.A0 o.st.f0.length k.h.c0, .slice k.h.A1 o.st.f1.length k.h.c1, .slice k.h.A2 o.st.f2.length k.h.c2, .slice k.h.A3 o.st.f3.length k.h.c3, .slice k.h.A4 o.st.f4.length k.h.c4, .slice k.n.A o.n.length k.n.c, .slice k.v.A o.v.length k.v.c, .slice k.l.A o.l.length k.l.c, .slice k.k.A o.k.length k.k.c, .slice k.f.A o.f.length k.f.c] 53) := ⟨_, rfl⟩
  have bW : Below w.heap.size w W := by rw [hW]; go_grown
  have k0 : Bk W w.heap.size 32 #[.slice h.A L.length h.c] := by rw [hW]; exact (Bk.new w _ _).alloc _
  have k1 : Bk W (w.heap.size + 1) 53 #[.slice k.h.A0 o.st.f0.length k.h.c0, .slice k.h.A1 o.st.f1.length k.h.c1, .slice k.h.A2 o.st.f2.length k.h.c2, .slice k.h.A3 o.st.f3.length k.h.c3, .slice k.h.A4 o.st.f4.length k.h.c4, .slice k.n.A o.n.length k.n.c, .slice k.v.A o.v.length k.v.c, .slice k.l.A o.l.length k.l.c, .slice k.k.A o.k.length k.k.c, .slice k.f.A o.f.length k.f.c] := by
    rw [hW]; have := Bk.new (w.alloc (.cells #[.slice h.A L.length h.c] 32)) #[.slice k.h.A0 o.st.f0.length k.h.c0, .slice k.h.A1 o.st.f1.length k.h.c1, .slice k.h.A2 o.st.f2.length k.h.c2, .slice k.h.A3 o.st.f3.length k.h.c3, .slice k.h.A4 o.st.f4.length k.h.c4, .slice k.n.A o.n.length k.n.c, .slice k.v.A o.v.length k.v.c, .slice k.l.A o.l.length k.l.c, .slice k.k.A o.k.length k.k.c, .slice k.f.A o.f.length k.f.c] 53
    rwa [World.size_alloc] at this
  have P0 := Lib.hid (hP.below bW hB)
  have Q0 := Lib.hid (hS.below bW hB)
  have K0 := Lib.hid k0
  have J0 := Lib.hid k1
  have B0 := Lib.hid bW
  have z0 := bW.size
  have HW := Lib.hid hW
  have hll := SP.l
  obtain ⟨E, hE⟩ : ∃ E, wayE L o th = E := ⟨_, rfl⟩
  rw [hE]
  have HE := Lib.hid hE
  clear hW bW k0 k1 hP hS hE
  have hc0 : W.cell? ⟨w.heap.size, 0, none⟩ = some (.slice h.A L.length h.c) := K0.out.cell 0
  have hk0 := K0.out.lt
  have hk1 := J0.out.lt
  rcases Bool.eq_false_or_eq_true (vwB L o) with hv | hv
  rotate_left
  · have eE : Hid (E = []) := Lib.hid (by rw [← HE.out, wayE, hv]; rfl)
    have HV := Lib.hid hv
    clear hv HE
    go_enter Try.func19, Try.ntmps19
    go_wp2_with fail
    rw [← HW.out]
    refine (sviewok_any h L k o W B P0.out Q0.out (by omega) SP LS false HV).mono ?_
    rintro e w1 ⟨rfl, hb⟩
    have B1 := Lib.hid (below_on B0.out hb)
    clear hb hc0
    go_wp2
    go_ret
    rw [eE.out]
    exact ⟨⟨none, 0⟩, rfl, B1.out, B1.out.size, ⟨OwnVs.nil _ _ _ _ _⟩⟩
  have H := vwB_parts hv
  have HV := Lib.hid hv
  have HH := Lib.hid H
  rcases Bool.eq_false_or_eq_true (inB th 0 ((L.length : Int) - 1)) with hi | hi
  rotate_left
  · have eE : Hid (E = []) := Lib.hid (by rw [← HE.out, wayE, hi, Bool.false_and, Bool.and_false]; rfl)
    have HI := Lib.hid hi
    clear hv hi HE H
    go_enter Try.func19, Try.ntmps19
    go_wp2_with fail
    rw [← HW.out]
    refine (sviewok_any h L k o W B P0.out Q0.out (by omega) SP LS true HV).mono ?_
    rintro e w1 ⟨rfl, hb⟩
    have B1 := Lib.hid (below_on B0.out hb)
    have K1 := Lib.hid (K0.out.below hb K0.out.lt)
    clear hb hc0
    have c0 : w1.cell? ⟨w.heap.size, 0, none⟩ = some (.slice h.A L.length h.c) := K1.out.cell 0
    have l0 := K1.out.lt
    go_wp2_with (go_at_call 47; refine (ret_bool HI.out (l1In_any th 0 ((L.length : Int) - 1) _)).mono ?_; rintro e w' ⟨rfl, rfl⟩)
    go_ret
    rw [eE.out]
    exact ⟨⟨none, 0⟩, rfl, B1.out, B1.out.size, ⟨OwnVs.nil _ _ _ _ _⟩⟩
  · obtain ⟨t, rfl⟩ : ∃ t : Nat, th = (t : Int) := ⟨th.toNat, by simp [inB] at hi; omega⟩
    have ht : t < L.length := by simp [inB] at hi; omega
    have eE : Hid ((if nxZ L o.st t then wayT L o t else []) = E) := Lib.hid (by rw [← HE.out, wayE, hv, hi, Int.toNat_natCast, Bool.true_and, Bool.true_and])
    have HI := Lib.hid hi
    have HWY := Lib.hid (fun (V : World) (hPV : PgR V B h L) (hSV : VwdR V B k o) (hBV : B ≤ V.heap.size) => show Calls Try.prog 48 #[PgV h L, VwdV k o, .int .i64 t] V (AnsIlW V E) by
      have := sways9_any h L k o t V B hPV hSV hBV HH.out ht
      rw [eE.out] at this
      exact this)
    clear hv hi HE H
    go_enter Try.func19, Try.ntmps19
    go_wp2_with fail
    rw [← HW.out]
    refine (sviewok_any h L k o W B P0.out Q0.out (by omega) SP LS true HV).mono ?_
    rintro e w1 ⟨rfl, hb⟩
    have B1 := Lib.hid (below_on B0.out hb)
    have z1 := hb.size
    have P1 := Lib.hid (P0.out.below hb (by omega))
    have Q1 := Lib.hid (Q0.out.below hb (by omega))
    have K1 := Lib.hid (K0.out.below hb K0.out.lt)
    have J1 := Lib.hid (J0.out.below hb J0.out.lt)
    clear hb hc0 hk0 hk1
    have c0 : w1.cell? ⟨w.heap.size, 0, none⟩ = some (.slice h.A L.length h.c) := K1.out.cell 0
    have y0 : w1.cell? ⟨w.heap.size + 1, 0, none⟩ = some (.slice k.h.A0 o.st.f0.length k.h.c0) := J1.out.cell 0
    have y1 : w1.cell? ⟨w.heap.size + 1, 1, none⟩ = some (.slice k.h.A1 o.st.f1.length k.h.c1) := J1.out.cell 1
    have y2 : w1.cell? ⟨w.heap.size + 1, 2, none⟩ = some (.slice k.h.A2 o.st.f2.length k.h.c2) := J1.out.cell 2
    have y3 : w1.cell? ⟨w.heap.size + 1, 3, none⟩ = some (.slice k.h.A3 o.st.f3.length k.h.c3) := J1.out.cell 3
    have y4 : w1.cell? ⟨w.heap.size + 1, 4, none⟩ = some (.slice k.h.A4 o.st.f4.length k.h.c4) := J1.out.cell 4
    have y5 : w1.cell? ⟨w.heap.size + 1, 5, none⟩ = some (.slice k.n.A o.n.length k.n.c) := J1.out.cell 5
    have y6 : w1.cell? ⟨w.heap.size + 1, 6, none⟩ = some (.slice k.v.A o.v.length k.v.c) := J1.out.cell 6
    have y7 : w1.cell? ⟨w.heap.size + 1, 7, none⟩ = some (.slice k.l.A o.l.length k.l.c) := J1.out.cell 7
    have y8 : w1.cell? ⟨w.heap.size + 1, 8, none⟩ = some (.slice k.k.A o.k.length k.k.c) := J1.out.cell 8
    have y9 : w1.cell? ⟨w.heap.size + 1, 9, none⟩ = some (.slice k.f.A o.f.length k.f.c) := J1.out.cell 9
    have l0 := K1.out.lt
    have l1 := J1.out.lt
    go_wp2_with (go_at_call 47; refine (ret_bool HI.out (l1In_any (t : Int) 0 ((L.length : Int) - 1) _)).mono ?_; rintro e w' ⟨rfl, rfl⟩)
    refine (HWY.out w1 P1.out Q1.out (by omega)).mono ?_
    rintro e w3 ⟨q, rfl, hb3, hz3, ho⟩
    have B3 := Lib.hid (below_on B1.out hb3)
    have HO := Lib.hid ho
    clear hb3 ho
    go_wp2
    go_ret
    exact ⟨q, rfl, B3.out, B3.out.size, HO.out.keep (by omega) (Nat.le_refl _) fun i _ _ => rfl⟩
end Go.Proofs.Ytaghidaamcnpkab
