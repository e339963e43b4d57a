/-
  What a thread reads with buffers: plain facts, and what the program's readAt and the reference model's l7Reads come to.
-/
import Derived.Test.YtpcdcgcbhhnhhaaQue
import Derived.Test.YtpcdcgcbhhnhhaaWithout
import Derived.Deep.RegionHeld3
namespace Go.Proofs.Ytpcdcgcbhhnhhaa
open Go.RowKit Pl Go.BigFrame
set_option maxHeartbeats 4000000
set_option maxRecDepth 100000
set_option linter.unusedVariables false

/-- What is read at a place: the newest store there, or else m. -/
def rdC (cs : List Nat) (p m : Nat) : Nat := cs.foldl (fun a c => if c / 4 = p then c % 4 else a) m
theorem rdC_snoc (cs : List Nat) (c p m : Nat) : rdC (cs ++ [c]) p m = if c / 4 = p then c % 4 else rdC cs p m := by simp [rdC]
theorem rdC_lt {cs : List Nat} {p m : Nat} (hm : m < 4) : rdC cs p m < 4 := by
  unfold rdC
  induction cs generalizing m with
  | nil => exact hm
  | cons c r ih => rw [List.foldl_cons]; apply ih; split <;> omega
theorem snoc_of {α : Type} {l : List α} (h : l ≠ []) : ∃ d c, l = d ++ [c] := ⟨l.dropLast, l.getLast h, (List.dropLast_concat_getLast h).symm⟩

theorem readat_any (f : Nat → Nat) (b : Nat → List Nat) (t p : Nat) (w : World) (hf : okF WS f) (hb : okB7 b 7) (ht : t < 3) (hp : p < 3) (r : Nat) (hr : Hid (rdC (b t) p (f (15 + p)) = r)) :
    Calls Try.prog 72 #[QV f b, .int .i64 t, .int .i64 p] w fun e w' => e = .returned (.int .i64 r) ∧ Below w.heap.size w w' := by
  obtain ⟨hc, hl⟩ := hb t ht
  obtain ⟨W, hW⟩ : ∃ W, W = w.alloc (.cells #[.int .u64 (enc WS f : Nat), .int .u64 (bwC (b 0) : Nat), .int .u64 (bwC (b 1) : Nat), .int .u64 (bwC (b 2) : Nat)] 74) := ⟨_, rfl⟩
  have bW : Below w.heap.size w W := by rw [hW]; go_grown
  have k0 : Bk W w.heap.size 74 #[.int .u64 (enc WS f : Nat), .int .u64 (bwC (b 0) : Nat), .int .u64 (bwC (b 1) : Nat), .int .u64 (bwC (b 2) : Nat)] := by rw [hW]; exact Bk.new _ _ _
  have ck : W.cell? ⟨w.heap.size, 1 + t, none⟩ = some (.int .u64 (bwC (b t) : Nat)) := (k0.cell (1 + t)).trans (by rcases (show t = 0 ∨ t = 1 ∨ t = 2 by omega) with rfl | rfl | rfl <;> rfl)
  have ckl := ck
  rw [hW] at ckl
  have c0 : W.cell? ⟨w.heap.size, 0, none⟩ = some (.int .u64 (enc WS f : Nat)) := k0.cell 0
  have lk := k0.lt
  have EN := Lib.hid (fun v => entF fld2 hf p (show p < 3 by omega) v (f (15 + p) : Int) (Lib.hid (by simp [fL])))
  obtain ⟨cs, hcs⟩ : ∃ cs, b t = cs := ⟨_, rfl⟩
  rw [hcs] at hr hc hl ckl
  have BW := Lib.hid bW
  have HW := Lib.hid hW
  clear hW bW k0 hf hb hcs ck
  go_enter Try.func72, Try.ntmps72
  go_wp2_with fail
  rw [← HW.out]
  clear ckl
  go_loopw [7] (fun v wr => ∃ d : List Nat, W = wr ∧ okS d ∧ d.length ≤ 7 ∧ v = .int .u64 (bwC d : Nat) ∧ Hid (rdC d p (f (15 + p)) = r)) (fun v _ => (intOf v).toNat)
  case atStart => exact ⟨cs, rfl, hc, hl, rfl, hr⟩
  case round =>
    obtain ⟨d, rfl, hd, hdl, rfl, hrest⟩ := hrel
    clear hr
    by_cases hne : d = []
    · subst hne
      rw [bwC_nil]
      have hfin : Hid (f (15 + p) = r) := Lib.hid (by rw [← hrest.out]; rfl)
      go_wp2_with fail
      refine (EN.out _).mono ?_
      rintro e w2 ⟨rfl, hb2⟩
      have B2 := below_on BW.out hb2
      clear hb2
      go_wp2
      go_ret
      exact ⟨by rw [hfin.out]; rfl, B2⟩
    · obtain ⟨d', c, rfl⟩ := snoc_of hne
      have hlt12 := hd.last
      have hld : d'.length ≤ 6 := by rw [List.length_append] at hdl; simp at hdl; omega
      have hW8 : bwC (d' ++ [c]) < 18446744073709551616 := bwC_8 hd (by omega)
      have hpos : bwC (d' ++ [c]) ≠ 0 := fun e => hne (bwC_zero.1 e)
      have LO := Lib.hid (fun v => lows_any (bwC (d' ++ [c])) v hW8 c (Lib.hid (bwC_low hd)))
      have hin := bwC_init hd
      have hsn := bwC_snoc d' c
      have hlt : bwC d' < bwC (d' ++ [c]) := by rw [hsn]; omega
      have hr2 : Hid ((if c / 4 = p then c % 4 else rdC d' p (f (15 + p))) = r) := Lib.hid (by rw [← rdC_snoc]; exact hrest.out)
      have hd' := hd.init
      obtain ⟨X, hX⟩ : ∃ X, bwC (d' ++ [c]) = X := ⟨_, rfl⟩
      rw [hX] at LO hin hlt hpos ⊢
      have hne0 : ((X : Int) != 0) = true := by simp; omega
      have hsh : (X : Int) / 2 ^ 8 = ((bwC d' : Nat) : Int) := by rw [← hin]; omega
      have hsh2 : (X : Int) / 256 = ((bwC d' : Nat) : Int) := by rw [← hin]; omega
      clear hX hsn hd hdl hrest hne hW8 hin
      by_cases he : c / 4 = p
      · have heq : (((c / 4 : Nat) : Int) == (p : Int)) = true := by rw [beq_iff_eq]; omega
        have hfin : Hid (c % 4 = r) := Lib.hid (by rw [← hr2.out, if_pos he])
        clear he
        go_wp2_with fail
        refine (LO.out _).mono ?_
        rintro e w' ⟨rfl, rfl⟩
        go_wp2
        go_ret
        exact ⟨by rw [← hfin.out]; rfl, BW.out⟩
      · have heq : (((c / 4 : Nat) : Int) == (p : Int)) = false := by rw [beq_eq_false_iff_ne]; omega
        have hfin : Hid (rdC d' p (f (15 + p)) = r) := Lib.hid (by rw [← hr2.out, if_neg he])
        clear he
        go_wp2_with fail
        refine (LO.out _).mono ?_
        rintro e w' ⟨rfl, rfl⟩
        go_wp2
        go_roundw
        case rel => exact ⟨d', by first | rfl | trivial, hd', by omega, by first | rfl | (congr 1), hfin⟩
        case measure => simp [intOf]; omega
theorem s7reads_any (k : BufH) (o : Buf) (t p : Nat) (w : World) (B : Nat) (hS : BufR w B k o) (hB : B ≤ w.heap.size) (cs : List Nat) (hrow : o.bs[t]? = some (rowS cs)) (hc : okS cs) (hl : cs.length ≤ 1000) (m : Nat) (hm : o.st.f2[p]? = some (m : Int)) (r : Nat) (hr : Hid (rdC cs p m = r)) :
    Calls Try.prog 69 #[BufV k o, .int .i64 t, .int .i64 p] w fun e w' => e = .returned (.int .i64 r) ∧ Below w.heap.size w w' := by
  obtain ⟨W, hW⟩ : ∃ W, W = w.alloc (.cells #[.slice k.h.A0 o.st.f0.length k.h.c0, .slice k.h.A1 o.st.f1.length k.h.c1, .slice k.h.A2 o.st.f2.length k.h.c2, .slice k.h.A3 o.st.f3.length k.h.c3, .slice k.h.A4 o.st.f4.length k.h.c4, .slice k.k.A o.bs.length k.k.c] 31) := ⟨_, rfl⟩
  have bW : Below w.heap.size w W := by rw [hW]; go_grown
  have k0 : Bk W w.heap.size 31 #[.slice k.h.A0 o.st.f0.length k.h.c0, .slice k.h.A1 o.st.f1.length k.h.c1, .slice k.h.A2 o.st.f2.length k.h.c2, .slice k.h.A3 o.st.f3.length k.h.c3, .slice k.h.A4 o.st.f4.length k.h.c4, .slice k.k.A o.bs.length k.k.c] := by rw [hW]; exact Bk.new _ _ _
  have Q := hS.below bW hB
  have zW := bW.size
  obtain ⟨rb, ro, Ai, ci, hA, hrb, hx0, hrw⟩ := Q.b.v.at_ (vsIss_at hrow)
  rw [ints_length] at hx0
  obtain ⟨mb, mo, hM, hmb, hmc⟩ := Q.s.r2 (by rw [ints_length]; have := (List.getElem?_eq_some_iff.1 hm).1; omega)
  have cm : W.cell? ⟨mb, mo + p, none⟩ = some (.int .i64 (m : Int)) := hmc p _ (ints_at hm)
  have hti : (t : Int) < (o.bs.length : Int) := by have := (List.getElem?_eq_some_iff.1 hrow).1; omega
  have hpi : (p : Int) < (o.st.f2.length : Int) := by have := (List.getElem?_eq_some_iff.1 hm).1; omega
  have c2 : W.cell? ⟨w.heap.size, 2, none⟩ = some (.slice (some ⟨mb, mo, none⟩) o.st.f2.length k.h.c2) := by rw [← hM]; exact k0.cell 2
  have c5 : W.cell? ⟨w.heap.size, 5, none⟩ = some (.slice (some ⟨rb, ro, none⟩) o.bs.length k.k.c) := by rw [← hA]; exact k0.cell 5
  have lk := k0.lt
  have lrb : rb < W.heap.size := by omega
  have lmb : mb < W.heap.size := by omega
  obtain ⟨n, hn⟩ : ∃ n, (rowS cs).length = n := ⟨_, rfl⟩
  have hn2 : n = 2 * cs.length := by rw [← hn, rowS_length]
  rw [hn] at hx0
  have HRow := Lib.hid hrw
  have BW := Lib.hid bW
  have HW := Lib.hid hW
  have HN := Lib.hid hn2
  have hx0l := hx0
  have c2l := c2
  have c5l := c5
  have cml := cm
  rw [hW] at hx0l c2l c5l cml
  have HX := Lib.hid hx0
  have HM := Lib.hid cm
  have H2 := Lib.hid c2
  clear hW bW k0 hrow hm hS Q hM hA hmc hrw hn hx0 c2 c5 cm
  go_enter Try.func69, Try.ntmps69
  go_wp2_with fail
  rw [← HW.out]
  clear hx0l c2l c5l cml
  go_loopw [8] (fun i wr => ∃ j : Nat, W = wr ∧ j ≤ cs.length ∧ i = .int .i64 (2 * (j : Int) - 2) ∧ Hid (rdC (cs.take j) p m = r)) (fun i _ => (intOf i + 2).toNat)
  case atStart => exact ⟨cs.length, rfl, Nat.le_refl _, by first | rfl | (rw [hn2]; congr 1; omega), by rw [List.take_length]; exact hr⟩
  case round =>
    obtain ⟨j, rfl, hj, rfl, hrest⟩ := hrel
    clear hr
    cases j with
    | zero =>
      have e : 2 * ((0 : Nat) : Int) - 2 = -2 := rfl
      rw [e]
      have hfin : Hid (m = r) := Lib.hid (by rw [← hrest.out]; rfl)
      have c2 := H2.out
      have cm := HM.out
      go_wp2
      go_ret
      exact ⟨by rw [← hfin.out]; rfl, BW.out⟩
    | succ q =>
      have e : 2 * ((q + 1 : Nat) : Int) - 2 = ((2 * q : Nat) : Int) := by omega
      rw [e]
      obtain ⟨x, hx, -⟩ := drop_at (show q < cs.length by omega)
      have hx12 := hc x (List.mem_of_getElem? hx)
      have htk : cs.take (q + 1) = cs.take q ++ [x] := by rw [List.take_add_one, hx]; rfl
      obtain ⟨ab, ao, hAi, hab, hcell⟩ := HRow.out (by rw [ints_length, rowS_length]; omega)
      subst hAi
      have c0 : W.cell? ⟨ab, ao + 2 * q, none⟩ = some (.int .i64 ((x / 4 : Nat) : Int)) := hcell _ _ (ints_at (rowS_at0 hx))
      have c1 : W.cell? ⟨ab, ao + (2 * q + 1), none⟩ = some (.int .i64 ((x % 4 : Nat) : Int)) := hcell _ _ (ints_at (rowS_at1 hx))
      have habw : ab < W.heap.size := by omega
      have hi1 : ((2 * q : Nat) : Int) < (n : Int) := by omega
      have hi2 : ((2 * q : Nat) : Int) + 1 < (n : Int) := by omega
      have hr2 : Hid ((if x / 4 = p then x % 4 else rdC (cs.take q) p m) = r) := Lib.hid (by rw [← rdC_snoc, ← htk]; exact hrest.out)
      clear hcell hx htk hrest
      by_cases he : x / 4 = p
      · have heq : (((x / 4 : Nat) : Int) == (p : Int)) = true := by rw [beq_iff_eq]; omega
        have hfin : Hid (x % 4 = r) := Lib.hid (by rw [← hr2.out, if_pos he])
        clear he
        go_wp2
        go_ret
        exact ⟨by rw [← hfin.out]; rfl, BW.out⟩
      · have heq : (((x / 4 : Nat) : Int) == (p : Int)) = false := by rw [beq_eq_false_iff_ne]; omega
        have hfin : Hid (rdC (cs.take q) p m = r) := Lib.hid (by rw [← hr2.out, if_neg he])
        clear he
        go_wp2
        go_roundw
        case rel => exact ⟨q, by first | rfl | trivial, by omega, by first | (congr 1; omega) | (go_num), hfin⟩
        case measure => simp [intOf]; omega

/-- What BufReads answers. -/
def brdZ (L : Pg) (o : Buf) (th pl : Int) : Int := if (bufB L o && inB th 0 ((L.length : Int) - 1)) && inB pl 0 2 then (rdC (cdsB o th.toNat) pl.toNat (o.st.f2.getD pl.toNat 0).toNat : Nat) else -1
structure BfP (L : Pg) (o : Buf) : Prop where
  P : StP L o.st
  n : o.bs.length = L.length
  ok : ∀ xs ∈ o.bs, lokB xs = true
theorem BfP.row {L : Pg} {o : Buf} (h : BfP L o) {t : Nat} (ht : t < L.length) : o.bs[t]? = some (rowS (cdsB o t)) ∧ okS (cdsB o t) ∧ (cdsB o t).length ≤ 6 := by
  have hl : t < o.bs.length := by have := h.n; omega
  have hx : o.bs[t]? = some o.bs[t] := List.getElem?_eq_getElem hl
  obtain ⟨h1, h2, h3⟩ := cdsB_row h.ok hx
  exact ⟨by rw [h1]; exact hx, h2, h3⟩
end Go.Proofs.Ytpcdcgcbhhnhhaa
