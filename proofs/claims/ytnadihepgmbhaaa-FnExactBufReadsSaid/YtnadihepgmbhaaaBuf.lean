/-
  States with buffers: a state and rows of numbers. How they lie in memory, and contracts of the laws' functions over them: sizes, copies, equality, marks, held marks.
-/
import Derived.Test.YtnadihepgmbhaaaSt
import Derived.Test.YtnadihepgmbhaaaIssA
namespace Go.Proofs.Ytnadihepgmbhaaa
open Go.RowKit Pl
set_option maxHeartbeats 1000000
set_option maxRecDepth 100000
set_option linter.unusedVariables false

structure Buf where
  st : Sta
  bs : Iss
deriving DecidableEq, Inhabited
structure BufH where
  h : StaH
  k : IssH
abbrev BufV (h : BufH) (o : Buf) : Value := .agg #[.slice h.h.A0 o.st.f0.length h.h.c0, .slice h.h.A1 o.st.f1.length h.h.c1, .slice h.h.A2 o.st.f2.length h.h.c2, .slice h.h.A3 o.st.f3.length h.h.c3, .slice h.h.A4 o.st.f4.length h.h.c4, .slice h.k.A o.bs.length h.k.c]
def BufN : BufH := ⟨StaN, ⟨none, 0⟩⟩
def BufE : Buf := ⟨StaE, []⟩
structure BufR (w : World) (B : Nat) (h : BufH) (o : Buf) : Prop where
  s : StaR w B h.h o.st
  b : IssR w B h.k o.bs
structure BufL (o : Buf) (m : Nat) : Prop where
  s : StaL o.st m
  b : IssM o.bs m
structure BufS (o : Buf) : Prop where
  s : StaS o.st
  b : IssS o.bs
theorem BufS_L {o : Buf} (s : BufS o) : BufL o maxLen := ⟨StaS_L s.s, (IssS_L s.b).m⟩
/-- Rows that lie in these blocks. -/
structure IssI (w : World) (lo hi : Nat) (h : IssH) (o : Iss) : Prop where
  v : 0 < o.length → ∃ b off, h.A = some ⟨b, off, none⟩ ∧ lo ≤ b ∧ b < hi ∧ ∀ (i : Nat) (xs : List Int), o[i]? = some xs → ∃ Ai ci, w.cell? ⟨b, off + i, none⟩ = some (.slice Ai xs.length ci) ∧ InVs w lo hi Ai (ints xs)
theorem IssI.keep {w w' : World} {lo hi lo' hi' : Nat} {h : IssH} {o : Iss} (r : IssI w lo hi h o) (hl : lo' ≤ lo) (hh : hi ≤ hi') (hk : ∀ i, lo ≤ i → i < hi → w'.heap[i]? = w.heap[i]?) : IssI w' lo' hi' h o := ⟨fun hn => by
  obtain ⟨b, off, hA, h1, h2, hx⟩ := r.v hn
  refine ⟨b, off, hA, by omega, by omega, fun i xs hi => ?_⟩
  obtain ⟨Ai, ci, hc, hr⟩ := hx i xs hi
  exact ⟨Ai, ci, (World.cell?_of_block (a := ⟨b, off + i, none⟩) (hk b h1 h2)).trans hc, hr.keep hl hh hk⟩⟩
theorem IssI.below {w w' : World} {lo hi B : Nat} {h : IssH} {o : Iss} (r : IssI w lo hi h o) (hb : Below B w w') (hB : hi ≤ B) : IssI w' lo hi h o := r.keep (Nat.le_refl _) (Nat.le_refl _) fun i _ hi => hb.block i (by omega)
theorem IssI.rd {w : World} {lo hi : Nat} {h : IssH} {o : Iss} (r : IssI w lo hi h o) : IssR w hi h o := ⟨fun hn => by
  obtain ⟨b, off, hA, h1, h2, hx⟩ := r.v (by simpa [vsIss] using hn)
  refine ⟨b, off, hA, h2, fun i vs hi => ?_⟩
  obtain ⟨xs, hxs, rfl⟩ := vsIss_inv hi
  obtain ⟨Ai, ci, hc, hr⟩ := hx i xs hxs
  exact ⟨Ai, ci, by rw [ints_length]; exact hc, hr.vs⟩⟩
theorem IssO.in_ {w : World} {lo hi : Nat} {h : IssH} {o : Iss} (r : IssO w lo hi h o) : IssI w lo hi h o := ⟨fun hn => by
  obtain ⟨g, cs, D, C, hA, h1, h2, hb, hx, _⟩ := r.o0 (by simpa [vsIss] using hn)
  refine ⟨g, 0, hA, h1, h2, fun i xs hi => ?_⟩
  obtain ⟨hc, ho⟩ := hx i (ints xs) (vsIss_at hi)
  rw [ints_length] at hc
  exact ⟨D i, C i, by rw [Nat.zero_add]; exact (hb.cell i).trans hc, ho.in_⟩⟩
structure BufI (w : World) (lo hi : Nat) (h : BufH) (o : Buf) : Prop where
  s : StaI w lo hi h.h o.st
  b : IssI w lo hi h.k o.bs
/-- A record of the call's own: its state lies apart from its rows. -/
def BufO (w : World) (lo hi : Nat) (h : BufH) (o : Buf) : Prop :=
  ∃ a b c d, lo ≤ a ∧ b ≤ hi ∧ lo ≤ c ∧ d ≤ hi ∧ (b ≤ c ∨ d ≤ a) ∧ StaO w a b h.h o.st ∧ IssO w c d h.k o.bs
section
variable {w w' : World} {B B' B'' lo hi lo' hi' : Nat} {h : BufH} {o : Buf}
theorem BufR.below (r : BufR w B h o) (hb : Below B' w w') (hB : B ≤ B') : BufR w' B h o := ⟨r.s.below hb hB, r.b.below hb hB⟩
theorem BufR.up (r : BufR w B h o) (hb : Below B' w w') (hB : B ≤ B') (hB2 : B ≤ B'') : BufR w' B'' h o := ⟨r.s.up hb hB hB2, r.b.up hb hB hB2⟩
theorem BufI.keep (r : BufI w lo hi h o) (hl : lo' ≤ lo) (hh : hi ≤ hi') (hk : ∀ i, lo ≤ i → i < hi → w'.heap[i]? = w.heap[i]?) : BufI w' lo' hi' h o := ⟨r.s.keep hl hh hk, r.b.keep hl hh hk⟩
theorem BufI.below (r : BufI w lo hi h o) (hb : Below B w w') (hB : hi ≤ B) : BufI w' lo hi h o := ⟨r.s.below hb hB, r.b.below hb hB⟩
theorem BufI.rd (r : BufI w lo hi h o) : BufR w hi h o := ⟨r.s.rd, r.b.rd⟩
theorem BufO.keep (r : BufO w lo hi h o) (hl : lo' ≤ lo) (hh : hi ≤ hi') (hk : ∀ i, lo ≤ i → i < hi → w'.heap[i]? = w.heap[i]?) : BufO w' lo' hi' h o := by
  obtain ⟨a, b, c, d, h1, h2, h3, h4, h5, h6, h7⟩ := r
  exact ⟨a, b, c, d, by omega, by omega, by omega, by omega, h5, h6.keep (Nat.le_refl _) (Nat.le_refl _) fun i p q => hk i (by omega) (by omega), h7.keep (Nat.le_refl _) (Nat.le_refl _) fun i p q => hk i (by omega) (by omega)⟩
theorem BufO.below (r : BufO w lo hi h o) (hb : Below B w w') (hB : hi ≤ B) : BufO w' lo hi h o := r.keep (Nat.le_refl _) (Nat.le_refl _) fun i _ hi => hb.block i (by omega)
theorem BufO.in_ (r : BufO w lo hi h o) : BufI w lo hi h o := by
  obtain ⟨a, b, c, d, h1, h2, h3, h4, h5, h6, h7⟩ := r
  exact ⟨(h6.keep h1 h2 fun _ _ _ => rfl).in_, (h7.keep h3 h4 fun _ _ _ => rfl).in_⟩
theorem BufO.rd (r : BufO w lo hi h o) : BufR w hi h o := r.in_.rd
theorem IssO.nil_ (w : World) (lo hi : Nat) (k : IssH) : IssO w lo hi k [] := ⟨OwnVss.nil _ _ _ _ _ _⟩
theorem BufO.none_ (w : World) (lo hi : Nat) (h : BufH) (hl : lo ≤ hi) : BufO w lo hi h BufE := ⟨lo, lo, lo, lo, Nat.le_refl _, hl, Nat.le_refl _, hl, Or.inl (Nat.le_refl _), StaO.none_ _ _ _ _, IssO.nil_ _ _ _ _⟩
theorem BufI.none_ (w : World) (lo hi : Nat) (h : BufH) : BufI w lo hi h BufE := ⟨StaI.none_ _ _ _ _, (IssO.nil_ _ _ _ _).in_⟩
end
/-! ### sizes -/
def szBuf (a : Int) (o : Buf) : Int := if szSta a o.st < 0 then -1 else szIss (szSta a o.st) o.bs
theorem szBuf_ge (a : Int) (o : Buf) (ha : 0 ≤ a) : -1 ≤ szBuf a o ∧ szBuf a o ≤ a := by
  have h := szSta_ge a o.st ha
  unfold szBuf
  split
  · omega
  · have := szIss_ge (szSta a o.st) o.bs (by omega)
    omega
theorem szBuf_small {a : Int} {o : Buf} (h : 0 ≤ szBuf a o) (ha : 0 ≤ a) (ha2 : a ≤ 1048576) : BufS o := by
  unfold szBuf at h
  split at h
  · omega
  · rename_i h1
    have h2 := szSta_ge a o.st ha
    have h3 := szIss_tot h
    exact ⟨szSta_small (a := a) (by omega) ha ha2, ⟨by omega, by omega⟩⟩
theorem szBuf_any (h : BufH) (o : Buf) (left : Int) (w : World) (B : Nat) (hR : BufR w B h o) (hB : B ≤ w.heap.size) (hL : BufL o maxLen) (h0 : 0 ≤ left) (h1 : left ≤ 1048576) (r : Int) (hr : Hid (szBuf left o = r)) :
    Calls Try.prog 40 #[BufV h o, .int .i64 left] w fun e w' => e = .returned (.int .i64 r) ∧ Below w.heap.size w w' := by
  obtain ⟨Ls, Lb⟩ := hL
  obtain ⟨q, hq⟩ : ∃ q, szSta left o.st = q := ⟨_, rfl⟩
  have uq : -1 ≤ q ∧ q ≤ left := by rw [← hq]; exact szSta_ge _ _ h0
  have Q := Lib.hid hq
  obtain ⟨W, hW⟩ : ∃ W, W = w.alloc (.cells #[.slice h.h.A0 o.st.f0.length h.h.c0, .slice h.h.A1 o.st.f1.length h.h.c1, .slice h.h.A2 o.st.f2.length h.h.c2, .slice h.h.A3 o.st.f3.length h.h.c3, .slice h.h.A4 o.st.f4.length h.h.c4, .slice h.k.A o.bs.length h.k.c] 64) := ⟨_, rfl⟩
  have bW : Below w.heap.size w W := by rw [hW]; go_grown
  have k0 : Bk W w.heap.size 64 #[.slice h.h.A0 o.st.f0.length h.h.c0, .slice h.h.A1 o.st.f1.length h.h.c1, .slice h.h.A2 o.st.f2.length h.h.c2, .slice h.h.A3 o.st.f3.length h.h.c3, .slice h.h.A4 o.st.f4.length h.h.c4, .slice h.k.A o.bs.length h.k.c] := by rw [hW]; exact Bk.new w _ _
  have zW := bW.size
  have HR := Lib.hid (hR.below bW hB)
  have K0 := Lib.hid k0
  have BW := Lib.hid bW
  have HW := Lib.hid hW
  clear hW bW k0 hR hq
  by_cases n0 : q < 0
  · have hfin : Hid (r = -1) := Lib.hid (by rw [← hr.out, szBuf, Q.out, if_pos n0])
    clear hr
    go_enter Try.func40, Try.ntmps40
    go_wp2_with fail
    rw [← HW.out]
    refine (szSta_any h.h o.st left W B HR.out.s (by omega) Ls h0 h1 q Q).mono ?_
    rintro e w1 ⟨rfl, hb1⟩
    have B1 := Lib.hid (below_on BW.out hb1)
    clear hb1
    go_wp2
    go_ret
    exact ⟨by rw [hfin.out]; rfl, B1.out⟩
  · have hfin : Hid (szIss q o.bs = r) := Lib.hid (by rw [← hr.out, szBuf, Q.out, if_neg n0])
    clear hr
    have ur : -1 ≤ r ∧ r ≤ q := by rw [← hfin.out]; exact szIss_ge _ _ (by omega)
    by_cases n1 : r < 0
    all_goals
      have hend : Hid (r < 0 → r = -1) := Lib.hid (by omega)
      go_enter Try.func40, Try.ntmps40
      go_wp2_with fail
      rw [← HW.out]
      refine (szSta_any h.h o.st left W B HR.out.s (by omega) Ls h0 h1 q Q).mono ?_
      rintro e w1 ⟨rfl, hb1⟩
      have B1 := Lib.hid (below_on BW.out hb1)
      have K1 := Lib.hid (K0.out.below hb1 K0.out.lt)
      have R1 := Lib.hid (HR.out.below hb1 (by omega))
      clear hb1
      have c5 : w1.cell? ⟨w.heap.size, 5, none⟩ = some (.slice h.k.A o.bs.length h.k.c) := K1.out.cell 5
      go_wp2_with fail
      refine (szIss_any h.k o.bs q w1 B R1.out.b Lb (by omega) (by omega) r hfin).mono ?_
      rintro e w2 ⟨rfl, rfl⟩
      clear c5
      go_wp2
      go_ret
      first | exact ⟨rfl, B1.out⟩ | exact ⟨by rw [hend.out n1]; rfl, B1.out⟩
/-! ### copies -/
def ToBuf (w : World) (o : Buf) (e : Ending) (w' : World) : Prop := ∃ h, e = .returned (BufV h o) ∧ Below w.heap.size w w' ∧ w.heap.size < w'.heap.size ∧ BufO w' w.heap.size w'.heap.size h o
theorem toBuf_any (h : BufH) (o : Buf) (w : World) (B : Nat) (hR : BufR w B h o) (hB : B ≤ w.heap.size) (hL : BufS o) :
    Calls Try.prog 42 #[BufV h o] w (ToBuf w o) := by
  obtain ⟨Ls, Lb⟩ := hL
  obtain ⟨W, hW⟩ : ∃ W, W = ((w.alloc (.cells #[.slice h.h.A0 o.st.f0.length h.h.c0, .slice h.h.A1 o.st.f1.length h.h.c1, .slice h.h.A2 o.st.f2.length h.h.c2, .slice h.h.A3 o.st.f3.length h.h.c3, .slice h.h.A4 o.st.f4.length h.h.c4, .slice h.k.A o.bs.length h.k.c] 64)).alloc (.cells #[.slice none 0 0, .slice none 0 0, .slice none 0 0, .slice none 0 0, .slice none 0 0, .slice none 0 0] 59)).alloc (.cells #[.slice none 0 0, .slice none 0 0, .slice none 0 0, .slice none 0 0, .slice none 0 0, .slice none 0 0] 59) := ⟨_, rfl⟩
  have bW : Below w.heap.size w W := by rw [hW]; go_grown
  have sW : W.heap.size = w.heap.size + 1 + 1 + 1 := by rw [hW]; simp
  have k0 : Bk W w.heap.size 64 #[.slice h.h.A0 o.st.f0.length h.h.c0, .slice h.h.A1 o.st.f1.length h.h.c1, .slice h.h.A2 o.st.f2.length h.h.c2, .slice h.h.A3 o.st.f3.length h.h.c3, .slice h.h.A4 o.st.f4.length h.h.c4, .slice h.k.A o.bs.length h.k.c] := by rw [hW]; exact ((Bk.new w _ _).alloc _).alloc _
  have k1 : Bk W (w.heap.size + 1) 59 #[.slice none 0 0, .slice none 0 0, .slice none 0 0, .slice none 0 0, .slice none 0 0, .slice none 0 0] := by
    rw [hW]; have := (Bk.new (w.alloc (.cells #[.slice h.h.A0 o.st.f0.length h.h.c0, .slice h.h.A1 o.st.f1.length h.h.c1, .slice h.h.A2 o.st.f2.length h.h.c2, .slice h.h.A3 o.st.f3.length h.h.c3, .slice h.h.A4 o.st.f4.length h.h.c4, .slice h.k.A o.bs.length h.k.c] 64)) #[.slice none 0 0, .slice none 0 0, .slice none 0 0, .slice none 0 0, .slice none 0 0, .slice none 0 0] 59).alloc (.cells #[.slice none 0 0, .slice none 0 0, .slice none 0 0, .slice none 0 0, .slice none 0 0, .slice none 0 0] 59)
    rwa [World.size_alloc] at this
  have k2 : Bk W (w.heap.size + 1 + 1) 59 #[.slice none 0 0, .slice none 0 0, .slice none 0 0, .slice none 0 0, .slice none 0 0, .slice none 0 0] := by
    rw [hW]; have := Bk.new ((w.alloc (.cells #[.slice h.h.A0 o.st.f0.length h.h.c0, .slice h.h.A1 o.st.f1.length h.h.c1, .slice h.h.A2 o.st.f2.length h.h.c2, .slice h.h.A3 o.st.f3.length h.h.c3, .slice h.h.A4 o.st.f4.length h.h.c4, .slice h.k.A o.bs.length h.k.c] 64)).alloc (.cells #[.slice none 0 0, .slice none 0 0, .slice none 0 0, .slice none 0 0, .slice none 0 0, .slice none 0 0] 59)) #[.slice none 0 0, .slice none 0 0, .slice none 0 0, .slice none 0 0, .slice none 0 0, .slice none 0 0] 59
    rwa [World.size_alloc, World.size_alloc] at this
  have HR := Lib.hid (hR.below bW hB)
  have K0 := Lib.hid k0
  have K1 := Lib.hid k1
  have K2 := Lib.hid k2
  have BW := Lib.hid bW
  have sWl : w.heap.size + 3 ≤ W.heap.size := by omega
  have HW := Lib.hid hW
  clear hW bW sW k0 k1 k2 hR
  go_enter Try.func42, Try.ntmps42
  go_wp2_with fail
  rw [← HW.out]
  refine (toSta_any h.h o.st W B HR.out.s (by omega) Ls).mono ?_
  rintro e w1 ⟨hs, rfl, hb1, hl1, own⟩
  have Own1 := Lib.hid own
  have B1 := Lib.hid (below_on BW.out hb1)
  have Hb1 := Lib.hid hb1
  have R1 := Lib.hid (HR.out.below hb1 (by omega))
  have K01 := Lib.hid (K0.out.below hb1 K0.out.lt)
  have K11 := Lib.hid (K1.out.below hb1 K1.out.lt)
  have K21 := Lib.hid (K2.out.below hb1 K2.out.lt)
  clear HR K0 K1 K2 own hb1
  have y0 := K21.out.free 0
  have x0 : w1.cell? ⟨w.heap.size + 1 + 1, 0, none⟩ = some (.slice none 0 0) := K21.out.cell 0
  have y1 := K21.out.free 1
  have x1 : w1.cell? ⟨w.heap.size + 1 + 1, 1, none⟩ = some (.slice none 0 0) := K21.out.cell 1
  have y2 := K21.out.free 2
  have x2 : w1.cell? ⟨w.heap.size + 1 + 1, 2, none⟩ = some (.slice none 0 0) := K21.out.cell 2
  have y3 := K21.out.free 3
  have x3 : w1.cell? ⟨w.heap.size + 1 + 1, 3, none⟩ = some (.slice none 0 0) := K21.out.cell 3
  have y4 := K21.out.free 4
  have x4 : w1.cell? ⟨w.heap.size + 1 + 1, 4, none⟩ = some (.slice none 0 0) := K21.out.cell 4
  have v5 : w1.cell? ⟨w.heap.size, 5, none⟩ = some (.slice h.k.A o.bs.length h.k.c) := K01.out.cell 5
  go_wp2_with fail
  obtain ⟨X1, hX⟩ : ∃ V, V = (((((w1.setCell ⟨w.heap.size + 1 + 1, 0, none⟩ (.slice hs.A0 o.st.f0.length hs.c0)).setCell ⟨w.heap.size + 1 + 1, 1, none⟩ (.slice hs.A1 o.st.f1.length hs.c1)).setCell ⟨w.heap.size + 1 + 1, 2, none⟩ (.slice hs.A2 o.st.f2.length hs.c2)).setCell ⟨w.heap.size + 1 + 1, 3, none⟩ (.slice hs.A3 o.st.f3.length hs.c3)).setCell ⟨w.heap.size + 1 + 1, 4, none⟩ (.slice hs.A4 o.st.f4.length hs.c4)) := ⟨_, rfl⟩
  rw [← hX]
  have bX : Below w.heap.size w1 X1 := by rw [hX]; exact ((((((Below.refl _ _).setCell (by show _ ≤ w.heap.size + 1 + 1; omega) _).setCell (by show _ ≤ w.heap.size + 1 + 1; omega) _).setCell (by show _ ≤ w.heap.size + 1 + 1; omega) _).setCell (by show _ ≤ w.heap.size + 1 + 1; omega) _).setCell (by show _ ≤ w.heap.size + 1 + 1; omega) _)
  have sX : X1.heap.size = w1.heap.size := by rw [hX]; simp
  have nX : ∀ q, q ≠ w.heap.size + 1 + 1 → X1.heap[q]? = w1.heap[q]? := fun q hq => by rw [hX]; exact (Below.heap_setCell _ _ _ q hq).trans ((Below.heap_setCell _ _ _ q hq).trans ((Below.heap_setCell _ _ _ q hq).trans ((Below.heap_setCell _ _ _ q hq).trans (Below.heap_setCell _ _ _ q hq))))
  have K12 := Lib.hid (show Bk X1 (w.heap.size + 1) _ _ from (nX _ (by omega)).trans K11.out)
  have K22 : Hid (Bk X1 (w.heap.size + 1 + 1) 59 #[.slice hs.A0 o.st.f0.length hs.c0, .slice hs.A1 o.st.f1.length hs.c1, .slice hs.A2 o.st.f2.length hs.c2, .slice hs.A3 o.st.f3.length hs.c3, .slice hs.A4 o.st.f4.length hs.c4, .slice none 0 0]) := Lib.hid (by rw [hX]; have := (((((K21.out.set 0 (.slice hs.A0 o.st.f0.length hs.c0)).set 1 (.slice hs.A1 o.st.f1.length hs.c1)).set 2 (.slice hs.A2 o.st.f2.length hs.c2)).set 3 (.slice hs.A3 o.st.f3.length hs.c3)).set 4 (.slice hs.A4 o.st.f4.length hs.c4)); simpa using this)
  have R2 := Lib.hid (show BufR X1 B h o from R1.out.below bX (by omega))
  have Own2 := Lib.hid (Own1.out.keep (Nat.le_refl _) (Nat.le_refl _) fun q h1 h2 => nX q (by omega))
  have B2 := Lib.hid (B1.out.trans bX)
  have sXl := Nat.le_of_eq sX
  have sXr := Nat.le_of_eq sX.symm
  clear v5 R1 K01 K11 K21 Own1 hX sX nX bX Hb1 x0 y0 x1 y1 x2 y2 x3 y3 x4 y4
  refine (toIss_any h.k o.bs X1 B R2.out.b (by omega) Lb).mono ?_
  rintro e w2 ⟨hk, rfl, hb2, hl2, own⟩
  have Own3 := Lib.hid own
  have Own4 := Lib.hid (Own2.out.below hb2 (by omega))
  have B3 := Lib.hid (B2.out.trans (hb2.mono (by omega)))
  have K13 := Lib.hid (K12.out.below hb2 K12.out.lt)
  have K23 := Lib.hid (K22.out.below hb2 K22.out.lt)
  clear own Own2 B2 K12 K22 R2 hb2
  have fr0 := K13.out.free 0
  have xr0 : w2.cell? ⟨w.heap.size + 1, 0, none⟩ = some (.slice none 0 0) := K13.out.cell 0
  have fr1 := K13.out.free 1
  have xr1 : w2.cell? ⟨w.heap.size + 1, 1, none⟩ = some (.slice none 0 0) := K13.out.cell 1
  have fr2 := K13.out.free 2
  have xr2 : w2.cell? ⟨w.heap.size + 1, 2, none⟩ = some (.slice none 0 0) := K13.out.cell 2
  have fr3 := K13.out.free 3
  have xr3 : w2.cell? ⟨w.heap.size + 1, 3, none⟩ = some (.slice none 0 0) := K13.out.cell 3
  have fr4 := K13.out.free 4
  have xr4 : w2.cell? ⟨w.heap.size + 1, 4, none⟩ = some (.slice none 0 0) := K13.out.cell 4
  have fr5 := K13.out.free 5
  have xr5 : w2.cell? ⟨w.heap.size + 1, 5, none⟩ = some (.slice none 0 0) := K13.out.cell 5
  have xo0 : w2.cell? ⟨w.heap.size + 1 + 1, 0, none⟩ = some (.slice hs.A0 o.st.f0.length hs.c0) := K23.out.cell 0
  have xo1 : w2.cell? ⟨w.heap.size + 1 + 1, 1, none⟩ = some (.slice hs.A1 o.st.f1.length hs.c1) := K23.out.cell 1
  have xo2 : w2.cell? ⟨w.heap.size + 1 + 1, 2, none⟩ = some (.slice hs.A2 o.st.f2.length hs.c2) := K23.out.cell 2
  have xo3 : w2.cell? ⟨w.heap.size + 1 + 1, 3, none⟩ = some (.slice hs.A3 o.st.f3.length hs.c3) := K23.out.cell 3
  have xo4 : w2.cell? ⟨w.heap.size + 1 + 1, 4, none⟩ = some (.slice hs.A4 o.st.f4.length hs.c4) := K23.out.cell 4
  have y5 := K23.out.free 5
  have x5 : w2.cell? ⟨w.heap.size + 1 + 1, 5, none⟩ = some (.slice none 0 0) := K23.out.cell 5
  obtain ⟨F, hF⟩ : ∃ F, F = (((((((w2.setCell ⟨w.heap.size + 1 + 1, 5, none⟩ (.slice hk.A o.bs.length hk.c)).setCell ⟨w.heap.size + 1, 0, none⟩ (.slice hs.A0 o.st.f0.length hs.c0)).setCell ⟨w.heap.size + 1, 1, none⟩ (.slice hs.A1 o.st.f1.length hs.c1)).setCell ⟨w.heap.size + 1, 2, none⟩ (.slice hs.A2 o.st.f2.length hs.c2)).setCell ⟨w.heap.size + 1, 3, none⟩ (.slice hs.A3 o.st.f3.length hs.c3)).setCell ⟨w.heap.size + 1, 4, none⟩ (.slice hs.A4 o.st.f4.length hs.c4)).setCell ⟨w.heap.size + 1, 5, none⟩ (.slice hk.A o.bs.length hk.c)) := ⟨_, rfl⟩
  have kF : Bk F (w.heap.size + 1) 59 #[.slice hs.A0 o.st.f0.length hs.c0, .slice hs.A1 o.st.f1.length hs.c1, .slice hs.A2 o.st.f2.length hs.c2, .slice hs.A3 o.st.f3.length hs.c3, .slice hs.A4 o.st.f4.length hs.c4, .slice hk.A o.bs.length hk.c] := by
    rw [hF]; have a0 := K13.out.far (p := ⟨w.heap.size + 1 + 1, 5, none⟩) (by show w.heap.size + 1 ≠ w.heap.size + 1 + 1; omega) (.slice hk.A o.bs.length hk.c)
    have a1 := a0.set 0 (.slice hs.A0 o.st.f0.length hs.c0)
    have a2 := a1.set 1 (.slice hs.A1 o.st.f1.length hs.c1)
    have a3 := a2.set 2 (.slice hs.A2 o.st.f2.length hs.c2)
    have a4 := a3.set 3 (.slice hs.A3 o.st.f3.length hs.c3)
    have a5 := a4.set 4 (.slice hs.A4 o.st.f4.length hs.c4)
    have a6 := a5.set 5 (.slice hk.A o.bs.length hk.c)
    simpa using a6
  have bF : Below w.heap.size w2 F := by rw [hF]; exact ((((((((Below.refl _ _).setCell (by show _ ≤ w.heap.size + 1 + 1; omega) _).setCell (by show _ ≤ w.heap.size + 1; omega) _).setCell (by show _ ≤ w.heap.size + 1; omega) _).setCell (by show _ ≤ w.heap.size + 1; omega) _).setCell (by show _ ≤ w.heap.size + 1; omega) _).setCell (by show _ ≤ w.heap.size + 1; omega) _).setCell (by show _ ≤ w.heap.size + 1; omega) _)
  have nF : ∀ q, w.heap.size + 1 + 1 < q → F.heap[q]? = w2.heap[q]? := fun q hq => by rw [hF]; exact (Below.heap_setCell _ _ _ q (by show q ≠ w.heap.size + 1; omega)).trans ((Below.heap_setCell _ _ _ q (by show q ≠ w.heap.size + 1; omega)).trans ((Below.heap_setCell _ _ _ q (by show q ≠ w.heap.size + 1; omega)).trans ((Below.heap_setCell _ _ _ q (by show q ≠ w.heap.size + 1; omega)).trans ((Below.heap_setCell _ _ _ q (by show q ≠ w.heap.size + 1; omega)).trans ((Below.heap_setCell _ _ _ q (by show q ≠ w.heap.size + 1; omega)).trans (Below.heap_setCell _ _ _ q (by show q ≠ w.heap.size + 1 + 1; omega)))))))
  have sF : w2.heap.size ≤ F.heap.size := by rw [hF]; simp
  have cF0 := kF.cell 0
  have cF1 := kF.cell 1
  have cF2 := kF.cell 2
  have cF3 := kF.cell 3
  have cF4 := kF.cell 4
  have cF5 := kF.cell 5
  simp only [List.getElem?_toArray, List.getElem?_cons_zero, List.getElem?_cons_succ] at cF0 cF1 cF2 cF3 cF4 cF5
  have HF := Lib.hid hF
  clear hF kF
  have CF0 := Lib.hid cF0
  clear cF0
  have CF1 := Lib.hid cF1
  clear cF1
  have CF2 := Lib.hid cF2
  clear cF2
  have CF3 := Lib.hid cF3
  clear cF3
  have CF4 := Lib.hid cF4
  clear cF4
  have CF5 := Lib.hid cF5
  clear cF5
  have NF := Lib.hid nF
  have BF := Lib.hid bF
  clear nF bF
  go_wp2
  rw [← HF.out]
  have cF0 := CF0.out
  have cF1 := CF1.out
  have cF2 := CF2.out
  have cF3 := CF3.out
  have cF4 := CF4.out
  have cF5 := CF5.out
  refine bodyPost_ret (v := .agg #[.slice hs.A0 o.st.f0.length hs.c0, .slice hs.A1 o.st.f1.length hs.c1, .slice hs.A2 o.st.f2.length hs.c2, .slice hs.A3 o.st.f3.length hs.c3, .slice hs.A4 o.st.f4.length hs.c4, .slice hk.A o.bs.length hk.c]) (by simp [results, Try.results42, cF0, cF1, cF2, cF3, cF4, cF5, go_sem]) rfl ?_
  exact ⟨⟨hs, hk⟩, rfl, B3.out.trans BF.out, by omega, W.heap.size, w1.heap.size, X1.heap.size, w2.heap.size, by omega, by omega, by omega, by omega, Or.inl (by omega), Own4.out.keep (Nat.le_refl _) (Nat.le_refl _) fun q h1 h2 => NF.out q (by omega), Own3.out.keep (Nat.le_refl _) (Nat.le_refl _) fun q h1 h2 => NF.out q (by omega)⟩
/-- An answer of a record and a truth: the record is the call's own. -/
def AnsBuf (w : World) (o : Buf) (r : Bool) (e : Ending) (w' : World) : Prop := ∃ h, e = .returned (.tuple #[BufV h o, .bool r]) ∧ Below w.heap.size w w' ∧ w.heap.size ≤ w'.heap.size ∧ BufO w' w.heap.size w'.heap.size h o
def AnsIBuf (w : World) (o : Buf) (r : Bool) (e : Ending) (w' : World) : Prop := ∃ h, e = .returned (.tuple #[BufV h o, .bool r]) ∧ Below w.heap.size w w' ∧ w.heap.size ≤ w'.heap.size ∧ BufI w' w.heap.size w'.heap.size h o
theorem AnsBuf.in_ {w w' : World} {o : Buf} {r : Bool} {e : Ending} (h : AnsBuf w o r e w') : AnsIBuf w o r e w' := by
  obtain ⟨k, h1, h2, h3, h4⟩ := h
  exact ⟨k, h1, h2, h3, h4.in_⟩
/-! ### equality -/
theorem eqBuf_any (h1 h2 : BufH) (o1 o2 : Buf) (w : World) (B : Nat) (r1 : BufR w B h1 o1) (r2 : BufR w B h2 o2) (hB : B ≤ w.heap.size) (L1 : BufL o1 maxLen) (L2 : BufL o2 maxLen) (r : Bool) (hr : Hid (decide (o1 = o2) = r)) :
    Calls Try.prog 37 #[BufV h1 o1, BufV h2 o2] w fun e w' => e = .returned (.bool r) ∧ Below w.heap.size w w' := by
  obtain ⟨l0, l1⟩ := L1
  obtain ⟨m0, m1⟩ := L2
  obtain ⟨W, hW⟩ : ∃ W, W = (w.alloc (.cells #[.slice h1.h.A0 o1.st.f0.length h1.h.c0, .slice h1.h.A1 o1.st.f1.length h1.h.c1, .slice h1.h.A2 o1.st.f2.length h1.h.c2, .slice h1.h.A3 o1.st.f3.length h1.h.c3, .slice h1.h.A4 o1.st.f4.length h1.h.c4, .slice h1.k.A o1.bs.length h1.k.c] 59)).alloc (.cells #[.slice h2.h.A0 o2.st.f0.length h2.h.c0, .slice h2.h.A1 o2.st.f1.length h2.h.c1, .slice h2.h.A2 o2.st.f2.length h2.h.c2, .slice h2.h.A3 o2.st.f3.length h2.h.c3, .slice h2.h.A4 o2.st.f4.length h2.h.c4, .slice h2.k.A o2.bs.length h2.k.c] 59) := ⟨_, rfl⟩
  have bW : Below w.heap.size w W := by rw [hW]; go_grown
  have k0 : Bk W w.heap.size 59 #[.slice h1.h.A0 o1.st.f0.length h1.h.c0, .slice h1.h.A1 o1.st.f1.length h1.h.c1, .slice h1.h.A2 o1.st.f2.length h1.h.c2, .slice h1.h.A3 o1.st.f3.length h1.h.c3, .slice h1.h.A4 o1.st.f4.length h1.h.c4, .slice h1.k.A o1.bs.length h1.k.c] := by rw [hW]; exact (Bk.new w _ _).alloc _
  have k1 : Bk W (w.heap.size + 1) 59 #[.slice h2.h.A0 o2.st.f0.length h2.h.c0, .slice h2.h.A1 o2.st.f1.length h2.h.c1, .slice h2.h.A2 o2.st.f2.length h2.h.c2, .slice h2.h.A3 o2.st.f3.length h2.h.c3, .slice h2.h.A4 o2.st.f4.length h2.h.c4, .slice h2.k.A o2.bs.length h2.k.c] := by
    rw [hW]; have := Bk.new (w.alloc (.cells #[.slice h1.h.A0 o1.st.f0.length h1.h.c0, .slice h1.h.A1 o1.st.f1.length h1.h.c1, .slice h1.h.A2 o1.st.f2.length h1.h.c2, .slice h1.h.A3 o1.st.f3.length h1.h.c3, .slice h1.h.A4 o1.st.f4.length h1.h.c4, .slice h1.k.A o1.bs.length h1.k.c] 59)) #[.slice h2.h.A0 o2.st.f0.length h2.h.c0, .slice h2.h.A1 o2.st.f1.length h2.h.c1, .slice h2.h.A2 o2.st.f2.length h2.h.c2, .slice h2.h.A3 o2.st.f3.length h2.h.c3, .slice h2.h.A4 o2.st.f4.length h2.h.c4, .slice h2.k.A o2.bs.length h2.k.c] 59
    rwa [World.size_alloc] at this
  have P0 := Lib.hid (r1.below bW hB)
  have Q0 := Lib.hid (r2.below bW hB)
  have K00 := Lib.hid k0
  have K10 := Lib.hid k1
  have B0 := Lib.hid bW
  have z0 := bW.size
  have HW := Lib.hid hW
  clear hW bW k0 k1 r1 r2
  by_cases q0 : o1.st = o2.st
  rotate_left
  · have Y0 := Lib.hid q0
    have hfin : Hid (r = false) := Lib.hid (by rw [← hr.out]; exact decide_eq_false (fun e => Y0.out (by rw [e])))
    clear hr q0
    go_enter Try.func37, Try.ntmps37
    go_wp2_with fail
    rw [← HW.out]
    refine (eqSta_any h1.h h2.h o1.st o2.st W B P0.out.s Q0.out.s (by omega) l0 m0 false (Lib.hid (by simpa using Y0.out))).mono ?_
    rintro e u1 ⟨rfl, hb⟩
    have B1 := Lib.hid (below_on B0.out hb)
    clear hb
    go_wp2
    go_ret
    exact ⟨by rw [hfin.out]; rfl, B1.out⟩
  have Y0 := Lib.hid q0
  clear q0
  obtain ⟨r1, hr1⟩ : ∃ r1, decide (o1.bs = o2.bs) = r1 := ⟨_, rfl⟩
  have R1 := Lib.hid hr1
  have hfin : Hid (r = r1) := Lib.hid (by
    rw [← hr.out, ← hr1]
    cases o1; cases o2
    have := Y0.out
    simp only at this
    subst this
    simp)
  clear hr hr1
  rcases Bool.eq_false_or_eq_true r1 with h | h
  all_goals
    subst h
    go_enter Try.func37, Try.ntmps37
    go_wp2_with fail
    rw [← HW.out]
    refine (eqSta_any h1.h h2.h o1.st o2.st W B P0.out.s Q0.out.s (by omega) l0 m0 true (Lib.hid (by simpa using Y0.out))).mono ?_
    rintro e u1 ⟨rfl, hb⟩
    have B1 := Lib.hid (below_on B0.out hb)
    have P1 := Lib.hid (P0.out.below hb (by omega))
    have Q1 := Lib.hid (Q0.out.below hb (by omega))
    have K01 := Lib.hid (K00.out.below hb K00.out.lt)
    have K11 := Lib.hid (K10.out.below hb K10.out.lt)
    have z1 := hb.size
    clear hb
    have ca : u1.cell? ⟨w.heap.size, 5, none⟩ = some (.slice h1.k.A o1.bs.length h1.k.c) := K01.out.cell 5
    have cb : u1.cell? ⟨w.heap.size + 1, 5, none⟩ = some (.slice h2.k.A o2.bs.length h2.k.c) := K11.out.cell 5
    go_wp2_with fail
    refine (eqIss_m h1.k h2.k o1.bs o2.bs u1 B P1.out.b Q1.out.b (by omega) l1 m1 _ R1).mono ?_
    rintro e u2 ⟨rfl, hb⟩
    have B2 := Lib.hid (below_on B1.out hb)
    clear hb ca cb
    go_wp2
    go_ret
    exact ⟨by rw [hfin.out]; rfl, B2.out⟩
/-! ### marks -/
def upBuf (K : Int) (o : Buf) : Buf := ⟨upSta K o.st, upIss (K + allSta o.st) o.bs⟩
def allBuf (o : Buf) : Int := allSta o.st + allIss o.bs
theorem allSta_le {o : Sta} (h : StaL o 1048576) : 0 ≤ allSta o ∧ allSta o ≤ 5242880 := by
  obtain ⟨l0, l1, l2, l3, l4⟩ := h
  unfold allSta
  omega
theorem markBuf_any (h : BufH) (o : Buf) (K : Int) (w : World) (lo hi : Nat) (hO : BufO w lo hi h o) (hhi : hi ≤ w.heap.size) (hL : BufS o) (hK : 0 ≤ K) (hK2 : K ≤ 90000000) :
    Calls Try.prog 38 #[BufV h o, .int .i64 K] w fun e w' => e = .returned (.int .i64 (K + allBuf o)) ∧ Only lo hi w w' ∧ BufO w' lo hi h (upBuf K o) := by
  obtain ⟨l0, l1⟩ := hL
  obtain ⟨a, b, c, d, e1, e2, e3, e4, e5, oS, oB⟩ := hO
  have ual := allSta_le l0
  obtain ⟨W, hW⟩ : ∃ W, W = w.alloc (.cells #[.slice h.h.A0 o.st.f0.length h.h.c0, .slice h.h.A1 o.st.f1.length h.h.c1, .slice h.h.A2 o.st.f2.length h.h.c2, .slice h.h.A3 o.st.f3.length h.h.c3, .slice h.h.A4 o.st.f4.length h.h.c4, .slice h.k.A o.bs.length h.k.c] 59) := ⟨_, rfl⟩
  have bW : Below w.heap.size w W := by rw [hW]; go_grown
  have k0 : Bk W w.heap.size 59 #[.slice h.h.A0 o.st.f0.length h.h.c0, .slice h.h.A1 o.st.f1.length h.h.c1, .slice h.h.A2 o.st.f2.length h.h.c2, .slice h.h.A3 o.st.f3.length h.h.c3, .slice h.h.A4 o.st.f4.length h.h.c4, .slice h.k.A o.bs.length h.k.c] := by rw [hW]; exact Bk.new w _ _
  have zW := bW.size
  have JS := Lib.hid (oS.below bW (by omega))
  have JB := Lib.hid (oB.below bW (by omega))
  have On0 := Lib.hid (Only.of_below (lo := lo) (hi := hi) bW)
  have K0 := Lib.hid k0
  have HW := Lib.hid hW
  clear hW bW k0 oS oB
  go_enter Try.func38, Try.ntmps38
  go_wp2_with fail
  rw [← HW.out]
  refine (markSta_any h.h o.st K W a b JS.out (by omega) l0 hK (by omega)).mono ?_
  rintro e u1 ⟨rfl, on, own⟩
  have On1 := Lib.hid (On0.out.trans (on.mono e1 e2))
  have z1 := on.size
  have K1 := Lib.hid (only_bk K0.out on (by omega))
  have J1 := Lib.hid (JB.out.keep (Nat.le_refl _) (Nat.le_refl _) fun i p q => on.block i (by omega) (by omega))
  have S1 := Lib.hid own
  clear on own
  have c5 : u1.cell? ⟨w.heap.size, 5, none⟩ = some (.slice h.k.A o.bs.length h.k.c) := K1.out.cell 5
  go_wp2_with fail
  clear c5
  refine (markIss_any h.k o.bs (K + allSta o.st) u1 c d J1.out (by omega) l1 (by omega) (by omega)).mono ?_
  rintro e u2 ⟨rfl, on, own⟩
  have On2 := Lib.hid (On1.out.trans (on.mono e3 e4))
  have S2 := Lib.hid (S1.out.keep (Nat.le_refl _) (Nat.le_refl _) fun i p q => on.block i (by omega) (by omega))
  have J2 := Lib.hid own
  clear on own
  go_wp2
  go_ret
  exact ⟨by rw [allBuf, Int.add_assoc]; rfl, On2.out, a, b, c, d, e1, e2, e3, e4, e5, S2.out, J2.out⟩
theorem heldBuf_any (h : BufH) (o : Buf) (K : Int) (w : World) (B : Nat) (hR : BufR w B h (upBuf K o)) (hB : B ≤ w.heap.size) (hL : BufS o) (hK : 0 ≤ K) (hK2 : K ≤ 90000000) :
    Calls Try.prog 39 #[BufV h o, .int .i64 K] w fun e w' => e = .returned (.int .i64 (K + allBuf o)) ∧ Below w.heap.size w w' := by
  obtain ⟨l0, l1⟩ := hL
  have ual := allSta_le l0
  have uil : 0 ≤ allIss o.bs := by unfold allIss; omega
  obtain ⟨W, hW⟩ : ∃ W, W = w.alloc (.cells #[.slice h.h.A0 o.st.f0.length h.h.c0, .slice h.h.A1 o.st.f1.length h.h.c1, .slice h.h.A2 o.st.f2.length h.h.c2, .slice h.h.A3 o.st.f3.length h.h.c3, .slice h.h.A4 o.st.f4.length h.h.c4, .slice h.k.A o.bs.length h.k.c] 59) := ⟨_, rfl⟩
  have bW : Below w.heap.size w W := by rw [hW]; go_grown
  have k0 : Bk W w.heap.size 59 #[.slice h.h.A0 o.st.f0.length h.h.c0, .slice h.h.A1 o.st.f1.length h.h.c1, .slice h.h.A2 o.st.f2.length h.h.c2, .slice h.h.A3 o.st.f3.length h.h.c3, .slice h.h.A4 o.st.f4.length h.h.c4, .slice h.k.A o.bs.length h.k.c] := by rw [hW]; exact Bk.new w _ _
  have zW := bW.size
  have R0 := Lib.hid (hR.below bW hB)
  have K0 := Lib.hid k0
  have B0 := Lib.hid bW
  have HW := Lib.hid hW
  clear hW bW k0 hR
  go_enter Try.func39, Try.ntmps39
  go_wp2_with fail
  rw [← HW.out]
  refine (heldSta_any h.h o.st K W B R0.out.s (by omega) l0 hK (by omega)).mono ?_
  rintro e u1 ⟨rfl, hb⟩
  have B1 := Lib.hid (below_on B0.out hb)
  have R1 := Lib.hid (R0.out.below hb (by omega))
  have K1 := Lib.hid (K0.out.below hb K0.out.lt)
  have z1 := hb.size
  clear hb
  have c5 : u1.cell? ⟨w.heap.size, 5, none⟩ = some (.slice h.k.A o.bs.length h.k.c) := K1.out.cell 5
  go_wp2_with fail
  clear c5
  refine (heldIss_any h.k o.bs (K + allSta o.st) u1 B R1.out.b (by omega) l1 (by omega) (by omega)).mono ?_
  rintro e u2 ⟨rfl, hb⟩
  have B2 := Lib.hid (below_on B1.out hb)
  clear hb
  go_wp2
  go_ret
  exact ⟨by rw [allBuf, Int.add_assoc]; rfl, B2.out⟩
end Go.Proofs.Ytnadihepgmbhaaa
