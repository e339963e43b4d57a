/-
  What the reference model's l7Do comes to at a store that is put behind.
-/
import Derived.Test.YtnadihepgmbhaaaSpr
import Derived.Test.YtnadihepgmbhaaaSCopy
import Derived.Test.YtnadihepgmbhaaaVSbg
import Derived.Test.YtnadihepgmbhaaaQMake
import Derived.Deep.QuietTactic
import Derived.BigQuiet
import Derived.Deep.AppendLies
import Derived.Test.YtnadihepgmbhaaaVInv
import Derived.Test.YtnadihepgmbhaaaDoZ
import Derived.Laws.OwnMore
import Derived.Test.YtnadihepgmbhaaaSpDo
import Derived.Deep.RegionHeld3
namespace Go.Proofs.Ytnadihepgmbhaaa
open Go.RowKit Pl Go.BigFrame
set_option maxHeartbeats 4000000
set_option maxRecDepth 100000
set_option linter.unusedVariables false

/-- A new list of the call's own, with its room. -/
def MadeO (w : World) (zs : List Int) (e : Ending) (w' : World) : Prop :=
  ∃ g cap, e = .returned (.slice (some ⟨g, 0, none⟩) zs.length cap) ∧ zs.length ≤ cap ∧ cap ≤ maxLen ∧ w.heap.size ≤ g ∧ Below w.heap.size w w' ∧ w'.ownsRow w.heap.size 3 1 (.slice (some ⟨g, 0, none⟩) zs.length cap) zs.length (ints zs)
theorem nums_own (A : Option Addr) (c : Nat) (xs : List Int) (w : World) (B : Nat) (hR : Vs w B A (ints xs)) (hB : B ≤ w.heap.size) (hl : xs.length ≤ 1000) :
    Calls Try.prog 126 #[.slice A xs.length c] w (MadeO w xs) := by
  obtain ⟨i0, hi, iz0, iz1, iz2⟩ := info_parts Try.info3
  have start : Hid ((w.alloc (.cells #[] 3)).ownsRow w.heap.size 3 1 (.slice (some ⟨w.heap.size, 0, none⟩) 0 0) 0 (ints (xs.take 0))) := Lib.hid (World.ownsRow_made w #[] 0 (Nat.le_refl _) (by decide) (by simp))
  have HR := Lib.hid hR
  clear hR
  go_enter Try.func126, Try.ntmps126
  go_wp2
  go_loopw [3, 4] (fun v i wr => ∃ k g cap : Nat, k ≤ xs.length ∧ i = .int .i64 k ∧ v = .slice (some ⟨g, 0, none⟩) k cap ∧ w.heap.size ≤ g ∧ wr.ownsRow w.heap.size 3 1 (.slice (some ⟨g, 0, none⟩) k cap) k (ints (xs.take k)) ∧ Below w.heap.size w wr) (fun _ i _ => xs.length - (intOf i).toNat)
  case atStart => exact ⟨0, _, 0, Nat.zero_le _, rfl, rfl, Nat.le_refl _, start.out, (Below.refl _ _).alloc (Nat.le_refl _) _⟩
  case round =>
    obtain ⟨k, g, cap, hk, rfl, rfl, hgg, hown, hbel⟩ := hrel
    clear start
    have hz := hbel.size
    by_cases hlt : k < xs.length
    · obtain ⟨b, off, x, hA, hb, hx, -, hc⟩ := (HR.out.below hbel (by omega)).int_ hlt
      have Hx : Hid (ints (xs.take (k + 1)) = ints (xs.take k) ++ [.int .i64 x]) := Lib.hid (by simp [ints, List.take_add_one, hx])
      have Hown := Lib.hid hown
      have Hb := Lib.hid hbel
      have hbw : b < wr.heap.size := by omega
      have hi2 : (k : Int) < (xs.length : Int) := by omega
      clear hown hbel hx
      subst hA
      go_wp2_with (at_builtin; refine wpList_append_own _ rfl (.tmp 12) (.tmp 17) 26 rfl w.heap.size 3 i0 _ 1 8 Try.underlying26 hi iz0 iz1 iz2 rfl (by decide) _ k _ rfl (Hown.out.alloc _) ⟨_, 0, none⟩ 1 1 [.int .i64 _] rfl rfl (cell1_new _ _ _) (by intro u hu; simp at hu; subst hu; rfl) (by unfold maxLen; omega) (by omega) (by simp; omega) ?_; intro v' w3 own3 grow3 _; obtain ⟨g3, cap3, rfl, hg3, hlt3⟩ := own3.form (by omega); have Own3 := Lib.hid own3; have B3 := Lib.hid ((Hb.out.alloc hz _).grown grow3 (by simp; omega) (by intro qh hq; cases hq; exact hgg)); clear own3 grow3)
      go_roundw
      case rel => exact ⟨k + 1, g3, cap3, by omega, by go_num, rfl, hg3, by rw [Hx.out]; exact Own3.out, B3.out⟩
      case measure => simp [intOf]; omega
    · have hkl : k = xs.length := by omega
      subst hkl
      have Hown := Lib.hid hown
      clear hown
      go_wp2
      go_ret
      obtain ⟨h1, h2⟩ := own_cap Hown.out
      exact ⟨g, cap, by simp, h1, h2, hgg, hbel, by simpa using Hown.out⟩
/-- Rows of the call's own below a list of headers, from block base on: each row in a block that no other one has. -/
structure RwH (w : World) (base : Nat) (L : Iss) (hs : List Value) (m : Nat) (G C : Nat → Nat) : Prop where
  len : hs.length = m
  at_ : ∀ i xs, i < m → L[i]? = some xs → hs[i]? = some (.slice (some ⟨G i, 0, none⟩) xs.length (C i)) ∧ w.ownsRow base 3 1 (.slice (some ⟨G i, 0, none⟩) xs.length (C i)) xs.length (ints xs)
  apart : ∀ i j, i < j → j < m → G i ≠ G j
theorem own_blk {w : World} {base n c g : Nat} {t : TypeId} {zs : List Value} (h : w.ownsRow base t 1 (.slice (some ⟨g, 0, none⟩) n c) n zs) : base ≤ g ∧ g < w.heap.size ∧ ∃ cu, Bk w g t cu := owns_block h rfl
theorem RwH.kept {w w' : World} {base m : Nat} {L : Iss} {hs : List Value} {G C : Nat → Nat} (h : RwH w base L hs m G C) (hL : m ≤ L.length) {row : Option Nat} (hg : w.grownBy w' row) (hne : ∀ i, i < m → some (G i) ≠ row) : RwH w' base L hs m G C :=
  ⟨h.len, fun i xs hi hx => ⟨(h.at_ i xs hi hx).1, (h.at_ i xs hi hx).2.kept hg (Or.inr (by simpa [Value.ownBlock] using hne i hi))⟩, h.apart⟩
theorem RwH.setCell {w : World} {base m : Nat} {L : Iss} {hs : List Value} {G C : Nat → Nat} (h : RwH w base L hs m G C) {p : Addr} (hne : ∀ i, i < m → G i ≠ p.block) (v : Value) : RwH (w.setCell p v) base L hs m G C :=
  ⟨h.len, fun i xs hi hx => ⟨(h.at_ i xs hi hx).1, ownsRow_setCell_other (h.at_ i xs hi hx).2 (by simpa [Value.ownBlock] using hne i hi) v⟩, h.apart⟩
theorem RwH.snoc {w : World} {base m g c : Nat} {L : Iss} {hs : List Value} {G C : Nat → Nat} {xs : List Int} (h : RwH w base L hs m G C) (hx : L[m]? = some xs) (ho : w.ownsRow base 3 1 (.slice (some ⟨g, 0, none⟩) xs.length c) xs.length (ints xs)) (hne : ∀ i, i < m → G i ≠ g) :
    RwH w base L (hs ++ [.slice (some ⟨g, 0, none⟩) xs.length c]) (m + 1) (fun i => if i = m then g else G i) (fun i => if i = m then c else C i) := by
  refine ⟨by simp [h.len], fun i ys hi hy => ?_, fun i j hij hj => ?_⟩
  · by_cases e : i = m
    · subst e
      rw [hx] at hy; injection hy with hy; subst hy
      simp only [if_true]
      exact ⟨by rw [List.getElem?_append_right (by rw [h.len]; exact Nat.le_refl _), h.len]; simp, ho⟩
    · simp only [if_neg e]
      obtain ⟨a1, a2⟩ := h.at_ i ys (by omega) hy
      exact ⟨by rw [List.getElem?_append_left (by rw [h.len]; omega)]; exact a1, a2⟩
  · by_cases e : j = m
    · subst e
      have e' : i ≠ j := by omega
      simp only [if_true, if_neg e']
      exact hne i hij
    · have e' : i ≠ m := by omega
      simp only [if_neg e, if_neg e']
      exact h.apart i j hij (by omega)
theorem bk_types {w : World} {g g' : Nat} {t t' : TypeId} {cs cs' : Array Value} (h : Bk w g t cs) (h' : Bk w g' t' cs') (hne : t ≠ t') : g ≠ g' := fun e => by
  subst e
  unfold Bk at h h'
  rw [h] at h'
  injection h' with h'
  injection h' with _ h'
  exact hne h'
/-- A copy at work: the box of the copy, its list of headers, its rows. -/
structure CpB (w1 wr : World) (o : Buf) (qh : StaH) (m : Nat) (A : Option Addr) (c : Nat) (hs : List Value) (G C : Nat → Nat) : Prop where
  bel : Below w1.heap.size w1 wr
  box : Bk wr w1.heap.size 59 #[.slice qh.A0 o.st.f0.length qh.c0, .slice qh.A1 o.st.f1.length qh.c1, .slice qh.A2 o.st.f2.length qh.c2, .slice qh.A3 o.st.f3.length qh.c3, .slice qh.A4 o.st.f4.length qh.c4, .slice A m c]
  own : wr.ownsRow (w1.heap.size + 1) 26 1 (.slice A m c) m hs
  rows : RwH wr (w1.heap.size + 1) o.bs hs m G C
theorem cpb_next {w1 wr w3 w4 : World} {o : Buf} {qh : StaH} {m c g cap g4 cap4 : Nat} {A : Option Addr} {hs : List Value} {G C : Nat → Nat} {xs : List Int} {ob : Obj} (cp : CpB w1 wr o qh m A c hs G C) (hx : o.bs[m]? = some xs) (hb3 : Below wr.heap.size wr w3)
    (ownH : w3.ownsRow (w1.heap.size + 1) 26 1 (.slice A m c) m hs) (own3 : w3.ownsRow (w1.heap.size + 1) 3 1 (.slice (some ⟨g, 0, none⟩) xs.length cap) xs.length (ints xs)) (hg : wr.heap.size ≤ g)
    (own4 : w4.ownsRow (w1.heap.size + 1) 26 1 (.slice (some ⟨g4, 0, none⟩) (m + 1) cap4) (m + 1) (hs ++ [.slice (some ⟨g, 0, none⟩) xs.length cap])) (grow4 : (w3.alloc ob).grownBy w4 (Value.slice A m c).ownBlock) :
    Bk w4 w1.heap.size 59 #[.slice qh.A0 o.st.f0.length qh.c0, .slice qh.A1 o.st.f1.length qh.c1, .slice qh.A2 o.st.f2.length qh.c2, .slice qh.A3 o.st.f3.length qh.c3, .slice qh.A4 o.st.f4.length qh.c4, .slice A m c] ∧ (∀ b, b < w1.heap.size → w4.heap[b]? = w3.heap[b]?) ∧
    CpB w1 (w4.setCell ⟨w1.heap.size, 5, none⟩ (.slice (some ⟨g4, 0, none⟩) (m + 1) cap4)) o qh (m + 1) (some ⟨g4, 0, none⟩) cap4 (hs ++ [.slice (some ⟨g, 0, none⟩) xs.length cap]) (fun i => if i = m then g else G i) (fun i => if i = m then cap else C i) := by
  have hml : m < o.bs.length := (List.getElem?_eq_some_iff.1 hx).1
  have z3 := hb3.size
  have zr := cp.bel.size
  have lb := cp.box.lt
  have g4s : w3.heap.size + 1 ≤ w4.heap.size := by have := grow4.size; simpa using this
  have hne : ∀ b, (Value.slice A m c).ownBlock = some b → w1.heap.size + 1 ≤ b ∧ ∃ cu, Bk w3 b 26 cu := fun b hb => by
    obtain ⟨h1, _, h2⟩ := owns_block ownH hb.symm
    exact ⟨h1, h2⟩
  have k3 := cp.box.below hb3 lb
  have k4 : Bk w4 w1.heap.size 59 #[.slice qh.A0 o.st.f0.length qh.c0, .slice qh.A1 o.st.f1.length qh.c1, .slice qh.A2 o.st.f2.length qh.c2, .slice qh.A3 o.st.f3.length qh.c3, .slice qh.A4 o.st.f4.length qh.c4, .slice A m c] := box_grown (k3.alloc ob) grow4 (fun b hb => by have := (hne b hb).1; omega)
  have hlow : ∀ b, b < w1.heap.size → w4.heap[b]? = w3.heap[b]? := fun b hb => (grow4.block b (by simp; omega) (fun e => by have := (hne b e.symm).1; omega)).trans (Below.heap_alloc w3 ob b (by omega))
  have r3 := cp.rows.kept (by omega) (grown_of_below hb3 none) (fun i hi => by simp)
  have ga : w3.grownBy (w3.alloc ob) none := grown_of_below ((Below.refl _ _).alloc (Nat.le_refl _) ob) none
  have rowne : ∀ {b cu}, Bk w3 b 3 cu → some b ≠ (Value.slice A m c).ownBlock := fun hb e => by
    obtain ⟨_, cu', hb'⟩ := hne _ e.symm
    exact bk_types hb hb' (by decide) rfl
  have r4 := (r3.kept (by omega) ga (fun i hi => by simp)).kept (by omega) grow4 (fun i hi => by
    obtain ⟨_, _, cu, hb⟩ := own_blk (r3.at_ i _ hi (List.getElem?_eq_getElem (by omega))).2
    exact rowne hb)
  have o4 := (own3.kept ga (Or.inr (by simp [Value.ownBlock]))).kept grow4 (Or.inr (by
    obtain ⟨_, _, cu, hb⟩ := own_blk own3
    simpa [Value.ownBlock] using rowne hb))
  have hga := (own_blk own3).1
  have r5 := (r4.snoc hx o4 (fun i hi => by
    obtain ⟨_, h2, _⟩ := own_blk (cp.rows.at_ i _ hi (List.getElem?_eq_getElem (by omega))).2
    omega))
  refine ⟨k4, hlow, ?_, by have := k4.set 5 (.slice (some ⟨g4, 0, none⟩) (m + 1) cap4); simpa using this, ownsRow_setCell_below own4 (by show w1.heap.size < w1.heap.size + 1; omega) _, r5.setCell (fun i hi => ?_) _⟩
  · exact (((cp.bel.trans (hb3.mono zr)).alloc (by omega) ob).grown grow4 (by simp; omega) (fun b hb => by have := (hne b hb).1; omega)).setCell (Nat.le_refl _) _
  · show (if i = m then g else G i) ≠ w1.heap.size
    by_cases e : i = m
    · rw [if_pos e]; omega
    · rw [if_neg e]
      have := (own_blk (cp.rows.at_ i _ (by omega) (List.getElem?_eq_getElem (by omega))).2).1
      omega
/-- What l7Copy comes to. -/
def CopB (w : World) (o : Buf) (e : Ending) (w' : World) : Prop :=
  ∃ (qh : StaH) (A : Option Addr) (c : Nat) (hs : List Value) (G C : Nat → Nat) (lo hi bs : Nat), e = .returned (BufV ⟨qh, ⟨A, c⟩⟩ o) ∧ Below w.heap.size w w' ∧ w.heap.size ≤ lo ∧ hi ≤ bs ∧ bs ≤ w'.heap.size ∧ StaO w' lo hi qh o.st ∧ w'.ownsRow bs 26 1 (.slice A o.bs.length c) o.bs.length hs ∧ RwH w' bs o.bs hs o.bs.length G C
theorem s7copy_any (k : BufH) (o : Buf) (w : World) (B : Nat) (hS : BufR w B k o) (hB : B ≤ w.heap.size) (hl : StaL o.st 1000) (hn : o.bs.length ≤ 1000) (hr : ∀ xs ∈ o.bs, xs.length ≤ 1000) :
    Calls Try.prog 135 #[BufV k o] w (CopB w o) := by
  obtain ⟨i1, hi1, jz0, jz1, jz2⟩ := info_parts info_il
  obtain ⟨W, hW⟩ : ∃ W, W = (w.alloc (.cells #[.slice k.h.A0 o.st.f0.length k.h.c0, .slice k.h.A1 o.st.f1.length k.h.c1, .slice k.h.A2 o.st.f2.length k.h.c2, .slice k.h.A3 o.st.f3.length k.h.c3, .slice k.h.A4 o.st.f4.length k.h.c4, .slice k.k.A o.bs.length k.k.c] 59)).alloc (.cells #[.slice none 0 0, .slice none 0 0, .slice none 0 0, .slice none 0 0, .slice none 0 0, .slice none 0 0] 59) := ⟨_, rfl⟩
  have bW : Below w.heap.size w W := by rw [hW]; go_grown
  have sW : W.heap.size = w.heap.size + 1 + 1 := by rw [hW]; simp
  have k0 : Bk W w.heap.size 59 #[.slice k.h.A0 o.st.f0.length k.h.c0, .slice k.h.A1 o.st.f1.length k.h.c1, .slice k.h.A2 o.st.f2.length k.h.c2, .slice k.h.A3 o.st.f3.length k.h.c3, .slice k.h.A4 o.st.f4.length k.h.c4, .slice k.k.A o.bs.length k.k.c] := by rw [hW]; exact (Bk.new w _ _).alloc _
  have k1 : Bk W (w.heap.size + 1) 59 #[.slice none 0 0, .slice none 0 0, .slice none 0 0, .slice none 0 0, .slice none 0 0, .slice none 0 0] := by
    rw [hW]; have := Bk.new (w.alloc (.cells #[.slice k.h.A0 o.st.f0.length k.h.c0, .slice k.h.A1 o.st.f1.length k.h.c1, .slice k.h.A2 o.st.f2.length k.h.c2, .slice k.h.A3 o.st.f3.length k.h.c3, .slice k.h.A4 o.st.f4.length k.h.c4, .slice k.k.A o.bs.length k.k.c] 59)) #[.slice none 0 0, .slice none 0 0, .slice none 0 0, .slice none 0 0, .slice none 0 0, .slice none 0 0] 59
    rwa [World.size_alloc] at this
  have Q0 := Lib.hid (hS.below bW hB)
  have K0 := Lib.hid k0
  have K1 := Lib.hid k1
  have BW := Lib.hid bW
  have sWa := Nat.le_of_eq sW
  have sWb := Nat.le_of_eq sW.symm
  have HW := Lib.hid hW
  have HRL := Lib.hid hr
  clear k0 k1 bW sW hW hS hr
  go_enter Try.func135, Try.ntmps135
  go_wp2_with fail
  rw [← HW.out]
  refine (scopy_any k.h o.st W B Q0.out.s (by omega) hl).mono ?_
  rintro e w1 ⟨qh, rfl, hb1, hz1, oS⟩
  have B1 := Lib.hid (below_on BW.out hb1)
  have Q1 := Lib.hid (Q0.out.below hb1 (by omega))
  have K01 := Lib.hid (K0.out.below hb1 K0.out.lt)
  have K11 := Lib.hid (K1.out.below hb1 K1.out.lt)
  have OS := Lib.hid oS
  clear hb1 oS
  go_wp2_with fail
  obtain ⟨w2, hw2⟩ : ∃ V, V = w1.alloc (.cells #[.slice qh.A0 o.st.f0.length qh.c0, .slice qh.A1 o.st.f1.length qh.c1, .slice qh.A2 o.st.f2.length qh.c2, .slice qh.A3 o.st.f3.length qh.c3, .slice qh.A4 o.st.f4.length qh.c4, .slice none 0 0] 59) := ⟨_, rfl⟩
  rw [← hw2]
  have start : Hid (∃ A c hs G C, CpB w1 w2 o qh 0 A c hs G C) := Lib.hid (by
    rw [hw2]
    exact ⟨none, 0, [], fun _ => 0, fun _ => 0, (Below.refl _ _).alloc (Nat.le_refl _) _, Bk.new _ _ _, World.ownsRow_nil .., rfl, fun i xs hi => absurd hi (by omega), fun i j _ hj => absurd hj (by omega)⟩)
  clear hw2
  go_loopw [4] (fun i wr => ∃ m : Nat, m ≤ o.bs.length ∧ i = .int .i64 m ∧ ∃ A c hs G C, CpB w1 wr o qh m A c hs G C) (fun i _ => o.bs.length - (intOf i).toNat)
  case atStart => exact ⟨0, Nat.zero_le _, rfl, start.out⟩
  case round =>
    obtain ⟨m, hm, rfl, A, c, hs, G, C, cp⟩ := hrel
    clear start
    have hz := cp.bel.size
    have k0r := K01.out.below cp.bel (by have := K01.out.lt; omega)
    have c5 : wr.cell? ⟨w.heap.size, 5, none⟩ = some (.slice k.k.A o.bs.length k.k.c) := k0r.cell 5
    have l5 := k0r.lt
    have K0r := Lib.hid k0r
    by_cases hlt : m < o.bs.length
    · obtain ⟨xs, hxs, -⟩ := drop_at hlt
      have hti : (m : Int) < (o.bs.length : Int) := by omega
      obtain ⟨rb, ro, Ai, ci, hA, hrb, hx0, hrw⟩ := (Q1.out.below cp.bel (by omega)).b.v.at_ (vsIss_at hxs)
      rw [ints_length] at hx0
      have hl1 := HRL.out xs (List.mem_of_getElem? hxs)
      have lrb : rb < wr.heap.size := by omega
      have HCP := Lib.hid cp
      have HX := Lib.hid hxs
      have HRw := Lib.hid hrw
      have cO : wr.cell? ⟨w1.heap.size, 5, none⟩ = some (.slice A m c) := cp.box.cell 5
      have lO := cp.box.lt
      have hwr : wr.heap.size ≤ wr.heap.size := Nat.le_refl _
      have HA := Lib.hid hA
      clear k0r hxs hrw cp
      obtain ⟨S, SI, S0, S1, S2⟩ : ∃ S : World → Prop, (∀ w' : World, w'.cell? ⟨w1.heap.size, 5, none⟩ = some (.slice A m c) → w'.cell? ⟨w.heap.size, 5, none⟩ = some (.slice k.k.A o.bs.length k.k.c) → w'.cell? ⟨rb, ro + m, none⟩ = some (.slice Ai xs.length ci) → S w') ∧ (∀ y : Ws S, y.val.cell? ⟨w1.heap.size, 5, none⟩ = some (.slice A m c)) ∧ (∀ y : Ws S, y.val.cell? ⟨w.heap.size, 5, none⟩ = some (.slice k.k.A o.bs.length k.k.c)) ∧ (∀ y : Ws S, y.val.cell? ⟨rb, ro + m, none⟩ = some (.slice Ai xs.length ci)) :=
        ⟨fun w' => w'.cell? ⟨w1.heap.size, 5, none⟩ = some (.slice A m c) ∧ w'.cell? ⟨w.heap.size, 5, none⟩ = some (.slice k.k.A o.bs.length k.k.c) ∧ w'.cell? ⟨rb, ro + m, none⟩ = some (.slice Ai xs.length ci), fun w' a b c => ⟨a, b, c⟩, fun y => y.ok.1, fun y => y.ok.2.1, fun y => y.ok.2.2⟩
      have HSI := Lib.hid SI
      have HS := Lib.hid (show S wr.drew from SI _ cO c5 hx0)
      haveI hne := Nonempty.intro (Ws.mk wr.drew HS.out)
      have lA : m < 9223372036854775807 := by omega
      clear SI
      have X0 := Lib.hid hx0
      have XO := Lib.hid cO
      have X5 := Lib.hid c5
      go_wp2_with fail
      clear hx0 cO c5
      refine region_make (C := In S) 7 10 (by omega) (by kernel_rfl) (In.mk HS.out) ?_
      simp only [List.take_succ_cons, List.take_zero, List.drop_succ_cons, List.drop_zero]
      repeat (go_big_quiet_step (fail))
      refine wpQuiet_nil ?_
      clear S0 S1 S2
      refine seqC_step (by rfl) ?_
      intro R hR
      go_wp2_with fail
      refine (nums_own Ai ci xs _ B (HRw.out.below ((Below.refl wr.heap.size wr).drew) (by omega)) (by show B ≤ wr.heap.size; omega) hl1).mono ?_
      rintro e w3 ⟨g, cap, rfl, hc1, hc2, hg, hb3', own3⟩
      have hb3 : Below wr.heap.size wr w3 := below_on ((Below.refl wr.heap.size wr).drew) hb3'
      have hg : wr.heap.size ≤ g := hg
      have z3 := hb3.size
      have OwnH := Lib.hid (HCP.out.own.kept (grown_of_below hb3 none) (by cases hv : (Value.slice A m c).ownBlock <;> simp))
      have Own3 := Lib.hid (Joins.ownsRow_le own3 (show w1.heap.size + 1 ≤ wr.drew.heap.size by show w1.heap.size + 1 ≤ wr.heap.size; omega))
      have B3 := Lib.hid hb3
      have S3 := Lib.hid (HSI.out w3 ((hb3.cell (p := ⟨w1.heap.size, 5, none⟩) lO).trans XO.out) ((hb3.cell (p := ⟨w.heap.size, 5, none⟩) l5).trans X5.out) ((hb3.cell (p := ⟨rb, ro + m, none⟩) lrb).trans X0.out))
      have K3 := Lib.hid (HCP.out.box.below hb3 lO)
      have KS3 := Lib.hid (K0r.out.below hb3 l5)
      have X03 := Lib.hid ((hb3.cell (p := ⟨rb, ro + m, none⟩) lrb).trans X0.out)
      have R3 := Lib.hid (HCP.out.rows.kept (by omega) (grown_of_below hb3 none) (fun i hi => by simp))
      clear hb3 hb3' own3
      go_wp2
      refine hR _ _ (fun _ => In.mk S3.out) ?_
      refine seqC_step (by rfl) ?_
      intro R hR
      go_wp2
      have b34 : Below w3.heap.size w3 (w3.alloc (.cells #[.slice (some ⟨g, 0, none⟩) xs.length cap] 26)) := (Below.refl _ _).alloc (Nat.le_refl _) _
      refine hR _ _ (fun _ => In.mk (HSI.out _ ((K3.out.alloc _).cell 5) ((KS3.out.alloc _).cell 5) ((b34.cell (p := ⟨rb, ro + m, none⟩) (by show rb < w3.heap.size; omega)).trans X03.out))) ?_
      clear b34
      refine seqC_step (by rfl) ?_
      intro R hR
      go_wp2_with (at_builtin; refine wpList_append_own _ rfl (.tmp 17) (.tmp 24) 29 rfl (w1.heap.size + 1) 26 i1 _ 1 24 Try.underlying29 hi1 jz0 jz1 jz2 rfl (by decide) _ m hs rfl (OwnH.out.alloc _) ⟨_, 0, none⟩ 1 1 [.slice (some ⟨g, 0, none⟩) xs.length cap] rfl rfl (cell_new1 _ _ _) (by intro u hu; simp at hu; subst hu; rfl) (by unfold maxLen; omega) (by omega) (by simp; omega) ?_; intro v' w4 own4 grow4 _; obtain ⟨g4, cap4, rfl, hg4, hlt4⟩ := own4.form (by omega); have Own4 := Lib.hid own4; have Grow4 := Lib.hid grow4; clear own4 grow4)
      have NX := Lib.hid (cpb_next HCP.out HX.out B3.out OwnH.out Own3.out hg Own4.out Grow4.out)
      have z4 : w3.heap.size + 1 ≤ w4.heap.size := by have := Grow4.out.size; simpa using this
      have low : ∀ b : Nat, b < w1.heap.size → ∀ i : Nat, w4.cell? ⟨b, i, none⟩ = w3.cell? ⟨b, i, none⟩ := fun b hb i => World.cell?_of_block (a := ⟨b, i, none⟩) (NX.out.2.1 b hb)
      have xO4 : w4.cell? ⟨w1.heap.size, 5, none⟩ = some (.slice A m c) := NX.out.1.cell 5
      have fO4 := NX.out.1.free 5
      have S4 := HSI.out w4 xO4 ((low w.heap.size (by omega) 5).trans (KS3.out.cell 5)) ((low rb (by omega) (ro + m)).trans X03.out)
      refine hR _ _ (fun _ => In.mk S4) ?_
      refine seqC_step (by rfl) ?_
      intro R hR
      go_wp2
      refine hR _ _ (fun h => absurd h (by omega)) ?_
      refine seqC_step (by rfl) ?_
      intro R hR
      clear low S4
      go_wp2
      refine hR _ _ (fun h => absurd h (by omega)) ?_
      refine seqC_nil ?_
      clear xO4 fO4
      go_wp2
      go_roundw
      case rel => exact ⟨m + 1, by omega, by go_num, _, _, _, _, _, NX.out.2.2⟩
      case measure => simp [intOf]; omega
    · have hml : m = o.bs.length := by omega
      subst hml
      have HCP := Lib.hid cp
      have HB := Lib.hid (B1.out.trans (cp.bel.mono (by omega)))
      have OS2 := Lib.hid (OS.out.below cp.bel (Nat.le_refl _))
      have K13 := Lib.hid (K11.out.below cp.bel (by have := K11.out.lt; omega))
      have xo0 : wr.cell? ⟨w1.heap.size, 0, none⟩ = some (.slice qh.A0 o.st.f0.length qh.c0) := cp.box.cell 0
      have xo1 : wr.cell? ⟨w1.heap.size, 1, none⟩ = some (.slice qh.A1 o.st.f1.length qh.c1) := cp.box.cell 1
      have xo2 : wr.cell? ⟨w1.heap.size, 2, none⟩ = some (.slice qh.A2 o.st.f2.length qh.c2) := cp.box.cell 2
      have xo3 : wr.cell? ⟨w1.heap.size, 3, none⟩ = some (.slice qh.A3 o.st.f3.length qh.c3) := cp.box.cell 3
      have xo4 : wr.cell? ⟨w1.heap.size, 4, none⟩ = some (.slice qh.A4 o.st.f4.length qh.c4) := cp.box.cell 4
      have xo5 : wr.cell? ⟨w1.heap.size, 5, none⟩ = some (.slice A o.bs.length c) := cp.box.cell 5
      clear k0r cp
      have fr0 : wr.frozen? ⟨w.heap.size + 1, 0, none⟩ = false := (K13.out).free 0
      have cr0 : wr.cell? ⟨w.heap.size + 1, 0, none⟩ = some (.slice none 0 0) := (K13.out).cell 0
      have fr1 : wr.frozen? ⟨w.heap.size + 1, 1, none⟩ = false := (K13.out).free 1
      have cr1 : wr.cell? ⟨w.heap.size + 1, 1, none⟩ = some (.slice none 0 0) := (K13.out).cell 1
      have fr2 : wr.frozen? ⟨w.heap.size + 1, 2, none⟩ = false := (K13.out).free 2
      have cr2 : wr.cell? ⟨w.heap.size + 1, 2, none⟩ = some (.slice none 0 0) := (K13.out).cell 2
      have fr3 : wr.frozen? ⟨w.heap.size + 1, 3, none⟩ = false := (K13.out).free 3
      have cr3 : wr.cell? ⟨w.heap.size + 1, 3, none⟩ = some (.slice none 0 0) := (K13.out).cell 3
      have fr4 : wr.frozen? ⟨w.heap.size + 1, 4, none⟩ = false := (K13.out).free 4
      have cr4 : wr.cell? ⟨w.heap.size + 1, 4, none⟩ = some (.slice none 0 0) := (K13.out).cell 4
      have fr5 : wr.frozen? ⟨w.heap.size + 1, 5, none⟩ = false := (K13.out).free 5
      have cr5 : wr.cell? ⟨w.heap.size + 1, 5, none⟩ = some (.slice none 0 0) := (K13.out).cell 5
      go_wp2
      clear cr0 fr0 xo0 cr1 fr1 xo1 cr2 fr2 xo2 cr3 fr3 xo3 cr4 fr4 xo4 cr5 fr5 xo5
      have kF : Bk ((((((wr.setCell ⟨w.heap.size + 1, 0, none⟩ (.slice qh.A0 o.st.f0.length qh.c0)).setCell ⟨w.heap.size + 1, 1, none⟩ (.slice qh.A1 o.st.f1.length qh.c1)).setCell ⟨w.heap.size + 1, 2, none⟩ (.slice qh.A2 o.st.f2.length qh.c2)).setCell ⟨w.heap.size + 1, 3, none⟩ (.slice qh.A3 o.st.f3.length qh.c3)).setCell ⟨w.heap.size + 1, 4, none⟩ (.slice qh.A4 o.st.f4.length qh.c4)).setCell ⟨w.heap.size + 1, 5, none⟩ (.slice A o.bs.length c)) (w.heap.size + 1) 59 #[.slice qh.A0 o.st.f0.length qh.c0, .slice qh.A1 o.st.f1.length qh.c1, .slice qh.A2 o.st.f2.length qh.c2, .slice qh.A3 o.st.f3.length qh.c3, .slice qh.A4 o.st.f4.length qh.c4, .slice A o.bs.length c] := by
        have a0 := K13.out
        have a1 := a0.set 0 (.slice qh.A0 o.st.f0.length qh.c0)
        have a2 := a1.set 1 (.slice qh.A1 o.st.f1.length qh.c1)
        have a3 := a2.set 2 (.slice qh.A2 o.st.f2.length qh.c2)
        have a4 := a3.set 3 (.slice qh.A3 o.st.f3.length qh.c3)
        have a5 := a4.set 4 (.slice qh.A4 o.st.f4.length qh.c4)
        have a6 := a5.set 5 (.slice A o.bs.length c)
        simpa using a6
      have bF : ∀ B, B ≤ w.heap.size + 1 → Below B wr ((((((wr.setCell ⟨w.heap.size + 1, 0, none⟩ (.slice qh.A0 o.st.f0.length qh.c0)).setCell ⟨w.heap.size + 1, 1, none⟩ (.slice qh.A1 o.st.f1.length qh.c1)).setCell ⟨w.heap.size + 1, 2, none⟩ (.slice qh.A2 o.st.f2.length qh.c2)).setCell ⟨w.heap.size + 1, 3, none⟩ (.slice qh.A3 o.st.f3.length qh.c3)).setCell ⟨w.heap.size + 1, 4, none⟩ (.slice qh.A4 o.st.f4.length qh.c4)).setCell ⟨w.heap.size + 1, 5, none⟩ (.slice A o.bs.length c)) := fun B hB => (((((((Below.refl _ _).setCell (by show B ≤ w.heap.size + 1; omega) _).setCell (by show B ≤ w.heap.size + 1; omega) _).setCell (by show B ≤ w.heap.size + 1; omega) _).setCell (by show B ≤ w.heap.size + 1; omega) _).setCell (by show B ≤ w.heap.size + 1; omega) _).setCell (by show B ≤ w.heap.size + 1; omega) _)
      have nF : ∀ q, q ≠ w.heap.size + 1 → ((((((wr.setCell ⟨w.heap.size + 1, 0, none⟩ (.slice qh.A0 o.st.f0.length qh.c0)).setCell ⟨w.heap.size + 1, 1, none⟩ (.slice qh.A1 o.st.f1.length qh.c1)).setCell ⟨w.heap.size + 1, 2, none⟩ (.slice qh.A2 o.st.f2.length qh.c2)).setCell ⟨w.heap.size + 1, 3, none⟩ (.slice qh.A3 o.st.f3.length qh.c3)).setCell ⟨w.heap.size + 1, 4, none⟩ (.slice qh.A4 o.st.f4.length qh.c4)).setCell ⟨w.heap.size + 1, 5, none⟩ (.slice A o.bs.length c)).heap[q]? = wr.heap[q]? := fun q hq => (Below.heap_setCell _ _ _ q (by show q ≠ w.heap.size + 1; omega)).trans ((Below.heap_setCell _ _ _ q (by show q ≠ w.heap.size + 1; omega)).trans ((Below.heap_setCell _ _ _ q (by show q ≠ w.heap.size + 1; omega)).trans ((Below.heap_setCell _ _ _ q (by show q ≠ w.heap.size + 1; omega)).trans ((Below.heap_setCell _ _ _ q (by show q ≠ w.heap.size + 1; omega)).trans (Below.heap_setCell _ _ _ q (by show q ≠ w.heap.size + 1; omega))))))
      have sF : ((((((wr.setCell ⟨w.heap.size + 1, 0, none⟩ (.slice qh.A0 o.st.f0.length qh.c0)).setCell ⟨w.heap.size + 1, 1, none⟩ (.slice qh.A1 o.st.f1.length qh.c1)).setCell ⟨w.heap.size + 1, 2, none⟩ (.slice qh.A2 o.st.f2.length qh.c2)).setCell ⟨w.heap.size + 1, 3, none⟩ (.slice qh.A3 o.st.f3.length qh.c3)).setCell ⟨w.heap.size + 1, 4, none⟩ (.slice qh.A4 o.st.f4.length qh.c4)).setCell ⟨w.heap.size + 1, 5, none⟩ (.slice A o.bs.length c)).heap.size = wr.heap.size := by simp
      have KF := Lib.hid kF
      have BF := Lib.hid bF
      have NF := Lib.hid nF
      obtain ⟨F, hF⟩ : ∃ F, F = ((((((wr.setCell ⟨w.heap.size + 1, 0, none⟩ (.slice qh.A0 o.st.f0.length qh.c0)).setCell ⟨w.heap.size + 1, 1, none⟩ (.slice qh.A1 o.st.f1.length qh.c1)).setCell ⟨w.heap.size + 1, 2, none⟩ (.slice qh.A2 o.st.f2.length qh.c2)).setCell ⟨w.heap.size + 1, 3, none⟩ (.slice qh.A3 o.st.f3.length qh.c3)).setCell ⟨w.heap.size + 1, 4, none⟩ (.slice qh.A4 o.st.f4.length qh.c4)).setCell ⟨w.heap.size + 1, 5, none⟩ (.slice A o.bs.length c)) := ⟨_, rfl⟩
      rw [← hF] at KF BF NF sF
      rw [← hF]
      clear kF bF nF hF
      have sFa := Nat.le_of_eq sF
      have sFb := Nat.le_of_eq sF.symm
      clear sF
      have cF0 := KF.out.cell 0
      have cF1 := KF.out.cell 1
      have cF2 := KF.out.cell 2
      have cF3 := KF.out.cell 3
      have cF4 := KF.out.cell 4
      have cF5 := KF.out.cell 5
      simp only [List.getElem?_toArray, List.getElem?_cons_zero, List.getElem?_cons_succ] at cF0 cF1 cF2 cF3 cF4 cF5
      refine bodyPost_ret (v := .agg #[.slice qh.A0 o.st.f0.length qh.c0, .slice qh.A1 o.st.f1.length qh.c1, .slice qh.A2 o.st.f2.length qh.c2, .slice qh.A3 o.st.f3.length qh.c3, .slice qh.A4 o.st.f4.length qh.c4, .slice A o.bs.length c]) (by simp [results, Try.results135, cF0, cF1, cF2, cF3, cF4, cF5, go_sem]) rfl ?_
      have kept : World.grownBy wr F (some (w.heap.size + 1)) := ⟨(BF.out 0 (by omega)).os, (BF.out 0 (by omega)).tape, (BF.out 0 (by omega)).output, (BF.out 0 (by omega)).size, fun i hi hne => NF.out i (fun e => hne (by rw [e]))⟩
      refine ⟨qh, A, c, hs, G, C, W.heap.size, w1.heap.size, w1.heap.size + 1, rfl, HB.out.trans (BF.out _ (by omega)), by omega, by omega, by have := HCP.out.box.lt; omega, OS2.out.keep (Nat.le_refl _) (Nat.le_refl _) fun b h1 h2 => NF.out b (by omega), ?_, ?_⟩
      · refine HCP.out.own.kept kept ?_
        cases hq : (Value.slice A o.bs.length c).ownBlock with
        | none => exact Or.inl rfl
        | some b => exact Or.inr (fun e => by injection e with e; have := (owns_block HCP.out.own hq.symm).1; omega)
      · exact HCP.out.rows.kept (Nat.le_refl _) kept (fun i hi e => by
          injection e with e
          have := (own_blk (HCP.out.rows.at_ i _ hi (List.getElem?_eq_getElem hi)).2).1
          omega)
end Go.Proofs.Ytnadihepgmbhaaa
namespace Go.Proofs.Ytnadihepgmbhaaa
open Go.RowKit Pl Go.BigFrame
set_option maxHeartbeats 4000000
set_option maxRecDepth 100000
set_option linter.unusedVariables false

/-- An answer that is a state with buffers, in blocks from the call's first. -/
def AnsI (w : World) (o : Buf) (e : Ending) (w' : World) : Prop := ∃ k, e = .returned (BufV k o) ∧ Below w.heap.size w w' ∧ BufI w' w.heap.size w'.heap.size k o
/-- The copy at work. -/
structure CopS (w V : World) (L : Pg) (f : Nat → Nat) (b : Nat → List Nat) (qh : StaH) (A : Option Addr) (c : Nat) (hs : List Value) (G C : Nat → Nat) (lo hi bs : Nat) : Prop where
  sta : StaO V lo hi qh (staF L f)
  own : V.ownsRow bs 26 1 (.slice A L.length c) L.length hs
  rows : RwH V bs (bufOf L f b).bs hs L.length G C
  l1 : w.heap.size + 1 + 1 + 1 ≤ lo
  l2 : hi ≤ bs
  l3 : bs ≤ V.heap.size
  l0 : w.heap.size + 1 + 1 + 1 ≤ bs
  l4 : lo ≤ hi
theorem bufOf_at (L : Pg) (f : Nat → Nat) (b : Nat → List Nat) {t : Nat} (ht : t < L.length) : (bufOf L f b).bs[t]? = some (rowS (b t)) := by
  show ((List.range L.length).map fun t => rowS (b t))[t]? = _
  rw [List.getElem?_map, List.getElem?_range ht]; rfl
theorem bufOf_inv {L : Pg} {f : Nat → Nat} {b : Nat → List Nat} {t : Nat} {xs : List Int} (h : (bufOf L f b).bs[t]? = some xs) : t < L.length ∧ xs = rowS (b t) := by
  have ht : t < L.length := by rw [← bufOf_len L f b]; exact (List.getElem?_eq_some_iff.1 h).1
  rw [bufOf_at L f b ht] at h
  injection h with h
  exact ⟨ht, h.symm⟩
theorem bufV_of (q : StaH) (A : Option Addr) (c : Nat) (L : Pg) (f g : Nat → Nat) (b : Nat → List Nat) : Value.agg #[.slice q.A0 (staF L f).f0.length q.c0, .slice q.A1 (staF L f).f1.length q.c1, .slice q.A2 (staF L f).f2.length q.c2, .slice q.A3 (staF L f).f3.length q.c3, .slice q.A4 (staF L f).f4.length q.c4, .slice A L.length c] = BufV ⟨q, ⟨A, c⟩⟩ (bufOf L g b) := by
  obtain ⟨a0, a1, a2, a3, a4⟩ := sta_len L f
  obtain ⟨b0, b1, b2, b3, b4⟩ := sta_len L g
  simp only [BufV, bufOf_len, show (bufOf L g b).st = staF L g from rfl, a0, a1, a2, a3, a4, b0, b1, b2, b3, b4]
section
variable {w V : World} {L : Pg} {f : Nat → Nat} {b : Nat → List Nat} {qh : StaH} {A : Option Addr} {c : Nat} {hs : List Value} {G C : Nat → Nat} {lo hi bs : Nat}
/-- What is read of a row of the copy. -/
theorem CopS.row (h : CopS w V L f b qh A c hs G C lo hi bs) {t : Nat} (ht : t < L.length) :
    ∃ g, A = some ⟨g, 0, none⟩ ∧ bs ≤ g ∧ g < V.heap.size ∧ (∃ cu, Bk V g 26 cu) ∧ V.cell? ⟨g, t, none⟩ = some (.slice (some ⟨G t, 0, none⟩) (rowS (b t)).length (C t)) ∧ (∀ j, V.frozen? ⟨g, j, none⟩ = false) ∧
      (bs ≤ G t ∧ G t < V.heap.size ∧ ∃ cu, Bk V (G t) 3 cu) ∧ (rowS (b t)).length ≤ C t ∧ C t ≤ maxLen ∧ V.ownsRow bs 3 1 (.slice (some ⟨G t, 0, none⟩) (rowS (b t)).length (C t)) (rowS (b t)).length (ints (rowS (b t))) ∧
      (∀ i, i < L.length → bs ≤ G i ∧ G i < V.heap.size ∧ G i ≠ g) ∧ (∀ i, i < L.length → i ≠ t → G i ≠ G t) := by
  obtain ⟨g, cap, e⟩ := Joins.ownsRow_form h.own (by omega)
  injection e with e1 e2 e3
  subst e1; subst e3
  obtain ⟨r1, r2⟩ := h.rows.at_ t _ ht (bufOf_at L f b ht)
  obtain ⟨g1, g2, cu, g3⟩ := own_blk h.own
  obtain ⟨q1, q2, cv, q3⟩ := own_blk r2
  refine ⟨g, rfl, g1, g2, ⟨cu, g3⟩, ?_, fun j => g3.free j, ⟨q1, q2, cv, q3⟩, ?_, ?_, r2, fun i hi => ?_, fun i hi hne => ?_⟩
  · rw [h.own.cellAt t (by omega)]; exact r1
  · rcases r2.2 with ⟨e, _⟩ | ⟨g', cap', cur, e, _, _, h1, h2, _⟩
    · injection e with e; cases e
    · injection e with e0 e1 e2; rw [e2]; exact h1
  · rcases r2.2 with ⟨e, _⟩ | ⟨g', cap', cur, e, _, _, h1, h2, _⟩
    · injection e with e; cases e
    · injection e with e0 e1 e2; rw [e2]; exact h2
  · obtain ⟨p1, p2⟩ := h.rows.at_ i _ hi (bufOf_at L f b hi)
    obtain ⟨x1, x2, cx, x3⟩ := own_blk p2
    exact ⟨x1, x2, bk_types x3 g3 (by decide)⟩
  · rcases Nat.lt_or_ge i t with h1 | h1
    · exact h.rows.apart i t h1 ht
    · exact (h.rows.apart t i (by omega) hi).symm
/-- The copy's rows, one row exchanged. -/
theorem CopS.iss {F : World} {g : Nat} {f' : Nat → Nat} {b' : Nat → List Nat} (h : CopS w V L f b qh (some ⟨g, 0, none⟩) c hs G C lo hi bs) {t : Nat} (hz : V.heap.size ≤ F.heap.size) (hsame : ∀ i, i ≠ t → b' i = b i)
    (hcell : ∀ i, i < L.length → i ≠ t → F.cell? ⟨g, i, none⟩ = V.cell? ⟨g, i, none⟩) (hblk : ∀ i, i < L.length → i ≠ t → F.heap[G i]? = V.heap[G i]?)
    {Ai : Option Addr} {ci : Nat} (hc : t < L.length → F.cell? ⟨g, t, none⟩ = some (.slice Ai (rowS (b' t)).length ci)) (hi' : t < L.length → InVs F w.heap.size F.heap.size Ai (ints (rowS (b' t)))) :
    IssI F w.heap.size F.heap.size ⟨some ⟨g, 0, none⟩, c⟩ (bufOf L f' b').bs := ⟨fun hn => by
  obtain ⟨g1, g2, -⟩ := own_blk h.own
  have hl := h.l1
  have hl2 := h.l2
  have hl0 := h.l0
  refine ⟨g, 0, rfl, by omega, by omega, fun i xs hx => ?_⟩
  · obtain ⟨hi1, rfl⟩ := bufOf_inv hx
    rw [Nat.zero_add]
    by_cases e : i = t
    · subst e
      exact ⟨Ai, ci, hc hi1, hi' hi1⟩
    · rw [hsame i e]
      obtain ⟨r1, r2⟩ := h.rows.at_ i _ hi1 (bufOf_at L f b hi1)
      refine ⟨some ⟨G i, 0, none⟩, C i, ?_, ?_⟩
      · rw [hcell i hi1 e, h.own.cellAt i (by omega)]; exact r1
      · have hv := (own_vs r2 rfl).in_
        intro hpos
        obtain ⟨bb, off, hA, hb1, hb2, hx⟩ := hv hpos
        injection hA with hA
        injection hA with hA1 hA2
        subst hA1
        exact ⟨G i, off, by rw [hA2], by omega, by omega, fun j v hj => (World.cell?_of_block (a := ⟨G i, off + j, none⟩) (hblk i hi1 e)).trans (hx j v hj)⟩⟩
theorem CopS.below {U : World} (h : CopS w V L f b qh A c hs G C lo hi bs) (hb : Below V.heap.size V U) : CopS w U L f b qh A c hs G C lo hi bs :=
  ⟨h.sta.below hb (by have := h.l2; have := h.l3; omega), h.own.kept (grown_of_below hb none) (by cases hv : (Value.slice A L.length c).ownBlock <;> simp), h.rows.kept (by rw [bufOf_len]; exact Nat.le_refl _) (grown_of_below hb none) (fun i hi => by simp), h.l1, h.l2, Nat.le_trans h.l3 hb.size, h.l0, h.l4⟩
/-- A row of the call's own, in a world that has kept its block. -/
theorem row_in {w4 F : World} {bs lo g4 n c : Nat} {xs : List Int} (h : w4.ownsRow bs 3 1 (.slice (some ⟨g4, 0, none⟩) n c) n (ints xs)) (hF : F.heap[g4]? = w4.heap[g4]?) (hl : lo ≤ bs) (hz : w4.heap.size ≤ F.heap.size) : InVs F lo F.heap.size (some ⟨g4, 0, none⟩) (ints xs) := fun hn => by
  obtain ⟨h1, h2, _⟩ := own_blk h
  refine ⟨g4, 0, rfl, by omega, by omega, fun j v hj => ?_⟩
  have hj' : j < n * 1 := by rw [← h.1]; exact (List.getElem?_eq_some_iff.1 hj).1
  rw [Nat.zero_add]
  exact (World.cell?_of_block (a := ⟨g4, j, none⟩) hF).trans ((h.cellAt j hj').trans hj)
theorem row_ne {q s : Nat} {cs : Array Value} (h : Bk V s 59 cs) (hq : ∃ cu, Bk V q 26 cu ∨ Bk V q 3 cu) : q ≠ s := by
  obtain ⟨cu, h1 | h1⟩ := hq
  · exact bk_types h1 h (by decide)
  · exact bk_types h1 h (by decide)
/-- The copy's rows as they are, in a world that has kept their blocks. -/
theorem CopS.iss0 {F : World} {f' : Nat → Nat} (h : CopS w V L f b qh A c hs G C lo hi bs) (hL : 1 ≤ L.length) (hz : V.heap.size ≤ F.heap.size) (hk : ∀ q, bs ≤ q → q < V.heap.size → (∃ cu, Bk V q 26 cu ∨ Bk V q 3 cu) → F.heap[q]? = V.heap[q]?) : IssI F w.heap.size F.heap.size ⟨A, c⟩ (bufOf L f' b).bs := by
  obtain ⟨g, rfl, g1, g2, ⟨cg, g3⟩, -⟩ := h.row (t := 0) (by omega)
  refine h.iss (t := L.length) hz (fun i _ => rfl) (fun i hi _ => World.cell?_of_block (a := ⟨g, i, none⟩) (hk g g1 g2 ⟨_, Or.inl g3⟩)) (fun i hi _ => ?_) (Ai := none) (ci := 0) (fun h => absurd h (by omega)) (fun h => absurd h (by omega))
  obtain ⟨g', e, _, _, _, _, _, ⟨r1, r2, cr, r3⟩, _⟩ := h.row hi
  exact hk _ r1 r2 ⟨_, Or.inr r3⟩
theorem CopS.rd (h : CopS w V L f b qh A c hs G C lo hi bs) (hL : 1 ≤ L.length) : BufR V V.heap.size ⟨qh, ⟨A, c⟩⟩ (bufOf L f b) :=
  ⟨h.sta.rd.up (Below.refl V.heap.size V) (by have := h.l2; have := h.l3; omega) (by have := h.l2; have := h.l3; omega), (h.iss0 hL (Nat.le_refl _) fun _ _ _ _ => rfl).rd⟩
end
theorem sbdo_take (h : PgH) (k : BufH) (L : Pg) (f : Nat → Nat) (b : Nat → List Nat) (t : Nat) (w : World) (B : Nat) (hP : PgR w B h L) (hS : BufR w B k (bufOf L f b)) (hB : B ≤ w.heap.size) (hL : progB L = true) (hf : Good L f) (ht : t < L.length) (hb6 : okB9 b 6) (c0 : Nat) (r : List Nat) (hbt : b t = c0 :: r) :
    Calls Try.prog 91 #[PgV h L, BufV k (bufOf L f b), .int .i64 (L.length + t : Nat)] w (AnsI w (bufOf L (upd f (15 + c0 / 4) (c0 % 4)) (updB b t r))) := by
  obtain ⟨h31, h32⟩ := prog_len hL
  obtain ⟨o, ho⟩ : ∃ o, o = bufOf L f b := ⟨_, rfl⟩
  have hOS : o.st = staF L f := by rw [ho]; rfl
  rw [← ho] at hS
  rw [← ho]
  obtain ⟨W, hW⟩ : ∃ W, W = ((w.alloc (.cells #[.slice h.A L.length h.c] 36)).alloc (.cells #[.slice k.h.A0 o.st.f0.length k.h.c0, .slice k.h.A1 o.st.f1.length k.h.c1, .slice k.h.A2 o.st.f2.length k.h.c2, .slice k.h.A3 o.st.f3.length k.h.c3, .slice k.h.A4 o.st.f4.length k.h.c4, .slice k.k.A o.bs.length k.k.c] 59)).alloc (.cells #[.slice none 0 0, .slice none 0 0, .slice none 0 0, .slice none 0 0, .slice none 0 0, .slice none 0 0] 59) := ⟨_, rfl⟩
  have bW : Below w.heap.size w W := by rw [hW]; go_grown
  have sW : W.heap.size = w.heap.size + 1 + 1 + 1 := by rw [hW]; simp
  have k0 : Bk W w.heap.size 36 #[.slice h.A L.length h.c] := by rw [hW]; exact ((Bk.new w _ _).alloc _).alloc _
  have k2 : Bk W (w.heap.size + 1 + 1) 59 #[.slice none 0 0, .slice none 0 0, .slice none 0 0, .slice none 0 0, .slice none 0 0, .slice none 0 0] := by
    rw [hW]; have := Bk.new ((w.alloc (.cells #[.slice h.A L.length h.c] 36)).alloc (.cells #[.slice k.h.A0 o.st.f0.length k.h.c0, .slice k.h.A1 o.st.f1.length k.h.c1, .slice k.h.A2 o.st.f2.length k.h.c2, .slice k.h.A3 o.st.f3.length k.h.c3, .slice k.h.A4 o.st.f4.length k.h.c4, .slice k.k.A o.bs.length k.k.c] 59)) #[.slice none 0 0, .slice none 0 0, .slice none 0 0, .slice none 0 0, .slice none 0 0, .slice none 0 0] 59
    rwa [World.size_alloc, World.size_alloc] at this
  have k1 : Bk W (w.heap.size + 1) 59 #[.slice k.h.A0 o.st.f0.length k.h.c0, .slice k.h.A1 o.st.f1.length k.h.c1, .slice k.h.A2 o.st.f2.length k.h.c2, .slice k.h.A3 o.st.f3.length k.h.c3, .slice k.h.A4 o.st.f4.length k.h.c4, .slice k.k.A o.bs.length k.k.c] := by
    rw [hW]; have := (Bk.new (w.alloc (.cells #[.slice h.A L.length h.c] 36)) #[.slice k.h.A0 o.st.f0.length k.h.c0, .slice k.h.A1 o.st.f1.length k.h.c1, .slice k.h.A2 o.st.f2.length k.h.c2, .slice k.h.A3 o.st.f3.length k.h.c3, .slice k.h.A4 o.st.f4.length k.h.c4, .slice k.k.A o.bs.length k.k.c] 59).alloc (.cells #[.slice none 0 0, .slice none 0 0, .slice none 0 0, .slice none 0 0, .slice none 0 0, .slice none 0 0] 59)
    rwa [World.size_alloc] at this
  have P0 := Lib.hid (hP.below bW hB)
  have S0 := Lib.hid (hS.below bW hB)
  have K0 := Lib.hid k0
  have K1 := Lib.hid k1
  have K2 := Lib.hid k2
  have B0 := Lib.hid bW
  have sWa := Nat.le_of_eq sW
  have sWb := Nat.le_of_eq sW.symm
  have HW := Lib.hid hW
  clear hW bW sW k0 k1 k2 hP hS
  have LB := Lib.hid (show StaL o.st 1000 by rw [hOS]; obtain ⟨a0, a1, a2, a3, a4⟩ := sta_len L f; exact ⟨by omega, by omega, by omega, by omega, by omega⟩)
  have LN := Lib.hid (show o.bs.length = L.length by rw [ho]; exact bufOf_len L f b)
  have LR := Lib.hid (show ∀ xs ∈ o.bs, xs.length ≤ 1000 from fun xs hx => by
    obtain ⟨i, hi⟩ := List.getElem?_of_mem hx
    rw [ho] at hi
    obtain ⟨h1, rfl⟩ := bufOf_inv hi
    rw [rowS_length]
    have := (hb6 i (by omega)).2
    omega)
  have HO := Lib.hid ho
  have HOS := Lib.hid hOS
  have H6 := Lib.hid hb6
  clear ho hOS hb6
  obtain ⟨T, hT⟩ : ∃ T : Int, ((L.length + t : Nat) : Int) = T := ⟨_, rfl⟩
  have hge : (L.length : Int) ≤ T := by omega
  have hsub : T - (L.length : Int) = (t : Int) := by omega
  rw [hT]
  clear hT
  go_enter Try.func91, Try.ntmps91
  go_wp2_with fail
  rw [← HW.out]
  refine (s7copy_any k o W B S0.out (by omega) LB.out (by have := LN.out; omega) LR.out).mono ?_
  rintro e w1 ⟨qh, A, c, hs, G, C, lo, hi, bs, rfl, hb1, n1, n2, n3, oS, oO, oR⟩
  have B1 := Lib.hid (below_on B0.out hb1)
  have P1 := Lib.hid (P0.out.below hb1 (by omega))
  have K01 := Lib.hid (K0.out.below hb1 K0.out.lt)
  have K21 := Lib.hid (K2.out.below hb1 K2.out.lt)
  have z1 := hb1.size
  have C1 := Lib.hid (show CopS w w1 L f b qh A c hs G C lo hi bs from by
    rw [HO.out, bufOf_len] at oO oR
    rw [HOS.out] at oS
    obtain ⟨g, _, hg1, hg2, _⟩ := sta_put2 h32 oS (i := 0) (by omega) 0 _ rfl
    exact ⟨oS, oO, oR, by omega, n2, n3, by omega, by omega⟩)
  clear hb1 oS oO oR
  have cp : w1.cell? ⟨w.heap.size, 0, none⟩ = some (.slice h.A L.length h.c) := K01.out.cell 0
  have lp := K01.out.lt
  obtain ⟨g, rfl, rg1, rg2, -, rc, -, -, -, -, -, -, -⟩ := C1.out.row ht
  have hti : (t : Int) < (o.bs.length : Int) := by rw [LN.out]; omega
  obtain ⟨m, hm⟩ : ∃ m, (rowS (b t)).length = m := ⟨_, rfl⟩
  rw [hm] at rc
  go_wp2_with fail
  obtain ⟨V, hV⟩ : ∃ V, V = w1.alloc (.cells #[.slice qh.A0 o.st.f0.length qh.c0, .slice qh.A1 o.st.f1.length qh.c1, .slice qh.A2 o.st.f2.length qh.c2, .slice qh.A3 o.st.f3.length qh.c3, .slice qh.A4 o.st.f4.length qh.c4, .slice (some ⟨g, 0, none⟩) o.bs.length c] 59) := ⟨_, rfl⟩
  rw [← hV]
  have bV : Below w1.heap.size w1 V := by rw [hV]; exact (Below.refl _ _).alloc (Nat.le_refl _) _
  have KS := Lib.hid (show Bk V w1.heap.size 59 #[.slice qh.A0 (staF L f).f0.length qh.c0, .slice qh.A1 (staF L f).f1.length qh.c1, .slice qh.A2 (staF L f).f2.length qh.c2, .slice qh.A3 (staF L f).f3.length qh.c3, .slice qh.A4 (staF L f).f4.length qh.c4, .slice (some ⟨g, 0, none⟩) L.length c] from by rw [hV, HOS.out, LN.out]; exact Bk.new _ _ _)
  have zV : V.heap.size = w1.heap.size + 1 := by rw [hV]; simp
  have zVa := Nat.le_of_eq zV
  have zVb := Nat.le_of_eq zV.symm
  have KP := Lib.hid (K01.out.below bV K01.out.lt)
  have KR := Lib.hid (K21.out.below bV K21.out.lt)
  have BV := Lib.hid (B1.out.trans (bV.mono (by omega)))
  have PV := Lib.hid (P1.out.below bV (by omega))
  have ga : w1.grownBy V none := by rw [hV]; exact World.grownBy_alloc _ _ _
  have CV := Lib.hid (show CopS w V L f b qh (some ⟨g, 0, none⟩) c hs G C lo hi bs from ⟨C1.out.sta.below bV (by have := C1.out.l2; omega), C1.out.own.kept ga (by cases hv : (Value.slice (some ⟨g, 0, none⟩) L.length c).ownBlock <;> simp), C1.out.rows.kept (by rw [bufOf_len]; exact Nat.le_refl _) ga (fun i hi => by simp), C1.out.l1, C1.out.l2, by omega, C1.out.l0, C1.out.l4⟩)
  clear hV bV zV ga C1 K01 K21 B1 P1 K0 K1 K2 S0 P0 B0 LB LR cp lp rc rg1 rg2
  obtain ⟨g', eg, rg1, rg2, ⟨cg, rg3⟩, rc, rf, ⟨rt1, rt2, ct, rt3⟩, rcap, rmx, rown, rall, rne⟩ := CV.out.row ht
  have ha3 : c0 / 4 < 3 := by have := (H6.out t (by omega)).1 c0 (by rw [hbt]; exact List.mem_cons_self ..); omega
  obtain rfl : g = g' := by injection eg with eg; injection eg
  have hlen : (rowS (b t)).length = 2 + (rowS r).length := by rw [hbt, rowS_cons]; simp; omega
  have hm6 : m ≤ 12 := by rw [← hm, rowS_length]; have := (H6.out t (by omega)).2; omega
  rw [hm] at rc rcap hlen
  have rd0 : V.cell? ⟨G t, 0, none⟩ = some (.int .i64 ((c0 / 4 : Nat) : Int)) := by
    have := rown.cellAt 0 (by omega)
    rw [this, hbt, rowS_cons]; rfl
  have rd1 : V.cell? ⟨G t, 1, none⟩ = some (.int .i64 ((c0 % 4 : Nat) : Int)) := by
    have := rown.cellAt 1 (by omega)
    rw [this, hbt, rowS_cons]; rfl
  obtain ⟨a0, ha0⟩ : ∃ a0, c0 / 4 = a0 := ⟨_, rfl⟩
  obtain ⟨v0, hv0⟩ : ∃ v0, c0 % 4 = v0 := ⟨_, rfl⟩
  rw [ha0, hv0]
  rw [ha0] at rd0 ha3
  rw [hv0] at rd1
  have VR := Lib.hid (own_vs rown rfl).vs
  obtain ⟨g2, hg2, g2lo, g2hi, g2lt, g2c, -, -⟩ := sta_put2 h32 CV.out.sta (i := a0) ha3 0 _ rfl
  have cs1 : V.cell? ⟨w1.heap.size, 5, none⟩ = some (.slice (some ⟨g, 0, none⟩) L.length c) := KS.out.cell 5
  have cs2 : V.cell? ⟨w1.heap.size, 2, none⟩ = some (.slice (some ⟨g2, 0, none⟩) (staF L f).f2.length qh.c2) := by have := KS.out.cell 2; rw [hg2] at this; exact this
  have cp0 : V.cell? ⟨w.heap.size, 0, none⟩ = some (.slice h.A L.length h.c) := KP.out.cell 0
  have lS := KS.out.lt
  have lP := KP.out.lt
  have hf2 : (staF L f).f2.length = 3 := (sta_len L f).2.2.1
  have HRow := Lib.hid rown
  have HA0 := Lib.hid ha0
  have HV0 := Lib.hid hv0
  have HBT := Lib.hid hbt
  have HM := Lib.hid hm
  have RA := Lib.hid rall
  have RN := Lib.hid rne
  have RF := Lib.hid rf
  have RG3 := Lib.hid rg3
  have RT3 := Lib.hid rt3
  have HG2 := Lib.hid hg2
  have HLN := Lib.hid hlen
  have hci : (a0 : Int) < ((staF L f).f2.length : Int) := by rw [hf2]; omega
  clear hf2 eg rown hbt hm rall rne rf rg3 rt3 hg2 g2c hlen ha0 hv0
  go_wp2_with fail
  have g0 : ∀ y : Ws (Fr V []), y.val.cell? ⟨w1.heap.size, 2, none⟩ = some (.slice (some ⟨g2, 0, none⟩) (staF L f).f2.length qh.c2) := Ws.same (bs := []) lS cs2
  have g1 : ∀ y : Ws (Fr V []), y.val.cell? ⟨G t, 0, none⟩ = some (.int .i64 (a0 : Int)) := Ws.same (bs := []) rt2 rd0
  have g3 : ∀ y : Ws (Fr V []), y.val.cell? ⟨G t, 1, none⟩ = some (.int .i64 (v0 : Int)) := Ws.same (bs := []) rt2 rd1
  have HFr := Lib.hid (fr_none V)
  haveI hne := Nonempty.intro (Ws.mk _ (fr_none V))
  have hm0 : (0 : Int) < (m : Int) := by have := HLN.out; omega
  have hm1 : (1 : Int) < (m : Int) := by have := HLN.out; omega
  refine region_tail (C := In (Fr V [])) 10 (by kernel_rfl) (In.mk HFr.out.drew) ?_
  simp only [List.take_succ_cons, List.take_zero, List.drop_succ_cons, List.drop_zero]
  repeat (go_big_quiet_step (fail))
  refine wpQuiet_nil ?_
  rintro _ ⟨y5, rfl⟩
  have b5 := y5.ok.below
  obtain ⟨w5, hw5⟩ : ∃ w5, w5 = y5.val := ⟨_, rfl⟩
  rw [← hw5] at b5 ⊢
  clear g0 g1 g3 hne hw5 rd0 rd1 cs1 cs2 cp0
  obtain ⟨g2', hg2', g2lo', g2hi', g2lt', fc, ff, oS5⟩ := sta_put2 h32 (CV.out.sta.below b5 (by have := CV.out.l2; have := CV.out.l3; omega)) (i := a0) ha3 v0 (v0 : Int) (by show (v0 : Int) = (v0 : Int) + fL 2; have : fL 2 = 0 := rfl; omega)
  obtain rfl : g2 = g2' := by have := HG2.out; rw [this] at hg2'; injection hg2' with e; injection e
  have OS5 := Lib.hid oS5
  clear oS5 hg2'
  go_wp2_with fail
  obtain ⟨V6, hV⟩ : ∃ X, X = w5.setCell ⟨g2, a0, none⟩ (.int .i64 (v0 : Int)) := ⟨_, rfl⟩
  rw [← hV]
  rw [← hV] at OS5
  have only6 : ∀ q, q < V.heap.size → q ≠ g2 → V6.heap[q]? = V.heap[q]? := fun q hq hne => by rw [hV]; exact (Below.heap_setCell _ ⟨g2, a0, none⟩ _ q hne).trans (b5.block q hq)
  have b6 : Below w.heap.size V V6 := by rw [hV]; exact (b5.mono (by have := BV.out.size; omega)).setCell (by show w.heap.size ≤ g2; have := CV.out.l1; omega) _
  have z6 : V6.heap.size = w5.heap.size := by rw [hV]; simp
  have z65 := b5.size
  have g2b : g2 < bs := by have := CV.out.l2; omega
  have kk : ∀ (q : Nat) (T : TypeId) (cs : Array Value), Bk V q T cs → bs ≤ q → Bk V6 q T cs := fun q T cs hk hq => (only6 _ hk.lt (by omega)).trans hk
  have KS6 := Lib.hid (kk _ _ _ KS.out (by have := CV.out.l3; omega))
  have rl3 := CV.out.l3
  clear fc ff g2lo' g2hi' g2lt'
  have sx : V6.cell? ⟨w1.heap.size, 5, none⟩ = some (.slice (some ⟨g, 0, none⟩) L.length c) := KS6.out.cell 5
  have lS6 := KS6.out.lt
  obtain ⟨Sx, SI, S0⟩ : ∃ Sx : World → Prop, (∀ w' : World, w'.cell? ⟨w1.heap.size, 5, none⟩ = some (.slice (some ⟨g, 0, none⟩) L.length c) → Sx w') ∧ (∀ y : Ws Sx, y.val.cell? ⟨w1.heap.size, 5, none⟩ = some (.slice (some ⟨g, 0, none⟩) L.length c)) :=
    ⟨fun w' => w'.cell? ⟨w1.heap.size, 5, none⟩ = some (.slice (some ⟨g, 0, none⟩) L.length c), fun w' a => a, fun y => y.ok⟩
  have HSI := Lib.hid SI
  have HSx := Lib.hid (show Sx V6.drew from SI _ sx)
  haveI hne := Nonempty.intro (Ws.mk V6.drew HSx.out)
  have SX := Lib.hid sx
  have hm2 : (2 : Int) ≤ (m : Int) := by have := HLN.out; omega
  have hmc : (m : Int) ≤ (C t : Int) := by omega
  have HB6 := Lib.hid b6
  have KK := Lib.hid kk
  have ON6 := Lib.hid only6
  have vsT : Vs V6 V6.heap.size (if C t = 2 then some ⟨G t, 0, none⟩ else some ⟨G t, 2, none⟩) (ints (rowS r)) := fun hn => ⟨G t, 2, if_neg (by rw [ints_length] at hn; have := HLN.out; omega), by omega, fun j v hj => by
    have h1 : V6.cell? ⟨G t, 2 + j, none⟩ = V.cell? ⟨G t, 2 + j, none⟩ := World.cell?_of_block (a := ⟨G t, 2 + j, none⟩) (only6 (G t) rt2 (by omega))
    rw [h1]
    obtain ⟨bb, off, hA, hb1, hx⟩ := VR.out (by rw [ints_length, HM.out]; omega)
    injection hA with hA
    injection hA with hA1 hA2
    subst hA1; subst hA2
    have := hx (2 + j) v (by rw [HBT.out, rowS_cons]; simpa [ints, Nat.add_comm] using hj)
    rwa [Nat.zero_add] at this⟩
  have VT := Lib.hid vsT
  clear SI sx vsT b6 kk only6
  clear hV b5
  go_wp2_with fail
  refine region_make (C := In Sx) 7 8 (by omega) (by kernel_rfl) (In.mk HSx.out) ?_
  simp only [List.take_succ_cons, List.take_zero, List.drop_succ_cons, List.drop_zero]
  repeat (go_big_quiet_step (fail))
  refine wpQuiet_nil ?_
  clear S0
  obtain ⟨Ai, hAi⟩ : ∃ Ai : Option Addr, (if C t = 2 then some ⟨G t, 0, none⟩ else some ⟨G t, 2, none⟩) = Ai := ⟨_, rfl⟩
  rw [hAi] at VT ⊢
  rw [show m - 2 = (rowS r).length by have := HLN.out; omega]
  clear hAi
  refine seqC_step (by rfl) ?_
  intro R hR
  go_wp2_with fail
  refine (nums_own Ai (C t - 2) (rowS r) _ V6.heap.size (VT.out.below ((Below.refl V6.heap.size V6).drew) (by omega)) (by show V6.heap.size ≤ V6.heap.size; omega) (by have := HLN.out; omega)).mono ?_
  rintro e w7 ⟨gn, cn, rfl, hc1, hc2, hgn, hb7', own7⟩
  have hb7 : Below V6.heap.size V6 w7 := below_on ((Below.refl V6.heap.size V6).drew) hb7'
  have hgn : V6.heap.size ≤ gn := hgn
  have z7 := hb7.size
  obtain ⟨mr, hmr⟩ : ∃ mr, (rowS r).length = mr := ⟨_, rfl⟩
  have OwnN := Lib.hid (show w7.ownsRow V6.heap.size 3 1 (.slice (some ⟨gn, 0, none⟩) (rowS r).length cn) (rowS r).length (ints (rowS r)) from own7)
  have K7 := Lib.hid (KS6.out.below hb7 lS6)
  have r76 : ∀ q, q < V.heap.size → q ≠ g2 → w7.heap[q]? = V.heap[q]? := fun q hq hne => (hb7.block q (by omega)).trans (ON6.out q hq hne)
  have lR := KR.out.lt
  have l1 := CV.out.l1
  have KR7 := Lib.hid (show Bk w7 (w.heap.size + 1 + 1) _ _ from (r76 _ lR (by omega)).trans KR.out)
  have OS7 := Lib.hid ((OS5.out).below hb7 (by have := CV.out.l2; omega))
  have B7 := Lib.hid ((BV.out.trans HB6.out).trans (hb7.mono (by have := BV.out.size; omega)))
  have xg : w7.cell? ⟨g, t, none⟩ = some (.slice (some ⟨G t, 0, none⟩) m (C t)) := (World.cell?_of_block (a := ⟨g, t, none⟩) (r76 g rg2 (by omega))).trans rc
  have fg : w7.frozen? ⟨g, t, none⟩ = false := (World.frozen?_of_block (a := ⟨g, t, none⟩) (r76 g rg2 (by omega))).trans (RF.out t)
  have S7 := Lib.hid (HSI.out w7 (K7.out.cell 5))
  have R76 := Lib.hid r76
  have hcast : ((rowS r).length : Int) = (mr : Int) := by rw [hmr]
  have HMR := Lib.hid hmr
  rw [hmr]
  clear hb7 hb7' own7 r76 hmr hcast rc
  go_wp2
  refine hR _ _ (fun _ => In.mk S7.out) ?_
  refine seqC_step (by rfl) ?_
  intro R hR
  go_wp2
  refine hR _ _ (fun h => absurd h (by omega)) ?_
  refine seqC_step (by rfl) ?_
  intro R hR
  go_wp2
  refine hR _ _ (fun h => absurd h (by omega)) ?_
  refine seqC_nil ?_
  obtain ⟨w8, hw8⟩ : ∃ X, X = w7.setCell ⟨g, t, none⟩ (.slice (some ⟨gn, 0, none⟩) mr cn) := ⟨_, rfl⟩
  rw [← hw8]
  have ggs : g ≠ w1.heap.size := by rintro rfl; exact absurd (bk_types RG3.out KS.out (by decide)) (fun h => h rfl)
  have K8 := Lib.hid (show Bk w8 w1.heap.size 59 #[.slice qh.A0 (staF L f).f0.length qh.c0, .slice qh.A1 (staF L f).f1.length qh.c1, .slice qh.A2 (staF L f).f2.length qh.c2, .slice qh.A3 (staF L f).f3.length qh.c3, .slice qh.A4 (staF L f).f4.length qh.c4, .slice (some ⟨g, 0, none⟩) L.length c] by rw [hw8]; exact K7.out.far (p := ⟨g, t, none⟩) (fun e => ggs e.symm) _)
  have KR8 := Lib.hid (show Bk w8 (w.heap.size + 1 + 1) 59 #[.slice none 0 0, .slice none 0 0, .slice none 0 0, .slice none 0 0, .slice none 0 0, .slice none 0 0] by rw [hw8]; exact KR7.out.far (p := ⟨g, t, none⟩) (by show w.heap.size + 1 + 1 ≠ g; have := CV.out.l2; omega) _)
  have c8 : w8.cell? ⟨g, t, none⟩ = some (.slice (some ⟨gn, 0, none⟩) mr cn) := by rw [hw8]; exact World.cell?_setCell_same _ _ _ xg
  have o8 : ∀ q, q ≠ g → w8.heap[q]? = w7.heap[q]? := fun q hq => by rw [hw8]; exact Below.heap_setCell _ ⟨g, t, none⟩ _ q hq
  have e8 : ∀ i, i ≠ t → w8.cell? ⟨g, i, none⟩ = w7.cell? ⟨g, i, none⟩ := fun i hi => by rw [hw8]; exact World.cell?_setCell_other _ _ _ _ (fun e => hi (by injection e with _ e; exact e.symm))
  have z8 : w8.heap.size = w7.heap.size := by rw [hw8]; simp
  have B8 := Lib.hid (show Below w.heap.size w w8 by rw [hw8]; exact B7.out.setCell (p := ⟨g, t, none⟩) (by show w.heap.size ≤ g; have := CV.out.l0; omega) _)
  have O8 := Lib.hid o8
  have E8 := Lib.hid e8
  have C8 := Lib.hid c8
  clear hw8 o8 e8 c8 xg fg
  have xo0 : w8.cell? ⟨w1.heap.size, 0, none⟩ = some (.slice qh.A0 (staF L f).f0.length qh.c0) := K8.out.cell 0
  have xo1 : w8.cell? ⟨w1.heap.size, 1, none⟩ = some (.slice qh.A1 (staF L f).f1.length qh.c1) := K8.out.cell 1
  have xo2 : w8.cell? ⟨w1.heap.size, 2, none⟩ = some (.slice qh.A2 (staF L f).f2.length qh.c2) := K8.out.cell 2
  have xo3 : w8.cell? ⟨w1.heap.size, 3, none⟩ = some (.slice qh.A3 (staF L f).f3.length qh.c3) := K8.out.cell 3
  have xo4 : w8.cell? ⟨w1.heap.size, 4, none⟩ = some (.slice qh.A4 (staF L f).f4.length qh.c4) := K8.out.cell 4
  have xo5 : w8.cell? ⟨w1.heap.size, 5, none⟩ = some (.slice (some ⟨g, 0, none⟩) L.length c) := K8.out.cell 5
  have fr0 : w8.frozen? ⟨w.heap.size + 1 + 1, 0, none⟩ = false := (KR8.out).free 0
  have cr0 : w8.cell? ⟨w.heap.size + 1 + 1, 0, none⟩ = some (.slice none 0 0) := (KR8.out).cell 0
  have fr1 : w8.frozen? ⟨w.heap.size + 1 + 1, 1, none⟩ = false := (KR8.out).free 1
  have cr1 : w8.cell? ⟨w.heap.size + 1 + 1, 1, none⟩ = some (.slice none 0 0) := (KR8.out).cell 1
  have fr2 : w8.frozen? ⟨w.heap.size + 1 + 1, 2, none⟩ = false := (KR8.out).free 2
  have cr2 : w8.cell? ⟨w.heap.size + 1 + 1, 2, none⟩ = some (.slice none 0 0) := (KR8.out).cell 2
  have fr3 : w8.frozen? ⟨w.heap.size + 1 + 1, 3, none⟩ = false := (KR8.out).free 3
  have cr3 : w8.cell? ⟨w.heap.size + 1 + 1, 3, none⟩ = some (.slice none 0 0) := (KR8.out).cell 3
  have fr4 : w8.frozen? ⟨w.heap.size + 1 + 1, 4, none⟩ = false := (KR8.out).free 4
  have cr4 : w8.cell? ⟨w.heap.size + 1 + 1, 4, none⟩ = some (.slice none 0 0) := (KR8.out).cell 4
  have fr5 : w8.frozen? ⟨w.heap.size + 1 + 1, 5, none⟩ = false := (KR8.out).free 5
  have cr5 : w8.cell? ⟨w.heap.size + 1 + 1, 5, none⟩ = some (.slice none 0 0) := (KR8.out).cell 5
  have lS8 := K8.out.lt
  go_wp2
  clear cr0 fr0 xo0 cr1 fr1 xo1 cr2 fr2 xo2 cr3 fr3 xo3 cr4 fr4 xo4 cr5 fr5 xo5
  have kF : Bk ((((((w8.setCell ⟨w.heap.size + 1 + 1, 0, none⟩ (.slice qh.A0 (staF L f).f0.length qh.c0)).setCell ⟨w.heap.size + 1 + 1, 1, none⟩ (.slice qh.A1 (staF L f).f1.length qh.c1)).setCell ⟨w.heap.size + 1 + 1, 2, none⟩ (.slice qh.A2 (staF L f).f2.length qh.c2)).setCell ⟨w.heap.size + 1 + 1, 3, none⟩ (.slice qh.A3 (staF L f).f3.length qh.c3)).setCell ⟨w.heap.size + 1 + 1, 4, none⟩ (.slice qh.A4 (staF L f).f4.length qh.c4)).setCell ⟨w.heap.size + 1 + 1, 5, none⟩ (.slice (some ⟨g, 0, none⟩) L.length c)) (w.heap.size + 1 + 1) 59 #[.slice qh.A0 (staF L f).f0.length qh.c0, .slice qh.A1 (staF L f).f1.length qh.c1, .slice qh.A2 (staF L f).f2.length qh.c2, .slice qh.A3 (staF L f).f3.length qh.c3, .slice qh.A4 (staF L f).f4.length qh.c4, .slice (some ⟨g, 0, none⟩) L.length c] := by
    have a0 := KR8.out
    have a1 := a0.set 0 (.slice qh.A0 (staF L f).f0.length qh.c0)
    have a2 := a1.set 1 (.slice qh.A1 (staF L f).f1.length qh.c1)
    have a3 := a2.set 2 (.slice qh.A2 (staF L f).f2.length qh.c2)
    have a4 := a3.set 3 (.slice qh.A3 (staF L f).f3.length qh.c3)
    have a5 := a4.set 4 (.slice qh.A4 (staF L f).f4.length qh.c4)
    have a6 := a5.set 5 (.slice (some ⟨g, 0, none⟩) L.length c)
    simpa using a6
  have bF : ∀ B, B ≤ w.heap.size + 1 + 1 → Below B w8 ((((((w8.setCell ⟨w.heap.size + 1 + 1, 0, none⟩ (.slice qh.A0 (staF L f).f0.length qh.c0)).setCell ⟨w.heap.size + 1 + 1, 1, none⟩ (.slice qh.A1 (staF L f).f1.length qh.c1)).setCell ⟨w.heap.size + 1 + 1, 2, none⟩ (.slice qh.A2 (staF L f).f2.length qh.c2)).setCell ⟨w.heap.size + 1 + 1, 3, none⟩ (.slice qh.A3 (staF L f).f3.length qh.c3)).setCell ⟨w.heap.size + 1 + 1, 4, none⟩ (.slice qh.A4 (staF L f).f4.length qh.c4)).setCell ⟨w.heap.size + 1 + 1, 5, none⟩ (.slice (some ⟨g, 0, none⟩) L.length c)) := fun B hB => (((((((Below.refl _ _).setCell (by show B ≤ w.heap.size + 1 + 1; omega) _).setCell (by show B ≤ w.heap.size + 1 + 1; omega) _).setCell (by show B ≤ w.heap.size + 1 + 1; omega) _).setCell (by show B ≤ w.heap.size + 1 + 1; omega) _).setCell (by show B ≤ w.heap.size + 1 + 1; omega) _).setCell (by show B ≤ w.heap.size + 1 + 1; omega) _)
  have nF : ∀ q, q ≠ w.heap.size + 1 + 1 → ((((((w8.setCell ⟨w.heap.size + 1 + 1, 0, none⟩ (.slice qh.A0 (staF L f).f0.length qh.c0)).setCell ⟨w.heap.size + 1 + 1, 1, none⟩ (.slice qh.A1 (staF L f).f1.length qh.c1)).setCell ⟨w.heap.size + 1 + 1, 2, none⟩ (.slice qh.A2 (staF L f).f2.length qh.c2)).setCell ⟨w.heap.size + 1 + 1, 3, none⟩ (.slice qh.A3 (staF L f).f3.length qh.c3)).setCell ⟨w.heap.size + 1 + 1, 4, none⟩ (.slice qh.A4 (staF L f).f4.length qh.c4)).setCell ⟨w.heap.size + 1 + 1, 5, none⟩ (.slice (some ⟨g, 0, none⟩) L.length c)).heap[q]? = w8.heap[q]? := fun q hq => (Below.heap_setCell _ _ _ q (by show q ≠ w.heap.size + 1 + 1; omega)).trans ((Below.heap_setCell _ _ _ q (by show q ≠ w.heap.size + 1 + 1; omega)).trans ((Below.heap_setCell _ _ _ q (by show q ≠ w.heap.size + 1 + 1; omega)).trans ((Below.heap_setCell _ _ _ q (by show q ≠ w.heap.size + 1 + 1; omega)).trans ((Below.heap_setCell _ _ _ q (by show q ≠ w.heap.size + 1 + 1; omega)).trans (Below.heap_setCell _ _ _ q (by show q ≠ w.heap.size + 1 + 1; omega))))))
  have sF : ((((((w8.setCell ⟨w.heap.size + 1 + 1, 0, none⟩ (.slice qh.A0 (staF L f).f0.length qh.c0)).setCell ⟨w.heap.size + 1 + 1, 1, none⟩ (.slice qh.A1 (staF L f).f1.length qh.c1)).setCell ⟨w.heap.size + 1 + 1, 2, none⟩ (.slice qh.A2 (staF L f).f2.length qh.c2)).setCell ⟨w.heap.size + 1 + 1, 3, none⟩ (.slice qh.A3 (staF L f).f3.length qh.c3)).setCell ⟨w.heap.size + 1 + 1, 4, none⟩ (.slice qh.A4 (staF L f).f4.length qh.c4)).setCell ⟨w.heap.size + 1 + 1, 5, none⟩ (.slice (some ⟨g, 0, none⟩) L.length c)).heap.size = w8.heap.size := by simp
  have KF := Lib.hid kF
  have BF := Lib.hid bF
  have NF := Lib.hid nF
  obtain ⟨F, hF⟩ : ∃ F, F = ((((((w8.setCell ⟨w.heap.size + 1 + 1, 0, none⟩ (.slice qh.A0 (staF L f).f0.length qh.c0)).setCell ⟨w.heap.size + 1 + 1, 1, none⟩ (.slice qh.A1 (staF L f).f1.length qh.c1)).setCell ⟨w.heap.size + 1 + 1, 2, none⟩ (.slice qh.A2 (staF L f).f2.length qh.c2)).setCell ⟨w.heap.size + 1 + 1, 3, none⟩ (.slice qh.A3 (staF L f).f3.length qh.c3)).setCell ⟨w.heap.size + 1 + 1, 4, none⟩ (.slice qh.A4 (staF L f).f4.length qh.c4)).setCell ⟨w.heap.size + 1 + 1, 5, none⟩ (.slice (some ⟨g, 0, none⟩) L.length c)) := ⟨_, rfl⟩
  rw [← hF] at KF BF NF sF
  rw [← hF]
  clear kF bF nF hF
  have sFa := Nat.le_of_eq sF
  have sFb := Nat.le_of_eq sF.symm
  clear sF
  have cF0 := KF.out.cell 0
  have cF1 := KF.out.cell 1
  have cF2 := KF.out.cell 2
  have cF3 := KF.out.cell 3
  have cF4 := KF.out.cell 4
  have cF5 := KF.out.cell 5
  simp only [List.getElem?_toArray, List.getElem?_cons_zero, List.getElem?_cons_succ] at cF0 cF1 cF2 cF3 cF4 cF5
  refine bodyPost_ret (v := .agg #[.slice qh.A0 (staF L f).f0.length qh.c0, .slice qh.A1 (staF L f).f1.length qh.c1, .slice qh.A2 (staF L f).f2.length qh.c2, .slice qh.A3 (staF L f).f3.length qh.c3, .slice qh.A4 (staF L f).f4.length qh.c4, .slice (some ⟨g, 0, none⟩) L.length c]) (by simp [results, Try.results91, cF0, cF1, cF2, cF3, cF4, cF5, go_sem]) rfl ?_
  have hl0 := CV.out.l0
  have hl2 := CV.out.l2
  have F8 : ∀ q, q ≠ w.heap.size + 1 + 1 → F.heap[q]? = w8.heap[q]? := fun q hq => NF.out q hq
  refine ⟨⟨qh, ⟨some ⟨g, 0, none⟩, c⟩⟩, ?_, B8.out.trans (BF.out _ (by omega)), ?_, ?_⟩
  · rw [← bufV_of qh (some ⟨g, 0, none⟩) c L f]
  · rw [HA0.out, HV0.out]
    exact (OS7.out.keep (by omega) (by omega) fun q h1 h2 => (F8 q (by omega)).trans (O8.out q (by omega))).in_
  · refine CV.out.iss (t := t) (by omega) (fun i hi => updB_other _ _ hi) (fun i hi hne => ?_) (fun i hi hne => ?_) (Ai := some ⟨gn, 0, none⟩) (ci := cn) (fun _ => ?_) ?_
    · exact (World.cell?_of_block (a := ⟨g, i, none⟩) (F8 g (by omega))).trans ((E8.out i hne).trans (World.cell?_of_block (a := ⟨g, i, none⟩) (R76.out g rg2 (by omega))))
    · obtain ⟨q1, q2, q3⟩ := RA.out i hi
      exact (F8 _ (by omega)).trans ((O8.out _ q3).trans (R76.out _ q2 (by omega)))
    · rw [updB_same, HMR.out]
      exact (World.cell?_of_block (a := ⟨g, t, none⟩) (F8 g (by omega))).trans C8.out
    · intro _
      rw [updB_same]
      exact ((own_vs OwnN.out rfl).in_.keep (by omega) (by omega) fun q h1 h2 => (F8 q (by omega)).trans (O8.out q (by omega)))
end Go.Proofs.Ytnadihepgmbhaaa
namespace Go.Proofs.Ytnadihepgmbhaaa
open Go.RowKit Pl Go.BigFrame
set_option maxHeartbeats 4000000
set_option maxRecDepth 100000
set_option linter.unusedVariables false

theorem sbdo_resta (h : PgH) (k : BufH) (L : Pg) (f : Nat → Nat) (b : Nat → List Nat) (t : Nat) (w : World) (B : Nat) (hP : PgR w B h L) (hS : BufR w B k (bufOf L f b)) (hB : B ≤ w.heap.size) (hL : progB L = true) (hf : Good L f) (ht : t < L.length) (hb6 : okB9 b 6) (hc : canF L f t = true) (h4 : ∀ n, n < 2 → f (20 + n) ≤ 4) (xk xa xb xc : Int) (xd : Bool) (hx : smAt L t (f (3 + t)) = ⟨xk, xa, xb, xc, xd⟩) (e1 : (xk == 1) = false) (e2 : (xk == 2) = false) :
    Calls Try.prog 91 #[PgV h L, BufV k (bufOf L f b), .int .i64 t] w (AnsI w (bufOf L (stepF L f t) b)) := by
  obtain ⟨h31, h32⟩ := prog_len hL
  obtain ⟨o, ho⟩ : ∃ o, o = bufOf L f b := ⟨_, rfl⟩
  have hOS : o.st = staF L f := by rw [ho]; rfl
  rw [← ho] at hS
  rw [← ho]
  obtain ⟨W, hW⟩ : ∃ W, W = ((w.alloc (.cells #[.slice h.A L.length h.c] 36)).alloc (.cells #[.slice k.h.A0 o.st.f0.length k.h.c0, .slice k.h.A1 o.st.f1.length k.h.c1, .slice k.h.A2 o.st.f2.length k.h.c2, .slice k.h.A3 o.st.f3.length k.h.c3, .slice k.h.A4 o.st.f4.length k.h.c4, .slice k.k.A o.bs.length k.k.c] 59)).alloc (.cells #[.slice none 0 0, .slice none 0 0, .slice none 0 0, .slice none 0 0, .slice none 0 0, .slice none 0 0] 59) := ⟨_, rfl⟩
  have bW : Below w.heap.size w W := by rw [hW]; go_grown
  have sW : W.heap.size = w.heap.size + 1 + 1 + 1 := by rw [hW]; simp
  have k0 : Bk W w.heap.size 36 #[.slice h.A L.length h.c] := by rw [hW]; exact ((Bk.new w _ _).alloc _).alloc _
  have k2 : Bk W (w.heap.size + 1 + 1) 59 #[.slice none 0 0, .slice none 0 0, .slice none 0 0, .slice none 0 0, .slice none 0 0, .slice none 0 0] := by
    rw [hW]; have := Bk.new ((w.alloc (.cells #[.slice h.A L.length h.c] 36)).alloc (.cells #[.slice k.h.A0 o.st.f0.length k.h.c0, .slice k.h.A1 o.st.f1.length k.h.c1, .slice k.h.A2 o.st.f2.length k.h.c2, .slice k.h.A3 o.st.f3.length k.h.c3, .slice k.h.A4 o.st.f4.length k.h.c4, .slice k.k.A o.bs.length k.k.c] 59)) #[.slice none 0 0, .slice none 0 0, .slice none 0 0, .slice none 0 0, .slice none 0 0, .slice none 0 0] 59
    rwa [World.size_alloc, World.size_alloc] at this
  have k1 : Bk W (w.heap.size + 1) 59 #[.slice k.h.A0 o.st.f0.length k.h.c0, .slice k.h.A1 o.st.f1.length k.h.c1, .slice k.h.A2 o.st.f2.length k.h.c2, .slice k.h.A3 o.st.f3.length k.h.c3, .slice k.h.A4 o.st.f4.length k.h.c4, .slice k.k.A o.bs.length k.k.c] := by
    rw [hW]; have := (Bk.new (w.alloc (.cells #[.slice h.A L.length h.c] 36)) #[.slice k.h.A0 o.st.f0.length k.h.c0, .slice k.h.A1 o.st.f1.length k.h.c1, .slice k.h.A2 o.st.f2.length k.h.c2, .slice k.h.A3 o.st.f3.length k.h.c3, .slice k.h.A4 o.st.f4.length k.h.c4, .slice k.k.A o.bs.length k.k.c] 59).alloc (.cells #[.slice none 0 0, .slice none 0 0, .slice none 0 0, .slice none 0 0, .slice none 0 0, .slice none 0 0] 59)
    rwa [World.size_alloc] at this
  have P0 := Lib.hid (hP.below bW hB)
  have S0 := Lib.hid (hS.below bW hB)
  have K0 := Lib.hid k0
  have K1 := Lib.hid k1
  have K2 := Lib.hid k2
  have B0 := Lib.hid bW
  have sWa := Nat.le_of_eq sW
  have sWb := Nat.le_of_eq sW.symm
  have HW := Lib.hid hW
  clear hW bW sW k0 k1 k2 hP hS
  have LB := Lib.hid (show StaL o.st 1000 by rw [hOS]; obtain ⟨a0, a1, a2, a3, a4⟩ := sta_len L f; exact ⟨by omega, by omega, by omega, by omega, by omega⟩)
  have LN := Lib.hid (show o.bs.length = L.length by rw [ho]; exact bufOf_len L f b)
  have LR := Lib.hid (show ∀ xs ∈ o.bs, xs.length ≤ 1000 from fun xs hx => by
    obtain ⟨i, hi⟩ := List.getElem?_of_mem hx
    rw [ho] at hi
    obtain ⟨h1, rfl⟩ := bufOf_inv hi
    rw [rowS_length]
    have := (hb6 i (by omega)).2
    omega)
  have HO := Lib.hid ho
  have HOS := Lib.hid hOS
  have H6 := Lib.hid hb6
  clear ho hOS hb6
  obtain ⟨hml, hxok⟩ := can_lt hL hf ht hc
  obtain ⟨xs, hxs⟩ : ∃ xs, L[t]? = some xs := ⟨_, List.getElem?_eq_getElem ht⟩
  have hd : L.getD t [] = xs := getD_some hxs
  have hat : f (3 + t) < xs.length := by rw [← hd]; exact hml
  have hxx : xs[f (3 + t)]? = some ⟨xk, xa, xb, xc, xd⟩ := by
    have h1 : xs[f (3 + t)]? = some xs[f (3 + t)] := List.getElem?_eq_getElem hat
    have h2 : smAt L t (f (3 + t)) = xs[f (3 + t)] := by unfold smAt; rw [hd]; exact getD_some h1
    rw [h1, ← h2, hx]
  have hl6 := (prog_thr hL hxs).1
  rw [hx] at hxok
  have HX := Lib.hid hx
  have hnge : ¬ (L.length : Int) ≤ (t : Int) := by omega
  have HML := Lib.hid hml
  have HOK := Lib.hid hxok
  have HC := Lib.hid hc
  have H4 := Lib.hid h4
  clear hx hml hxok hc h4
  go_enter Try.func91, Try.ntmps91
  go_wp2_with fail
  rw [← HW.out]
  refine (s7copy_any k o W B S0.out (by omega) LB.out (by have := LN.out; omega) LR.out).mono ?_
  rintro e w1 ⟨qh, A, c, hs, G, C, lo, hi, bs, rfl, hb1, n1, n2, n3, oS, oO, oR⟩
  have B1 := Lib.hid (below_on B0.out hb1)
  have P1 := Lib.hid (P0.out.below hb1 (by omega))
  have K01 := Lib.hid (K0.out.below hb1 K0.out.lt)
  have K21 := Lib.hid (K2.out.below hb1 K2.out.lt)
  have z1 := hb1.size
  have C1 := Lib.hid (show CopS w w1 L f b qh A c hs G C lo hi bs from by
    rw [HO.out, bufOf_len] at oO oR
    rw [HOS.out] at oS
    obtain ⟨g, _, hg1, hg2, _⟩ := sta_put2 h32 oS (i := 0) (by omega) 0 _ rfl
    exact ⟨oS, oO, oR, by omega, n2, n3, by omega, by omega⟩)
  clear hb1 oS oO oR
  have cp : w1.cell? ⟨w.heap.size, 0, none⟩ = some (.slice h.A L.length h.c) := K01.out.cell 0
  have lp := K01.out.lt
  go_wp2_with fail
  obtain ⟨V, hV⟩ : ∃ V, V = w1.alloc (.cells #[.slice qh.A0 o.st.f0.length qh.c0, .slice qh.A1 o.st.f1.length qh.c1, .slice qh.A2 o.st.f2.length qh.c2, .slice qh.A3 o.st.f3.length qh.c3, .slice qh.A4 o.st.f4.length qh.c4, .slice (A) o.bs.length c] 59) := ⟨_, rfl⟩
  rw [← hV]
  have bV : Below w1.heap.size w1 V := by rw [hV]; exact (Below.refl _ _).alloc (Nat.le_refl _) _
  have KS := Lib.hid (show Bk V w1.heap.size 59 #[.slice qh.A0 (staF L f).f0.length qh.c0, .slice qh.A1 (staF L f).f1.length qh.c1, .slice qh.A2 (staF L f).f2.length qh.c2, .slice qh.A3 (staF L f).f3.length qh.c3, .slice qh.A4 (staF L f).f4.length qh.c4, .slice (A) L.length c] from by rw [hV, HOS.out, LN.out]; exact Bk.new _ _ _)
  have zV : V.heap.size = w1.heap.size + 1 := by rw [hV]; simp
  have zVa := Nat.le_of_eq zV
  have zVb := Nat.le_of_eq zV.symm
  have KP := Lib.hid (K01.out.below bV K01.out.lt)
  have KR := Lib.hid (K21.out.below bV K21.out.lt)
  have BV := Lib.hid (B1.out.trans (bV.mono (by omega)))
  have PV := Lib.hid (P1.out.below bV (by omega))
  have ga : w1.grownBy V none := by rw [hV]; exact World.grownBy_alloc _ _ _
  have CV := Lib.hid (show CopS w V L f b qh (A) c hs G C lo hi bs from ⟨C1.out.sta.below bV (by have := C1.out.l2; omega), C1.out.own.kept ga (by cases hv : (Value.slice (A) L.length c).ownBlock <;> simp), C1.out.rows.kept (by rw [bufOf_len]; exact Nat.le_refl _) ga (fun i hi => by simp), C1.out.l1, C1.out.l2, by omega, C1.out.l0, C1.out.l4⟩)
  clear hV bV zV ga C1 K01 K21 B1 P1 K0 K1 K2 S0 P0 B0 LB LR cp lp
  obtain ⟨b1, off1, xs', Ai, ci, hA, hb1, hx', hc1, -, hmi, hrow⟩ := pg_at PV.out ht
  obtain rfl : xs = xs' := by rw [hxs] at hx'; injection hx'
  have n0 : (staF L f).f0.length = L.length := (sta_len L f).1
  have lt0 : t < (staF L f).f0.length := by rw [n0]; exact ht
  have cl2 := CV.out.l2
  have cl3 := CV.out.l3
  have cl1 := CV.out.l1
  obtain ⟨b2, off2, i, hA2, hb2, hi2, -, hc2⟩ := CV.out.sta.rd.r0.int_ (k := t) lt0
  obtain rfl : i = ((f (3 + t) : Nat) : Int) := by
    have : (staF L f).f0[t]? = some ((f (3 + t) : Int) + 0) := fldI_at (l := 0) ht
    rw [hi2] at this; injection this with this
  obtain ⟨b3, off3, x', hA3, hb3, hx3, -, c0, c1, c2, c3, c4⟩ := hrow.at_ hat
  obtain rfl : (⟨xk, xa, xb, xc, xd⟩ : Sm) = x' := by rw [hxx] at hx3; injection hx3
  simp only at c0 c1 c2 c3 c4
  subst hA3
  obtain ⟨i, hi0⟩ : ∃ i, f (3 + t) = i := ⟨_, rfl⟩
  rw [hi0] at hc2 c0 c1 c2 c3 c4 hat
  have e0 := KP.out.cell 0
  have e1 := KS.out.cell 0
  simp only [List.getElem?_toArray, List.getElem?_cons_zero] at e0 e1
  rw [hA] at e0
  rw [hA2] at e1
  have hti : (t : Int) < (L.length : Int) := by omega
  have hti2 : (t : Int) < ((staF L f).f0.length : Int) := by omega
  have him : (i : Int) < (xs.length : Int) := by omega
  clear n0
  have l0 := KP.out.lt
  have l1 := KS.out.lt
  unfold maxLen at hmi
  have hb1v : b1 < V.heap.size := by omega
  have hb2v : b2 < V.heap.size := by omega
  have hb3v : b3 < V.heap.size := by omega
  have g_e0 : V.cell? ⟨w.heap.size, 0, none⟩ = some (.slice (some ⟨b1, off1, none⟩) L.length h.c) := e0
  have g_e1 : V.cell? ⟨w1.heap.size, 0, none⟩ = some (.slice (some ⟨b2, off2, none⟩) (staF L f).f0.length qh.c0) := e1
  have g_hc1 : V.cell? ⟨b1, off1 + t, none⟩ = some (.slice (some ⟨b3, off3, none⟩) xs.length ci) := hc1
  have g_hc2 : V.cell? ⟨b2, off2 + t, none⟩ = some (.int .i64 (i : Int)) := hc2
  have g_c0 : V.cell? ⟨b3, off3 + i * 5, none⟩ = some (.int .i64 (xk)) := c0
  have g_c1 : V.cell? ⟨b3, off3 + i * 5 + 1, none⟩ = some (.int .i64 (xa)) := c1
  have g_c2 : V.cell? ⟨b3, off3 + i * 5 + 2, none⟩ = some (.int .i64 (xb)) := c2
  have g_c3 : V.cell? ⟨b3, off3 + i * 5 + 3, none⟩ = some (.int .i64 (xc)) := c3
  have g_c4 : V.cell? ⟨b3, off3 + i * 5 + 4, none⟩ = some (.bool (xd)) := c4
  have allS : ∀ w', Below V.heap.size V w' → (Below V.heap.size V w' ∧ w'.cell? ⟨w.heap.size, 0, none⟩ = some (.slice (some ⟨b1, off1, none⟩) L.length h.c) ∧ w'.cell? ⟨w1.heap.size, 0, none⟩ = some (.slice (some ⟨b2, off2, none⟩) (staF L f).f0.length qh.c0) ∧ w'.cell? ⟨b1, off1 + t, none⟩ = some (.slice (some ⟨b3, off3, none⟩) xs.length ci) ∧ w'.cell? ⟨b2, off2 + t, none⟩ = some (.int .i64 (i : Int)) ∧ w'.cell? ⟨b3, off3 + i * 5, none⟩ = some (.int .i64 (xk)) ∧ w'.cell? ⟨b3, off3 + i * 5 + 1, none⟩ = some (.int .i64 (xa)) ∧ w'.cell? ⟨b3, off3 + i * 5 + 2, none⟩ = some (.int .i64 (xb)) ∧ w'.cell? ⟨b3, off3 + i * 5 + 3, none⟩ = some (.int .i64 (xc)) ∧ w'.cell? ⟨b3, off3 + i * 5 + 4, none⟩ = some (.bool (xd))) := fun w' hb => ⟨hb, (hb.cell (p := ⟨w.heap.size, 0, none⟩) (by show w.heap.size < V.heap.size; exact l0)).trans g_e0, (hb.cell (p := ⟨w1.heap.size, 0, none⟩) (by show w1.heap.size < V.heap.size; exact l1)).trans g_e1, (hb.cell (p := ⟨b1, off1 + t, none⟩) (by show b1 < V.heap.size; exact hb1v)).trans g_hc1, (hb.cell (p := ⟨b2, off2 + t, none⟩) (by show b2 < V.heap.size; exact hb2v)).trans g_hc2, (hb.cell (p := ⟨b3, off3 + i * 5, none⟩) (by show b3 < V.heap.size; exact hb3v)).trans g_c0, (hb.cell (p := ⟨b3, off3 + i * 5 + 1, none⟩) (by show b3 < V.heap.size; exact hb3v)).trans g_c1, (hb.cell (p := ⟨b3, off3 + i * 5 + 2, none⟩) (by show b3 < V.heap.size; exact hb3v)).trans g_c2, (hb.cell (p := ⟨b3, off3 + i * 5 + 3, none⟩) (by show b3 < V.heap.size; exact hb3v)).trans g_c3, (hb.cell (p := ⟨b3, off3 + i * 5 + 4, none⟩) (by show b3 < V.heap.size; exact hb3v)).trans g_c4⟩
  have AllS := Lib.hid allS
  have HA := Lib.hid hA
  have HA2 := Lib.hid hA2
  clear allS hA hA2 hx' hrow hi2 hx3 e0 e1 hc1 hc2 c0 c1 c2 c3 c4 g_e0 g_e1 g_hc1 g_hc2 g_c0 g_c1 g_c2 g_c3 g_c4
  go_region_held3 (fun w' => Below V.heap.size V w' ∧ w'.cell? ⟨w.heap.size, 0, none⟩ = some (.slice (some ⟨b1, off1, none⟩) L.length h.c) ∧ w'.cell? ⟨w1.heap.size, 0, none⟩ = some (.slice (some ⟨b2, off2, none⟩) (staF L f).f0.length qh.c0) ∧ w'.cell? ⟨b1, off1 + t, none⟩ = some (.slice (some ⟨b3, off3, none⟩) xs.length ci) ∧ w'.cell? ⟨b2, off2 + t, none⟩ = some (.int .i64 (i : Int)) ∧ w'.cell? ⟨b3, off3 + i * 5, none⟩ = some (.int .i64 (xk)) ∧ w'.cell? ⟨b3, off3 + i * 5 + 1, none⟩ = some (.int .i64 (xa)) ∧ w'.cell? ⟨b3, off3 + i * 5 + 2, none⟩ = some (.int .i64 (xb)) ∧ w'.cell? ⟨b3, off3 + i * 5 + 3, none⟩ = some (.int .i64 (xc)) ∧ w'.cell? ⟨b3, off3 + i * 5 + 4, none⟩ = some (.bool (xd))) (first | (go_split_ands; exact AllS.out _ (by go_grown)) | (exact AllS.out _ (by go_grown))) (fail)
  obtain ⟨U, hU⟩ : ∃ U, U = (V.alloc (.cells #[.int .i64 (xk), .int .i64 (xa), .int .i64 (xb), .int .i64 (xc), .bool (xd)] 119)).drew := ⟨_, rfl⟩
  rw [← hU]
  have bU : Below V.heap.size V U := by rw [hU]; exact ((Below.refl _ _).alloc (Nat.le_refl _) _).drew
  have zU : U.heap.size = V.heap.size + 1 := by rw [hU]; show (World.alloc _ _).heap.size = _; simp
  have zUa := Nat.le_of_eq zU
  have zUb := Nat.le_of_eq zU.symm
  have KX := Lib.hid (show Bk U V.heap.size 119 #[.int .i64 (xk), .int .i64 (xa), .int .i64 (xb), .int .i64 (xc), .bool (xd)] from by rw [hU]; exact Bk.new V _ _)
  have KPU := Lib.hid (KP.out.below bU KP.out.lt)
  have KSU := Lib.hid (KS.out.below bU KS.out.lt)
  have KRU := Lib.hid (KR.out.below bU KR.out.lt)
  have BU := Lib.hid (BV.out.trans (bU.mono (by omega)))
  have PU := Lib.hid (PV.out.below bU (by omega))
  have CU := Lib.hid (CV.out.below bU)
  clear AllS hU bU zU KP KS KR BV PV CV
  try clear hHeld
  have lX := KX.out.lt
  have lS := KSU.out.lt
  have lP := KPU.out.lt
  have lR := KRU.out.lt
  have op0 : U.cell? ⟨w.heap.size, 0, none⟩ = some (.slice h.A L.length h.c) := KPU.out.cell 0
  have os0 : U.cell? ⟨w1.heap.size, 0, none⟩ = some (.slice qh.A0 (staF L f).f0.length qh.c0) := KSU.out.cell 0
  have os1 : U.cell? ⟨w1.heap.size, 1, none⟩ = some (.slice qh.A1 (staF L f).f1.length qh.c1) := KSU.out.cell 1
  have os2 : U.cell? ⟨w1.heap.size, 2, none⟩ = some (.slice qh.A2 (staF L f).f2.length qh.c2) := KSU.out.cell 2
  have os3 : U.cell? ⟨w1.heap.size, 3, none⟩ = some (.slice qh.A3 (staF L f).f3.length qh.c3) := KSU.out.cell 3
  have os4 : U.cell? ⟨w1.heap.size, 4, none⟩ = some (.slice qh.A4 (staF L f).f4.length qh.c4) := KSU.out.cell 4
  have os5 : U.cell? ⟨w1.heap.size, 5, none⟩ = some (.slice A L.length c) := KSU.out.cell 5
  have ox0 : U.cell? ⟨V.heap.size, 0, none⟩ = some (.int .i64 (xk)) := KX.out.cell 0
  have ox1 : U.cell? ⟨V.heap.size, 1, none⟩ = some (.int .i64 xa) := KX.out.cell 1
  have ox2 : U.cell? ⟨V.heap.size, 2, none⟩ = some (.int .i64 xb) := KX.out.cell 2
  have ox3 : U.cell? ⟨V.heap.size, 3, none⟩ = some (.int .i64 xc) := KX.out.cell 3
  have ox4 : U.cell? ⟨V.heap.size, 4, none⟩ = some (.bool (xd)) := KX.out.cell 4
  have fs : ∀ i, U.frozen? ⟨w1.heap.size, i, none⟩ = false := fun i => KSU.out.free i
  go_wp2_with fail
  refine (sdo_any h qh L f t U U.heap.size (PU.out.up (Below.refl U.heap.size U) (by omega) (by omega)) (CU.out.sta.rd.up (Below.refl U.heap.size U) (by omega) (by omega)) (Nat.le_refl _) hL ht hf HC.out H4.out).mono ?_
  rintro e w6 ⟨q6, rfl, hb6, hz6, o6⟩
  rw [staV_eq q6 L (stepF L f t) f]
  clear op0 os0 os1 os2 os3 os4 os5 ox0 ox1 ox2 ox3 ox4 fs
  have KS6 := Lib.hid (KSU.out.below hb6 KSU.out.lt)
  have KR6 := Lib.hid (KRU.out.below hb6 KRU.out.lt)
  have B6 := Lib.hid (BU.out.trans (hb6.mono (by omega)))
  have C6 := Lib.hid (CU.out.below hb6)
  have O6 := Lib.hid o6
  clear hb6 o6
  have os0 : w6.cell? ⟨w1.heap.size, 0, none⟩ = some (.slice qh.A0 (staF L f).f0.length qh.c0) := KS6.out.cell 0
  have os1 : w6.cell? ⟨w1.heap.size, 1, none⟩ = some (.slice qh.A1 (staF L f).f1.length qh.c1) := KS6.out.cell 1
  have os2 : w6.cell? ⟨w1.heap.size, 2, none⟩ = some (.slice qh.A2 (staF L f).f2.length qh.c2) := KS6.out.cell 2
  have os3 : w6.cell? ⟨w1.heap.size, 3, none⟩ = some (.slice qh.A3 (staF L f).f3.length qh.c3) := KS6.out.cell 3
  have os4 : w6.cell? ⟨w1.heap.size, 4, none⟩ = some (.slice qh.A4 (staF L f).f4.length qh.c4) := KS6.out.cell 4
  have os5 : w6.cell? ⟨w1.heap.size, 5, none⟩ = some (.slice A L.length c) := KS6.out.cell 5
  have fs0 := KS6.out.free 0
  have fs1 := KS6.out.free 1
  have fs2 := KS6.out.free 2
  have fs3 := KS6.out.free 3
  have fs4 := KS6.out.free 4
  obtain ⟨w7, hw7⟩ : ∃ X, X = (((((w6.setCell ⟨w1.heap.size, 0, none⟩ (.slice q6.A0 (staF L f).f0.length q6.c0)).setCell ⟨w1.heap.size, 1, none⟩ (.slice q6.A1 (staF L f).f1.length q6.c1)).setCell ⟨w1.heap.size, 2, none⟩ (.slice q6.A2 (staF L f).f2.length q6.c2)).setCell ⟨w1.heap.size, 3, none⟩ (.slice q6.A3 (staF L f).f3.length q6.c3)).setCell ⟨w1.heap.size, 4, none⟩ (.slice q6.A4 (staF L f).f4.length q6.c4)) := ⟨_, rfl⟩
  have k7 : Bk w7 w1.heap.size 59 #[.slice q6.A0 (staF L f).f0.length q6.c0, .slice q6.A1 (staF L f).f1.length q6.c1, .slice q6.A2 (staF L f).f2.length q6.c2, .slice q6.A3 (staF L f).f3.length q6.c3, .slice q6.A4 (staF L f).f4.length q6.c4, .slice A L.length c] := by
    rw [hw7]
    have a0 := KS6.out
    have a1 := a0.set 0 (.slice q6.A0 (staF L f).f0.length q6.c0)
    have a2 := a1.set 1 (.slice q6.A1 (staF L f).f1.length q6.c1)
    have a3 := a2.set 2 (.slice q6.A2 (staF L f).f2.length q6.c2)
    have a4 := a3.set 3 (.slice q6.A3 (staF L f).f3.length q6.c3)
    have a5 := a4.set 4 (.slice q6.A4 (staF L f).f4.length q6.c4)
    simpa using a5
  have n7 : ∀ q, q ≠ w1.heap.size → w7.heap[q]? = w6.heap[q]? := fun q hq => by rw [hw7]; exact (Below.heap_setCell _ _ _ q (by show q ≠ w1.heap.size; omega)).trans ((Below.heap_setCell _ _ _ q (by show q ≠ w1.heap.size; omega)).trans ((Below.heap_setCell _ _ _ q (by show q ≠ w1.heap.size; omega)).trans ((Below.heap_setCell _ _ _ q (by show q ≠ w1.heap.size; omega)).trans (Below.heap_setCell _ _ _ q (by show q ≠ w1.heap.size; omega)))))
  have b7 : Below w1.heap.size w6 w7 := by rw [hw7]; exact ((((((Below.refl _ _).setCell (by show w1.heap.size ≤ w1.heap.size; omega) _).setCell (by show w1.heap.size ≤ w1.heap.size; omega) _).setCell (by show w1.heap.size ≤ w1.heap.size; omega) _).setCell (by show w1.heap.size ≤ w1.heap.size; omega) _).setCell (by show w1.heap.size ≤ w1.heap.size; omega) _)
  have sz7 : w7.heap.size = w6.heap.size := by rw [hw7]; simp
  have sza := Nat.le_of_eq sz7
  have szb := Nat.le_of_eq sz7.symm
  have KS7 := Lib.hid k7
  have N7 := Lib.hid n7
  have KR7 := Lib.hid (show Bk w7 (w.heap.size + 1 + 1) _ _ from (n7 _ (by omega)).trans KR6.out)
  have B7 := Lib.hid (B6.out.trans (b7.mono (by omega)))
  have HW7 := Lib.hid hw7
  clear hw7 k7 n7 b7 sz7
  have ot0 : w7.cell? ⟨w1.heap.size, 0, none⟩ = some (.slice q6.A0 (staF L f).f0.length q6.c0) := KS7.out.cell 0
  have ot1 : w7.cell? ⟨w1.heap.size, 1, none⟩ = some (.slice q6.A1 (staF L f).f1.length q6.c1) := KS7.out.cell 1
  have ot2 : w7.cell? ⟨w1.heap.size, 2, none⟩ = some (.slice q6.A2 (staF L f).f2.length q6.c2) := KS7.out.cell 2
  have ot3 : w7.cell? ⟨w1.heap.size, 3, none⟩ = some (.slice q6.A3 (staF L f).f3.length q6.c3) := KS7.out.cell 3
  have ot4 : w7.cell? ⟨w1.heap.size, 4, none⟩ = some (.slice q6.A4 (staF L f).f4.length q6.c4) := KS7.out.cell 4
  have ot5 : w7.cell? ⟨w1.heap.size, 5, none⟩ = some (.slice A L.length c) := KS7.out.cell 5
  have fr0 : w7.frozen? ⟨w.heap.size + 1 + 1, 0, none⟩ = false := (KR7.out).free 0
  have cr0 : w7.cell? ⟨w.heap.size + 1 + 1, 0, none⟩ = some (.slice none 0 0) := (KR7.out).cell 0
  have fr1 : w7.frozen? ⟨w.heap.size + 1 + 1, 1, none⟩ = false := (KR7.out).free 1
  have cr1 : w7.cell? ⟨w.heap.size + 1 + 1, 1, none⟩ = some (.slice none 0 0) := (KR7.out).cell 1
  have fr2 : w7.frozen? ⟨w.heap.size + 1 + 1, 2, none⟩ = false := (KR7.out).free 2
  have cr2 : w7.cell? ⟨w.heap.size + 1 + 1, 2, none⟩ = some (.slice none 0 0) := (KR7.out).cell 2
  have fr3 : w7.frozen? ⟨w.heap.size + 1 + 1, 3, none⟩ = false := (KR7.out).free 3
  have cr3 : w7.cell? ⟨w.heap.size + 1 + 1, 3, none⟩ = some (.slice none 0 0) := (KR7.out).cell 3
  have fr4 : w7.frozen? ⟨w.heap.size + 1 + 1, 4, none⟩ = false := (KR7.out).free 4
  have cr4 : w7.cell? ⟨w.heap.size + 1 + 1, 4, none⟩ = some (.slice none 0 0) := (KR7.out).cell 4
  have fr5 : w7.frozen? ⟨w.heap.size + 1 + 1, 5, none⟩ = false := (KR7.out).free 5
  have cr5 : w7.cell? ⟨w.heap.size + 1 + 1, 5, none⟩ = some (.slice none 0 0) := (KR7.out).cell 5
  have lS7 := KS7.out.lt
  go_wp2_with (rw [← HW7.out])
  clear os0 os1 os2 os3 os4 os5 ot0 ot1 ot2 ot3 ot4 ot5 fs0 fs1 fs2 fs3 fs4 cr0 fr0 cr1 fr1 cr2 fr2 cr3 fr3 cr4 fr4 cr5 fr5
  have kF : Bk ((((((w7.setCell ⟨w.heap.size + 1 + 1, 0, none⟩ (.slice q6.A0 (staF L f).f0.length q6.c0)).setCell ⟨w.heap.size + 1 + 1, 1, none⟩ (.slice q6.A1 (staF L f).f1.length q6.c1)).setCell ⟨w.heap.size + 1 + 1, 2, none⟩ (.slice q6.A2 (staF L f).f2.length q6.c2)).setCell ⟨w.heap.size + 1 + 1, 3, none⟩ (.slice q6.A3 (staF L f).f3.length q6.c3)).setCell ⟨w.heap.size + 1 + 1, 4, none⟩ (.slice q6.A4 (staF L f).f4.length q6.c4)).setCell ⟨w.heap.size + 1 + 1, 5, none⟩ (.slice A L.length c)) (w.heap.size + 1 + 1) 59 #[.slice q6.A0 (staF L f).f0.length q6.c0, .slice q6.A1 (staF L f).f1.length q6.c1, .slice q6.A2 (staF L f).f2.length q6.c2, .slice q6.A3 (staF L f).f3.length q6.c3, .slice q6.A4 (staF L f).f4.length q6.c4, .slice A L.length c] := by
    have a0 := KR7.out
    have a1 := a0.set 0 (.slice q6.A0 (staF L f).f0.length q6.c0)
    have a2 := a1.set 1 (.slice q6.A1 (staF L f).f1.length q6.c1)
    have a3 := a2.set 2 (.slice q6.A2 (staF L f).f2.length q6.c2)
    have a4 := a3.set 3 (.slice q6.A3 (staF L f).f3.length q6.c3)
    have a5 := a4.set 4 (.slice q6.A4 (staF L f).f4.length q6.c4)
    have a6 := a5.set 5 (.slice A L.length c)
    simpa using a6
  have bF : ∀ B, B ≤ w.heap.size + 1 + 1 → Below B w7 ((((((w7.setCell ⟨w.heap.size + 1 + 1, 0, none⟩ (.slice q6.A0 (staF L f).f0.length q6.c0)).setCell ⟨w.heap.size + 1 + 1, 1, none⟩ (.slice q6.A1 (staF L f).f1.length q6.c1)).setCell ⟨w.heap.size + 1 + 1, 2, none⟩ (.slice q6.A2 (staF L f).f2.length q6.c2)).setCell ⟨w.heap.size + 1 + 1, 3, none⟩ (.slice q6.A3 (staF L f).f3.length q6.c3)).setCell ⟨w.heap.size + 1 + 1, 4, none⟩ (.slice q6.A4 (staF L f).f4.length q6.c4)).setCell ⟨w.heap.size + 1 + 1, 5, none⟩ (.slice A L.length c)) := fun B hB => (((((((Below.refl _ _).setCell (by show B ≤ w.heap.size + 1 + 1; omega) _).setCell (by show B ≤ w.heap.size + 1 + 1; omega) _).setCell (by show B ≤ w.heap.size + 1 + 1; omega) _).setCell (by show B ≤ w.heap.size + 1 + 1; omega) _).setCell (by show B ≤ w.heap.size + 1 + 1; omega) _).setCell (by show B ≤ w.heap.size + 1 + 1; omega) _)
  have nF : ∀ q, q ≠ w.heap.size + 1 + 1 → ((((((w7.setCell ⟨w.heap.size + 1 + 1, 0, none⟩ (.slice q6.A0 (staF L f).f0.length q6.c0)).setCell ⟨w.heap.size + 1 + 1, 1, none⟩ (.slice q6.A1 (staF L f).f1.length q6.c1)).setCell ⟨w.heap.size + 1 + 1, 2, none⟩ (.slice q6.A2 (staF L f).f2.length q6.c2)).setCell ⟨w.heap.size + 1 + 1, 3, none⟩ (.slice q6.A3 (staF L f).f3.length q6.c3)).setCell ⟨w.heap.size + 1 + 1, 4, none⟩ (.slice q6.A4 (staF L f).f4.length q6.c4)).setCell ⟨w.heap.size + 1 + 1, 5, none⟩ (.slice A L.length c)).heap[q]? = w7.heap[q]? := fun q hq => (Below.heap_setCell _ _ _ q (by show q ≠ w.heap.size + 1 + 1; omega)).trans ((Below.heap_setCell _ _ _ q (by show q ≠ w.heap.size + 1 + 1; omega)).trans ((Below.heap_setCell _ _ _ q (by show q ≠ w.heap.size + 1 + 1; omega)).trans ((Below.heap_setCell _ _ _ q (by show q ≠ w.heap.size + 1 + 1; omega)).trans ((Below.heap_setCell _ _ _ q (by show q ≠ w.heap.size + 1 + 1; omega)).trans (Below.heap_setCell _ _ _ q (by show q ≠ w.heap.size + 1 + 1; omega))))))
  have sF : ((((((w7.setCell ⟨w.heap.size + 1 + 1, 0, none⟩ (.slice q6.A0 (staF L f).f0.length q6.c0)).setCell ⟨w.heap.size + 1 + 1, 1, none⟩ (.slice q6.A1 (staF L f).f1.length q6.c1)).setCell ⟨w.heap.size + 1 + 1, 2, none⟩ (.slice q6.A2 (staF L f).f2.length q6.c2)).setCell ⟨w.heap.size + 1 + 1, 3, none⟩ (.slice q6.A3 (staF L f).f3.length q6.c3)).setCell ⟨w.heap.size + 1 + 1, 4, none⟩ (.slice q6.A4 (staF L f).f4.length q6.c4)).setCell ⟨w.heap.size + 1 + 1, 5, none⟩ (.slice A L.length c)).heap.size = w7.heap.size := by simp
  have KF := Lib.hid kF
  have BF := Lib.hid bF
  have NF := Lib.hid nF
  obtain ⟨F, hF⟩ : ∃ F, F = ((((((w7.setCell ⟨w.heap.size + 1 + 1, 0, none⟩ (.slice q6.A0 (staF L f).f0.length q6.c0)).setCell ⟨w.heap.size + 1 + 1, 1, none⟩ (.slice q6.A1 (staF L f).f1.length q6.c1)).setCell ⟨w.heap.size + 1 + 1, 2, none⟩ (.slice q6.A2 (staF L f).f2.length q6.c2)).setCell ⟨w.heap.size + 1 + 1, 3, none⟩ (.slice q6.A3 (staF L f).f3.length q6.c3)).setCell ⟨w.heap.size + 1 + 1, 4, none⟩ (.slice q6.A4 (staF L f).f4.length q6.c4)).setCell ⟨w.heap.size + 1 + 1, 5, none⟩ (.slice A L.length c)) := ⟨_, rfl⟩
  rw [← hF] at KF BF NF sF
  rw [← hF]
  clear kF bF nF hF
  have sFa := Nat.le_of_eq sF
  have sFb := Nat.le_of_eq sF.symm
  clear sF
  have cF0 := KF.out.cell 0
  have cF1 := KF.out.cell 1
  have cF2 := KF.out.cell 2
  have cF3 := KF.out.cell 3
  have cF4 := KF.out.cell 4
  have cF5 := KF.out.cell 5
  simp only [List.getElem?_toArray, List.getElem?_cons_zero, List.getElem?_cons_succ] at cF0 cF1 cF2 cF3 cF4 cF5
  refine bodyPost_ret (v := .agg #[.slice q6.A0 (staF L f).f0.length q6.c0, .slice q6.A1 (staF L f).f1.length q6.c1, .slice q6.A2 (staF L f).f2.length q6.c2, .slice q6.A3 (staF L f).f3.length q6.c3, .slice q6.A4 (staF L f).f4.length q6.c4, .slice A L.length c]) (by simp [results, Try.results91, cF0, cF1, cF2, cF3, cF4, cF5, go_sem]) rfl ?_
  refine ⟨⟨q6, ⟨A, c⟩⟩, ?_, B7.out.trans (BF.out _ (by omega)), ?_, ?_⟩
  · rw [← bufV_of q6 A c L f]
  · exact (O6.out.keep (by omega) (by omega) fun q h1 h2 => (NF.out q (by omega)).trans (N7.out q (by omega))).in_
  · have hl0 := C6.out.l0
    exact C6.out.iss0 (by omega) (by omega) fun q h1 h2 h3 => (NF.out q (by omega)).trans (N7.out q (row_ne KS6.out h3))
theorem sbdo_restb (h : PgH) (k : BufH) (L : Pg) (f : Nat → Nat) (b : Nat → List Nat) (t : Nat) (w : World) (B : Nat) (hP : PgR w B h L) (hS : BufR w B k (bufOf L f b)) (hB : B ≤ w.heap.size) (hL : progB L = true) (hf : Good L f) (ht : t < L.length) (hb6 : okB9 b 6) (hc : canF L f t = true) (h4 : ∀ n, n < 2 → f (20 + n) ≤ 4) (xk xa xb xc : Int) (xd : Bool) (hx : smAt L t (f (3 + t)) = ⟨2, xa, xb, xc, true⟩)  :
    Calls Try.prog 91 #[PgV h L, BufV k (bufOf L f b), .int .i64 t] w (AnsI w (bufOf L (stepF L f t) b)) := by
  obtain ⟨h31, h32⟩ := prog_len hL
  obtain ⟨o, ho⟩ : ∃ o, o = bufOf L f b := ⟨_, rfl⟩
  have hOS : o.st = staF L f := by rw [ho]; rfl
  rw [← ho] at hS
  rw [← ho]
  obtain ⟨W, hW⟩ : ∃ W, W = ((w.alloc (.cells #[.slice h.A L.length h.c] 36)).alloc (.cells #[.slice k.h.A0 o.st.f0.length k.h.c0, .slice k.h.A1 o.st.f1.length k.h.c1, .slice k.h.A2 o.st.f2.length k.h.c2, .slice k.h.A3 o.st.f3.length k.h.c3, .slice k.h.A4 o.st.f4.length k.h.c4, .slice k.k.A o.bs.length k.k.c] 59)).alloc (.cells #[.slice none 0 0, .slice none 0 0, .slice none 0 0, .slice none 0 0, .slice none 0 0, .slice none 0 0] 59) := ⟨_, rfl⟩
  have bW : Below w.heap.size w W := by rw [hW]; go_grown
  have sW : W.heap.size = w.heap.size + 1 + 1 + 1 := by rw [hW]; simp
  have k0 : Bk W w.heap.size 36 #[.slice h.A L.length h.c] := by rw [hW]; exact ((Bk.new w _ _).alloc _).alloc _
  have k2 : Bk W (w.heap.size + 1 + 1) 59 #[.slice none 0 0, .slice none 0 0, .slice none 0 0, .slice none 0 0, .slice none 0 0, .slice none 0 0] := by
    rw [hW]; have := Bk.new ((w.alloc (.cells #[.slice h.A L.length h.c] 36)).alloc (.cells #[.slice k.h.A0 o.st.f0.length k.h.c0, .slice k.h.A1 o.st.f1.length k.h.c1, .slice k.h.A2 o.st.f2.length k.h.c2, .slice k.h.A3 o.st.f3.length k.h.c3, .slice k.h.A4 o.st.f4.length k.h.c4, .slice k.k.A o.bs.length k.k.c] 59)) #[.slice none 0 0, .slice none 0 0, .slice none 0 0, .slice none 0 0, .slice none 0 0, .slice none 0 0] 59
    rwa [World.size_alloc, World.size_alloc] at this
  have k1 : Bk W (w.heap.size + 1) 59 #[.slice k.h.A0 o.st.f0.length k.h.c0, .slice k.h.A1 o.st.f1.length k.h.c1, .slice k.h.A2 o.st.f2.length k.h.c2, .slice k.h.A3 o.st.f3.length k.h.c3, .slice k.h.A4 o.st.f4.length k.h.c4, .slice k.k.A o.bs.length k.k.c] := by
    rw [hW]; have := (Bk.new (w.alloc (.cells #[.slice h.A L.length h.c] 36)) #[.slice k.h.A0 o.st.f0.length k.h.c0, .slice k.h.A1 o.st.f1.length k.h.c1, .slice k.h.A2 o.st.f2.length k.h.c2, .slice k.h.A3 o.st.f3.length k.h.c3, .slice k.h.A4 o.st.f4.length k.h.c4, .slice k.k.A o.bs.length k.k.c] 59).alloc (.cells #[.slice none 0 0, .slice none 0 0, .slice none 0 0, .slice none 0 0, .slice none 0 0, .slice none 0 0] 59)
    rwa [World.size_alloc] at this
  have P0 := Lib.hid (hP.below bW hB)
  have S0 := Lib.hid (hS.below bW hB)
  have K0 := Lib.hid k0
  have K1 := Lib.hid k1
  have K2 := Lib.hid k2
  have B0 := Lib.hid bW
  have sWa := Nat.le_of_eq sW
  have sWb := Nat.le_of_eq sW.symm
  have HW := Lib.hid hW
  clear hW bW sW k0 k1 k2 hP hS
  have LB := Lib.hid (show StaL o.st 1000 by rw [hOS]; obtain ⟨a0, a1, a2, a3, a4⟩ := sta_len L f; exact ⟨by omega, by omega, by omega, by omega, by omega⟩)
  have LN := Lib.hid (show o.bs.length = L.length by rw [ho]; exact bufOf_len L f b)
  have LR := Lib.hid (show ∀ xs ∈ o.bs, xs.length ≤ 1000 from fun xs hx => by
    obtain ⟨i, hi⟩ := List.getElem?_of_mem hx
    rw [ho] at hi
    obtain ⟨h1, rfl⟩ := bufOf_inv hi
    rw [rowS_length]
    have := (hb6 i (by omega)).2
    omega)
  have HO := Lib.hid ho
  have HOS := Lib.hid hOS
  have H6 := Lib.hid hb6
  clear ho hOS hb6
  obtain ⟨hml, hxok⟩ := can_lt hL hf ht hc
  obtain ⟨xs, hxs⟩ : ∃ xs, L[t]? = some xs := ⟨_, List.getElem?_eq_getElem ht⟩
  have hd : L.getD t [] = xs := getD_some hxs
  have hat : f (3 + t) < xs.length := by rw [← hd]; exact hml
  have hxx : xs[f (3 + t)]? = some ⟨2, xa, xb, xc, true⟩ := by
    have h1 : xs[f (3 + t)]? = some xs[f (3 + t)] := List.getElem?_eq_getElem hat
    have h2 : smAt L t (f (3 + t)) = xs[f (3 + t)] := by unfold smAt; rw [hd]; exact getD_some h1
    rw [h1, ← h2, hx]
  have hl6 := (prog_thr hL hxs).1
  rw [hx] at hxok
  have HX := Lib.hid hx
  have hnge : ¬ (L.length : Int) ≤ (t : Int) := by omega
  have HML := Lib.hid hml
  have HOK := Lib.hid hxok
  have HC := Lib.hid hc
  have H4 := Lib.hid h4
  clear hx hml hxok hc h4
  go_enter Try.func91, Try.ntmps91
  go_wp2_with fail
  rw [← HW.out]
  refine (s7copy_any k o W B S0.out (by omega) LB.out (by have := LN.out; omega) LR.out).mono ?_
  rintro e w1 ⟨qh, A, c, hs, G, C, lo, hi, bs, rfl, hb1, n1, n2, n3, oS, oO, oR⟩
  have B1 := Lib.hid (below_on B0.out hb1)
  have P1 := Lib.hid (P0.out.below hb1 (by omega))
  have K01 := Lib.hid (K0.out.below hb1 K0.out.lt)
  have K21 := Lib.hid (K2.out.below hb1 K2.out.lt)
  have z1 := hb1.size
  have C1 := Lib.hid (show CopS w w1 L f b qh A c hs G C lo hi bs from by
    rw [HO.out, bufOf_len] at oO oR
    rw [HOS.out] at oS
    obtain ⟨g, _, hg1, hg2, _⟩ := sta_put2 h32 oS (i := 0) (by omega) 0 _ rfl
    exact ⟨oS, oO, oR, by omega, n2, n3, by omega, by omega⟩)
  clear hb1 oS oO oR
  have cp : w1.cell? ⟨w.heap.size, 0, none⟩ = some (.slice h.A L.length h.c) := K01.out.cell 0
  have lp := K01.out.lt
  go_wp2_with fail
  obtain ⟨V, hV⟩ : ∃ V, V = w1.alloc (.cells #[.slice qh.A0 o.st.f0.length qh.c0, .slice qh.A1 o.st.f1.length qh.c1, .slice qh.A2 o.st.f2.length qh.c2, .slice qh.A3 o.st.f3.length qh.c3, .slice qh.A4 o.st.f4.length qh.c4, .slice (A) o.bs.length c] 59) := ⟨_, rfl⟩
  rw [← hV]
  have bV : Below w1.heap.size w1 V := by rw [hV]; exact (Below.refl _ _).alloc (Nat.le_refl _) _
  have KS := Lib.hid (show Bk V w1.heap.size 59 #[.slice qh.A0 (staF L f).f0.length qh.c0, .slice qh.A1 (staF L f).f1.length qh.c1, .slice qh.A2 (staF L f).f2.length qh.c2, .slice qh.A3 (staF L f).f3.length qh.c3, .slice qh.A4 (staF L f).f4.length qh.c4, .slice (A) L.length c] from by rw [hV, HOS.out, LN.out]; exact Bk.new _ _ _)
  have zV : V.heap.size = w1.heap.size + 1 := by rw [hV]; simp
  have zVa := Nat.le_of_eq zV
  have zVb := Nat.le_of_eq zV.symm
  have KP := Lib.hid (K01.out.below bV K01.out.lt)
  have KR := Lib.hid (K21.out.below bV K21.out.lt)
  have BV := Lib.hid (B1.out.trans (bV.mono (by omega)))
  have PV := Lib.hid (P1.out.below bV (by omega))
  have ga : w1.grownBy V none := by rw [hV]; exact World.grownBy_alloc _ _ _
  have CV := Lib.hid (show CopS w V L f b qh (A) c hs G C lo hi bs from ⟨C1.out.sta.below bV (by have := C1.out.l2; omega), C1.out.own.kept ga (by cases hv : (Value.slice (A) L.length c).ownBlock <;> simp), C1.out.rows.kept (by rw [bufOf_len]; exact Nat.le_refl _) ga (fun i hi => by simp), C1.out.l1, C1.out.l2, by omega, C1.out.l0, C1.out.l4⟩)
  clear hV bV zV ga C1 K01 K21 B1 P1 K0 K1 K2 S0 P0 B0 LB LR cp lp
  obtain ⟨b1, off1, xs', Ai, ci, hA, hb1, hx', hc1, -, hmi, hrow⟩ := pg_at PV.out ht
  obtain rfl : xs = xs' := by rw [hxs] at hx'; injection hx'
  have n0 : (staF L f).f0.length = L.length := (sta_len L f).1
  have lt0 : t < (staF L f).f0.length := by rw [n0]; exact ht
  have cl2 := CV.out.l2
  have cl3 := CV.out.l3
  have cl1 := CV.out.l1
  obtain ⟨b2, off2, i, hA2, hb2, hi2, -, hc2⟩ := CV.out.sta.rd.r0.int_ (k := t) lt0
  obtain rfl : i = ((f (3 + t) : Nat) : Int) := by
    have : (staF L f).f0[t]? = some ((f (3 + t) : Int) + 0) := fldI_at (l := 0) ht
    rw [hi2] at this; injection this with this
  obtain ⟨b3, off3, x', hA3, hb3, hx3, -, c0, c1, c2, c3, c4⟩ := hrow.at_ hat
  obtain rfl : (⟨2, xa, xb, xc, true⟩ : Sm) = x' := by rw [hxx] at hx3; injection hx3
  simp only at c0 c1 c2 c3 c4
  subst hA3
  obtain ⟨i, hi0⟩ : ∃ i, f (3 + t) = i := ⟨_, rfl⟩
  rw [hi0] at hc2 c0 c1 c2 c3 c4 hat
  have e0 := KP.out.cell 0
  have e1 := KS.out.cell 0
  simp only [List.getElem?_toArray, List.getElem?_cons_zero] at e0 e1
  rw [hA] at e0
  rw [hA2] at e1
  have hti : (t : Int) < (L.length : Int) := by omega
  have hti2 : (t : Int) < ((staF L f).f0.length : Int) := by omega
  have him : (i : Int) < (xs.length : Int) := by omega
  clear n0
  have l0 := KP.out.lt
  have l1 := KS.out.lt
  unfold maxLen at hmi
  have hb1v : b1 < V.heap.size := by omega
  have hb2v : b2 < V.heap.size := by omega
  have hb3v : b3 < V.heap.size := by omega
  have g_e0 : V.cell? ⟨w.heap.size, 0, none⟩ = some (.slice (some ⟨b1, off1, none⟩) L.length h.c) := e0
  have g_e1 : V.cell? ⟨w1.heap.size, 0, none⟩ = some (.slice (some ⟨b2, off2, none⟩) (staF L f).f0.length qh.c0) := e1
  have g_hc1 : V.cell? ⟨b1, off1 + t, none⟩ = some (.slice (some ⟨b3, off3, none⟩) xs.length ci) := hc1
  have g_hc2 : V.cell? ⟨b2, off2 + t, none⟩ = some (.int .i64 (i : Int)) := hc2
  have g_c0 : V.cell? ⟨b3, off3 + i * 5, none⟩ = some (.int .i64 (2)) := c0
  have g_c1 : V.cell? ⟨b3, off3 + i * 5 + 1, none⟩ = some (.int .i64 (xa)) := c1
  have g_c2 : V.cell? ⟨b3, off3 + i * 5 + 2, none⟩ = some (.int .i64 (xb)) := c2
  have g_c3 : V.cell? ⟨b3, off3 + i * 5 + 3, none⟩ = some (.int .i64 (xc)) := c3
  have g_c4 : V.cell? ⟨b3, off3 + i * 5 + 4, none⟩ = some (.bool (true)) := c4
  have allS : ∀ w', Below V.heap.size V w' → (Below V.heap.size V w' ∧ w'.cell? ⟨w.heap.size, 0, none⟩ = some (.slice (some ⟨b1, off1, none⟩) L.length h.c) ∧ w'.cell? ⟨w1.heap.size, 0, none⟩ = some (.slice (some ⟨b2, off2, none⟩) (staF L f).f0.length qh.c0) ∧ w'.cell? ⟨b1, off1 + t, none⟩ = some (.slice (some ⟨b3, off3, none⟩) xs.length ci) ∧ w'.cell? ⟨b2, off2 + t, none⟩ = some (.int .i64 (i : Int)) ∧ w'.cell? ⟨b3, off3 + i * 5, none⟩ = some (.int .i64 (2)) ∧ w'.cell? ⟨b3, off3 + i * 5 + 1, none⟩ = some (.int .i64 (xa)) ∧ w'.cell? ⟨b3, off3 + i * 5 + 2, none⟩ = some (.int .i64 (xb)) ∧ w'.cell? ⟨b3, off3 + i * 5 + 3, none⟩ = some (.int .i64 (xc)) ∧ w'.cell? ⟨b3, off3 + i * 5 + 4, none⟩ = some (.bool (true))) := fun w' hb => ⟨hb, (hb.cell (p := ⟨w.heap.size, 0, none⟩) (by show w.heap.size < V.heap.size; exact l0)).trans g_e0, (hb.cell (p := ⟨w1.heap.size, 0, none⟩) (by show w1.heap.size < V.heap.size; exact l1)).trans g_e1, (hb.cell (p := ⟨b1, off1 + t, none⟩) (by show b1 < V.heap.size; exact hb1v)).trans g_hc1, (hb.cell (p := ⟨b2, off2 + t, none⟩) (by show b2 < V.heap.size; exact hb2v)).trans g_hc2, (hb.cell (p := ⟨b3, off3 + i * 5, none⟩) (by show b3 < V.heap.size; exact hb3v)).trans g_c0, (hb.cell (p := ⟨b3, off3 + i * 5 + 1, none⟩) (by show b3 < V.heap.size; exact hb3v)).trans g_c1, (hb.cell (p := ⟨b3, off3 + i * 5 + 2, none⟩) (by show b3 < V.heap.size; exact hb3v)).trans g_c2, (hb.cell (p := ⟨b3, off3 + i * 5 + 3, none⟩) (by show b3 < V.heap.size; exact hb3v)).trans g_c3, (hb.cell (p := ⟨b3, off3 + i * 5 + 4, none⟩) (by show b3 < V.heap.size; exact hb3v)).trans g_c4⟩
  have AllS := Lib.hid allS
  have HA := Lib.hid hA
  have HA2 := Lib.hid hA2
  clear allS hA hA2 hx' hrow hi2 hx3 e0 e1 hc1 hc2 c0 c1 c2 c3 c4 g_e0 g_e1 g_hc1 g_hc2 g_c0 g_c1 g_c2 g_c3 g_c4
  go_region_held3 (fun w' => Below V.heap.size V w' ∧ w'.cell? ⟨w.heap.size, 0, none⟩ = some (.slice (some ⟨b1, off1, none⟩) L.length h.c) ∧ w'.cell? ⟨w1.heap.size, 0, none⟩ = some (.slice (some ⟨b2, off2, none⟩) (staF L f).f0.length qh.c0) ∧ w'.cell? ⟨b1, off1 + t, none⟩ = some (.slice (some ⟨b3, off3, none⟩) xs.length ci) ∧ w'.cell? ⟨b2, off2 + t, none⟩ = some (.int .i64 (i : Int)) ∧ w'.cell? ⟨b3, off3 + i * 5, none⟩ = some (.int .i64 (2)) ∧ w'.cell? ⟨b3, off3 + i * 5 + 1, none⟩ = some (.int .i64 (xa)) ∧ w'.cell? ⟨b3, off3 + i * 5 + 2, none⟩ = some (.int .i64 (xb)) ∧ w'.cell? ⟨b3, off3 + i * 5 + 3, none⟩ = some (.int .i64 (xc)) ∧ w'.cell? ⟨b3, off3 + i * 5 + 4, none⟩ = some (.bool (true))) (first | (go_split_ands; exact AllS.out _ (by go_grown)) | (exact AllS.out _ (by go_grown))) (fail)
  obtain ⟨U, hU⟩ : ∃ U, U = (V.alloc (.cells #[.int .i64 (2), .int .i64 (xa), .int .i64 (xb), .int .i64 (xc), .bool (true)] 119)).drew := ⟨_, rfl⟩
  rw [← hU]
  have bU : Below V.heap.size V U := by rw [hU]; exact ((Below.refl _ _).alloc (Nat.le_refl _) _).drew
  have zU : U.heap.size = V.heap.size + 1 := by rw [hU]; show (World.alloc _ _).heap.size = _; simp
  have zUa := Nat.le_of_eq zU
  have zUb := Nat.le_of_eq zU.symm
  have KX := Lib.hid (show Bk U V.heap.size 119 #[.int .i64 (2), .int .i64 (xa), .int .i64 (xb), .int .i64 (xc), .bool (true)] from by rw [hU]; exact Bk.new V _ _)
  have KPU := Lib.hid (KP.out.below bU KP.out.lt)
  have KSU := Lib.hid (KS.out.below bU KS.out.lt)
  have KRU := Lib.hid (KR.out.below bU KR.out.lt)
  have BU := Lib.hid (BV.out.trans (bU.mono (by omega)))
  have PU := Lib.hid (PV.out.below bU (by omega))
  have CU := Lib.hid (CV.out.below bU)
  clear AllS hU bU zU KP KS KR BV PV CV
  try clear hHeld
  have lX := KX.out.lt
  have lS := KSU.out.lt
  have lP := KPU.out.lt
  have lR := KRU.out.lt
  have op0 : U.cell? ⟨w.heap.size, 0, none⟩ = some (.slice h.A L.length h.c) := KPU.out.cell 0
  have os0 : U.cell? ⟨w1.heap.size, 0, none⟩ = some (.slice qh.A0 (staF L f).f0.length qh.c0) := KSU.out.cell 0
  have os1 : U.cell? ⟨w1.heap.size, 1, none⟩ = some (.slice qh.A1 (staF L f).f1.length qh.c1) := KSU.out.cell 1
  have os2 : U.cell? ⟨w1.heap.size, 2, none⟩ = some (.slice qh.A2 (staF L f).f2.length qh.c2) := KSU.out.cell 2
  have os3 : U.cell? ⟨w1.heap.size, 3, none⟩ = some (.slice qh.A3 (staF L f).f3.length qh.c3) := KSU.out.cell 3
  have os4 : U.cell? ⟨w1.heap.size, 4, none⟩ = some (.slice qh.A4 (staF L f).f4.length qh.c4) := KSU.out.cell 4
  have os5 : U.cell? ⟨w1.heap.size, 5, none⟩ = some (.slice A L.length c) := KSU.out.cell 5
  have ox0 : U.cell? ⟨V.heap.size, 0, none⟩ = some (.int .i64 (2)) := KX.out.cell 0
  have ox1 : U.cell? ⟨V.heap.size, 1, none⟩ = some (.int .i64 xa) := KX.out.cell 1
  have ox2 : U.cell? ⟨V.heap.size, 2, none⟩ = some (.int .i64 xb) := KX.out.cell 2
  have ox3 : U.cell? ⟨V.heap.size, 3, none⟩ = some (.int .i64 xc) := KX.out.cell 3
  have ox4 : U.cell? ⟨V.heap.size, 4, none⟩ = some (.bool (true)) := KX.out.cell 4
  have fs : ∀ i, U.frozen? ⟨w1.heap.size, i, none⟩ = false := fun i => KSU.out.free i
  go_wp2_with fail
  refine (sdo_any h qh L f t U U.heap.size (PU.out.up (Below.refl U.heap.size U) (by omega) (by omega)) (CU.out.sta.rd.up (Below.refl U.heap.size U) (by omega) (by omega)) (Nat.le_refl _) hL ht hf HC.out H4.out).mono ?_
  rintro e w6 ⟨q6, rfl, hb6, hz6, o6⟩
  rw [staV_eq q6 L (stepF L f t) f]
  clear op0 os0 os1 os2 os3 os4 os5 ox0 ox1 ox2 ox3 ox4 fs
  have KS6 := Lib.hid (KSU.out.below hb6 KSU.out.lt)
  have KR6 := Lib.hid (KRU.out.below hb6 KRU.out.lt)
  have B6 := Lib.hid (BU.out.trans (hb6.mono (by omega)))
  have C6 := Lib.hid (CU.out.below hb6)
  have O6 := Lib.hid o6
  clear hb6 o6
  have os0 : w6.cell? ⟨w1.heap.size, 0, none⟩ = some (.slice qh.A0 (staF L f).f0.length qh.c0) := KS6.out.cell 0
  have os1 : w6.cell? ⟨w1.heap.size, 1, none⟩ = some (.slice qh.A1 (staF L f).f1.length qh.c1) := KS6.out.cell 1
  have os2 : w6.cell? ⟨w1.heap.size, 2, none⟩ = some (.slice qh.A2 (staF L f).f2.length qh.c2) := KS6.out.cell 2
  have os3 : w6.cell? ⟨w1.heap.size, 3, none⟩ = some (.slice qh.A3 (staF L f).f3.length qh.c3) := KS6.out.cell 3
  have os4 : w6.cell? ⟨w1.heap.size, 4, none⟩ = some (.slice qh.A4 (staF L f).f4.length qh.c4) := KS6.out.cell 4
  have os5 : w6.cell? ⟨w1.heap.size, 5, none⟩ = some (.slice A L.length c) := KS6.out.cell 5
  have fs0 := KS6.out.free 0
  have fs1 := KS6.out.free 1
  have fs2 := KS6.out.free 2
  have fs3 := KS6.out.free 3
  have fs4 := KS6.out.free 4
  obtain ⟨w7, hw7⟩ : ∃ X, X = (((((w6.setCell ⟨w1.heap.size, 0, none⟩ (.slice q6.A0 (staF L f).f0.length q6.c0)).setCell ⟨w1.heap.size, 1, none⟩ (.slice q6.A1 (staF L f).f1.length q6.c1)).setCell ⟨w1.heap.size, 2, none⟩ (.slice q6.A2 (staF L f).f2.length q6.c2)).setCell ⟨w1.heap.size, 3, none⟩ (.slice q6.A3 (staF L f).f3.length q6.c3)).setCell ⟨w1.heap.size, 4, none⟩ (.slice q6.A4 (staF L f).f4.length q6.c4)) := ⟨_, rfl⟩
  have k7 : Bk w7 w1.heap.size 59 #[.slice q6.A0 (staF L f).f0.length q6.c0, .slice q6.A1 (staF L f).f1.length q6.c1, .slice q6.A2 (staF L f).f2.length q6.c2, .slice q6.A3 (staF L f).f3.length q6.c3, .slice q6.A4 (staF L f).f4.length q6.c4, .slice A L.length c] := by
    rw [hw7]
    have a0 := KS6.out
    have a1 := a0.set 0 (.slice q6.A0 (staF L f).f0.length q6.c0)
    have a2 := a1.set 1 (.slice q6.A1 (staF L f).f1.length q6.c1)
    have a3 := a2.set 2 (.slice q6.A2 (staF L f).f2.length q6.c2)
    have a4 := a3.set 3 (.slice q6.A3 (staF L f).f3.length q6.c3)
    have a5 := a4.set 4 (.slice q6.A4 (staF L f).f4.length q6.c4)
    simpa using a5
  have n7 : ∀ q, q ≠ w1.heap.size → w7.heap[q]? = w6.heap[q]? := fun q hq => by rw [hw7]; exact (Below.heap_setCell _ _ _ q (by show q ≠ w1.heap.size; omega)).trans ((Below.heap_setCell _ _ _ q (by show q ≠ w1.heap.size; omega)).trans ((Below.heap_setCell _ _ _ q (by show q ≠ w1.heap.size; omega)).trans ((Below.heap_setCell _ _ _ q (by show q ≠ w1.heap.size; omega)).trans (Below.heap_setCell _ _ _ q (by show q ≠ w1.heap.size; omega)))))
  have b7 : Below w1.heap.size w6 w7 := by rw [hw7]; exact ((((((Below.refl _ _).setCell (by show w1.heap.size ≤ w1.heap.size; omega) _).setCell (by show w1.heap.size ≤ w1.heap.size; omega) _).setCell (by show w1.heap.size ≤ w1.heap.size; omega) _).setCell (by show w1.heap.size ≤ w1.heap.size; omega) _).setCell (by show w1.heap.size ≤ w1.heap.size; omega) _)
  have sz7 : w7.heap.size = w6.heap.size := by rw [hw7]; simp
  have sza := Nat.le_of_eq sz7
  have szb := Nat.le_of_eq sz7.symm
  have KS7 := Lib.hid k7
  have N7 := Lib.hid n7
  have KR7 := Lib.hid (show Bk w7 (w.heap.size + 1 + 1) _ _ from (n7 _ (by omega)).trans KR6.out)
  have B7 := Lib.hid (B6.out.trans (b7.mono (by omega)))
  have HW7 := Lib.hid hw7
  clear hw7 k7 n7 b7 sz7
  have ot0 : w7.cell? ⟨w1.heap.size, 0, none⟩ = some (.slice q6.A0 (staF L f).f0.length q6.c0) := KS7.out.cell 0
  have ot1 : w7.cell? ⟨w1.heap.size, 1, none⟩ = some (.slice q6.A1 (staF L f).f1.length q6.c1) := KS7.out.cell 1
  have ot2 : w7.cell? ⟨w1.heap.size, 2, none⟩ = some (.slice q6.A2 (staF L f).f2.length q6.c2) := KS7.out.cell 2
  have ot3 : w7.cell? ⟨w1.heap.size, 3, none⟩ = some (.slice q6.A3 (staF L f).f3.length q6.c3) := KS7.out.cell 3
  have ot4 : w7.cell? ⟨w1.heap.size, 4, none⟩ = some (.slice q6.A4 (staF L f).f4.length q6.c4) := KS7.out.cell 4
  have ot5 : w7.cell? ⟨w1.heap.size, 5, none⟩ = some (.slice A L.length c) := KS7.out.cell 5
  have fr0 : w7.frozen? ⟨w.heap.size + 1 + 1, 0, none⟩ = false := (KR7.out).free 0
  have cr0 : w7.cell? ⟨w.heap.size + 1 + 1, 0, none⟩ = some (.slice none 0 0) := (KR7.out).cell 0
  have fr1 : w7.frozen? ⟨w.heap.size + 1 + 1, 1, none⟩ = false := (KR7.out).free 1
  have cr1 : w7.cell? ⟨w.heap.size + 1 + 1, 1, none⟩ = some (.slice none 0 0) := (KR7.out).cell 1
  have fr2 : w7.frozen? ⟨w.heap.size + 1 + 1, 2, none⟩ = false := (KR7.out).free 2
  have cr2 : w7.cell? ⟨w.heap.size + 1 + 1, 2, none⟩ = some (.slice none 0 0) := (KR7.out).cell 2
  have fr3 : w7.frozen? ⟨w.heap.size + 1 + 1, 3, none⟩ = false := (KR7.out).free 3
  have cr3 : w7.cell? ⟨w.heap.size + 1 + 1, 3, none⟩ = some (.slice none 0 0) := (KR7.out).cell 3
  have fr4 : w7.frozen? ⟨w.heap.size + 1 + 1, 4, none⟩ = false := (KR7.out).free 4
  have cr4 : w7.cell? ⟨w.heap.size + 1 + 1, 4, none⟩ = some (.slice none 0 0) := (KR7.out).cell 4
  have fr5 : w7.frozen? ⟨w.heap.size + 1 + 1, 5, none⟩ = false := (KR7.out).free 5
  have cr5 : w7.cell? ⟨w.heap.size + 1 + 1, 5, none⟩ = some (.slice none 0 0) := (KR7.out).cell 5
  have lS7 := KS7.out.lt
  go_wp2_with (rw [← HW7.out])
  clear os0 os1 os2 os3 os4 os5 ot0 ot1 ot2 ot3 ot4 ot5 fs0 fs1 fs2 fs3 fs4 cr0 fr0 cr1 fr1 cr2 fr2 cr3 fr3 cr4 fr4 cr5 fr5
  have kF : Bk ((((((w7.setCell ⟨w.heap.size + 1 + 1, 0, none⟩ (.slice q6.A0 (staF L f).f0.length q6.c0)).setCell ⟨w.heap.size + 1 + 1, 1, none⟩ (.slice q6.A1 (staF L f).f1.length q6.c1)).setCell ⟨w.heap.size + 1 + 1, 2, none⟩ (.slice q6.A2 (staF L f).f2.length q6.c2)).setCell ⟨w.heap.size + 1 + 1, 3, none⟩ (.slice q6.A3 (staF L f).f3.length q6.c3)).setCell ⟨w.heap.size + 1 + 1, 4, none⟩ (.slice q6.A4 (staF L f).f4.length q6.c4)).setCell ⟨w.heap.size + 1 + 1, 5, none⟩ (.slice A L.length c)) (w.heap.size + 1 + 1) 59 #[.slice q6.A0 (staF L f).f0.length q6.c0, .slice q6.A1 (staF L f).f1.length q6.c1, .slice q6.A2 (staF L f).f2.length q6.c2, .slice q6.A3 (staF L f).f3.length q6.c3, .slice q6.A4 (staF L f).f4.length q6.c4, .slice A L.length c] := by
    have a0 := KR7.out
    have a1 := a0.set 0 (.slice q6.A0 (staF L f).f0.length q6.c0)
    have a2 := a1.set 1 (.slice q6.A1 (staF L f).f1.length q6.c1)
    have a3 := a2.set 2 (.slice q6.A2 (staF L f).f2.length q6.c2)
    have a4 := a3.set 3 (.slice q6.A3 (staF L f).f3.length q6.c3)
    have a5 := a4.set 4 (.slice q6.A4 (staF L f).f4.length q6.c4)
    have a6 := a5.set 5 (.slice A L.length c)
    simpa using a6
  have bF : ∀ B, B ≤ w.heap.size + 1 + 1 → Below B w7 ((((((w7.setCell ⟨w.heap.size + 1 + 1, 0, none⟩ (.slice q6.A0 (staF L f).f0.length q6.c0)).setCell ⟨w.heap.size + 1 + 1, 1, none⟩ (.slice q6.A1 (staF L f).f1.length q6.c1)).setCell ⟨w.heap.size + 1 + 1, 2, none⟩ (.slice q6.A2 (staF L f).f2.length q6.c2)).setCell ⟨w.heap.size + 1 + 1, 3, none⟩ (.slice q6.A3 (staF L f).f3.length q6.c3)).setCell ⟨w.heap.size + 1 + 1, 4, none⟩ (.slice q6.A4 (staF L f).f4.length q6.c4)).setCell ⟨w.heap.size + 1 + 1, 5, none⟩ (.slice A L.length c)) := fun B hB => (((((((Below.refl _ _).setCell (by show B ≤ w.heap.size + 1 + 1; omega) _).setCell (by show B ≤ w.heap.size + 1 + 1; omega) _).setCell (by show B ≤ w.heap.size + 1 + 1; omega) _).setCell (by show B ≤ w.heap.size + 1 + 1; omega) _).setCell (by show B ≤ w.heap.size + 1 + 1; omega) _).setCell (by show B ≤ w.heap.size + 1 + 1; omega) _)
  have nF : ∀ q, q ≠ w.heap.size + 1 + 1 → ((((((w7.setCell ⟨w.heap.size + 1 + 1, 0, none⟩ (.slice q6.A0 (staF L f).f0.length q6.c0)).setCell ⟨w.heap.size + 1 + 1, 1, none⟩ (.slice q6.A1 (staF L f).f1.length q6.c1)).setCell ⟨w.heap.size + 1 + 1, 2, none⟩ (.slice q6.A2 (staF L f).f2.length q6.c2)).setCell ⟨w.heap.size + 1 + 1, 3, none⟩ (.slice q6.A3 (staF L f).f3.length q6.c3)).setCell ⟨w.heap.size + 1 + 1, 4, none⟩ (.slice q6.A4 (staF L f).f4.length q6.c4)).setCell ⟨w.heap.size + 1 + 1, 5, none⟩ (.slice A L.length c)).heap[q]? = w7.heap[q]? := fun q hq => (Below.heap_setCell _ _ _ q (by show q ≠ w.heap.size + 1 + 1; omega)).trans ((Below.heap_setCell _ _ _ q (by show q ≠ w.heap.size + 1 + 1; omega)).trans ((Below.heap_setCell _ _ _ q (by show q ≠ w.heap.size + 1 + 1; omega)).trans ((Below.heap_setCell _ _ _ q (by show q ≠ w.heap.size + 1 + 1; omega)).trans ((Below.heap_setCell _ _ _ q (by show q ≠ w.heap.size + 1 + 1; omega)).trans (Below.heap_setCell _ _ _ q (by show q ≠ w.heap.size + 1 + 1; omega))))))
  have sF : ((((((w7.setCell ⟨w.heap.size + 1 + 1, 0, none⟩ (.slice q6.A0 (staF L f).f0.length q6.c0)).setCell ⟨w.heap.size + 1 + 1, 1, none⟩ (.slice q6.A1 (staF L f).f1.length q6.c1)).setCell ⟨w.heap.size + 1 + 1, 2, none⟩ (.slice q6.A2 (staF L f).f2.length q6.c2)).setCell ⟨w.heap.size + 1 + 1, 3, none⟩ (.slice q6.A3 (staF L f).f3.length q6.c3)).setCell ⟨w.heap.size + 1 + 1, 4, none⟩ (.slice q6.A4 (staF L f).f4.length q6.c4)).setCell ⟨w.heap.size + 1 + 1, 5, none⟩ (.slice A L.length c)).heap.size = w7.heap.size := by simp
  have KF := Lib.hid kF
  have BF := Lib.hid bF
  have NF := Lib.hid nF
  obtain ⟨F, hF⟩ : ∃ F, F = ((((((w7.setCell ⟨w.heap.size + 1 + 1, 0, none⟩ (.slice q6.A0 (staF L f).f0.length q6.c0)).setCell ⟨w.heap.size + 1 + 1, 1, none⟩ (.slice q6.A1 (staF L f).f1.length q6.c1)).setCell ⟨w.heap.size + 1 + 1, 2, none⟩ (.slice q6.A2 (staF L f).f2.length q6.c2)).setCell ⟨w.heap.size + 1 + 1, 3, none⟩ (.slice q6.A3 (staF L f).f3.length q6.c3)).setCell ⟨w.heap.size + 1 + 1, 4, none⟩ (.slice q6.A4 (staF L f).f4.length q6.c4)).setCell ⟨w.heap.size + 1 + 1, 5, none⟩ (.slice A L.length c)) := ⟨_, rfl⟩
  rw [← hF] at KF BF NF sF
  rw [← hF]
  clear kF bF nF hF
  have sFa := Nat.le_of_eq sF
  have sFb := Nat.le_of_eq sF.symm
  clear sF
  have cF0 := KF.out.cell 0
  have cF1 := KF.out.cell 1
  have cF2 := KF.out.cell 2
  have cF3 := KF.out.cell 3
  have cF4 := KF.out.cell 4
  have cF5 := KF.out.cell 5
  simp only [List.getElem?_toArray, List.getElem?_cons_zero, List.getElem?_cons_succ] at cF0 cF1 cF2 cF3 cF4 cF5
  refine bodyPost_ret (v := .agg #[.slice q6.A0 (staF L f).f0.length q6.c0, .slice q6.A1 (staF L f).f1.length q6.c1, .slice q6.A2 (staF L f).f2.length q6.c2, .slice q6.A3 (staF L f).f3.length q6.c3, .slice q6.A4 (staF L f).f4.length q6.c4, .slice A L.length c]) (by simp [results, Try.results91, cF0, cF1, cF2, cF3, cF4, cF5, go_sem]) rfl ?_
  refine ⟨⟨q6, ⟨A, c⟩⟩, ?_, B7.out.trans (BF.out _ (by omega)), ?_, ?_⟩
  · rw [← bufV_of q6 A c L f]
  · exact (O6.out.keep (by omega) (by omega) fun q h1 h2 => (NF.out q (by omega)).trans (N7.out q (by omega))).in_
  · have hl0 := C6.out.l0
    exact C6.out.iss0 (by omega) (by omega) fun q h1 h2 h3 => (NF.out q (by omega)).trans (N7.out q (row_ne KS6.out h3))
end Go.Proofs.Ytnadihepgmbhaaa
namespace Go.Proofs.Ytnadihepgmbhaaa
open Go.RowKit Pl Go.BigFrame
set_option maxHeartbeats 4000000
set_option maxRecDepth 100000
set_option linter.unusedVariables false

theorem sbdo_load (h : PgH) (k : BufH) (L : Pg) (f : Nat → Nat) (b : Nat → List Nat) (t : Nat) (w : World) (B : Nat) (hP : PgR w B h L) (hS : BufR w B k (bufOf L f b)) (hB : B ≤ w.heap.size) (hL : progB L = true) (hf : Good L f) (ht : t < L.length) (hb6 : okB9 b 6) (hc : canF L f t = true) (h4 : ∀ n, n < 2 → f (20 + n) ≤ 4) (n m : Nat) (xc : Int) (xd : Bool) (hx : smAt L t (f (3 + t)) = ⟨1, (n : Int), (m : Int), xc, xd⟩) (hn3 : n < 3) (hm3 : m < 3) (r : Nat) (hr : Hid (rdC (b t) m (f (15 + m)) = r)) (hr4 : r < 4) :
    Calls Try.prog 91 #[PgV h L, BufV k (bufOf L f b), .int .i64 t] w (AnsI w (bufOf L (upd (stepF L f t) (6 + (t * 3 + n)) r) b)) := by
  obtain ⟨h31, h32⟩ := prog_len hL
  obtain ⟨o, ho⟩ : ∃ o, o = bufOf L f b := ⟨_, rfl⟩
  have hOS : o.st = staF L f := by rw [ho]; rfl
  rw [← ho] at hS
  rw [← ho]
  obtain ⟨W, hW⟩ : ∃ W, W = ((w.alloc (.cells #[.slice h.A L.length h.c] 36)).alloc (.cells #[.slice k.h.A0 o.st.f0.length k.h.c0, .slice k.h.A1 o.st.f1.length k.h.c1, .slice k.h.A2 o.st.f2.length k.h.c2, .slice k.h.A3 o.st.f3.length k.h.c3, .slice k.h.A4 o.st.f4.length k.h.c4, .slice k.k.A o.bs.length k.k.c] 59)).alloc (.cells #[.slice none 0 0, .slice none 0 0, .slice none 0 0, .slice none 0 0, .slice none 0 0, .slice none 0 0] 59) := ⟨_, rfl⟩
  have bW : Below w.heap.size w W := by rw [hW]; go_grown
  have sW : W.heap.size = w.heap.size + 1 + 1 + 1 := by rw [hW]; simp
  have k0 : Bk W w.heap.size 36 #[.slice h.A L.length h.c] := by rw [hW]; exact ((Bk.new w _ _).alloc _).alloc _
  have k2 : Bk W (w.heap.size + 1 + 1) 59 #[.slice none 0 0, .slice none 0 0, .slice none 0 0, .slice none 0 0, .slice none 0 0, .slice none 0 0] := by
    rw [hW]; have := Bk.new ((w.alloc (.cells #[.slice h.A L.length h.c] 36)).alloc (.cells #[.slice k.h.A0 o.st.f0.length k.h.c0, .slice k.h.A1 o.st.f1.length k.h.c1, .slice k.h.A2 o.st.f2.length k.h.c2, .slice k.h.A3 o.st.f3.length k.h.c3, .slice k.h.A4 o.st.f4.length k.h.c4, .slice k.k.A o.bs.length k.k.c] 59)) #[.slice none 0 0, .slice none 0 0, .slice none 0 0, .slice none 0 0, .slice none 0 0, .slice none 0 0] 59
    rwa [World.size_alloc, World.size_alloc] at this
  have k1 : Bk W (w.heap.size + 1) 59 #[.slice k.h.A0 o.st.f0.length k.h.c0, .slice k.h.A1 o.st.f1.length k.h.c1, .slice k.h.A2 o.st.f2.length k.h.c2, .slice k.h.A3 o.st.f3.length k.h.c3, .slice k.h.A4 o.st.f4.length k.h.c4, .slice k.k.A o.bs.length k.k.c] := by
    rw [hW]; have := (Bk.new (w.alloc (.cells #[.slice h.A L.length h.c] 36)) #[.slice k.h.A0 o.st.f0.length k.h.c0, .slice k.h.A1 o.st.f1.length k.h.c1, .slice k.h.A2 o.st.f2.length k.h.c2, .slice k.h.A3 o.st.f3.length k.h.c3, .slice k.h.A4 o.st.f4.length k.h.c4, .slice k.k.A o.bs.length k.k.c] 59).alloc (.cells #[.slice none 0 0, .slice none 0 0, .slice none 0 0, .slice none 0 0, .slice none 0 0, .slice none 0 0] 59)
    rwa [World.size_alloc] at this
  have P0 := Lib.hid (hP.below bW hB)
  have S0 := Lib.hid (hS.below bW hB)
  have K0 := Lib.hid k0
  have K1 := Lib.hid k1
  have K2 := Lib.hid k2
  have B0 := Lib.hid bW
  have sWa := Nat.le_of_eq sW
  have sWb := Nat.le_of_eq sW.symm
  have HW := Lib.hid hW
  clear hW bW sW k0 k1 k2 hP hS
  have LB := Lib.hid (show StaL o.st 1000 by rw [hOS]; obtain ⟨a0, a1, a2, a3, a4⟩ := sta_len L f; exact ⟨by omega, by omega, by omega, by omega, by omega⟩)
  have LN := Lib.hid (show o.bs.length = L.length by rw [ho]; exact bufOf_len L f b)
  have LR := Lib.hid (show ∀ xs ∈ o.bs, xs.length ≤ 1000 from fun xs hx => by
    obtain ⟨i, hi⟩ := List.getElem?_of_mem hx
    rw [ho] at hi
    obtain ⟨h1, rfl⟩ := bufOf_inv hi
    rw [rowS_length]
    have := (hb6 i (by omega)).2
    omega)
  have HO := Lib.hid ho
  have HOS := Lib.hid hOS
  have H6 := Lib.hid hb6
  clear ho hOS hb6
  obtain ⟨hml, hxok⟩ := can_lt hL hf ht hc
  obtain ⟨xs, hxs⟩ : ∃ xs, L[t]? = some xs := ⟨_, List.getElem?_eq_getElem ht⟩
  have hd : L.getD t [] = xs := getD_some hxs
  have hat : f (3 + t) < xs.length := by rw [← hd]; exact hml
  have hxx : xs[f (3 + t)]? = some ⟨1, (n : Int), (m : Int), xc, xd⟩ := by
    have h1 : xs[f (3 + t)]? = some xs[f (3 + t)] := List.getElem?_eq_getElem hat
    have h2 : smAt L t (f (3 + t)) = xs[f (3 + t)] := by unfold smAt; rw [hd]; exact getD_some h1
    rw [h1, ← h2, hx]
  have hl6 := (prog_thr hL hxs).1
  rw [hx] at hxok
  have HX := Lib.hid hx
  have hnge : ¬ (L.length : Int) ≤ (t : Int) := by omega
  have HML := Lib.hid hml
  have HOK := Lib.hid hxok
  have HC := Lib.hid hc
  have H4 := Lib.hid h4
  clear hx hml hxok hc h4
  go_enter Try.func91, Try.ntmps91
  go_wp2_with fail
  rw [← HW.out]
  refine (s7copy_any k o W B S0.out (by omega) LB.out (by have := LN.out; omega) LR.out).mono ?_
  rintro e w1 ⟨qh, A, c, hs, G, C, lo, hi, bs, rfl, hb1, n1, n2, n3, oS, oO, oR⟩
  have B1 := Lib.hid (below_on B0.out hb1)
  have P1 := Lib.hid (P0.out.below hb1 (by omega))
  have K01 := Lib.hid (K0.out.below hb1 K0.out.lt)
  have K21 := Lib.hid (K2.out.below hb1 K2.out.lt)
  have z1 := hb1.size
  have C1 := Lib.hid (show CopS w w1 L f b qh A c hs G C lo hi bs from by
    rw [HO.out, bufOf_len] at oO oR
    rw [HOS.out] at oS
    obtain ⟨g, _, hg1, hg2, _⟩ := sta_put2 h32 oS (i := 0) (by omega) 0 _ rfl
    exact ⟨oS, oO, oR, by omega, n2, n3, by omega, by omega⟩)
  clear hb1 oS oO oR
  have cp : w1.cell? ⟨w.heap.size, 0, none⟩ = some (.slice h.A L.length h.c) := K01.out.cell 0
  have lp := K01.out.lt
  go_wp2_with fail
  obtain ⟨V, hV⟩ : ∃ V, V = w1.alloc (.cells #[.slice qh.A0 o.st.f0.length qh.c0, .slice qh.A1 o.st.f1.length qh.c1, .slice qh.A2 o.st.f2.length qh.c2, .slice qh.A3 o.st.f3.length qh.c3, .slice qh.A4 o.st.f4.length qh.c4, .slice (A) o.bs.length c] 59) := ⟨_, rfl⟩
  rw [← hV]
  have bV : Below w1.heap.size w1 V := by rw [hV]; exact (Below.refl _ _).alloc (Nat.le_refl _) _
  have KS := Lib.hid (show Bk V w1.heap.size 59 #[.slice qh.A0 (staF L f).f0.length qh.c0, .slice qh.A1 (staF L f).f1.length qh.c1, .slice qh.A2 (staF L f).f2.length qh.c2, .slice qh.A3 (staF L f).f3.length qh.c3, .slice qh.A4 (staF L f).f4.length qh.c4, .slice (A) L.length c] from by rw [hV, HOS.out, LN.out]; exact Bk.new _ _ _)
  have zV : V.heap.size = w1.heap.size + 1 := by rw [hV]; simp
  have zVa := Nat.le_of_eq zV
  have zVb := Nat.le_of_eq zV.symm
  have KP := Lib.hid (K01.out.below bV K01.out.lt)
  have KR := Lib.hid (K21.out.below bV K21.out.lt)
  have BV := Lib.hid (B1.out.trans (bV.mono (by omega)))
  have PV := Lib.hid (P1.out.below bV (by omega))
  have ga : w1.grownBy V none := by rw [hV]; exact World.grownBy_alloc _ _ _
  have CV := Lib.hid (show CopS w V L f b qh (A) c hs G C lo hi bs from ⟨C1.out.sta.below bV (by have := C1.out.l2; omega), C1.out.own.kept ga (by cases hv : (Value.slice (A) L.length c).ownBlock <;> simp), C1.out.rows.kept (by rw [bufOf_len]; exact Nat.le_refl _) ga (fun i hi => by simp), C1.out.l1, C1.out.l2, by omega, C1.out.l0, C1.out.l4⟩)
  clear hV bV zV ga C1 K01 K21 B1 P1 K0 K1 K2 S0 P0 B0 LB LR cp lp
  obtain ⟨b1, off1, xs', Ai, ci, hA, hb1, hx', hc1, -, hmi, hrow⟩ := pg_at PV.out ht
  obtain rfl : xs = xs' := by rw [hxs] at hx'; injection hx'
  have n0 : (staF L f).f0.length = L.length := (sta_len L f).1
  have lt0 : t < (staF L f).f0.length := by rw [n0]; exact ht
  have cl2 := CV.out.l2
  have cl3 := CV.out.l3
  have cl1 := CV.out.l1
  obtain ⟨b2, off2, i, hA2, hb2, hi2, -, hc2⟩ := CV.out.sta.rd.r0.int_ (k := t) lt0
  obtain rfl : i = ((f (3 + t) : Nat) : Int) := by
    have : (staF L f).f0[t]? = some ((f (3 + t) : Int) + 0) := fldI_at (l := 0) ht
    rw [hi2] at this; injection this with this
  obtain ⟨b3, off3, x', hA3, hb3, hx3, -, c0, c1, c2, c3, c4⟩ := hrow.at_ hat
  obtain rfl : (⟨1, (n : Int), (m : Int), xc, xd⟩ : Sm) = x' := by rw [hxx] at hx3; injection hx3
  simp only at c0 c1 c2 c3 c4
  subst hA3
  obtain ⟨i, hi0⟩ : ∃ i, f (3 + t) = i := ⟨_, rfl⟩
  rw [hi0] at hc2 c0 c1 c2 c3 c4 hat
  have e0 := KP.out.cell 0
  have e1 := KS.out.cell 0
  simp only [List.getElem?_toArray, List.getElem?_cons_zero] at e0 e1
  rw [hA] at e0
  rw [hA2] at e1
  have hti : (t : Int) < (L.length : Int) := by omega
  have hti2 : (t : Int) < ((staF L f).f0.length : Int) := by omega
  have him : (i : Int) < (xs.length : Int) := by omega
  clear n0
  have l0 := KP.out.lt
  have l1 := KS.out.lt
  unfold maxLen at hmi
  have hb1v : b1 < V.heap.size := by omega
  have hb2v : b2 < V.heap.size := by omega
  have hb3v : b3 < V.heap.size := by omega
  have g_e0 : V.cell? ⟨w.heap.size, 0, none⟩ = some (.slice (some ⟨b1, off1, none⟩) L.length h.c) := e0
  have g_e1 : V.cell? ⟨w1.heap.size, 0, none⟩ = some (.slice (some ⟨b2, off2, none⟩) (staF L f).f0.length qh.c0) := e1
  have g_hc1 : V.cell? ⟨b1, off1 + t, none⟩ = some (.slice (some ⟨b3, off3, none⟩) xs.length ci) := hc1
  have g_hc2 : V.cell? ⟨b2, off2 + t, none⟩ = some (.int .i64 (i : Int)) := hc2
  have g_c0 : V.cell? ⟨b3, off3 + i * 5, none⟩ = some (.int .i64 (1)) := c0
  have g_c1 : V.cell? ⟨b3, off3 + i * 5 + 1, none⟩ = some (.int .i64 ((n : Int))) := c1
  have g_c2 : V.cell? ⟨b3, off3 + i * 5 + 2, none⟩ = some (.int .i64 ((m : Int))) := c2
  have g_c3 : V.cell? ⟨b3, off3 + i * 5 + 3, none⟩ = some (.int .i64 (xc)) := c3
  have g_c4 : V.cell? ⟨b3, off3 + i * 5 + 4, none⟩ = some (.bool (xd)) := c4
  have allS : ∀ w', Below V.heap.size V w' → (Below V.heap.size V w' ∧ w'.cell? ⟨w.heap.size, 0, none⟩ = some (.slice (some ⟨b1, off1, none⟩) L.length h.c) ∧ w'.cell? ⟨w1.heap.size, 0, none⟩ = some (.slice (some ⟨b2, off2, none⟩) (staF L f).f0.length qh.c0) ∧ w'.cell? ⟨b1, off1 + t, none⟩ = some (.slice (some ⟨b3, off3, none⟩) xs.length ci) ∧ w'.cell? ⟨b2, off2 + t, none⟩ = some (.int .i64 (i : Int)) ∧ w'.cell? ⟨b3, off3 + i * 5, none⟩ = some (.int .i64 (1)) ∧ w'.cell? ⟨b3, off3 + i * 5 + 1, none⟩ = some (.int .i64 ((n : Int))) ∧ w'.cell? ⟨b3, off3 + i * 5 + 2, none⟩ = some (.int .i64 ((m : Int))) ∧ w'.cell? ⟨b3, off3 + i * 5 + 3, none⟩ = some (.int .i64 (xc)) ∧ w'.cell? ⟨b3, off3 + i * 5 + 4, none⟩ = some (.bool (xd))) := fun w' hb => ⟨hb, (hb.cell (p := ⟨w.heap.size, 0, none⟩) (by show w.heap.size < V.heap.size; exact l0)).trans g_e0, (hb.cell (p := ⟨w1.heap.size, 0, none⟩) (by show w1.heap.size < V.heap.size; exact l1)).trans g_e1, (hb.cell (p := ⟨b1, off1 + t, none⟩) (by show b1 < V.heap.size; exact hb1v)).trans g_hc1, (hb.cell (p := ⟨b2, off2 + t, none⟩) (by show b2 < V.heap.size; exact hb2v)).trans g_hc2, (hb.cell (p := ⟨b3, off3 + i * 5, none⟩) (by show b3 < V.heap.size; exact hb3v)).trans g_c0, (hb.cell (p := ⟨b3, off3 + i * 5 + 1, none⟩) (by show b3 < V.heap.size; exact hb3v)).trans g_c1, (hb.cell (p := ⟨b3, off3 + i * 5 + 2, none⟩) (by show b3 < V.heap.size; exact hb3v)).trans g_c2, (hb.cell (p := ⟨b3, off3 + i * 5 + 3, none⟩) (by show b3 < V.heap.size; exact hb3v)).trans g_c3, (hb.cell (p := ⟨b3, off3 + i * 5 + 4, none⟩) (by show b3 < V.heap.size; exact hb3v)).trans g_c4⟩
  have AllS := Lib.hid allS
  have HA := Lib.hid hA
  have HA2 := Lib.hid hA2
  clear allS hA hA2 hx' hrow hi2 hx3 e0 e1 hc1 hc2 c0 c1 c2 c3 c4 g_e0 g_e1 g_hc1 g_hc2 g_c0 g_c1 g_c2 g_c3 g_c4
  go_region_held3 (fun w' => Below V.heap.size V w' ∧ w'.cell? ⟨w.heap.size, 0, none⟩ = some (.slice (some ⟨b1, off1, none⟩) L.length h.c) ∧ w'.cell? ⟨w1.heap.size, 0, none⟩ = some (.slice (some ⟨b2, off2, none⟩) (staF L f).f0.length qh.c0) ∧ w'.cell? ⟨b1, off1 + t, none⟩ = some (.slice (some ⟨b3, off3, none⟩) xs.length ci) ∧ w'.cell? ⟨b2, off2 + t, none⟩ = some (.int .i64 (i : Int)) ∧ w'.cell? ⟨b3, off3 + i * 5, none⟩ = some (.int .i64 (1)) ∧ w'.cell? ⟨b3, off3 + i * 5 + 1, none⟩ = some (.int .i64 ((n : Int))) ∧ w'.cell? ⟨b3, off3 + i * 5 + 2, none⟩ = some (.int .i64 ((m : Int))) ∧ w'.cell? ⟨b3, off3 + i * 5 + 3, none⟩ = some (.int .i64 (xc)) ∧ w'.cell? ⟨b3, off3 + i * 5 + 4, none⟩ = some (.bool (xd))) (first | (go_split_ands; exact AllS.out _ (by go_grown)) | (exact AllS.out _ (by go_grown))) (fail)
  obtain ⟨U, hU⟩ : ∃ U, U = (V.alloc (.cells #[.int .i64 (1), .int .i64 ((n : Int)), .int .i64 ((m : Int)), .int .i64 (xc), .bool (xd)] 119)).drew := ⟨_, rfl⟩
  rw [← hU]
  have bU : Below V.heap.size V U := by rw [hU]; exact ((Below.refl _ _).alloc (Nat.le_refl _) _).drew
  have zU : U.heap.size = V.heap.size + 1 := by rw [hU]; show (World.alloc _ _).heap.size = _; simp
  have zUa := Nat.le_of_eq zU
  have zUb := Nat.le_of_eq zU.symm
  have KX := Lib.hid (show Bk U V.heap.size 119 #[.int .i64 (1), .int .i64 ((n : Int)), .int .i64 ((m : Int)), .int .i64 (xc), .bool (xd)] from by rw [hU]; exact Bk.new V _ _)
  have KPU := Lib.hid (KP.out.below bU KP.out.lt)
  have KSU := Lib.hid (KS.out.below bU KS.out.lt)
  have KRU := Lib.hid (KR.out.below bU KR.out.lt)
  have BU := Lib.hid (BV.out.trans (bU.mono (by omega)))
  have PU := Lib.hid (PV.out.below bU (by omega))
  have CU := Lib.hid (CV.out.below bU)
  clear AllS hU bU zU KP KS KR BV PV CV
  try clear hHeld
  have lX := KX.out.lt
  have lS := KSU.out.lt
  have lP := KPU.out.lt
  have lR := KRU.out.lt
  have ox0 : U.cell? ⟨V.heap.size, 0, none⟩ = some (.int .i64 1) := KX.out.cell 0
  have ht3 : t < 3 := by omega
  have RD : Hid (∀ v : Ws (Fr U []), Calls Try.prog 87 #[.agg #[.slice qh.A0 (staF L f).f0.length qh.c0, .slice qh.A1 (staF L f).f1.length qh.c1, .slice qh.A2 (staF L f).f2.length qh.c2, .slice qh.A3 (staF L f).f3.length qh.c3, .slice qh.A4 (staF L f).f4.length qh.c4, .slice A L.length c], .int .i64 t, .int .i64 (m : Int)] v.val fun e w' => e = .returned (.int .i64 (r : Int)) ∧ Below v.val.heap.size v.val w') := Lib.hid (fun v => by
    rw [bufV_of qh A c L f f b]
    refine s7reads_any ⟨qh, ⟨A, c⟩⟩ (bufOf L f b) t m v.val U.heap.size (((CU.out.rd (by omega)).below v.ok.below (Nat.le_refl _))) (v.ok.below.size) (b t) (bufOf_at L f b ht) (H6.out t (by omega)).1 (by have := (H6.out t (by omega)).2; omega) (f (15 + m)) ?_ r hr
    show (staF L f).f2[m]? = _
    have : (staF L f).f2[m]? = some ((f (15 + m) : Int) + fL 2) := fldI_at (l := fL 2) hm3
    rw [this]; simp [fL])
  have cu1 := CU.out.l1
  have cu2 := CU.out.l2
  have cu3 := CU.out.l3
  have cu4 := CU.out.l4
  have g_0 : ∀ y : Ws (Fr U []), y.val.cell? ⟨w1.heap.size, 0, none⟩ = some (.slice qh.A0 (staF L f).f0.length qh.c0) := Ws.same (bs := []) lS (KSU.out.cell 0)
  have g_1 : ∀ y : Ws (Fr U []), y.val.cell? ⟨w1.heap.size, 1, none⟩ = some (.slice qh.A1 (staF L f).f1.length qh.c1) := Ws.same (bs := []) lS (KSU.out.cell 1)
  have g_2 : ∀ y : Ws (Fr U []), y.val.cell? ⟨w1.heap.size, 2, none⟩ = some (.slice qh.A2 (staF L f).f2.length qh.c2) := Ws.same (bs := []) lS (KSU.out.cell 2)
  have g_3 : ∀ y : Ws (Fr U []), y.val.cell? ⟨w1.heap.size, 3, none⟩ = some (.slice qh.A3 (staF L f).f3.length qh.c3) := Ws.same (bs := []) lS (KSU.out.cell 3)
  have g_4 : ∀ y : Ws (Fr U []), y.val.cell? ⟨w1.heap.size, 4, none⟩ = some (.slice qh.A4 (staF L f).f4.length qh.c4) := Ws.same (bs := []) lS (KSU.out.cell 4)
  have g_5 : ∀ y : Ws (Fr U []), y.val.cell? ⟨w1.heap.size, 5, none⟩ = some (.slice A L.length c) := Ws.same (bs := []) lS (KSU.out.cell 5)
  have g_6 : ∀ y : Ws (Fr U []), y.val.cell? ⟨V.heap.size, 1, none⟩ = some (.int .i64 ((n : Int))) := Ws.same (bs := []) lX (KX.out.cell 1)
  have g_7 : ∀ y : Ws (Fr U []), y.val.cell? ⟨V.heap.size, 2, none⟩ = some (.int .i64 ((m : Int))) := Ws.same (bs := []) lX (KX.out.cell 2)
  have HFr := Lib.hid (fr_none U)
  haveI hne := Nonempty.intro (Ws.mk _ (fr_none U))
  have FR := Lib.hid hr4
  clear hr hr4
  go_wp2_with fail
  clear ox0
  refine region_tail (C := In (Fr U [])) 10 (by kernel_rfl) (In.mk HFr.out.drew) ?_
  simp only [List.take_succ_cons, List.take_zero, List.drop_succ_cons, List.drop_zero]
  repeat (go_big_quiet_step (first | (go_at_call 87; exact call_in (RD.out _))))
  refine wpQuiet_nil ?_
  rintro _ ⟨y5, rfl⟩
  have b5 := y5.ok.below
  obtain ⟨w5, hw5⟩ : ∃ w5, w5 = y5.val := ⟨_, rfl⟩
  rw [← hw5] at b5 ⊢
  clear g_0 g_1 g_2 g_3 g_4 g_5 g_6 g_7 hne hw5
  have C5 := Lib.hid (CU.out.below b5)
  have KS5 := Lib.hid (KSU.out.below b5 lS)
  have KX5 := Lib.hid (KX.out.below b5 lX)
  have KR5 := Lib.hid (KRU.out.below b5 lR)
  have KP5 := Lib.hid (KPU.out.below b5 lP)
  have P5 := Lib.hid (PU.out.below b5 (by omega))
  have B5 := Lib.hid (BU.out.trans (b5.mono (by omega)))
  have z5 := b5.size
  clear b5
  go_wp2_with fail
  refine (sset_any qh L f t n r w5 lo hi C5.out.sta (by omega) h32 ht hn3 FR.out).mono ?_
  rintro e w6 ⟨rfl, on6, o6⟩
  have z6 := on6.size
  have KS6 := Lib.hid (only_bk KS5.out on6 (Or.inr (by omega)))
  have KX6 := Lib.hid (only_bk KX5.out on6 (Or.inr (by omega)))
  have KR6 := Lib.hid (only_bk KR5.out on6 (Or.inl (by omega)))
  have KP6 := Lib.hid (only_bk KP5.out on6 (Or.inl (by omega)))
  have b56 := on6.to_below (B := w.heap.size) (by omega) (by omega)
  have P6 := Lib.hid (P5.out.below b56 (by omega))
  have B6 := Lib.hid (B5.out.trans b56)
  have O6 := Lib.hid o6
  have ON6 := Lib.hid on6
  clear on6 o6 b56
  have op0 : w6.cell? ⟨w.heap.size, 0, none⟩ = some (.slice h.A L.length h.c) := KP6.out.cell 0
  have os0 : w6.cell? ⟨w1.heap.size, 0, none⟩ = some (.slice qh.A0 (staF L f).f0.length qh.c0) := KS6.out.cell 0
  have os1 : w6.cell? ⟨w1.heap.size, 1, none⟩ = some (.slice qh.A1 (staF L f).f1.length qh.c1) := KS6.out.cell 1
  have os2 : w6.cell? ⟨w1.heap.size, 2, none⟩ = some (.slice qh.A2 (staF L f).f2.length qh.c2) := KS6.out.cell 2
  have os3 : w6.cell? ⟨w1.heap.size, 3, none⟩ = some (.slice qh.A3 (staF L f).f3.length qh.c3) := KS6.out.cell 3
  have os4 : w6.cell? ⟨w1.heap.size, 4, none⟩ = some (.slice qh.A4 (staF L f).f4.length qh.c4) := KS6.out.cell 4
  have ox0 : w6.cell? ⟨V.heap.size, 0, none⟩ = some (.int .i64 (1)) := KX6.out.cell 0
  have ox1 : w6.cell? ⟨V.heap.size, 1, none⟩ = some (.int .i64 ((n : Int))) := KX6.out.cell 1
  have ox2 : w6.cell? ⟨V.heap.size, 2, none⟩ = some (.int .i64 ((m : Int))) := KX6.out.cell 2
  have ox3 : w6.cell? ⟨V.heap.size, 3, none⟩ = some (.int .i64 (xc)) := KX6.out.cell 3
  have ox4 : w6.cell? ⟨V.heap.size, 4, none⟩ = some (.bool (xd)) := KX6.out.cell 4
  have lp6 := KP6.out.lt
  have ls6 := KS6.out.lt
  have lx6 := KX6.out.lt
  have f3 : upd f (6 + (t * 3 + n)) r (3 + t) = f (3 + t) := aff_lo (by omega) (by omega)
  have F3 := Lib.hid f3
  clear f3
  go_wp2_with fail
  clear op0 os0 os1 os2 os3 os4 ox0 ox1 ox2 ox3 ox4
  refine (sown_at f h qh L (upd f (6 + (t * 3 + n)) r) t ⟨1, (n : Int), (m : Int), xc, xd⟩ w6 B lo hi P6.out (by omega) (by omega) O6.out (by omega) h32 ht (okF_upd fld1 hf.ok (i := t * 3 + n) (show t * 3 + n < 9 by omega) (show r < 4 from FR.out)) (by rw [F3.out]; exact HML.out) (by rw [hd]; exact hl6) HOK.out (fun h => absurd (show (1 : Int) = 9 from h) (by decide))).mono ?_
  rintro e w7 ⟨rfl, on7, o7⟩
  have z7 := on7.size
  have KS7 := Lib.hid (only_bk KS6.out on7 (Or.inr (by omega)))
  have KR7 := Lib.hid (only_bk KR6.out on7 (Or.inl (by omega)))
  have B7 := Lib.hid (B6.out.trans (on7.to_below (B := w.heap.size) (by omega) (by omega)))
  have O7 := Lib.hid o7
  have ON7 := Lib.hid on7
  clear on7 o7
  have ot0 : w7.cell? ⟨w1.heap.size, 0, none⟩ = some (.slice qh.A0 (staF L f).f0.length qh.c0) := KS7.out.cell 0
  have ot1 : w7.cell? ⟨w1.heap.size, 1, none⟩ = some (.slice qh.A1 (staF L f).f1.length qh.c1) := KS7.out.cell 1
  have ot2 : w7.cell? ⟨w1.heap.size, 2, none⟩ = some (.slice qh.A2 (staF L f).f2.length qh.c2) := KS7.out.cell 2
  have ot3 : w7.cell? ⟨w1.heap.size, 3, none⟩ = some (.slice qh.A3 (staF L f).f3.length qh.c3) := KS7.out.cell 3
  have ot4 : w7.cell? ⟨w1.heap.size, 4, none⟩ = some (.slice qh.A4 (staF L f).f4.length qh.c4) := KS7.out.cell 4
  have ot5 : w7.cell? ⟨w1.heap.size, 5, none⟩ = some (.slice A L.length c) := KS7.out.cell 5
  have fr0 : w7.frozen? ⟨w.heap.size + 1 + 1, 0, none⟩ = false := (KR7.out).free 0
  have cr0 : w7.cell? ⟨w.heap.size + 1 + 1, 0, none⟩ = some (.slice none 0 0) := (KR7.out).cell 0
  have fr1 : w7.frozen? ⟨w.heap.size + 1 + 1, 1, none⟩ = false := (KR7.out).free 1
  have cr1 : w7.cell? ⟨w.heap.size + 1 + 1, 1, none⟩ = some (.slice none 0 0) := (KR7.out).cell 1
  have fr2 : w7.frozen? ⟨w.heap.size + 1 + 1, 2, none⟩ = false := (KR7.out).free 2
  have cr2 : w7.cell? ⟨w.heap.size + 1 + 1, 2, none⟩ = some (.slice none 0 0) := (KR7.out).cell 2
  have fr3 : w7.frozen? ⟨w.heap.size + 1 + 1, 3, none⟩ = false := (KR7.out).free 3
  have cr3 : w7.cell? ⟨w.heap.size + 1 + 1, 3, none⟩ = some (.slice none 0 0) := (KR7.out).cell 3
  have fr4 : w7.frozen? ⟨w.heap.size + 1 + 1, 4, none⟩ = false := (KR7.out).free 4
  have cr4 : w7.cell? ⟨w.heap.size + 1 + 1, 4, none⟩ = some (.slice none 0 0) := (KR7.out).cell 4
  have fr5 : w7.frozen? ⟨w.heap.size + 1 + 1, 5, none⟩ = false := (KR7.out).free 5
  have cr5 : w7.cell? ⟨w.heap.size + 1 + 1, 5, none⟩ = some (.slice none 0 0) := (KR7.out).cell 5
  go_wp2_with fail
  clear ot0 ot1 ot2 ot3 ot4 ot5 cr0 fr0 cr1 fr1 cr2 fr2 cr3 fr3 cr4 fr4 cr5 fr5
  have kF : Bk ((((((w7.setCell ⟨w.heap.size + 1 + 1, 0, none⟩ (.slice qh.A0 (staF L f).f0.length qh.c0)).setCell ⟨w.heap.size + 1 + 1, 1, none⟩ (.slice qh.A1 (staF L f).f1.length qh.c1)).setCell ⟨w.heap.size + 1 + 1, 2, none⟩ (.slice qh.A2 (staF L f).f2.length qh.c2)).setCell ⟨w.heap.size + 1 + 1, 3, none⟩ (.slice qh.A3 (staF L f).f3.length qh.c3)).setCell ⟨w.heap.size + 1 + 1, 4, none⟩ (.slice qh.A4 (staF L f).f4.length qh.c4)).setCell ⟨w.heap.size + 1 + 1, 5, none⟩ (.slice A L.length c)) (w.heap.size + 1 + 1) 59 #[.slice qh.A0 (staF L f).f0.length qh.c0, .slice qh.A1 (staF L f).f1.length qh.c1, .slice qh.A2 (staF L f).f2.length qh.c2, .slice qh.A3 (staF L f).f3.length qh.c3, .slice qh.A4 (staF L f).f4.length qh.c4, .slice A L.length c] := by
    have a0 := KR7.out
    have a1 := a0.set 0 (.slice qh.A0 (staF L f).f0.length qh.c0)
    have a2 := a1.set 1 (.slice qh.A1 (staF L f).f1.length qh.c1)
    have a3 := a2.set 2 (.slice qh.A2 (staF L f).f2.length qh.c2)
    have a4 := a3.set 3 (.slice qh.A3 (staF L f).f3.length qh.c3)
    have a5 := a4.set 4 (.slice qh.A4 (staF L f).f4.length qh.c4)
    have a6 := a5.set 5 (.slice A L.length c)
    simpa using a6
  have bF : ∀ B, B ≤ w.heap.size + 1 + 1 → Below B w7 ((((((w7.setCell ⟨w.heap.size + 1 + 1, 0, none⟩ (.slice qh.A0 (staF L f).f0.length qh.c0)).setCell ⟨w.heap.size + 1 + 1, 1, none⟩ (.slice qh.A1 (staF L f).f1.length qh.c1)).setCell ⟨w.heap.size + 1 + 1, 2, none⟩ (.slice qh.A2 (staF L f).f2.length qh.c2)).setCell ⟨w.heap.size + 1 + 1, 3, none⟩ (.slice qh.A3 (staF L f).f3.length qh.c3)).setCell ⟨w.heap.size + 1 + 1, 4, none⟩ (.slice qh.A4 (staF L f).f4.length qh.c4)).setCell ⟨w.heap.size + 1 + 1, 5, none⟩ (.slice A L.length c)) := fun B hB => (((((((Below.refl _ _).setCell (by show B ≤ w.heap.size + 1 + 1; omega) _).setCell (by show B ≤ w.heap.size + 1 + 1; omega) _).setCell (by show B ≤ w.heap.size + 1 + 1; omega) _).setCell (by show B ≤ w.heap.size + 1 + 1; omega) _).setCell (by show B ≤ w.heap.size + 1 + 1; omega) _).setCell (by show B ≤ w.heap.size + 1 + 1; omega) _)
  have nF : ∀ q, q ≠ w.heap.size + 1 + 1 → ((((((w7.setCell ⟨w.heap.size + 1 + 1, 0, none⟩ (.slice qh.A0 (staF L f).f0.length qh.c0)).setCell ⟨w.heap.size + 1 + 1, 1, none⟩ (.slice qh.A1 (staF L f).f1.length qh.c1)).setCell ⟨w.heap.size + 1 + 1, 2, none⟩ (.slice qh.A2 (staF L f).f2.length qh.c2)).setCell ⟨w.heap.size + 1 + 1, 3, none⟩ (.slice qh.A3 (staF L f).f3.length qh.c3)).setCell ⟨w.heap.size + 1 + 1, 4, none⟩ (.slice qh.A4 (staF L f).f4.length qh.c4)).setCell ⟨w.heap.size + 1 + 1, 5, none⟩ (.slice A L.length c)).heap[q]? = w7.heap[q]? := fun q hq => (Below.heap_setCell _ _ _ q (by show q ≠ w.heap.size + 1 + 1; omega)).trans ((Below.heap_setCell _ _ _ q (by show q ≠ w.heap.size + 1 + 1; omega)).trans ((Below.heap_setCell _ _ _ q (by show q ≠ w.heap.size + 1 + 1; omega)).trans ((Below.heap_setCell _ _ _ q (by show q ≠ w.heap.size + 1 + 1; omega)).trans ((Below.heap_setCell _ _ _ q (by show q ≠ w.heap.size + 1 + 1; omega)).trans (Below.heap_setCell _ _ _ q (by show q ≠ w.heap.size + 1 + 1; omega))))))
  have sF : ((((((w7.setCell ⟨w.heap.size + 1 + 1, 0, none⟩ (.slice qh.A0 (staF L f).f0.length qh.c0)).setCell ⟨w.heap.size + 1 + 1, 1, none⟩ (.slice qh.A1 (staF L f).f1.length qh.c1)).setCell ⟨w.heap.size + 1 + 1, 2, none⟩ (.slice qh.A2 (staF L f).f2.length qh.c2)).setCell ⟨w.heap.size + 1 + 1, 3, none⟩ (.slice qh.A3 (staF L f).f3.length qh.c3)).setCell ⟨w.heap.size + 1 + 1, 4, none⟩ (.slice qh.A4 (staF L f).f4.length qh.c4)).setCell ⟨w.heap.size + 1 + 1, 5, none⟩ (.slice A L.length c)).heap.size = w7.heap.size := by simp
  have KF := Lib.hid kF
  have BF := Lib.hid bF
  have NF := Lib.hid nF
  obtain ⟨F, hF⟩ : ∃ F, F = ((((((w7.setCell ⟨w.heap.size + 1 + 1, 0, none⟩ (.slice qh.A0 (staF L f).f0.length qh.c0)).setCell ⟨w.heap.size + 1 + 1, 1, none⟩ (.slice qh.A1 (staF L f).f1.length qh.c1)).setCell ⟨w.heap.size + 1 + 1, 2, none⟩ (.slice qh.A2 (staF L f).f2.length qh.c2)).setCell ⟨w.heap.size + 1 + 1, 3, none⟩ (.slice qh.A3 (staF L f).f3.length qh.c3)).setCell ⟨w.heap.size + 1 + 1, 4, none⟩ (.slice qh.A4 (staF L f).f4.length qh.c4)).setCell ⟨w.heap.size + 1 + 1, 5, none⟩ (.slice A L.length c)) := ⟨_, rfl⟩
  rw [← hF] at KF BF NF sF
  rw [← hF]
  clear kF bF nF hF
  have sFa := Nat.le_of_eq sF
  have sFb := Nat.le_of_eq sF.symm
  clear sF
  have cF0 := KF.out.cell 0
  have cF1 := KF.out.cell 1
  have cF2 := KF.out.cell 2
  have cF3 := KF.out.cell 3
  have cF4 := KF.out.cell 4
  have cF5 := KF.out.cell 5
  simp only [List.getElem?_toArray, List.getElem?_cons_zero, List.getElem?_cons_succ] at cF0 cF1 cF2 cF3 cF4 cF5
  refine bodyPost_ret (v := .agg #[.slice qh.A0 (staF L f).f0.length qh.c0, .slice qh.A1 (staF L f).f1.length qh.c1, .slice qh.A2 (staF L f).f2.length qh.c2, .slice qh.A3 (staF L f).f3.length qh.c3, .slice qh.A4 (staF L f).f4.length qh.c4, .slice A L.length c]) (by simp [results, Try.results91, cF0, cF1, cF2, cF3, cF4, cF5, go_sem]) rfl ?_
  refine ⟨⟨qh, ⟨A, c⟩⟩, ?_, B7.out.trans (BF.out _ (by omega)), ?_, ?_⟩
  · rw [← bufV_of qh A c L f]
  · have e : staF L (upd (ownF (upd f (6 + (t * 3 + n)) r) t ⟨1, (n : Int), (m : Int), xc, xd⟩) (3 + t) (nextF L (upd f (6 + (t * 3 + n)) r) t ⟨1, (n : Int), (m : Int), xc, xd⟩)) = staF L (upd (stepF L f t) (6 + (t * 3 + n)) r) := staF_congr (fun p hp => by
      rw [ownF_id (Or.inl rfl), nextF_ne (by show (1 : Int) ≠ 10; decide), F3.out]
      unfold upd
      unfold stepF
      rw [keptF_hi h32 hp, HX.out, nextF_ne (by show (1 : Int) ≠ 10; decide)]
      simp only [affF, upd, Int.toNat_natCast]
      by_cases e1 : p = 3 + t
      · have e2 : ¬ 3 + t = 6 + (t * 3 + n) := by omega
        have e3 : ¬ p = 6 + (t * 3 + n) := by omega
        simp [e1, e2, upd]
      · by_cases e2 : p = 6 + (t * 3 + n)
        · have e3 : ¬ 6 + (t * 3 + n) = 3 + t := by omega
          simp [e2, e3]
        · simp [e1, e2, upd])
    show StaI F _ _ qh (staF L _)
    rw [← e]
    exact (O7.out.keep (by omega) (by omega) fun q h1 h2 => NF.out q (by omega)).in_
  · have hl0 := C5.out.l0
    have hl2 := C5.out.l2
    exact C5.out.iss0 (by omega) (by omega) fun q h1 h2 h3 => (NF.out q (by omega)).trans ((ON7.out.block q (by omega) (Or.inr (by omega))).trans (ON6.out.block q h2 (Or.inr (by omega))))
end Go.Proofs.Ytnadihepgmbhaaa
namespace Go.Proofs.Ytnadihepgmbhaaa
open Go.RowKit Pl Go.BigFrame
set_option maxHeartbeats 4000000
set_option maxRecDepth 100000
set_option linter.unusedVariables false

theorem sbdo_put (h : PgH) (k : BufH) (L : Pg) (f : Nat → Nat) (b : Nat → List Nat) (t : Nat) (w : World) (B : Nat) (hP : PgR w B h L) (hS : BufR w B k (bufOf L f b)) (hB : B ≤ w.heap.size) (hL : progB L = true) (hf : Good L f) (ht : t < L.length) (hb6 : okB9 b 6) (hc : canF L f t = true) (h4 : ∀ n, n < 2 → f (20 + n) ≤ 4) (n : Nat) (xb xc : Int) (hx : smAt L t (f (3 + t)) = ⟨2, (n : Int), xb, xc, false⟩) (hn3 : n < 3) (hvb : valB xb xc = true) :
    Calls Try.prog 91 #[PgV h L, BufV k (bufOf L f b), .int .i64 t] w (AnsI w (bufOf L (goF L f t ⟨2, (n : Int), xb, xc, false⟩) (updB b t (b t ++ [n * 4 + sumF f t xb xc])))) := by
  obtain ⟨i3, hi3, j3a, j3b, j3c⟩ := info_parts Try.info3
  obtain ⟨h31, h32⟩ := prog_len hL
  obtain ⟨o, ho⟩ : ∃ o, o = bufOf L f b := ⟨_, rfl⟩
  have hOS : o.st = staF L f := by rw [ho]; rfl
  rw [← ho] at hS
  rw [← ho]
  obtain ⟨W, hW⟩ : ∃ W, W = ((w.alloc (.cells #[.slice h.A L.length h.c] 36)).alloc (.cells #[.slice k.h.A0 o.st.f0.length k.h.c0, .slice k.h.A1 o.st.f1.length k.h.c1, .slice k.h.A2 o.st.f2.length k.h.c2, .slice k.h.A3 o.st.f3.length k.h.c3, .slice k.h.A4 o.st.f4.length k.h.c4, .slice k.k.A o.bs.length k.k.c] 59)).alloc (.cells #[.slice none 0 0, .slice none 0 0, .slice none 0 0, .slice none 0 0, .slice none 0 0, .slice none 0 0] 59) := ⟨_, rfl⟩
  have bW : Below w.heap.size w W := by rw [hW]; go_grown
  have sW : W.heap.size = w.heap.size + 1 + 1 + 1 := by rw [hW]; simp
  have k0 : Bk W w.heap.size 36 #[.slice h.A L.length h.c] := by rw [hW]; exact ((Bk.new w _ _).alloc _).alloc _
  have k2 : Bk W (w.heap.size + 1 + 1) 59 #[.slice none 0 0, .slice none 0 0, .slice none 0 0, .slice none 0 0, .slice none 0 0, .slice none 0 0] := by
    rw [hW]; have := Bk.new ((w.alloc (.cells #[.slice h.A L.length h.c] 36)).alloc (.cells #[.slice k.h.A0 o.st.f0.length k.h.c0, .slice k.h.A1 o.st.f1.length k.h.c1, .slice k.h.A2 o.st.f2.length k.h.c2, .slice k.h.A3 o.st.f3.length k.h.c3, .slice k.h.A4 o.st.f4.length k.h.c4, .slice k.k.A o.bs.length k.k.c] 59)) #[.slice none 0 0, .slice none 0 0, .slice none 0 0, .slice none 0 0, .slice none 0 0, .slice none 0 0] 59
    rwa [World.size_alloc, World.size_alloc] at this
  have k1 : Bk W (w.heap.size + 1) 59 #[.slice k.h.A0 o.st.f0.length k.h.c0, .slice k.h.A1 o.st.f1.length k.h.c1, .slice k.h.A2 o.st.f2.length k.h.c2, .slice k.h.A3 o.st.f3.length k.h.c3, .slice k.h.A4 o.st.f4.length k.h.c4, .slice k.k.A o.bs.length k.k.c] := by
    rw [hW]; have := (Bk.new (w.alloc (.cells #[.slice h.A L.length h.c] 36)) #[.slice k.h.A0 o.st.f0.length k.h.c0, .slice k.h.A1 o.st.f1.length k.h.c1, .slice k.h.A2 o.st.f2.length k.h.c2, .slice k.h.A3 o.st.f3.length k.h.c3, .slice k.h.A4 o.st.f4.length k.h.c4, .slice k.k.A o.bs.length k.k.c] 59).alloc (.cells #[.slice none 0 0, .slice none 0 0, .slice none 0 0, .slice none 0 0, .slice none 0 0, .slice none 0 0] 59)
    rwa [World.size_alloc] at this
  have P0 := Lib.hid (hP.below bW hB)
  have S0 := Lib.hid (hS.below bW hB)
  have K0 := Lib.hid k0
  have K1 := Lib.hid k1
  have K2 := Lib.hid k2
  have B0 := Lib.hid bW
  have sWa := Nat.le_of_eq sW
  have sWb := Nat.le_of_eq sW.symm
  have HW := Lib.hid hW
  clear hW bW sW k0 k1 k2 hP hS
  have LB := Lib.hid (show StaL o.st 1000 by rw [hOS]; obtain ⟨a0, a1, a2, a3, a4⟩ := sta_len L f; exact ⟨by omega, by omega, by omega, by omega, by omega⟩)
  have LN := Lib.hid (show o.bs.length = L.length by rw [ho]; exact bufOf_len L f b)
  have LR := Lib.hid (show ∀ xs ∈ o.bs, xs.length ≤ 1000 from fun xs hx => by
    obtain ⟨i, hi⟩ := List.getElem?_of_mem hx
    rw [ho] at hi
    obtain ⟨h1, rfl⟩ := bufOf_inv hi
    rw [rowS_length]
    have := (hb6 i (by omega)).2
    omega)
  have HO := Lib.hid ho
  have HOS := Lib.hid hOS
  have H6 := Lib.hid hb6
  clear ho hOS hb6
  obtain ⟨hml, hxok⟩ := can_lt hL hf ht hc
  obtain ⟨xs, hxs⟩ : ∃ xs, L[t]? = some xs := ⟨_, List.getElem?_eq_getElem ht⟩
  have hd : L.getD t [] = xs := getD_some hxs
  have hat : f (3 + t) < xs.length := by rw [← hd]; exact hml
  have hxx : xs[f (3 + t)]? = some ⟨2, (n : Int), xb, xc, false⟩ := by
    have h1 : xs[f (3 + t)]? = some xs[f (3 + t)] := List.getElem?_eq_getElem hat
    have h2 : smAt L t (f (3 + t)) = xs[f (3 + t)] := by unfold smAt; rw [hd]; exact getD_some h1
    rw [h1, ← h2, hx]
  have hl6 := (prog_thr hL hxs).1
  rw [hx] at hxok
  have HX := Lib.hid hx
  have hnge : ¬ (L.length : Int) ≤ (t : Int) := by omega
  have HML := Lib.hid hml
  have HOK := Lib.hid hxok
  have HC := Lib.hid hc
  have H4 := Lib.hid h4
  clear hx hml hxok hc h4
  go_enter Try.func91, Try.ntmps91
  go_wp2_with fail
  rw [← HW.out]
  refine (s7copy_any k o W B S0.out (by omega) LB.out (by have := LN.out; omega) LR.out).mono ?_
  rintro e w1 ⟨qh, A, c, hs, G, C, lo, hi, bs, rfl, hb1, n1, n2, n3, oS, oO, oR⟩
  have B1 := Lib.hid (below_on B0.out hb1)
  have P1 := Lib.hid (P0.out.below hb1 (by omega))
  have K01 := Lib.hid (K0.out.below hb1 K0.out.lt)
  have K21 := Lib.hid (K2.out.below hb1 K2.out.lt)
  have z1 := hb1.size
  have C1 := Lib.hid (show CopS w w1 L f b qh A c hs G C lo hi bs from by
    rw [HO.out, bufOf_len] at oO oR
    rw [HOS.out] at oS
    obtain ⟨g, _, hg1, hg2, _⟩ := sta_put2 h32 oS (i := 0) (by omega) 0 _ rfl
    exact ⟨oS, oO, oR, by omega, n2, n3, by omega, by omega⟩)
  clear hb1 oS oO oR
  have cp : w1.cell? ⟨w.heap.size, 0, none⟩ = some (.slice h.A L.length h.c) := K01.out.cell 0
  have lp := K01.out.lt
  go_wp2_with fail
  obtain ⟨V, hV⟩ : ∃ V, V = w1.alloc (.cells #[.slice qh.A0 o.st.f0.length qh.c0, .slice qh.A1 o.st.f1.length qh.c1, .slice qh.A2 o.st.f2.length qh.c2, .slice qh.A3 o.st.f3.length qh.c3, .slice qh.A4 o.st.f4.length qh.c4, .slice (A) o.bs.length c] 59) := ⟨_, rfl⟩
  rw [← hV]
  have bV : Below w1.heap.size w1 V := by rw [hV]; exact (Below.refl _ _).alloc (Nat.le_refl _) _
  have KS := Lib.hid (show Bk V w1.heap.size 59 #[.slice qh.A0 (staF L f).f0.length qh.c0, .slice qh.A1 (staF L f).f1.length qh.c1, .slice qh.A2 (staF L f).f2.length qh.c2, .slice qh.A3 (staF L f).f3.length qh.c3, .slice qh.A4 (staF L f).f4.length qh.c4, .slice (A) L.length c] from by rw [hV, HOS.out, LN.out]; exact Bk.new _ _ _)
  have zV : V.heap.size = w1.heap.size + 1 := by rw [hV]; simp
  have zVa := Nat.le_of_eq zV
  have zVb := Nat.le_of_eq zV.symm
  have KP := Lib.hid (K01.out.below bV K01.out.lt)
  have KR := Lib.hid (K21.out.below bV K21.out.lt)
  have BV := Lib.hid (B1.out.trans (bV.mono (by omega)))
  have PV := Lib.hid (P1.out.below bV (by omega))
  have ga : w1.grownBy V none := by rw [hV]; exact World.grownBy_alloc _ _ _
  have CV := Lib.hid (show CopS w V L f b qh (A) c hs G C lo hi bs from ⟨C1.out.sta.below bV (by have := C1.out.l2; omega), C1.out.own.kept ga (by cases hv : (Value.slice (A) L.length c).ownBlock <;> simp), C1.out.rows.kept (by rw [bufOf_len]; exact Nat.le_refl _) ga (fun i hi => by simp), C1.out.l1, C1.out.l2, by omega, C1.out.l0, C1.out.l4⟩)
  clear hV bV zV ga C1 K01 K21 B1 P1 K0 K1 K2 S0 P0 B0 LB LR cp lp
  obtain ⟨b1, off1, xs', Ai, ci, hA, hb1, hx', hc1, -, hmi, hrow⟩ := pg_at PV.out ht
  obtain rfl : xs = xs' := by rw [hxs] at hx'; injection hx'
  have n0 : (staF L f).f0.length = L.length := (sta_len L f).1
  have lt0 : t < (staF L f).f0.length := by rw [n0]; exact ht
  have cl2 := CV.out.l2
  have cl3 := CV.out.l3
  have cl1 := CV.out.l1
  obtain ⟨b2, off2, i, hA2, hb2, hi2, -, hc2⟩ := CV.out.sta.rd.r0.int_ (k := t) lt0
  obtain rfl : i = ((f (3 + t) : Nat) : Int) := by
    have : (staF L f).f0[t]? = some ((f (3 + t) : Int) + 0) := fldI_at (l := 0) ht
    rw [hi2] at this; injection this with this
  obtain ⟨b3, off3, x', hA3, hb3, hx3, -, c0, c1, c2, c3, c4⟩ := hrow.at_ hat
  obtain rfl : (⟨2, (n : Int), xb, xc, false⟩ : Sm) = x' := by rw [hxx] at hx3; injection hx3
  simp only at c0 c1 c2 c3 c4
  subst hA3
  obtain ⟨i, hi0⟩ : ∃ i, f (3 + t) = i := ⟨_, rfl⟩
  rw [hi0] at hc2 c0 c1 c2 c3 c4 hat
  have e0 := KP.out.cell 0
  have e1 := KS.out.cell 0
  simp only [List.getElem?_toArray, List.getElem?_cons_zero] at e0 e1
  rw [hA] at e0
  rw [hA2] at e1
  have hti : (t : Int) < (L.length : Int) := by omega
  have hti2 : (t : Int) < ((staF L f).f0.length : Int) := by omega
  have him : (i : Int) < (xs.length : Int) := by omega
  clear n0
  have l0 := KP.out.lt
  have l1 := KS.out.lt
  unfold maxLen at hmi
  have hb1v : b1 < V.heap.size := by omega
  have hb2v : b2 < V.heap.size := by omega
  have hb3v : b3 < V.heap.size := by omega
  have g_e0 : V.cell? ⟨w.heap.size, 0, none⟩ = some (.slice (some ⟨b1, off1, none⟩) L.length h.c) := e0
  have g_e1 : V.cell? ⟨w1.heap.size, 0, none⟩ = some (.slice (some ⟨b2, off2, none⟩) (staF L f).f0.length qh.c0) := e1
  have g_hc1 : V.cell? ⟨b1, off1 + t, none⟩ = some (.slice (some ⟨b3, off3, none⟩) xs.length ci) := hc1
  have g_hc2 : V.cell? ⟨b2, off2 + t, none⟩ = some (.int .i64 (i : Int)) := hc2
  have g_c0 : V.cell? ⟨b3, off3 + i * 5, none⟩ = some (.int .i64 (2)) := c0
  have g_c1 : V.cell? ⟨b3, off3 + i * 5 + 1, none⟩ = some (.int .i64 ((n : Int))) := c1
  have g_c2 : V.cell? ⟨b3, off3 + i * 5 + 2, none⟩ = some (.int .i64 (xb)) := c2
  have g_c3 : V.cell? ⟨b3, off3 + i * 5 + 3, none⟩ = some (.int .i64 (xc)) := c3
  have g_c4 : V.cell? ⟨b3, off3 + i * 5 + 4, none⟩ = some (.bool (false)) := c4
  have allS : ∀ w', Below V.heap.size V w' → (Below V.heap.size V w' ∧ w'.cell? ⟨w.heap.size, 0, none⟩ = some (.slice (some ⟨b1, off1, none⟩) L.length h.c) ∧ w'.cell? ⟨w1.heap.size, 0, none⟩ = some (.slice (some ⟨b2, off2, none⟩) (staF L f).f0.length qh.c0) ∧ w'.cell? ⟨b1, off1 + t, none⟩ = some (.slice (some ⟨b3, off3, none⟩) xs.length ci) ∧ w'.cell? ⟨b2, off2 + t, none⟩ = some (.int .i64 (i : Int)) ∧ w'.cell? ⟨b3, off3 + i * 5, none⟩ = some (.int .i64 (2)) ∧ w'.cell? ⟨b3, off3 + i * 5 + 1, none⟩ = some (.int .i64 ((n : Int))) ∧ w'.cell? ⟨b3, off3 + i * 5 + 2, none⟩ = some (.int .i64 (xb)) ∧ w'.cell? ⟨b3, off3 + i * 5 + 3, none⟩ = some (.int .i64 (xc)) ∧ w'.cell? ⟨b3, off3 + i * 5 + 4, none⟩ = some (.bool (false))) := fun w' hb => ⟨hb, (hb.cell (p := ⟨w.heap.size, 0, none⟩) (by show w.heap.size < V.heap.size; exact l0)).trans g_e0, (hb.cell (p := ⟨w1.heap.size, 0, none⟩) (by show w1.heap.size < V.heap.size; exact l1)).trans g_e1, (hb.cell (p := ⟨b1, off1 + t, none⟩) (by show b1 < V.heap.size; exact hb1v)).trans g_hc1, (hb.cell (p := ⟨b2, off2 + t, none⟩) (by show b2 < V.heap.size; exact hb2v)).trans g_hc2, (hb.cell (p := ⟨b3, off3 + i * 5, none⟩) (by show b3 < V.heap.size; exact hb3v)).trans g_c0, (hb.cell (p := ⟨b3, off3 + i * 5 + 1, none⟩) (by show b3 < V.heap.size; exact hb3v)).trans g_c1, (hb.cell (p := ⟨b3, off3 + i * 5 + 2, none⟩) (by show b3 < V.heap.size; exact hb3v)).trans g_c2, (hb.cell (p := ⟨b3, off3 + i * 5 + 3, none⟩) (by show b3 < V.heap.size; exact hb3v)).trans g_c3, (hb.cell (p := ⟨b3, off3 + i * 5 + 4, none⟩) (by show b3 < V.heap.size; exact hb3v)).trans g_c4⟩
  have AllS := Lib.hid allS
  have HA := Lib.hid hA
  have HA2 := Lib.hid hA2
  clear allS hA hA2 hx' hrow hi2 hx3 e0 e1 hc1 hc2 c0 c1 c2 c3 c4 g_e0 g_e1 g_hc1 g_hc2 g_c0 g_c1 g_c2 g_c3 g_c4
  go_region_held3 (fun w' => Below V.heap.size V w' ∧ w'.cell? ⟨w.heap.size, 0, none⟩ = some (.slice (some ⟨b1, off1, none⟩) L.length h.c) ∧ w'.cell? ⟨w1.heap.size, 0, none⟩ = some (.slice (some ⟨b2, off2, none⟩) (staF L f).f0.length qh.c0) ∧ w'.cell? ⟨b1, off1 + t, none⟩ = some (.slice (some ⟨b3, off3, none⟩) xs.length ci) ∧ w'.cell? ⟨b2, off2 + t, none⟩ = some (.int .i64 (i : Int)) ∧ w'.cell? ⟨b3, off3 + i * 5, none⟩ = some (.int .i64 (2)) ∧ w'.cell? ⟨b3, off3 + i * 5 + 1, none⟩ = some (.int .i64 ((n : Int))) ∧ w'.cell? ⟨b3, off3 + i * 5 + 2, none⟩ = some (.int .i64 (xb)) ∧ w'.cell? ⟨b3, off3 + i * 5 + 3, none⟩ = some (.int .i64 (xc)) ∧ w'.cell? ⟨b3, off3 + i * 5 + 4, none⟩ = some (.bool (false))) (first | (go_split_ands; exact AllS.out _ (by go_grown)) | (exact AllS.out _ (by go_grown))) (fail)
  obtain ⟨U, hU⟩ : ∃ U, U = (V.alloc (.cells #[.int .i64 (2), .int .i64 ((n : Int)), .int .i64 (xb), .int .i64 (xc), .bool (false)] 119)).drew := ⟨_, rfl⟩
  rw [← hU]
  have bU : Below V.heap.size V U := by rw [hU]; exact ((Below.refl _ _).alloc (Nat.le_refl _) _).drew
  have zU : U.heap.size = V.heap.size + 1 := by rw [hU]; show (World.alloc _ _).heap.size = _; simp
  have zUa := Nat.le_of_eq zU
  have zUb := Nat.le_of_eq zU.symm
  have KX := Lib.hid (show Bk U V.heap.size 119 #[.int .i64 (2), .int .i64 ((n : Int)), .int .i64 (xb), .int .i64 (xc), .bool (false)] from by rw [hU]; exact Bk.new V _ _)
  have KPU := Lib.hid (KP.out.below bU KP.out.lt)
  have KSU := Lib.hid (KS.out.below bU KS.out.lt)
  have KRU := Lib.hid (KR.out.below bU KR.out.lt)
  have BU := Lib.hid (BV.out.trans (bU.mono (by omega)))
  have PU := Lib.hid (PV.out.below bU (by omega))
  have CU := Lib.hid (CV.out.below bU)
  clear AllS hU bU zU KP KS KR BV PV CV
  try clear hHeld
  have lX := KX.out.lt
  have lS := KSU.out.lt
  have lP := KPU.out.lt
  have lR := KRU.out.lt
  have ox0 : U.cell? ⟨V.heap.size, 0, none⟩ = some (.int .i64 (2)) := KX.out.cell 0
  have ox1 : U.cell? ⟨V.heap.size, 1, none⟩ = some (.int .i64 ((n : Int))) := KX.out.cell 1
  have ox2 : U.cell? ⟨V.heap.size, 2, none⟩ = some (.int .i64 (xb)) := KX.out.cell 2
  have ox3 : U.cell? ⟨V.heap.size, 3, none⟩ = some (.int .i64 (xc)) := KX.out.cell 3
  have ox4 : U.cell? ⟨V.heap.size, 4, none⟩ = some (.bool (false)) := KX.out.cell 4
  have ht3 : t < 3 := by omega
  have hs4 := sumF_lt (f := f) (t := t) hvb
  obtain ⟨sv, hsv⟩ : ∃ sv, sumF f t xb xc = sv := ⟨_, rfl⟩
  have SU := Lib.hid (fun (v : World) (hS : StaR v v.heap.size qh (staF L f)) => ssum_any qh L f t xb xc v v.heap.size hS (Nat.le_refl _) hf.ok h32 ht hvb sv (Lib.hid hsv))
  rw [hsv] at hs4
  have HSV := Lib.hid hsv
  have cu1 := CU.out.l1
  have cu2 := CU.out.l2
  have cu3 := CU.out.l3
  have cu4 := CU.out.l4
  obtain ⟨g, eA, rg1, rg2, ⟨cg, rg3⟩, rc, rf, ⟨rt1, rt2, ct, rt3⟩, rcap, rmx, rown, rall, rne⟩ := CU.out.row ht
  subst eA
  obtain ⟨ml, hml⟩ : ∃ ml, (rowS (b t)).length = ml := ⟨_, rfl⟩
  have hm6 : ml ≤ 12 := by rw [← hml, rowS_length]; have := (H6.out t (by omega)).2; omega
  rw [hml] at rc rcap rown
  have gts : G t ≠ w1.heap.size := bk_types rt3 KSU.out (by decide)
  have gtx : G t ≠ V.heap.size := bk_types rt3 KX.out (by decide)
  have gtg : G t ≠ g := bk_types rt3 rg3 (by decide)
  have gs : g ≠ w1.heap.size := bk_types rg3 KSU.out (by decide)
  have HRow := Lib.hid rown
  have HM := Lib.hid hml
  have RA := Lib.hid rall
  have RN := Lib.hid rne
  have RF := Lib.hid rf
  have RC := Lib.hid rc
  have RG3 := Lib.hid rg3
  clear rown hml rall rne rf rg3 rt3 hvb hsv
  obtain ⟨Sx, SI, S0, S1, S2, S3, S4, S5, S6, S7, S8, S9⟩ : ∃ Sx : World → Prop, (∀ w' : World, w'.cell? ⟨w1.heap.size, 0, none⟩ = some (.slice qh.A0 (staF L f).f0.length qh.c0) → w'.cell? ⟨w1.heap.size, 1, none⟩ = some (.slice qh.A1 (staF L f).f1.length qh.c1) → w'.cell? ⟨w1.heap.size, 2, none⟩ = some (.slice qh.A2 (staF L f).f2.length qh.c2) → w'.cell? ⟨w1.heap.size, 3, none⟩ = some (.slice qh.A3 (staF L f).f3.length qh.c3) → w'.cell? ⟨w1.heap.size, 4, none⟩ = some (.slice qh.A4 (staF L f).f4.length qh.c4) → w'.cell? ⟨w1.heap.size, 5, none⟩ = some (.slice (some ⟨g, 0, none⟩) L.length c) → w'.cell? ⟨V.heap.size, 1, none⟩ = some (.int .i64 ((n : Int))) → w'.cell? ⟨V.heap.size, 2, none⟩ = some (.int .i64 (xb)) → w'.cell? ⟨V.heap.size, 3, none⟩ = some (.int .i64 (xc)) → w'.cell? ⟨g, t, none⟩ = some (.slice (some ⟨G t, 0, none⟩) ml (C t)) → Sx w') ∧ (∀ y : Ws Sx, y.val.cell? ⟨w1.heap.size, 0, none⟩ = some (.slice qh.A0 (staF L f).f0.length qh.c0)) ∧ (∀ y : Ws Sx, y.val.cell? ⟨w1.heap.size, 1, none⟩ = some (.slice qh.A1 (staF L f).f1.length qh.c1)) ∧ (∀ y : Ws Sx, y.val.cell? ⟨w1.heap.size, 2, none⟩ = some (.slice qh.A2 (staF L f).f2.length qh.c2)) ∧ (∀ y : Ws Sx, y.val.cell? ⟨w1.heap.size, 3, none⟩ = some (.slice qh.A3 (staF L f).f3.length qh.c3)) ∧ (∀ y : Ws Sx, y.val.cell? ⟨w1.heap.size, 4, none⟩ = some (.slice qh.A4 (staF L f).f4.length qh.c4)) ∧ (∀ y : Ws Sx, y.val.cell? ⟨w1.heap.size, 5, none⟩ = some (.slice (some ⟨g, 0, none⟩) L.length c)) ∧ (∀ y : Ws Sx, y.val.cell? ⟨V.heap.size, 1, none⟩ = some (.int .i64 ((n : Int)))) ∧ (∀ y : Ws Sx, y.val.cell? ⟨V.heap.size, 2, none⟩ = some (.int .i64 (xb))) ∧ (∀ y : Ws Sx, y.val.cell? ⟨V.heap.size, 3, none⟩ = some (.int .i64 (xc))) ∧ (∀ y : Ws Sx, y.val.cell? ⟨g, t, none⟩ = some (.slice (some ⟨G t, 0, none⟩) ml (C t))) :=
    ⟨fun w' => w'.cell? ⟨w1.heap.size, 0, none⟩ = some (.slice qh.A0 (staF L f).f0.length qh.c0) ∧ w'.cell? ⟨w1.heap.size, 1, none⟩ = some (.slice qh.A1 (staF L f).f1.length qh.c1) ∧ w'.cell? ⟨w1.heap.size, 2, none⟩ = some (.slice qh.A2 (staF L f).f2.length qh.c2) ∧ w'.cell? ⟨w1.heap.size, 3, none⟩ = some (.slice qh.A3 (staF L f).f3.length qh.c3) ∧ w'.cell? ⟨w1.heap.size, 4, none⟩ = some (.slice qh.A4 (staF L f).f4.length qh.c4) ∧ w'.cell? ⟨w1.heap.size, 5, none⟩ = some (.slice (some ⟨g, 0, none⟩) L.length c) ∧ w'.cell? ⟨V.heap.size, 1, none⟩ = some (.int .i64 ((n : Int))) ∧ w'.cell? ⟨V.heap.size, 2, none⟩ = some (.int .i64 (xb)) ∧ w'.cell? ⟨V.heap.size, 3, none⟩ = some (.int .i64 (xc)) ∧ w'.cell? ⟨g, t, none⟩ = some (.slice (some ⟨G t, 0, none⟩) ml (C t)), fun w' a0 a1 a2 a3 a4 a5 a6 a7 a8 a9 => ⟨a0, a1, a2, a3, a4, a5, a6, a7, a8, a9⟩, fun y => y.ok.1, fun y => y.ok.2.1, fun y => y.ok.2.2.1, fun y => y.ok.2.2.2.1, fun y => y.ok.2.2.2.2.1, fun y => y.ok.2.2.2.2.2.1, fun y => y.ok.2.2.2.2.2.2.1, fun y => y.ok.2.2.2.2.2.2.2.1, fun y => y.ok.2.2.2.2.2.2.2.2.1, fun y => y.ok.2.2.2.2.2.2.2.2.2⟩
  have HSI := Lib.hid (show ∀ w' : World, (∀ q, q < U.heap.size → q ≠ G t → w'.heap[q]? = U.heap[q]?) → Sx w' from fun w' hk => SI w' ((World.cell?_of_block (a := ⟨w1.heap.size, 0, none⟩) (hk w1.heap.size lS gts.symm)).trans (KSU.out.cell 0)) ((World.cell?_of_block (a := ⟨w1.heap.size, 1, none⟩) (hk w1.heap.size lS gts.symm)).trans (KSU.out.cell 1)) ((World.cell?_of_block (a := ⟨w1.heap.size, 2, none⟩) (hk w1.heap.size lS gts.symm)).trans (KSU.out.cell 2)) ((World.cell?_of_block (a := ⟨w1.heap.size, 3, none⟩) (hk w1.heap.size lS gts.symm)).trans (KSU.out.cell 3)) ((World.cell?_of_block (a := ⟨w1.heap.size, 4, none⟩) (hk w1.heap.size lS gts.symm)).trans (KSU.out.cell 4)) ((World.cell?_of_block (a := ⟨w1.heap.size, 5, none⟩) (hk w1.heap.size lS gts.symm)).trans (KSU.out.cell 5)) ((World.cell?_of_block (a := ⟨V.heap.size, 1, none⟩) (hk V.heap.size lX gtx.symm)).trans (KX.out.cell 1)) ((World.cell?_of_block (a := ⟨V.heap.size, 2, none⟩) (hk V.heap.size lX gtx.symm)).trans (KX.out.cell 2)) ((World.cell?_of_block (a := ⟨V.heap.size, 3, none⟩) (hk V.heap.size lX gtx.symm)).trans (KX.out.cell 3)) ((World.cell?_of_block (a := ⟨g, t, none⟩) (hk g rg2 gtg.symm)).trans (RC.out)))
  have HSx := Lib.hid (HSI.out U.drew (fun q _ _ => rfl))
  haveI hne := Nonempty.intro (Ws.mk U.drew HSx.out)
  have hmt : ml < 9223372036854775807 := by omega
  clear SI
  go_wp2_with fail
  clear ox0 ox1 ox2 ox3 ox4
  refine region_make (C := In Sx) 17 20 (by omega) (by kernel_rfl) (In.mk HSx.out) ?_
  simp only [List.take_succ_cons, List.take_zero, List.drop_succ_cons, List.drop_zero]
  repeat (go_big_quiet_step (fail))
  refine wpQuiet_nil ?_
  clear S0 S1 S2 S3 S4 S5 S6 S7 S8 S9
  refine seqC_step (by rfl) ?_
  intro R hR
  go_wp2_with fail
  refine (SU.out U.drew (CU.out.sta.rd.up ((Below.refl U.heap.size U).drew) (by omega) (by show hi ≤ U.heap.size; omega))).mono ?_
  rintro e w3 ⟨rfl, hb3'⟩
  have hb3 : Below U.heap.size U w3 := below_on ((Below.refl U.heap.size U).drew) hb3'
  have z3 := hb3.size
  have B3 := Lib.hid hb3
  have S3 := Lib.hid (HSI.out w3 (fun q hq _ => hb3.block q hq))
  have OwnT := Lib.hid (HRow.out.kept (grown_of_below hb3 none) (Or.inr (by simp [Value.ownBlock])))
  clear hb3 hb3'
  go_wp2
  refine hR _ _ (fun _ => In.mk S3.out) ?_
  refine seqC_step (by rfl) ?_
  intro R hR
  go_wp2
  refine hR _ _ (fun _ => In.mk (HSI.out _ (fun q hq _ => (Below.heap_alloc w3 _ q (by omega)).trans (B3.out.block q hq)))) ?_
  refine seqC_step (by rfl) ?_
  intro R hR
  go_wp2_with (at_builtin; refine wpList_append_own _ rfl (.tmp 94) (.tmp 105) 26 rfl bs 3 i3 _ 1 8 Try.underlying26 hi3 j3a j3b j3c rfl (by decide) _ ml _ rfl (OwnT.out.alloc _) ⟨_, 0, none⟩ 2 2 [.int .i64 _, .int .i64 _] rfl rfl (cell2_new _ _ _ _) (by intro u hu; simp at hu; rcases hu with rfl | rfl <;> rfl) (by unfold maxLen; omega) (by omega) (by simp; omega) ?_; intro v' w4 own4 grow4 _; obtain ⟨g4, cap4, rfl, hg4, hlt4⟩ := own4.form (by omega); have Own4 := Lib.hid own4; have Grow4 := Lib.hid (show World.grownBy (w3.alloc (.cells #[.int .i64 (n : Int), .int .i64 (sv : Int)] 3)) w4 (some (G t)) from grow4); clear own4 grow4)
  have z4 : w3.heap.size + 1 ≤ w4.heap.size := by have := Grow4.out.size; simpa using this
  have hk4 : ∀ q, q < U.heap.size → q ≠ G t → w4.heap[q]? = U.heap[q]? := fun q hq hne => (Grow4.out.block q (by simp; omega) (fun e => hne (by injection e))).trans ((Below.heap_alloc w3 _ q (by omega)).trans (B3.out.block q hq))
  have cl0 := CU.out.l0
  have B4 := Lib.hid (show Below w.heap.size U w4 from (((B3.out.mono (by omega)).alloc (by omega) _).grown Grow4.out (by simp; omega) (fun q hq => by injection hq with hq; omega)))
  have KS4 := Lib.hid (show Bk w4 _ _ _ from (hk4 _ lS gts.symm).trans KSU.out)
  have KX4 := Lib.hid (show Bk w4 _ _ _ from (hk4 _ lX gtx.symm).trans KX.out)
  have KR4 := Lib.hid (show Bk w4 _ _ _ from (hk4 _ lR (by omega)).trans KRU.out)
  have KP4 := Lib.hid (show Bk w4 _ _ _ from (hk4 _ lP (by omega)).trans KPU.out)
  have S4 := Lib.hid (HSI.out w4 hk4)
  have xg : w4.cell? ⟨g, t, none⟩ = some (.slice (some ⟨G t, 0, none⟩) ml (C t)) := (World.cell?_of_block (a := ⟨g, t, none⟩) (hk4 g rg2 gtg.symm)).trans RC.out
  have fg : w4.frozen? ⟨g, t, none⟩ = false := (World.frozen?_of_block (a := ⟨g, t, none⟩) (hk4 g rg2 gtg.symm)).trans (RF.out t)
  have HK4 := Lib.hid hk4
  clear hk4
  refine hR _ _ (fun _ => In.mk S4.out) ?_
  refine seqC_step (by rfl) ?_
  intro R hR
  go_wp2
  refine hR _ _ (fun h => absurd h (by omega)) ?_
  refine seqC_step (by rfl) ?_
  intro R hR
  go_wp2
  refine hR _ _ (fun h => absurd h (by omega)) ?_
  refine seqC_nil ?_
  obtain ⟨w5, hw5⟩ : ∃ X, X = w4.setCell ⟨g, t, none⟩ (.slice (some ⟨g4, 0, none⟩) (ml + 2) cap4) := ⟨_, rfl⟩
  rw [← hw5]
  have o5 : ∀ q, q ≠ g → w5.heap[q]? = w4.heap[q]? := fun q hq => by rw [hw5]; exact Below.heap_setCell _ ⟨g, t, none⟩ _ q hq
  have e5 : ∀ i, i ≠ t → w5.cell? ⟨g, i, none⟩ = w4.cell? ⟨g, i, none⟩ := fun i hi => by rw [hw5]; exact World.cell?_setCell_other _ _ _ _ (fun e => hi (by injection e with _ e; exact e.symm))
  have c5 : w5.cell? ⟨g, t, none⟩ = some (.slice (some ⟨g4, 0, none⟩) (ml + 2) cap4) := by rw [hw5]; exact World.cell?_setCell_same _ _ _ xg
  have z5 : w5.heap.size = w4.heap.size := by rw [hw5]; simp
  have O5 := Lib.hid o5
  have E5 := Lib.hid e5
  have C5 := Lib.hid c5
  have B5 := Lib.hid (show Below w.heap.size U w5 by rw [hw5]; exact B4.out.setCell (p := ⟨g, t, none⟩) (by show w.heap.size ≤ g; omega) _)
  have KS5 := Lib.hid (show Bk w5 _ _ _ from (o5 _ gs.symm).trans KS4.out)
  have gx : g ≠ V.heap.size := bk_types ((HK4.out g rg2 gtg.symm).trans RG3.out) KX4.out (by decide)
  have KX5 := Lib.hid (show Bk w5 _ _ _ from (o5 _ gx.symm).trans KX4.out)
  have KR5 := Lib.hid (show Bk w5 _ _ _ from (o5 _ (by omega)).trans KR4.out)
  have KP5 := Lib.hid (show Bk w5 _ _ _ from (o5 _ (by omega)).trans KP4.out)
  have P5 := Lib.hid (PU.out.below B5.out hB)
  have ST5 := Lib.hid (CU.out.sta.keep (Nat.le_refl _) (Nat.le_refl _) fun q h1 h2 => (o5 q (by omega)).trans (HK4.out q (by omega) (by omega)))
  have BB5 := Lib.hid (BU.out.trans B5.out)
  clear hw5 o5 e5 c5 xg fg
  have op0 : w5.cell? ⟨w.heap.size, 0, none⟩ = some (.slice h.A L.length h.c) := KP5.out.cell 0
  have os0 : w5.cell? ⟨w1.heap.size, 0, none⟩ = some (.slice qh.A0 (staF L f).f0.length qh.c0) := KS5.out.cell 0
  have os1 : w5.cell? ⟨w1.heap.size, 1, none⟩ = some (.slice qh.A1 (staF L f).f1.length qh.c1) := KS5.out.cell 1
  have os2 : w5.cell? ⟨w1.heap.size, 2, none⟩ = some (.slice qh.A2 (staF L f).f2.length qh.c2) := KS5.out.cell 2
  have os3 : w5.cell? ⟨w1.heap.size, 3, none⟩ = some (.slice qh.A3 (staF L f).f3.length qh.c3) := KS5.out.cell 3
  have os4 : w5.cell? ⟨w1.heap.size, 4, none⟩ = some (.slice qh.A4 (staF L f).f4.length qh.c4) := KS5.out.cell 4
  have ox0 : w5.cell? ⟨V.heap.size, 0, none⟩ = some (.int .i64 (2)) := KX5.out.cell 0
  have ox1 : w5.cell? ⟨V.heap.size, 1, none⟩ = some (.int .i64 ((n : Int))) := KX5.out.cell 1
  have ox2 : w5.cell? ⟨V.heap.size, 2, none⟩ = some (.int .i64 (xb)) := KX5.out.cell 2
  have ox3 : w5.cell? ⟨V.heap.size, 3, none⟩ = some (.int .i64 (xc)) := KX5.out.cell 3
  have ox4 : w5.cell? ⟨V.heap.size, 4, none⟩ = some (.bool (false)) := KX5.out.cell 4
  have lp5 := KP5.out.lt
  have ls5 := KS5.out.lt
  have lx5 := KX5.out.lt
  go_wp2_with fail
  clear op0 os0 os1 os2 os3 os4 ox0 ox1 ox2 ox3 ox4
  refine (sown_at f h qh L f t ⟨2, (n : Int), xb, xc, false⟩ w5 B lo hi P5.out (by omega) (by omega) ST5.out (by omega) h32 ht hf.ok HML.out (by rw [hd]; exact hl6) HOK.out (fun h => absurd (show (2 : Int) = 9 from h) (by decide))).mono ?_
  rintro e w6 ⟨rfl, on6, o6⟩
  have z6 := on6.size
  have KS6 := Lib.hid (only_bk KS5.out on6 (Or.inr (by omega)))
  have KR6 := Lib.hid (only_bk KR5.out on6 (Or.inl (by omega)))
  have B6 := Lib.hid (BB5.out.trans (on6.to_below (B := w.heap.size) (by omega) (by have := BB5.out.size; omega)))
  have O6 := Lib.hid o6
  have ON6 := Lib.hid on6
  clear on6 o6
  have ot0 : w6.cell? ⟨w1.heap.size, 0, none⟩ = some (.slice qh.A0 (staF L f).f0.length qh.c0) := KS6.out.cell 0
  have ot1 : w6.cell? ⟨w1.heap.size, 1, none⟩ = some (.slice qh.A1 (staF L f).f1.length qh.c1) := KS6.out.cell 1
  have ot2 : w6.cell? ⟨w1.heap.size, 2, none⟩ = some (.slice qh.A2 (staF L f).f2.length qh.c2) := KS6.out.cell 2
  have ot3 : w6.cell? ⟨w1.heap.size, 3, none⟩ = some (.slice qh.A3 (staF L f).f3.length qh.c3) := KS6.out.cell 3
  have ot4 : w6.cell? ⟨w1.heap.size, 4, none⟩ = some (.slice qh.A4 (staF L f).f4.length qh.c4) := KS6.out.cell 4
  have ot5 : w6.cell? ⟨w1.heap.size, 5, none⟩ = some (.slice (some ⟨g, 0, none⟩) L.length c) := KS6.out.cell 5
  have fr0 : w6.frozen? ⟨w.heap.size + 1 + 1, 0, none⟩ = false := (KR6.out).free 0
  have cr0 : w6.cell? ⟨w.heap.size + 1 + 1, 0, none⟩ = some (.slice none 0 0) := (KR6.out).cell 0
  have fr1 : w6.frozen? ⟨w.heap.size + 1 + 1, 1, none⟩ = false := (KR6.out).free 1
  have cr1 : w6.cell? ⟨w.heap.size + 1 + 1, 1, none⟩ = some (.slice none 0 0) := (KR6.out).cell 1
  have fr2 : w6.frozen? ⟨w.heap.size + 1 + 1, 2, none⟩ = false := (KR6.out).free 2
  have cr2 : w6.cell? ⟨w.heap.size + 1 + 1, 2, none⟩ = some (.slice none 0 0) := (KR6.out).cell 2
  have fr3 : w6.frozen? ⟨w.heap.size + 1 + 1, 3, none⟩ = false := (KR6.out).free 3
  have cr3 : w6.cell? ⟨w.heap.size + 1 + 1, 3, none⟩ = some (.slice none 0 0) := (KR6.out).cell 3
  have fr4 : w6.frozen? ⟨w.heap.size + 1 + 1, 4, none⟩ = false := (KR6.out).free 4
  have cr4 : w6.cell? ⟨w.heap.size + 1 + 1, 4, none⟩ = some (.slice none 0 0) := (KR6.out).cell 4
  have fr5 : w6.frozen? ⟨w.heap.size + 1 + 1, 5, none⟩ = false := (KR6.out).free 5
  have cr5 : w6.cell? ⟨w.heap.size + 1 + 1, 5, none⟩ = some (.slice none 0 0) := (KR6.out).cell 5
  go_wp2_with fail
  clear ot0 ot1 ot2 ot3 ot4 ot5 cr0 fr0 cr1 fr1 cr2 fr2 cr3 fr3 cr4 fr4 cr5 fr5
  have kF : Bk ((((((w6.setCell ⟨w.heap.size + 1 + 1, 0, none⟩ (.slice qh.A0 (staF L f).f0.length qh.c0)).setCell ⟨w.heap.size + 1 + 1, 1, none⟩ (.slice qh.A1 (staF L f).f1.length qh.c1)).setCell ⟨w.heap.size + 1 + 1, 2, none⟩ (.slice qh.A2 (staF L f).f2.length qh.c2)).setCell ⟨w.heap.size + 1 + 1, 3, none⟩ (.slice qh.A3 (staF L f).f3.length qh.c3)).setCell ⟨w.heap.size + 1 + 1, 4, none⟩ (.slice qh.A4 (staF L f).f4.length qh.c4)).setCell ⟨w.heap.size + 1 + 1, 5, none⟩ (.slice (some ⟨g, 0, none⟩) L.length c)) (w.heap.size + 1 + 1) 59 #[.slice qh.A0 (staF L f).f0.length qh.c0, .slice qh.A1 (staF L f).f1.length qh.c1, .slice qh.A2 (staF L f).f2.length qh.c2, .slice qh.A3 (staF L f).f3.length qh.c3, .slice qh.A4 (staF L f).f4.length qh.c4, .slice (some ⟨g, 0, none⟩) L.length c] := by
    have a0 := KR6.out
    have a1 := a0.set 0 (.slice qh.A0 (staF L f).f0.length qh.c0)
    have a2 := a1.set 1 (.slice qh.A1 (staF L f).f1.length qh.c1)
    have a3 := a2.set 2 (.slice qh.A2 (staF L f).f2.length qh.c2)
    have a4 := a3.set 3 (.slice qh.A3 (staF L f).f3.length qh.c3)
    have a5 := a4.set 4 (.slice qh.A4 (staF L f).f4.length qh.c4)
    have a6 := a5.set 5 (.slice (some ⟨g, 0, none⟩) L.length c)
    simpa using a6
  have bF : ∀ B, B ≤ w.heap.size + 1 + 1 → Below B w6 ((((((w6.setCell ⟨w.heap.size + 1 + 1, 0, none⟩ (.slice qh.A0 (staF L f).f0.length qh.c0)).setCell ⟨w.heap.size + 1 + 1, 1, none⟩ (.slice qh.A1 (staF L f).f1.length qh.c1)).setCell ⟨w.heap.size + 1 + 1, 2, none⟩ (.slice qh.A2 (staF L f).f2.length qh.c2)).setCell ⟨w.heap.size + 1 + 1, 3, none⟩ (.slice qh.A3 (staF L f).f3.length qh.c3)).setCell ⟨w.heap.size + 1 + 1, 4, none⟩ (.slice qh.A4 (staF L f).f4.length qh.c4)).setCell ⟨w.heap.size + 1 + 1, 5, none⟩ (.slice (some ⟨g, 0, none⟩) L.length c)) := fun B hB => (((((((Below.refl _ _).setCell (by show B ≤ w.heap.size + 1 + 1; omega) _).setCell (by show B ≤ w.heap.size + 1 + 1; omega) _).setCell (by show B ≤ w.heap.size + 1 + 1; omega) _).setCell (by show B ≤ w.heap.size + 1 + 1; omega) _).setCell (by show B ≤ w.heap.size + 1 + 1; omega) _).setCell (by show B ≤ w.heap.size + 1 + 1; omega) _)
  have nF : ∀ q, q ≠ w.heap.size + 1 + 1 → ((((((w6.setCell ⟨w.heap.size + 1 + 1, 0, none⟩ (.slice qh.A0 (staF L f).f0.length qh.c0)).setCell ⟨w.heap.size + 1 + 1, 1, none⟩ (.slice qh.A1 (staF L f).f1.length qh.c1)).setCell ⟨w.heap.size + 1 + 1, 2, none⟩ (.slice qh.A2 (staF L f).f2.length qh.c2)).setCell ⟨w.heap.size + 1 + 1, 3, none⟩ (.slice qh.A3 (staF L f).f3.length qh.c3)).setCell ⟨w.heap.size + 1 + 1, 4, none⟩ (.slice qh.A4 (staF L f).f4.length qh.c4)).setCell ⟨w.heap.size + 1 + 1, 5, none⟩ (.slice (some ⟨g, 0, none⟩) L.length c)).heap[q]? = w6.heap[q]? := fun q hq => (Below.heap_setCell _ _ _ q (by show q ≠ w.heap.size + 1 + 1; omega)).trans ((Below.heap_setCell _ _ _ q (by show q ≠ w.heap.size + 1 + 1; omega)).trans ((Below.heap_setCell _ _ _ q (by show q ≠ w.heap.size + 1 + 1; omega)).trans ((Below.heap_setCell _ _ _ q (by show q ≠ w.heap.size + 1 + 1; omega)).trans ((Below.heap_setCell _ _ _ q (by show q ≠ w.heap.size + 1 + 1; omega)).trans (Below.heap_setCell _ _ _ q (by show q ≠ w.heap.size + 1 + 1; omega))))))
  have sF : ((((((w6.setCell ⟨w.heap.size + 1 + 1, 0, none⟩ (.slice qh.A0 (staF L f).f0.length qh.c0)).setCell ⟨w.heap.size + 1 + 1, 1, none⟩ (.slice qh.A1 (staF L f).f1.length qh.c1)).setCell ⟨w.heap.size + 1 + 1, 2, none⟩ (.slice qh.A2 (staF L f).f2.length qh.c2)).setCell ⟨w.heap.size + 1 + 1, 3, none⟩ (.slice qh.A3 (staF L f).f3.length qh.c3)).setCell ⟨w.heap.size + 1 + 1, 4, none⟩ (.slice qh.A4 (staF L f).f4.length qh.c4)).setCell ⟨w.heap.size + 1 + 1, 5, none⟩ (.slice (some ⟨g, 0, none⟩) L.length c)).heap.size = w6.heap.size := by simp
  have KF := Lib.hid kF
  have BF := Lib.hid bF
  have NF := Lib.hid nF
  obtain ⟨F, hF⟩ : ∃ F, F = ((((((w6.setCell ⟨w.heap.size + 1 + 1, 0, none⟩ (.slice qh.A0 (staF L f).f0.length qh.c0)).setCell ⟨w.heap.size + 1 + 1, 1, none⟩ (.slice qh.A1 (staF L f).f1.length qh.c1)).setCell ⟨w.heap.size + 1 + 1, 2, none⟩ (.slice qh.A2 (staF L f).f2.length qh.c2)).setCell ⟨w.heap.size + 1 + 1, 3, none⟩ (.slice qh.A3 (staF L f).f3.length qh.c3)).setCell ⟨w.heap.size + 1 + 1, 4, none⟩ (.slice qh.A4 (staF L f).f4.length qh.c4)).setCell ⟨w.heap.size + 1 + 1, 5, none⟩ (.slice (some ⟨g, 0, none⟩) L.length c)) := ⟨_, rfl⟩
  rw [← hF] at KF BF NF sF
  rw [← hF]
  clear kF bF nF hF
  have sFa := Nat.le_of_eq sF
  have sFb := Nat.le_of_eq sF.symm
  clear sF
  have cF0 := KF.out.cell 0
  have cF1 := KF.out.cell 1
  have cF2 := KF.out.cell 2
  have cF3 := KF.out.cell 3
  have cF4 := KF.out.cell 4
  have cF5 := KF.out.cell 5
  simp only [List.getElem?_toArray, List.getElem?_cons_zero, List.getElem?_cons_succ] at cF0 cF1 cF2 cF3 cF4 cF5
  refine bodyPost_ret (v := .agg #[.slice qh.A0 (staF L f).f0.length qh.c0, .slice qh.A1 (staF L f).f1.length qh.c1, .slice qh.A2 (staF L f).f2.length qh.c2, .slice qh.A3 (staF L f).f3.length qh.c3, .slice qh.A4 (staF L f).f4.length qh.c4, .slice (some ⟨g, 0, none⟩) L.length c]) (by simp [results, Try.results91, cF0, cF1, cF2, cF3, cF4, cF5, go_sem]) rfl ?_
  have F6 : ∀ q, q ≠ w.heap.size + 1 + 1 → F.heap[q]? = w6.heap[q]? := fun q hq => NF.out q hq
  have F5 : ∀ q, bs ≤ q → q < w5.heap.size → F.heap[q]? = w5.heap[q]? := fun q h1 h2 => (F6 q (by omega)).trans (ON6.out.block q h2 (Or.inr (by omega)))
  have hg4g : g4 ≠ g := by
    obtain ⟨_, _, cu, h1⟩ := own_blk Own4.out
    exact bk_types h1 ((HK4.out g rg2 gtg.symm).trans RG3.out) (by decide)
  have hrow : rowS (updB b t (b t ++ [n * 4 + sumF f t xb xc]) t) = rowS (b t) ++ [(n : Int), (sv : Int)] := by
    rw [HSV.out, updB_same, rowS_snoc, show (n * 4 + sv) / 4 = n by omega, show (n * 4 + sv) % 4 = sv by omega]
  refine ⟨⟨qh, ⟨some ⟨g, 0, none⟩, c⟩⟩, ?_, B6.out.trans (BF.out _ (by omega)), ?_, ?_⟩
  · rw [← bufV_of qh (some ⟨g, 0, none⟩) c L f]
  · have e : staF L (upd (ownF f t ⟨2, (n : Int), xb, xc, false⟩) (3 + t) (nextF L f t ⟨2, (n : Int), xb, xc, false⟩)) = staF L (goF L f t ⟨2, (n : Int), xb, xc, false⟩) := staF_congr (fun p hp => by
      rw [ownF_id (Or.inr (Or.inl rfl))]
      unfold goF
      rw [keptF_hi h32 hp])
    show StaI F _ _ qh (staF L _)
    rw [← e]
    exact (O6.out.keep (by omega) (by omega) fun q h1 h2 => F6 q (by omega)).in_
  · refine CU.out.iss (t := t) (by omega) (fun i hi => updB_other _ _ hi) (fun i hi hne => ?_) (fun i hi hne => ?_) (Ai := some ⟨g4, 0, none⟩) (ci := cap4) (fun _ => ?_) (fun _ => ?_)
    · exact (World.cell?_of_block (a := ⟨g, i, none⟩) (F5 g rg1 (by omega))).trans ((E5.out i hne).trans (World.cell?_of_block (a := ⟨g, i, none⟩) (HK4.out g rg2 gtg.symm)))
    · obtain ⟨q1, q2, q3⟩ := RA.out i hi
      exact (F5 _ q1 (by omega)).trans ((O5.out _ q3).trans (HK4.out _ q2 (RN.out i hi hne)))
    · rw [hrow, List.length_append, HM.out]
      exact (World.cell?_of_block (a := ⟨g, t, none⟩) (F5 g rg1 (by omega))).trans C5.out
    · rw [hrow]
      have own := Own4.out
      rw [show ints (rowS (b t)) ++ [.int .i64 (n : Int), .int .i64 (sv : Int)] = ints (rowS (b t) ++ [(n : Int), (sv : Int)]) by simp [ints]] at own
      obtain ⟨y1, y2, _⟩ := own_blk own
      exact row_in own ((F5 g4 y1 (by omega)).trans (O5.out g4 hg4g)) (by omega) (by omega)
/-- What the reference model's l7Do comes to. -/
theorem sbdo_any (h : PgH) (k : BufH) (L : Pg) (f : Nat → Nat) (b : Nat → List Nat) (st : Nat) (w : World) (B : Nat) (hP : PgR w B h L) (hS : BufR w B k (bufOf L f b)) (hB : B ≤ w.heap.size) (hL : progB L = true) (hf : Good L f) (hst : st < L.length * (1 + 1)) (hc : canQ 1 L f b st = true) (h4 : ∀ n, n < 2 → f (20 + n) ≤ 4) (hb6 : okB9 b 6) :
    Calls Try.prog 91 #[PgV h L, BufV k (bufOf L f b), .int .i64 st] w (AnsI w (bufOf L (stepQ 1 L f b st).1 (stepQ 1 L f b st).2)) := by
  obtain ⟨h31, h32⟩ := prog_len hL
  by_cases hs : L.length ≤ st
  · obtain ⟨t, rfl⟩ : ∃ t, st = L.length + t := ⟨st - L.length, by omega⟩
    rw [canQ_hi (show t < L.length * 1 by omega)] at hc
    unfold stepQ
    rw [if_pos hs, show L.length + t - L.length = t by omega]
    cases hbt : b t with
    | nil => rw [hbt] at hc; simp at hc
    | cons c r => exact sbdo_take h k L f b t w B hP hS hB hL hf (by omega) hb6 c r hbt
  · have ht : st < L.length := by omega
    rw [canQ_lo ht] at hc
    simp only [Bool.and_eq_true] at hc
    have hcf := hc.1
    obtain ⟨hml, hxok⟩ := can_lt hL hf ht hcf
    unfold stepQ
    rw [if_neg hs]
    obtain ⟨x, hx⟩ : ∃ x, smAt L st (f (3 + st)) = x := ⟨_, rfl⟩
    rw [hx] at hxok ⊢
    obtain ⟨xk, xa, xb, xc, xs⟩ := x
    have hxo : okB xk xa xb xc xs = true := hxok
    simp only
    by_cases hp : xk = 2 ∧ xs = false
    · rw [if_pos hp]
      obtain ⟨rfl, rfl⟩ := hp
      obtain ⟨n, hn3, rfl⟩ := ok_a3 hxo (by omega)
      rw [Int.toNat_natCast, bfi1]
      exact sbdo_put h k L f b st w B hP hS hB hL hf ht hb6 hcf h4 n xb xc hx hn3 (ok_sum hxo (by omega))
    · rw [if_neg hp]
      by_cases h1 : xk = 1
      · rw [if_pos h1]
        subst h1
        obtain ⟨n, hn3, rfl⟩ := ok_a3 hxo (by omega)
        obtain ⟨m, hm3, rfl⟩ := ok_b3 hxo (by omega)
        rw [Int.toNat_natCast, Int.toNat_natCast, bfi1]
        exact sbdo_load h k L f b st w B hP hS hB hL hf ht hb6 hcf h4 n m xc xs hx hn3 hm3 _ (Lib.hid rfl) (rdC_lt (mem_lt hf.ok hm3))
      · rw [if_neg h1]
        by_cases h2 : xk = 2
        · subst h2
          cases xs with
          | false => exact absurd ⟨rfl, rfl⟩ hp
          | true => exact sbdo_restb h k L f b st w B hP hS hB hL hf ht hb6 hcf h4 2 xa xb xc true hx
        · exact sbdo_resta h k L f b st w B hP hS hB hL hf ht hb6 hcf h4 xk xa xb xc xs hx (beq_eq_false_iff_ne.2 h1) (beq_eq_false_iff_ne.2 h2)
end Go.Proofs.Ytnadihepgmbhaaa
