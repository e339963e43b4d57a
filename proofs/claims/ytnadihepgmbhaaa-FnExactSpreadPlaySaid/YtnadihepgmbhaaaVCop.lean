/-
  What the reference model's l8Copy comes to: a state with a buffer for each place of the call's own.
-/
import Derived.Test.YtnadihepgmbhaaaSpr
import Derived.Test.YtnadihepgmbhaaaSCopy
import Derived.Test.YtnadihepgmbhaaaVSbg
import Derived.Test.YtnadihepgmbhaaaQMake
import Derived.Deep.QuietTactic
import Derived.BigQuiet
import Derived.Deep.AppendLies
namespace Go.Proofs.Ytnadihepgmbhaaa
open Go.RowKit Pl Go.BigFrame
set_option maxHeartbeats 4000000
set_option maxRecDepth 100000
set_option linter.unusedVariables false

/-- A new list of the call's own, with its room. -/
def MadeO (w : World) (zs : List Int) (e : Ending) (w' : World) : Prop :=
  ∃ g cap, e = .returned (.slice (some ⟨g, 0, none⟩) zs.length cap) ∧ zs.length ≤ cap ∧ cap ≤ maxLen ∧ w.heap.size ≤ g ∧ Below w.heap.size w w' ∧ w'.ownsRow w.heap.size 3 1 (.slice (some ⟨g, 0, none⟩) zs.length cap) zs.length (ints zs)
theorem nums_own (A : Option Addr) (c : Nat) (xs : List Int) (w : World) (B : Nat) (hR : Vs w B A (ints xs)) (hB : B ≤ w.heap.size) (hl : xs.length ≤ 1000) :
    Calls Try.prog 126 #[.slice A xs.length c] w (MadeO w xs) := by
  obtain ⟨i0, hi, iz0, iz1, iz2⟩ := info_parts Try.info3
  have start : Hid ((w.alloc (.cells #[] 3)).ownsRow w.heap.size 3 1 (.slice (some ⟨w.heap.size, 0, none⟩) 0 0) 0 (ints (xs.take 0))) := Lib.hid (World.ownsRow_made w #[] 0 (Nat.le_refl _) (by decide) (by simp))
  have HR := Lib.hid hR
  clear hR
  go_enter Try.func126, Try.ntmps126
  go_wp2
  go_loopw [3, 4] (fun v i wr => ∃ k g cap : Nat, k ≤ xs.length ∧ i = .int .i64 k ∧ v = .slice (some ⟨g, 0, none⟩) k cap ∧ w.heap.size ≤ g ∧ wr.ownsRow w.heap.size 3 1 (.slice (some ⟨g, 0, none⟩) k cap) k (ints (xs.take k)) ∧ Below w.heap.size w wr) (fun _ i _ => xs.length - (intOf i).toNat)
  case atStart => exact ⟨0, _, 0, Nat.zero_le _, rfl, rfl, Nat.le_refl _, start.out, (Below.refl _ _).alloc (Nat.le_refl _) _⟩
  case round =>
    obtain ⟨k, g, cap, hk, rfl, rfl, hgg, hown, hbel⟩ := hrel
    clear start
    have hz := hbel.size
    by_cases hlt : k < xs.length
    · obtain ⟨b, off, x, hA, hb, hx, -, hc⟩ := (HR.out.below hbel (by omega)).int_ hlt
      have Hx : Hid (ints (xs.take (k + 1)) = ints (xs.take k) ++ [.int .i64 x]) := Lib.hid (by simp [ints, List.take_add_one, hx])
      have Hown := Lib.hid hown
      have Hb := Lib.hid hbel
      have hbw : b < wr.heap.size := by omega
      have hi2 : (k : Int) < (xs.length : Int) := by omega
      clear hown hbel hx
      subst hA
      go_wp2_with (at_builtin; refine wpList_append_own _ rfl (.tmp 12) (.tmp 17) 26 rfl w.heap.size 3 i0 _ 1 8 Try.underlying26 hi iz0 iz1 iz2 rfl (by decide) _ k _ rfl (Hown.out.alloc _) ⟨_, 0, none⟩ 1 1 [.int .i64 _] rfl rfl (cell1_new _ _ _) (by intro u hu; simp at hu; subst hu; rfl) (by unfold maxLen; omega) (by omega) (by simp; omega) ?_; intro v' w3 own3 grow3 _; obtain ⟨g3, cap3, rfl, hg3, hlt3⟩ := own3.form (by omega); have Own3 := Lib.hid own3; have B3 := Lib.hid ((Hb.out.alloc hz _).grown grow3 (by simp; omega) (by intro qh hq; cases hq; exact hgg)); clear own3 grow3)
      go_roundw
      case rel => exact ⟨k + 1, g3, cap3, by omega, by go_num, rfl, hg3, by rw [Hx.out]; exact Own3.out, B3.out⟩
      case measure => simp [intOf]; omega
    · have hkl : k = xs.length := by omega
      subst hkl
      have Hown := Lib.hid hown
      clear hown
      go_wp2
      go_ret
      obtain ⟨h1, h2⟩ := own_cap Hown.out
      exact ⟨g, cap, by simp, h1, h2, hgg, hbel, by simpa using Hown.out⟩
/-- Rows of the call's own below a list of headers, from block base on: each row in a block that no other one has. -/
structure RwH (w : World) (base : Nat) (L : Iss) (hs : List Value) (m : Nat) (G C : Nat → Nat) : Prop where
  len : hs.length = m
  at_ : ∀ i xs, i < m → L[i]? = some xs → hs[i]? = some (.slice (some ⟨G i, 0, none⟩) xs.length (C i)) ∧ w.ownsRow base 3 1 (.slice (some ⟨G i, 0, none⟩) xs.length (C i)) xs.length (ints xs)
  apart : ∀ i j, i < j → j < m → G i ≠ G j
theorem own_blk {w : World} {base n c g : Nat} {t : TypeId} {zs : List Value} (h : w.ownsRow base t 1 (.slice (some ⟨g, 0, none⟩) n c) n zs) : base ≤ g ∧ g < w.heap.size ∧ ∃ cu, Bk w g t cu := owns_block h rfl
theorem RwH.kept {w w' : World} {base m : Nat} {L : Iss} {hs : List Value} {G C : Nat → Nat} (h : RwH w base L hs m G C) (hL : m ≤ L.length) {row : Option Nat} (hg : w.grownBy w' row) (hne : ∀ i, i < m → some (G i) ≠ row) : RwH w' base L hs m G C :=
  ⟨h.len, fun i xs hi hx => ⟨(h.at_ i xs hi hx).1, (h.at_ i xs hi hx).2.kept hg (Or.inr (by simpa [Value.ownBlock] using hne i hi))⟩, h.apart⟩
theorem RwH.setCell {w : World} {base m : Nat} {L : Iss} {hs : List Value} {G C : Nat → Nat} (h : RwH w base L hs m G C) {p : Addr} (hne : ∀ i, i < m → G i ≠ p.block) (v : Value) : RwH (w.setCell p v) base L hs m G C :=
  ⟨h.len, fun i xs hi hx => ⟨(h.at_ i xs hi hx).1, ownsRow_setCell_other (h.at_ i xs hi hx).2 (by simpa [Value.ownBlock] using hne i hi) v⟩, h.apart⟩
theorem RwH.snoc {w : World} {base m g c : Nat} {L : Iss} {hs : List Value} {G C : Nat → Nat} {xs : List Int} (h : RwH w base L hs m G C) (hx : L[m]? = some xs) (ho : w.ownsRow base 3 1 (.slice (some ⟨g, 0, none⟩) xs.length c) xs.length (ints xs)) (hne : ∀ i, i < m → G i ≠ g) :
    RwH w base L (hs ++ [.slice (some ⟨g, 0, none⟩) xs.length c]) (m + 1) (fun i => if i = m then g else G i) (fun i => if i = m then c else C i) := by
  refine ⟨by simp [h.len], fun i ys hi hy => ?_, fun i j hij hj => ?_⟩
  · by_cases e : i = m
    · subst e
      rw [hx] at hy; injection hy with hy; subst hy
      simp only [if_true]
      exact ⟨by rw [List.getElem?_append_right (by rw [h.len]; exact Nat.le_refl _), h.len]; simp, ho⟩
    · simp only [if_neg e]
      obtain ⟨a1, a2⟩ := h.at_ i ys (by omega) hy
      exact ⟨by rw [List.getElem?_append_left (by rw [h.len]; omega)]; exact a1, a2⟩
  · by_cases e : j = m
    · subst e
      have e' : i ≠ j := by omega
      simp only [if_true, if_neg e']
      exact hne i hij
    · have e' : i ≠ m := by omega
      simp only [if_neg e, if_neg e']
      exact h.apart i j hij (by omega)
theorem bk_types {w : World} {g g' : Nat} {t t' : TypeId} {cs cs' : Array Value} (h : Bk w g t cs) (h' : Bk w g' t' cs') (hne : t ≠ t') : g ≠ g' := fun e => by
  subst e
  unfold Bk at h h'
  rw [h] at h'
  injection h' with h'
  injection h' with _ h'
  exact hne h'
/-- A copy at work: the box of the copy, its list of headers, its rows. -/
structure CpB (w1 wr : World) (o : Buf) (qh : StaH) (m : Nat) (A : Option Addr) (c : Nat) (hs : List Value) (G C : Nat → Nat) : Prop where
  bel : Below w1.heap.size w1 wr
  box : Bk wr w1.heap.size 31 #[.slice qh.A0 o.st.f0.length qh.c0, .slice qh.A1 o.st.f1.length qh.c1, .slice qh.A2 o.st.f2.length qh.c2, .slice qh.A3 o.st.f3.length qh.c3, .slice qh.A4 o.st.f4.length qh.c4, .slice A m c]
  own : wr.ownsRow (w1.heap.size + 1) 26 1 (.slice A m c) m hs
  rows : RwH wr (w1.heap.size + 1) o.bs hs m G C
theorem cpb_next {w1 wr w3 w4 : World} {o : Buf} {qh : StaH} {m c g cap g4 cap4 : Nat} {A : Option Addr} {hs : List Value} {G C : Nat → Nat} {xs : List Int} {ob : Obj} (cp : CpB w1 wr o qh m A c hs G C) (hx : o.bs[m]? = some xs) (hb3 : Below wr.heap.size wr w3)
    (ownH : w3.ownsRow (w1.heap.size + 1) 26 1 (.slice A m c) m hs) (own3 : w3.ownsRow (w1.heap.size + 1) 3 1 (.slice (some ⟨g, 0, none⟩) xs.length cap) xs.length (ints xs)) (hg : wr.heap.size ≤ g)
    (own4 : w4.ownsRow (w1.heap.size + 1) 26 1 (.slice (some ⟨g4, 0, none⟩) (m + 1) cap4) (m + 1) (hs ++ [.slice (some ⟨g, 0, none⟩) xs.length cap])) (grow4 : (w3.alloc ob).grownBy w4 (Value.slice A m c).ownBlock) :
    Bk w4 w1.heap.size 31 #[.slice qh.A0 o.st.f0.length qh.c0, .slice qh.A1 o.st.f1.length qh.c1, .slice qh.A2 o.st.f2.length qh.c2, .slice qh.A3 o.st.f3.length qh.c3, .slice qh.A4 o.st.f4.length qh.c4, .slice A m c] ∧ (∀ b, b < w1.heap.size → w4.heap[b]? = w3.heap[b]?) ∧
    CpB w1 (w4.setCell ⟨w1.heap.size, 5, none⟩ (.slice (some ⟨g4, 0, none⟩) (m + 1) cap4)) o qh (m + 1) (some ⟨g4, 0, none⟩) cap4 (hs ++ [.slice (some ⟨g, 0, none⟩) xs.length cap]) (fun i => if i = m then g else G i) (fun i => if i = m then cap else C i) := by
  have hml : m < o.bs.length := (List.getElem?_eq_some_iff.1 hx).1
  have z3 := hb3.size
  have zr := cp.bel.size
  have lb := cp.box.lt
  have g4s : w3.heap.size + 1 ≤ w4.heap.size := by have := grow4.size; simpa using this
  have hne : ∀ b, (Value.slice A m c).ownBlock = some b → w1.heap.size + 1 ≤ b ∧ ∃ cu, Bk w3 b 26 cu := fun b hb => by
    obtain ⟨h1, _, h2⟩ := owns_block ownH hb.symm
    exact ⟨h1, h2⟩
  have k3 := cp.box.below hb3 lb
  have k4 : Bk w4 w1.heap.size 31 #[.slice qh.A0 o.st.f0.length qh.c0, .slice qh.A1 o.st.f1.length qh.c1, .slice qh.A2 o.st.f2.length qh.c2, .slice qh.A3 o.st.f3.length qh.c3, .slice qh.A4 o.st.f4.length qh.c4, .slice A m c] := box_grown (k3.alloc ob) grow4 (fun b hb => by have := (hne b hb).1; omega)
  have hlow : ∀ b, b < w1.heap.size → w4.heap[b]? = w3.heap[b]? := fun b hb => (grow4.block b (by simp; omega) (fun e => by have := (hne b e.symm).1; omega)).trans (Below.heap_alloc w3 ob b (by omega))
  have r3 := cp.rows.kept (by omega) (grown_of_below hb3 none) (fun i hi => by simp)
  have ga : w3.grownBy (w3.alloc ob) none := grown_of_below ((Below.refl _ _).alloc (Nat.le_refl _) ob) none
  have rowne : ∀ {b cu}, Bk w3 b 3 cu → some b ≠ (Value.slice A m c).ownBlock := fun hb e => by
    obtain ⟨_, cu', hb'⟩ := hne _ e.symm
    exact bk_types hb hb' (by decide) rfl
  have r4 := (r3.kept (by omega) ga (fun i hi => by simp)).kept (by omega) grow4 (fun i hi => by
    obtain ⟨_, _, cu, hb⟩ := own_blk (r3.at_ i _ hi (List.getElem?_eq_getElem (by omega))).2
    exact rowne hb)
  have o4 := (own3.kept ga (Or.inr (by simp [Value.ownBlock]))).kept grow4 (Or.inr (by
    obtain ⟨_, _, cu, hb⟩ := own_blk own3
    simpa [Value.ownBlock] using rowne hb))
  have hga := (own_blk own3).1
  have r5 := (r4.snoc hx o4 (fun i hi => by
    obtain ⟨_, h2, _⟩ := own_blk (cp.rows.at_ i _ hi (List.getElem?_eq_getElem (by omega))).2
    omega))
  refine ⟨k4, hlow, ?_, by have := k4.set 5 (.slice (some ⟨g4, 0, none⟩) (m + 1) cap4); simpa using this, ownsRow_setCell_below own4 (by show w1.heap.size < w1.heap.size + 1; omega) _, r5.setCell (fun i hi => ?_) _⟩
  · exact (((cp.bel.trans (hb3.mono zr)).alloc (by omega) ob).grown grow4 (by simp; omega) (fun b hb => by have := (hne b hb).1; omega)).setCell (Nat.le_refl _) _
  · show (if i = m then g else G i) ≠ w1.heap.size
    by_cases e : i = m
    · rw [if_pos e]; omega
    · rw [if_neg e]
      have := (own_blk (cp.rows.at_ i _ (by omega) (List.getElem?_eq_getElem (by omega))).2).1
      omega
/-- What l8Copy comes to. -/
def CopB (w : World) (o : Buf) (e : Ending) (w' : World) : Prop :=
  ∃ (qh : StaH) (A : Option Addr) (c : Nat) (hs : List Value) (G C : Nat → Nat) (lo hi bs : Nat), e = .returned (BufV ⟨qh, ⟨A, c⟩⟩ o) ∧ Below w.heap.size w w' ∧ w.heap.size ≤ lo ∧ hi ≤ bs ∧ bs ≤ w'.heap.size ∧ StaO w' lo hi qh o.st ∧ w'.ownsRow bs 26 1 (.slice A o.bs.length c) o.bs.length hs ∧ RwH w' bs o.bs hs o.bs.length G C
theorem s8copy_any (k : BufH) (o : Buf) (w : World) (B : Nat) (hS : BufR w B k o) (hB : B ≤ w.heap.size) (hl : StaL o.st 1000) (hn : o.bs.length ≤ 1000) (hr : ∀ xs ∈ o.bs, xs.length ≤ 1000) :
    Calls Try.prog 125 #[BufV k o] w (CopB w o) := by
  obtain ⟨i1, hi1, jz0, jz1, jz2⟩ := info_parts info_il
  obtain ⟨W, hW⟩ : ∃ W, W = (w.alloc (.cells #[.slice k.h.A0 o.st.f0.length k.h.c0, .slice k.h.A1 o.st.f1.length k.h.c1, .slice k.h.A2 o.st.f2.length k.h.c2, .slice k.h.A3 o.st.f3.length k.h.c3, .slice k.h.A4 o.st.f4.length k.h.c4, .slice k.k.A o.bs.length k.k.c] 31)).alloc (.cells #[.slice none 0 0, .slice none 0 0, .slice none 0 0, .slice none 0 0, .slice none 0 0, .slice none 0 0] 31) := ⟨_, rfl⟩
  have bW : Below w.heap.size w W := by rw [hW]; go_grown
  have sW : W.heap.size = w.heap.size + 1 + 1 := by rw [hW]; simp
  have k0 : Bk W w.heap.size 31 #[.slice k.h.A0 o.st.f0.length k.h.c0, .slice k.h.A1 o.st.f1.length k.h.c1, .slice k.h.A2 o.st.f2.length k.h.c2, .slice k.h.A3 o.st.f3.length k.h.c3, .slice k.h.A4 o.st.f4.length k.h.c4, .slice k.k.A o.bs.length k.k.c] := by rw [hW]; exact (Bk.new w _ _).alloc _
  have k1 : Bk W (w.heap.size + 1) 31 #[.slice none 0 0, .slice none 0 0, .slice none 0 0, .slice none 0 0, .slice none 0 0, .slice none 0 0] := by
    rw [hW]; have := Bk.new (w.alloc (.cells #[.slice k.h.A0 o.st.f0.length k.h.c0, .slice k.h.A1 o.st.f1.length k.h.c1, .slice k.h.A2 o.st.f2.length k.h.c2, .slice k.h.A3 o.st.f3.length k.h.c3, .slice k.h.A4 o.st.f4.length k.h.c4, .slice k.k.A o.bs.length k.k.c] 31)) #[.slice none 0 0, .slice none 0 0, .slice none 0 0, .slice none 0 0, .slice none 0 0, .slice none 0 0] 31
    rwa [World.size_alloc] at this
  have Q0 := Lib.hid (hS.below bW hB)
  have K0 := Lib.hid k0
  have K1 := Lib.hid k1
  have BW := Lib.hid bW
  have sWa := Nat.le_of_eq sW
  have sWb := Nat.le_of_eq sW.symm
  have HW := Lib.hid hW
  have HRL := Lib.hid hr
  clear k0 k1 bW sW hW hS hr
  go_enter Try.func125, Try.ntmps125
  go_wp2_with fail
  rw [← HW.out]
  refine (scopy_any k.h o.st W B Q0.out.s (by omega) hl).mono ?_
  rintro e w1 ⟨qh, rfl, hb1, hz1, oS⟩
  have B1 := Lib.hid (below_on BW.out hb1)
  have Q1 := Lib.hid (Q0.out.below hb1 (by omega))
  have K01 := Lib.hid (K0.out.below hb1 K0.out.lt)
  have K11 := Lib.hid (K1.out.below hb1 K1.out.lt)
  have OS := Lib.hid oS
  clear hb1 oS
  go_wp2_with fail
  obtain ⟨w2, hw2⟩ : ∃ V, V = w1.alloc (.cells #[.slice qh.A0 o.st.f0.length qh.c0, .slice qh.A1 o.st.f1.length qh.c1, .slice qh.A2 o.st.f2.length qh.c2, .slice qh.A3 o.st.f3.length qh.c3, .slice qh.A4 o.st.f4.length qh.c4, .slice none 0 0] 31) := ⟨_, rfl⟩
  rw [← hw2]
  have start : Hid (∃ A c hs G C, CpB w1 w2 o qh 0 A c hs G C) := Lib.hid (by
    rw [hw2]
    exact ⟨none, 0, [], fun _ => 0, fun _ => 0, (Below.refl _ _).alloc (Nat.le_refl _) _, Bk.new _ _ _, World.ownsRow_nil .., rfl, fun i xs hi => absurd hi (by omega), fun i j _ hj => absurd hj (by omega)⟩)
  clear hw2
  go_loopw [4] (fun i wr => ∃ m : Nat, m ≤ o.bs.length ∧ i = .int .i64 m ∧ ∃ A c hs G C, CpB w1 wr o qh m A c hs G C) (fun i _ => o.bs.length - (intOf i).toNat)
  case atStart => exact ⟨0, Nat.zero_le _, rfl, start.out⟩
  case round =>
    obtain ⟨m, hm, rfl, A, c, hs, G, C, cp⟩ := hrel
    clear start
    have hz := cp.bel.size
    have k0r := K01.out.below cp.bel (by have := K01.out.lt; omega)
    have c5 : wr.cell? ⟨w.heap.size, 5, none⟩ = some (.slice k.k.A o.bs.length k.k.c) := k0r.cell 5
    have l5 := k0r.lt
    have K0r := Lib.hid k0r
    by_cases hlt : m < o.bs.length
    · obtain ⟨xs, hxs, -⟩ := drop_at hlt
      have hti : (m : Int) < (o.bs.length : Int) := by omega
      obtain ⟨rb, ro, Ai, ci, hA, hrb, hx0, hrw⟩ := (Q1.out.below cp.bel (by omega)).b.v.at_ (vsIss_at hxs)
      rw [ints_length] at hx0
      have hl1 := HRL.out xs (List.mem_of_getElem? hxs)
      have lrb : rb < wr.heap.size := by omega
      have HCP := Lib.hid cp
      have HX := Lib.hid hxs
      have HRw := Lib.hid hrw
      have cO : wr.cell? ⟨w1.heap.size, 5, none⟩ = some (.slice A m c) := cp.box.cell 5
      have lO := cp.box.lt
      have hwr : wr.heap.size ≤ wr.heap.size := Nat.le_refl _
      have HA := Lib.hid hA
      clear k0r hxs hrw cp
      obtain ⟨S, SI, S0, S1, S2⟩ : ∃ S : World → Prop, (∀ w' : World, w'.cell? ⟨w1.heap.size, 5, none⟩ = some (.slice A m c) → w'.cell? ⟨w.heap.size, 5, none⟩ = some (.slice k.k.A o.bs.length k.k.c) → w'.cell? ⟨rb, ro + m, none⟩ = some (.slice Ai xs.length ci) → S w') ∧ (∀ y : Ws S, y.val.cell? ⟨w1.heap.size, 5, none⟩ = some (.slice A m c)) ∧ (∀ y : Ws S, y.val.cell? ⟨w.heap.size, 5, none⟩ = some (.slice k.k.A o.bs.length k.k.c)) ∧ (∀ y : Ws S, y.val.cell? ⟨rb, ro + m, none⟩ = some (.slice Ai xs.length ci)) :=
        ⟨fun w' => w'.cell? ⟨w1.heap.size, 5, none⟩ = some (.slice A m c) ∧ w'.cell? ⟨w.heap.size, 5, none⟩ = some (.slice k.k.A o.bs.length k.k.c) ∧ w'.cell? ⟨rb, ro + m, none⟩ = some (.slice Ai xs.length ci), fun w' a b c => ⟨a, b, c⟩, fun y => y.ok.1, fun y => y.ok.2.1, fun y => y.ok.2.2⟩
      have HSI := Lib.hid SI
      have HS := Lib.hid (show S wr.drew from SI _ cO c5 hx0)
      haveI hne := Nonempty.intro (Ws.mk wr.drew HS.out)
      have lA : m < 9223372036854775807 := by omega
      clear SI
      have X0 := Lib.hid hx0
      have XO := Lib.hid cO
      have X5 := Lib.hid c5
      go_wp2_with fail
      clear hx0 cO c5
      refine region_make (C := In S) 7 10 (by omega) (by kernel_rfl) (In.mk HS.out) ?_
      simp only [List.take_succ_cons, List.take_zero, List.drop_succ_cons, List.drop_zero]
      repeat (go_big_quiet_step (fail))
      refine wpQuiet_nil ?_
      clear S0 S1 S2
      refine seqC_step (by rfl) ?_
      intro R hR
      go_wp2_with fail
      refine (nums_own Ai ci xs _ B (HRw.out.below ((Below.refl wr.heap.size wr).drew) (by omega)) (by show B ≤ wr.heap.size; omega) hl1).mono ?_
      rintro e w3 ⟨g, cap, rfl, hc1, hc2, hg, hb3', own3⟩
      have hb3 : Below wr.heap.size wr w3 := below_on ((Below.refl wr.heap.size wr).drew) hb3'
      have hg : wr.heap.size ≤ g := hg
      have z3 := hb3.size
      have OwnH := Lib.hid (HCP.out.own.kept (grown_of_below hb3 none) (by cases hv : (Value.slice A m c).ownBlock <;> simp))
      have Own3 := Lib.hid (Joins.ownsRow_le own3 (show w1.heap.size + 1 ≤ wr.drew.heap.size by show w1.heap.size + 1 ≤ wr.heap.size; omega))
      have B3 := Lib.hid hb3
      have S3 := Lib.hid (HSI.out w3 ((hb3.cell (p := ⟨w1.heap.size, 5, none⟩) lO).trans XO.out) ((hb3.cell (p := ⟨w.heap.size, 5, none⟩) l5).trans X5.out) ((hb3.cell (p := ⟨rb, ro + m, none⟩) lrb).trans X0.out))
      have K3 := Lib.hid (HCP.out.box.below hb3 lO)
      have KS3 := Lib.hid (K0r.out.below hb3 l5)
      have X03 := Lib.hid ((hb3.cell (p := ⟨rb, ro + m, none⟩) lrb).trans X0.out)
      have R3 := Lib.hid (HCP.out.rows.kept (by omega) (grown_of_below hb3 none) (fun i hi => by simp))
      clear hb3 hb3' own3
      go_wp2
      refine hR _ _ (fun _ => In.mk S3.out) ?_
      refine seqC_step (by rfl) ?_
      intro R hR
      go_wp2
      have b34 : Below w3.heap.size w3 (w3.alloc (.cells #[.slice (some ⟨g, 0, none⟩) xs.length cap] 26)) := (Below.refl _ _).alloc (Nat.le_refl _) _
      refine hR _ _ (fun _ => In.mk (HSI.out _ ((K3.out.alloc _).cell 5) ((KS3.out.alloc _).cell 5) ((b34.cell (p := ⟨rb, ro + m, none⟩) (by show rb < w3.heap.size; omega)).trans X03.out))) ?_
      clear b34
      refine seqC_step (by rfl) ?_
      intro R hR
      go_wp2_with (at_builtin; refine wpList_append_own _ rfl (.tmp 17) (.tmp 24) 29 rfl (w1.heap.size + 1) 26 i1 _ 1 24 Try.underlying29 hi1 jz0 jz1 jz2 rfl (by decide) _ m hs rfl (OwnH.out.alloc _) ⟨_, 0, none⟩ 1 1 [.slice (some ⟨g, 0, none⟩) xs.length cap] rfl rfl (cell_new1 _ _ _) (by intro u hu; simp at hu; subst hu; rfl) (by unfold maxLen; omega) (by omega) (by simp; omega) ?_; intro v' w4 own4 grow4 _; obtain ⟨g4, cap4, rfl, hg4, hlt4⟩ := own4.form (by omega); have Own4 := Lib.hid own4; have Grow4 := Lib.hid grow4; clear own4 grow4)
      have NX := Lib.hid (cpb_next HCP.out HX.out B3.out OwnH.out Own3.out hg Own4.out Grow4.out)
      have z4 : w3.heap.size + 1 ≤ w4.heap.size := by have := Grow4.out.size; simpa using this
      have low : ∀ b : Nat, b < w1.heap.size → ∀ i : Nat, w4.cell? ⟨b, i, none⟩ = w3.cell? ⟨b, i, none⟩ := fun b hb i => World.cell?_of_block (a := ⟨b, i, none⟩) (NX.out.2.1 b hb)
      have xO4 : w4.cell? ⟨w1.heap.size, 5, none⟩ = some (.slice A m c) := NX.out.1.cell 5
      have fO4 := NX.out.1.free 5
      have S4 := HSI.out w4 xO4 ((low w.heap.size (by omega) 5).trans (KS3.out.cell 5)) ((low rb (by omega) (ro + m)).trans X03.out)
      refine hR _ _ (fun _ => In.mk S4) ?_
      refine seqC_step (by rfl) ?_
      intro R hR
      go_wp2
      refine hR _ _ (fun h => absurd h (by omega)) ?_
      refine seqC_step (by rfl) ?_
      intro R hR
      clear low S4
      go_wp2
      refine hR _ _ (fun h => absurd h (by omega)) ?_
      refine seqC_nil ?_
      clear xO4 fO4
      go_wp2
      go_roundw
      case rel => exact ⟨m + 1, by omega, by go_num, _, _, _, _, _, NX.out.2.2⟩
      case measure => simp [intOf]; omega
    · have hml : m = o.bs.length := by omega
      subst hml
      have HCP := Lib.hid cp
      have HB := Lib.hid (B1.out.trans (cp.bel.mono (by omega)))
      have OS2 := Lib.hid (OS.out.below cp.bel (Nat.le_refl _))
      have K13 := Lib.hid (K11.out.below cp.bel (by have := K11.out.lt; omega))
      have xo0 : wr.cell? ⟨w1.heap.size, 0, none⟩ = some (.slice qh.A0 o.st.f0.length qh.c0) := cp.box.cell 0
      have xo1 : wr.cell? ⟨w1.heap.size, 1, none⟩ = some (.slice qh.A1 o.st.f1.length qh.c1) := cp.box.cell 1
      have xo2 : wr.cell? ⟨w1.heap.size, 2, none⟩ = some (.slice qh.A2 o.st.f2.length qh.c2) := cp.box.cell 2
      have xo3 : wr.cell? ⟨w1.heap.size, 3, none⟩ = some (.slice qh.A3 o.st.f3.length qh.c3) := cp.box.cell 3
      have xo4 : wr.cell? ⟨w1.heap.size, 4, none⟩ = some (.slice qh.A4 o.st.f4.length qh.c4) := cp.box.cell 4
      have xo5 : wr.cell? ⟨w1.heap.size, 5, none⟩ = some (.slice A o.bs.length c) := cp.box.cell 5
      clear k0r cp
      have fr0 : wr.frozen? ⟨w.heap.size + 1, 0, none⟩ = false := (K13.out).free 0
      have cr0 : wr.cell? ⟨w.heap.size + 1, 0, none⟩ = some (.slice none 0 0) := (K13.out).cell 0
      have fr1 : wr.frozen? ⟨w.heap.size + 1, 1, none⟩ = false := (K13.out).free 1
      have cr1 : wr.cell? ⟨w.heap.size + 1, 1, none⟩ = some (.slice none 0 0) := (K13.out).cell 1
      have fr2 : wr.frozen? ⟨w.heap.size + 1, 2, none⟩ = false := (K13.out).free 2
      have cr2 : wr.cell? ⟨w.heap.size + 1, 2, none⟩ = some (.slice none 0 0) := (K13.out).cell 2
      have fr3 : wr.frozen? ⟨w.heap.size + 1, 3, none⟩ = false := (K13.out).free 3
      have cr3 : wr.cell? ⟨w.heap.size + 1, 3, none⟩ = some (.slice none 0 0) := (K13.out).cell 3
      have fr4 : wr.frozen? ⟨w.heap.size + 1, 4, none⟩ = false := (K13.out).free 4
      have cr4 : wr.cell? ⟨w.heap.size + 1, 4, none⟩ = some (.slice none 0 0) := (K13.out).cell 4
      have fr5 : wr.frozen? ⟨w.heap.size + 1, 5, none⟩ = false := (K13.out).free 5
      have cr5 : wr.cell? ⟨w.heap.size + 1, 5, none⟩ = some (.slice none 0 0) := (K13.out).cell 5
      go_wp2
      clear cr0 fr0 xo0 cr1 fr1 xo1 cr2 fr2 xo2 cr3 fr3 xo3 cr4 fr4 xo4 cr5 fr5 xo5
      have kF : Bk ((((((wr.setCell ⟨w.heap.size + 1, 0, none⟩ (.slice qh.A0 o.st.f0.length qh.c0)).setCell ⟨w.heap.size + 1, 1, none⟩ (.slice qh.A1 o.st.f1.length qh.c1)).setCell ⟨w.heap.size + 1, 2, none⟩ (.slice qh.A2 o.st.f2.length qh.c2)).setCell ⟨w.heap.size + 1, 3, none⟩ (.slice qh.A3 o.st.f3.length qh.c3)).setCell ⟨w.heap.size + 1, 4, none⟩ (.slice qh.A4 o.st.f4.length qh.c4)).setCell ⟨w.heap.size + 1, 5, none⟩ (.slice A o.bs.length c)) (w.heap.size + 1) 31 #[.slice qh.A0 o.st.f0.length qh.c0, .slice qh.A1 o.st.f1.length qh.c1, .slice qh.A2 o.st.f2.length qh.c2, .slice qh.A3 o.st.f3.length qh.c3, .slice qh.A4 o.st.f4.length qh.c4, .slice A o.bs.length c] := by
        have a0 := K13.out
        have a1 := a0.set 0 (.slice qh.A0 o.st.f0.length qh.c0)
        have a2 := a1.set 1 (.slice qh.A1 o.st.f1.length qh.c1)
        have a3 := a2.set 2 (.slice qh.A2 o.st.f2.length qh.c2)
        have a4 := a3.set 3 (.slice qh.A3 o.st.f3.length qh.c3)
        have a5 := a4.set 4 (.slice qh.A4 o.st.f4.length qh.c4)
        have a6 := a5.set 5 (.slice A o.bs.length c)
        simpa using a6
      have bF : ∀ B, B ≤ w.heap.size + 1 → Below B wr ((((((wr.setCell ⟨w.heap.size + 1, 0, none⟩ (.slice qh.A0 o.st.f0.length qh.c0)).setCell ⟨w.heap.size + 1, 1, none⟩ (.slice qh.A1 o.st.f1.length qh.c1)).setCell ⟨w.heap.size + 1, 2, none⟩ (.slice qh.A2 o.st.f2.length qh.c2)).setCell ⟨w.heap.size + 1, 3, none⟩ (.slice qh.A3 o.st.f3.length qh.c3)).setCell ⟨w.heap.size + 1, 4, none⟩ (.slice qh.A4 o.st.f4.length qh.c4)).setCell ⟨w.heap.size + 1, 5, none⟩ (.slice A o.bs.length c)) := fun B hB => (((((((Below.refl _ _).setCell (by show B ≤ w.heap.size + 1; omega) _).setCell (by show B ≤ w.heap.size + 1; omega) _).setCell (by show B ≤ w.heap.size + 1; omega) _).setCell (by show B ≤ w.heap.size + 1; omega) _).setCell (by show B ≤ w.heap.size + 1; omega) _).setCell (by show B ≤ w.heap.size + 1; omega) _)
      have nF : ∀ q, q ≠ w.heap.size + 1 → ((((((wr.setCell ⟨w.heap.size + 1, 0, none⟩ (.slice qh.A0 o.st.f0.length qh.c0)).setCell ⟨w.heap.size + 1, 1, none⟩ (.slice qh.A1 o.st.f1.length qh.c1)).setCell ⟨w.heap.size + 1, 2, none⟩ (.slice qh.A2 o.st.f2.length qh.c2)).setCell ⟨w.heap.size + 1, 3, none⟩ (.slice qh.A3 o.st.f3.length qh.c3)).setCell ⟨w.heap.size + 1, 4, none⟩ (.slice qh.A4 o.st.f4.length qh.c4)).setCell ⟨w.heap.size + 1, 5, none⟩ (.slice A o.bs.length c)).heap[q]? = wr.heap[q]? := fun q hq => (Below.heap_setCell _ _ _ q (by show q ≠ w.heap.size + 1; omega)).trans ((Below.heap_setCell _ _ _ q (by show q ≠ w.heap.size + 1; omega)).trans ((Below.heap_setCell _ _ _ q (by show q ≠ w.heap.size + 1; omega)).trans ((Below.heap_setCell _ _ _ q (by show q ≠ w.heap.size + 1; omega)).trans ((Below.heap_setCell _ _ _ q (by show q ≠ w.heap.size + 1; omega)).trans (Below.heap_setCell _ _ _ q (by show q ≠ w.heap.size + 1; omega))))))
      have sF : ((((((wr.setCell ⟨w.heap.size + 1, 0, none⟩ (.slice qh.A0 o.st.f0.length qh.c0)).setCell ⟨w.heap.size + 1, 1, none⟩ (.slice qh.A1 o.st.f1.length qh.c1)).setCell ⟨w.heap.size + 1, 2, none⟩ (.slice qh.A2 o.st.f2.length qh.c2)).setCell ⟨w.heap.size + 1, 3, none⟩ (.slice qh.A3 o.st.f3.length qh.c3)).setCell ⟨w.heap.size + 1, 4, none⟩ (.slice qh.A4 o.st.f4.length qh.c4)).setCell ⟨w.heap.size + 1, 5, none⟩ (.slice A o.bs.length c)).heap.size = wr.heap.size := by simp
      have KF := Lib.hid kF
      have BF := Lib.hid bF
      have NF := Lib.hid nF
      obtain ⟨F, hF⟩ : ∃ F, F = ((((((wr.setCell ⟨w.heap.size + 1, 0, none⟩ (.slice qh.A0 o.st.f0.length qh.c0)).setCell ⟨w.heap.size + 1, 1, none⟩ (.slice qh.A1 o.st.f1.length qh.c1)).setCell ⟨w.heap.size + 1, 2, none⟩ (.slice qh.A2 o.st.f2.length qh.c2)).setCell ⟨w.heap.size + 1, 3, none⟩ (.slice qh.A3 o.st.f3.length qh.c3)).setCell ⟨w.heap.size + 1, 4, none⟩ (.slice qh.A4 o.st.f4.length qh.c4)).setCell ⟨w.heap.size + 1, 5, none⟩ (.slice A o.bs.length c)) := ⟨_, rfl⟩
      rw [← hF] at KF BF NF sF
      rw [← hF]
      clear kF bF nF hF
      have sFa := Nat.le_of_eq sF
      have sFb := Nat.le_of_eq sF.symm
      clear sF
      have cF0 := KF.out.cell 0
      have cF1 := KF.out.cell 1
      have cF2 := KF.out.cell 2
      have cF3 := KF.out.cell 3
      have cF4 := KF.out.cell 4
      have cF5 := KF.out.cell 5
      simp only [List.getElem?_toArray, List.getElem?_cons_zero, List.getElem?_cons_succ] at cF0 cF1 cF2 cF3 cF4 cF5
      refine bodyPost_ret (v := .agg #[.slice qh.A0 o.st.f0.length qh.c0, .slice qh.A1 o.st.f1.length qh.c1, .slice qh.A2 o.st.f2.length qh.c2, .slice qh.A3 o.st.f3.length qh.c3, .slice qh.A4 o.st.f4.length qh.c4, .slice A o.bs.length c]) (by simp [results, Try.results125, cF0, cF1, cF2, cF3, cF4, cF5, go_sem]) rfl ?_
      have kept : World.grownBy wr F (some (w.heap.size + 1)) := ⟨(BF.out 0 (by omega)).os, (BF.out 0 (by omega)).tape, (BF.out 0 (by omega)).output, (BF.out 0 (by omega)).size, fun i hi hne => NF.out i (fun e => hne (by rw [e]))⟩
      refine ⟨qh, A, c, hs, G, C, W.heap.size, w1.heap.size, w1.heap.size + 1, rfl, HB.out.trans (BF.out _ (by omega)), by omega, by omega, by have := HCP.out.box.lt; omega, OS2.out.keep (Nat.le_refl _) (Nat.le_refl _) fun b h1 h2 => NF.out b (by omega), ?_, ?_⟩
      · refine HCP.out.own.kept kept ?_
        cases hq : (Value.slice A o.bs.length c).ownBlock with
        | none => exact Or.inl rfl
        | some b => exact Or.inr (fun e => by injection e with e; have := (owns_block HCP.out.own hq.symm).1; omega)
      · exact HCP.out.rows.kept (Nat.le_refl _) kept (fun i hi e => by
          injection e with e
          have := (own_blk (HCP.out.rows.at_ i _ hi (List.getElem?_eq_getElem hi)).2).1
          omega)
end Go.Proofs.Ytnadihepgmbhaaa
