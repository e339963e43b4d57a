/-
  Words by the function that tells their numbers: entry, withEntry, entries and withEntries.
-/
import Derived.Test.YtiljakbjbiinkaaWord
import Derived.Test.YtiljakbjbiinkaaOrdS
namespace Go.Proofs.Ytiljakbjbiinkaa
open Go.RowKit Pl
set_option maxHeartbeats 1000000
set_option maxRecDepth 100000
set_option linter.unusedVariables false

theorem entry_any (j W i : Nat) (w : World) (hj : j < 11) (hW : W < 18446744073709551616) (hi : i < fC j) (r : Int) (hr : Hid ((wget W (fS j i) (fB j) : Nat) + fL j = r)) :
    Calls Try.prog 152 #[.int .u64 W, .int .i64 j, .int .i64 i] w fun e w' => e = .returned (.int .i64 r) ∧ Below w.heap.size w w' := by
  rw [← hr.out]
  match j, hj with
  | 0, _ => exact entry_0 W i w hW hi
  | 1, _ => exact entry_1 W i w hW hi
  | 2, _ => exact entry_2 W i w hW hi
  | 3, _ => exact entry_3 W i w hW hi
  | 4, _ => exact entry_4 W i w hW hi
  | 5, _ => exact entry_5 W i w hW hi
  | 6, _ => exact entry_6 W i w hW hi
  | 7, _ => exact entry_7 W i w hW hi
  | 8, _ => exact entry_8 W i w hW hi
  | 9, _ => exact entry_9 W i w hW hi
  | 10, _ => exact entry_10 W i w hW hi
theorem withEntry_any (j W i v : Nat) (n : Int) (w : World) (hj : j < 11) (hW : W < 18446744073709551616) (hi : i < fC j) (hv : v < 2 ^ fB j) (hn : n = (v : Int) + fL j) (R : Nat) (hR : Hid (wset W (fS j i) (fB j) v = R)) :
    Calls Try.prog 155 #[.int .u64 W, .int .i64 j, .int .i64 i, .int .i64 n] w fun e w' => e = .returned (.int .u64 (R : Int)) ∧ Below w.heap.size w w' := by
  rw [← hR.out]
  match j, hj with
  | 0, _ => exact withEntry_0 W i v n w hW hi hv hn
  | 1, _ => exact withEntry_1 W i v n w hW hi hv hn
  | 2, _ => exact withEntry_2 W i v n w hW hi hv hn
  | 3, _ => exact withEntry_3 W i v n w hW hi hv hn
  | 4, _ => exact withEntry_4 W i v n w hW hi hv hn
  | 5, _ => exact withEntry_5 W i v n w hW hi hv hn
  | 6, _ => exact withEntry_6 W i v n w hW hi hv hn
  | 7, _ => exact withEntry_7 W i v n w hW hi hv hn
  | 8, _ => exact withEntry_8 W i v n w hW hi hv hn
  | 9, _ => exact withEntry_9 W i v n w hW hi hv hn
  | 10, _ => exact withEntry_10 W i v n w hW hi hv hn

/-- The numbers of field j stand in words of the form ws from place b on. -/
def Fld (ws : List Nat) (j b : Nat) : Prop := j < 11 ∧ ws.sum ≤ 46 ∧ ∀ i, i < fC j → b + i < ws.length ∧ shf ws (b + i) = fS j i ∧ wid ws (b + i) = fB j
theorem fld0 : Fld WS 0 3 := by unfold Fld; decide
theorem fld1 : Fld WS 1 6 := by unfold Fld; decide
theorem fld2 : Fld WS 2 15 := by unfold Fld; decide
theorem fld3 : Fld WS 3 18 := by unfold Fld; decide
theorem fld4 : Fld WS 4 20 := by unfold Fld; decide
theorem fld5 : Fld WS 5 0 := by unfold Fld; decide
theorem flo1 : Fld WO 1 0 := by unfold Fld; decide
theorem flo2 : Fld WO 2 9 := by unfold Fld; decide
theorem flo6 : Fld WO 6 13 := by unfold Fld; decide
/-- The numbers of the clocks' words. -/
def WC : List Nat := [8, 8, 8]
theorem flc7 : Fld WC 7 0 := by unfold Fld; decide
/-- The numbers of the words of views and of stores: whether one is glued, its value, and the stamps. -/
def WV : List Nat := [1, 2, 13, 13, 13]
theorem flv8 : Fld WV 8 2 := by unfold Fld; decide
theorem flv9 : Fld WV 9 1 := by unfold Fld; decide
theorem flv10 : Fld WV 10 0 := by unfold Fld; decide

section
variable {ws : List Nat} {j b : Nat} {f : Nat → Nat}
theorem enc_small (F : Fld ws j b) (h : okF ws f) : enc ws f < 18446744073709551616 := by
  have h1 := enc_lt h
  have h2 : 2 ^ ws.sum ≤ 2 ^ 46 := Nat.pow_le_pow_right (by omega) F.2.1
  omega
theorem entF (F : Fld ws j b) (h : okF ws f) (i : Nat) (hi : i < fC j) (w : World) (r : Int) (hr : Hid ((f (b + i) : Nat) + fL j = r)) :
    Calls Try.prog 152 #[.int .u64 (enc ws f : Nat), .int .i64 j, .int .i64 i] w fun e w' => e = .returned (.int .i64 r) ∧ Below w.heap.size w w' := by
  obtain ⟨h1, h2, h3⟩ := F.2.2 i hi
  refine entry_any j (enc ws f) i w F.1 (enc_small F h) hi r (Lib.hid ?_)
  rw [← h2, ← h3, enc_get h h1]
  exact hr.out
theorem wentF (F : Fld ws j b) (h : okF ws f) (i v : Nat) (n : Int) (hi : i < fC j) (hv : v < 2 ^ fB j) (hn : n = (v : Int) + fL j) (w : World) :
    Calls Try.prog 155 #[.int .u64 (enc ws f : Nat), .int .i64 j, .int .i64 i, .int .i64 n] w fun e w' => e = .returned (.int .u64 (enc ws (upd f (b + i) v) : Nat)) ∧ Below w.heap.size w w' := by
  obtain ⟨h1, h2, h3⟩ := F.2.2 i hi
  refine withEntry_any j (enc ws f) i v n w F.1 (enc_small F h) hi hv hn _ (Lib.hid ?_)
  rw [(enc_set h h1 (by rw [h3]; exact hv)).2, h2, h3]
theorem okF_upd (F : Fld ws j b) (h : okF ws f) {i v : Nat} (hi : i < fC j) (hv : v < 2 ^ fB j) : okF ws (upd f (b + i) v) := by
  obtain ⟨h1, h2, h3⟩ := F.2.2 i hi
  exact (enc_set h h1 (by rw [h3]; exact hv)).1
theorem fld_lt (F : Fld ws j b) (h : okF ws f) {i : Nat} (hi : i < fC j) : f (b + i) < 2 ^ fB j := by
  obtain ⟨h1, h2, h3⟩ := F.2.2 i hi
  have := okF_at h h1
  rwa [h3] at this
end
/-- A list of numbers written into a field, from its first place on. -/
def updL (f : Nat → Nat) (b : Nat) : List Nat → Nat → Nat
  | [] => f
  | v :: r => updL (upd f b v) (b + 1) r
theorem updL_at (vs : List Nat) : ∀ (f : Nat → Nat) (b q : Nat), updL f b vs q = if b ≤ q ∧ q < b + vs.length then vs.getD (q - b) 0 else f q := by
  induction vs with
  | nil => intro f b q; simp [updL]; intro h1 h2; omega
  | cons v r ih =>
    intro f b q
    rw [updL, ih]
    by_cases h1 : b + 1 ≤ q ∧ q < b + 1 + r.length
    · rw [if_pos h1, if_pos (by simp; omega), show q - b = (q - (b + 1)) + 1 by omega]
      simp
    · rw [if_neg h1]
      by_cases h2 : q = b
      · subst h2; simp [upd]
      · rw [if_neg (by simp; omega)]; simp [upd, h2]
theorem updL_take (f : Nat → Nat) (b : Nat) (vs : List Nat) (k : Nat) (v : Nat) (h : vs[k]? = some v) : upd (updL f b (vs.take k)) (b + k) v = updL f b (vs.take (k + 1)) := by
  have hk := (List.getElem?_eq_some_iff.1 h).1
  funext q
  rw [updL_at]
  unfold upd
  rw [updL_at]
  simp only [List.length_take]
  by_cases h1 : q = b + k
  · subst h1
    rw [if_pos rfl, if_pos (by omega), show b + k - b = k by omega, List.getD, List.getElem?_take, if_pos (by omega), h]
    rfl
  · rw [if_neg h1]
    by_cases h2 : b ≤ q ∧ q < b + min k vs.length
    · rw [if_pos h2, if_pos (by omega)]
      simp only [List.getD, List.getElem?_take]
      rw [if_pos (by omega), if_pos (by omega)]
    · rw [if_neg h2, if_neg (by omega)]
/-- The numbers of a field, as the program hands them out. -/
def fldI (f : Nat → Nat) (b : Nat) (l : Int) (n : Nat) : List Int := (List.range n).map fun i => (f (b + i) : Int) + l
theorem fldI_length (f : Nat → Nat) (b : Nat) (l : Int) (n : Nat) : (fldI f b l n).length = n := by simp [fldI]
theorem fldI_at {f : Nat → Nat} {b : Nat} {l : Int} {n k : Nat} (h : k < n) : (fldI f b l n)[k]? = some ((f (b + k) : Int) + l) := by simp [fldI, h]

theorem okF_updL {ws : List Nat} {j b : Nat} (F : Fld ws j b) (vs : List Nat) : ∀ (f : Nat → Nat) (k : Nat), okF ws f → k + vs.length ≤ fC j → (∀ v ∈ vs, v < 2 ^ fB j) → okF ws (updL f (b + k) vs) := by
  induction vs with
  | nil => intro f k h _ _; exact h
  | cons v r ih =>
    intro f k h hl hv
    simp at hl
    have := ih (upd f (b + k) v) (k + 1) (okF_upd F h (by omega) (hv v (by simp))) (by omega) (fun u hu => hv u (by simp [hu]))
    rw [updL]
    exact this

theorem entries_any (ws : List Nat) (j b : Nat) (f : Nat → Nat) (n : Nat) (w : World) (F : Fld ws j b) (h : okF ws f) (hn : n ≤ fC j) :
    Calls Try.prog 153 #[.int .u64 (enc ws f : Nat), .int .i64 j, .int .i64 n] w fun e w' => e = .returned (.slice (some ⟨w.heap.size, 0, none⟩) n n) ∧ CopyV w w' 3 (ints (fldI f b (fL j) n)) n := by
  obtain ⟨i0, hi, hz0, hz1, hz2⟩ := info_parts Try.info3
  have hn9 : n ≤ 9 := by
    have : fC j ≤ 9 := by unfold fC; repeat (first | omega | split)
    omega
  have hmk := make_any Try.underlying39 hi hz0 n (by rw [hz2]; omega) (by omega)
  rw [hz1, Nat.mul_one] at hmk
  have start := Lib.hid (show CopyV w (w.alloc (.cells (madeCells #[.int .i64 0] n) 3)) 3 (ints (fldI f b (fL j) n)) 0 from
    ⟨(Below.refl _ _).alloc (Nat.le_refl _) _, _, Bk.new _ _ _, by simp [size_madeCells, fldI_length], fun j x hj => absurd hj (by omega)⟩)
  clear hz0 hz1 hz2 hi
  generalize hW : enc ws f = W at *
  have HW := Lib.hid hW
  clear hW
  go_enter Try.func153, Try.ntmps153
  go_wp2
  go_loopw [13] (fun i wr => ∃ k : Nat, k ≤ n ∧ i = .int .i64 k ∧ CopyV w wr 3 (ints (fldI f b (fL j) n)) k) (fun i _ => n - (intOf i).toNat)
  case atStart => exact ⟨0, Nat.zero_le _, rfl, start.out⟩
  case round =>
    obtain ⟨k, hk, rfl, hcp⟩ := hrel
    clear start hmk
    by_cases hlt : k < n
    · obtain ⟨hbel, cs, hbk, hsz, -⟩ := id hcp
      rw [ints_length, fldI_length] at hsz
      have Hx := Lib.hid (ints_at (fldI_at (f := f) (b := b) (l := fL j) hlt))
      obtain ⟨x, hx⟩ : ∃ x, (f (b + k) : Int) + fL j = x := ⟨_, rfl⟩
      rw [hx] at Hx
      have HX := Lib.hid hx
      have Hcp := Lib.hid hcp
      have hkc : k < fC j := by omega
      have kb := Lib.hid hbk
      have hg := hbk.lt
      clear hx hbk hbel hcp
      go_wp2_with fail
      rw [← HW.out]
      refine (entF F h k hkc wr x HX).mono ?_
      rintro e w1 ⟨rfl, hb1⟩
      have kb1 := kb.out.below hb1 hg
      obtain ⟨v0, e0⟩ := kb1.some_ (i := k) (by omega)
      have q0 := kb1.free k
      have hcp1 : CopyV w w1 3 (ints (fldI f b (fL j) n)) k := ⟨below_on Hcp.out.1 hb1, by
        obtain ⟨_, cs', hb', hs', hc'⟩ := Hcp.out
        exact ⟨cs', hb'.below hb1 hb'.lt, hs', hc'⟩⟩
      have Hc1 := Lib.hid hcp1
      clear kb1 hcp1 hb1
      rw [HW.out]
      go_wp2
      go_roundw
      case rel => exact ⟨k + 1, by omega, by go_num, Hc1.out.next Hx.out⟩
      case measure => simp [intOf]; omega
    · have hkn : k = n := by omega
      subst hkn
      go_wp2
      go_ret
      exact ⟨rfl, hcp⟩

theorem withEntries_any (ws : List Nat) (j b : Nat) (f : Nat → Nat) (A : Option Addr) (xs : List Int) (vs : List Nat) (c : Nat) (w : World) (B : Nat) (F : Fld ws j b) (h : okF ws f) (hV : Vs w B A (ints xs)) (hB : B ≤ w.heap.size) (hn : xs.length ≤ fC j) (hvl : vs.length = xs.length)
    (hv : Hid (∀ v ∈ vs, v < 2 ^ fB j)) (hx : Hid (∀ (k v : Nat), vs[k]? = some v → xs[k]? = some ((v : Int) + fL j))) :
    Calls Try.prog 154 #[.int .u64 (enc ws f : Nat), .int .i64 j, .slice A xs.length c] w fun e w' => e = .returned (.int .u64 (enc ws (updL f b vs) : Nat)) ∧ Below w.heap.size w w' := by
  have hn9 : xs.length ≤ 9 := by
    have : fC j ≤ 9 := by unfold fC; repeat (first | omega | split)
    omega
  go_enter Try.func154, Try.ntmps154
  go_wp2
  go_loopw [0, 11] (fun x i wr => ∃ k : Nat, k ≤ xs.length ∧ i = .int .i64 k ∧ x = .int .u64 (enc ws (updL f b (vs.take k)) : Nat) ∧ Below w.heap.size w wr) (fun _ i _ => xs.length - (intOf i).toNat)
  case atStart => exact ⟨0, Nat.zero_le _, rfl, by simp [updL], Below.refl _ _⟩
  case round =>
    obtain ⟨k, hk, rfl, rfl, hbel⟩ := hrel
    by_cases hlt : k < xs.length
    · obtain ⟨bb, off, x, rfl, hb, hxk, -, hx0⟩ := (hV.below hbel hB).int_ hlt
      obtain ⟨v, hvk⟩ : ∃ v, vs[k]? = some v := ⟨_, List.getElem?_eq_getElem (by omega)⟩
      have hxv := hx.out k v hvk
      have hxe : x = (v : Int) + fL j := by rw [hxk] at hxv; injection hxv
      have hvlt := hv.out v (List.mem_of_getElem? hvk)
      have hok : okF ws (updL f b (vs.take k)) := by
        have := okF_updL F (vs.take k) f 0 h (by rw [List.length_take]; omega) (fun u hu => hv.out u (List.mem_of_mem_take hu))
        simpa using this
      have Hok := Lib.hid hok
      have Hxe := Lib.hid hxe
      have Hvk := Lib.hid hvk
      have Hb := Lib.hid hbel
      clear hxe hxv hvk hok hxk hbel
      go_wp2_with fail
      refine (wentF F Hok.out k v x (by omega) hvlt Hxe.out wr).mono ?_
      rintro e w1 ⟨rfl, hb1⟩
      have Hb1 := Lib.hid (below_on Hb.out hb1)
      clear hb1
      go_wp2
      go_roundw
      case rel => exact ⟨k + 1, by omega, by go_num, by rw [updL_take f b vs k v Hvk.out], Hb1.out⟩
      case measure => simp [intOf]; omega
    · have hkl : k = vs.length := by omega
      subst hkl
      rw [List.take_length]
      go_wp2
      go_ret
      exact ⟨rfl, hbel⟩
end Go.Proofs.Ytiljakbjbiinkaa
