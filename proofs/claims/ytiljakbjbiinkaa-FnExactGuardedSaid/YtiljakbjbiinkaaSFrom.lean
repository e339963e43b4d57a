/-
  What the reference model's walk over all orders comes to: one step of it.
-/
import Derived.Test.YtiljakbjbiinkaaOFrom
import Derived.Test.YtiljakbjbiinkaaSEvs
import Derived.Deep.RegionHeld3
import Derived.Deep.RegionLaw
import Derived.Deep.RegionHeldLaw
import Derived.Deep.DeepCutAuto
namespace Go.Proofs.Ytiljakbjbiinkaa
open Go.RowKit Pl Go.BigFrame
set_option maxHeartbeats 8000000
set_option maxRecDepth 100000
set_option linter.unusedVariables false

def NumsA (w : World) (xs : List Int) (e : Ending) (w' : World) : Prop :=
  ∃ g cap, e = .returned (.slice (some ⟨g, 0, none⟩) xs.length cap) ∧ w.heap.size ≤ g ∧ Below w.heap.size w w' ∧ w'.ownsRow w.heap.size 3 1 (.slice (some ⟨g, 0, none⟩) xs.length cap) xs.length (ints xs)
theorem bk_drewF {w : World} {g : Nat} {t : TypeId} {cs : Array Value} (h : Bk w g t cs) : Bk w.drew g t cs := h
theorem nums2_any (A : Option Addr) (c : Nat) (xs : List Int) (w : World) (B : Nat) (hR : Vs w B A (ints xs)) (hB : B ≤ w.heap.size) (hl : xs.length ≤ 1000) :
    Calls Try.prog 171 #[.slice A xs.length c] w (NumsA w xs) := by
  obtain ⟨i0, hi, iz0, iz1, iz2⟩ := info_parts Try.info3
  have start : Hid ((w.alloc (.cells #[] 3)).ownsRow w.heap.size 3 1 (.slice (some ⟨w.heap.size, 0, none⟩) 0 0) 0 (ints (xs.take 0))) := Lib.hid (World.ownsRow_made w #[] 0 (Nat.le_refl _) (by decide) (by simp))
  have HR := Lib.hid hR
  clear hR
  go_enter Try.func171, Try.ntmps171
  go_wp2
  go_loopw [3, 4] (fun v i wr => ∃ k g cap : Nat, k ≤ xs.length ∧ i = .int .i64 k ∧ v = .slice (some ⟨g, 0, none⟩) k cap ∧ w.heap.size ≤ g ∧ wr.ownsRow w.heap.size 3 1 (.slice (some ⟨g, 0, none⟩) k cap) k (ints (xs.take k)) ∧ Below w.heap.size w wr) (fun _ i _ => xs.length - (intOf i).toNat)
  case atStart => exact ⟨0, _, 0, Nat.zero_le _, rfl, rfl, Nat.le_refl _, start.out, (Below.refl _ _).alloc (Nat.le_refl _) _⟩
  case round =>
    obtain ⟨k, g, cap, hk, rfl, rfl, hgg, hown, hbel⟩ := hrel
    clear start
    have hz := hbel.size
    by_cases hlt : k < xs.length
    · obtain ⟨b, off, x, hA, hb, hx, -, hc⟩ := (HR.out.below hbel (by omega)).int_ hlt
      have Hx : Hid (ints (xs.take (k + 1)) = ints (xs.take k) ++ [.int .i64 x]) := Lib.hid (by simp [ints, List.take_add_one, hx])
      have Hown := Lib.hid hown
      have Hb := Lib.hid hbel
      have hbw : b < wr.heap.size := by omega
      have hi2 : (k : Int) < (xs.length : Int) := by omega
      clear hown hbel hx
      subst hA
      go_wp2_with (at_builtin; refine wpList_append_own _ rfl (.tmp 12) (.tmp 17) 39 rfl w.heap.size 3 i0 _ 1 8 Try.underlying39 hi iz0 iz1 iz2 rfl (by decide) _ k _ rfl (Hown.out.alloc _) ⟨_, 0, none⟩ 1 1 [.int .i64 _] rfl rfl (cell1_new _ _ _) (by intro u hu; simp at hu; subst hu; rfl) (by unfold maxLen; omega) (by omega) (by simp; omega) ?_; intro v' w3 own3 grow3 _; obtain ⟨g3, cap3, rfl, hg3, hlt3⟩ := own3.form (by omega); have Own3 := Lib.hid own3; have B3 := Lib.hid ((Hb.out.alloc hz _).grown grow3 (by simp; omega) (by intro q hq; cases hq; exact hgg)); clear own3 grow3)
      go_roundw
      case rel => exact ⟨k + 1, g3, cap3, by omega, by go_num, rfl, hg3, by rw [Hx.out]; exact Own3.out, B3.out⟩
      case measure => simp [intOf]; omega
    · have hkl : k = xs.length := by omega
      subst hkl
      have Hown := Lib.hid hown
      clear hown
      go_wp2
      go_ret
      exact ⟨g, cap, by simp, hgg, hbel, by simpa using Hown.out⟩

/-- The walk over orders in memory: its program, and the orders that it has met; their rows lie below hr. -/
structure Wl (w : World) (zw : Nat) (h : PgH) (L : Pg) (A : Option Addr) (cap : Nat) (Ls : List (List Int)) (D C : Nat → Nat) (hr : Nat) : Prop where
  bx : Bk w zw 205 #[.slice h.A L.length h.c, .slice A Ls.length cap]
  own : w.ownsRow (zw + 1) 39 1 (.slice A Ls.length cap) Ls.length (headsC Ls D C)
  rows : RowsI w (zw + 1) hr Ls D
/-- What a walk from a state on comes to. -/
def FromP (w : World) (zw : Nat) (h : PgH) (L : Pg) (A : Option Addr) (cap : Nat) (Ls : List (List Int)) (ords : List (List Int)) (e : Ending) (w' : World) : Prop :=
  e = .returned (.tuple #[]) ∧ Below zw w w' ∧ w.heap.size ≤ w'.heap.size ∧ (∀ q, q < w.heap.size → q ≠ zw → some q ≠ (Value.slice A Ls.length cap).ownBlock → w'.heap[q]? = w.heap[q]?) ∧
    ∃ (A' : Option Addr) (cap' : Nat) (D C : Nat → Nat), Wl w' zw h L A' cap' (Ls ++ ords) D C w'.heap.size ∧ ∀ q, some q = (Value.slice A' (Ls ++ ords).length cap').ownBlock → some q = (Value.slice A Ls.length cap).ownBlock ∨ w.heap.size ≤ q
/-- What the threads below i give, each its own. -/
def chK (L : Pg) (f : Nat → Nat) (ch : Nat → List (List Int)) (i : Nat) : List (List Int) := (List.range i).flatMap fun t => if canF L f t then ch t else []
def enK (L : Pg) (f : Nat → Nat) (i : Nat) : Bool := (List.range i).all fun t => !canF L f t
theorem chK_next (L : Pg) (f : Nat → Nat) (ch : Nat → List (List Int)) (i : Nat) : chK L f ch (i + 1) = chK L f ch i ++ if canF L f i then ch i else [] := by
  unfold chK
  rw [List.range_succ, List.flatMap_append]
  simp
theorem enK_next (L : Pg) (f : Nat → Nat) (i : Nat) : enK L f (i + 1) = (enK L f i && !canF L f i) := by
  unfold enK
  rw [List.range_succ, List.all_append]
  simp
theorem chK_none {L : Pg} {f : Nat → Nat} {ch : Nat → List (List Int)} : ∀ {i : Nat}, enK L f i = true → chK L f ch i = [] := by
  intro i
  induction i with
  | zero => intro _; rfl
  | succ i ih =>
    intro h
    rw [enK_next, Bool.and_eq_true] at h
    rw [chK_next, ih h.1]
    have : canF L f i = false := by simpa using h.2
    rw [this]; rfl
theorem chK_le {L : Pg} {f : Nat → Nat} {ch : Nat → List (List Int)} {i : Nat} : ∀ {n : Nat}, i ≤ n → (chK L f ch i).length ≤ (chK L f ch n).length := by
  intro n
  induction n with
  | zero => intro h; have : i = 0 := by omega
            subst this; exact Nat.le_refl _
  | succ n ih =>
    intro h
    by_cases e : i = n + 1
    · subst e; exact Nat.le_refl _
    · rw [chK_next, List.length_append]
      have := ih (by omega)
      omega
theorem enK_not {L : Pg} {f : Nat → Nat} {i n : Nat} (h : canF L f i = true) (hi : i < n) : enK L f n = false := by
  unfold enK
  rw [List.all_eq_false]
  exact ⟨i, List.mem_range.mpr hi, by simp [h]⟩
theorem acc_app {w : World} {base g cap : Nat} {acc : List Int} {i : Int} (h : w.ownsRow base 3 1 (.slice (some ⟨g, 0, none⟩) (acc.length + 1) cap) (acc.length + 1) (ints acc ++ [.int .i64 i])) : AccAt w g (acc ++ [i]) := by
  refine acc_of (base := base) (cap := cap) ?_ (by simp)
  have e1 : (acc ++ [i]).length = acc.length + 1 := by simp
  have e2 : ints (acc ++ [i]) = ints acc ++ [.int .i64 i] := by simp [ints]
  rw [e1, e2]
  exact h
theorem cell1_keep {w u : World} {g : Nat} {x : Value} (h : ∀ j y, [x][j]? = some y → w.cell? ((⟨g, 0, none⟩ : Addr).add j) = some y) (hb : Below w.heap.size w u) (hg : g < w.heap.size) : ∀ j y, [x][j]? = some y → u.cell? ((⟨g, 0, none⟩ : Addr).add j) = some y := fun j y hj => by
  have e : (⟨g, 0, none⟩ : Addr).add j = ⟨g, j, none⟩ := by unfold Addr.add; split <;> simp_all
  have := h j y hj
  rw [e] at this ⊢
  exact (hb.cell (p := ⟨g, j, none⟩) hg).trans this
theorem rows_one {w : World} {ga hi : Nat} {acc : List Int} (h : AccAt w ga acc) (hh : ga < hi) : RowsI w ga hi [acc] (fun _ => ga) := by
  obtain ⟨cs, hb, hx⟩ := h
  refine ⟨fun j xs hj => ?_, fun i j hij hj => ?_⟩
  · have hj0 : j = 0 := by have := (List.getElem?_eq_some_iff.1 hj).1; simp at this; exact this
    subst hj0
    simp at hj
    subst hj
    exact ⟨Nat.le_refl _, hh, cs, hb, hx⟩
  · simp at hj
    omega
theorem below_row {n : Nat} {w wr X w3 : World} {row : Option Nat} (h : Below n w wr) (hb : Below wr.heap.size wr X) (hg : X.grownBy w3 row) (hne : ∀ q, q < n → some q ≠ row) (hn : n ≤ wr.heap.size) : Below n w w3 :=
  have h0 := h.trans (hb.mono hn)
  ⟨hg.os.trans h0.os, hg.tape.trans h0.tape, hg.output.trans h0.output, Nat.le_trans h0.size hg.size, fun q hq => (hg.block q (Nat.lt_of_lt_of_le hq (Nat.le_trans hn hb.size)) (hne q hq)).trans (h0.block q hq)⟩
def endOr (L : Pg) (f : Nat → Nat) (acc : List Int) (ch : Nat → List (List Int)) : List (List Int) := if enK L f L.length then [acc] else chK L f ch L.length
theorem from_body (h : PgH) (L : Pg) (hL : progB L = true) (zw B : Nat) (f : Nat → Nat) (acc : List Int) (ch : Nat → List (List Int)) (hI : Inv L f) (hacc : acc.length ≤ 100) (hB : B ≤ zw)
    (IH : ∀ (t : Nat), t < L.length → canF L f t = true → ∀ (hk : StaH) (lo hi ga c : Nat) (A : Option Addr) (cap : Nat) (Ls : List (List Int)) (D C : Nat → Nat) (w : World), PgR w B h L → Wl w zw h L A cap Ls D C ga → StaI w lo hi hk (staF L (stepF L f t)) → zw < lo → hi ≤ w.heap.size → (∀ q, some q = (Value.slice A Ls.length cap).ownBlock → q < lo ∨ hi ≤ q) → AccAt w ga (acc ++ [(t : Int)]) → zw < ga → Ls.length + (ch t).length ≤ 1000000 →
      Calls Try.prog 172 #[.pointer (some ⟨zw, 0, none⟩), StaV hk (staF L (stepF L f t)), .slice (some ⟨ga, 0, none⟩) (acc.length + 1) c] w (FromP w zw h L A cap Ls (ch t)))
    (hk : StaH) (lo hi ga c : Nat) (A : Option Addr) (cap : Nat) (Ls : List (List Int)) (D C : Nat → Nat) (w : World) (hP : PgR w B h L) (hW : Wl w zw h L A cap Ls D C ga) (hS : StaI w lo hi hk (staF L f)) (hzl : zw < lo) (hhi : hi ≤ w.heap.size) (hob : ∀ q, some q = (Value.slice A Ls.length cap).ownBlock → q < lo ∨ hi ≤ q) (hA : AccAt w ga acc) (hzg : zw < ga) (hn : Ls.length + (endOr L f acc ch).length ≤ 1000000) :
    Calls Try.prog 172 #[.pointer (some ⟨zw, 0, none⟩), StaV hk (staF L f), .slice (some ⟨ga, 0, none⟩) acc.length c] w (FromP w zw h L A cap Ls (endOr L f acc ch)) := by
  obtain ⟨h31, h32⟩ := prog_len hL
  obtain ⟨W, hWw⟩ : ∃ W, W = w.alloc (.cells #[.slice hk.A0 (staF L f).f0.length hk.c0, .slice hk.A1 (staF L f).f1.length hk.c1, .slice hk.A2 (staF L f).f2.length hk.c2, .slice hk.A3 (staF L f).f3.length hk.c3, .slice hk.A4 (staF L f).f4.length hk.c4] 41) := ⟨_, rfl⟩
  have bW : Below w.heap.size w W := by rw [hWw]; go_grown
  have sW : W.heap.size = w.heap.size + 1 := by rw [hWw]; simp
  have sWa := Nat.le_of_eq sW
  have sWb := Nat.le_of_eq sW.symm
  have kS : Bk W w.heap.size 41 #[.slice hk.A0 (staF L f).f0.length hk.c0, .slice hk.A1 (staF L f).f1.length hk.c1, .slice hk.A2 (staF L f).f2.length hk.c2, .slice hk.A3 (staF L f).f3.length hk.c3, .slice hk.A4 (staF L f).f4.length hk.c4] := by rw [hWw]; exact Bk.new _ _ _
  have hzw : zw < w.heap.size := hW.bx.lt
  have hag : ga < w.heap.size := hA.lt
  have hobl : ∀ q, some q = (Value.slice A Ls.length cap).ownBlock → q < w.heap.size := fun q e => (owns_block hW.own e).2.1
  have hobz : ∀ q, some q = (Value.slice A Ls.length cap).ownBlock → zw < q := fun q e => by have := (owns_block hW.own e).1; omega
  have hga : some ga ≠ (Value.slice A Ls.length cap).ownBlock := fun e => by
    obtain ⟨-, -, cu, hcu⟩ := owns_block hW.own e
    obtain ⟨cs, hcs, -⟩ := hA
    have := hcu.symm.trans hcs
    injection this with this
    injection this with _ h2 _
    cases h2
  have HGA := Lib.hid hga
  obtain ⟨i0, hi, iz0, iz1, iz2⟩ := info_parts Try.info3
  have HAC := Lib.hid hacc
  clear hga
  have OBL := Lib.hid hobl
  have OBZ := Lib.hid hobz
  have OB := Lib.hid hob
  have HWw := Lib.hid hWw
  have KS := Lib.hid kS
  have PR := Lib.hid (hP.below bW (by omega))
  have SI := Lib.hid (hS.below bW hhi)
  have AA := Lib.hid (hA.below bW)
  have WL := Lib.hid (show Wl W zw h L A cap Ls D C ga from ⟨hW.bx.below bW hzw, hW.own.kept (grown_of_below bW none) (by cases A <;> simp [Value.ownBlock]), hW.rows.keep (Nat.le_refl _) (Nat.le_refl _) fun q _ _ h2 _ => bW.block q (by omega)⟩)
  have BWz := Lib.hid (bW.mono (Nat.le_of_lt hzw))
  have FRW := Lib.hid (show ∀ q, q < w.heap.size → W.heap[q]? = w.heap[q]? from fun q hq => bW.block q hq)
  have HL := Lib.hid hL
  have HI := Lib.hid hI
  have HN := Lib.hid hn
  have RW0 := Lib.hid (show RowsI W (zw + 1) W.heap.size Ls D from WL.out.rows.keep (Nat.le_refl _) (by omega) fun _ _ _ _ _ => rfl)
  clear hWw bW sW kS hP hW hS hA hobl hobz hob hn
  go_enter Try.func172, Try.ntmps172
  go_wp2_with fail
  rw [← HWw.out]
  go_wp2
  go_loopw [6, 7] (fun ev iv wr => ∃ (i : Nat) (A1 : Option Addr) (cap1 : Nat) (D1 C1 : Nat → Nat), i ≤ L.length ∧ iv = .int .i64 i ∧ ev = .bool (enK L f i) ∧ Below zw W wr ∧ W.heap.size ≤ wr.heap.size ∧ (∀ q, q < W.heap.size → q ≠ zw → some q ≠ (Value.slice A Ls.length cap).ownBlock → wr.heap[q]? = W.heap[q]?) ∧ Wl wr zw h L A1 cap1 (Ls ++ chK L f ch i) D1 C1 wr.heap.size ∧ (∀ q, some q = (Value.slice A1 (Ls ++ chK L f ch i).length cap1).ownBlock → some q = (Value.slice A Ls.length cap).ownBlock ∨ W.heap.size ≤ q) ∧ (enK L f i = true → RowsI wr (zw + 1) ga (Ls ++ chK L f ch i) D1)) (fun _ iv _ => L.length - (intOf iv).toNat)
  case atStart =>
    have e0 : Ls ++ chK L f ch 0 = Ls := List.append_nil _
    exact ⟨0, A, cap, D, C, Nat.zero_le _, rfl, rfl, Below.refl _ _, Nat.le_refl _, fun _ _ _ _ => rfl, by rw [e0]; exact ⟨WL.out.bx, WL.out.own, RW0.out⟩, by rw [e0]; exact fun q e => Or.inl e, by rw [e0]; exact fun _ => WL.out.rows⟩
  case round =>
    obtain ⟨i, A1, cap1, D1, C1, hin, rfl, rfl, hbel, hsz, hfr, hwl, hob1, hrw⟩ := hrel
    have FR := Lib.hid hfr
    have KSr := Lib.hid (show Bk wr w.heap.size 41 #[.slice hk.A0 (staF L f).f0.length hk.c0, .slice hk.A1 (staF L f).f1.length hk.c1, .slice hk.A2 (staF L f).f2.length hk.c2, .slice hk.A3 (staF L f).f3.length hk.c3, .slice hk.A4 (staF L f).f4.length hk.c4] from (hfr w.heap.size (by omega) (by omega) (fun e => by have := OBL.out _ e; omega)).trans KS.out)
    have SIr := Lib.hid (SI.out.keep (w' := wr) (Nat.le_refl _) (Nat.le_refl _) fun q h1 h2 => hfr q (by omega) (by omega) (fun e => by have := OB.out q e; omega))
    have PRr := Lib.hid (PR.out.below hbel hB)
    have HB := Lib.hid hbel
    have HWl := Lib.hid hwl
    have OB1 := Lib.hid hob1
    have HRW := Lib.hid hrw
    have lz := hwl.bx.lt
    have ls := KSr.out.lt
    have cz : wr.cell? ⟨zw, 0, none⟩ = some (.slice h.A L.length h.c) := hwl.bx.cell 0
    clear hbel hfr hwl hob1 hrw RW0
    by_cases hlt : i < L.length
    · have hi1 : (i : Int) < (L.length : Int) := by omega
      have AllS := Lib.hid (show ∀ w', Below wr.heap.size wr w' → (Below wr.heap.size wr w' ∧ w'.cell? ⟨zw, 0, none⟩ = some (.slice h.A L.length h.c) ∧ w'.cell? ⟨w.heap.size, 0, none⟩ = some (.slice hk.A0 (staF L f).f0.length hk.c0) ∧ w'.cell? ⟨w.heap.size, 1, none⟩ = some (.slice hk.A1 (staF L f).f1.length hk.c1) ∧ w'.cell? ⟨w.heap.size, 2, none⟩ = some (.slice hk.A2 (staF L f).f2.length hk.c2) ∧ w'.cell? ⟨w.heap.size, 3, none⟩ = some (.slice hk.A3 (staF L f).f3.length hk.c3) ∧ w'.cell? ⟨w.heap.size, 4, none⟩ = some (.slice hk.A4 (staF L f).f4.length hk.c4)) from fun w' hb => ⟨hb, (hb.cell (p := ⟨zw, 0, none⟩) lz).trans cz, (KSr.out.below hb ls).cell 0, (KSr.out.below hb ls).cell 1, (KSr.out.below hb ls).cell 2, (KSr.out.below hb ls).cell 3, (KSr.out.below hb ls).cell 4⟩)
      have c_s0 : wr.cell? ⟨w.heap.size, 0, none⟩ = some (.slice hk.A0 (staF L f).f0.length hk.c0) := KSr.out.cell 0
      have c_s1 : wr.cell? ⟨w.heap.size, 1, none⟩ = some (.slice hk.A1 (staF L f).f1.length hk.c1) := KSr.out.cell 1
      have c_s2 : wr.cell? ⟨w.heap.size, 2, none⟩ = some (.slice hk.A2 (staF L f).f2.length hk.c2) := KSr.out.cell 2
      have c_s3 : wr.cell? ⟨w.heap.size, 3, none⟩ = some (.slice hk.A3 (staF L f).f3.length hk.c3) := KSr.out.cell 3
      have c_s4 : wr.cell? ⟨w.heap.size, 4, none⟩ = some (.slice hk.A4 (staF L f).f4.length hk.c4) := KSr.out.cell 4
      go_upto_region 5 with (fail)
      go_cut [8, 9] (fun sa sb wx => GotNx L f i wr sa sb wx)
      case first =>
        go_region_held3 (fun w' => Below wr.heap.size wr w' ∧ w'.cell? ⟨zw, 0, none⟩ = some (.slice h.A L.length h.c) ∧ w'.cell? ⟨w.heap.size, 0, none⟩ = some (.slice hk.A0 (staF L f).f0.length hk.c0) ∧ w'.cell? ⟨w.heap.size, 1, none⟩ = some (.slice hk.A1 (staF L f).f1.length hk.c1) ∧ w'.cell? ⟨w.heap.size, 2, none⟩ = some (.slice hk.A2 (staF L f).f2.length hk.c2) ∧ w'.cell? ⟨w.heap.size, 3, none⟩ = some (.slice hk.A3 (staF L f).f3.length hk.c3) ∧ w'.cell? ⟨w.heap.size, 4, none⟩ = some (.slice hk.A4 (staF L f).f4.length hk.c4)) (first | (go_split_ands; exact AllS.out _ (by go_grown)) | (exact AllS.out _ (by go_grown))) (first | (go_at_call 115; go_split_ands; refine (snext_sta h L hk f i _ wr.heap.size (PRr.out.up (show Below wr.heap.size wr _ from by go_grown) (by omega) (by omega)) (SIr.out.rd.up (show Below wr.heap.size wr _ from by go_grown) (by omega) (by omega)) (show Below wr.heap.size wr _ from by go_grown).size HL.out HI.out hlt).mono ?_; rintro e vs ⟨x, rfl, hxe, hvs⟩; obtain ⟨hccs, hffs⟩ := bcell hvs; have hBvs : Below wr.heap.size wr vs := below_on (by go_grown) hvs; have hzvs := hvs.size; (try simp at hzvs); have hyvs := hBvs.size; (try (have hsvs : wr.heap.size < vs.heap.size := (by omega))); have kvs := Lib.hid hvs; have HXE := Lib.hid hxe; clear hvs hxe))
        all_goals go_wp2_with fail
        all_goals go_meet
        · exact gotNx_late hBvs HXE.out
        · exact gotNx_early hBvs ((bk_drewF (Bk.new wr #[.int .i64 0, .int .i64 0, .int .i64 0, .int .i64 0, .bool false] 132)).below kvs.out (by show _ < (World.alloc _ _).heap.size; simp)) (Nat.le_refl _) HXE.out
      clear AllS cz c_s0 c_s1 c_s2 c_s3 c_s4
      obtain ⟨bx, x, rfl, rfl, hxe, hbz, kx, hx1, hx2⟩ := hcut
      obtain ⟨z, rfl⟩ : ∃ V, V = wc := ⟨_, rfl⟩
      clear hxe kx
      have hzz := hbz.size
      have BZ := Lib.hid hbz
      have WLz := Lib.hid (show Wl z zw h L A1 cap1 (Ls ++ chK L f ch i) D1 C1 z.heap.size from ⟨HWl.out.bx.below hbz lz, HWl.out.own.kept (grown_of_below hbz none) (by cases A1 <;> simp [Value.ownBlock]), HWl.out.rows.keep (Nat.le_refl _) hzz fun q _ _ h2 _ => hbz.block q h2⟩)
      have FRz := Lib.hid (show ∀ q, q < W.heap.size → q ≠ zw → some q ≠ (Value.slice A Ls.length cap).ownBlock → z.heap[q]? = W.heap[q]? from fun q h1 h2 h3 => (hbz.block q (by omega)).trans (FR.out q h1 h2 h3))
      have HBz := Lib.hid (HB.out.trans (hbz.mono (by omega)))
      have HRz := Lib.hid (show enK L f i = true → RowsI z (zw + 1) ga (Ls ++ chK L f ch i) D1 from fun e => (HRW.out e).keep (Nat.le_refl _) (Nat.le_refl _) fun q _ _ h2 _ => hbz.block q (by omega))
      clear hbz
      obtain ⟨g', hg'⟩ : ∃ g', canF L f i = g' := ⟨_, rfl⟩
      have HG := Lib.hid hg'
      rw [hg']
      clear hg'
      cases g' with
      | false =>
        have e1 : chK L f ch (i + 1) = chK L f ch i := by rw [chK_next, HG.out]; simp
        have e2 : enK L f (i + 1) = enK L f i := by rw [enK_next, HG.out]; simp
        have E1 := Lib.hid e1
        have E2 := Lib.hid e2
        clear e1 e2
        go_wp2
        go_roundw
        case rel => exact ⟨i + 1, A1, cap1, D1, C1, by omega, by go_num, by rw [E2.out], HBz.out, by omega, FRz.out, by rw [E1.out]; exact WLz.out, by rw [E1.out]; exact OB1.out, by rw [E1.out, E2.out]; exact HRz.out⟩
        case measure => simp [intOf]; omega
      | true =>
        have e1 : chK L f ch (i + 1) = chK L f ch i ++ ch i := by rw [chK_next, HG.out]; simp
        have e2 : enK L f (i + 1) = false := enK_not HG.out (by omega)
        have e3 : (Ls ++ chK L f ch i).length + (ch i).length ≤ 1000000 := by
          have h1 := chK_le (L := L) (f := f) (ch := ch) (i := i + 1) (n := L.length) (by omega)
          have h2 := HN.out
          unfold endOr at h2
          rw [enK_not HG.out hlt] at h2
          rw [e1, List.length_append] at h1
          rw [List.length_append]
          simp at h2
          omega
        have E1 := Lib.hid e1
        have E2 := Lib.hid e2
        have E3 := Lib.hid e3
        clear e1 e2 e3
        have SIz := Lib.hid (SIr.out.below BZ.out (by omega))
        have KSz := Lib.hid (KSr.out.below BZ.out ls)
        have PRz := Lib.hid (PRr.out.below BZ.out (by omega))
        have AAz := Lib.hid (show AccAt z ga acc from by
          obtain ⟨cs, hcs, hx⟩ := AA.out
          exact ⟨cs, (FRz.out ga hcs.lt (by omega) HGA.out).trans hcs, hx⟩)
        have c_p : z.cell? ⟨zw, 0, none⟩ = some (.slice h.A L.length h.c) := WLz.out.bx.cell 0
        have c_s0 : z.cell? ⟨w.heap.size, 0, none⟩ = some (.slice hk.A0 (staF L f).f0.length hk.c0) := KSz.out.cell 0
        have c_s1 : z.cell? ⟨w.heap.size, 1, none⟩ = some (.slice hk.A1 (staF L f).f1.length hk.c1) := KSz.out.cell 1
        have c_s2 : z.cell? ⟨w.heap.size, 2, none⟩ = some (.slice hk.A2 (staF L f).f2.length hk.c2) := KSz.out.cell 2
        have c_s3 : z.cell? ⟨w.heap.size, 3, none⟩ = some (.slice hk.A3 (staF L f).f3.length hk.c3) := KSz.out.cell 3
        have c_s4 : z.cell? ⟨w.heap.size, 4, none⟩ = some (.slice hk.A4 (staF L f).f4.length hk.c4) := KSz.out.cell 4
        have Hdo := Lib.hid (fun (V' : World) (hb' : Below z.heap.size z V') => sdo_any h hk L f i V' z.heap.size (PRz.out.up hb' (by omega) (by omega)) (SIz.out.rd.up hb' (by omega) (by omega)) hb'.size HL.out hlt HI.out.good HG.out HI.out.chan)
        have Hnum := Lib.hid (fun (V' : World) (hb' : Below z.heap.size z V') => nums2_any (some ⟨ga, 0, none⟩) c acc V' _ ((AAz.out.below hb').vs) (Nat.le_refl _) (by have := HAC.out; omega))
        have hacc1 : acc.length ≤ 100 := HAC.out
        have lsz : w.heap.size < z.heap.size := by omega
        have lzz : zw < z.heap.size := by omega
        go_upto_region 8 with (fail)
        go_region_law (first
          | (go_simp; go_at_call 116; refine (Hdo.out _ (show Below z.heap.size z _ from by go_grown)).mono ?_; rintro e v ⟨hu, rfl, hv, hzv, ov⟩; have HBvr := Lib.hid hv; have HBv := Lib.hid (show Below z.heap.size z v from below_on (by go_grown) hv); obtain ⟨lo1, hlo1, hlv, ov1⟩ : ∃ lo1, z.heap.size ≤ lo1 ∧ lo1 ≤ v.heap.size ∧ StaI v lo1 v.heap.size hu (staF L (stepF L f i)) := ⟨_, (show Below z.heap.size z _ from by go_grown).size, hzv, ov.in_⟩; have Ov := Lib.hid ov1; have zv := HBv.out.size; clear hv ov ov1)
          | (go_simp; go_at_call 171; refine (Hnum.out _ (show Below z.heap.size z _ from below_on HBv.out (by go_grown))).mono ?_; rintro e u ⟨gn, cn, rfl, hgn, hu2, hown⟩; have HBur := Lib.hid hu2; have hbu := hu2.size; have HBu := Lib.hid (show Below v.heap.size v u from below_on (by go_grown) hu2); have zu := HBu.out.size; have hgv : v.heap.size ≤ gn := Nat.le_trans (show Below v.heap.size v _ from by go_grown).size hgn; have HOu := Lib.hid hown; clear hu2 hown)
          | (refine step_append_lies _ rfl (.tmp 40) (.tmp 42) 39 rfl _ 3 i0 _ 1 8 Try.underlying39 hi iz0 iz1 iz2 rfl (by decide) (.slice (some ⟨gn, 0, none⟩) acc.length cn) acc.length (ints acc) rfl (HOu.out.alloc _) ⟨_, 0, none⟩ 1 1 [.int .i64 (i : Int)] rfl rfl (cell1_new _ _ _) (by intro u hu; simp at hu; subst hu; rfl) (by omega) (by unfold maxLen; omega) (by omega) (Nat.le_trans hbu (show Below u.heap.size u _ from by go_grown).size) _ rfl ?_; intro g3 cap3 w3 hown3 hgrow3 hat3 hlt3; have hb3v : Below v.heap.size v w3 := (by refine below3e HBu.out ?_ hgrow3 (fun q hq => by simp [Value.ownBlock]; omega); go_grown); have HA3 := Lib.hid (acc_app hown3); have hg3 : v.heap.size ≤ g3 := Nat.le_trans (show Below v.heap.size v _ from by go_grown).size ((owns_block hown3 (q := g3) rfl).1); have HB3v := Lib.hid hb3v; have HB3 := Lib.hid (below_on HBv.out hb3v); have z3 := hb3v.size; clear hown3 hgrow3 hat3 hb3v)
          | (refine step_append_lies _ rfl (.tmp 40) (.tmp 42) 39 rfl _ 3 i0 _ 1 8 Try.underlying39 hi iz0 iz1 iz2 rfl (by decide) (.slice (some ⟨gn, 0, none⟩) acc.length cn) acc.length (ints acc) rfl HOu.out ⟨_, 0, none⟩ 1 1 [.int .i64 (i : Int)] rfl rfl (cell1_keep (cell1_new _ _ _) HBur.out (by simp)) (by intro u hu; simp at hu; subst hu; rfl) (by omega) (by unfold maxLen; omega) (by omega) (Nat.le_trans hbu (show Below u.heap.size u _ from by go_grown).size) _ rfl ?_; intro g3 cap3 w3 hown3 hgrow3 hat3 hlt3; have hb3v : Below v.heap.size v w3 := (by refine below3e HBu.out ?_ hgrow3 (fun q hq => by simp [Value.ownBlock]; omega); go_grown); have HA3 := Lib.hid (acc_app hown3); have hg3 : v.heap.size ≤ g3 := Nat.le_trans (show Below v.heap.size v _ from by go_grown).size ((owns_block hown3 (q := g3) rfl).1); have HB3v := Lib.hid hb3v; have HB3 := Lib.hid (below_on HBv.out hb3v); have z3 := hb3v.size; clear hown3 hgrow3 hat3 hb3v)
          | (refine step_append_lies _ rfl (.tmp 40) (.tmp 42) 39 rfl _ 3 i0 _ 1 8 Try.underlying39 hi iz0 iz1 iz2 rfl (by decide) (.slice (some ⟨gn, 0, none⟩) acc.length cn) acc.length (ints acc) rfl HOu.out ⟨_, 0, none⟩ 1 1 [.int .i64 (i : Int)] rfl rfl (cell1_keep (cell1_new _ _ _) (below_on (Below.refl _ _).drew HBur.out) (by simp)) (by intro u hu; simp at hu; subst hu; rfl) (by omega) (by unfold maxLen; omega) (by omega) (Nat.le_trans hbu (show Below u.heap.size u _ from by go_grown).size) _ rfl ?_; intro g3 cap3 w3 hown3 hgrow3 hat3 hlt3; have hb3v : Below v.heap.size v w3 := (by refine below3e HBu.out ?_ hgrow3 (fun q hq => by simp [Value.ownBlock]; omega); go_grown); have HA3 := Lib.hid (acc_app hown3); have hg3 : v.heap.size ≤ g3 := Nat.le_trans (show Below v.heap.size v _ from by go_grown).size ((owns_block hown3 (q := g3) rfl).1); have HB3v := Lib.hid hb3v; have HB3 := Lib.hid (below_on HBv.out hb3v); have z3 := hb3v.size; clear hown3 hgrow3 hat3 hb3v)
          | (refine step_append_lies _ rfl (.tmp 40) (.tmp 42) 39 rfl _ 3 i0 _ 1 8 Try.underlying39 hi iz0 iz1 iz2 rfl (by decide) (.slice (some ⟨gn, 0, none⟩) acc.length cn) acc.length (ints acc) rfl HOu.out ⟨_, 0, none⟩ 1 1 [.int .i64 (i : Int)] rfl rfl (cell1_keep (cell1_keep (cell1_new _ _ _) HBvr.out (by simp)) HBu.out (by have := HBvr.out.size; (try simp at this); show z.heap.size < v.heap.size; omega)) (by intro u hu; simp at hu; subst hu; rfl) (by omega) (by unfold maxLen; omega) (by omega) (Nat.le_trans hbu (show Below u.heap.size u _ from by go_grown).size) _ rfl ?_; intro g3 cap3 w3 hown3 hgrow3 hat3 hlt3; have hb3v : Below v.heap.size v w3 := (by refine below3e HBu.out ?_ hgrow3 (fun q hq => by simp [Value.ownBlock]; omega); go_grown); have HA3 := Lib.hid (acc_app hown3); have hg3 : v.heap.size ≤ g3 := Nat.le_trans (show Below v.heap.size v _ from by go_grown).size ((owns_block hown3 (q := g3) rfl).1); have HB3v := Lib.hid hb3v; have HB3 := Lib.hid (below_on HBv.out hb3v); have z3 := hb3v.size; clear hown3 hgrow3 hat3 hb3v)
          | (refine step_append_lies _ rfl (.tmp 40) (.tmp 42) 39 rfl _ 3 i0 _ 1 8 Try.underlying39 hi iz0 iz1 iz2 rfl (by decide) (.slice (some ⟨gn, 0, none⟩) acc.length cn) acc.length (ints acc) rfl HOu.out ⟨_, 0, none⟩ 1 1 [.int .i64 (i : Int)] rfl rfl (cell1_keep (cell1_keep (cell1_new _ _ _) (below_on (Below.refl _ _).drew HBvr.out) (by simp)) HBu.out (by have := HBvr.out.size; (try simp at this); show z.heap.size < v.heap.size; omega)) (by intro u hu; simp at hu; subst hu; rfl) (by omega) (by unfold maxLen; omega) (by omega) (Nat.le_trans hbu (show Below u.heap.size u _ from by go_grown).size) _ rfl ?_; intro g3 cap3 w3 hown3 hgrow3 hat3 hlt3; have hb3v : Below v.heap.size v w3 := (by refine below3e HBu.out ?_ hgrow3 (fun q hq => by simp [Value.ownBlock]; omega); go_grown); have HA3 := Lib.hid (acc_app hown3); have hg3 : v.heap.size ≤ g3 := Nat.le_trans (show Below v.heap.size v _ from by go_grown).size ((owns_block hown3 (q := g3) rfl).1); have HB3v := Lib.hid hb3v; have HB3 := Lib.hid (below_on HBv.out hb3v); have z3 := hb3v.size; clear hown3 hgrow3 hat3 hb3v)
          | (go_simp; go_at_call 172; refine (IH i hlt HG.out hu lo1 v.heap.size g3 cap3 A1 cap1 (Ls ++ chK L f ch i) D1 C1 w3 (PRz.out.below HB3.out (by omega)) ⟨WLz.out.bx.below HB3.out (by omega), WLz.out.own.kept (grown_of_below HB3.out none) (by cases A1 <;> simp [Value.ownBlock]), WLz.out.rows.keep (Nat.le_refl _) (by omega) fun q _ _ h2 _ => HB3.out.block q h2⟩ (Ov.out.below HB3v.out (Nat.le_refl _)) (by omega) z3 (fun q e => Or.inl (by have := (owns_block WLz.out.own e).2.1; omega)) HA3.out (by omega) E3.out).mono ?_; rintro e y ⟨rfl, hby, hsy, hfy, A2, cap2, D2, C2, hwl2, hob2⟩; have HBY := Lib.hid hby; have HFY := Lib.hid hfy; have HW2 := Lib.hid hwl2; have HO2 := Lib.hid hob2; clear hby hfy hwl2 hob2))
        all_goals
          try clear hHeld
          clear c_p c_s0 c_s1 c_s2 c_s3 c_s4 Hdo Hnum
          go_wp2
          go_roundw
          case rel => exact ⟨i + 1, A2, cap2, D2, C2, by omega, by go_num, by rw [E2.out], (HBz.out.trans (HB3.out.mono (by omega))).trans HBY.out, by omega, fun q h1 h2 h3 => (HFY.out q (by omega) h2 (fun e => (OB1.out q e).elim h3 (fun e => by omega))).trans ((HB3.out.block q (by omega)).trans (FRz.out q h1 h2 h3)), by rw [E1.out, ← List.append_assoc]; exact HW2.out, by rw [E1.out, ← List.append_assoc]; exact fun q e => (HO2.out q e).elim (fun e => OB1.out q e) (fun e => Or.inr (by omega)), by rw [E2.out]; intro e; cases e⟩
          case measure => simp [intOf]; omega
    · have hil : i = L.length := by omega
      subst hil
      obtain ⟨g', hg'⟩ : ∃ g', enK L f L.length = g' := ⟨_, rfl⟩
      have HG := Lib.hid hg'
      rw [hg']
      clear hg'
      cases g' with
      | false =>
        have e0 : endOr L f acc ch = chK L f ch L.length := by unfold endOr; rw [HG.out]; rfl
        have Fin := Lib.hid (show FromP w zw h L A cap Ls (endOr L f acc ch) (.returned (.tuple #[])) wr from ⟨rfl, BWz.out.trans HB.out, by omega, fun q h1 h2 h3 => (FR.out q (by omega) h2 h3).trans (FRW.out q h1), A1, cap1, D1, C1, by rw [e0]; exact HWl.out, by rw [e0]; exact fun q e => (OB1.out q e).imp id (fun e => by omega)⟩)
        clear e0
        go_wp2
        exact bodyPost_end (v := .tuple #[]) (by simp [results, Try.results172, go_sem]) rfl Fin.out
      | true =>
        have e0 : endOr L f acc ch = [acc] := by unfold endOr; rw [HG.out]; rfl
        have en : Ls ++ chK L f ch L.length = Ls := by rw [chK_none HG.out, List.append_nil]
        have hwl := HWl.out
        have hob1 := OB1.out
        have hrw := HRW.out HG.out
        rw [en] at hwl hob1 hrw
        have E0 := Lib.hid e0
        have hn1 : Ls.length ≤ 1000000 := by have := HN.out; omega
        have hag2 : ga < wr.heap.size := by omega
        have aar : AccAt wr ga acc := by
          obtain ⟨cs, hcs, hx⟩ := AA.out
          exact ⟨cs, (FR.out ga hcs.lt (by omega) HGA.out).trans hcs, hx⟩
        have nz : some zw ≠ (Value.slice A1 Ls.length cap1).ownBlock := fun e => by have := (owns_block hwl.own e).1; omega
        have ni : ∀ q cs, Bk wr q 3 cs → some q ≠ (Value.slice A1 Ls.length cap1).ownBlock := fun q cs hcs e => by
          obtain ⟨-, -, cu, hcu⟩ := owns_block hwl.own e
          have := hcu.symm.trans hcs
          injection this with this
          injection this with _ h2 _
          cases h2
        have WL1 := Lib.hid hwl
        have OB2 := Lib.hid hob1
        have RW1 := Lib.hid hrw
        have AAr := Lib.hid aar
        have NZ := Lib.hid nz
        have NI := Lib.hid ni
        have O1 := Lib.hid hwl.own
        have c_o : wr.cell? ⟨zw, 1, none⟩ = some (.slice A1 Ls.length cap1) := hwl.bx.cell 1
        obtain ⟨i1, hi1, jz0, jz1, jz2⟩ := info_parts Try.info39
        clear e0 en hwl hob1 hrw aar nz ni
        go_upto_region 10 with (fail)
        go_wp2_with (at_builtin; refine wpList_append_lies _ rfl (.tmp 50) (.tmp 52) 43 rfl (zw + 1) 39 i1 _ 1 24 Try.underlying43 hi1 jz0 jz1 jz2 rfl (by decide) _ Ls.length (headsC Ls D1 C1) rfl (O1.out.alloc _) ⟨_, 0, none⟩ 1 1 [.slice (some ⟨ga, 0, none⟩) acc.length c] rfl rfl (cell1_new _ _ _) (by intro u hu; simp at hu; subst hu; rfl) (by omega) (by unfold maxLen; omega) (by omega) (by simp; omega) _ rfl ?_; intro g3 cap3 w3 own3 grow3 hat3 hlt3; have hblk : ∀ q, q < wr.heap.size → some q ≠ (Value.slice A1 Ls.length cap1).ownBlock → w3.heap[q]? = wr.heap[q]? := (by refine far3e ?_ grow3; go_grown); have hb3 : Below zw w w3 := (by refine below_row (BWz.out.trans HB.out) (wr := wr) ?_ grow3 (fun q hq e => by have := (owns_block O1.out e).1; omega) (by omega); go_grown); have kb3 : Bk w3 zw 205 #[.slice h.A L.length h.c, .slice A1 Ls.length cap1] := (hblk zw lz NZ.out).trans WL1.out.bx; have z3 := grow3.size; (try simp at z3); have hg3 : zw + 1 ≤ g3 := (owns_block own3 (q := g3) rfl).1; have Hat := Lib.hid (show (Value.slice A1 Ls.length cap1).ownBlock = some g3 ∨ wr.heap.size ≤ g3 from hat3.imp id (fun e => by rw [e]; simp)); have cfr : w3.frozen? ⟨zw, 1, none⟩ = false := kb3.free 1; have ccl : w3.cell? ⟨zw, 1, none⟩ = some (.slice A1 Ls.length cap1) := kb3.cell 1; have HBk := Lib.hid hblk; have HB3 := Lib.hid hb3; have KB3 := Lib.hid kb3; have HO3 := Lib.hid own3; clear hblk hb3 kb3 own3 grow3 hat3)
        obtain ⟨X, hX⟩ : ∃ X, X = w3.setCell ⟨zw, 1, none⟩ (.slice (some ⟨g3, 0, none⟩) (Ls.length + 1) cap3) := ⟨_, rfl⟩
        rw [← hX]
        rw [E0.out]
        have zX : X.heap.size = w3.heap.size := by rw [hX]; simp
        have zXa := Nat.le_of_eq zX
        have zXb := Nat.le_of_eq zX.symm
        have sX : ∀ q, q ≠ zw → X.heap[q]? = w3.heap[q]? := fun q h1 => by rw [hX]; exact Below.heap_setCell w3 ⟨zw, 1, none⟩ _ q h1
        have bX : Below zw w X := by rw [hX]; exact HB3.out.setCell (p := ⟨zw, 1, none⟩) (Nat.le_refl _) _
        have kX : Bk X zw 205 #[.slice h.A L.length h.c, .slice (some ⟨g3, 0, none⟩) (Ls ++ [acc]).length cap3] := by
          rw [hX, List.length_append]
          have := KB3.out.set 1 (.slice (some ⟨g3, 0, none⟩) (Ls.length + 1) cap3)
          simpa using this
        have oX : X.ownsRow (zw + 1) 39 1 (.slice (some ⟨g3, 0, none⟩) (Ls ++ [acc]).length cap3) (Ls ++ [acc]).length (headsC (Ls ++ [acc]) (catF Ls.length D1 (fun _ => ga)) (catF Ls.length C1 (fun _ => c))) := by
          rw [headsC_cat, List.length_append]
          exact own_keep HO3.out (sX g3 (by omega))
        have rX : RowsI X (zw + 1) X.heap.size (Ls ++ [acc]) (catF Ls.length D1 (fun _ => ga)) :=
          (RW1.out.cat (rows_one AAr.out hag2) (by omega) (by omega)).keep (Nat.le_refl _) (by omega) fun q cs h1 h2 h3 => (sX q (by omega)).trans (HBk.out q h2 (NI.out q cs h3))
        exact bodyPost_end (v := .tuple #[]) (by simp [results, Try.results172, go_sem]) rfl
          ⟨rfl, bX, by omega, fun q h1 h2 h3 => (sX q h2).trans ((HBk.out q (by omega) (fun e => (OB2.out q e).elim h3 (fun e => by omega))).trans ((FR.out q (by omega) h2 h3).trans (FRW.out q h1))), some ⟨g3, 0, none⟩, cap3, _, _, ⟨kX, oX, rX⟩, fun q e => by
            have e1 : q = g3 := by simp [Value.ownBlock] at e; exact e
            rw [e1]
            rcases Hat.out with ha | ha
            · exact (OB2.out g3 ha.symm).imp id (fun e => by omega)
            · exact Or.inr (by omega)⟩
end Go.Proofs.Ytiljakbjbiinkaa
