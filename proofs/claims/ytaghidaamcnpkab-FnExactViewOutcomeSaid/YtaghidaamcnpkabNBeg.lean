/-
  The beginning on a machine with views: what the program's beginSighted and ViewBegin come to.
-/
import Derived.Test.YtaghidaamcnpkabNPk
import Derived.Test.YtaghidaamcnpkabPack
import Derived.Test.YtaghidaamcnpkabBegin
namespace Go.Proofs.Ytaghidaamcnpkab
open Go.RowKit Pl Go.BigFrame
set_option maxHeartbeats 4000000
set_option maxRecDepth 100000
set_option linter.unusedVariables false

/-- What the last store of a place has. -/
def lastN (S : List (Nat → Nat)) : Nat := match S[S.length - 1]? with
  | none => 0
  | some g => g 1
def lwF (s : Sg) (k : Nat) : Nat → Nat := fun q => if 15 ≤ q ∧ q < 15 + k then lastN (s.S (q - 15)) else s.f q
theorem lwF_next (s : Sg) {p n : Nat} {g : Nat → Nat} (hn : (s.S p).length = n) (hg : (s.S p)[n - 1]? = some g) (h1 : 1 ≤ n) : lwF s (p + 1) = upd (lwF s p) (15 + p) (g 1) := by
  funext q
  unfold upd lwF
  by_cases h : q = 15 + p
  · rw [if_pos h, if_pos (by omega), show q - 15 = p by omega]
    unfold lastN
    rw [hn, hg]
  · rw [if_neg h]
    by_cases h2 : 15 ≤ q ∧ q < 15 + p
    · rw [if_pos h2, if_pos (by omega)]
    · rw [if_neg h2, if_neg (by omega)]
theorem okv_lt {g : Nat → Nat} (h : okF WV g) : g 1 < 4 := by
  exact okF_at h (by decide)
theorem lwF_ok {s : Sg} (hO : okF WS s.f) (hS : ∀ p, p < 3 → ∀ g ∈ s.S p, okF WV g) (hN : ∀ p, p < 3 → 1 ≤ (s.S p).length) : ∀ k, k ≤ 3 → okF WS (lwF s k)
  | 0, _ => by
    have e : lwF s 0 = s.f := by funext q; unfold lwF; rw [if_neg (by omega)]
    rw [e]; exact hO
  | k + 1, hk => by
    obtain ⟨g, hg⟩ : ∃ g, (s.S k)[(s.S k).length - 1]? = some g := ⟨_, List.getElem?_eq_getElem (by have := hN k (by omega); omega)⟩
    rw [lwF_next s rfl hg (hN k (by omega))]
    exact okF_upd fld2 (lwF_ok hO hS hN k (by omega)) (show k < fC 2 by show k < 3; omega) (okv_lt (hS k (by omega) g (List.mem_of_getElem? hg)))
theorem lastword_any (H : SgH) (s : Sg) (w : World) (B : Nat) (hR : SgR w B H s) (hB : B ≤ w.heap.size) (hok : SgOk s) (hne : ∀ p, p < 3 → 1 ≤ (s.S p).length) :
    Calls Try.prog 64 #[SgV H s] w fun e w' => e = .returned (.int .u64 (enc WS (lwF s 3) : Nat)) ∧ Below w.heap.size w w' := by
  obtain ⟨W, hW⟩ : ∃ W, W = w.alloc (.cells (mkG H s) TG) := ⟨_, rfl⟩
  have bW : Below w.heap.size w W := by rw [hW]; go_grown
  have k1 : Bk W w.heap.size TG (mkG H s) := by rw [hW]; exact Bk.new w _ _
  have R1 := Lib.hid (hR.below bW hB)
  have BW := Lib.hid bW
  have HO := Lib.hid hok.f
  have HS := Lib.hid hok.S
  have HL := Lib.hid hok.l
  have HN := Lib.hid hne
  have HW := Lib.hid hW
  have z0 := bW.size
  have e0 : lwF s 0 = s.f := by funext q; unfold lwF; rw [if_neg (by omega)]
  have c0 : W.cell? ⟨w.heap.size, 0, none⟩ = some (.int .u64 (enc WS (lwF s 0) : Nat)) := by rw [e0]; exact (k1.cell 0).trans (mkG_0 H s)
  have c1 : W.cell? ⟨w.heap.size, 1, none⟩ = some (.slice (H.A 0) (s.S 0).length (H.c 0)) := (k1.cell 1).trans (mkG_s H s (show 0 < 3 by decide))
  have c2 : W.cell? ⟨w.heap.size, 2, none⟩ = some (.slice (H.A 1) (s.S 1).length (H.c 1)) := (k1.cell 2).trans (mkG_s H s (show 1 < 3 by decide))
  have c3 : W.cell? ⟨w.heap.size, 3, none⟩ = some (.slice (H.A 2) (s.S 2).length (H.c 2)) := (k1.cell 3).trans (mkG_s H s (show 2 < 3 by decide))
  have l0 := k1.lt
  clear hW bW k1 hR hok hne e0
  go_enter Try.func64, Try.ntmps64
  go_wp2_with (rw [← HW.out])
  go_loopw [3, 10] (fun wv iv wr => ∃ k : Nat, k ≤ 3 ∧ iv = .int .i64 k ∧ wv = .int .u64 (enc WS (lwF s k) : Nat) ∧ Below W.heap.size W wr) (fun _ iv _ => 3 - (intOf iv).toNat)
  case atStart => exact ⟨0, by omega, rfl, rfl, Below.refl _ _⟩
  case round =>
    obtain ⟨k, hk, rfl, rfl, hbel⟩ := hrel
    clear c0 c1 c2 c3 l0
    have hz := hbel.size
    by_cases hlt : k < 3
    · have hki : (k : Int) < 3 := by omega
      have hn0 := HN.out k hlt
      obtain ⟨b, off, hA, hb, hxs⟩ := (R1.out.below hbel (by omega)) k hlt (by rw [vsW_length]; omega)
      obtain ⟨n, hn⟩ : ∃ n, (s.S k).length = n := ⟨_, rfl⟩
      have hn1 : 1 ≤ n := by have := HN.out k hlt; omega
      have hn16 : n ≤ 16 := by have := HL.out k hlt; omega
      obtain ⟨g, hg⟩ : ∃ g, (s.S k)[n - 1]? = some g := ⟨_, List.getElem?_eq_getElem (by omega)⟩
      have hgo : okF WV g := HS.out k hlt g (List.mem_of_getElem? hg)
      have hg4 : g 1 < 4 := okv_lt hgo
      have c0 := hxs (n - 1) _ (vsW_at hg)
      have hlw : lwF s (k + 1) = upd (lwF s k) (15 + k) (g 1) := lwF_next s hn hg (by omega)
      have HV := Lib.hid (fun (V : World) => valuein_any g V hgo)
      have HE2 := Lib.hid (fun (V : World) => wentF fld2 (lwF_ok HO.out HS.out HN.out k hk) k (g 1) (g 1 : Int) hlt hg4 (by simp [fL]) V)
      rw [← hlw] at HE2
      obtain ⟨E2, hE2⟩ : ∃ E, enc WS (lwF s (k + 1)) = E := ⟨_, rfl⟩
      rw [hE2] at HE2
      obtain ⟨E1, hE1⟩ : ∃ E, enc WS (lwF s k) = E := ⟨_, rfl⟩
      have hE1' : enc WS (lwF s k) = E1 := hE1
      rw [hE1'] at HE2 ⊢
      obtain ⟨G, hG⟩ : ∃ G, enc WV g = G := ⟨_, rfl⟩
      rw [hG] at HV c0
      obtain ⟨g1, hg1⟩ : ∃ x, g 1 = x := ⟨_, rfl⟩
      rw [hg1] at HV HE2
      have hix : ∀ v : World, Sem.run Try.prog (Instr.index 89 (.agg #[.slice (H.A 0) (s.S 0).length (H.c 0), .slice (H.A 1) (s.S 1).length (H.c 1), .slice (H.A 2) (s.S 2).length (H.c 2)]) (.int .i64 (k : Int))) v = .ok (.slice (some ⟨b, off, none⟩) n (H.c k)) v := by
        rw [← hn, ← hA]
        rcases (show k = 0 ∨ k = 1 ∨ k = 2 by omega) with rfl | rfl | rfl <;> (intro v; rfl)
      have e1 : ((n : Int) - 1) = ((n - 1 : Nat) : Int) := by omega
      have i1 : ((n - 1 : Nat) : Int) < (n : Int) := by omega
      have i0 : (0 : Int) ≤ (n : Int) - 1 := by omega
      have hbw : b < wr.heap.size := by omega
      have Hb := Lib.hid hbel
      have HNN := Lib.hid hn
      have HE22 := Lib.hid hE2
      have c1 : wr.cell? ⟨b, off + (n - 1), none⟩ = some (.int .u64 (G : Nat)) := c0
      have ei : IntKind.i64.wrap ((n : Int) - 1) = ((n - 1 : Nat) : Int) := by rw [wrap64_small (by omega) (by omega)]; omega
      clear hbel hxs hgo hlw hg hA hE1 hE1' hE2 hG hg1 c0 hn
      go_wp2_with fail
      refine (HV.out _).mono ?_
      rintro e w3 ⟨rfl, hb3⟩
      have B3 := Lib.hid (Hb.out.trans (hb3.mono (by omega)))
      clear hb3 c1
      go_wp2_with fail
      refine (HE2.out _).mono ?_
      rintro e w4 ⟨rfl, hb4⟩
      have B4 := Lib.hid (below_on B3.out hb4)
      clear hb4
      go_wp2
      go_roundw
      case rel => exact ⟨k + 1, by omega, by go_num, by rw [HE22.out], B4.out⟩
      case measure => simp [intOf]; omega
    · have hk3 : k = 3 := by omega
      subst hk3
      have hf := Lib.hid (BW.out.trans (hbel.mono (by omega)))
      clear hbel
      go_wp2
      go_ret
      exact ⟨rfl, hf.out⟩
end Go.Proofs.Ytaghidaamcnpkab
namespace Go.Proofs.Ytaghidaamcnpkab
open Go.RowKit Pl Go.BigFrame
set_option maxHeartbeats 4000000
set_option maxRecDepth 100000
set_option linter.unusedVariables false

/-- A state with views put in, from one of them on. -/
def wvS (s : Sg) (b : Nat) (X : Iss) : Sg := ⟨s.f, s.S, fun i => if b ≤ i ∧ i < b + X.length then vwF (X.getD (i - b) []) else s.V i⟩
theorem wvS_nil (s : Sg) (b : Nat) : wvS s b [] = s := by
  unfold wvS
  have : (fun i => if b ≤ i ∧ i < b + ([] : Iss).length then vwF (([] : Iss).getD (i - b) []) else s.V i) = s.V := by
    funext i
    have h0 : ([] : Iss).length = 0 := rfl
    rw [if_neg (by rw [h0]; omega)]
  rw [this]
theorem mkG_set (h : SgH) (s : Sg) {i : Nat} (hi : i < 8) (g : Nat → Nat) : (mkG h s).setIfInBounds (4 + i) (.int .u64 (enc WV g : Nat)) = mkG h ⟨s.f, s.S, fun j => if j = i then g else s.V j⟩ := by
  rcases (show i = 0 ∨ i = 1 ∨ i = 2 ∨ i = 3 ∨ i = 4 ∨ i = 5 ∨ i = 6 ∨ i = 7 by omega) with rfl | rfl | rfl | rfl | rfl | rfl | rfl | rfl <;> rfl
theorem wvS_next (s : Sg) (b : Nat) (X : Iss) {k : Nat} {xs : List Int} (hx : X[k]? = some xs) : (⟨s.f, s.S, fun j => if j = b + k then vwF xs else (wvS s b (X.take k)).V j⟩ : Sg) = wvS s b (X.take (k + 1)) := by
  have hk := (List.getElem?_eq_some_iff.1 hx).1
  unfold wvS
  congr 1
  funext j
  by_cases h1 : j = b + k
  · subst h1
    rw [if_pos rfl, if_pos (by rw [List.length_take]; omega), show b + k - b = k by omega, List.getD, List.getElem?_take, if_pos (by omega), hx]
    rfl
  · rw [if_neg h1]
    show (if b ≤ j ∧ j < b + (X.take k).length then vwF ((X.take k).getD (j - b) []) else s.V j) = _
    by_cases h2 : b ≤ j ∧ j < b + (X.take k).length
    · rw [if_pos h2]
      rw [List.length_take] at h2
      rw [if_pos (by rw [List.length_take]; omega)]
      simp only [List.getD, List.getElem?_take]
      rw [if_pos (by omega), if_pos (by omega)]
    · rw [if_neg h2]
      rw [List.length_take] at h2
      rw [if_neg (by rw [List.length_take]; omega)]
theorem withviews_any (h : SgH) (s : Sg) (b : Nat) (q : IssH) (X : Iss) (w : World) (B : Nat) (hX : IssR w B q X) (hB : B ≤ w.heap.size) (hl : b + X.length ≤ 8) (hx : ∀ xs ∈ X, xs.length ≤ 3 ∧ ∀ x ∈ xs, 0 ≤ x ∧ x ≤ 15) :
    Calls Try.prog 100 #[SgV h s, .int .i64 b, IssV q X] w fun e w' => e = .returned (SgV h (wvS s b X)) ∧ Below w.heap.size w w' := by
  obtain ⟨A2, c2⟩ := q
  show Calls Try.prog 100 #[SgV h s, .int .i64 b, .slice A2 X.length c2] w _
  obtain ⟨Z, hZ⟩ : ∃ Z : Array Value, Z = #[.int .u64 0, .slice none 0 0, .slice none 0 0, .slice none 0 0, .int .u64 0, .int .u64 0, .int .u64 0, .int .u64 0, .int .u64 0, .int .u64 0, .int .u64 0, .int .u64 0] := ⟨_, rfl⟩
  obtain ⟨W, hW⟩ : ∃ W, W = (w.alloc (.cells (mkG h s) TG)).alloc (.cells #[.int .u64 0, .slice none 0 0, .slice none 0 0, .slice none 0 0, .int .u64 0, .int .u64 0, .int .u64 0, .int .u64 0, .int .u64 0, .int .u64 0, .int .u64 0, .int .u64 0] TG) := ⟨_, rfl⟩
  have bW : Below w.heap.size w W := by rw [hW]; go_grown
  have sW : W.heap.size = w.heap.size + 1 + 1 := by rw [hW]; simp
  have k0 : Bk W w.heap.size TG (mkG h s) := by rw [hW]; exact (Bk.new w _ _).alloc _
  have k1 : Bk W (w.heap.size + 1) TG Z := by
    rw [hW, hZ]; have := Bk.new (w.alloc (.cells (mkG h s) TG)) #[.int .u64 0, .slice none 0 0, .slice none 0 0, .slice none 0 0, .int .u64 0, .int .u64 0, .int .u64 0, .int .u64 0, .int .u64 0, .int .u64 0, .int .u64 0, .int .u64 0] TG
    rwa [World.size_alloc] at this
  have sZ : Z.size = 12 := by rw [hZ]; rfl
  have X0 := Lib.hid (hX.below bW hB)
  have start := Lib.hid (show Bk W w.heap.size TG (mkG h (wvS s b (X.take 0))) by rw [List.take_zero, wvS_nil]; exact k0)
  have K1 := Lib.hid k1
  have BW := Lib.hid bW
  have HX := Lib.hid hx
  have sWa := Nat.le_of_eq sW
  have sWb := Nat.le_of_eq sW.symm
  have HW := Lib.hid hW
  clear hW bW sW k0 k1 hX hZ hx
  go_enter Try.func100, Try.ntmps100
  go_wp2_with (rw [← HW.out])
  go_loopw [11] (fun i wr => ∃ k : Nat, k ≤ X.length ∧ i = .int .i64 k ∧ Below w.heap.size W wr ∧ Bk wr (w.heap.size + 1) TG Z ∧ Bk wr w.heap.size TG (mkG h (wvS s b (X.take k)))) (fun i _ => X.length - (intOf i).toNat)
  case atStart => exact ⟨0, Nat.zero_le _, rfl, Below.refl _ _, K1.out, start.out⟩
  case round =>
    obtain ⟨k, hk, rfl, hbel, hk1, hk0⟩ := hrel
    clear start
    have hz := hbel.size
    by_cases hlt : k < X.length
    · obtain ⟨xs, hxs⟩ : ∃ xs, X[k]? = some xs := ⟨_, List.getElem?_eq_getElem hlt⟩
      have hki : (k : Int) < (X.length : Int) := by omega
      obtain ⟨l3, hx15⟩ := HX.out xs (List.mem_of_getElem? hxs)
      obtain ⟨bb, off, Ai, ci, hA, hbb, hcr, hrow⟩ := (X0.out.v.below hbel hB).at_ (vsIss_at hxs)
      rw [ints_length] at hcr
      have HV := Lib.hid (fun (V : World) (hV : Below wr.heap.size wr V) => viewword_any Ai xs ci V B (hrow.below hV (by omega)) (by have := hV.size; omega) l3 hx15)
      have K1r := Lib.hid hk1
      have K0r := Lib.hid hk0
      have HB := Lib.hid hbel
      have HS := Lib.hid hxs
      have hbw : bb < wr.heap.size := by omega
      have hA' : A2 = _ := hA
      subst hA'
      clear hk0 hk1 hbel hrow hxs hA hx15 X0 HX HW
      go_wp2_with fail
      refine (HV.out _ (Below.refl _ _)).mono ?_
      rintro e w1 ⟨rfl, hb1⟩
      have z1 := hb1.size
      have N1 := Lib.hid (K1r.out.below hb1 K1r.out.lt)
      have N0 := K0r.out.below hb1 K0r.out.lt
      have hB1 := Lib.hid (HB.out.trans (hb1.mono (show w.heap.size ≤ wr.heap.size by omega)))
      have l0 := N0.lt
      obtain ⟨v0, e0⟩ := N0.some_ (i := 4 + (b + k)) (by show 4 + (b + k) < 12; omega)
      have f0 := N0.free (4 + (b + k))
      have Next := Lib.hid (show Bk (w1.setCell ⟨w.heap.size, 4 + (b + k), none⟩ (.int .u64 (enc WV (vwF xs) : Nat))) w.heap.size TG (mkG h (wvS s b (X.take (k + 1)))) by
        have := N0.set (4 + (b + k)) (.int .u64 (enc WV (vwF xs) : Nat))
        rw [mkG_set _ _ (show b + k < 8 by omega)] at this
        rw [← wvS_next s b X HS.out]
        exact this)
      have Oth := Lib.hid (show Bk (w1.setCell ⟨w.heap.size, 4 + (b + k), none⟩ (.int .u64 (enc WV (vwF xs) : Nat))) (w.heap.size + 1) TG Z from N1.out.far (p := ⟨w.heap.size, 4 + (b + k), none⟩) (by show w.heap.size + 1 ≠ w.heap.size; omega) _)
      obtain ⟨E, hE⟩ : ∃ E, enc WV (vwF xs) = E := ⟨_, rfl⟩
      rw [hE] at Next Oth ⊢
      clear hb1 N0 hE HV K1r K0r
      go_wp2
      go_roundw
      case rel => exact ⟨k + 1, by omega, by go_num, hB1.out.setCell (p := ⟨w.heap.size, 4 + (b + k), none⟩) (Nat.le_refl _) _, Oth.out, Next.out⟩
      case measure => simp [intOf]; omega
    · have hkl : k = X.length := by omega
      subst hkl
      rw [List.take_length] at hk0
      have hki : ¬ (X.length : Int) < (X.length : Int) := by omega
      have rg := Lib.hid hk0.range
      have K12 := Lib.hid hk1
      have HB := Lib.hid hbel
      clear hk0 hk1 hbel
      go_wp2_with (first | (refine ld_r sg_row rfl _ rfl w.heap.size 0 rfl (mkG h (wvS s b X)) rg.out rfl ?_) | (refine st_r sg_row rfl _ _ rfl (w.heap.size + 1) rfl TG _ (mkG h (wvS s b X)) rfl K12.out sZ rfl (mkG_one _ _) ?_; intro V5 s5))
      refine bodyPost_ret (v := .agg (mkG h (wvS s b X))) (res_r sg_row rfl rfl s5.bk rfl) rfl ?_
      exact ⟨rfl, (BW.out.trans HB.out).trans (s5.bel _ (by omega))⟩
end Go.Proofs.Ytaghidaamcnpkab
namespace Go.Proofs.Ytaghidaamcnpkab
open Go.RowKit Pl Go.BigFrame
set_option maxHeartbeats 4000000
set_option maxRecDepth 100000
set_option linter.unusedVariables false

def sgBeg (L : Pg) : Sg := ⟨keptF L zeroF L.length, fun _ => [fun _ => 0], fun _ _ => 0⟩
theorem okV_zero : okF WV fun _ => 0 := okF_of fun p hp => Nat.two_pow_pos _
theorem encV_zero : enc WV (fun _ => 0) = 0 := by decide
theorem sgBeg_ok {L : Pg} (h : L.length ≤ 3) : SgOk (sgBeg L) := ⟨keptF_ok zeroF_ok h, fun p _ g hg => by simp [sgBeg] at hg; subst hg; exact okV_zero, fun p _ => by simp [sgBeg], fun i _ => okV_zero⟩
def AnsG (w : World) (s : Sg) (e : Ending) (w' : World) : Prop := ∃ h, e = .returned (SgV h s) ∧ Below w.heap.size w w' ∧ SgR w' w'.heap.size h s
/-- The cells while places get their first stores. -/
def bgC (E : Nat) (F : Nat → Value) : Array Value := #[.int .u64 E, F 0, F 1, F 2, .int .u64 0, .int .u64 0, .int .u64 0, .int .u64 0, .int .u64 0, .int .u64 0, .int .u64 0, .int .u64 0]
def bgF (D : Nat → Nat) (k p : Nat) : Value := if p < k then .slice (some ⟨D p, 0, none⟩) 1 1 else .slice none 0 0
theorem bgC_set (E : Nat) (D : Nat → Nat) (d : Nat) {k : Nat} (h : k < 3) : (bgC E (bgF D k)).setIfInBounds (1 + k) (.slice (some ⟨d, 0, none⟩) 1 1) = bgC E (bgF (fun p => if p = k then d else D p) (k + 1)) := by
  rcases (show k = 0 ∨ k = 1 ∨ k = 2 by omega) with rfl | rfl | rfl <;> rfl
theorem bgC_beg (L : Pg) (D : Nat → Nat) : mkG ⟨fun p => some ⟨D p, 0, none⟩, fun _ => 1⟩ (sgBeg L) = bgC (enc WS (keptF L zeroF L.length)) (bgF D 3) := by
  have e : ∀ i, enc WV ((sgBeg L).V i) = 0 := fun i => encV_zero
  unfold mkG bgC bgF
  simp only [e]
  rfl
structure BegG (w wr : World) (E k : Nat) (D : Nat → Nat) : Prop where
  bel : Below w.heap.size w wr
  box : Bk wr w.heap.size TG (bgC E (bgF D k))
  row : ∀ p, p < k → w.heap.size < D p ∧ D p < wr.heap.size ∧ wr.cell? ⟨D p, 0, none⟩ = some (.int .u64 0)
theorem BegG.next {w wr : World} {E k : Nat} {D : Nat → Nat} (h : BegG w wr E k D) (hk : k < 3) (t : TypeId) :
    BegG w ((wr.setCell ⟨w.heap.size, 1 + k, none⟩ (.slice (some ⟨wr.heap.size, 0, none⟩) 1 1)).alloc (.cells #[.int .u64 0] t)) E (k + 1) (fun p => if p = k then wr.heap.size else D p) := by
  have hl := h.box.lt
  refine ⟨(h.bel.setCell (p := ⟨w.heap.size, 1 + k, none⟩) (Nat.le_refl _) _).alloc (by simp; omega) _, ?_, fun p hp => ?_⟩
  · have := (h.box.set (1 + k) (.slice (some ⟨wr.heap.size, 0, none⟩) 1 1)).alloc (.cells #[.int .u64 0] t)
    rw [bgC_set E D _ hk] at this
    exact this
  · by_cases e : p = k
    · subst e
      simp only [if_true]
      refine ⟨hl, by simp, ?_⟩
      have := (Bk.new (wr.setCell ⟨w.heap.size, 1 + p, none⟩ (.slice (some ⟨wr.heap.size, 0, none⟩) 1 1)) #[.int .u64 0] t).cell 0
      rw [World.size_setCell] at this
      exact this
    · simp only [if_neg e]
      obtain ⟨a, b, c⟩ := h.row p (by omega)
      refine ⟨a, by simp; omega, ?_⟩
      rw [← c]
      refine World.cell?_of_block (a := ⟨D p, 0, none⟩) ?_
      have b1 : Below (wr.setCell ⟨w.heap.size, 1 + k, none⟩ (.slice (some ⟨wr.heap.size, 0, none⟩) 1 1)).heap.size (wr.setCell ⟨w.heap.size, 1 + k, none⟩ (.slice (some ⟨wr.heap.size, 0, none⟩) 1 1)) ((wr.setCell ⟨w.heap.size, 1 + k, none⟩ (.slice (some ⟨wr.heap.size, 0, none⟩) 1 1)).alloc (.cells #[.int .u64 0] t)) := (Below.refl _ _).alloc (Nat.le_refl _) _
      exact (b1.block _ (by simpa using b)).trans (Below.heap_setCell _ _ _ _ (by show D p ≠ w.heap.size; omega))
theorem sgBeg_at (L : Pg) (p j : Nat) (v : Value) (h : (vsW ((sgBeg L).S p))[j]? = some v) : j = 0 ∧ v = .int .u64 0 := by
  have e : vsW ((sgBeg L).S p) = [.int .u64 (enc WV (fun _ => 0) : Nat)] := rfl
  rw [e, encV_zero] at h
  cases j with
  | zero => simp at h; exact ⟨rfl, h.symm⟩
  | succ j => simp at h
theorem begG_rd {w wr V5 : World} {E : Nat} {D : Nat → Nat} {L : Pg} (h : BegG w wr E 3 D) (hfar : ∀ q, w.heap.size < q → V5.heap[q]? = wr.heap[q]?) (hs : wr.heap.size ≤ V5.heap.size) : SgR V5 V5.heap.size ⟨fun p => some ⟨D p, 0, none⟩, fun _ => 1⟩ (sgBeg L) := by
  intro p hp
  obtain ⟨a, b, c⟩ := h.row p hp
  intro _
  have b' : D p < V5.heap.size := Nat.lt_of_lt_of_le b hs
  refine ⟨D p, 0, rfl, b', fun j v hj => ?_⟩
  obtain ⟨rfl, rfl⟩ := sgBeg_at L p j v hj
  rw [← c]
  exact World.cell?_of_block (a := ⟨D p, 0, none⟩) (hfar (D p) a)
end Go.Proofs.Ytaghidaamcnpkab
