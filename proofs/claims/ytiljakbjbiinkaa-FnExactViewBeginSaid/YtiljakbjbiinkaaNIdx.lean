/-
  The words of stores and views: what the program's indexIn and viewList come to.
-/
import Derived.Test.YtiljakbjbiinkaaWordF
import Derived.Test.YtiljakbjbiinkaaRowT
import Derived.Test.YtiljakbjbiinkaaVec
import Derived.Deep.RegionHeld3
namespace Go.Proofs.Ytiljakbjbiinkaa
open Go.RowKit Pl Go.BigFrame
set_option maxHeartbeats 2000000
set_option maxRecDepth 100000
set_option linter.unusedVariables false

/-- The words of stores, each told by its numbers: whether it is glued, its value, and its stamps. -/
def vsW (S : List (Nat → Nat)) : List Value := S.map fun g => Value.int .u64 (enc WV g : Nat)
@[simp] theorem vsW_length (S : List (Nat → Nat)) : (vsW S).length = S.length := by simp [vsW]
theorem vsW_at {S : List (Nat → Nat)} {k : Nat} {g : Nat → Nat} (h : S[k]? = some g) : (vsW S)[k]? = some (.int .u64 (enc WV g : Nat)) := by simp [vsW, h]
/-- How many stores, from the first one on, have a lesser stamp. -/
def idxF : List (Nat → Nat) → Nat → Nat → Nat
  | [], _, _ => 0
  | g :: r, p, s => if g (2 + p) < s then idxF r p s + 1 else 0
theorem idxF_le (S : List (Nat → Nat)) (p s : Nat) : idxF S p s ≤ S.length := by
  induction S with
  | nil => simp [idxF]
  | cons g r ih => unfold idxF; split <;> simp <;> omega
theorem indexin_any (A : Option Addr) (S : List (Nat → Nat)) (c p : Nat) (g : Nat → Nat) (w : World) (B : Nat) (hS : Vs w B A (vsW S)) (hB : B ≤ w.heap.size) (hok : ∀ x ∈ S, okF WV x) (hg : okF WV g) (hp : p < 3) (hl : S.length ≤ 16) (r : Nat) (hr : Hid (idxF S p (g (2 + p)) = r)) :
    Calls Try.prog 145 #[.slice A S.length c, .int .i64 p, .int .u64 (enc WV g : Nat)] w fun e w' => e = .returned (.int .i64 r) ∧ Below w.heap.size w w' := by
  obtain ⟨s, hs⟩ : ∃ s, g (2 + p) = s := ⟨_, rfl⟩
  rw [hs] at hr
  have E0 := Lib.hid (fun v => entF flv8 hg p hp v (s : Int) (Lib.hid (by rw [hs]; simp [fL])))
  have HS := Lib.hid hS
  have Hok := Lib.hid hok
  have hs13 : s < 8192 := by have := fld_lt flv8 hg (i := p) hp; rw [hs] at this; exact this
  obtain ⟨E, hE⟩ : ∃ E, enc WV g = E := ⟨_, rfl⟩
  rw [hE] at E0 ⊢
  clear hE hs hg hS hok
  go_enter Try.func145, Try.ntmps145
  go_wp2_with fail
  refine (E0.out w).mono ?_
  rintro e w1 ⟨rfl, hb1⟩
  have H1 := Lib.hid (HS.out.below hb1 hB)
  have B1 := Lib.hid hb1
  have z1 := hb1.size
  clear hb1 E0 HS
  go_wp2
  go_loopw [8] (fun i wr => ∃ k : Nat, k ≤ S.length ∧ i = .int .i64 k ∧ Below w1.heap.size w1 wr ∧ Hid (k + idxF (S.drop k) p s = r)) (fun i _ => S.length - (intOf i).toNat)
  case atStart => exact ⟨0, Nat.zero_le _, rfl, Below.refl _ _, by simpa using hr⟩
  case round =>
    obtain ⟨k, hk, rfl, hbel, hrest⟩ := hrel
    clear hr
    have zw := hbel.size
    by_cases hlt : k < S.length
    · obtain ⟨x, hx, hd⟩ := drop_at hlt
      obtain ⟨b, off, hA, hb, hxs⟩ := (H1.out.below hbel (by omega)) (by rw [vsW_length]; omega)
      have hA' : A = _ := hA
      subst hA'
      have c0 := hxs k _ (vsW_at hx)
      have okx := Hok.out x (List.mem_of_getElem? hx)
      obtain ⟨t, ht⟩ : ∃ t, x (2 + p) = t := ⟨_, rfl⟩
      have E1 := Lib.hid (fun v => entF flv8 okx p hp v (t : Int) (Lib.hid (by rw [ht]; simp [fL])))
      have hi1 : (k : Int) < (S.length : Int) := by omega
      have HR := Lib.hid (show k + (if t < s then idxF (S.drop (k + 1)) p s + 1 else 0) = r by
        have := hrest.out
        rw [hd, idxF, ht] at this
        exact this)
      have ht13 : t < 8192 := by have := fld_lt flv8 okx (i := p) hp; rw [ht] at this; exact this
      have Hb := Lib.hid hbel
      obtain ⟨Ex, hEx⟩ : ∃ E, enc WV x = E := ⟨_, rfl⟩
      rw [hEx] at E1 c0
      clear hEx hd hx hA hxs okx ht hrest hbel
      by_cases hts : t < s
      · have hts' : (t : Int) < (s : Int) := by omega
        have hnext : Hid (k + 1 + idxF (S.drop (k + 1)) p s = r) := Lib.hid (by
          have := HR.out; rw [if_pos hts] at this; omega)
        go_wp2_with fail
        refine (E1.out _).mono ?_
        rintro e w2 ⟨rfl, hb2⟩
        have hB2 := Lib.hid (below_on Hb.out hb2)
        clear hb2
        go_wp2
        go_roundw
        case rel => exact ⟨k + 1, by omega, by go_num, hB2.out, hnext⟩
        case measure => simp [intOf]; omega
      · have hts' : ¬ (t : Int) < (s : Int) := by omega
        have hlast : Hid (r = k) := Lib.hid (by
          have := HR.out; rw [if_neg hts] at this; omega)
        go_wp2_with fail
        refine (E1.out _).mono ?_
        rintro e w2 ⟨rfl, hb2⟩
        have hB2 := Lib.hid (below_on Hb.out hb2)
        clear hb2
        go_wp2
        go_ret
        exact ⟨by rw [hlast.out]; rfl, B1.out.trans (hB2.out.mono z1)⟩
    · have hlast : Hid (r = k) := Lib.hid (by
        have := hrest.out
        have ez : S.drop k = [] := List.drop_eq_nil_of_le (by omega)
        rw [ez] at this
        simp [idxF] at this; omega)
      have hi1 : ¬ (k : Int) < (S.length : Int) := by omega
      go_wp2
      go_ret
      exact ⟨by rw [hlast.out]; rfl, B1.out.trans (hbel.mono z1)⟩

/-- A state on a machine with views as the program keeps it: the word of its State, the words of the stores at each place, and those of the views. -/
structure Sg where
  f : Nat → Nat
  S : Nat → List (Nat → Nat)
  V : Nat → Nat → Nat
structure SgH where
  A : Nat → Option Addr
  c : Nat → Nat
def mkG (h : SgH) (s : Sg) : Array Value :=
  #[.int .u64 (enc WS s.f : Nat), .slice (h.A 0) (s.S 0).length (h.c 0), .slice (h.A 1) (s.S 1).length (h.c 1), .slice (h.A 2) (s.S 2).length (h.c 2),
    .int .u64 (enc WV (s.V 0) : Nat), .int .u64 (enc WV (s.V 1) : Nat), .int .u64 (enc WV (s.V 2) : Nat), .int .u64 (enc WV (s.V 3) : Nat), .int .u64 (enc WV (s.V 4) : Nat), .int .u64 (enc WV (s.V 5) : Nat), .int .u64 (enc WV (s.V 6) : Nat), .int .u64 (enc WV (s.V 7) : Nat)]
theorem mkG_size (h : SgH) (s : Sg) : (mkG h s).size = 12 := rfl
theorem mkG_one (h : SgH) (s : Sg) : (mkG h s).all (·.oneCell') = true := by simp [mkG, Value.oneCell']
theorem mkG_0 (h : SgH) (s : Sg) : (mkG h s)[0]? = some (.int .u64 (enc WS s.f : Nat)) := rfl
theorem mkG_s (h : SgH) (s : Sg) {p : Nat} (hp : p < 3) : (mkG h s)[1 + p]? = some (.slice (h.A p) (s.S p).length (h.c p)) := by
  rcases (show p = 0 ∨ p = 1 ∨ p = 2 by omega) with rfl | rfl | rfl <;> rfl
theorem mkG_v (h : SgH) (s : Sg) {i : Nat} (hi : i < 8) : (mkG h s)[4 + i]? = some (.int .u64 (enc WV (s.V i) : Nat)) := by
  rcases (show i = 0 ∨ i = 1 ∨ i = 2 ∨ i = 3 ∨ i = 4 ∨ i = 5 ∨ i = 6 ∨ i = 7 by omega) with rfl | rfl | rfl | rfl | rfl | rfl | rfl | rfl <;> rfl
abbrev SgV (h : SgH) (s : Sg) : Value := .agg (mkG h s)
abbrev TG : TypeId := 97
theorem sg_row : RowT TG 12 := ⟨by kernel_rfl, _, Try.underlying97, rfl⟩
def SgR (w : World) (B : Nat) (h : SgH) (s : Sg) : Prop := ∀ p, p < 3 → Vs w B (h.A p) (vsW (s.S p))
theorem SgR.below {w w' : World} {B B' : Nat} {h : SgH} {s : Sg} (r : SgR w B h s) (hb : Below B' w w') (hB : B ≤ B') : SgR w' B h s := fun p hp => (r p hp).below hb hB
theorem SgR.up {w w' : World} {B B' B'' : Nat} {h : SgH} {s : Sg} (r : SgR w B h s) (hb : Below B' w w') (hB : B ≤ B') (hB2 : B ≤ B'') : SgR w' B'' h s := fun p hp => (r p hp).up hb hB hB2
structure SgOk (s : Sg) : Prop where
  f : okF WS s.f
  S : ∀ p, p < 3 → ∀ g ∈ s.S p, okF WV g
  l : ∀ p, p < 3 → (s.S p).length ≤ 16
  V : ∀ i, i < 8 → okF WV (s.V i)
/-- The indexes that a view has. -/
def idxL (s : Sg) (g : Nat → Nat) : List Int := (List.range 3).map fun p => (idxF (s.S p) p (g (2 + p)) : Int)
theorem idxL_length (s : Sg) (g : Nat → Nat) : (idxL s g).length = 3 := rfl
/-- A row that was made at its full length, by itself. -/
def MadeL (w : World) (xs : List Int) (e : Ending) (w' : World) : Prop :=
  ∃ A, e = .returned (.slice A xs.length xs.length) ∧ Below w.heap.size w w' ∧ OwnVs w' w.heap.size w'.heap.size 3 A (ints xs)
theorem viewlist_any (h : SgH) (s : Sg) (g : Nat → Nat) (w : World) (B : Nat) (hS : SgR w B h s) (hB : B ≤ w.heap.size) (hok : SgOk s) (hg : okF WV g) :
    Calls Try.prog 133 #[SgV h s, .int .u64 (enc WV g : Nat)] w (MadeL w (idxL s g)) := by
  obtain ⟨i0, hi, hz0, hz1, hz2⟩ := info_parts Try.info3
  have hmk := make_any Try.underlying39 hi hz0 3 (by rw [hz2]; omega) (by omega)
  rw [hz1, Nat.mul_one, show ((3 : Nat) : Int) = 3 from rfl] at hmk
  obtain ⟨W, hW⟩ : ∃ W, W = w.alloc (.cells (mkG h s) TG) := ⟨_, rfl⟩
  have bW : Below w.heap.size w W := by rw [hW]; go_grown
  have kW : Bk W w.heap.size TG (mkG h s) := by rw [hW]; exact Bk.new _ _ _
  have sW : W.heap.size = w.heap.size + 1 := by rw [hW]; simp
  have sWa := Nat.le_of_eq sW
  have sWb := Nat.le_of_eq sW.symm
  have start := Lib.hid (show CopyV W (W.alloc (.cells (madeCells #[.int .i64 0] 3) 3)) 3 (ints (idxL s g)) 0 from
    ⟨(Below.refl _ _).alloc (Nat.le_refl _) _, _, Bk.new _ _ _, by simp [size_madeCells, idxL_length], fun j x hj => absurd hj (by omega)⟩)
  have R0 := Lib.hid (hS.below bW hB)
  have B0 := Lib.hid bW
  have K0 := Lib.hid kW
  have HW := Lib.hid hW
  have Hok := Lib.hid hok
  have Hg := Lib.hid hg
  obtain ⟨E, hE⟩ : ∃ E, enc WV g = E := ⟨_, rfl⟩
  have HE := Lib.hid hE
  rw [hE]
  clear hz0 hz1 hz2 hi hW bW kW sW hS hE hg hok
  go_enter Try.func133, Try.ntmps133
  go_wp2_with (rw [← HW.out])
  clear hmk
  go_loopw [10] (fun i wr => ∃ k : Nat, k ≤ 3 ∧ i = .int .i64 k ∧ CopyV W wr 3 (ints (idxL s g)) k) (fun i _ => 3 - (intOf i).toNat)
  case atStart => exact ⟨0, Nat.zero_le _, rfl, start.out⟩
  case round =>
    obtain ⟨k, hk, rfl, hcp⟩ := hrel
    clear start
    by_cases hlt : k < 3
    · obtain ⟨hbel, cs, hbk, hsz, -⟩ := id hcp
      rw [ints_length, idxL_length] at hsz
      have kr := K0.out.below hbel K0.out.lt
      have c0 : wr.cell? ⟨w.heap.size, 1 + k, none⟩ = some (.slice (h.A k) (s.S k).length (h.c k)) := (kr.cell (1 + k)).trans (mkG_s h s hlt)
      have l0 := kr.lt
      have hz := hbel.size
      have Kb := Lib.hid hbk
      have hg := hbk.lt
      have Hcp := Lib.hid hcp
      have Vr := Lib.hid ((R0.out.below hbel (by omega)) k hlt)
      have hki : (k : Int) < 3 := by omega
      have hx : (ints (idxL s g))[k]? = some (.int .i64 (idxF (s.S k) k (g (2 + k)) : Nat)) := by
        refine ints_at ?_
        unfold idxL
        rw [List.getElem?_map, List.getElem?_range hlt]; rfl
      have Hx := Lib.hid hx
      obtain ⟨q, hq⟩ : ∃ q, idxF (s.S k) k (g (2 + k)) = q := ⟨_, rfl⟩
      have Hq := Lib.hid hq
      have CC := Lib.hid (fun v hv => indexin_any (h.A k) (s.S k) (h.c k) k g v B hv)
      rw [HE.out] at CC
      clear hbk hbel kr hcp hx hq
      go_wp2_with fail
      refine (CC.out wr Vr.out (by omega) (Hok.out.S k hlt) Hg.out hlt (Hok.out.l k hlt) q Hq).mono ?_
      rintro e w1 ⟨rfl, hb1⟩
      have kb1 := Kb.out.below hb1 hg
      obtain ⟨v0, e0⟩ := kb1.some_ (i := k) (by omega)
      have f0 := kb1.free k
      have cp1 : CopyV W w1 3 (ints (idxL s g)) k := by
        obtain ⟨a1, cs', a2, a3, a4⟩ := Hcp.out
        exact ⟨below_on a1 hb1, cs', a2.below hb1 a2.lt, a3, a4⟩
      have Next := Lib.hid (cp1.next Hx.out)
      rw [Hq.out] at Next
      clear kb1 hb1 cp1 c0
      go_wp2
      go_roundw
      case rel => exact ⟨k + 1, by omega, by go_num, Next.out⟩
      case measure => simp [intOf]; omega
    · have hkl : k = 3 := by omega
      subst hkl
      go_wp2
      go_ret
      have hd := CopyV.done (vs := ints (idxL s g)) (by rw [ints_length, idxL_length]; exact hcp)
      have hl := hcp.lt
      exact ⟨_, rfl, B0.out.trans (hcp.1.mono (by omega)), hd.more (by omega) (by omega)⟩
end Go.Proofs.Ytiljakbjbiinkaa
