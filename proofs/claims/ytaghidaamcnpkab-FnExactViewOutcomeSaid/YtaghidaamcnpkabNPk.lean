/-
  The words of a state on a machine with views, as the program packs them: viewWord, storeWord, and mayPutIn.
-/
import Derived.Test.YtaghidaamcnpkabSize
import Derived.Test.YtaghidaamcnpkabNLn
import Derived.Test.YtaghidaamcnpkabUnp
import Derived.Test.YtaghidaamcnpkabVwd
import Derived.Deep.RegionHeld3
namespace Go.Proofs.Ytaghidaamcnpkab
open Go.RowKit Pl Go.BigFrame
set_option maxHeartbeats 4000000
set_option maxRecDepth 100000
set_option linter.unusedVariables false

theorem vw_row : RowT 53 10 := ⟨by kernel_rfl, _, Try.underlying53, rfl⟩
def vwdC (k : VwdH) (o : Vwd) : Array Value := #[.slice k.h.A0 o.st.f0.length k.h.c0, .slice k.h.A1 o.st.f1.length k.h.c1, .slice k.h.A2 o.st.f2.length k.h.c2, .slice k.h.A3 o.st.f3.length k.h.c3, .slice k.h.A4 o.st.f4.length k.h.c4, .slice k.n.A o.n.length k.n.c, .slice k.v.A o.v.length k.v.c, .slice k.l.A o.l.length k.l.c, .slice k.k.A o.k.length k.k.c, .slice k.f.A o.f.length k.f.c]
theorem vwdC_one (k : VwdH) (o : Vwd) : (vwdC k o).all (·.oneCell') = true := by simp [vwdC, Value.oneCell']
/-- The state of words. -/
def vwdOf (L : Pg) (s : Sg) : Vwd := ⟨staF L s.f, nssOf s, (List.range L.length).map fun i => idxL s (s.V (0 + i)), (List.range 2).map fun i => idxL s (s.V (3 + i)), (List.range 2).map fun i => idxL s (s.V (5 + i)), idxL s (s.V 7)⟩
end Go.Proofs.Ytaghidaamcnpkab
namespace Go.Proofs.Ytaghidaamcnpkab
open Go.RowKit Pl Go.BigFrame
set_option maxHeartbeats 2000000
set_option maxRecDepth 100000
set_option linter.unusedVariables false

/-- The stamps of a view's indexes. -/
def stL (xs : List Int) : List Nat := xs.map fun x => (x * 512).toNat
theorem stL_length (xs : List Int) : (stL xs).length = xs.length := by simp [stL]
theorem stL_at {xs : List Int} {k v : Nat} (h : (stL xs)[k]? = some v) : ∃ x, xs[k]? = some x ∧ v = (x * 512).toNat := by
  simp only [stL, List.getElem?_map] at h
  cases hx : xs[k]? with
  | none => rw [hx] at h; cases h
  | some x => rw [hx] at h; injection h with h; exact ⟨x, rfl, h.symm⟩
/-- The numbers of a view's word. -/
def vwF (xs : List Int) : Nat → Nat := updL (fun _ => 0) 2 (stL xs)
theorem okV_zero' : okF WV fun _ => 0 := okF_of fun p hp => Nat.two_pow_pos _
theorem encV_zero' : enc WV (fun _ => 0) = 0 := by decide
theorem stL_small {xs : List Int} (hx : ∀ x ∈ xs, 0 ≤ x ∧ x ≤ 15) : ∀ v ∈ stL xs, v < 2 ^ fB 8 := by
  intro v hv
  obtain ⟨x, hx1, rfl⟩ := List.mem_map.1 hv
  have := hx x hx1
  show _ < 8192
  omega
theorem vwF_ok {xs : List Int} (hl : xs.length ≤ 3) (hx : ∀ x ∈ xs, 0 ≤ x ∧ x ≤ 15) : okF WV (vwF xs) := by
  have := okF_updL flv8 (stL xs) (fun _ => 0) 0 okV_zero' (by rw [stL_length]; exact (show 0 + xs.length ≤ 3 by omega)) (stL_small hx)
  simpa [vwF] using this
theorem viewword_any (A : Option Addr) (xs : List Int) (c : Nat) (w : World) (B : Nat) (hV : Vs w B A (ints xs)) (hB : B ≤ w.heap.size) (hl : xs.length ≤ 3) (hx : ∀ x ∈ xs, 0 ≤ x ∧ x ≤ 15) :
    Calls Try.prog 99 #[.slice A xs.length c] w fun e w' => e = .returned (.int .u64 (enc WV (vwF xs) : Nat)) ∧ Below w.heap.size w w' := by
  obtain ⟨vs, hvs⟩ : ∃ vs, stL xs = vs := ⟨_, rfl⟩
  have hvl : vs.length = xs.length := by rw [← hvs, stL_length]
  have hv := Lib.hid (show ∀ v ∈ vs, v < 2 ^ fB 8 by rw [← hvs]; exact stL_small hx)
  have hat := Lib.hid (show ∀ (k v : Nat), vs[k]? = some v → xs[k]? = some ((v : Int) / 512) ∧ (v : Int) / 512 * 512 = (v : Int) ∧ (v : Int) / 512 ≤ 15 from fun k v h => by
    rw [← hvs] at h
    obtain ⟨x, hx1, rfl⟩ := stL_at h
    have h2 := hx x (List.mem_of_getElem? hx1)
    have e : ((x * 512).toNat : Int) = x * 512 := by omega
    rw [e, hx1]
    refine ⟨?_, ?_, ?_⟩ <;> first | (congr 1; omega) | omega)
  unfold vwF
  rw [hvs]
  have z0 : (0 : Int) = ((enc WV (updL (fun _ => 0) 2 (vs.take 0)) : Nat) : Int) := by simp [updL, encV_zero']
  clear hvs hx
  go_enter Try.func99, Try.ntmps99
  go_wp2
  go_loopw [3, 8] (fun x i wr => ∃ k : Nat, k ≤ xs.length ∧ i = .int .i64 k ∧ x = .int .u64 (enc WV (updL (fun _ => 0) 2 (vs.take k)) : Nat) ∧ Below w.heap.size w wr) (fun _ i _ => xs.length - (intOf i).toNat)
  case atStart => exact ⟨0, Nat.zero_le _, rfl, by rw [← z0], Below.refl _ _⟩
  case round =>
    obtain ⟨k, hk, rfl, rfl, hbel⟩ := hrel
    by_cases hlt : k < xs.length
    · obtain ⟨bb, off, x, rfl, hb, hxk, -, hx0⟩ := (hV.below hbel hB).int_ hlt
      obtain ⟨v, hvk⟩ : ∃ v, vs[k]? = some v := ⟨_, List.getElem?_eq_getElem (by omega)⟩
      obtain ⟨hxv, hm, h15⟩ := hat.out k v hvk
      have hxe : x = (v : Int) / 512 := by rw [hxk] at hxv; injection hxv
      have hvlt := hv.out v (List.mem_of_getElem? hvk)
      have hvlt' : v < 8192 := hvlt
      have hok : okF WV (updL (fun _ => 0) 2 (vs.take k)) := by
        have := okF_updL flv8 (vs.take k) (fun _ => 0) 0 okV_zero' (by rw [List.length_take]; exact (show 0 + min k vs.length ≤ 3 by omega)) (fun u hu => hv.out u (List.mem_of_mem_take hu))
        simpa using this
      have hx5 : x * 512 = (v : Int) := by rw [hxe]; exact hm
      have hx15 : 0 ≤ x ∧ x ≤ 15 := by omega
      have Hok := Lib.hid hok
      have Hvk := Lib.hid hvk
      have Hb := Lib.hid hbel
      have HW := Lib.hid (fun (V : World) => wentF flv8 hok k v (v : Int) (show k < 3 by omega) hvlt (by simp [fL]) V)
      clear hxe hxv hvk hok hxk hbel hm h15 z0 hvlt
      go_wp2_with fail
      refine (HW.out _).mono ?_
      rintro e w1 ⟨rfl, hb1⟩
      have Hb1 := Lib.hid (below_on Hb.out hb1)
      clear hb1
      go_wp2
      go_roundw
      case rel => exact ⟨k + 1, by omega, by go_num, by rw [updL_take _ 2 vs k v Hvk.out], Hb1.out⟩
      case measure => simp [intOf]; omega
    · have hkl : k = vs.length := by omega
      subst hkl
      rw [List.take_length]
      go_wp2
      go_ret
      exact ⟨rfl, hbel⟩

/-- The numbers of a store's word. -/
def swF (g : Nat → Nat) (v : Nat) (b : Bool) : Nat → Nat := upd (upd g 1 v) 0 (if b then 1 else 0)
theorem swF_ok {g : Nat → Nat} (h : okF WV g) {v : Nat} (hv : v < 4) (b : Bool) : okF WV (swF g v b) := by
  have h1 := okF_upd flv9 h (i := 0) (v := v) (by decide) hv
  have h2 := okF_upd flv10 h1 (i := 0) (v := if b then 1 else 0) (by decide) (by cases b <;> decide)
  exact h2
theorem storeword_any (g : Nat → Nat) (v : Nat) (b : Bool) (w : World) (hg : okF WV g) (hv : v < 4) :
    Calls Try.prog 98 #[.int .u64 (enc WV g : Nat), .int .i64 v, .bool b] w fun e w' => e = .returned (.int .u64 (enc WV (swF g v b) : Nat)) ∧ Below w.heap.size w w' := by
  have h1 := okF_upd flv9 hg (i := 0) (v := v) (by decide) hv
  have HA := Lib.hid (fun (V : World) => wentF flv9 hg 0 v (v : Int) (by decide) hv (by simp [fL]) V)
  have HC := Lib.hid (fun (V : World) => wentF flv10 h1 0 (if b then 1 else 0) (bit b) (by decide) (by cases b <;> decide) (by cases b <;> simp [fL, bit]) V)
  obtain ⟨E, hE⟩ : ∃ E, enc WV g = E := ⟨_, rfl⟩
  rw [hE] at HA ⊢
  obtain ⟨E1, hE1⟩ : ∃ E, enc WV (upd g (1 + 0) v) = E := ⟨_, rfl⟩
  rw [hE1] at HA HC
  obtain ⟨E2, hE2⟩ : ∃ E, enc WV (swF g v b) = E := ⟨_, rfl⟩
  have e2 : enc WV (upd (upd g (1 + 0) v) (0 + 0) (if b then 1 else 0)) = E2 := hE2
  rw [e2] at HC
  rw [hE2]
  clear hE hE1 hE2 e2 h1 hg
  go_enter Try.func98, Try.ntmps98
  go_wp2_with fail
  refine (HA.out _).mono ?_
  rintro e w1 ⟨rfl, hb1⟩
  have B1 := Lib.hid hb1
  clear hb1
  go_wp2_with (go_at_call 108; refine (figure_any _ _).mono ?_; rintro e w' ⟨rfl, rfl⟩)
  go_wp2_with fail
  refine (HC.out _).mono ?_
  rintro e w2 ⟨rfl, hb2⟩
  have B2 := Lib.hid (below_on B1.out hb2)
  clear hb2
  go_wp2
  go_ret
  exact ⟨rfl, B2.out⟩

/-- Whether a store may be put in right behind one of an index. -/
def mpB (S : List (Nat → Nat)) (i : Nat) : Bool := match S[i + 1]? with
  | none => true
  | some g => !((g 0 : Int) == 1)
theorem mayputin_any (A : Option Addr) (S : List (Nat → Nat)) (c i : Nat) (w : World) (B : Nat) (hS : Vs w B A (vsW S)) (hB : B ≤ w.heap.size) (hok : ∀ x ∈ S, okF WV x) (hi : i < S.length) (hl : S.length ≤ 16) (r : Bool) (hr : Hid (mpB S i = r)) :
    Calls Try.prog 96 #[.slice A S.length c, .int .i64 i] w fun e w' => e = .returned (.bool r) ∧ Below w.heap.size w w' := by
  by_cases hlast : i + 1 < S.length
  · obtain ⟨x, hx, -⟩ := drop_at hlast
    obtain ⟨b, off, hA, hb, hxs⟩ := hS (by rw [vsW_length]; omega)
    have hA' : A = _ := hA
    subst hA'
    have c0 := hxs (i + 1) _ (vsW_at hx)
    have okx := hok x (List.mem_of_getElem? hx)
    obtain ⟨t, ht⟩ : ∃ t : Bool, ((x 0 : Int) == 1) = t := ⟨_, rfl⟩
    have G := Lib.hid (fun (V : World) => isglued_any x V okx t (Lib.hid ht))
    have hr2 := hr.out
    unfold mpB at hr2
    rw [hx] at hr2
    have HR := Lib.hid (show (!t) = r by rw [← hr2, ← ht])
    obtain ⟨E, hE⟩ : ∃ E, enc WV x = E := ⟨_, rfl⟩
    rw [hE] at c0 G
    have hne : ¬ (i : Int) = (S.length : Int) - 1 := by omega
    clear hx hE okx hr2 hr ht hxs hS
    go_enter Try.func96, Try.ntmps96
    go_wp2_with fail
    refine (G.out _).mono ?_
    rintro e w1 ⟨rfl, hb1⟩
    have HB := Lib.hid hb1
    clear hb1
    go_wp2
    go_ret
    have e0 : ((i : Int) == (S.length : Int) - 1) = false := beq_eq_false_iff_ne.2 hne
    refine ⟨?_, HB.out⟩
    show Ending.returned (Value.bool (((i : Int) == (S.length : Int) - 1) || !t)) = _
    rw [e0, ← HR.out]; rfl
  · have hil : i + 1 = S.length := by omega
    have hr2 := hr.out
    unfold mpB at hr2
    rw [List.getElem?_eq_none (by omega)] at hr2
    have HR := Lib.hid (show true = r from hr2)
    have heq : (i : Int) = (S.length : Int) - 1 := by omega
    clear hr2 hr
    go_enter Try.func96, Try.ntmps96
    go_wp2
    go_ret
    exact ⟨by rw [← HR.out]; rfl, Below.refl _ _⟩
end Go.Proofs.Ytaghidaamcnpkab
