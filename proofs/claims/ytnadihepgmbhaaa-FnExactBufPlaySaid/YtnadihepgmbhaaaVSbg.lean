/-
  What the reference model's BufBegin and SpreadBegin come to.
-/
import Derived.Test.YtnadihepgmbhaaaVPk
import Derived.Deep.RegionHeld3
import Derived.Test.YtnadihepgmbhaaaCopy1
namespace Go.Proofs.Ytnadihepgmbhaaa
open Go.RowKit Pl Go.BigFrame
set_option maxHeartbeats 4000000
set_option maxRecDepth 100000
set_option linter.unusedVariables false

def bbegS (L : Pg) : Buf := ⟨begS L, List.replicate L.length []⟩
def bbegE (L : Pg) : Buf := if progB L then bbegS L else BufE
theorem bufOf_beg (L : Pg) (h3 : L.length ≤ 3) : bufOf L (keptF L zeroF L.length) (fun _ => []) = bbegS L := by
  unfold bufOf bbegS
  rw [staF_beg L h3]
  congr 1
  have : (fun t : Nat => rowS ((fun _ => []) t)) = fun _ => [] := rfl
  rw [this]
  induction L.length with
  | zero => rfl
  | succ n ih => rw [List.range_succ, List.map_append, ih, List.replicate_succ']; rfl
def vbegS (L : Pg) : Buf := ⟨begS L, List.replicate (L.length * 3) []⟩
def vbegE (L : Pg) : Buf := if progB L then vbegS L else BufE
end Go.Proofs.Ytnadihepgmbhaaa
namespace Go.Proofs.Ytnadihepgmbhaaa
open Go.RowKit Pl Go.BigFrame
set_option maxHeartbeats 4000000
set_option maxRecDepth 100000
set_option linter.unusedVariables false

theorem box_grown {V w4 : World} {g : Nat} {t : TypeId} {cs : Array Value} {q : Option Nat} (hb : Bk V g t cs) (grow : V.grownBy w4 q) (hne : ∀ b, q = some b → b ≠ g) : Bk w4 g t cs :=
  (grow.block g hb.lt (fun e => hne g e.symm rfl)).trans hb
def hdA : Value → Option Addr
  | .slice a _ _ => a
  | _ => none
/-- Headers of empty rows. -/
def emptyH (hs : List Value) (k : Nat) : Prop := hs.length = k ∧ ∀ v ∈ hs, ∃ a, v = .slice a 0 0
theorem emptyH.snoc {hs : List Value} {k : Nat} (h : emptyH hs k) (a : Option Addr) : emptyH (hs ++ [.slice a 0 0]) (k + 1) :=
  ⟨by simp [h.1], fun v hv => by
    rcases List.mem_append.1 hv with h1 | h1
    · exact h.2 v h1
    · simp at h1; exact ⟨a, h1⟩⟩
theorem emptyH.own {w : World} {base k c : Nat} {A : Option Addr} {hs : List Value} (h : emptyH hs k) (ho : w.ownsRow base 26 1 (.slice A k c) k hs) : IssO w base w.heap.size ⟨A, c⟩ (List.replicate k []) := ⟨fun hn => by
  have hk : 0 < k := by simpa [vsIss] using hn
  obtain ⟨g, cs, hA, h1, h2, hb, hx⟩ := own_vs ho rfl (by rw [h.1]; exact hk)
  have e : ∀ {i : Nat} {vs : List Value}, (vsIss (List.replicate k []))[i]? = some vs → i < k ∧ vs = [] := by
    intro i vs hi
    obtain ⟨xs, hx, rfl⟩ := vsIss_inv hi
    rw [List.getElem?_replicate] at hx
    split at hx
    · rename_i hik
      injection hx with hx
      subst hx
      exact ⟨hik, rfl⟩
    · cases hx
  refine ⟨g, cs, fun i => hdA (hs.getD i default), fun _ => 0, hA, h1, h2, hb, ?_, ?_⟩
  · intro i vs hi
    obtain ⟨hik, rfl⟩ := e hi
    have hil : i < hs.length := by rw [h.1]; exact hik
    have hi' : hs[i]? = some hs[i] := List.getElem?_eq_getElem hil
    obtain ⟨a, ha⟩ := h.2 _ (List.getElem_mem hil)
    have hd : hs.getD i default = .slice a 0 0 := by simp [List.getD, hi', ha]
    refine ⟨?_, OwnVs.nil _ _ _ _ _⟩
    rw [hx i _ hi', ha]
    simp only [hd, hdA, List.length_nil]
  · intro i j vs us hij hi hj h0
    obtain ⟨_, rfl⟩ := e hi
    simp at h0⟩
theorem s7begin_any (h : PgH) (L : Pg) (w : World) (h31 : 1 ≤ L.length) (h32 : L.length ≤ 3) :
    Calls Try.prog 84 #[PgV h L] w fun e w' => ∃ k, e = .returned (BufV k (bbegS L)) ∧ Below w.heap.size w w' ∧ w.heap.size ≤ w'.heap.size ∧ BufI w' w.heap.size w'.heap.size k (bbegS L) := by
  obtain ⟨i1, hi1, jz0, jz1, jz2⟩ := info_parts info_il
  obtain ⟨W, hW⟩ : ∃ W, W = (w.alloc (.cells #[.slice h.A L.length h.c] 36)).alloc (.cells #[.slice none 0 0, .slice none 0 0, .slice none 0 0, .slice none 0 0, .slice none 0 0, .slice none 0 0] 59) := ⟨_, rfl⟩
  have bW : Below w.heap.size w W := by rw [hW]; go_grown
  have sW : W.heap.size = w.heap.size + 1 + 1 := by rw [hW]; simp
  have k0 : Bk W w.heap.size 36 #[.slice h.A L.length h.c] := by rw [hW]; exact (Bk.new w _ _).alloc _
  have k1 : Bk W (w.heap.size + 1) 59 #[.slice none 0 0, .slice none 0 0, .slice none 0 0, .slice none 0 0, .slice none 0 0, .slice none 0 0] := by
    rw [hW]; have := Bk.new (w.alloc (.cells #[.slice h.A L.length h.c] 36)) #[.slice none 0 0, .slice none 0 0, .slice none 0 0, .slice none 0 0, .slice none 0 0, .slice none 0 0] 59
    rwa [World.size_alloc] at this
  have K0 := Lib.hid k0
  have K1 := Lib.hid k1
  have BW := Lib.hid bW
  have sWa := Nat.le_of_eq sW
  have sWb := Nat.le_of_eq sW.symm
  have HW := Lib.hid hW
  clear k0 k1 bW sW hW
  go_enter Try.func84, Try.ntmps84
  go_wp2_with fail
  rw [← HW.out]
  refine (sbegin0_any h L W h31 h32).mono ?_
  rintro e w1 ⟨k, rfl, hb1, hz1, iS⟩
  have B1 := Lib.hid (below_on BW.out hb1)
  have K01 := Lib.hid (K0.out.below hb1 K0.out.lt)
  have K11 := Lib.hid (K1.out.below hb1 K1.out.lt)
  have IS := Lib.hid iS
  clear hb1 iS
  go_wp2_with fail
  obtain ⟨w2, hw2⟩ : ∃ V, V = w1.alloc (.cells #[.slice k.A0 (begS L).f0.length k.c0, .slice k.A1 (begS L).f1.length k.c1, .slice k.A2 (begS L).f2.length k.c2, .slice k.A3 (begS L).f3.length k.c3, .slice k.A4 (begS L).f4.length k.c4, .slice none 0 0] 59) := ⟨_, rfl⟩
  rw [← hw2]
  have start : Hid (∃ (A : Option Addr) (c : Nat) (hs : List Value), Below w1.heap.size w1 w2 ∧ Bk w2 w1.heap.size 59 #[.slice k.A0 (begS L).f0.length k.c0, .slice k.A1 (begS L).f1.length k.c1, .slice k.A2 (begS L).f2.length k.c2, .slice k.A3 (begS L).f3.length k.c3, .slice k.A4 (begS L).f4.length k.c4, .slice A 0 c] ∧ w2.ownsRow (w1.heap.size + 1) 26 1 (.slice A 0 c) 0 hs ∧ emptyH hs 0) :=
    Lib.hid (by rw [hw2]; exact ⟨none, 0, [], (Below.refl _ _).alloc (Nat.le_refl _) _, Bk.new _ _ _, World.ownsRow_nil .., rfl, fun v hv => by simp at hv⟩)
  clear hw2
  go_loopw [4] (fun i wr => ∃ m : Nat, m ≤ L.length ∧ i = .int .i64 m ∧ ∃ (A : Option Addr) (c : Nat) (hs : List Value), Below w1.heap.size w1 wr ∧ Bk wr w1.heap.size 59 #[.slice k.A0 (begS L).f0.length k.c0, .slice k.A1 (begS L).f1.length k.c1, .slice k.A2 (begS L).f2.length k.c2, .slice k.A3 (begS L).f3.length k.c3, .slice k.A4 (begS L).f4.length k.c4, .slice A m c] ∧ wr.ownsRow (w1.heap.size + 1) 26 1 (.slice A m c) m hs ∧ emptyH hs m) (fun i _ => L.length - (intOf i).toNat)
  case atStart => exact ⟨0, Nat.zero_le _, rfl, start.out⟩
  case round =>
    obtain ⟨m, hm, rfl, A, c, hs, hb, hk, hown, hem⟩ := hrel
    clear start
    have hz := hb.size
    have cp : wr.cell? ⟨w.heap.size, 0, none⟩ = some (.slice h.A L.length h.c) := (K01.out.below hb K01.out.lt).cell 0
    have lp : w.heap.size < wr.heap.size := by omega
    have lk := hk.lt
    by_cases hlt : m < L.length
    · have hti : (m : Int) < (L.length : Int) := by omega
      have c5 : wr.cell? ⟨w1.heap.size, 5, none⟩ = some (.slice A m c) := hk.cell 5
      have HK := Lib.hid hk
      have HO := Lib.hid hown
      have HE := Lib.hid hem
      have HB := Lib.hid hb
      have hcap : m ≤ c ∧ c ≤ maxLen ∨ True := Or.inr trivial
      clear hk hown hem hb hcap
      go_wp2_with (at_builtin; refine wpList_append_own _ rfl (.tmp 16) (.tmp 18) 29 rfl (w1.heap.size + 1) 26 i1 _ 1 24 Try.underlying29 hi1 jz0 jz1 jz2 rfl (by decide) _ m hs rfl ((HO.out.alloc _).alloc _) ⟨_, 0, none⟩ 1 1 [.slice (some ⟨wr.heap.size, 0, none⟩) 0 0] rfl rfl (by have := cell_new1 (wr.alloc (.cells #[] 3)) (.slice (some ⟨wr.heap.size, 0, none⟩) 0 0) 26; simpa using this) (by intro u hu; simp at hu; subst hu; rfl) (by unfold maxLen; omega) (by omega) (by simp; omega) ?_; intro v' w4 own4 grow4 _; obtain ⟨g4, cap4, rfl, hg4, hlt4⟩ := own4.form (by omega); have K4 := Lib.hid (box_grown ((HK.out.alloc _).alloc _) grow4 (fun b hb => by have := (owns_block HO.out hb.symm).1; omega)); have B4 := Lib.hid (((HB.out.alloc hz _).alloc (by simp; omega) _).grown grow4 (by simp; omega) (fun q hq => by have := (owns_block HO.out hq.symm).1; omega)); have Own4 := Lib.hid own4; have zg := grow4.size; have x5 : w4.cell? ⟨w1.heap.size, 5, none⟩ = some (.slice A m c) := K4.out.cell 5; have f5 := K4.out.free 5; clear own4 grow4)
      have K5 := Lib.hid (show Bk (w4.setCell ⟨w1.heap.size, 5, none⟩ (.slice (some ⟨g4, 0, none⟩) (m + 1) cap4)) w1.heap.size 59 #[.slice k.A0 (begS L).f0.length k.c0, .slice k.A1 (begS L).f1.length k.c1, .slice k.A2 (begS L).f2.length k.c2, .slice k.A3 (begS L).f3.length k.c3, .slice k.A4 (begS L).f4.length k.c4, .slice (some ⟨g4, 0, none⟩) (m + 1) cap4] from by have := K4.out.set 5 (.slice (some ⟨g4, 0, none⟩) (m + 1) cap4); simpa using this)
      go_roundw
      case rel => exact ⟨m + 1, by omega, by go_num, some ⟨g4, 0, none⟩, cap4, _, B4.out.setCell (Nat.le_refl _) _, K5.out, ownsRow_setCell_below Own4.out (by show w1.heap.size < w1.heap.size + 1; omega) _, HE.out.snoc _⟩
      case measure => simp [intOf]; omega
    · have hml : m = L.length := by omega
      subst hml
      have hnot : ¬ (L.length : Int) < (L.length : Int) := by omega
      have HB := Lib.hid (B1.out.trans (hb.mono (by omega)))
      have IB := Lib.hid (hem.own hown).in_
      have IS2 := Lib.hid (IS.out.below hb (Nat.le_refl _))
      have K13 := Lib.hid (K11.out.below hb (by omega))
      have xo0 : wr.cell? ⟨w1.heap.size, 0, none⟩ = some (.slice k.A0 (begS L).f0.length k.c0) := hk.cell 0
      have xo1 : wr.cell? ⟨w1.heap.size, 1, none⟩ = some (.slice k.A1 (begS L).f1.length k.c1) := hk.cell 1
      have xo2 : wr.cell? ⟨w1.heap.size, 2, none⟩ = some (.slice k.A2 (begS L).f2.length k.c2) := hk.cell 2
      have xo3 : wr.cell? ⟨w1.heap.size, 3, none⟩ = some (.slice k.A3 (begS L).f3.length k.c3) := hk.cell 3
      have xo4 : wr.cell? ⟨w1.heap.size, 4, none⟩ = some (.slice k.A4 (begS L).f4.length k.c4) := hk.cell 4
      have xo5 : wr.cell? ⟨w1.heap.size, 5, none⟩ = some (.slice A L.length c) := hk.cell 5
      clear hk hown hem hb
      have fr0 : wr.frozen? ⟨w.heap.size + 1, 0, none⟩ = false := (K13.out).free 0
      have cr0 : wr.cell? ⟨w.heap.size + 1, 0, none⟩ = some (.slice none 0 0) := (K13.out).cell 0
      have fr1 : wr.frozen? ⟨w.heap.size + 1, 1, none⟩ = false := (K13.out).free 1
      have cr1 : wr.cell? ⟨w.heap.size + 1, 1, none⟩ = some (.slice none 0 0) := (K13.out).cell 1
      have fr2 : wr.frozen? ⟨w.heap.size + 1, 2, none⟩ = false := (K13.out).free 2
      have cr2 : wr.cell? ⟨w.heap.size + 1, 2, none⟩ = some (.slice none 0 0) := (K13.out).cell 2
      have fr3 : wr.frozen? ⟨w.heap.size + 1, 3, none⟩ = false := (K13.out).free 3
      have cr3 : wr.cell? ⟨w.heap.size + 1, 3, none⟩ = some (.slice none 0 0) := (K13.out).cell 3
      have fr4 : wr.frozen? ⟨w.heap.size + 1, 4, none⟩ = false := (K13.out).free 4
      have cr4 : wr.cell? ⟨w.heap.size + 1, 4, none⟩ = some (.slice none 0 0) := (K13.out).cell 4
      have fr5 : wr.frozen? ⟨w.heap.size + 1, 5, none⟩ = false := (K13.out).free 5
      have cr5 : wr.cell? ⟨w.heap.size + 1, 5, none⟩ = some (.slice none 0 0) := (K13.out).cell 5
      go_wp2
      clear cr0 fr0 xo0 cr1 fr1 xo1 cr2 fr2 xo2 cr3 fr3 xo3 cr4 fr4 xo4 cr5 fr5 xo5
      have kF : Bk ((((((wr.setCell ⟨w.heap.size + 1, 0, none⟩ (.slice k.A0 (begS L).f0.length k.c0)).setCell ⟨w.heap.size + 1, 1, none⟩ (.slice k.A1 (begS L).f1.length k.c1)).setCell ⟨w.heap.size + 1, 2, none⟩ (.slice k.A2 (begS L).f2.length k.c2)).setCell ⟨w.heap.size + 1, 3, none⟩ (.slice k.A3 (begS L).f3.length k.c3)).setCell ⟨w.heap.size + 1, 4, none⟩ (.slice k.A4 (begS L).f4.length k.c4)).setCell ⟨w.heap.size + 1, 5, none⟩ (.slice A L.length c)) (w.heap.size + 1) 59 #[.slice k.A0 (begS L).f0.length k.c0, .slice k.A1 (begS L).f1.length k.c1, .slice k.A2 (begS L).f2.length k.c2, .slice k.A3 (begS L).f3.length k.c3, .slice k.A4 (begS L).f4.length k.c4, .slice A L.length c] := by
        have a0 := K13.out
        have a1 := a0.set 0 (.slice k.A0 (begS L).f0.length k.c0)
        have a2 := a1.set 1 (.slice k.A1 (begS L).f1.length k.c1)
        have a3 := a2.set 2 (.slice k.A2 (begS L).f2.length k.c2)
        have a4 := a3.set 3 (.slice k.A3 (begS L).f3.length k.c3)
        have a5 := a4.set 4 (.slice k.A4 (begS L).f4.length k.c4)
        have a6 := a5.set 5 (.slice A L.length c)
        simpa using a6
      have bF : ∀ B, B ≤ w.heap.size + 1 → Below B wr ((((((wr.setCell ⟨w.heap.size + 1, 0, none⟩ (.slice k.A0 (begS L).f0.length k.c0)).setCell ⟨w.heap.size + 1, 1, none⟩ (.slice k.A1 (begS L).f1.length k.c1)).setCell ⟨w.heap.size + 1, 2, none⟩ (.slice k.A2 (begS L).f2.length k.c2)).setCell ⟨w.heap.size + 1, 3, none⟩ (.slice k.A3 (begS L).f3.length k.c3)).setCell ⟨w.heap.size + 1, 4, none⟩ (.slice k.A4 (begS L).f4.length k.c4)).setCell ⟨w.heap.size + 1, 5, none⟩ (.slice A L.length c)) := fun B hB => (((((((Below.refl _ _).setCell (by show B ≤ w.heap.size + 1; omega) _).setCell (by show B ≤ w.heap.size + 1; omega) _).setCell (by show B ≤ w.heap.size + 1; omega) _).setCell (by show B ≤ w.heap.size + 1; omega) _).setCell (by show B ≤ w.heap.size + 1; omega) _).setCell (by show B ≤ w.heap.size + 1; omega) _)
      have nF : ∀ q, q ≠ w.heap.size + 1 → ((((((wr.setCell ⟨w.heap.size + 1, 0, none⟩ (.slice k.A0 (begS L).f0.length k.c0)).setCell ⟨w.heap.size + 1, 1, none⟩ (.slice k.A1 (begS L).f1.length k.c1)).setCell ⟨w.heap.size + 1, 2, none⟩ (.slice k.A2 (begS L).f2.length k.c2)).setCell ⟨w.heap.size + 1, 3, none⟩ (.slice k.A3 (begS L).f3.length k.c3)).setCell ⟨w.heap.size + 1, 4, none⟩ (.slice k.A4 (begS L).f4.length k.c4)).setCell ⟨w.heap.size + 1, 5, none⟩ (.slice A L.length c)).heap[q]? = wr.heap[q]? := fun q hq => (Below.heap_setCell _ _ _ q (by show q ≠ w.heap.size + 1; omega)).trans ((Below.heap_setCell _ _ _ q (by show q ≠ w.heap.size + 1; omega)).trans ((Below.heap_setCell _ _ _ q (by show q ≠ w.heap.size + 1; omega)).trans ((Below.heap_setCell _ _ _ q (by show q ≠ w.heap.size + 1; omega)).trans ((Below.heap_setCell _ _ _ q (by show q ≠ w.heap.size + 1; omega)).trans (Below.heap_setCell _ _ _ q (by show q ≠ w.heap.size + 1; omega))))))
      have sF : ((((((wr.setCell ⟨w.heap.size + 1, 0, none⟩ (.slice k.A0 (begS L).f0.length k.c0)).setCell ⟨w.heap.size + 1, 1, none⟩ (.slice k.A1 (begS L).f1.length k.c1)).setCell ⟨w.heap.size + 1, 2, none⟩ (.slice k.A2 (begS L).f2.length k.c2)).setCell ⟨w.heap.size + 1, 3, none⟩ (.slice k.A3 (begS L).f3.length k.c3)).setCell ⟨w.heap.size + 1, 4, none⟩ (.slice k.A4 (begS L).f4.length k.c4)).setCell ⟨w.heap.size + 1, 5, none⟩ (.slice A L.length c)).heap.size = wr.heap.size := by simp
      have KF := Lib.hid kF
      have BF := Lib.hid bF
      have NF := Lib.hid nF
      obtain ⟨F, hF⟩ : ∃ F, F = ((((((wr.setCell ⟨w.heap.size + 1, 0, none⟩ (.slice k.A0 (begS L).f0.length k.c0)).setCell ⟨w.heap.size + 1, 1, none⟩ (.slice k.A1 (begS L).f1.length k.c1)).setCell ⟨w.heap.size + 1, 2, none⟩ (.slice k.A2 (begS L).f2.length k.c2)).setCell ⟨w.heap.size + 1, 3, none⟩ (.slice k.A3 (begS L).f3.length k.c3)).setCell ⟨w.heap.size + 1, 4, none⟩ (.slice k.A4 (begS L).f4.length k.c4)).setCell ⟨w.heap.size + 1, 5, none⟩ (.slice A L.length c)) := ⟨_, rfl⟩
      rw [← hF] at KF BF NF sF
      rw [← hF]
      clear kF bF nF hF
      have sFa := Nat.le_of_eq sF
      have sFb := Nat.le_of_eq sF.symm
      clear sF
      have cF0 := KF.out.cell 0
      have cF1 := KF.out.cell 1
      have cF2 := KF.out.cell 2
      have cF3 := KF.out.cell 3
      have cF4 := KF.out.cell 4
      have cF5 := KF.out.cell 5
      simp only [List.getElem?_toArray, List.getElem?_cons_zero, List.getElem?_cons_succ] at cF0 cF1 cF2 cF3 cF4 cF5
      refine bodyPost_ret (v := .agg #[.slice k.A0 (begS L).f0.length k.c0, .slice k.A1 (begS L).f1.length k.c1, .slice k.A2 (begS L).f2.length k.c2, .slice k.A3 (begS L).f3.length k.c3, .slice k.A4 (begS L).f4.length k.c4, .slice A L.length c]) (by simp [results, Try.results84, cF0, cF1, cF2, cF3, cF4, cF5, go_sem]) rfl ?_
      refine ⟨⟨k, ⟨A, c⟩⟩, by simp [BufV, bbegS], HB.out.trans (BF.out _ (by omega)), by omega, (IS2.out.keep (by omega) (by omega) fun q h1 h2 => NF.out q (by omega)), ?_⟩
      exact IB.out.keep (by omega) (by omega) fun q h1 h2 => NF.out q (by omega)
end Go.Proofs.Ytnadihepgmbhaaa
