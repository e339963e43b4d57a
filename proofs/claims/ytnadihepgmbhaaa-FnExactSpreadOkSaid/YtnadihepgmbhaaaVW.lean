/-
  Words of buffers: what the program's putBehind, lowestStore, oldestFrom, oldestStore, withoutOldest, bufWord, bufList, placeBufWord and placeBufValues come to.
-/
import Derived.Test.YtnadihepgmbhaaaWordF
import Derived.Test.YtnadihepgmbhaaaVP
import Derived.Test.YtnadihepgmbhaaaNums
import Derived.Test.YtnadihepgmbhaaaCopy1
import Derived.Test.YtnadihepgmbhaaaVec
import Derived.Deep.AppendLies
namespace Go.Proofs.Ytnadihepgmbhaaa
open Go.RowKit Pl Go.BigFrame
set_option maxHeartbeats 2000000
set_option maxRecDepth 100000
set_option linter.unusedVariables false

theorem putb_any (cs : List Nat) (p v : Nat) (w : World) (hc : okS cs) (hl : cs.length ≤ 7) (hp : p < 3) (hv : v < 4) :
    Calls Try.prog 157 #[.int .u64 (bwC cs : Nat), .int .i64 p, .int .i64 v] w fun e w' => e = .returned (.int .u64 (bwC (cs ++ [p * 4 + v]) : Nat)) ∧ w = w' := by
  obtain ⟨W, hW⟩ : ∃ W, bwC cs = W := ⟨_, rfl⟩
  have hlt : W < 72057594037927936 := by rw [← hW]; exact bwC_small hc hl
  have hs : W * 256 < 18446744073709551616 := by omega
  rw [bwC_snoc, hW, ← put_word W (p * 4 + v) (by omega)]
  clear hW hc hl
  go_enter Try.func157, Try.ntmps157
  go_wp2
  go_ret
  refine ⟨?_, rfl⟩
  have h1 : (W : Int) * 256 = ((W * 256 : Nat) : Int) := by omega
  have h2 : (p : Int) * 4 + (v : Int) = ((p * 4 + v : Nat) : Int) := by omega
  have h3 : W * 256 ||| 16 < 18446744073709551616 := by rw [or_low W 16 8 (by omega)]; omega
  have h4 : bits .or .u64 ((W : Int) * 256) 16 = ((W * 256 ||| 16 : Nat) : Int) := by rw [h1]; exact or_u64 hs (b := 16) (by omega)
  have h5 : bits .or .u64 (bits .or .u64 ((W : Int) * 256) 16) ((p : Int) * 4 + (v : Int)) = ((W * 256 ||| 16 ||| (p * 4 + v) : Nat) : Int) := by rw [h4, h2]; exact or_u64 h3 (by omega)
  rw [← h5]; rfl
theorem lows_any (W : Nat) (w : World) (hW : W < 18446744073709551616) (c : Nat) (hc : Hid (W % 16 = c)) :
    Calls Try.prog 111 #[.int .u64 W] w fun e w' => e = .returned (.tuple #[.int .i64 (c / 4 : Nat), .int .i64 (c % 4 : Nat)]) ∧ w = w' := by
  have hand : bits .and .u64 (W : Int) 15 = ((c : Nat) : Int) := by
    have := and_u64 (a := W) (b := 15) hW (by omega)
    rw [show W &&& 15 = W % 16 from Nat.and_two_pow_sub_one_eq_mod W 4, hc.out] at this
    exact this
  have hc16 : c < 16 := by rw [← hc.out]; omega
  clear hc
  have e1 : Int.tdiv (c : Int) 4 = ((c / 4 : Nat) : Int) := by rw [Int.tdiv_eq_ediv_of_nonneg (by omega)]; omega
  have e2 : Int.tmod (c : Int) 4 = ((c % 4 : Nat) : Int) := by rw [Int.tmod_eq_emod_of_nonneg (by omega)]; omega
  go_enter Try.func111, Try.ntmps111
  go_wp2
  exact bodyPost_ret (v := .tuple #[.int .i64 (c / 4 : Nat), .int .i64 (c % 4 : Nat)]) (by simp [results, Try.results111, go_sem]) rfl ⟨rfl, rfl⟩
theorem oldf_any (c : Nat) (r : List Nat) (w : World) (h : okS (c :: r)) (hl : r.length ≤ 7) :
    Calls Try.prog 175 #[.int .u64 (bwC (c :: r) : Nat)] w fun e w' => e = .returned (.int .i64 (8 * r.length : Nat)) ∧ w = w' := by
  obtain ⟨W, hW⟩ : ∃ W, bwC (c :: r) = W := ⟨_, rfl⟩
  have hlt : W < 18446744073709551616 := by rw [← hW]; exact bwC_8 h (by simp; omega)
  have more := Lib.hid (fun k => bwC_more (k := k) h)
  rw [hW] at *
  clear hW h
  generalize r.length = n at *
  go_enter Try.func175, Try.ntmps175
  go_wp2
  go_loop [3] (fun i => ∃ k : Nat, k ≤ n ∧ i = .int .i64 (8 * k : Nat)) (fun i => 8 * n + 8 - (intOf i).toNat)
  case atStart => exact ⟨0, Nat.zero_le _, rfl⟩
  case round =>
    obtain ⟨k, hk, rfl⟩ := hrel
    have hs : (W : Int) / 2 ^ (8 * (k : Int) + 8).toNat = ((W / 256 ^ (k + 1) : Nat) : Int) := by
      rw [div_pow W (8 * (k + 1)) _ (by omega), pow256]
    have hm := more.out k
    obtain ⟨Q, hQ⟩ : ∃ Q, W / 256 ^ (k + 1) = Q := ⟨_, rfl⟩
    rw [hQ] at hs hm
    clear hQ
    by_cases hlt2 : k < n
    · have hne : ((Q : Int) != 0) = true := by have := hm.2 hlt2; simp; omega
      clear hm
      go_wp2
      go_round
      case rel => exact ⟨k + 1, by omega, by go_num⟩
      case measure => simp [intOf]; omega
    · have hne : ((Q : Int) != 0) = false := by
        have : Q = 0 := by
          by_cases e : Q = 0
          · exact e
          · exact absurd (hm.1 e) hlt2
        simp [this]
      have hkn : k = n := by omega
      subst hkn
      clear hm
      go_wp2
      go_ret
      exact ⟨rfl, rfl⟩
theorem mask_low (W n : Nat) (hW : W < 18446744073709551616) (hn : n ≤ 7) : bits .and .u64 (W : Int) (IntKind.u64.wrap (IntKind.u64.wrap ((2 : Int) ^ (8 * n)) - 1)) = ((W % 256 ^ n : Nat) : Int) := by
  have hp : (256 : Nat) ^ n ≤ 256 ^ 7 := Nat.pow_le_pow_right (by omega) hn
  have h7 : (256 : Nat) ^ 7 = 72057594037927936 := rfl
  have hp0 : 0 < (256 : Nat) ^ n := Nat.pow_pos (by omega)
  have e1 : ((2 : Int) ^ (8 * n)) = ((256 ^ n : Nat) : Int) := by rw [← pow256]; simp
  have hand : W &&& (256 ^ n - 1) = W % 256 ^ n := by rw [← pow256]; exact Nat.and_two_pow_sub_one_eq_mod W (8 * n)
  rw [e1]
  generalize (256 : Nat) ^ n = P at *
  rw [wrapu_small (x := (P : Int)) (by omega) (by omega), show (P : Int) - 1 = ((P - 1 : Nat) : Int) by omega, wrapu_small (by omega) (by omega), and_u64 hW (by omega), hand]
theorem witho_any (c : Nat) (r : List Nat) (w : World) (h : okS (c :: r)) (hl : r.length ≤ 7) :
    Calls Try.prog 148 #[.int .u64 (bwC (c :: r) : Nat)] w fun e w' => e = .returned (.int .u64 (bwC r : Nat)) ∧ w = w' := by
  have hlt : bwC (c :: r) < 18446744073709551616 := bwC_8 h (by simp; omega)
  have hrest := bwC_rest h
  have OF := fun w => oldf_any c r w h hl
  rw [← hrest]
  obtain ⟨n, hn⟩ : ∃ n, r.length = n := ⟨_, rfl⟩
  rw [hn] at OF hl
  rw [hn]
  clear hrest
  revert OF
  generalize bwC (c :: r) = W at *
  intro OF
  have OF := Lib.hid OF
  have hn8 : 8 * n ≤ 56 := by omega
  clear h hn
  go_enter Try.func148, Try.ntmps148
  go_wp2_with fail
  refine (OF.out _).mono ?_
  rintro e w' ⟨rfl, rfl⟩
  go_wp2
  go_ret
  refine ⟨?_, rfl⟩
  rw [← mask_low W n hlt hl]; rfl
/-- A list that a loop makes by appends. -/
def PuB (w wr : World) (v : Value) (n : Nat) (xs : List Int) : Prop := ∃ g c, v = .slice (some ⟨g, 0, none⟩) n c ∧ w.heap.size ≤ g ∧ wr.ownsRow w.heap.size 3 1 (.slice (some ⟨g, 0, none⟩) n c) n (ints xs) ∧ Below w.heap.size w wr
theorem cell2_new (w : World) (a b : Value) (t : TypeId) : ∀ j u, [a, b][j]? = some u → (w.alloc (.cells #[a, b] t)).cell? ((⟨w.heap.size, 0, none⟩ : Addr).add j) = some u := by
  intro j u h
  have hb := (Bk.new w #[a, b] t)
  have e : (⟨w.heap.size, 0, none⟩ : Addr).add j = ⟨w.heap.size, j, none⟩ := by
    unfold Addr.add
    split <;> simp_all
  rw [e, hb.cell j]
  simpa using h
theorem bufword_any (A : Option Addr) (cs : List Nat) (c : Nat) (w : World) (B : Nat) (h : Vs w B A (ints (rowS cs))) (hc : okS cs) (hl : cs.length ≤ 7) (hB : B ≤ w.heap.size) :
    Calls Try.prog 134 #[.slice A (rowS cs).length c] w fun e w' => e = .returned (.int .u64 (bwC cs : Nat)) ∧ Below w.heap.size w w' := by
  have hlen : (rowS cs).length = 2 * cs.length := rowS_length cs
  obtain ⟨n, hn⟩ : ∃ n, (rowS cs).length = n := ⟨_, rfl⟩
  rw [hn]
  rw [hn] at hlen
  have HN := Lib.hid hn
  clear hn
  go_enter Try.func134, Try.ntmps134
  go_wp2
  go_loopw [3, 4] (fun b i wr => ∃ k : Nat, k ≤ cs.length ∧ b = .int .u64 (bwC (cs.take k) : Nat) ∧ i = .int .i64 (2 * k + 1 : Nat) ∧ Below w.heap.size w wr) (fun b i _ => n + 1 - (intOf i).toNat)
  case atStart => exact ⟨0, Nat.zero_le _, rfl, rfl, Below.refl _ _⟩
  case round =>
    obtain ⟨k, hk, rfl, rfl, hbel⟩ := hrel
    have hz := hbel.size
    by_cases hlt : k < cs.length
    · obtain ⟨x, hx, -⟩ := drop_at hlt
      have hx12 := hc x (List.mem_of_getElem? hx)
      have htk : cs.take (k + 1) = cs.take k ++ [x] := by rw [List.take_add_one, hx]; rfl
      have hok : okS (cs.take k) := fun y hy => hc y (List.mem_of_mem_take hy)
      have hlk : (cs.take k).length ≤ 7 := by rw [List.length_take]; omega
      obtain ⟨b, off, hA, hb, hcell⟩ := h (by rw [ints_length, HN.out]; omega)
      subst hA
      have c0 : w.cell? ⟨b, off + 2 * k, none⟩ = some (.int .i64 ((x / 4 : Nat) : Int)) := hcell _ _ (ints_at (rowS_at0 hx))
      have c1 : w.cell? ⟨b, off + (2 * k + 1), none⟩ = some (.int .i64 ((x % 4 : Nat) : Int)) := hcell _ _ (ints_at (rowS_at1 hx))
      have e0 : wr.cell? ⟨b, off + 2 * k, none⟩ = some (.int .i64 ((x / 4 : Nat) : Int)) := (hbel.cell (p := ⟨b, off + 2 * k, none⟩) (by show b < w.heap.size; omega)).trans c0
      have e1 : wr.cell? ⟨b, off + (2 * k + 1), none⟩ = some (.int .i64 ((x % 4 : Nat) : Int)) := (hbel.cell (p := ⟨b, off + (2 * k + 1), none⟩) (by show b < w.heap.size; omega)).trans c1
      have hbw : b < wr.heap.size := by omega
      have hi0 : ((2 * k + 1 : Nat) : Int) - 1 = ((2 * k : Nat) : Int) := by omega
      have hi1 : ((2 * k + 1 : Nat) : Int) < (n : Int) := by omega
      have hi2 : ((2 * k : Nat) : Int) < (n : Int) := by omega
      have hW : (bwC (cs.take k) * 256 + (16 + x)) < 18446744073709551616 := by have := bwC_small hok hlk; omega
      have PB := Lib.hid (fun v => (putb_any (cs.take k) (x / 4) (x % 4) v hok hlk (by omega) (by omega)).mono fun e w' (h : _ ∧ v = w') => (⟨h.1, by rw [← h.2]; exact Below.refl _ _⟩ : e = Ending.returned (.int .u64 (bwC (cs.take k ++ [x / 4 * 4 + x % 4]) : Nat)) ∧ Below v.heap.size v w'))
      rw [show x / 4 * 4 + x % 4 = x by omega, ← htk] at PB
      clear c0 c1 hcell hx htk h
      have hS := fr_none wr
      have g0 := Ws.same (bs := []) hbw e0
      have g1 := Ws.same (bs := []) hbw e1
      haveI hne := Nonempty.intro (Ws.mk _ hS)
      have HS := Lib.hid hS
      clear hS e0 e1
      go_wp2_with fail
      refine region_in (by kernel_rfl) HS.out.drew ?_
      repeat (go_big_quiet_step ((go_at_call 157; exact call_in (PB.out _))))
      refine wpQuiet_nil ?_
      rintro w2 ⟨⟨_, hw2⟩, rfl⟩
      have hB2 : Below w.heap.size w w2 := below_on hbel hw2.below
      clear g0 g1
      go_wp2
      go_roundw
      case rel => exact ⟨k + 1, by omega, rfl, by go_num, hB2⟩
      case measure => simp [intOf]; omega
    · have hkl : k = cs.length := by omega
      subst hkl
      have hge : ¬ ((2 * cs.length + 1 : Nat) : Int) < (n : Int) := by omega
      rw [List.take_length]
      go_wp2
      go_ret
      exact ⟨rfl, hbel⟩
theorem olds_any (c : Nat) (r : List Nat) (w : World) (h : okS (c :: r)) (hl : r.length ≤ 7) :
    Calls Try.prog 149 #[.int .u64 (bwC (c :: r) : Nat)] w fun e w' => e = .returned (.tuple #[.int .i64 (c / 4 : Nat), .int .i64 (c % 4 : Nat)]) ∧ w = w' := by
  have hx12 := h.head
  have hhead := bwC_head h
  have OF := Lib.hid (fun v => oldf_any c r v h hl)
  have LO := Lib.hid (fun v => lows_any (16 + c) v (by omega) c (Lib.hid (by omega)))
  have hs : ((bwC (c :: r) : Nat) : Int) / 2 ^ (8 * (r.length : Int)).toNat = ((16 + c : Nat) : Int) := by
    rw [div_pow (bwC (c :: r)) (8 * r.length) _ (by omega), pow256, hhead]
  revert OF hs
  clear hhead h
  generalize bwC (c :: r) = W
  intro OF hs
  generalize r.length = n at *
  go_enter Try.func149, Try.ntmps149
  go_wp2_with fail
  refine (OF.out _).mono ?_
  rintro e w' ⟨rfl, rfl⟩
  go_wp2_with fail
  refine (LO.out _).mono ?_
  rintro e w' ⟨rfl, rfl⟩
  go_wp2
  exact bodyPost_ret (v := .tuple #[.int .i64 (c / 4 : Nat), .int .i64 (c % 4 : Nat)]) (by simp [results, Try.results149, go_sem]) rfl ⟨rfl, rfl⟩
theorem buflist_any (cs : List Nat) (w : World) (hc : okS cs) (hl : cs.length ≤ 7) :
    Calls Try.prog 132 #[.int .u64 (bwC cs : Nat)] w fun e w' => ∃ A c, e = .returned (.slice A (2 * cs.length : Nat) c) ∧ Below w.heap.size w w' ∧ OwnVs w' w.heap.size w'.heap.size 3 A (ints (rowS cs)) := by
  obtain ⟨i0, hi, iz0, iz1, iz2⟩ := info_parts Try.info3
  have start : Hid (PuB w (w.alloc (.cells #[] 3)) (.slice (some ⟨w.heap.size, 0, none⟩) 0 0) 0 []) := Lib.hid ⟨w.heap.size, 0, rfl, Nat.le_refl _, World.ownsRow_made w #[] 0 (Nat.le_refl _) (by decide) (by simp), (Below.refl _ _).alloc (Nat.le_refl _) _⟩
  go_enter Try.func132, Try.ntmps132
  go_wp2_with fail
  go_loopw [0, 3] (fun b l wr => ∃ d r : List Nat, cs = d ++ r ∧ b = .int .u64 (bwC r : Nat) ∧ PuB w wr l (2 * d.length) (rowS d)) (fun b _ _ => (intOf b).toNat)
  case atStart => exact ⟨[], cs, rfl, rfl, start.out⟩
  case round =>
    obtain ⟨d, r, hcs, rfl, g, cap, rfl, hg, hown, hbel⟩ := hrel
    clear start
    have hz := hbel.size
    cases r with
    | cons x r =>
      have hok : okS (x :: r) := fun y hy => hc y (by rw [hcs]; exact List.mem_append_right _ hy)
      have hdl : d.length + r.length + 1 = cs.length := by rw [hcs]; simp; omega
      have hx12 := hok.head
      have hW8 : bwC (x :: r) < 18446744073709551616 := bwC_8 hok (by simp; omega)
      have hpos : bwC (x :: r) ≠ 0 := fun e => by have := bwC_zero.1 e; cases this
      have hlt : bwC r < bwC (x :: r) := Nat.lt_of_lt_of_le (bwC_lt hok.tail) bwC_ge
      have OS := Lib.hid (fun v => olds_any x r v hok (by omega))
      have WO := Lib.hid (fun v => witho_any x r v hok (by omega))
      have HCS := Lib.hid (show cs = (d ++ [x]) ++ r by rw [hcs]; simp)
      have HO := Lib.hid hown
      have HB := Lib.hid hbel
      have HR := Lib.hid (rowS_snoc d x)
      have HL := Lib.hid (rowS_length d)
      revert OS WO hlt hpos hW8
      clear hown hbel hcs
      generalize bwC (x :: r) = W
      generalize hV : bwC r = V
      have HV := Lib.hid hV
      clear hV
      intro hW8 hpos hlt OS WO
      have hne : ((W : Int) != 0) = true := by simp; omega
      clear hpos
      generalize r.length = n at *
      go_wp2_with fail
      refine (OS.out _).mono ?_
      rintro e w' ⟨rfl, rfl⟩
      have z1 := wr.heap.size
      go_wp2_with (at_builtin; refine wpList_append_own _ rfl (.tmp 14) (.tmp 17) 26 rfl w.heap.size 3 i0 _ 1 8 Try.underlying26 hi iz0 iz1 iz2 rfl (by decide) _ (2 * d.length) _ rfl (HO.out.alloc _) ⟨_, 0, none⟩ 2 2 [.int .i64 _, .int .i64 _] rfl rfl (cell2_new _ _ _ _) (by intro u hu; simp at hu; rcases hu with rfl | rfl <;> rfl) (by unfold maxLen; omega) (by omega) (by simp; omega) ?_; intro v' w3 own3 grow3 _; obtain ⟨g3, cap3, rfl, hg3, hlt3⟩ := own3.form (by omega); have Own3 := Lib.hid own3; have B3 := Lib.hid ((HB.out.alloc hz _).grown grow3 (by simp; omega) (by intro q hq; cases hq; exact hg)); clear own3 grow3)
      refine (WO.out _).mono ?_
      rintro e w' ⟨rfl, rfl⟩
      have OI := Lib.hid (show w3.ownsRow w.heap.size 3 1 (.slice (some ⟨g3, 0, none⟩) (2 * d.length + 2) cap3) (2 * d.length + 2) (ints (rowS (d ++ [x]))) from by have := Own3.out; rw [HR.out]; simpa [ints] using this)
      go_wp2
      go_roundw
      case rel => exact ⟨d ++ [x], r, HCS.out, by rw [HV.out], g3, cap3, by simp [Nat.mul_add], hg3, by simpa [Nat.mul_add] using OI.out, B3.out⟩
      case measure => first | (simp [intOf]; done) | (simp [intOf]; omega)
    | nil =>
      rw [bwC_nil]
      have e : d = cs := by rw [hcs]; simp
      subst e
      have HO := Lib.hid hown
      clear hown hcs
      go_wp2
      go_ret
      exact ⟨_, _, rfl, hbel, own_vs HO.out rfl⟩
/-- The values of stores. -/
def rowV (cs : List Nat) : List Int := cs.map fun c => ((c % 4 : Nat) : Int)
theorem rowV_length (cs : List Nat) : (rowV cs).length = cs.length := List.length_map ..
theorem rowV_snoc (r : List Nat) (c : Nat) : rowV (r ++ [c]) = rowV r ++ [((c % 4 : Nat) : Int)] := by simp [rowV]
theorem rowV_at {cs : List Nat} {i c : Nat} (h : cs[i]? = some c) : (rowV cs)[i]? = some ((c % 4 : Nat) : Int) := by simp [rowV, h]
/-- The codes of a row of values at a place. -/
def cdV (p : Nat) (xs : List Int) : List Nat := xs.map fun x => p * 4 + x.toNat
theorem cdV_length (p : Nat) (xs : List Int) : (cdV p xs).length = xs.length := List.length_map ..
def vokB (xs : List Int) : Bool := decide (xs.length ≤ 6) && allIn xs 0 3
theorem vok_parts {p : Nat} {xs : List Int} (hp : p < 3) (h : vokB xs = true) : okS (cdV p xs) ∧ (cdV p xs).length ≤ 6 ∧ rowV (cdV p xs) = xs ∧ ∀ c ∈ cdV p xs, c / 4 = p := by
  simp only [vokB, Bool.and_eq_true, decide_eq_true_eq] at h
  obtain ⟨h1, h2⟩ := h
  have hx : ∀ x ∈ xs, 0 ≤ x ∧ x ≤ 3 := fun x hm => inB_nat (List.all_eq_true.1 h2 x hm)
  refine ⟨fun c hc => ?_, by rw [cdV_length]; exact h1, ?_, fun c hc => ?_⟩
  · obtain ⟨x, hm, rfl⟩ := List.mem_map.1 hc
    have := hx x hm; omega
  · unfold rowV cdV
    rw [List.map_map]
    refine (List.map_congr_left fun x hm => ?_).trans (List.map_id xs)
    have := hx x hm
    show (((p * 4 + x.toNat) % 4 : Nat) : Int) = x
    omega
  · obtain ⟨x, hm, rfl⟩ := List.mem_map.1 hc
    have := hx x hm; omega
theorem vok_rowV {cs : List Nat} (hl : cs.length ≤ 6) : vokB (rowV cs) = true := by
  simp only [vokB, Bool.and_eq_true, decide_eq_true_eq, rowV_length]
  refine ⟨hl, List.all_eq_true.2 fun x hx => ?_⟩
  obtain ⟨c, _, rfl⟩ := List.mem_map.1 hx
  simp [inB]; omega
theorem cdV_rowV {p : Nat} {cs : List Nat} (h : ∀ c ∈ cs, c / 4 = p) : cdV p (rowV cs) = cs := by
  unfold rowV cdV
  rw [List.map_map]
  refine (List.map_congr_left fun c hm => ?_).trans (List.map_id cs)
  have := h c hm
  show p * 4 + (((c % 4 : Nat) : Int)).toNat = c
  omega
theorem rowV_small {cs : List Nat} {k : Nat} {x : Int} (hx : (rowV cs)[k]? = some x) : 0 ≤ x ∧ x ≤ 3 := by
  obtain ⟨c, _, rfl⟩ := List.mem_map.1 (List.mem_of_getElem? hx)
  omega
theorem placevals_any (cs : List Nat) (w : World) (hc : okS cs) (hl : cs.length ≤ 7) :
    Calls Try.prog 102 #[.int .u64 (bwC cs : Nat)] w fun e w' => ∃ A c, e = .returned (.slice A (cs.length : Nat) c) ∧ Below w.heap.size w w' ∧ OwnVs w' w.heap.size w'.heap.size 3 A (ints (rowV cs)) := by
  obtain ⟨i0, hi, iz0, iz1, iz2⟩ := info_parts Try.info3
  have start : Hid (PuB w (w.alloc (.cells #[] 3)) (.slice (some ⟨w.heap.size, 0, none⟩) 0 0) 0 []) := Lib.hid ⟨w.heap.size, 0, rfl, Nat.le_refl _, World.ownsRow_made w #[] 0 (Nat.le_refl _) (by decide) (by simp), (Below.refl _ _).alloc (Nat.le_refl _) _⟩
  go_enter Try.func102, Try.ntmps102
  go_wp2_with fail
  go_loopw [0, 3] (fun b l wr => ∃ d r : List Nat, cs = d ++ r ∧ b = .int .u64 (bwC r : Nat) ∧ PuB w wr l d.length (rowV d)) (fun b _ _ => (intOf b).toNat)
  case atStart => exact ⟨[], cs, rfl, rfl, start.out⟩
  case round =>
    obtain ⟨d, r, hcs, rfl, g, cap, rfl, hg, hown, hbel⟩ := hrel
    clear start
    have hz := hbel.size
    cases r with
    | cons x r =>
      have hok : okS (x :: r) := fun y hy => hc y (by rw [hcs]; exact List.mem_append_right _ hy)
      have hdl : d.length + r.length + 1 = cs.length := by rw [hcs]; simp; omega
      have hx12 := hok.head
      have hW8 : bwC (x :: r) < 18446744073709551616 := bwC_8 hok (by simp; omega)
      have hpos : bwC (x :: r) ≠ 0 := fun e => by have := bwC_zero.1 e; cases this
      have hlt : bwC r < bwC (x :: r) := Nat.lt_of_lt_of_le (bwC_lt hok.tail) bwC_ge
      have OS := Lib.hid (fun v => olds_any x r v hok (by omega))
      have WO := Lib.hid (fun v => witho_any x r v hok (by omega))
      have HCS := Lib.hid (show cs = (d ++ [x]) ++ r by rw [hcs]; simp)
      have HO := Lib.hid hown
      have HB := Lib.hid hbel
      have HR := Lib.hid (rowV_snoc d x)
      have HL := Lib.hid (rowV_length d)
      revert OS WO hlt hpos hW8
      clear hown hbel hcs
      generalize bwC (x :: r) = W
      generalize hV : bwC r = V
      have HV := Lib.hid hV
      clear hV
      intro hW8 hpos hlt OS WO
      have hne : ((W : Int) != 0) = true := by simp; omega
      clear hpos
      generalize r.length = n at *
      go_wp2_with fail
      refine (OS.out _).mono ?_
      rintro e w' ⟨rfl, rfl⟩
      have z1 := wr.heap.size
      go_wp2_with (at_builtin; refine wpList_append_own _ rfl (.tmp 16) (.tmp 18) 26 rfl w.heap.size 3 i0 _ 1 8 Try.underlying26 hi iz0 iz1 iz2 rfl (by decide) _ (d.length) _ rfl (HO.out.alloc _) ⟨_, 0, none⟩ 1 1 [.int .i64 _] rfl rfl (cell1_new _ _ _) (by intro u hu; simp at hu; subst hu; rfl) (by unfold maxLen; omega) (by omega) (by simp; omega) ?_; intro v' w3 own3 grow3 _; obtain ⟨g3, cap3, rfl, hg3, hlt3⟩ := own3.form (by omega); have Own3 := Lib.hid own3; have B3 := Lib.hid ((HB.out.alloc hz _).grown grow3 (by simp; omega) (by intro q hq; cases hq; exact hg)); clear own3 grow3)
      refine (WO.out _).mono ?_
      rintro e w' ⟨rfl, rfl⟩
      have OI := Lib.hid (show w3.ownsRow w.heap.size 3 1 (.slice (some ⟨g3, 0, none⟩) (d.length + 1) cap3) (d.length + 1) (ints (rowV (d ++ [x]))) from by have := Own3.out; rw [HR.out]; simpa [ints] using this)
      go_wp2
      go_roundw
      case rel => exact ⟨d ++ [x], r, HCS.out, by rw [HV.out], g3, cap3, by simp, hg3, by simpa using OI.out, B3.out⟩
      case measure => first | (simp [intOf]; done) | (simp [intOf]; omega)
    | nil =>
      rw [bwC_nil]
      have e : d = cs := by rw [hcs]; simp
      subst e
      have HO := Lib.hid hown
      clear hown hcs
      go_wp2
      go_ret
      exact ⟨_, _, rfl, hbel, own_vs HO.out rfl⟩
theorem placeword_any (A : Option Addr) (p : Nat) (xs : List Int) (c : Nat) (w : World) (B : Nat) (h : Vs w B A (ints xs)) (hp : p < 3) (hv : vokB xs = true) :
    Calls Try.prog 115 #[.int .i64 p, .slice A xs.length c] w fun e w' => e = .returned (.int .u64 (bwC (cdV p xs) : Nat)) ∧ Below w.heap.size w w' := by
  obtain ⟨ho, hl, -, -⟩ := vok_parts hp hv
  have hlen := cdV_length p xs
  have hxs : Hid (∀ (k : Nat) (x : Int), xs[k]? = some x → 0 ≤ x ∧ x ≤ 3) := Lib.hid (fun k x hx => by
    simp only [vokB, Bool.and_eq_true] at hv
    exact inB_nat (List.all_eq_true.1 hv.2 x (List.mem_of_getElem? hx)))
  clear hv
  go_enter Try.func115, Try.ntmps115
  go_wp2
  go_loop [5, 10] (fun b i => ∃ k : Nat, k ≤ xs.length ∧ b = .int .u64 (bwC (cdV p (xs.take k)) : Nat) ∧ i = .int .i64 k) (fun b i => xs.length - (intOf i).toNat)
  case atStart => exact ⟨0, Nat.zero_le _, rfl, rfl⟩
  case round =>
    obtain ⟨k, hk, rfl, rfl⟩ := hrel
    by_cases hlt : k < xs.length
    · obtain ⟨b, off, x, rfl, hb, hx, hd, hx0⟩ := h.int_ hlt
      obtain ⟨h0, h3⟩ := hxs.out k x hx
      obtain ⟨v, rfl⟩ : ∃ v : Nat, x = v := ⟨x.toNat, by omega⟩
      have hlk : (cdV p (xs.take k)).length ≤ 7 := by rw [cdV_length, List.length_take]; omega
      have hok : okS (cdV p (xs.take k)) := fun y hy => ho y (by
        unfold cdV at hy ⊢
        rw [List.map_take] at hy
        exact List.mem_of_mem_take hy)
      have htk : cdV p (xs.take (k + 1)) = cdV p (xs.take k) ++ [p * 4 + v] := by rw [List.take_add_one, hx]; simp [cdV]
      have PB := Lib.hid (fun u => putb_any (cdV p (xs.take k)) p v u hok hlk hp (by omega))
      rw [← htk] at PB
      have hi1 : (k : Int) < (xs.length : Int) := by omega
      clear hx hd htk
      go_wp2_with fail
      refine (PB.out _).mono ?_
      rintro e w2 ⟨rfl, rfl⟩
      go_wp2
      go_round
      case rel => exact ⟨k + 1, by omega, rfl, by go_num⟩
      case measure => simp [intOf]; omega
    · have hkl : k = xs.length := by omega
      subst hkl
      have hge : ¬ (xs.length : Int) < (xs.length : Int) := by omega
      rw [List.take_length]
      go_wp2
      go_ret
      exact ⟨rfl, Below.refl _ _⟩
end Go.Proofs.Ytnadihepgmbhaaa
