/-
  What the program's reached comes to: the words of all states to which the program comes, ascending.
-/
import Derived.Test.YtiljakbjbiinkaaOrdP
import Derived.Test.YtiljakbjbiinkaaSEvs
import Derived.Deep.RegionHeld3
namespace Go.Proofs.Ytiljakbjbiinkaa
open Go.RowKit Pl
set_option maxHeartbeats 4000000
set_option maxRecDepth 100000
set_option linter.unusedVariables false

/-- Words as values. -/
def wds (xs : List Nat) : List Value := xs.map fun (n : Nat) => Value.int .u64 (n : Int)
@[simp] theorem wds_length (xs : List Nat) : (wds xs).length = xs.length := by simp [wds]
theorem wds_at {xs : List Nat} {k x : Nat} (h : xs[k]? = some x) : (wds xs)[k]? = some (.int .u64 (x : Int)) := by simp [wds, h]
theorem wds_snoc (xs : List Nat) (x : Nat) : wds (xs ++ [x]) = wds xs ++ [.int .u64 (x : Int)] := by simp [wds]
theorem wds_cat (xs ys : List Nat) : wds (xs ++ ys) = wds xs ++ wds ys := by simp [wds]
/-- Two ascending lists in one, what both have once. -/
def mergeL : List Nat → List Nat → List Nat
  | [], b => b
  | x :: a, [] => x :: a
  | x :: a, y :: b => if x < y then x :: mergeL a (y :: b) else if y < x then y :: mergeL (x :: a) b else x :: mergeL a b
termination_by a b => a.length + b.length
theorem mergeL_nil (a : List Nat) : mergeL a [] = a := by cases a <;> simp [mergeL]
theorem nil_mergeL (b : List Nat) : mergeL [] b = b := by simp [mergeL]
theorem mergeL_lt {x y : Nat} (a b : List Nat) (h : x < y) : mergeL (x :: a) (y :: b) = x :: mergeL a (y :: b) := by rw [mergeL, if_pos h]
theorem mergeL_gt {x y : Nat} (a b : List Nat) (h : y < x) : mergeL (x :: a) (y :: b) = y :: mergeL (x :: a) b := by rw [mergeL, if_neg (by omega), if_pos h]
theorem mergeL_eq {x : Nat} (a b : List Nat) : mergeL (x :: a) (x :: b) = x :: mergeL a b := by rw [mergeL, if_neg (by omega), if_neg (by omega)]
theorem mergeL_len : ∀ (a b : List Nat), (mergeL a b).length ≤ a.length + b.length
  | [], b => by rw [nil_mergeL]; simp
  | x :: a, [] => by rw [mergeL_nil]; simp
  | x :: a, y :: b => by
    rw [mergeL]
    split
    · have := mergeL_len a (y :: b); simp at this ⊢; omega
    · split
      · have := mergeL_len (x :: a) b; simp at this ⊢; omega
      · have := mergeL_len a b; simp at this ⊢; omega
termination_by a b => a.length + b.length
/-- Words in a block. -/
def WdsAt (w : World) (g : Nat) (xs : List Nat) : Prop := ∃ cs, Bk w g 93 cs ∧ ∀ (j x : Nat), xs[j]? = some x → cs[j]? = some (.int .u64 (x : Int))
theorem WdsAt.lt {w : World} {g : Nat} {xs : List Nat} (h : WdsAt w g xs) : g < w.heap.size := by obtain ⟨cs, hb, _⟩ := h; exact hb.lt
theorem WdsAt.below {w w' : World} {g : Nat} {xs : List Nat} (h : WdsAt w g xs) (hb : Below w.heap.size w w') : WdsAt w' g xs := by
  obtain ⟨cs, hbk, hx⟩ := h
  exact ⟨cs, hbk.below hb hbk.lt, hx⟩
theorem WdsAt.at_ {w : World} {g : Nat} {xs : List Nat} (h : WdsAt w g xs) {k : Nat} (hk : k < xs.length) : ∃ x, xs[k]? = some x ∧ xs.drop k = x :: xs.drop (k + 1) ∧ w.cell? ⟨g, k, none⟩ = some (.int .u64 (x : Int)) := by
  obtain ⟨cs, hb, hx⟩ := h
  obtain ⟨x, h1, h2⟩ := drop_at hk
  exact ⟨x, h1, h2, (hb.cell k).trans (hx k x h1)⟩
/-- Words of the call's own. -/
def WdsA (w : World) (xs : List Nat) (e : Ending) (w' : World) : Prop :=
  ∃ g cap, e = .returned (.slice (some ⟨g, 0, none⟩) xs.length cap) ∧ w.heap.size ≤ g ∧ Below w.heap.size w w' ∧ w'.ownsRow w.heap.size 93 1 (.slice (some ⟨g, 0, none⟩) xs.length cap) xs.length (wds xs)
theorem WdsAt.news {w : World} {g : Nat} {xs : List Nat} (h : WdsAt w g xs) (i : Nat) : ∀ j u, (wds (xs.drop i))[j]? = some u → w.cell? ((⟨g, i, none⟩ : Addr).add j) = some u := fun j u hj => by
  obtain ⟨cs, hb, hx⟩ := h
  rw [addr_add']
  simp only [wds, List.getElem?_map, List.getElem?_drop, Option.map_eq_some_iff] at hj
  obtain ⟨x, h1, rfl⟩ := hj
  exact (hb.cell (i + j)).trans (hx _ x h1)
theorem wds_one (xs : List Nat) : ∀ u ∈ wds xs, u.oneCell' = true := fun u hu => by
  simp only [wds, List.mem_map] at hu
  obtain ⟨x, _, rfl⟩ := hu
  rfl
theorem own_formN {w : World} {base n m : Nat} {e : TypeId} {v v0 : Value} {xs : List Value} (h : w.ownsRow base e 1 v n xs) (hi : v = .slice none 0 0 ↔ v0 = .slice none 0 0 ∧ m = 0) (h0 : v0 ≠ .slice none 0 0) :
    ∃ g cap, v = .slice (some ⟨g, 0, none⟩) n cap ∧ base ≤ g := by
  rcases h.2 with ⟨h1, _⟩ | ⟨g, cap, cur, e1, e2, _⟩
  · exact absurd (hi.1 h1).1 h0
  · exact ⟨g, cap, e1, e2⟩
theorem own_capW {w : World} {base g cap n : Nat} {e : TypeId} {vs : List Value} (h : w.ownsRow base e 1 (.slice (some ⟨g, 0, none⟩) n cap) n vs) : n ≤ cap := by
  rcases h.2 with ⟨h1, _⟩ | ⟨g', cap', cur, e1, _, _, e4, _⟩
  · cases h1
  · injection e1 with _ _ e1
    subst e1
    exact e4
theorem merged_any (ga ca gb cb : Nat) (a b : List Nat) (w : World) (hA : WdsAt w ga a) (hB : WdsAt w gb b) (hca : a.length ≤ ca) (hcb : b.length ≤ cb) (hla : a.length ≤ 1000000) (hlb : b.length ≤ 1000000) (hwa : ∀ x ∈ a, x < 18446744073709551616) (hwb : ∀ x ∈ b, x < 18446744073709551616) :
    Calls Try.prog 107 #[.slice (some ⟨ga, 0, none⟩) a.length ca, .slice (some ⟨gb, 0, none⟩) b.length cb] w (WdsA w (mergeL a b)) := by
  obtain ⟨i0, hi, iz0, iz1, iz2⟩ := info_parts Try.info93
  have hag := hA.lt
  have hbg := hB.lt
  have HA := Lib.hid hA
  have HB := Lib.hid hB
  have HWA := Lib.hid hwa
  have HWB := Lib.hid hwb
  clear hA hB hwa hwb
  obtain ⟨m, hm⟩ : ∃ m, a.length + b.length = m := ⟨_, rfl⟩
  have hmk := make_cap Try.underlying72 hi iz0 m (by rw [iz2]; omega) (by omega)
  rw [iz1, Nat.mul_one] at hmk
  have hmi : (a.length : Int) + (b.length : Int) = (m : Int) := by omega
  have hm2 : m ≤ 2000000 := by omega
  have start : Hid ((w.alloc (.cells (madeCells #[.int .u64 0] m) 93)).ownsRow w.heap.size 93 1 (.slice (some ⟨w.heap.size, 0, none⟩) 0 m) 0 (wds [])) := Lib.hid
    ⟨rfl, Or.inr ⟨w.heap.size, m, madeCells #[.int .u64 0] m, rfl, Nat.le_refl _, Bk.new _ _ _, Nat.zero_le _, by unfold maxLen; omega, by simp [size_madeCells], by simp [wds]⟩⟩
  go_enter Try.func107, Try.ntmps107
  go_wp2
  go_loopw [5, 6, 7] (fun lv iv kv wr => ∃ (i k g cap : Nat) (out : List Nat), i ≤ a.length ∧ k ≤ b.length ∧ iv = .int .i64 i ∧ kv = .int .i64 k ∧ lv = .slice (some ⟨g, 0, none⟩) out.length cap ∧ w.heap.size ≤ g ∧ wr.ownsRow w.heap.size 93 1 (.slice (some ⟨g, 0, none⟩) out.length cap) out.length (wds out) ∧ Below w.heap.size w wr ∧ out ++ mergeL (a.drop i) (b.drop k) = mergeL a b ∧ out.length ≤ i + k) (fun _ iv kv _ => a.length + b.length - ((intOf iv).toNat + (intOf kv).toNat))
  case atStart => exact ⟨0, 0, w.heap.size, m, [], Nat.zero_le _, Nat.zero_le _, rfl, rfl, rfl, Nat.le_refl _, start.out, (Below.refl _ _).alloc (Nat.le_refl _) _, rfl, Nat.le_refl _⟩
  case round =>
    obtain ⟨i, k, g, cap, out, hia, hkb, rfl, rfl, rfl, hgg, hown, hbel, heq, hol⟩ := hrel
    have OW := Lib.hid hown
    have BL := Lib.hid hbel
    have HE := Lib.hid heq
    have hz := hbel.size
    have HAr := HA.out.below hbel
    have HBr := HB.out.below hbel
    have lga := HAr.lt
    have lgb := HBr.lt
    clear start hown heq hmk
    by_cases hi2 : i < a.length
    · have hi3 : (i : Int) < (a.length : Int) := by omega
      obtain ⟨x, hx, hda, cx⟩ := HAr.at_ hi2
      by_cases hk2 : k < b.length
      · have hk3 : (k : Int) < (b.length : Int) := by omega
        obtain ⟨y, hy, hdb, cy⟩ := HBr.at_ hk2
        clear HAr HBr
        rcases Nat.lt_trichotomy x y with hxy | hxy | hxy
        · have E := Lib.hid (show (out ++ [x]) ++ mergeL (a.drop (i + 1)) (b.drop (k + 0)) = mergeL a b from by rw [← HE.out, hda, hdb, mergeL_lt _ _ hxy, ← hdb]; simp)
          clear hda hdb
          have n1 : (x : Int) < (y : Int) := by omega
          have n2 : ¬ (y : Int) < (x : Int) := by omega
          have n3 : ((x : Int) == (x : Int)) = true := by simp
          have n4 : ¬ (y : Int) = (x : Int) := by omega
          have n5 : ((y : Int) == (x : Int)) = false := by simp; omega
          go_upto_region 4 with (fail)
          go_region
          go_wp2_with (at_builtin; refine wpList_append_own _ rfl (.tmp 50) (.tmp 52) 72 rfl w.heap.size 93 i0 _ 1 8 Try.underlying72 hi iz0 iz1 iz2 rfl (by decide) _ out.length (wds out) rfl (OW.out.alloc _) ⟨_, 0, none⟩ 1 1 [.int .u64 (x : Nat)] rfl rfl (cell1_new _ _ _) (by intro u hu; simp at hu; subst hu; rfl) (by unfold maxLen; omega) (by omega) (by have := BL.out.size; simp; omega) ?_; intro v2 w5 own5 grow5 _; obtain ⟨g5, cap5, rfl, hg5, hlt5⟩ := own5.form (by omega); have Own5 := Lib.hid own5; have B5 := Lib.hid (((BL.out.drew).alloc (BL.out.size) _).grown grow5 (by have := BL.out.size; simp; omega) (by intro q hq; cases hq; exact hgg)); clear own5 grow5)
          go_roundw
          case rel => exact ⟨i + 1, k + 0, g5, cap5, out ++ [x], by omega, by omega, by go_num, by go_num, by simp, hg5, by rw [List.length_append, wds_snoc]; exact Own5.out, B5.out, E.out, by rw [List.length_append, List.length_singleton]; omega⟩
          case measure => simp [intOf]; omega
        · have E := Lib.hid (show (out ++ [x]) ++ mergeL (a.drop (i + 1)) (b.drop (k + 1)) = mergeL a b from by rw [← HE.out, hda, hdb, hxy, mergeL_eq]; simp)
          clear hda hdb
          subst hxy
          go_upto_region 4 with (fail)
          go_region
          go_wp2_with (at_builtin; refine wpList_append_own _ rfl (.tmp 50) (.tmp 52) 72 rfl w.heap.size 93 i0 _ 1 8 Try.underlying72 hi iz0 iz1 iz2 rfl (by decide) _ out.length (wds out) rfl (OW.out.alloc _) ⟨_, 0, none⟩ 1 1 [.int .u64 (x : Nat)] rfl rfl (cell1_new _ _ _) (by intro u hu; simp at hu; subst hu; rfl) (by unfold maxLen; omega) (by omega) (by have := BL.out.size; simp; omega) ?_; intro v2 w5 own5 grow5 _; obtain ⟨g5, cap5, rfl, hg5, hlt5⟩ := own5.form (by omega); have Own5 := Lib.hid own5; have B5 := Lib.hid (((BL.out.drew).alloc (BL.out.size) _).grown grow5 (by have := BL.out.size; simp; omega) (by intro q hq; cases hq; exact hgg)); clear own5 grow5)
          go_roundw
          case rel => exact ⟨i + 1, k + 1, g5, cap5, out ++ [x], by omega, by omega, by go_num, by go_num, by simp, hg5, by rw [List.length_append, wds_snoc]; exact Own5.out, B5.out, E.out, by rw [List.length_append, List.length_singleton]; omega⟩
          case measure => simp [intOf]; omega
        · have E := Lib.hid (show (out ++ [y]) ++ mergeL (a.drop (i + 0)) (b.drop (k + 1)) = mergeL a b from by rw [← HE.out, hda, hdb, mergeL_gt _ _ hxy, ← hda]; simp)
          clear hda hdb
          have n1 : ¬ (x : Int) < (y : Int) := by omega
          have n2 : (y : Int) < (x : Int) := by omega
          have n4 : ¬ (x : Int) = (y : Int) := by omega
          have n5 : ((x : Int) == (y : Int)) = false := by simp; omega
          go_upto_region 4 with (fail)
          go_region
          go_wp2_with (at_builtin; refine wpList_append_own _ rfl (.tmp 50) (.tmp 52) 72 rfl w.heap.size 93 i0 _ 1 8 Try.underlying72 hi iz0 iz1 iz2 rfl (by decide) _ out.length (wds out) rfl (OW.out.alloc _) ⟨_, 0, none⟩ 1 1 [.int .u64 (y : Nat)] rfl rfl (cell1_new _ _ _) (by intro u hu; simp at hu; subst hu; rfl) (by unfold maxLen; omega) (by omega) (by have := BL.out.size; simp; omega) ?_; intro v2 w5 own5 grow5 _; obtain ⟨g5, cap5, rfl, hg5, hlt5⟩ := own5.form (by omega); have Own5 := Lib.hid own5; have B5 := Lib.hid (((BL.out.drew).alloc (BL.out.size) _).grown grow5 (by have := BL.out.size; simp; omega) (by intro q hq; cases hq; exact hgg)); clear own5 grow5)
          go_roundw
          case rel => exact ⟨i + 0, k + 1, g5, cap5, out ++ [y], by omega, by omega, by go_num, by go_num, by simp, hg5, by rw [List.length_append, wds_snoc]; exact Own5.out, B5.out, E.out, by rw [List.length_append, List.length_singleton]; omega⟩
          case measure => simp [intOf]; omega
      · have hk3 : k = b.length := by omega
        subst hk3
        have hk4 : ¬ (b.length : Int) < (b.length : Int) := by omega
        have E := Lib.hid (show out ++ a.drop i = mergeL a b from by rw [← HE.out, List.drop_length, mergeL_nil])
        have NA := Lib.hid (HAr.news i)
        have NAd := Lib.hid ((HAr.below (Below.refl _ _).drew).news i)
        have OWd := Lib.hid (own_keep (w' := wr.drew) OW.out rfl)
        have hi4 : ¬ i = ca := by omega
        clear HAr HBr hda cx hx
        go_wp2_with (first | (at_builtin; refine wpList_append_own _ rfl (.tmp 54) (.tmp 57) 72 rfl w.heap.size 93 i0 _ 1 8 Try.underlying72 hi iz0 iz1 iz2 rfl (by decide) _ out.length (wds out) rfl (by first | exact OW.out | exact OWd.out) ⟨ga, i, none⟩ (a.length - i) _ (wds (a.drop i)) rfl (by simp) (by first | exact NA.out | exact NAd.out) (wds_one _) (by unfold maxLen; omega) (by omega) (by first | exact BL.out.size | exact BL.out.drew.size) ?_; intro v2 w5 own5 grow5 hiff5; obtain ⟨g5, cap5, rfl, hg5⟩ := own_formN own5 hiff5 (fun hh => by cases hh); have hc5 := own_capW own5; have Own5 := Lib.hid own5; have B5 := Lib.hid (show Below w.heap.size w w5 from by first | exact BL.out.grown grow5 BL.out.size (by intro q hq; cases hq; exact hgg) | exact BL.out.drew.grown grow5 BL.out.drew.size (by intro q hq; cases hq; exact hgg)); clear own5 grow5 hiff5))
        all_goals go_ret
        all_goals have el : (mergeL a b).length = out.length + (a.length - i) := by rw [← E.out] <;> simp
        all_goals exact ⟨g5, cap5, by rw [el] <;> rfl, hg5, by first | exact B5.out | exact B5.out.drew, by rw [el, ← E.out]; (try rw [wds_cat]); first | exact Own5.out | exact own_keep Own5.out rfl⟩
    · have hi3 : i = a.length := by omega
      subst hi3
      have hi4 : ¬ (a.length : Int) < (a.length : Int) := by omega
      have hc0 := own_capW OW.out
      by_cases hk2 : k < b.length
      · have E := Lib.hid (show out ++ b.drop k = mergeL a b from by rw [← HE.out, List.drop_length, nil_mergeL])
        have NB := Lib.hid (HBr.news k)
        have NBd := Lib.hid ((HBr.below (Below.refl _ _).drew).news k)
        have OWd := Lib.hid (own_keep (w' := wr.drew) OW.out rfl)
        clear HAr HBr
        go_wp2_with (first | (at_builtin; refine wpList_append_own _ rfl (.tmp 59) (.tmp 62) 72 rfl w.heap.size 93 i0 _ 1 8 Try.underlying72 hi iz0 iz1 iz2 rfl (by decide) _ out.length (wds out) rfl (by first | exact OW.out | exact OWd.out) ⟨gb, k, none⟩ (b.length - k) _ (wds (b.drop k)) rfl (by simp) (by first | exact NB.out | exact NBd.out) (wds_one _) (by unfold maxLen; omega) (by omega) (by first | exact BL.out.size | exact BL.out.drew.size) ?_; intro v2 w5 own5 grow5 hiff5; obtain ⟨g5, cap5, rfl, hg5⟩ := own_formN own5 hiff5 (fun hh => by cases hh); have hc5 := own_capW own5; have Own5 := Lib.hid own5; have B5 := Lib.hid (show Below w.heap.size w w5 from by first | exact BL.out.grown grow5 BL.out.size (by intro q hq; cases hq; exact hgg) | exact BL.out.drew.grown grow5 BL.out.drew.size (by intro q hq; cases hq; exact hgg)); clear own5 grow5 hiff5))
        all_goals go_ret
        all_goals have el : (mergeL a b).length = out.length + (b.length - k) := by rw [← E.out] <;> simp
        all_goals exact ⟨g5, cap5, by rw [el] <;> rfl, hg5, by first | exact B5.out | exact B5.out.drew, by rw [el, ← E.out]; (try rw [wds_cat]); first | exact Own5.out | exact own_keep Own5.out rfl⟩
      · have hk3 : k = b.length := by omega
        subst hk3
        have E := Lib.hid (show out = mergeL a b from by rw [← HE.out, List.drop_length, List.drop_length, nil_mergeL, List.append_nil])
        clear HAr HBr
        go_wp2
        all_goals go_ret
        all_goals have el : (mergeL a b).length = out.length := by rw [← E.out] <;> simp
        all_goals exact ⟨g, cap, by rw [el] <;> rfl, hgg, by first | exact BL.out | exact BL.out.drew, by rw [el, ← E.out]; (try rw [wds_cat]); first | exact OW.out | exact own_keep OW.out rfl⟩
end Go.Proofs.Ytiljakbjbiinkaa
namespace Go.Proofs.Ytiljakbjbiinkaa
set_option maxHeartbeats 1000000
set_option linter.unusedVariables false

def Asc (l : List Nat) : Prop := l.Pairwise (· < ·)
theorem mergeL_mem (z : Nat) : ∀ (a b : List Nat), z ∈ mergeL a b ↔ z ∈ a ∨ z ∈ b
  | [], b => by rw [nil_mergeL]; simp
  | x :: a, [] => by rw [mergeL_nil]; simp
  | x :: a, y :: b => by
    rcases Nat.lt_trichotomy x y with h | h | h
    · rw [mergeL_lt _ _ h, List.mem_cons, mergeL_mem z a (y :: b), List.mem_cons, List.mem_cons, or_assoc]
    · subst h
      rw [mergeL_eq, List.mem_cons, mergeL_mem z a b, List.mem_cons, List.mem_cons]
      constructor
      · rintro (h | h | h)
        · exact Or.inl (Or.inl h)
        · exact Or.inl (Or.inr h)
        · exact Or.inr (Or.inr h)
      · rintro ((h | h) | (h | h))
        · exact Or.inl h
        · exact Or.inr (Or.inl h)
        · exact Or.inl h
        · exact Or.inr (Or.inr h)
    · rw [mergeL_gt _ _ h, List.mem_cons, mergeL_mem z (x :: a) b, List.mem_cons, List.mem_cons]
      constructor
      · rintro (h | h | h)
        · exact Or.inr (Or.inl h)
        · exact Or.inl h
        · exact Or.inr (Or.inr h)
      · rintro (h | (h | h))
        · exact Or.inr (Or.inl h)
        · exact Or.inl h
        · exact Or.inr (Or.inr h)
termination_by a b => a.length + b.length
theorem mergeL_asc : ∀ (a b : List Nat), Asc a → Asc b → Asc (mergeL a b)
  | [], b => fun _ hb => by rw [nil_mergeL]; exact hb
  | x :: a, [] => fun ha _ => by rw [mergeL_nil]; exact ha
  | x :: a, y :: b => fun ha hb => by
    have ha1 := (List.pairwise_cons.1 ha).1
    have ha2 : Asc a := (List.pairwise_cons.1 ha).2
    have hb1 := (List.pairwise_cons.1 hb).1
    have hb2 : Asc b := (List.pairwise_cons.1 hb).2
    rcases Nat.lt_trichotomy x y with h | h | h
    · rw [mergeL_lt _ _ h]
      refine List.pairwise_cons.2 ⟨fun z hz => ?_, mergeL_asc a (y :: b) ha2 hb⟩
      rcases (mergeL_mem z a (y :: b)).1 hz with hz | hz
      · exact ha1 z hz
      · rcases List.mem_cons.1 hz with rfl | hz
        · exact h
        · have := hb1 z hz; omega
    · subst h
      rw [mergeL_eq]
      refine List.pairwise_cons.2 ⟨fun z hz => ?_, mergeL_asc a b ha2 hb2⟩
      rcases (mergeL_mem z a b).1 hz with hz | hz
      · exact ha1 z hz
      · exact hb1 z hz
    · rw [mergeL_gt _ _ h]
      refine List.pairwise_cons.2 ⟨fun z hz => ?_, mergeL_asc (x :: a) b ha hb2⟩
      rcases (mergeL_mem z (x :: a) b).1 hz with hz | hz
      · rcases List.mem_cons.1 hz with rfl | hz
        · exact h
        · have := ha1 z hz; omega
      · exact hb1 z hz
termination_by a b => a.length + b.length
/-- Two ascending lists with the same members are one. -/
theorem asc_ext : ∀ (a b : List Nat), Asc a → Asc b → (∀ z, z ∈ a ↔ z ∈ b) → a = b
  | [], [], _, _, _ => rfl
  | [], y :: b, _, _, h => by have := (h y).2 (List.mem_cons_self ..); cases this
  | x :: a, [], _, _, h => by have := (h x).1 (List.mem_cons_self ..); cases this
  | x :: a, y :: b, ha, hb, h => by
    have ha1 := (List.pairwise_cons.1 ha).1
    have ha2 : Asc a := (List.pairwise_cons.1 ha).2
    have hb1 := (List.pairwise_cons.1 hb).1
    have hb2 : Asc b := (List.pairwise_cons.1 hb).2
    have hx := List.mem_cons.1 ((h x).1 (List.mem_cons_self ..))
    have hy := List.mem_cons.1 ((h y).2 (List.mem_cons_self ..))
    have e : x = y := by
      rcases hx with hx | hx
      · exact hx
      · rcases hy with hy | hy
        · exact hy.symm
        · have := ha1 y hy; have := hb1 x hx; omega
    subst e
    congr 1
    refine asc_ext a b ha2 hb2 fun z => ⟨fun hz => ?_, fun hz => ?_⟩
    · rcases List.mem_cons.1 ((h z).1 (List.mem_cons_of_mem _ hz)) with e | e
      · have := ha1 z hz; omega
      · exact e
    · rcases List.mem_cons.1 ((h z).2 (List.mem_cons_of_mem _ hz)) with e | e
      · have := hb1 z hz; omega
      · exact e
end Go.Proofs.Ytiljakbjbiinkaa
namespace Go.Proofs.Ytiljakbjbiinkaa
set_option maxHeartbeats 2000000
set_option maxRecDepth 100000
set_option linter.unusedVariables false

/-- A word to which a program comes. -/
inductive Rch (L : Pg) : (Nat → Nat) → Prop
  | beg : Rch L (keptF L zeroF L.length)
  | step {f : Nat → Nat} {t : Nat} (h : Rch L f) (ht : t < L.length) (hc : goB L f (t : Int) = true) : Rch L (stepF L f t)
theorem goB_c {L : Pg} {f : Nat → Nat} {t : Nat} (ht : t < L.length) (h : goB L f (t : Int) = true) : canF L f t = true := by
  unfold goB at h
  rw [Bool.and_eq_true] at h
  simpa using h.2
theorem Rch.inv {L : Pg} (hL : progB L = true) {f : Nat → Nat} (h : Rch L f) : Inv L f := by
  induction h with
  | beg => exact inv_beg hL
  | step h ht hc ih => exact inv_step hL ih ht (goB_c ht hc)
/-- Words are told apart by their numbers. -/
theorem inv_inj {L : Pg} {f g : Nat → Nat} (I : Inv L f) (J : Inv L g) (e : enc WS f = enc WS g) : f = g := by
  funext p
  by_cases hp : p < WS.length
  · exact enc_inj I.good.ok J.good.ok e p hp
  · have h22 : 22 ≤ p := by have : WS.length = 22 := rfl; omega
    rw [I.off p (Or.inr (Or.inr (Or.inr h22))), J.off p (Or.inr (Or.inr (Or.inr h22)))]
/-- The words behind a statement more of one word: by threads below k. -/
def stepsL (L : Pg) (f : Nat → Nat) (k : Nat) : List Nat := (List.range k).flatMap fun (t : Nat) => if goB L f (t : Int) then [enc WS (stepF L f t)] else []
theorem stepsL_next (L : Pg) (f : Nat → Nat) (k : Nat) : stepsL L f (k + 1) = stepsL L f k ++ if goB L f (k : Int) then [enc WS (stepF L f k)] else [] := by
  unfold stepsL
  rw [List.range_succ, List.flatMap_append]
  simp
theorem stepsL_len (L : Pg) (f : Nat → Nat) : ∀ k, (stepsL L f k).length ≤ k
  | 0 => by simp [stepsL]
  | k + 1 => by
    have := stepsL_len L f k
    rw [stepsL_next, List.length_append]
    split
    · simp; omega
    · simp; omega
theorem stepsL_mem {L : Pg} {f : Nat → Nat} {z : Nat} : z ∈ stepsL L f L.length ↔ ∃ t, t < L.length ∧ goB L f (t : Int) = true ∧ z = enc WS (stepF L f t) := by
  unfold stepsL
  rw [List.mem_flatMap]
  constructor
  · rintro ⟨t, ht, hz⟩
    have ht := List.mem_range.1 ht
    by_cases hg : goB L f (t : Int) = true
    · rw [if_pos hg, List.mem_singleton] at hz
      exact ⟨t, ht, hg, hz⟩
    · rw [if_neg hg] at hz; exact absurd hz (List.not_mem_nil)
  · rintro ⟨t, ht, hg, hz⟩
    exact ⟨t, List.mem_range.2 ht, by rw [if_pos hg]; exact List.mem_singleton.2 hz⟩
/-- Of many words. -/
def allSteps (L : Pg) (fs : List (Nat → Nat)) : List Nat := fs.flatMap fun f => stepsL L f L.length
theorem allSteps_snoc (L : Pg) (fs : List (Nat → Nat)) (f : Nat → Nat) : allSteps L (fs ++ [f]) = allSteps L fs ++ stepsL L f L.length := by
  unfold allSteps; rw [List.flatMap_append]; simp
theorem allSteps_len {L : Pg} (h3 : L.length ≤ 3) : ∀ (fs : List (Nat → Nat)), (allSteps L fs).length ≤ 3 * fs.length
  | [] => by simp [allSteps]
  | f :: fs => by
    have h1 := allSteps_len h3 fs
    have h2 := stepsL_len L f L.length
    unfold allSteps at h1 ⊢
    rw [List.flatMap_cons, List.length_append, List.length_cons]
    omega
theorem allSteps_mem {L : Pg} {fs : List (Nat → Nat)} {z : Nat} : z ∈ allSteps L fs ↔ ∃ f ∈ fs, ∃ t, t < L.length ∧ goB L f (t : Int) = true ∧ z = enc WS (stepF L f t) := by
  unfold allSteps
  rw [List.mem_flatMap]
  constructor
  · rintro ⟨f, hf, hz⟩; exact ⟨f, hf, stepsL_mem.1 hz⟩
  · rintro ⟨f, hf, hz⟩; exact ⟨f, hf, stepsL_mem.2 hz⟩
theorem enc_u64 {f : Nat → Nat} (h : okF WS f) : enc WS f < 18446744073709551616 := by
  have := enc_lt h
  have e : WS.sum = 46 := by decide
  rw [e] at this
  omega
theorem allSteps_lt {L : Pg} (hL : progB L = true) {fs : List (Nat → Nat)} (h : ∀ f ∈ fs, Inv L f) : ∀ z ∈ allSteps L fs, z < 18446744073709551616 := fun z hz => by
  obtain ⟨f, hf, t, ht, hg, e⟩ := allSteps_mem.1 hz
  have := enc_u64 (inv_step hL (h f hf) ht (goB_c ht hg)).good.ok
  rw [e]; exact this
/-- Words as the words of functions. -/
theorem choose_fs {P : (Nat → Nat) → Prop} : ∀ (l : List Nat), (∀ z ∈ l, ∃ f, P f ∧ z = enc WS f) → ∃ fs : List (Nat → Nat), fs.map (enc WS) = l ∧ ∀ f ∈ fs, P f
  | [], _ => ⟨[], rfl, fun f hf => by cases hf⟩
  | z :: l, h => by
    obtain ⟨f, hf, e⟩ := h z (List.mem_cons_self ..)
    obtain ⟨fs, e2, h2⟩ := choose_fs l fun y hy => h y (List.mem_cons_of_mem _ hy)
    refine ⟨f :: fs, by rw [List.map_cons, e2, e], fun g hg => ?_⟩
    rcases List.mem_cons.1 hg with rfl | hg
    · exact hf
    · exact h2 g hg
/-- Those of the first words that the second ones have not. -/
def unmetL (a b : List Nat) : List Nat := a.filter fun z => !b.contains z
theorem unmetL_mem {a b : List Nat} {z : Nat} : z ∈ unmetL a b ↔ z ∈ a ∧ z ∉ b := by
  unfold unmetL
  rw [List.mem_filter]
  simp
theorem unmetL_asc {a b : List Nat} (h : Asc a) : Asc (unmetL a b) := List.Pairwise.filter _ h
theorem unmetL_len (a b : List Nat) : (unmetL a b).length ≤ a.length := List.length_filter_le ..
theorem mergeL_disj : ∀ (a b : List Nat), (∀ z ∈ b, z ∉ a) → (mergeL a b).length = a.length + b.length
  | [], b => fun _ => by rw [nil_mergeL]; simp
  | x :: a, [] => fun _ => by rw [mergeL_nil]; simp
  | x :: a, y :: b => fun h => by
    rcases Nat.lt_trichotomy x y with hxy | hxy | hxy
    · rw [mergeL_lt _ _ hxy, List.length_cons, mergeL_disj a (y :: b) fun z hz hm => h z hz (List.mem_cons_of_mem _ hm)]
      simp; omega
    · subst hxy
      exact absurd (List.mem_cons_self ..) (h x (List.mem_cons_self ..))
    · rw [mergeL_gt _ _ hxy, List.length_cons, mergeL_disj (x :: a) b fun z hz hm => h z (List.mem_cons_of_mem _ hz) hm]
      simp; omega
termination_by a b => a.length + b.length
/-- The words met so far, and the front of those that are new, j statements from the beginning. -/
structure Lvl (L : Pg) (j : Nat) (ms : List Nat) (fs : List (Nat → Nat)) : Prop where
  j9 : j ≤ 10
  masc : Asc ms
  fasc : Asc (fs.map (enc WS))
  mr : ∀ z ∈ ms, ∃ f, Rch L f ∧ z = enc WS f
  fr : ∀ f ∈ fs, Rch L f ∧ slack L f + j ≤ 9
  dis : ∀ z ∈ fs.map (enc WS), z ∉ ms
  ml : ms.length ≤ 3 ^ j
  fl : fs.length ≤ 3 ^ j
  beg : enc WS (keptF L zeroF L.length) ∈ ms ∨ enc WS (keptF L zeroF L.length) ∈ fs.map (enc WS)
  clo : ∀ f, Rch L f → enc WS f ∈ ms → ∀ t, t < L.length → goB L f (t : Int) = true → enc WS (stepF L f t) ∈ ms ∨ enc WS (stepF L f t) ∈ fs.map (enc WS)
theorem lvl_beg {L : Pg} (hL : progB L = true) : Lvl L 0 [] [keptF L zeroF L.length] :=
  ⟨by omega, List.Pairwise.nil, by simp [Asc], fun z hz => (by cases hz), fun f hf => by rw [List.mem_singleton] at hf; subst hf; exact ⟨.beg, slack_beg hL⟩, fun z _ hz => (by cases hz), by simp, by simp, Or.inr (by simp), fun f _ hf => (by cases hf)⟩
theorem lvl_next {L : Pg} (hL : progB L = true) {j : Nat} {ms l : List Nat} {fs : List (Nat → Nat)} (h : Lvl L j ms fs) (hne : 0 < fs.length) (la : Asc l) (lm : ∀ z, z ∈ l ↔ z ∈ allSteps L fs) (ll : l.length ≤ (allSteps L fs).length) :
    ∃ fs', fs'.map (enc WS) = unmetL l (mergeL ms (fs.map (enc WS))) ∧ Lvl L (j + 1) (mergeL ms (fs.map (enc WS))) fs' ∧ (mergeL ms (fs.map (enc WS))).length = ms.length + fs.length := by
  have h3 := prog_len hL
  have hj : j ≤ 9 := by
    match fs, hne with
    | f :: _, _ => have := (h.fr f (List.mem_cons_self ..)).2; omega
  have hml := mergeL_disj ms (fs.map (enc WS)) h.dis
  rw [List.length_map] at hml
  obtain ⟨fs', e, hfs⟩ := choose_fs (P := fun f => Rch L f ∧ slack L f + (j + 1) ≤ 9) (unmetL l (mergeL ms (fs.map (enc WS)))) fun z hz => by
    obtain ⟨hz, -⟩ := unmetL_mem.1 hz
    obtain ⟨f, hf, t, ht, hg, e⟩ := allSteps_mem.1 ((lm z).1 hz)
    obtain ⟨hr, hs⟩ := h.fr f hf
    have := slack_step hL (hr.inv hL) ht (goB_c ht hg)
    exact ⟨stepF L f t, ⟨.step hr ht hg, by omega⟩, e⟩
  have hp : 3 ^ (j + 1) = 3 * 3 ^ j := by rw [Nat.pow_succ]; omega
  refine ⟨fs', e, ⟨by omega, mergeL_asc _ _ h.masc h.fasc, by rw [e]; exact unmetL_asc la, fun z hz => ?_, hfs, fun z hz hm => ?_, ?_, ?_, Or.inl ?_, fun f hr hf t ht hg => ?_⟩, hml⟩
  · rcases (mergeL_mem z _ _).1 hz with hz | hz
    · exact h.mr z hz
    · obtain ⟨f, hf, rfl⟩ := List.mem_map.1 hz
      exact ⟨f, (h.fr f hf).1, rfl⟩
  · rw [e] at hz
    exact (unmetL_mem.1 hz).2 hm
  · have := h.ml; have := h.fl; omega
  · have h1 : fs'.length = (unmetL l (mergeL ms (fs.map (enc WS)))).length := by rw [← e, List.length_map]
    have h2 := unmetL_len l (mergeL ms (fs.map (enc WS)))
    have h4 := allSteps_len h3.2 fs
    have := h.fl
    omega
  · exact (mergeL_mem _ _ _).2 h.beg
  · by_cases hm : enc WS (stepF L f t) ∈ mergeL ms (fs.map (enc WS))
    · exact Or.inl hm
    · right
      rw [e]
      refine unmetL_mem.2 ⟨(lm _).2 (allSteps_mem.2 ?_), hm⟩
      rcases (mergeL_mem _ _ _).1 hf with hf | hf
      · exact absurd ((mergeL_mem _ _ _).2 (h.clo f hr hf t ht hg)) hm
      · obtain ⟨g, hg2, e2⟩ := List.mem_map.1 hf
        have : g = f := inv_inj ((h.fr g hg2).1.inv hL) (hr.inv hL) e2
        subst this
        exact ⟨g, hg2, t, ht, hg, rfl⟩
/-- All words to which a program comes, ascending. -/
structure Reach (L : Pg) (l : List Nat) : Prop where
  asc : Asc l
  mem : ∀ z, z ∈ l ↔ ∃ f, Rch L f ∧ z = enc WS f
  len : l.length ≤ 59049
theorem lvl_end {L : Pg} {j : Nat} {ms : List Nat} (h : Lvl L j ms []) : Reach L ms := by
  have key : ∀ f, Rch L f → enc WS f ∈ ms := by
    intro f hf
    induction hf with
    | beg =>
      rcases h.beg with hb | hb
      · exact hb
      · cases hb
    | step hf ht hc ih =>
      rcases h.clo _ hf ih _ ht hc with hb | hb
      · exact hb
      · cases hb
  refine ⟨h.masc, fun z => ⟨h.mr z, fun ⟨f, hf, e⟩ => by rw [e]; exact key f hf⟩, ?_⟩
  have h1 := h.ml
  have h2 : 3 ^ j ≤ 3 ^ 10 := Nat.pow_le_pow_right (by omega) h.j9
  have : 3 ^ 10 = 59049 := by decide
  omega
theorem reach_fs {L : Pg} {l : List Nat} (h : Reach L l) : ∃ fs : List (Nat → Nat), fs.map (enc WS) = l ∧ ∀ f ∈ fs, Rch L f := choose_fs l fun z hz => (h.mem z).1 hz
end Go.Proofs.Ytiljakbjbiinkaa
namespace Go.Proofs.Ytiljakbjbiinkaa
open Go.RowKit Pl
set_option maxHeartbeats 4000000
set_option maxRecDepth 100000
set_option linter.unusedVariables false

/-- Words in a block, from an offset on. -/
def WdsO (w : World) (g o : Nat) (xs : List Nat) : Prop := ∃ cs, Bk w g 93 cs ∧ ∀ (j x : Nat), xs[j]? = some x → cs[o + j]? = some (.int .u64 (x : Int))
theorem WdsO.lt {w : World} {g o : Nat} {xs : List Nat} (h : WdsO w g o xs) : g < w.heap.size := by obtain ⟨cs, hb, _⟩ := h; exact hb.lt
theorem WdsO.below {w w' : World} {g o : Nat} {xs : List Nat} (h : WdsO w g o xs) (hb : Below w.heap.size w w') : WdsO w' g o xs := by
  obtain ⟨cs, hbk, hx⟩ := h
  exact ⟨cs, hbk.below hb hbk.lt, hx⟩
def OrdP (w : World) (xs : List Nat) (e : Ending) (w' : World) : Prop := ∃ l, Asc l ∧ (∀ z, z ∈ l ↔ z ∈ xs) ∧ l.length ≤ xs.length ∧ WdsA w l e w'
theorem WdsO.take {w : World} {g o : Nat} {xs : List Nat} (h : WdsO w g o xs) (n : Nat) : WdsO w g o (xs.take n) := by
  obtain ⟨cs, hb, hx⟩ := h
  refine ⟨cs, hb, fun j x hj => hx j x ?_⟩
  rw [List.getElem?_take] at hj
  split at hj
  · exact hj
  · cases hj
theorem WdsO.drop {w : World} {g o : Nat} {xs : List Nat} (h : WdsO w g o xs) (n : Nat) : WdsO w g (o + n) (xs.drop n) := by
  obtain ⟨cs, hb, hx⟩ := h
  refine ⟨cs, hb, fun j x hj => ?_⟩
  rw [List.getElem?_drop] at hj
  rw [Nat.add_assoc]
  exact hx _ x hj
theorem WdsO.news {w : World} {g o : Nat} {xs : List Nat} (h : WdsO w g o xs) : ∀ j u, (wds xs)[j]? = some u → w.cell? ((⟨g, o, none⟩ : Addr).add j) = some u := fun j u hj => by
  obtain ⟨cs, hb, hx⟩ := h
  rw [addr_add']
  simp only [wds, List.getElem?_map, Option.map_eq_some_iff] at hj
  obtain ⟨x, h1, rfl⟩ := hj
  exact (hb.cell (o + j)).trans (hx _ x h1)
theorem wds_of {w : World} {base g cap : Nat} {l : List Nat} (h : w.ownsRow base 93 1 (.slice (some ⟨g, 0, none⟩) l.length cap) l.length (wds l)) : WdsAt w g l := by
  rcases h.2 with ⟨h1, _⟩ | ⟨g', cap', cur, e1, e2, e3, _⟩
  · cases h1
  · injection e1 with e1 _ _
    injection e1 with e1
    injection e1 with e1
    subst e1
    have hb : Bk w g 93 cur := e3
    by_cases hl : 0 < l.length
    · obtain ⟨g'', cs, hA, _, _, hb2, hx⟩ := own_vs h rfl (by rw [wds_length]; exact hl)
      injection hA with hA
      injection hA with hA
      subst hA
      exact ⟨cs, hb2, fun j x hj => hx j _ (wds_at hj)⟩
    · exact ⟨cur, hb, fun j x hj => by have := (List.getElem?_eq_some_iff.1 hj).1; omega⟩
theorem asc_few {xs : List Nat} (h : xs.length ≤ 1) : Asc xs := by
  match xs, h with
  | [], _ => exact List.Pairwise.nil
  | [x], _ => exact List.pairwise_singleton _ _
theorem inorder_few (g o c : Nat) (xs : List Nat) (w : World) (h1 : xs.length ≤ 1) (hW : WdsO w g o xs) :
    Calls Try.prog 104 #[.slice (some ⟨g, o, none⟩) xs.length c] w (OrdP w xs) := by
  obtain ⟨i0, hi, iz0, iz1, iz2⟩ := info_parts Try.info93
  have hq : (xs.length : Int) / 2 = 0 := by omega
  have hn63 : (xs.length : Int) ≤ 1 := by omega
  have NA := Lib.hid hW.news
  have NAd := Lib.hid ((hW.below (Below.refl _ _).drew).news)
  have start : Hid ((w.alloc (.cells #[] 93)).ownsRow w.heap.size 93 1 (.slice (some ⟨w.heap.size, 0, none⟩) 0 0) 0 (wds [])) := Lib.hid (World.ownsRow_made w #[] 0 (Nat.le_refl _) (by decide) (by simp))
  have NB := Lib.hid ((hW.below (show Below w.heap.size w (w.alloc (.cells #[] 93)) from by go_grown)).news)
  go_enter Try.func104, Try.ntmps104
  go_wp2_with (at_builtin; refine wpList_append_own _ rfl (.tmp 9) (.tmp 10) 72 rfl w.heap.size 93 i0 _ 1 8 Try.underlying72 hi iz0 iz1 iz2 rfl (by decide) _ 0 (wds []) rfl start.out ⟨g, o, none⟩ xs.length _ (wds xs) rfl (by simp) NB.out (wds_one _) (by unfold maxLen; omega) (by omega) (by simp) ?_; intro v2 w5 own5 grow5 hiff5; obtain ⟨g5, cap5, rfl, hg5⟩ := own_formN own5 hiff5 (fun hh => by cases hh); have Own5 := Lib.hid own5; have B5 := Lib.hid (show Below w.heap.size w w5 from ((Below.refl _ _).alloc (Nat.le_refl _) _).grown grow5 (by simp) (by intro q hq; cases hq; exact Nat.le_refl _)); clear own5 grow5 hiff5)
  all_goals go_ret
  all_goals exact ⟨xs, asc_few h1, fun z => Iff.rfl, Nat.le_refl _, g5, cap5, rfl, hg5, B5.out, by have := Own5.out; rw [Nat.zero_add] at this; exact this⟩
theorem inorder_step (n : Nat) (ih : ∀ (g o c : Nat) (xs : List Nat) (w : World), xs.length ≤ n → WdsO w g o xs → xs.length ≤ c → xs.length ≤ 1000000 → (∀ x ∈ xs, x < 18446744073709551616) →
    Calls Try.prog 104 #[.slice (some ⟨g, o, none⟩) xs.length c] w (OrdP w xs)) (g o c : Nat) (xs : List Nat) (w : World) (hn : xs.length ≤ n + 1) (hW : WdsO w g o xs) (hc : xs.length ≤ c) (hl : xs.length ≤ 1000000) (hx : ∀ x ∈ xs, x < 18446744073709551616) (h2 : 2 ≤ xs.length) :
    Calls Try.prog 104 #[.slice (some ⟨g, o, none⟩) xs.length c] w (OrdP w xs) := by
  obtain ⟨H, hH⟩ : ∃ H, H = xs.length / 2 := ⟨_, rfl⟩
  have hHi : (xs.length : Int) / 2 = ((H : Nat) : Int) := by omega
  have hb : ¬ ((H : Nat) : Int) = 0 := by omega
  have hHl : H < xs.length := by omega
  have hHs : H ≤ 500000 := by omega
  have hHc : ¬ H = c := by omega
  have H1 := Lib.hid (show ∀ V, Below w.heap.size w V → Calls Try.prog 104 #[.slice (some ⟨g, o, none⟩) H c] V (OrdP V (xs.take H)) from fun V hV => by
    have el : (xs.take H).length = H := by rw [List.length_take]; omega
    have := ih g o c (xs.take H) V (by omega) ((hW.below hV).take H) (by omega) (by omega) (fun x hxx => hx x (List.mem_of_mem_take hxx))
    rwa [el] at this)
  have H2 := Lib.hid (show ∀ V, Below w.heap.size w V → Calls Try.prog 104 #[.slice (some ⟨g, o + H, none⟩) (xs.length - H) (c - H)] V (OrdP V (xs.drop H)) from fun V hV => by
    have el : (xs.drop H).length = xs.length - H := List.length_drop
    have := ih g (o + H) (c - H) (xs.drop H) V (by omega) ((hW.below hV).drop H) (by omega) (by omega) (fun x hxx => hx x (List.mem_of_mem_drop hxx))
    rwa [el] at this)
  have HX := Lib.hid hx
  have lt : (xs.take H).length = H := by rw [List.length_take]; omega
  have ld : (xs.drop H).length = xs.length - H := List.length_drop
  have HLt := Lib.hid lt
  have HLd := Lib.hid ld
  clear hW hx ih hH lt ld
  go_enter Try.func104, Try.ntmps104
  go_upto_region 4 with (fail)
  have hw1 : IntKind.i64.wrap (H : Int) = (H : Int) := wrap64_small (by omega) (by omega)
  have hc1 : (H : Int) ≤ (c : Int) := by omega
  have hc2 : (H : Int) ≤ (xs.length : Int) := by omega
  have hc3 : (xs.length : Int) ≤ (c : Int) := by omega
  have hc4 : (0 : Int) ≤ (H : Int) := by omega
  have tok1 : True := trivial
  go_region_held3 (fun w' => Below w.heap.size w w') (first | assumption | (go_split_ands; go_grown; done) | (go_grown; done)) (first | (go_at_call 104; clear tok1; refine (H1.out _ (show Below w.heap.size w _ from by go_grown)).mono ?_; rintro e v ⟨l1, ha1, hm1, hn1, g1, c1, rfl, hg1, hb1, ho1⟩; have HV := Lib.hid (show Below w.heap.size w v from below_on (by go_grown) hb1); have A1 := Lib.hid (show WdsAt v g1 l1 from wds_of ho1); have hc1 := (own_cap ho1).1; have M1 := Lib.hid hm1; have S1 := Lib.hid ha1; have kn1 : l1.length ≤ H := Nat.le_trans hn1 (Nat.le_of_eq HLt.out); have zv := HV.out.size; have hV0 : Below w.heap.size w v := HV.out; clear ha1 hm1 hb1 ho1) | (go_at_call 104; refine (H2.out _ (show Below w.heap.size w _ from below_on HV.out (by go_grown))).mono ?_; rintro e u ⟨l2, ha2, hm2, hn2, g2, c2, rfl, hg2, hb2, ho2⟩; have HU := Lib.hid (show Below v.heap.size v u from below_on (by go_grown) hb2); have A2 := Lib.hid (show WdsAt u g2 l2 from wds_of ho2); have hc2 := (own_cap ho2).1; have M2 := Lib.hid hm2; have S2 := Lib.hid ha2; have kn2 : l2.length ≤ xs.length - H := Nat.le_trans hn2 (Nat.le_of_eq HLd.out); have zu := HU.out.size; have hU0 : Below w.heap.size w u := below_on HV.out HU.out; clear hV0 ha2 hm2 hb2 ho2) | (go_at_call 107; refine (merged_any g1 c1 g2 c2 l1 l2 _ ((A1.out.below HU.out).below (show Below u.heap.size u _ from by go_grown)) (A2.out.below (show Below u.heap.size u _ from by go_grown)) hc1 hc2 (by omega) (by omega) (fun x hx => HX.out x (List.mem_of_mem_take ((M1.out x).1 hx))) (fun x hx => HX.out x (List.mem_of_mem_drop ((M2.out x).1 hx)))).mono ?_; rintro e y ⟨g3, c3, rfl, hg3, hb3, ho3⟩; have HY := Lib.hid (show Below w.heap.size w y from below_on HV.out (below_on HU.out (below_on (by go_grown) hb3))); have O3 := Lib.hid (Joins.ownsRow_le ho3 (show w.heap.size ≤ _ from Nat.le_trans zv (Nat.le_trans zu (show Below u.heap.size u _ from by go_grown).size))); have hg3 : w.heap.size ≤ g3 := Nat.le_trans (Nat.le_trans zv (Nat.le_trans zu (show Below u.heap.size u _ from by go_grown).size)) hg3; have hY0 : Below w.heap.size w y := HY.out; clear hU0 hb3 ho3))
  all_goals
    try clear hHeld
    go_wp2
    go_ret
    exact ⟨mergeL l1 l2, mergeL_asc _ _ S1.out S2.out, fun z => by rw [mergeL_mem, M1.out, M2.out, ← List.mem_append, List.take_append_drop], by have := mergeL_len l1 l2; omega, g3, c3, rfl, hg3, HY.out, O3.out⟩
theorem inorder_any : ∀ (n : Nat) (g o c : Nat) (xs : List Nat) (w : World), xs.length ≤ n → WdsO w g o xs → xs.length ≤ c → xs.length ≤ 1000000 → (∀ x ∈ xs, x < 18446744073709551616) →
    Calls Try.prog 104 #[.slice (some ⟨g, o, none⟩) xs.length c] w (OrdP w xs)
  | 0, g, o, c, xs, w, hn, hW, hc, hl, hx => inorder_few g o c xs w (by omega) hW
  | n + 1, g, o, c, xs, w, hn, hW, hc, hl, hx => by
    by_cases h2 : 2 ≤ xs.length
    · exact inorder_step n (inorder_any n) g o c xs w hn hW hc hl hx h2
    · exact inorder_few g o c xs w (by omega) hW
theorem WdsAt.o {w : World} {g : Nat} {xs : List Nat} (h : WdsAt w g xs) : WdsO w g 0 xs := by
  obtain ⟨cs, hb, hx⟩ := h
  exact ⟨cs, hb, fun j x hj => by rw [Nat.zero_add]; exact hx j x hj⟩
end Go.Proofs.Ytiljakbjbiinkaa
namespace Go.Proofs.Ytiljakbjbiinkaa
open Go.RowKit Pl
set_option maxHeartbeats 4000000
set_option maxRecDepth 100000
set_option linter.unusedVariables false

theorem own_blk {w : World} {base g n m cap s : Nat} {e : TypeId} {xs : List Value} (h : w.ownsRow base e s (.slice (some ⟨g, 0, none⟩) n cap) m xs) : g < w.heap.size := (owns_block h (q := g) rfl).2.1
theorem stepsfrom_any (h : PgH) (L : Pg) (f : Nat → Nat) (w : World) (B : Nat) (hP : PgR w B h L) (hB : B ≤ w.heap.size) (hL : progB L = true) (I : Inv L f) :
    Calls Try.prog 162 #[PgV h L, .int .u64 (enc WS f : Nat)] w (WdsA w (stepsL L f L.length)) := by
  obtain ⟨h31, h32⟩ := prog_len hL
  obtain ⟨i0, hi, iz0, iz1, iz2⟩ := info_parts Try.info93
  obtain ⟨W, hW⟩ : ∃ W, W = (w.alloc (.cells #[.slice h.A L.length h.c] 30)).alloc (.cells #[] 93) := ⟨_, rfl⟩
  have bW : Below w.heap.size w W := by rw [hW]; go_grown
  have sW : W.heap.size = w.heap.size + 1 + 1 := by rw [hW]; simp
  have k0 : Bk W w.heap.size 30 #[.slice h.A L.length h.c] := by rw [hW]; exact (Bk.new w _ _).alloc _
  have o0 : W.ownsRow (w.heap.size + 1) 93 1 (.slice (some ⟨w.heap.size + 1, 0, none⟩) 0 0) 0 (wds []) := by
    rw [hW]
    have := World.ownsRow_made (w.alloc (.cells #[.slice h.A L.length h.c] 30)) (base := w.heap.size + 1) (size := 1) (e := 93) #[] 0 (by simp) (by decide) (by simp)
    simpa [wds] using this
  obtain ⟨M, hM⟩ : ∃ M, M = w.heap.size + 1 := ⟨_, rfl⟩
  rw [← hM] at o0
  have P0 := Lib.hid (hP.below bW hB)
  have K0 := Lib.hid k0
  have O0 := Lib.hid o0
  have B0 := Lib.hid bW
  have z0 := bW.size
  have HW := Lib.hid hW
  have sWa := Nat.le_of_eq sW
  have sWb := Nat.le_of_eq sW.symm
  have hMa := Nat.le_of_eq hM
  have hMb := Nat.le_of_eq hM.symm
  have cb0 : W.cell? ⟨w.heap.size, 0, none⟩ = some (.slice h.A L.length h.c) := k0.cell 0
  have lb0 := k0.lt
  clear hW bW k0 hP sW o0
  go_enter Try.func162, Try.ntmps162
  go_wp2_with fail
  rw [← HW.out]
  go_wp2
  rw [← hM]
  clear hM cb0
  go_loopw [5, 11] (fun ov iv wr => ∃ k g cap : Nat, k ≤ L.length ∧ iv = .int .i64 k ∧ ov = .slice (some ⟨g, 0, none⟩) (stepsL L f k).length cap ∧ M ≤ g ∧ wr.ownsRow M 93 1 (.slice (some ⟨g, 0, none⟩) (stepsL L f k).length cap) (stepsL L f k).length (wds (stepsL L f k)) ∧ Below M W wr) (fun _ iv _ => L.length - (intOf iv).toNat)
  case atStart => exact ⟨0, M, 0, Nat.zero_le _, rfl, rfl, Nat.le_refl _, O0.out, Below.refl _ _⟩
  case round =>
    obtain ⟨k, g, cap, hk, rfl, rfl, hgg, hown, hbel⟩ := hrel
    have hz := hbel.size
    have hlen := stepsL_len L f k
    have hzM : M ≤ wr.heap.size := by omega
    have K0r := Lib.hid (K0.out.below hbel (by omega))
    have Hown := Lib.hid hown
    have Hb := Lib.hid hbel
    clear hown
    by_cases hlt : k < L.length
    · have hi1 : (k : Int) < (L.length : Int) := by omega
      have cb : wr.cell? ⟨w.heap.size, 0, none⟩ = some (.slice h.A L.length h.c) := K0r.out.cell 0
      have lb := K0r.out.lt
      have PR := Lib.hid (P0.out.below hbel (by omega))
      clear hbel
      rcases Bool.eq_false_or_eq_true (goB L f (k : Int)) with hg | hg
      · have HA := Lib.hid ((able_bits I (k : Int)).trans hg)
        have HC := Lib.hid (goB_c hlt hg)
        have EK := Lib.hid (show wds (stepsL L f (k + 1)) = wds (stepsL L f k) ++ [.int .u64 ((enc WS (stepF L f k) : Nat) : Int)] by rw [stepsL_next, if_pos hg, wds_snoc])
        have EL := Lib.hid (show (stepsL L f (k + 1)).length = (stepsL L f k).length + 1 by rw [stepsL_next, if_pos hg]; simp)
        clear hg
        go_wp2_with fail
        refine (able_any h L f (k : Int) wr I.good.ok h31 h32 true HA).mono ?_
        rintro e w3 ⟨rfl, hb3⟩
        have H3 := Lib.hid (Hb.out.trans (hb3.mono hzM))
        have O3 := Lib.hid (own_keep (w' := w3) Hown.out (hb3.block g (own_blk Hown.out)))
        have P3 := Lib.hid (PR.out.below hb3 (by omega))
        have c3 : w3.cell? ⟨w.heap.size, 0, none⟩ = some (.slice h.A L.length h.c) := (hb3.cell (p := ⟨w.heap.size, 0, none⟩) lb).trans cb
        have z3 := hb3.size
        clear hb3 cb
        go_wp2_with fail
        refine (stepped_any h L f k w3 B P3.out (by omega) hL I.good hlt HC.out I.chan).mono ?_
        rintro e w4 ⟨rfl, hb4⟩
        have H4 := Lib.hid (H3.out.trans (hb4.mono (by omega)))
        have O4 := Lib.hid (own_keep (w' := w4) O3.out (hb4.block g (own_blk O3.out)))
        have z4 := hb4.size
        have hz4 : M ≤ w4.heap.size := by omega
        clear hb4 c3
        go_wp2_with (at_builtin; refine wpList_append_own _ rfl (.tmp 18) (.tmp 23) 72 rfl M 93 i0 _ 1 8 Try.underlying72 hi iz0 iz1 iz2 rfl (by decide) _ (stepsL L f k).length (wds (stepsL L f k)) rfl (O4.out.alloc _) ⟨_, 0, none⟩ 1 1 [.int .u64 _] rfl rfl (cell1_new _ _ _) (by intro u hu; simp at hu; subst hu; rfl) (by unfold maxLen; omega) (by omega) (by simp; omega) ?_; intro v' w5 own5 grow5 _; obtain ⟨g5, cap5, rfl, hg5, hlt5⟩ := own5.form (by omega); have Own5 := Lib.hid own5; have B5 := Lib.hid ((H4.out.alloc hz4 _).grown grow5 (by simp; omega) (by intro q hq; cases hq; exact hgg)); clear own5 grow5)
        go_roundw
        case rel => exact ⟨k + 1, g5, cap5, by omega, by go_num, by rw [EL.out], hg5, by rw [EL.out, EK.out]; exact Own5.out, B5.out⟩
        case measure => simp [intOf]; omega
      · have HA := Lib.hid ((able_bits I (k : Int)).trans hg)
        have EK := Lib.hid (show stepsL L f (k + 1) = stepsL L f k by rw [stepsL_next, if_neg (by rw [hg]; simp), List.append_nil])
        clear hg
        go_wp2_with fail
        refine (able_any h L f (k : Int) wr I.good.ok h31 h32 false HA).mono ?_
        rintro e w3 ⟨rfl, hb3⟩
        have H3 := Lib.hid (Hb.out.trans (hb3.mono hzM))
        have O3 := Lib.hid (own_keep (w' := w3) Hown.out (hb3.block g (own_blk Hown.out)))
        clear hb3 cb
        go_wp2
        go_roundw
        case rel => exact ⟨k + 1, g, cap, by omega, by go_num, by rw [EK.out], hgg, by rw [EK.out]; exact O3.out, H3.out⟩
        case measure => simp [intOf]; omega
    · have hkl : k = L.length := by omega
      subst hkl
      have hfb := Lib.hid (B0.out.trans (hbel.mono (by omega)))
      clear hbel
      go_wp2
      go_ret
      exact ⟨g, cap, rfl, by omega, hfb.out, Joins.ownsRow_le Hown.out (by omega)⟩
theorem allSteps_take {L : Pg} {fs : List (Nat → Nat)} {k : Nat} {f : Nat → Nat} (h : fs[k]? = some f) : allSteps L (fs.take (k + 1)) = allSteps L (fs.take k) ++ stepsL L f L.length := by
  rw [List.take_add_one, h]
  exact allSteps_snoc L _ f
theorem stepsall_any (h : PgH) (L : Pg) (fs : List (Nat → Nat)) (gw cw : Nat) (w : World) (B : Nat) (hP : PgR w B h L) (hB : B ≤ w.heap.size) (hL : progB L = true) (hI : Hid (∀ f ∈ fs, Inv L f)) (hW : WdsAt w gw (fs.map (enc WS))) (hcw : fs.length ≤ cw) (hl : fs.length ≤ 100000) :
    Calls Try.prog 109 #[PgV h L, .slice (some ⟨gw, 0, none⟩) fs.length cw] w (OrdP w (allSteps L fs)) := by
  obtain ⟨h31, h32⟩ := prog_len hL
  obtain ⟨i0, hi, iz0, iz1, iz2⟩ := info_parts Try.info93
  obtain ⟨W, hWd⟩ : ∃ W, W = (w.alloc (.cells #[.slice h.A L.length h.c] 30)).alloc (.cells #[] 93) := ⟨_, rfl⟩
  have bW : Below w.heap.size w W := by rw [hWd]; go_grown
  have sW : W.heap.size = w.heap.size + 1 + 1 := by rw [hWd]; simp
  have k0 : Bk W w.heap.size 30 #[.slice h.A L.length h.c] := by rw [hWd]; exact (Bk.new w _ _).alloc _
  have o0 : W.ownsRow (w.heap.size + 1) 93 1 (.slice (some ⟨w.heap.size + 1, 0, none⟩) 0 0) 0 (wds []) := by
    rw [hWd]
    have := World.ownsRow_made (w.alloc (.cells #[.slice h.A L.length h.c] 30)) (base := w.heap.size + 1) (size := 1) (e := 93) #[] 0 (by simp) (by decide) (by simp)
    simpa [wds] using this
  have hgw := hW.lt
  obtain ⟨M, hM⟩ : ∃ M, M = w.heap.size + 1 := ⟨_, rfl⟩
  rw [← hM] at o0
  have P0 := Lib.hid (hP.below bW hB)
  have X0 := Lib.hid (hW.below bW)
  have K0 := Lib.hid k0
  have O0 := Lib.hid o0
  have B0 := Lib.hid bW
  have z0 := bW.size
  have HW := Lib.hid hWd
  have sWa := Nat.le_of_eq sW
  have sWb := Nat.le_of_eq sW.symm
  have hMa := Nat.le_of_eq hM
  have hMb := Nat.le_of_eq hM.symm
  clear hWd bW k0 hP sW o0 hW
  go_enter Try.func109, Try.ntmps109
  go_wp2_with fail
  rw [← HW.out]
  go_wp2
  rw [← hM]
  clear hM
  go_loopw [5, 11] (fun ov iv wr => ∃ k g cap : Nat, k ≤ fs.length ∧ iv = .int .i64 k ∧ ov = .slice (some ⟨g, 0, none⟩) (allSteps L (fs.take k)).length cap ∧ M ≤ g ∧ wr.ownsRow M 93 1 (.slice (some ⟨g, 0, none⟩) (allSteps L (fs.take k)).length cap) (allSteps L (fs.take k)).length (wds (allSteps L (fs.take k))) ∧ Below M W wr) (fun _ iv _ => fs.length - (intOf iv).toNat)
  case atStart => exact ⟨0, M, 0, Nat.zero_le _, rfl, rfl, Nat.le_refl _, O0.out, Below.refl _ _⟩
  case round =>
    obtain ⟨k, g, cap, hk, rfl, rfl, hgg, hown, hbel⟩ := hrel
    have hz := hbel.size
    have hlen := allSteps_len h32 (fs.take k)
    rw [List.length_take] at hlen
    have hzM : M ≤ wr.heap.size := by omega
    have K0r := Lib.hid (K0.out.below hbel (by omega))
    have Hown := Lib.hid hown
    have Hb := Lib.hid hbel
    have cb : wr.cell? ⟨w.heap.size, 0, none⟩ = some (.slice h.A L.length h.c) := K0r.out.cell 0
    have lb := K0r.out.lt
    clear hown
    by_cases hlt : k < fs.length
    · have hi1 : (k : Int) < (fs.length : Int) := by omega
      have PR := Lib.hid (P0.out.below hbel (by omega))
      have XR : WdsAt wr gw (fs.map (enc WS)) := by
        obtain ⟨cs, hb, hx⟩ := X0.out
        exact ⟨cs, hb.below hbel (by omega), hx⟩
      obtain ⟨x, hx, -, cx0⟩ := XR.at_ (k := k) (by rw [List.length_map]; exact hlt)
      obtain ⟨f, hf, hxe⟩ : ∃ f, fs[k]? = some f ∧ x = enc WS f := by
        rw [List.getElem?_map, Option.map_eq_some_iff] at hx
        obtain ⟨f, h1, h2⟩ := hx
        exact ⟨f, h1, h2.symm⟩
      have cy := congrArg (fun (n : Nat) => some (Value.int .u64 (n : Int))) hxe
      have cx := cx0.trans cy
      clear cy hxe cx0 hx
      have HI := Lib.hid (hI.out f (List.mem_of_getElem? hf))
      have EK := Lib.hid (allSteps_take (L := L) hf)
      have hsl := stepsL_len L f L.length
      have hgl : gw < wr.heap.size := by omega
      have hct := stepsfrom_any h L f wr B PR.out (by omega) hL HI.out
      generalize stepsL L f L.length = S at hct hsl EK
      generalize allSteps L (fs.take k) = T at hlen EK Hown ⊢
      have Hct := Lib.hid hct
      clear hbel hf XR hct
      go_wp2_with fail
      refine Hct.out.mono ?_
      rintro e w3 ⟨g3, cap3, rfl, hg3, hb3, ho3⟩
      have H3 := Lib.hid (Hb.out.trans (hb3.mono hzM))
      have O3 := Lib.hid (own_keep (w' := w3) Hown.out (hb3.block g (own_blk Hown.out)))
      have N3 := Lib.hid (show ∀ j u, (wds S)[j]? = some u → w3.cell? ((⟨g3, 0, none⟩ : Addr).add j) = some u from by have := (wds_of ho3).news 0; rwa [List.drop_zero] at this)
      have hc3 := own_capW ho3
      have z3 := hb3.size
      have hz3 : M ≤ w3.heap.size := by omega
      clear hb3 ho3 cb cx
      go_wp2_with (at_builtin; refine wpList_append_own _ rfl (.tmp 15) (.tmp 18) 72 rfl M 93 i0 _ 1 8 Try.underlying72 hi iz0 iz1 iz2 rfl (by decide) _ T.length (wds T) rfl O3.out ⟨g3, 0, none⟩ S.length _ (wds S) rfl (by simp) N3.out (wds_one _) (by unfold maxLen; omega) (by omega) hz3 ?_; intro v5 w5 own5 grow5 hiff5; obtain ⟨g5, cap5, rfl, hg5⟩ := own_formN own5 hiff5 (fun hh => by cases hh); have Own5 := Lib.hid own5; have B5 := Lib.hid (H3.out.grown grow5 hz3 (by intro q hq; cases hq; exact hgg)); clear own5 grow5 hiff5)
      go_roundw
      case rel => exact ⟨k + 1, g5, cap5, by omega, by go_num, by rw [EK.out, List.length_append], hg5, by rw [EK.out, wds_cat, List.length_append]; exact Own5.out, B5.out⟩
      case measure => simp [intOf]; omega
    · have hkl : k = fs.length := by omega
      subst hkl
      have hof := Hown.out
      rw [List.take_length] at hof hlen ⊢
      have HO := Lib.hid hof
      have AL := Lib.hid (allSteps_lt hL hI.out)
      have hcc := own_capW hof
      have hfb := Lib.hid (B0.out.trans (hbel.mono (show w.heap.size ≤ M by omega)))
      clear hof hbel cb
      go_wp2_with fail
      refine (inorder_any _ g 0 cap (allSteps L fs) wr (Nat.le_refl _) (wds_of HO.out).o hcc (by omega) AL.out).mono ?_
      rintro e w7 ⟨l, la, lm, ll, g7, c7, rfl, hg7, hb7, ho7⟩
      have L1 := Lib.hid la
      have L2 := Lib.hid lm
      have B7 := Lib.hid (below_on hfb.out hb7)
      have O7 := Lib.hid ho7
      have hwz := hfb.out.size
      clear la lm hb7 ho7
      go_wp2
      go_ret
      exact ⟨l, L1.out, L2.out, ll, g7, c7, rfl, by omega, B7.out, Joins.ownsRow_le O7.out (by omega)⟩
end Go.Proofs.Ytiljakbjbiinkaa
namespace Go.Proofs.Ytiljakbjbiinkaa
open Go.RowKit Pl
set_option maxHeartbeats 4000000
set_option maxRecDepth 100000
set_option linter.unusedVariables false

theorem asc_at {a : List Nat} (h : Asc a) {i q x z : Nat} (hi : a[i]? = some x) (hq : a[q]? = some z) (hlt : i < q) : x < z := by
  obtain ⟨h1, e1⟩ := List.getElem?_eq_some_iff.1 hi
  obtain ⟨h2, e2⟩ := List.getElem?_eq_some_iff.1 hq
  have := List.pairwise_iff_getElem.1 h i q h1 h2 hlt
  rw [e1, e2] at this
  exact this
theorem not_in_end {b : List Nat} {x k : Nat} (hk : b.length ≤ k) (h : ∀ j y, j < k → b[j]? = some y → y < x) : b.contains x = false := by
  rw [Bool.eq_false_iff]
  intro hc
  have hm := List.contains_iff_mem.1 hc
  obtain ⟨j, hj⟩ := List.mem_iff_getElem?.1 hm
  have := (List.getElem?_eq_some_iff.1 hj).1
  have := h j x (by omega) hj
  omega
theorem not_in_gt {b : List Nat} (hb : Asc b) {x k y : Nat} (hy : b[k]? = some y) (hxy : x < y) (h : ∀ j y, j < k → b[j]? = some y → y < x) : b.contains x = false := by
  rw [Bool.eq_false_iff]
  intro hc
  have hm := List.contains_iff_mem.1 hc
  obtain ⟨j, hj⟩ := List.mem_iff_getElem?.1 hm
  rcases Nat.lt_trichotomy j k with hjk | hjk | hjk
  · have := h j x hjk hj; omega
  · subst hjk; rw [hy] at hj; injection hj with hj; omega
  · have := asc_at hb hy hj hjk; omega
theorem unmetL_take {a b : List Nat} {i x : Nat} (h : a[i]? = some x) : unmetL (a.take (i + 1)) b = unmetL (a.take i) b ++ if b.contains x then [] else [x] := by
  unfold unmetL
  rw [List.take_add_one, h, List.filter_append]
  congr 1
  show List.filter (fun z => !b.contains z) [x] = _
  rw [List.filter_cons, List.filter_nil]
  rcases Bool.eq_false_or_eq_true (b.contains x) with hc | hc <;> rw [hc] <;> rfl
theorem wds_len1 (T : List Nat) (x : Nat) : (T ++ [x]).length = T.length + 1 := by simp
theorem unmet_any (ga ca gb cb : Nat) (a b : List Nat) (w : World) (hA : WdsAt w ga a) (hB : WdsAt w gb b) (hca : a.length ≤ ca) (hcb : b.length ≤ cb) (hla : a.length ≤ 1000000) (hlb : b.length ≤ 1000000) (haa : Asc a) (hab : Asc b) :
    Calls Try.prog 108 #[.slice (some ⟨ga, 0, none⟩) a.length ca, .slice (some ⟨gb, 0, none⟩) b.length cb] w (WdsA w (unmetL a b)) := by
  obtain ⟨i0, hi, iz0, iz1, iz2⟩ := info_parts Try.info93
  have hag := hA.lt
  have hbg := hB.lt
  have HA := Lib.hid hA
  have HB := Lib.hid hB
  have AA := Lib.hid haa
  have AB := Lib.hid hab
  clear hA hB haa hab
  have start : Hid ((w.alloc (.cells #[] 93)).ownsRow w.heap.size 93 1 (.slice (some ⟨w.heap.size, 0, none⟩) 0 0) 0 (wds [])) := Lib.hid (World.ownsRow_made w #[] 0 (Nat.le_refl _) (by decide) (by simp))
  go_enter Try.func108, Try.ntmps108
  go_wp2
  go_loopw [5, 6, 12] (fun lv kv iv wr => ∃ (i k g cap : Nat), i ≤ a.length ∧ k ≤ b.length ∧ iv = .int .i64 i ∧ kv = .int .i64 k ∧ lv = .slice (some ⟨g, 0, none⟩) (unmetL (a.take i) b).length cap ∧ w.heap.size ≤ g ∧ wr.ownsRow w.heap.size 93 1 (.slice (some ⟨g, 0, none⟩) (unmetL (a.take i) b).length cap) (unmetL (a.take i) b).length (wds (unmetL (a.take i) b)) ∧ Below w.heap.size w wr ∧ Hid (∀ j y, j < k → b[j]? = some y → ∀ q x, i ≤ q → a[q]? = some x → y < x)) (fun _ _ iv _ => a.length - (intOf iv).toNat)
  case atStart => exact ⟨0, 0, w.heap.size, 0, Nat.zero_le _, Nat.zero_le _, rfl, rfl, rfl, Nat.le_refl _, start.out, (Below.refl _ _).alloc (Nat.le_refl _) _, Lib.hid fun j y hj => absurd hj (by omega)⟩
  case round =>
    obtain ⟨i, k, g, cap, hia, hkb, rfl, rfl, rfl, hgg, hown, hbel, hpre⟩ := hrel
    clear start
    have hzM := hbel.size
    have hul := unmetL_len (a.take i) b
    rw [List.length_take] at hul
    have OW := Lib.hid hown
    have BL := Lib.hid hbel
    clear hown
    by_cases hi2 : i < a.length
    · have hi3 : (i : Int) < (a.length : Int) := by omega
      obtain ⟨x, hx, -, cx⟩ := (HA.out.below hbel).at_ hi2
      have XR := Lib.hid (HB.out.below hbel)
      have EU := Lib.hid (unmetL_take (b := b) hx)
      have PX := Lib.hid (show ∀ j y, j < k → b[j]? = some y → y < x from fun j y h1 h2 => hpre.out j y h1 h2 i x (Nat.le_refl _) hx)
      have HX := Lib.hid hx
      generalize unmetL (a.take i) b = T at hul OW EU ⊢
      have lga : ga < wr.heap.size := by omega
      have lgb : gb < wr.heap.size := by omega
      clear hx hbel hpre
      go_wp2_with fail
      obtain ⟨wo, rfl⟩ : ∃ wo : World, wo = wr := ⟨_, rfl⟩
      go_loopw [6] (fun kv w2 => ∃ k2 : Nat, k2 ≤ b.length ∧ kv = .int .i64 k2 ∧ w2 = wo ∧ Hid (∀ j y, j < k2 → b[j]? = some y → y < x)) (fun kv _ => b.length - (intOf kv).toNat)
      case atStart => exact ⟨k, hkb, rfl, rfl, PX⟩
      case round =>
        obtain ⟨k2, hk2b, rfl, rfl, hno⟩ := hrel
        clear PX cx
        have PN := Lib.hid (show ∀ j y, j < k2 → b[j]? = some y → ∀ q z, i + 1 ≤ q → a[q]? = some z → y < z from fun j y h1 h2 q z h3 h4 => by
          have := hno.out j y h1 h2
          have := asc_at AA.out HX.out h4 (by omega)
          omega)
        by_cases hkl : k2 < b.length
        · have hk3 : (k2 : Int) < (b.length : Int) := by omega
          have hkn : ((k2 : Int) == (b.length : Int)) = false := by simp; omega
          obtain ⟨y, hy, -, cy⟩ := XR.out.at_ hkl
          rcases Nat.lt_trichotomy y x with hyx | hyx | hyx
          · have hy1 : (y : Int) < (x : Int) := by omega
            have HN := Lib.hid (show ∀ j y, j < k2 + 1 → b[j]? = some y → y < x from fun j z h1 h2 => by
              by_cases e : j = k2
              · subst e; rw [hy] at h2; injection h2 with h2; omega
              · exact hno.out j z (by omega) h2)
            clear hno hy
            go_wp2
            go_roundw
            case rel => exact ⟨k2 + 1, by omega, by go_num, by first | rfl | trivial, HN⟩
            case measure => simp [intOf]; omega
          · subst hyx
            have hy1 : ¬ (y : Int) < (y : Int) := by omega
            have hy2 : ((y : Int) != (y : Int)) = false := by simp
            have hc : b.contains y = true := List.contains_iff_mem.2 (List.mem_iff_getElem?.2 ⟨k2, hy⟩)
            have EK := Lib.hid (show unmetL (a.take (i + 1)) b = T by rw [EU.out, if_pos hc, List.append_nil])
            clear hc hno hy
            go_wp2
            go_roundw
            case rel => exact ⟨i + 1, k2, g, cap, by omega, by omega, by go_num, by go_num, by rw [EK.out], hgg, by rw [EK.out]; exact OW.out, BL.out, PN⟩
            case measure => simp [intOf]; omega
          · have hy1 : ¬ (y : Int) < (x : Int) := by omega
            have hy2 : ((y : Int) != (x : Int)) = true := by simp; omega
            have hy3 : ¬ (y : Int) = (x : Int) := by omega
            have hc := not_in_gt AB.out hy hyx hno.out
            have EK := Lib.hid (show unmetL (a.take (i + 1)) b = T ++ [x] by rw [EU.out, if_neg (by rw [hc]; simp)])
            clear hc hno hy
            go_wp2_with (at_builtin; refine wpList_append_own _ rfl (.tmp 42) (.tmp 44) 72 rfl w.heap.size 93 i0 _ 1 8 Try.underlying72 hi iz0 iz1 iz2 rfl (by decide) _ T.length (wds T) rfl (OW.out.alloc _) ⟨_, 0, none⟩ 1 1 [.int .u64 (x : Nat)] rfl rfl (cell1_new _ _ _) (by intro u hu; simp at hu; subst hu; rfl) (by unfold maxLen; omega) (by omega) (by simp; omega) ?_; intro v2 w5 own5 grow5 _; obtain ⟨g5, cap5, rfl, hg5, hlt5⟩ := own5.form (by omega); have Own5 := Lib.hid own5; have B5 := Lib.hid ((BL.out.alloc hzM _).grown grow5 (by simp; omega) (by intro q hq; cases hq; exact hgg)); clear own5 grow5)
            go_roundw
            case rel => exact ⟨i + 1, k2, g5, cap5, by omega, by omega, by go_num, by go_num, by rw [EK.out, wds_len1], hg5, by rw [EK.out, wds_snoc, wds_len1]; exact Own5.out, B5.out, PN⟩
            case measure => simp [intOf]; omega
        · have hk2e : k2 = b.length := by omega
          have hk3 : ¬ (k2 : Int) < (b.length : Int) := by omega
          have hkn : ((k2 : Int) == (b.length : Int)) = true := by simp; omega
          have hc := not_in_end (Nat.le_of_eq hk2e.symm) hno.out
          have EK := Lib.hid (show unmetL (a.take (i + 1)) b = T ++ [x] by rw [EU.out, if_neg (by rw [hc]; simp)])
          clear hc hno hk2e
          go_wp2_with (at_builtin; refine wpList_append_own _ rfl (.tmp 42) (.tmp 44) 72 rfl w.heap.size 93 i0 _ 1 8 Try.underlying72 hi iz0 iz1 iz2 rfl (by decide) _ T.length (wds T) rfl (OW.out.alloc _) ⟨_, 0, none⟩ 1 1 [.int .u64 (x : Nat)] rfl rfl (cell1_new _ _ _) (by intro u hu; simp at hu; subst hu; rfl) (by unfold maxLen; omega) (by omega) (by simp; omega) ?_; intro v2 w5 own5 grow5 _; obtain ⟨g5, cap5, rfl, hg5, hlt5⟩ := own5.form (by omega); have Own5 := Lib.hid own5; have B5 := Lib.hid ((BL.out.alloc hzM _).grown grow5 (by simp; omega) (by intro q hq; cases hq; exact hgg)); clear own5 grow5)
          go_roundw
          case rel => exact ⟨i + 1, k2, g5, cap5, by omega, by omega, by go_num, by go_num, by rw [EK.out, wds_len1], hg5, by rw [EK.out, wds_snoc, wds_len1]; exact Own5.out, B5.out, PN⟩
          case measure => simp [intOf]; omega
    · have hi3 : i = a.length := by omega
      subst hi3
      rw [List.take_length] at OW ⊢
      clear hbel hpre
      go_wp2
      go_ret
      exact ⟨g, cap, rfl, hgg, BL.out, OW.out⟩
end Go.Proofs.Ytiljakbjbiinkaa
namespace Go.Proofs.Ytiljakbjbiinkaa
open Go.RowKit Pl
set_option maxHeartbeats 4000000
set_option maxRecDepth 100000
set_option linter.unusedVariables false

def sliceLen (v : Value) : Nat := match v with
  | .slice _ n _ => n
  | _ => 0
def RchA (L : Pg) (w : World) (e : Ending) (w' : World) : Prop := ∃ l, Reach L l ∧ WdsA w l e w'
theorem lvl_u64 {L : Pg} (hL : progB L = true) {j : Nat} {ms : List Nat} {fs : List (Nat → Nat)} (h : Lvl L j ms fs) : (∀ x ∈ ms, x < 18446744073709551616) ∧ (∀ x ∈ fs.map (enc WS), x < 18446744073709551616) := by
  refine ⟨fun x hx => ?_, fun x hx => ?_⟩
  · obtain ⟨f, hf, e⟩ := h.mr x hx
    have := enc_u64 (hf.inv hL).good.ok
    rw [e]; exact this
  · obtain ⟨f, hf, e⟩ := List.mem_map.1 hx
    have := enc_u64 ((h.fr f hf).1.inv hL).good.ok
    rw [← e]; exact this
theorem lvl_len {L : Pg} {j : Nat} {ms : List Nat} {fs : List (Nat → Nat)} (h : Lvl L j ms fs) : ms.length ≤ 59049 ∧ fs.length ≤ 59049 := by
  have h1 := h.ml
  have h3 := h.fl
  have h2 : 3 ^ j ≤ 3 ^ 10 := Nat.pow_le_pow_right (by omega) h.j9
  have : 3 ^ 10 = 59049 := by decide
  omega
theorem reached_any (h : PgH) (L : Pg) (w : World) (B : Nat) (hP : PgR w B h L) (hB : B ≤ w.heap.size) (hL : progB L = true) :
    Calls Try.prog 49 #[PgV h L] w (RchA L w) := by
  obtain ⟨h31, h32⟩ := prog_len hL
  obtain ⟨W, hW⟩ : ∃ W, W = (w.alloc (.cells #[.slice h.A L.length h.c] 30)).alloc (.cells #[] 93) := ⟨_, rfl⟩
  have bW : Below w.heap.size w W := by rw [hW]; go_grown
  have sW : W.heap.size = w.heap.size + 1 + 1 := by rw [hW]; simp
  have k0 : Bk W w.heap.size 30 #[.slice h.A L.length h.c] := by rw [hW]; exact (Bk.new w _ _).alloc _
  have o0 : W.ownsRow w.heap.size 93 1 (.slice (some ⟨w.heap.size + 1, 0, none⟩) 0 0) 0 (wds []) := by
    rw [hW]
    have := World.ownsRow_made (w.alloc (.cells #[.slice h.A L.length h.c] 30)) (base := w.heap.size) (size := 1) (e := 93) #[] 0 (by simp) (by decide) (by simp)
    simpa [wds] using this
  have P0 := Lib.hid (hP.below bW hB)
  have K0 := Lib.hid k0
  have O0 := Lib.hid o0
  have B0 := Lib.hid bW
  have z0 := bW.size
  have HW := Lib.hid hW
  have sWa := Nat.le_of_eq sW
  have sWb := Nat.le_of_eq sW.symm
  have cb0 : W.cell? ⟨w.heap.size, 0, none⟩ = some (.slice h.A L.length h.c) := k0.cell 0
  have lb0 := k0.lt
  clear hW bW k0 hP sW o0
  go_enter Try.func49, Try.ntmps49
  go_wp2_with fail
  rw [← HW.out]
  go_wp2_with fail
  refine (begword_any h L W B P0.out (by omega) hL).mono ?_
  rintro e w1 ⟨rfl, hb1⟩
  obtain ⟨V, hV⟩ : ∃ V, V = w1.alloc (.cells #[.int .u64 ((enc WS (keptF L zeroF L.length) : Nat) : Int)] 93) := ⟨_, rfl⟩
  have z1 := hb1.size
  have bV : Below W.heap.size W V := by rw [hV]; exact hb1.alloc z1 _
  have X1 : WdsAt V w1.heap.size ([keptF L zeroF L.length].map (enc WS)) := by
    rw [hV]
    refine ⟨_, Bk.new _ _ _, fun j x hj => ?_⟩
    match j, hj with
    | 0, hj => simp only [List.map_cons, List.getElem?_cons_zero, Option.some.injEq] at hj; rw [← hj]; rfl
  have O1 : V.ownsRow w.heap.size 93 1 (.slice (some ⟨w.heap.size + 1, 0, none⟩) 0 0) 0 (wds []) := own_keep O0.out (bV.block _ (by omega))
  have LV := Lib.hid (lvl_beg hL)
  have BV := Lib.hid bV
  have HX1 := Lib.hid X1
  have HO1 := Lib.hid O1
  have HV := Lib.hid hV
  clear hV bV X1 O1 hb1 cb0
  go_wp2
  rw [← HV.out]
  go_loopw [3, 4] (fun mv fv wr => ∃ (j gm cm gf cf : Nat) (ms : List Nat) (fs : List (Nat → Nat)), mv = .slice (some ⟨gm, 0, none⟩) ms.length cm ∧ fv = .slice (some ⟨gf, 0, none⟩) fs.length cf ∧ wr.ownsRow w.heap.size 93 1 (.slice (some ⟨gm, 0, none⟩) ms.length cm) ms.length (wds ms) ∧ WdsAt wr gf (fs.map (enc WS)) ∧ fs.length ≤ cf ∧ w.heap.size ≤ gm ∧ Below W.heap.size W wr ∧ Hid (Lvl L j ms fs)) (fun mv _ _ => 100000 - sliceLen mv)
  case atStart => exact ⟨0, _, 0, _, _, [], [keptF L zeroF L.length], rfl, rfl, HO1.out, HX1.out, by simp, by omega, BV.out, LV⟩
  case round =>
    obtain ⟨j, gm, cm, gf, cf, ms, fs, rfl, rfl, hown, hfr, hcf, hgm, hbel, hlv⟩ := hrel
    clear LV
    have hz := hbel.size
    obtain ⟨n1, n2⟩ := lvl_len hlv.out
    have OW := Lib.hid hown
    by_cases hne : 0 < fs.length
    · have hne1 : (0 : Int) < (fs.length : Int) := by omega
      have K0r := Lib.hid (K0.out.below hbel (by omega))
      have PR := Lib.hid (P0.out.below hbel (by omega))
      have HB := Lib.hid hbel
      obtain ⟨u1, u2⟩ := lvl_u64 hL hlv.out
      have hm := merged_any gm cm gf cf ms (fs.map (enc WS)) wr (wds_of hown) hfr (own_capW hown) (by rw [List.length_map]; exact hcf) (by omega) (by rw [List.length_map]; omega) u1 u2
      rw [List.length_map] at hm
      have HM := Lib.hid hm
      have HF := Lib.hid hfr
      have HFI := Lib.hid (show ∀ f ∈ fs, Inv L f from fun f hf => (hlv.out.fr f hf).1.inv hL)
      have hml := mergeL_len ms (fs.map (enc WS))
      rw [List.length_map] at hml
      clear hown hfr hbel u1 u2 hm
      go_wp2_with fail
      refine HM.out.mono ?_
      rintro e w3 ⟨g3, c3, rfl, hg3, hb3, ho3⟩
      have H3 := Lib.hid (below_on HB.out hb3)
      have K3 := Lib.hid (K0r.out.below hb3 K0r.out.lt)
      have P3 := Lib.hid (PR.out.below hb3 (by omega))
      have F3 := Lib.hid (HF.out.below hb3)
      have O3 := Lib.hid ho3
      have z3 := hb3.size
      have cb3 : w3.cell? ⟨w.heap.size, 0, none⟩ = some (.slice h.A L.length h.c) := K3.out.cell 0
      have lb3 := K3.out.lt
      clear hb3 ho3
      go_wp2_with fail
      refine (stepsall_any h L fs gf cf w3 B P3.out (by omega) hL HFI F3.out hcf (by omega)).mono ?_
      rintro e w4 ⟨l, la, lm, ll, g4, c4, rfl, hg4, hb4, ho4⟩
      have H4 := Lib.hid (below_on H3.out hb4)
      have O4 := Lib.hid (own_keep (w' := w4) O3.out (hb4.block g3 (own_blk O3.out)))
      have Q4 := Lib.hid ho4
      have z4 := hb4.size
      have hal := allSteps_len h32 fs
      obtain ⟨fs', e5, lv5, hlen5⟩ := lvl_next hL hlv.out hne la lm ll
      have hu := unmet_any g4 c4 g3 c3 l (mergeL ms (fs.map (enc WS))) w4 (wds_of ho4) (wds_of O4.out) (own_capW ho4) (own_capW O4.out) (by omega) (by omega) la (mergeL_asc _ _ hlv.out.masc hlv.out.fasc)
      rw [← e5] at hu
      have HU := Lib.hid hu
      have LV5 := Lib.hid lv5
      have HL3 := Lib.hid hlen5
      clear hb4 ho4 cb3 la lm hu lv5 e5 hlen5
      generalize mergeL ms (fs.map (enc WS)) = ms' at hml O3 O4 LV5 HL3 HU ⊢
      go_wp2_with fail
      refine HU.out.mono ?_
      rintro e w5 ⟨g5, c5, rfl, hg5, hb5, ho5⟩
      have H5 := Lib.hid (below_on H4.out hb5)
      have O5 := Lib.hid (own_keep (w' := w5) O4.out (hb5.block g3 (own_blk O4.out)))
      have X5 := Lib.hid (wds_of ho5)
      have hc5 := own_capW ho5
      have hl5 : (fs'.map (enc WS)).length = fs'.length := List.length_map ..
      have HL5 := Lib.hid hl5
      have hc5' : fs'.length ≤ c5 := by omega
      clear hb5 ho5 hl5
      go_wp2
      go_roundw
      case rel => exact ⟨j + 1, g3, c3, g5, c5, ms', fs', rfl, rfl, Joins.ownsRow_le O5.out (by omega), X5.out, hc5', by omega, H5.out, LV5⟩
      case measure => have := HL3.out; simp only [sliceLen]; omega
    · have hne1 : ¬ (0 : Int) < (fs.length : Int) := by omega
      have hfs : fs = [] := List.eq_nil_of_length_eq_zero (by omega)
      subst hfs
      have HR := Lib.hid (lvl_end hlv.out)
      have hfb := Lib.hid (below_on B0.out hbel)
      clear hown hfr hbel
      go_wp2
      go_ret
      exact ⟨ms, HR.out, gm, cm, rfl, hgm, hfb.out, OW.out⟩
end Go.Proofs.Ytiljakbjbiinkaa
