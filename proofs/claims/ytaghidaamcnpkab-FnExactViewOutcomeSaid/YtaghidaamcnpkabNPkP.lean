/-
  Plain facts on packed states of a machine with views: what ViewOk says of notes and views in parts, that packed words are words of the form, and that a stamp gives its index back.
-/
import Derived.Test.YtaghidaamcnpkabNPk3
import Derived.Test.YtaghidaamcnpkabNOk
namespace Go.Proofs.Ytaghidaamcnpkab
open Go.RowKit Pl
set_option maxHeartbeats 1000000
set_option linter.unusedVariables false

theorem vinB_at : ∀ {N : Nss} {x : List Int}, vinB N x = true → ∀ {p : Nat} {n : Nts} {i : Int}, N[p]? = some n → x[p]? = some i → 0 ≤ i ∧ i ≤ (n.length : Int) - 1 := by
  intro N
  induction N with
  | nil => intro x _ p n i h; simp at h
  | cons m N ih =>
    intro x hx p n i hn hi
    cases x with
    | nil => simp at hi
    | cons y x =>
      simp only [vinB, Bool.and_eq_true] at hx
      cases p with
      | zero =>
        simp at hn hi
        subst hn hi
        have := hx.1
        simp [inB] at this
        omega
      | succ p => exact ih hx.2 (by simpa using hn) (by simpa using hi)
theorem ntsB_at {N : Nss} {p : Nat} : ∀ {r : Nts} {i : Nat}, ntsB N p i r = true → ∀ {j : Nat} {x : Nt}, r[j]? = some x → ntB N p (i + j) x = true := by
  intro r
  induction r with
  | nil => intro i _ j x h; simp at h
  | cons y r ih =>
    intro i h j x hx
    simp only [ntsB, Bool.and_eq_true] at h
    cases j with
    | zero => simp at hx; subst hx; exact h.1
    | succ j =>
      have := ih h.2 (j := j) (by simpa using hx)
      rwa [show i + 1 + j = i + (j + 1) by omega] at this
theorem placesB_at {N : Nss} : ∀ {M : Nss} {p : Nat}, placesB N p M = true → ∀ {q : Nat} {r : Nts}, M[q]? = some r → placeB N (p + q) r = true := by
  intro M
  induction M with
  | nil => intro p _ q r h; simp at h
  | cons y M ih =>
    intro p h q r hr
    simp only [placesB, Bool.and_eq_true] at h
    cases q with
    | zero => simp at hr; subst hr; exact h.1
    | succ q =>
      have := ih h.2 (q := q) (by simpa using hr)
      rwa [show p + 1 + q = p + (q + 1) by omega] at this
/-- What a list of notes that is ok says of its rows. -/
structure NsP (N : Nss) : Prop where
  n3 : N.length = 3
  l : ∀ (p : Nat) (r : Nts), N[p]? = some r → 1 ≤ r.length ∧ r.length ≤ 10
  e : ∀ (p : Nat) (r : Nts), N[p]? = some r → ∀ (j : Nat) (x : Nt), r[j]? = some x → 0 ≤ x.v ∧ x.v ≤ 3 ∧ viewB N x.w = true ∧ x.w.getD p 0 = (j : Int)
theorem notesB_parts {N : Nss} (h : notesB N = true) : NsP N := by
  simp only [notesB, Bool.and_eq_true, decide_eq_true_eq] at h
  obtain ⟨h3, hp⟩ := h
  refine ⟨h3, fun p r hr => ?_, fun p r hr j x hx => ?_⟩
  · have := placesB_at hp hr
    simp only [placeB, Bool.and_eq_true] at this
    have := this.1.1
    simp [inB] at this
    omega
  · have := placesB_at hp hr
    simp only [placeB, Bool.and_eq_true] at this
    have h2 := ntsB_at this.2 hx
    simp only [ntB, Bool.and_eq_true, beq_iff_eq] at h2
    have h4 := h2.1.1
    simp [inB] at h4
    refine ⟨h4.1, h4.2, h2.1.2, ?_⟩
    have := h2.2
    simpa using this
theorem view_small {N : Nss} (H : NsP N) {x : List Int} (h : viewB N x = true) : x.length = 3 ∧ ∀ i ∈ x, 0 ≤ i ∧ i ≤ 9 := by
  simp only [viewB, Bool.and_eq_true, decide_eq_true_eq] at h
  have hl : x.length = 3 := by rw [h.1, H.n3]
  refine ⟨hl, fun i hi => ?_⟩
  obtain ⟨p, hp, hpi⟩ := List.mem_iff_getElem.1 hi
  have hpn : p < N.length := by rw [H.n3]; omega
  have h1 := vinB_at h.2 (List.getElem?_eq_getElem hpn) (by rw [List.getElem?_eq_getElem hp, hpi])
  have h2 := H.l p _ (List.getElem?_eq_getElem hpn)
  omega
theorem views_small {N : Nss} (H : NsP N) {rows : Iss} {c : Nat} (h : viewsB N rows (c : Int) = true) : rows.length = c ∧ ∀ xs ∈ rows, xs.length ≤ 3 ∧ ∀ x ∈ xs, 0 ≤ x ∧ x ≤ 15 := by
  simp only [viewsB, Bool.and_eq_true, beq_iff_eq] at h
  refine ⟨by have := h.1; omega, fun xs hx => ?_⟩
  obtain ⟨h1, h2⟩ := view_small H (List.all_eq_true.1 h.2 xs hx)
  exact ⟨by omega, fun x hx => by have := h2 x hx; omega⟩
structure VwP (L : Pg) (o : Vwd) : Prop where
  st : StP L o.st
  mem : numB o.st.f2 3 0 0 = true
  ns : NsP o.n
  v : viewsB o.n o.v (L.length : Int) = true
  l : viewsB o.n o.l 2 = true
  k : viewsB o.n o.k 2 = true
  f : viewB o.n o.f = true
theorem vwB_parts {L : Pg} {o : Vwd} (h : vwB L o = true) : VwP L o := by
  simp only [vwB, Bool.and_eq_true] at h
  obtain ⟨⟨⟨⟨⟨⟨h1, h2⟩, h3⟩, h4⟩, h5⟩, h6⟩, h7⟩ := h
  exact ⟨stB_parts h1, h2, notesB_parts h3, h4, h5, h6, h7⟩
theorem VwP.np {L : Pg} {o : Vwd} (h : VwP L o) : NP o := by
  have hl := h.st.n3
  obtain ⟨v1, v2⟩ := views_small h.ns h.v
  obtain ⟨l1, l2⟩ := views_small (c := 2) h.ns h.l
  obtain ⟨k1, k2⟩ := views_small (c := 2) h.ns h.k
  obtain ⟨f1, f2⟩ := view_small h.ns h.f
  refine ⟨h.ns.n3, fun r hr => ?_, fun r hr x hx => ?_, ⟨by omega, v2⟩, ⟨by omega, l2⟩, ⟨by omega, k2⟩, ⟨by omega, fun x hx => by have := f2 x hx; omega⟩⟩
  · obtain ⟨p, hp, hpr⟩ := List.mem_iff_getElem.1 hr
    have := h.ns.l p r (by rw [List.getElem?_eq_getElem hp, hpr])
    omega
  · obtain ⟨p, hp, hpr⟩ := List.mem_iff_getElem.1 hr
    obtain ⟨j, hj, hjx⟩ := List.mem_iff_getElem.1 hx
    obtain ⟨e1, e2, e3, e4⟩ := h.ns.e p r (by rw [List.getElem?_eq_getElem hp, hpr]) j x (by rw [List.getElem?_eq_getElem hj, hjx])
    obtain ⟨g1, g2⟩ := view_small h.ns e3
    exact ⟨e1, e2, by omega, fun i hi => by have := g2 i hi; omega⟩
theorem vwF_at {x : List Int} {p : Nat} (hp : p < x.length) : vwF x (2 + p) = (x.getD p 0 * 512).toNat := by
  unfold vwF
  rw [updL_at, if_pos (by rw [stL_length]; omega), show 2 + p - 2 = p by omega]
  simp [stL, List.getD, hp]
theorem ntF_at {x : Nt} {p : Nat} (hp : p < x.w.length) : ntF x (2 + p) = (x.w.getD p 0 * 512).toNat := by
  unfold ntF swF upd
  rw [if_neg (by omega), if_neg (by omega)]
  exact vwF_at hp
theorem idx_row {p v : Nat} : ∀ (r : Nts) (c : Nat), (∀ (j : Nat) (x : Nt), r[j]? = some x → ntF x (2 + p) = (c + j) * 512) → c ≤ v → v ≤ c + r.length → idxF (r.map ntF) p (v * 512) = v - c := by
  intro r
  induction r with
  | nil => intro c _ h1 h2; simp at h2; simp [idxF]; omega
  | cons y r ih =>
    intro c h h1 h2
    have h0 := h 0 y rfl
    simp at h0
    rw [List.map_cons, idxF, h0]
    by_cases e : c = v
    · rw [if_neg (by omega)]; omega
    · rw [if_pos (by omega), ih (c + 1) (fun j x hx => by have := h (j + 1) x (by simpa using hx); rw [this]; omega) (by omega) (by simp at h2; omega)]
      omega
/-- A view's stamp at a place gives its index back. -/
theorem idx_view {L : Pg} {o : Vwd} (h : VwP L o) {x : List Int} (hx : viewB o.n x = true) {p : Nat} (hp : p < 3) : idxF ((o.n.getD p []).map ntF) p (vwF x (2 + p)) = (x.getD p 0).toNat := by
  obtain ⟨hl, hs⟩ := view_small h.ns hx
  have hpn : p < o.n.length := by rw [h.ns.n3]; exact hp
  have hr := List.getElem?_eq_getElem hpn
  have hpx := List.getElem?_eq_getElem (show p < x.length by omega)
  have hv : vinB o.n x = true := by simp only [viewB, Bool.and_eq_true] at hx; exact hx.2
  obtain ⟨b1, b2⟩ := vinB_at hv hr hpx
  have hd : o.n.getD p [] = o.n[p] := by rw [List.getD, hr]; rfl
  have hxd : x.getD p 0 = x[p]'(by omega) := by rw [List.getD, hpx]; rfl
  rw [hd, vwF_at (by omega), hxd]
  obtain ⟨v, hve⟩ : ∃ v : Nat, x[p]'(by omega) = (v : Int) := ⟨(x[p]'(by omega)).toNat, by omega⟩
  rw [hve] at b2 ⊢
  have e1 : ((v : Int) * 512).toNat = v * 512 := by omega
  rw [e1, idx_row _ 0 (fun j y hy => ?_) (by omega) (by omega)]
  · omega
  · obtain ⟨-, -, c3, c4⟩ := h.ns.e p _ hr j y hy
    obtain ⟨c5, c6⟩ := view_small h.ns c3
    rw [ntF_at (by omega), c4]
    omega
/-- The packed words are words of their form. -/
theorem sgF_ok {L : Pg} {o : Vwd} (h : VwP L o) : SgOk (sgF L o) := by
  have hn := h.np
  have V0 : ∀ (S : Sg) (b : Nat) (X : Iss), (∀ i, i < 8 → okF WV (S.V i)) → (∀ xs ∈ X, xs.length ≤ 3 ∧ ∀ x ∈ xs, 0 ≤ x ∧ x ≤ 15) → ∀ i, i < 8 → okF WV ((wvS S b X).V i) := by
    intro S b X hS hX i hi
    show okF WV (if b ≤ i ∧ i < b + X.length then vwF (X.getD (i - b) []) else S.V i)
    by_cases e : b ≤ i ∧ i < b + X.length
    · rw [if_pos e]
      have hj := List.getElem?_eq_getElem (show i - b < X.length by omega)
      have hm := List.mem_of_getElem? hj
      rw [show X.getD (i - b) [] = X[i - b]'(by omega) by rw [List.getD, hj]; rfl]
      exact vwF_ok (hX _ hm).1 (hX _ hm).2
    · rw [if_neg e]; exact hS i hi
  have row : ∀ (p : Nat), ∀ g ∈ (o.n.getD p []).map ntF, okF WV g := by
    intro p g hg
    obtain ⟨x, hx, rfl⟩ := List.mem_map.1 hg
    have hr : o.n.getD p [] ∈ o.n := by
      by_cases hp : p < o.n.length
      · have h1 := List.getElem?_eq_getElem hp
        rw [show o.n.getD p [] = o.n[p] by rw [List.getD, h1]; rfl]
        exact List.mem_of_getElem? h1
      · rw [show o.n.getD p [] = [] by rw [List.getD, List.getElem?_eq_none (by omega)]; rfl] at hx
        simp at hx
    obtain ⟨a, b, c, d⟩ := hn.e _ hr x hx
    exact swF_ok (vwF_ok c d) (by omega) _
  refine ⟨wdF_ok h.st, fun p _ => row p, fun p hp => ?_, ?_⟩
  · show ((o.n.getD p []).map ntF).length ≤ 16
    rw [List.length_map]
    have hpn : p < o.n.length := by rw [h.ns.n3]; exact hp
    have h1 := List.getElem?_eq_getElem hpn
    rw [show o.n.getD p [] = o.n[p] by rw [List.getD, h1]; rfl]
    have := h.ns.l p _ h1
    omega
  · refine V0 _ 7 _ (V0 _ 5 _ (V0 _ 3 _ (V0 _ 0 _ (fun i _ => okV_zero) hn.v.2) hn.k.2) hn.c.2) (fun xs hx => ?_)
    have e := List.mem_singleton.1 hx
    subst e
    exact hn.f
end Go.Proofs.Ytaghidaamcnpkab
