/-
  A region that draws its order: first come operations that only read, whatever the world of a class; then some, one behind the other, that make or write memory and stay in the class, while reads may still float among them; then the last ones, behind all others. One walk of the text's order serves every order.
-/
import Derived.Test.YtaghidaamcnpkabQTail
import Derived.Deep.RegionHeld3
namespace Go.Proofs.Ytaghidaamcnpkab
open Go
set_option linter.unusedVariables false

/-- Operations that never enter a function and never leave another world. -/
def ldB (o : Oper) : Bool := match o.op with
  | .move _ | .assign _ | .load _ _ | .fieldAddr _ _ _ | .indexAddr _ _ _ | .binOp _ _ _ _ _ | .unOp _ _ _ | .slice _ _ _ _ _ | .extract _ _ => true
  | .call c => match c.callee with
    | .builtin .len => true
    | _ => false
  | _ => false
section
variable {P : Program} {ops : Array Oper} {md : Region.Mode} {C : World → Prop}
theorem bind_noEnter {α : Type} {s : Sem α} {g : α → Next} (hg : ∀ x f args, g x ≠ .enter f args) (w w' : World) (f : FuncId) (args : Array Value) : (do pure (g (← s)) : Sem Next).run P w ≠ .ok (.enter f args) w' := by
  have e : (do pure (g (← s)) : Sem Next).run P w = (s.run P w).andThen fun a w' => Result.ok (g a) w' := by simp [go_sem]
  rw [e]
  cases s.run P w with
  | ok x w2 => intro h; simp only [Result.andThen] at h; injection h with h1 h2; exact hg _ _ _ h1
  | halt x w2 => intro h; simp only [Result.andThen] at h; cases h
theorem len_noEnter {o : Oper} {c : Call} (ho : o.op = .call c) (hc : c.callee = .builtin .len) (ρ : Operand → Value) (w w' : World) (f : FuncId) (args : Array Value) : (execOp ρ o).run P w ≠ .ok (.enter f args) w' := by
  have hg : ∀ (x : Value) f args, Next.value x ≠ .enter f args := fun x f args e => by cases e
  obtain ⟨cl, xs, ts⟩ := c
  simp only at hc
  subst hc
  have e : execOp ρ o = (do pure (Next.value (← Builtin.len_ ts o.type (xs.map ρ))) : Sem Next) := by
    unfold execOp
    simp only [ho]
    rfl
  rw [e]
  exact bind_noEnter hg w w' f args
theorem ld_noEnter {o : Oper} (h : ldB o = true) (ρ : Operand → Value) (w w' : World) (f : FuncId) (args : Array Value) : (execOp ρ o).run P w ≠ .ok (.enter f args) w' := by
  have hg : ∀ (x : Value) f args, Next.value x ≠ .enter f args := fun x f args e => by cases e
  by_cases hcall : ∃ c, o.op = .call c
  · obtain ⟨c, ho⟩ := hcall
    refine len_noEnter ho ?_ ρ w w' f args
    unfold ldB at h
    simp only [ho] at h
    split at h
    · assumption
    · cases h
  unfold ldB at h
  unfold execOp
  split at h
  all_goals first
    | (cases h; done)
    | (rename_i heq; simp only [heq]; exact bind_noEnter hg w w' f args)
    | (rename_i heq; simp only [heq]; intro e; simp [go_sem] at e; done)
    | (rename_i c heq; exact (hcall ⟨c, heq⟩).elim)
/-- As wpAny, and the class is kept by the first n operations. -/
def anyC (P : Program) (md : Region.Mode) (ops : Array Oper) (C : World → Prop) (n : Nat) (Q : Exit → Act → World → Prop) : Nat → Array Bool → Act → World → Prop
  | 0, listed, a, w => Region.ready md ops listed = [] ∧ Q .normal a w
  | f + 1, listed, a, w => (Region.ready md ops listed = [] → Q .normal a w) ∧ ∀ i ∈ Region.ready md ops listed, wpOp P ops Q i (fun a' w' => (i < n → C w') ∧ anyC P md ops C n Q f (listed.setIfInBounds i true) a' w') a w
theorem any_of_anyC {n : Nat} {Q : Exit → Act → World → Prop} : ∀ (f : Nat) (listed : Array Bool) (a : Act) (w : World), anyC P md ops C n Q f listed a w → wpAny P md ops Q f listed a w := by
  intro f
  induction f with
  | zero => intro listed a w h; exact h
  | succ f ih => intro listed a w h; exact ⟨h.1, fun i hi => wpOp_mono (fun a' w' h' => ih _ a' w' h'.2) (h.2 i hi)⟩
/-- A read, met in the class. -/
theorem ld_wpOp {i : Nat} {oi : Oper} {v : Value} {a : Act} {w : World} {K : Act → World → Prop} {Q : Exit → Act → World → Prop} (hi : ops[i]? = some oi) (hld : ldB oi = true) (hy : YieldsIn P ops C oi v a) (hw : C w) (h : K (a.put oi.dst v) w) : wpOp P ops Q i K a w := by
  unfold wpOp
  simp only [hi]
  rcases hy with ⟨hwant, hv⟩ | ⟨hwant, rfl⟩
  · simp only [hwant, if_true]
    left
    have h1 := hv w hw
    have hne := ld_noEnter (P := P) hld a.eval w
    unfold Oper.quietAt at h1
    unfold Oper.wp
    generalize (execOp a.eval oi).run P w = r at *
    cases r with
    | ok n w' =>
      cases n <;> simp only [Oper.quietUpon] at h1 <;> simp only [Oper.upon]
      case value u => obtain ⟨e1, e2⟩ := h1; rw [e1, e2]; exact h
      case skip => obtain ⟨e1, e2⟩ := h1; rw [e1, ← e2]; exact h
      case enter f args => exact absurd rfl (hne _ _ _)
    | halt x w' => simp only [Oper.quietUpon] at h1
  · simp only [hwant, Bool.false_eq_true, if_false]; exact h
/-- Whether a read's value is in its temporary makes no difference to another operation. -/
theorem wpOp_put {j : Nat} {oi oj : Oper} {v : Value} (hj : ops[j]? = some oj) (hap : oi.apart ops oj = true) (hsi : ∀ cs b, oi.op ≠ .select cs b) (hsj : ∀ cs b, oj.op ≠ .select cs b)
    {K : Act → World → Prop} {Q : Exit → Act → World → Prop} (hQ : ∀ c a w, ¬ Q (.panic c) a w) {a : Act} {w : World} (hy : YieldsIn P ops C oi v a) (h : wpOp P ops Q j K (a.put oi.dst v) w) :
    wpOp P ops Q j (fun a' w' => YieldsIn P ops C oi v a' ∧ K (a'.put oi.dst v) w') a w := by
  obtain ⟨h1, h2, h3⟩ := Oper.apart_spec hap
  have keep : ∀ (a : Act), YieldsIn P ops C oi v a → ∀ u, YieldsIn P ops C oi v (a.put oj.dst u) := fun a hy u =>
    hy.of_same (execOp_put oi hsi a oj.dst u h3) (wanted_put oi a oj.dst u h3)
  have kd : ∀ d, YieldsIn P ops C oi v ({ tmps := a.tmps, defers := d :: a.defers } : Act) := fun d => hy.of_same rfl rfl
  unfold wpOp at *
  simp only [hj] at *
  rw [wanted_put oj a oi.dst v h1] at h
  split
  · rename_i hwn
    simp only [hwn, if_true] at h
    rcases h with h | h
    · left
      unfold Oper.wp at *
      rw [execOp_put oj hsj a oi.dst v h1] at h
      generalize (execOp a.eval oj).run P w = r at *
      cases r with
      | ok n w' =>
        cases n <;> simp only [Oper.upon] at h ⊢
        case value u => exact ⟨keep a hy u, by rw [← Act.put_comm a v u h2]; exact h⟩
        case skip => exact ⟨keep a hy _, by rw [← Act.put_comm a v _ h2]; exact h⟩
        case defer d =>
          refine ⟨keep _ (kd d) _, ?_⟩
          rw [← Act.put_comm _ v _ h2]
          have e : ({ tmps := (a.put oi.dst v).tmps, defers := d :: (a.put oi.dst v).defers } : Act) = ({ tmps := a.tmps, defers := d :: a.defers } : Act).put oi.dst v := by
            cases oi.dst <;> rfl
          rw [← e]; exact h
        case enter f args =>
          refine h.mono fun e w'' he => ?_
          cases e with
          | returned u => exact ⟨keep a hy u, by rw [← Act.put_comm a v u h2]; exact he⟩
          | panicked c => exact absurd he (hQ _ _ _)
          | outgrown => exact he
        case row rw_ args =>
          exact h.mono fun u w'' he => ⟨keep a hy u, by rw [← Act.put_comm a v u h2]; exact he⟩
      | halt x w' =>
        cases x <;> simp only [Oper.upon] at h ⊢
        all_goals first | exact absurd h (hQ _ _ _) | exact h
    · right
      refine ⟨?_, h.2⟩
      have h4 := h.1
      unfold Oper.asks at *
      rw [execOp_put oj hsj a oi.dst v h1] at h4
      exact h4
  · rename_i hwn
    simp only [hwn] at h
    exact ⟨keep a hy _, by rw [← Act.put_comm a v undef h2]; exact h⟩
theorem make_first {n i : Nat} {oi : Oper} {v : Value} {Q : Exit → Act → World → Prop} (hQ : ∀ c a w, ¬ Q (.panic c) a w) (hi : ops[i]? = some oi) (hsel : ∀ (j : Nat) (o : Oper) cs b, ops[j]? = some o → o.op ≠ .select cs b)
    (hs : Region.sinkB md ops n = true) (hc : Region.chainB md ops n = true) (hn : n < ops.size) (hin : i < n) (hld : ldB oi = true) :
    ∀ (f : Nat) (listed : Array Bool) (a : Act) (w : World), HeadInv md ops n listed →
      (∀ j oj, ops[j]? = some oj → j ≠ i → listed.getD j true = false → (∀ e ∈ oj.after, Region.binds md e = true → e.on ≠ i) → oi.apart ops oj = true) →
      i ∈ Region.ready md ops listed → YieldsIn P ops C oi v a → C w → anyC P md ops C n Q f (listed.setIfInBounds i true) (a.put oi.dst v) w → anyC P md ops C n Q (f + 1) listed a w := by
  intro f
  induction f with
  | zero =>
    intro listed a w inv _ hr hy hw H
    refine ⟨fun h => (by rw [h] at hr; cases hr), fun j hj => ?_⟩
    by_cases hji : j = i
    · subst hji; exact ld_wpOp hi hld hy hw ⟨fun _ => hw, H⟩
    · have := ready_mono hj hji
      rw [H.1] at this
      cases this
  | succ f ih =>
    intro listed a w inv hfree hr hy hw H
    have hun := (mem_ready.1 hr).1
    refine ⟨fun h => (by rw [h] at hr; cases hr), fun j hj => ?_⟩
    have hjn : j < n := by
      rcases Nat.lt_or_ge j n with h | h
      · exact h
      · exact absurd hj (tail_waits hs hc hn inv _ i rfl hin hun j h)
    by_cases hji : j = i
    · subst hji; exact ld_wpOp hi hld hy hw ⟨fun _ => hw, H⟩
    · have h1 := H.2 j (ready_mono hj hji)
      obtain ⟨hjun, oj, hoj, hall⟩ := mem_ready.1 hj
      have hnot : ∀ e ∈ oj.after, Region.binds md e = true → e.on ≠ i := fun e he hb heq => by
        have h2 := hall e he hb
        rw [heq, getD_both hun] at h2
        cases h2
      have h2 := wpOp_put hoj (hfree j oj hoj hji hjun hnot) (fun cs b => hsel i oi cs b hi) (fun cs b => hsel j oj cs b hoj) hQ hy h1
      have hfree' : ∀ k ok, ops[k]? = some ok → k ≠ i → (listed.setIfInBounds j true).getD k true = false →
          (∀ e ∈ ok.after, Region.binds md e = true → e.on ≠ i) → oi.apart ops ok = true := fun k ok hk hki hun2 hno => by
        refine hfree k ok hk hki ?_ hno
        by_cases hjk : j = k
        · subst hjk; exact hjun
        · rw [getD_set_ne true hjk] at hun2; exact hun2
      refine wpOp_mono (fun a' w' h3 => ⟨h3.2.1, ih (listed.setIfInBounds j true) a' w' (inv.set hj hjn) hfree' (ready_mono hr (Ne.symm hji)) h3.1 (h3.2.1 hjn) ?_⟩) h2
      rw [Array.setIfInBounds_comm _ _ hji]
      exact h3.2.2
/-- The operations behind the reads, one behind the other; the first ones keep the class. -/
def seqC (P : Program) (ops : Array Oper) (C : World → Prop) (n : Nat) (Q : Exit → Act → World → Prop) : List Oper → Nat → Act → World → Prop
  | [], _, a, w => Q .normal a w
  | o :: l, k, a, w => wpOp P ops Q k (fun a' w' => (k < n → C w') ∧ seqC P ops C n Q l (k + 1) a' w') a w
theorem anyC_of_seq {n : Nat} {Q : Exit → Act → World → Prop} : ∀ (l : List Oper) (k : Nat) (listed : Array Bool) (a : Act) (w : World), (∀ j, l[j]? = ops[k + j]?) →
    Region.seqB md ops l.length k listed = true → seqC P ops C n Q l k a w → anyC P md ops C n Q l.length listed a w := by
  intro l
  induction l with
  | nil => intro k listed a w _ hB h; exact ⟨by simpa [Region.seqB] using hB, h⟩
  | cons o l ih =>
    intro k listed a w hl hB h
    have h0 : ops[k]? = some o := by simpa using (hl 0).symm
    simp only [List.length_cons, Region.seqB, Bool.and_eq_true, decide_eq_true_eq] at hB
    refine ⟨fun h1 => (by rw [hB.1] at h1; cases h1), fun i hi => ?_⟩
    rw [hB.1] at hi
    have hik : i = k := by simpa using hi
    subst hik
    exact wpOp_mono (fun a' w' h' => ⟨h'.1, ih (i + 1) _ a' w' (fun j => by have := hl (j + 1); simpa [Nat.add_assoc, Nat.add_comm 1 j] using this) hB.2 h'.2⟩) h
theorem make_lex {n g : Nat} {Lq : Act → Prop} {Q : Exit → Act → World → Prop} (hQ : ∀ c a w, ¬ Q (.panic c) a w) (hsel : Region.noSelect ops = true) (hs : Region.sinkB md ops n = true) (hc : Region.chainB md ops n = true) (hn : n < ops.size) (m : Nat) (hm : m ≤ n) (w : World) (hw : C w)
    (htail : ∀ listed a, Region.seqB md ops g m listed = true → Lq a → anyC P md ops C n Q g listed a w) :
    ∀ (l : List Oper) (k : Nat) (listed : Array Bool) (a : Act), (∀ j, j < l.length → l[j]? = ops[k + j]?) → k + l.length = m → (∀ o ∈ l, ldB o = true) → HeadInv md ops n listed →
    Region.lexHead md ops g l.length k listed = true → wpQuiet P ops C Lq l a → anyC P md ops C n Q (l.length + g) listed a w := by
  intro l
  induction l with
  | nil =>
    intro k listed a _ hk _ _ hB h
    have : k = m := by simpa using hk
    subst this
    rw [List.length_nil, Nat.zero_add]
    exact htail listed a (by simpa [Region.lexHead] using hB) h
  | cons o l ih =>
    intro k listed a hl hk hlds inv hB h
    have h0 : ops[k]? = some o := by simpa using (hl 0 (by simp)).symm
    simp only [List.length_cons, Region.lexHead, Bool.and_eq_true] at hB
    obtain ⟨⟨hr, hf⟩, hB'⟩ := hB
    have hkn : k < n := by simp only [List.length_cons] at hk; omega
    have hr' : k ∈ Region.ready md ops listed := by simpa using hr
    have hst : qOp P ops C k (wpQuiet P ops C Lq l) a := by unfold qOp; simp only [h0]; exact h
    obtain ⟨v, hy, hK⟩ := yieldsIn_of_qOp h0 hst
    rw [List.length_cons, show l.length + 1 + g = (l.length + g) + 1 by omega]
    exact make_first hQ h0 (Region.noSelect_spec hsel) hs hc hn hkn (hlds o (List.mem_cons_self ..)) (l.length + g) listed a w inv (Region.free_spec h0 hf) hr' hy hw
      (ih (k + 1) _ _ (fun j hj => by have := hl (j + 1) (by simp; omega); simpa [Nat.add_assoc, Nat.add_comm 1 j] using this) (by simp only [List.length_cons] at hk; omega) (fun o' ho' => hlds o' (List.mem_cons_of_mem _ ho')) (inv.set hr' hkn) hB' hK)
/-- One operation by itself: walked as a list of one. -/
theorem op_list {k : Nat} {o : Oper} {Q : Exit → Act → World → Prop} {K : Act → World → Prop} {a : Act} {w : World} (hk : ops[k]? = some o)
    (h : wpList P ops (fun e a' w' => match e with | .normal => K a' w' | e => Q e a' w') [o] a w) : wpOp P ops Q k K a w := by
  unfold wpOp
  simp only [hk]
  unfold wpList at h
  split
  · rename_i hw
    simp only [hw, if_true] at h
    rcases h with h | h
    · left
      unfold Oper.wp at *
      generalize (execOp a.eval o).run P w = r at *
      cases r with
      | ok n w' =>
        cases n <;> simp only [Oper.upon] at h ⊢
        case value u => exact h
        case skip => exact h
        case defer d => exact h
        case enter f args =>
          refine Calls.mono h fun e w'' he => ?_
          cases e with
          | returned u => exact he
          | panicked c => exact he
          | outgrown => obtain ⟨a', w', h'⟩ := he; exact ⟨a', w', h'⟩
        case row rw_ args => exact Rows.mono h fun u w'' he => he
      | halt x w' =>
        cases x <;> simp only [Oper.upon] at h ⊢
        all_goals exact h
    · right
      refine ⟨h.1, ?_⟩
      obtain ⟨a', w', h'⟩ := h.2
      exact ⟨a', w', h'⟩
  · rename_i hw
    simp only [hw] at h
    exact h
end
/-- The region: m reads in the text's order, whatever the world of the class; then the rest, one behind the other, of which those ahead of number n keep the class. -/
theorem region_make {C : World → Prop} {id : Nat} {Q : Exit → Act → World → Prop} {a : Act} {w : World} {l : List Oper} (m n : Nat) (hmn : m ≤ n) (hB : (Region.noSelect l.toArray && decide (n < l.toArray.size) && Region.sinkB .any l.toArray n && Region.chainB .any l.toArray n && Region.lexHead .any l.toArray (l.toArray.size - m) m 0 (Array.replicate l.toArray.size false) && (l.take m).all ldB) = true) (hC : C w.drew)
    (h : wpQuiet Try.prog l.toArray C (fun a' => seqC Try.prog l.toArray C n (NoPanic Q) (l.drop m) m a' w.drew) (l.take m) a) : (Code.region id l.toArray true).wp Try.prog Q a w := by
  simp only [Bool.and_eq_true, decide_eq_true_eq, List.all_eq_true] at hB
  obtain ⟨⟨⟨⟨⟨hsel, hn⟩, hs⟩, hc⟩, hlex⟩, hlds⟩ := hB
  have hn' : n < l.length := by simpa using hn
  have htl : (l.take m).length = m := by simp; omega
  have hdl : (l.drop m).length = l.toArray.size - m := by simp
  have inv0 : HeadInv .any l.toArray n (Array.replicate l.toArray.size false) :=
    ⟨by simp, fun j oj _ hl => (by rw [getD_replicate_false] at hl; cases hl), fun t _ ht => getD_in (by simpa using ht) (getD_replicate_false _ _)⟩
  refine wp_region_noPanic ?_
  refine wp_region_any (by kernel_rfl) ?_
  have H := make_lex (P := Try.prog) (md := .any) (C := C) (Q := NoPanic Q) (g := l.toArray.size - m) (fun c a w h => h) hsel hs hc hn m hmn w.drew hC (fun listed a' hseq hL => by
    have := anyC_of_seq (md := .any) (l.drop m) m listed a' w.drew (fun j => by simp [List.getElem?_drop]) (by rw [hdl]; exact hseq) hL
    rwa [hdl] at this) (l.take m) 0 _ a (fun j hj => by
    have hj' : j < m := by rw [htl] at hj; exact hj
    simp [hj']) (by rw [htl, Nat.zero_add]) hlds inv0 (by rw [htl]; exact hlex) h
  rw [htl, show m + (l.toArray.size - m) = l.toArray.size by omega] at H
  exact any_of_anyC _ _ _ _ H
/-- One step of what comes behind the reads. -/
theorem seqC_step {P : Program} {ops : Array Oper} {C : World → Prop} {n k : Nat} {o : Oper} {l : List Oper} {Q : Exit → Act → World → Prop} {a : Act} {w : World} (hk : ops[k]? = some o)
    (h : ∀ R : Exit → Act → World → Prop, (∀ a' w', (k < n → C w') → seqC P ops C n Q l (k + 1) a' w' → R .normal a' w') → wpList P ops R [o] a w) : seqC P ops C n Q (o :: l) k a w :=
  op_list hk (h _ fun a' w' h1 h2 => ⟨h1, h2⟩)
theorem seqC_nil {P : Program} {ops : Array Oper} {C : World → Prop} {n k : Nat} {Q : Exit → Act → World → Prop} {a : Act} {w : World} (h : Q .normal a w) : seqC P ops C n (NoPanic Q) [] k a w := h
end Go.Proofs.Ytaghidaamcnpkab
