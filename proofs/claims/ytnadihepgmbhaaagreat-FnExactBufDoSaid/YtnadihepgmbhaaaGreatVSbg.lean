/-
  What the reference model's BufBegin and SpreadBegin come to.
-/
import Derived.Test.YtnadihepgmbhaaaGreatVPk
import Derived.Deep.RegionHeld3
import Derived.Test.YtnadihepgmbhaaaGreatCopy1
namespace Go.Proofs.YtnadihepgmbhaaaGreat
open Go.RowKit Pl Go.BigFrame
set_option maxHeartbeats 4000000
set_option maxRecDepth 100000
set_option linter.unusedVariables false

def bbegS (L : Pg) : Buf := ⟨begS L, List.replicate L.length []⟩
def bbegE (L : Pg) : Buf := if progB L then bbegS L else BufE
def vbegS (L : Pg) : Buf := ⟨begS L, List.replicate (L.length * 3) []⟩
def vbegE (L : Pg) : Buf := if progB L then vbegS L else BufE
end Go.Proofs.YtnadihepgmbhaaaGreat
namespace Go.Proofs.YtnadihepgmbhaaaGreat
open Go.RowKit Pl Go.BigFrame
set_option maxHeartbeats 4000000
set_option maxRecDepth 100000
set_option linter.unusedVariables false

theorem box_grown {V w4 : World} {g : Nat} {t : TypeId} {cs : Array Value} {q : Option Nat} (hb : Bk V g t cs) (grow : V.grownBy w4 q) (hne : ∀ b, q = some b → b ≠ g) : Bk w4 g t cs :=
  (grow.block g hb.lt (fun e => hne g e.symm rfl)).trans hb
def hdA : Value → Option Addr
  | .slice a _ _ => a
  | _ => none
/-- Headers of empty rows. -/
def emptyH (hs : List Value) (k : Nat) : Prop := hs.length = k ∧ ∀ v ∈ hs, ∃ a, v = .slice a 0 0
theorem emptyH.snoc {hs : List Value} {k : Nat} (h : emptyH hs k) (a : Option Addr) : emptyH (hs ++ [.slice a 0 0]) (k + 1) :=
  ⟨by simp [h.1], fun v hv => by
    rcases List.mem_append.1 hv with h1 | h1
    · exact h.2 v h1
    · simp at h1; exact ⟨a, h1⟩⟩
theorem emptyH.own {w : World} {base k c : Nat} {A : Option Addr} {hs : List Value} (h : emptyH hs k) (ho : w.ownsRow base 25 1 (.slice A k c) k hs) : IssO w base w.heap.size ⟨A, c⟩ (List.replicate k []) := ⟨fun hn => by
  have hk : 0 < k := by simpa [vsIss] using hn
  obtain ⟨g, cs, hA, h1, h2, hb, hx⟩ := own_vs ho rfl (by rw [h.1]; exact hk)
  have e : ∀ {i : Nat} {vs : List Value}, (vsIss (List.replicate k []))[i]? = some vs → i < k ∧ vs = [] := by
    intro i vs hi
    obtain ⟨xs, hx, rfl⟩ := vsIss_inv hi
    rw [List.getElem?_replicate] at hx
    split at hx
    · rename_i hik
      injection hx with hx
      subst hx
      exact ⟨hik, rfl⟩
    · cases hx
  refine ⟨g, cs, fun i => hdA (hs.getD i default), fun _ => 0, hA, h1, h2, hb, ?_, ?_⟩
  · intro i vs hi
    obtain ⟨hik, rfl⟩ := e hi
    have hil : i < hs.length := by rw [h.1]; exact hik
    have hi' : hs[i]? = some hs[i] := List.getElem?_eq_getElem hil
    obtain ⟨a, ha⟩ := h.2 _ (List.getElem_mem hil)
    have hd : hs.getD i default = .slice a 0 0 := by simp [List.getD, hi', ha]
    refine ⟨?_, OwnVs.nil _ _ _ _ _⟩
    rw [hx i _ hi', ha]
    simp only [hd, hdA, List.length_nil]
  · intro i j vs us hij hi hj h0
    obtain ⟨_, rfl⟩ := e hi
    simp at h0⟩
end Go.Proofs.YtnadihepgmbhaaaGreat
