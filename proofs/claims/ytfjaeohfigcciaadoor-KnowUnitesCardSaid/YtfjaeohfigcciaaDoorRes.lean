/- What comes back of Add, Drop and Union, as two values. -/
import Derived.Test.YtfjaeohfigcciaaDoorLawMath
import Derived.Test.YtfjaeohfigcciaaDoorCode2
import Derived.Test.YtfjaeohfigcciaaDoorSame
namespace Go.Proofs.YtfjaeohfigcciaaDoor
open Go.RowKit Go.Sort Go.Shelf

/-- runs, or a code, came back: the two values, and which of the two ways it was -/
def ResVal (w' : World) (res : Except Int (List Rn)) (v ev : Value) : Prop :=
  (∃ l, res = .ok l ∧ ev = .nilIface ∧ Sl w' w'.heap.size v l) ∨ (∃ c, res = .error c ∧ v = .slice none 0 0 ∧ ev = .iface 53 (.int .i64 c))
theorem ResPost.val {w : World} {res : Except Int (List Rn)} {e : Ending} {w' : World} (h : ResPost w res e w') : ∃ v ev, e = .returned (.tuple #[v, ev]) ∧ ResVal w' res v ev ∧ Below w.heap.size w w' := by
  cases res with
  | ok l =>
    obtain ⟨v, he, hs, hb⟩ := h
    exact ⟨v, _, he, .inl ⟨l, rfl, rfl, hs⟩, hb⟩
  | error c => exact ⟨_, _, h.1, .inr ⟨c, rfl, rfl, rfl⟩, h.2⟩
theorem ResVal.below {w w' : World} {res : Except Int (List Rn)} {v ev : Value} (h : ResVal w res v ev) (hb : Below w.heap.size w w') : ResVal w' res v ev := by
  rcases h with ⟨l, h1, h2, h3⟩ | h
  · exact .inl ⟨l, h1, h2, (h3.below hb).more hb.size⟩
  · exact .inr h
theorem ResVal.ok_inv {w : World} {l : List Rn} {v ev : Value} (h : ResVal w (.ok l) v ev) : ev = .nilIface ∧ Sl w w.heap.size v l := by
  rcases h with ⟨l', h1, h2, h3⟩ | ⟨c, h1, _⟩
  · cases h1; exact ⟨h2, h3⟩
  · cases h1
theorem ResVal.err_inv {w : World} {c : Int} {v ev : Value} (h : ResVal w (.error c) v ev) : v = .slice none 0 0 ∧ ev = .iface 53 (.int .i64 c) := by
  rcases h with ⟨l', h1, h2, h3⟩ | ⟨c', h1, h2⟩
  · cases h1
  · cases h1; exact h2

theorem lim_err {l : List Rn} {c : Int} (h : lim l = .error c) : c = 5 := by
  unfold lim at h; split at h <;> cases h; rfl
theorem union_err {zs ys : List Rn} {c : Int} (h : unionR zs ys = .error c) : 0 < c := by
  unfold unionR at h; split at h
  · have := lim_err h; omega
  · cases h; decide
theorem drop_err {zs : List Rn} {p n c : Int} (h : dropR zs p n = .error c) : 0 < c := by
  unfold dropR at h; split at h
  · have := lim_err h; omega
  · cases h; decide
theorem union_len {zs ys l : List Rn} (h : unionR zs ys = .ok l) : l.length ≤ 64 := ((right_iff _).1 (union_told h).2.2.1).1

/-- the law's Code of what came back -/
theorem code_res {w : World} {res : Except Int (List Rn)} {v ev : Value} (h : ResVal w res v ev) (hg : ErrVar w) (hc : ∀ c, res = .error c → 0 < c) :
    Calls Tryd.prog 16 #[ev] w fun e w' => e = .returned (.int .i64 (codeOf res)) ∧ Below w.heap.size w w' := by
  cases res with
  | ok l =>
    obtain ⟨rfl, _⟩ := h.ok_inv
    exact (code_nil w).mono fun e w' ⟨he, hw⟩ => ⟨he, by subst hw; exact Below.refl _ _⟩
  | error c =>
    obtain ⟨rfl, rfl⟩ := h.err_inv
    exact code_some c w (hc c rfl) hg
/-- the runs of what came back: none, if a code came -/
def runsOf : Except Int (List Rn) → List Rn
  | .ok l => l
  | .error _ => []
theorem ResVal.sl {w : World} {res : Except Int (List Rn)} {v ev : Value} (h : ResVal w res v ev) : Sl w w.heap.size v (runsOf res) := by
  cases res with
  | ok l => exact h.ok_inv.2
  | error c => obtain ⟨rfl, _⟩ := h.err_inv; exact Sl.nil _ _
theorem ResVal.nil_iff {w : World} {res : Except Int (List Rn)} {v ev : Value} (h : ResVal w res v ev) : (∃ l, res = .ok l ∧ ev = .nilIface) ∨ (∃ c, res = .error c ∧ ev = .iface 53 (.int .i64 c)) := by
  rcases h with ⟨l, h1, h2, _⟩ | ⟨c, h1, _, h2⟩
  · exact .inl ⟨l, h1, h2⟩
  · exact .inr ⟨c, h1, h2⟩
end Go.Proofs.YtfjaeohfigcciaaDoor

