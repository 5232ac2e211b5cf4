/- The contract of know.around: what is left of a run if one of its numbers goes. -/
import Derived.Test.YtfjaeohfigcciaaDoorApp
import Derived.Deep.DeepCutAuto
namespace Go.Proofs.YtfjaeohfigcciaaDoor
open Go.RowKit Go.Sort

def arL (x : Rn) (n : Int) : List Rn := (if x.lo < n then [⟨x.r, x.lo, n - 1⟩] else []) ++ (if n < x.hi then [⟨x.r, n + 1, x.hi⟩] else [])

/-- a new slice of the call's own comes back -/
def OwnPost (w : World) (ys : List Rn) (e : Ending) (w' : World) : Prop := ∃ v, e = .returned v ∧ Own w' w.heap.size v ys ∧ Below w.heap.size w w'

theorem grown_below {B : Nat} {a w w' : World} {base : Nat} {v : Value} {zs : List Rn} (h : Below B a w) (ho : Own w base v zs) (hg : w.grownBy w' v.ownBlock) (hB : B ≤ base) (hw : B ≤ w.heap.size) : Below B a w' :=
  h.grown hg hw (fun k hk => by have := (ho.lt k hk).1; omega)
theorem grown_cell {w w' : World} {base : Nat} {v : Value} {zs : List Rn} (ho : Own w base v zs) (hg : w.grownBy w' v.ownBlock) {p : Addr} (hp : p.block < base) (hw : p.block < w.heap.size) : w'.cell? p = w.cell? p :=
  World.cell?_of_block (hg.block p.block hw (fun e => by have := (ho.lt p.block e.symm).1; omega))

/-- where around stands: its own slice so far, the box of its run -/
def ArRel (w : World) (x : Rn) (ys : List Rn) (s : Value) (wx : World) : Prop := Own wx (w.heap.size + 1) s ys ∧ RnAt wx w.heap.size 0 x ∧ Below w.heap.size w wx ∧ w.heap.size + 1 ≤ wx.heap.size

theorem ArRel.step {w : World} {x : Rn} {ys : List Rn} {s s' : Value} {wx wx' : World} {y : Rn} (h : ArRel w x ys s wx) (ob : Obj) (hg : (wx.alloc ob).grownBy wx' s.ownBlock) (ho : Own wx' (w.heap.size + 1) s' (ys ++ [y])) : ArRel w x (ys ++ [y]) s' wx' := by
  obtain ⟨h1, ⟨c0, c1, c2⟩, h3, h4⟩ := h
  have hb : Below w.heap.size w (wx.alloc ob) := h3.alloc (by omega) ob
  have hs : w.heap.size + 1 ≤ (wx.alloc ob).heap.size := by simp; omega
  have hc : ∀ o, wx'.cell? ⟨w.heap.size, o, none⟩ = wx.cell? ⟨w.heap.size, o, none⟩ := fun o =>
    (grown_cell (h1.alloc ob) hg (p := ⟨w.heap.size, o, none⟩) (by simp) (by simp at hs ⊢; omega)).trans (World.cell?_alloc_lt wx ob _ (by simp; omega))
  exact ⟨ho, ⟨(hc _).trans c0, (hc _).trans c1, (hc _).trans c2⟩, grown_below hb (h1.alloc ob) hg (by omega) (by omega), Nat.le_trans hs hg.size⟩

set_option maxHeartbeats 1000000 in
theorem around_any (r lo hi n : Int) (w : World) (hr : 0 ≤ r ∧ r ≤ 255) (hlo : 0 ≤ lo ∧ lo ≤ 4294967295) (hhi : 0 ≤ hi ∧ hi ≤ 4294967295) (hn : 0 ≤ n ∧ n ≤ 4294967295) :
    Calls Tryd.prog 29 #[.agg #[.int .u8 r, .int .u32 lo, .int .u32 hi], .int .u32 n] w (OwnPost w (arL ⟨r, lo, hi⟩ n)) := by
  obtain ⟨l1, l2⟩ := hlo
  obtain ⟨k1, k2⟩ := hhi
  obtain ⟨n1, n2⟩ := hn
  generalize hL : arL ⟨r, lo, hi⟩ n = L
  have HL := Lib.hid hL; clear hL
  go_enter Tryd.func29, Tryd.ntmps29
  go_upto_region 1 with fail
  go_cut [5] (fun s wx => ArRel w ⟨r, lo, hi⟩ [] s wx)
  case first =>
    go_wp2
    go_meet
    case rel => exact ⟨Own.nil _ _, ⟨by simp, by simp, by simp⟩, (Below.refl _ _).alloc (Nat.le_refl _) _, by simp⟩
  case rest =>
    have H0 := Lib.hid hcut
    obtain ⟨ho, ⟨c0, c1, c2⟩, hb, hs⟩ := hcut
    have HB := Lib.hid hb; clear hb
    go_upto_if 9 with fail
    go_cut [5] (fun s wx => ArRel w ⟨r, lo, hi⟩ (if lo < n then [⟨r, lo, n - 1⟩] else []) s wx)
    case first =>
      by_cases h1 : lo < n
      · have o1 : Rn.ok ⟨r, lo, n - 1⟩ := ⟨hr, ⟨l1, l2⟩, by simp; omega, by simp; omega⟩
        go_wp2_with (at_builtin; (refine append_runs rfl _ _ rfl (w.heap.size + 1) _ [] rfl (ho.alloc _) _ _ [⟨r, lo, n - 1⟩] rfl (one_sl _ _ r lo (n - 1) (by simp) o1) (by simp) (by simp; omega) ?_); intro v1 w1 ho1 hg1)
        go_meet
        case rel => rw [if_pos h1]; exact H0.out.step _ hg1 ho1
      · go_wp2
        go_meet
        case rel => rw [if_neg (by omega)]; exact H0.out
    case rest =>
      clear ho c0 c1 c2 hs HB H0
      generalize hM : (if lo < n then [(⟨r, lo, n - 1⟩ : Rn)] else []) = M at hcut
      have hML : M.length ≤ 1 := by rw [← hM]; split <;> simp
      have HM := Lib.hid hM; clear hM
      have H0 := Lib.hid hcut
      obtain ⟨ho, ⟨c0, c1, c2⟩, hb, hs⟩ := hcut
      have HB := Lib.hid hb; clear hb
      by_cases h2 : n < hi
      · have o2 : Rn.ok ⟨r, n + 1, hi⟩ := ⟨hr, by simp; omega, k1, k2⟩
        go_wp2_with (at_builtin; (refine append_runs rfl _ _ rfl (w.heap.size + 1) _ M rfl (ho.alloc _) _ _ [⟨r, n + 1, hi⟩] rfl (one_sl _ _ r (n + 1) hi (by simp) o2) (by simp; omega) (by simp; omega) ?_); intro v1 w1 ho1 hg1)
        go_ret
        obtain ⟨q1, _, q3, q4⟩ := H0.out.step _ hg1 ho1
        refine ⟨v1, rfl, ?_, q3⟩
        rw [← HL.out, arL, HM.out, if_pos h2]
        exact q1.mono (by omega)
      · go_wp2
        go_ret
        refine ⟨_, rfl, ?_, HB.out⟩
        rw [← HL.out, arL, HM.out, if_neg (show ¬ (n < hi) by omega), List.append_nil]
        exact ho.mono (by omega)
end Go.Proofs.YtfjaeohfigcciaaDoor

