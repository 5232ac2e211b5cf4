/- The contracts of the reference's Same and Take at entries. -/
import Derived.Test.YtfjaeohfigcciaaDoorIMath
import Derived.Test.YtfjaeohfigcciaaDoorIRefRight
namespace Go.Proofs.YtfjaeohfigcciaaDoor
open Go.RowKit

theorem esame_take {zs ys : List En} (hl : zs.length = ys.length) (h : ∀ j, j < zs.length → zs[j]? = ys[j]?) : zs = ys := by
  apply List.ext_getElem?
  intro j
  rcases Nat.lt_or_ge j zs.length with hj | hj
  · exact h j hj
  · rw [List.getElem?_eq_none hj, List.getElem?_eq_none (by omega)]

set_option maxHeartbeats 2000000 in
/-- Same of what is alike -/
theorem rSame_yes (v1 v2 : Value) (zs : List En) (w : World) (h1 : ESl w w.heap.size v1 zs) (h2 : ESl w w.heap.size v2 zs) (hz : zs.length ≤ 10000) :
    Calls Tryd.prog 24 #[v1, v2] w fun e w' => e = .returned (.bool true) ∧ Below w.heap.size w w' := by
  obtain ⟨A, c, rfl, g1, g2, hA⟩ := h1
  obtain ⟨A', c', rfl, g3, g4, hA'⟩ := h2
  clear g1 g2 g3 g4
  have HA := Lib.hid hA; clear hA
  have HA' := Lib.hid hA'; clear hA'
  go_enter Tryd.func24, Tryd.ntmps24
  go_wp2
  go_loopw [5] (fun i wr => ∃ k : Nat, i = .int .i64 k ∧ k ≤ zs.length ∧ Hid (Below w.heap.size w wr)) (fun i _ => zs.length - (intOf i).toNat)
  case atStart => exact ⟨0, rfl, by omega, Lib.hid (Below.refl _ _)⟩
  case round =>
    obtain ⟨k, rfl, hk, HB⟩ := hrel
    by_cases hlt : k < zs.length
    · obtain ⟨b, off, rfl, hbw, hc⟩ := HA.out (by intro h; simp [h] at hlt)
      obtain ⟨b', off', rfl, hbw', hc'⟩ := HA'.out (by intro h; simp [h] at hlt)
      have hxk : zs[k]? = some zs[k] := List.getElem?_eq_getElem hlt
      generalize zs[k] = x at hxk
      obtain ⟨c0, c1, c2, c3, c4, c5, c6⟩ := ((hc k x hxk).keep HB.out hbw).all
      obtain ⟨d0, d1, d2, d3, d4, d5, d6⟩ := ((hc' k x hxk).keep HB.out hbw').all
      clear hc hc' hxk
      go_wp2_with fail
      go_quiet (fail)
      go_wp2
      go_roundw
      case rel => exact ⟨k + 1, by go_num, by omega, Lib.hid ⟨HB.out.os, HB.out.tape, HB.out.output, HB.out.size, HB.out.block⟩⟩
      case measure => simp [intOf]; omega
    · go_wp2
      go_ret
      exact ⟨rfl, HB.out⟩

/-- what the reference's Take has put out, behind k entries -/
def outT (zs : List En) (e : En) (k : Nat) : List En := if (zs.take k).any (fun x => decide (e.id ≤ x.id)) = true then takeS (zs.take k) e else zs.take k
def putT (zs : List En) (e : En) (k : Nat) : Bool := (zs.take k).any (fun x => decide (e.id ≤ x.id))

theorem takeS_append_low {l : List En} {e : En} (r : List En) (h : ∀ x ∈ l, x.id < e.id) : takeS (l ++ r) e = l ++ takeS r e := by
  induction l with
  | nil => rfl
  | cons x l ih =>
    rw [List.cons_append, takeS, if_pos (h x (by simp)), ih (fun y hy => h y (by simp [hy]))]
    rfl
theorem takeS_append_high {l : List En} {e : En} (r : List En) (h : l.any (fun x => decide (e.id ≤ x.id)) = true) : takeS (l ++ r) e = takeS l e ++ r := by
  induction l with
  | nil => simp at h
  | cons x l ih =>
    rw [List.cons_append, takeS, takeS]
    by_cases hx : x.id < e.id
    · rw [if_pos hx, if_pos hx, ih (by
        simp only [List.any_cons, Bool.or_eq_true, decide_eq_true_eq] at h
        rcases h with h | h
        · omega
        · exact h)]
      rfl
    · rw [if_neg hx, if_neg hx]
      split <;> rfl
theorem put_false {l : List En} {e : En} (h : l.any (fun x => decide (e.id ≤ x.id)) = false) : ∀ x ∈ l, x.id < e.id := by
  intro x hx
  rw [List.any_eq_false] at h
  have := h x hx
  simp at this
  exact this
theorem outT_end (zs : List En) (e : En) : (if putT zs e zs.length = true then outT zs e zs.length else outT zs e zs.length ++ [e]) = takeS zs e := by
  unfold putT outT
  rw [List.take_length]
  split
  · rfl
  · next h =>
    have := takeS_append_low (e := e) [] (put_false (by simpa using h))
    rw [List.append_nil] at this
    rw [this]; rfl
/-- .. and with one more -/
theorem outT_step {zs : List En} {e x : En} {k : Nat} (hx : zs[k]? = some x) (hr : Rise zs) :
    (putT zs e k = true → putT zs e (k + 1) = true ∧ outT zs e (k + 1) = outT zs e k ++ [x] ∧ e.id < x.id) ∧
    (putT zs e k = false → (x.id < e.id → putT zs e (k + 1) = false ∧ outT zs e (k + 1) = outT zs e k ++ [x]) ∧
      (x.id = e.id → putT zs e (k + 1) = true ∧ outT zs e (k + 1) = outT zs e k ++ [if repB e x = true then e else x]) ∧
      (e.id < x.id → putT zs e (k + 1) = true ∧ outT zs e (k + 1) = outT zs e k ++ [e] ++ [x])) := by
  obtain ⟨hk, hxe⟩ := List.getElem?_eq_some_iff.1 hx
  have ht : zs.take (k + 1) = zs.take k ++ [x] := by rw [List.take_succ_eq_append_getElem hk, hxe]
  have hpk : putT zs e (k + 1) = (putT zs e k || decide (e.id ≤ x.id)) := by unfold putT; rw [ht]; simp
  refine ⟨fun hp => ?_, fun hp => ?_⟩
  · have hp' : (zs.take k).any (fun x => decide (e.id ≤ x.id)) = true := hp
    have hp1 : (zs.take (k + 1)).any (fun x => decide (e.id ≤ x.id)) = true := by rw [ht]; simp at hp' ⊢; exact .inl hp'
    refine ⟨by rw [hpk, hp]; rfl, ?_, ?_⟩
    · unfold outT
      rw [if_pos hp', if_pos hp1, ht, takeS_append_high _ hp']
    · rw [List.any_eq_true] at hp'
      obtain ⟨y, hy, hle⟩ := hp'
      obtain ⟨i, hi, rfl⟩ := List.mem_iff_getElem.1 hy
      rw [List.getElem_take] at hle
      rw [List.length_take] at hi
      have := List.pairwise_iff_getElem.1 hr i k (by omega) hk (by omega)
      rw [hxe] at this
      simp at hle
      omega
  · have hp' : (zs.take k).any (fun x => decide (e.id ≤ x.id)) = false := hp
    have hlow := put_false hp'
    have ho : outT zs e k = zs.take k := by unfold outT; rw [if_neg (by rw [hp']; simp)]
    refine ⟨fun h => ?_, fun h => ?_, fun h => ?_⟩
    · have hf : putT zs e (k + 1) = false := by rw [hpk, hp]; simp; omega
      refine ⟨hf, ?_⟩
      rw [ho]
      unfold outT
      rw [if_neg (by show ¬ putT zs e (k + 1) = true; rw [hf]; simp), ht]
    · have hf : putT zs e (k + 1) = true := by rw [hpk, hp]; simp; omega
      refine ⟨hf, ?_⟩
      rw [ho]
      unfold outT
      have hf' : (zs.take (k + 1)).any (fun x => decide (e.id ≤ x.id)) = true := hf
      rw [if_pos hf', ht, takeS_append_low _ hlow]
      simp only [takeS]
      rw [if_neg (by omega), if_pos h]
    · have hf : putT zs e (k + 1) = true := by rw [hpk, hp]; simp; omega
      refine ⟨hf, ?_⟩
      rw [ho]
      unfold outT
      have hf' : (zs.take (k + 1)).any (fun x => decide (e.id ≤ x.id)) = true := hf
      rw [if_pos hf', ht, takeS_append_low _ hlow]
      simp only [takeS]
      rw [if_neg (by omega), if_neg (by omega)]
      simp
theorem outT_length (zs : List En) (e : En) (k : Nat) : (outT zs e k).length ≤ zs.length + 1 := by
  unfold outT
  have : (zs.take k).length ≤ zs.length := List.length_take_le' ..
  split
  · have := takeS_length (zs.take k) e; omega
  · omega
end Go.Proofs.YtfjaeohfigcciaaDoor
