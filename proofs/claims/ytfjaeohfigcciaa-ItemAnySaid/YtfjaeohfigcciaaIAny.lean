/- The law ItemAny, walked: it answers true. -/
import Derived.Test.YtfjaeohfigcciaaIMath
import Derived.Test.YtfjaeohfigcciaaIAwake
import Derived.Test.YtfjaeohfigcciaaIRefRight
namespace Go.Proofs.Ytfjaeohfigcciaa
open Go.RowKit

/-- the array of three entries -/
def agg3 (x y z : En) : Value := .agg #[.int .u8 x.id, .int .u8 x.rep, .int .u32 x.seq, .int .u32 x.stamp, .int .i64 x.kind, .int .u8 x.cls, .int .u32 x.val, .int .u8 y.id, .int .u8 y.rep, .int .u32 y.seq, .int .u32 y.stamp, .int .i64 y.kind, .int .u8 y.cls, .int .u32 y.val, .int .u8 z.id, .int .u8 z.rep, .int .u32 z.seq, .int .u32 z.stamp, .int .i64 z.kind, .int .u8 z.cls, .int .u32 z.val]
def pick3 (x y z : En) (j : Nat) : En := if j = 0 then x else if j = 1 then y else z
def row1 (a : Int) (k : Nat) : Nat := if k = 0 then 0 else if k = 1 then 1 else if k = 2 then 2 else (a % 3).toNat
def row2 (b c : Int) (k : Nat) : Nat := if k = 0 then (b % 3).toNat else if k = 1 then ((b + 1 + c % 2) % 3).toNat else if k = 2 then ((b + 2 - c % 2) % 3).toNat else (c % 3).toNat
def seqT (zs : List En) (f : Nat → En) : Nat → List En
  | 0 => zs
  | k + 1 => takeL (seqT zs f k) (f k)

theorem row1_lt (a : Int) (k : Nat) : row1 a k < 3 := by unfold row1; repeat' split
                                                         all_goals omega
theorem row2_lt (b c : Int) (k : Nat) : row2 b c k < 3 := by unfold row2; repeat' split
                                                             all_goals omega

theorem seqT_right {zs : List En} {f : Nat → En} (h : erightB zs = true) (hf : ∀ k, reB (f k) = true) : ∀ k, erightB (seqT zs f k) = true
  | 0 => h
  | k + 1 => right_take (seqT_right h hf k) (hf k)
theorem takeL_length {zs : List En} {e : En} (h : erightB zs = true) : (takeL zs e).length ≤ zs.length + 1 := by
  rw [takeL_eq e (rise_of_right h)]; exact takeS_length zs e
theorem seqT_length {zs : List En} {f : Nat → En} (h : erightB zs = true) (hf : ∀ k, reB (f k) = true) : ∀ k, (seqT zs f k).length ≤ zs.length + k
  | 0 => Nat.le_refl _
  | k + 1 => by
    have h1 := seqT_length h hf k
    have h2 := takeL_length (e := f k) (seqT_right h hf k)
    show (takeL (seqT zs f k) (f k)).length ≤ _
    omega

/-- the same steps, in any of the orders -/
theorem steps_perm (o : Option Vr) (x y z : En) (id : Int) (i j k l m : Nat) (hi : i < 3) (hj : j < 3) (hk : k < 3) (hl : l < 3) (hm : m < 3) (h1 : i ≠ j) (h2 : i ≠ k) (h3 : j ≠ k) :
    stepV (stepV (stepV (stepV o x id) y id) z id) (pick3 x y z l) id = stepV (stepV (stepV (stepV o (pick3 x y z i) id) (pick3 x y z j) id) (pick3 x y z k) id) (pick3 x y z m) id := by
  have ab : ∀ n, n < 3 → stepV (stepV (stepV (stepV o x id) y id) z id) (pick3 x y z n) id = stepV (stepV (stepV o x id) y id) z id := by
    intro n hn
    have : n = 0 ∨ n = 1 ∨ n = 2 := by omega
    rcases this with rfl | rfl | rfl
    · show stepV (stepV (stepV (stepV o x id) y id) z id) x id = _
      rw [step_comm _ z x, step_comm _ y x, step_idem]
    · show stepV (stepV (stepV (stepV o x id) y id) z id) y id = _
      rw [step_comm _ z y, step_idem]
    · show stepV (stepV (stepV (stepV o x id) y id) z id) z id = _
      rw [step_idem]
  have pm : stepV (stepV (stepV o (pick3 x y z i) id) (pick3 x y z j) id) (pick3 x y z k) id = stepV (stepV (stepV o x id) y id) z id := by
    have hh : (i = 0 ∧ j = 1 ∧ k = 2) ∨ (i = 0 ∧ j = 2 ∧ k = 1) ∨ (i = 1 ∧ j = 0 ∧ k = 2) ∨ (i = 1 ∧ j = 2 ∧ k = 0) ∨ (i = 2 ∧ j = 0 ∧ k = 1) ∨ (i = 2 ∧ j = 1 ∧ k = 0) := by omega
    rcases hh with ⟨rfl, rfl, rfl⟩ | ⟨rfl, rfl, rfl⟩ | ⟨rfl, rfl, rfl⟩ | ⟨rfl, rfl, rfl⟩ | ⟨rfl, rfl, rfl⟩ | ⟨rfl, rfl, rfl⟩
    · rfl
    · show stepV (stepV (stepV o x id) z id) y id = _
      rw [step_comm _ z y]
    · show stepV (stepV (stepV o y id) x id) z id = _
      rw [step_comm _ y x]
    · show stepV (stepV (stepV o y id) z id) x id = _
      rw [step_comm _ z x, step_comm _ y x]
    · show stepV (stepV (stepV o z id) x id) y id = _
      rw [step_comm _ z x, step_comm _ z y]
    · show stepV (stepV (stepV o z id) y id) x id = _
      rw [step_comm _ z y, step_comm _ z x, step_comm _ y x]
  rw [ab l hl, pm, ab m hm]

theorem rows_apart (b c : Int) (hb : 0 ≤ b) (hc : 0 ≤ c) : row2 b c 0 ≠ row2 b c 1 ∧ row2 b c 0 ≠ row2 b c 2 ∧ row2 b c 1 ≠ row2 b c 2 := by
  unfold row2
  simp only [if_true, if_neg (show ¬ (1 : Nat) = 0 by omega), if_neg (show ¬ (2 : Nat) = 0 by omega), if_neg (show ¬ (2 : Nat) = 1 by omega)]
  omega

section
variable {zs : List En} {x y z : En} {a b c : Int}
theorem any_ver (h : erightB zs = true) (hx : reB x = true) (hy : reB y = true) (hz : reB z = true) (hb : 0 ≤ b) (hc : 0 ≤ c) (id : Int) :
    verAt (seqT zs (fun k => pick3 x y z (row1 a k)) 4) id = verAt (seqT zs (fun k => pick3 x y z (row2 b c k)) 4) id := by
  have hp : ∀ j, reB (pick3 x y z j) = true := fun j => by unfold pick3; split; exact hx; split; exact hy; exact hz
  show verAt (take4 zs _ _ _ _) id = verAt (take4 zs _ _ _ _) id
  rw [take4_ver h (hp _) (hp _) (hp _), take4_ver h (hp _) (hp _) (hp _)]
  obtain ⟨q1, q2, q3⟩ := rows_apart b c hb hc
  exact steps_perm (verAt zs id) x y z id (row2 b c 0) (row2 b c 1) (row2 b c 2) (row1 a 3) (row2 b c 3) (row2_lt _ _ _) (row2_lt _ _ _) (row2_lt _ _ _) (row1_lt _ _) (row2_lt _ _ _) q1 q2 q3
theorem any_same (h : erightB zs = true) (hx : reB x = true) (hy : reB y = true) (hz : reB z = true) (hb : 0 ≤ b) (hc : 0 ≤ c) :
    (seqT zs (fun k => pick3 x y z (row1 a k)) 4).map (fun x => (x.id, x.ver)) = (seqT zs (fun k => pick3 x y z (row2 b c k)) 4).map (fun x => (x.id, x.ver)) := by
  have hp : ∀ j, reB (pick3 x y z j) = true := fun j => by unfold pick3; split; exact hx; split; exact hy; exact hz
  exact held_same _ _ (rise_of_right (seqT_right h (fun _ => hp _) 4)) (rise_of_right (seqT_right h (fun _ => hp _) 4)) (any_ver h hx hy hz hb hc)

theorem find_ver : ∀ (zs : List En) (id : Int), (findE zs id).2 = true → verAt zs id = some (findE zs id).1.ver
  | [], _, h => by simp [findE] at h
  | y :: r, id, h => by
    unfold findE at h ⊢
    unfold verAt
    by_cases he : y.id = id
    · simp [he]
    · rw [if_neg he] at h ⊢
      rw [if_neg he]
      exact find_ver r id h
theorem any_up (h : erightB zs = true) (hx : reB x = true) (hy : reB y = true) (hz : reB z = true) {u : En} (hu : u ∈ seqT zs (fun k => pick3 x y z (row1 a k)) 4) (hf : (findE zs u.id).2 = true) :
    ltV u.ver (findE zs u.id).1.ver = false := by
  have hp : ∀ j, reB (pick3 x y z j) = true := fun j => by unfold pick3; split; exact hx; split; exact hy; exact hz
  have h1 := verAt_mem (rise_of_right (seqT_right h (fun k => hp (row1 a k)) 4)) hu
  have h2 : verAt (seqT zs (fun k => pick3 x y z (row1 a k)) 4) u.id = _ := take4_ver h (hp _) (hp _) (hp _) u.id
  have h3 := step_up (pick3 x y z (row1 a 3)) u.id (step_up (pick3 x y z (row1 a 2)) u.id (step_up (pick3 x y z (row1 a 1)) u.id (step_up (pick3 x y z (row1 a 0)) u.id ⟨_, find_ver zs u.id hf, ltV_irrefl _⟩)))
  obtain ⟨v, e1, e2⟩ := h3
  rw [h1, e1] at h2
  rw [Option.some.inj h2]
  exact e2
end
end Go.Proofs.Ytfjaeohfigcciaa
