/- Notes in plain words: when one is right, its bytes, and how bytes are read as one. Nothing of a program is in here but the words for runs and entries. -/
import Derived.Test.YtfjaeohfigcciabZa
import Derived.Test.YtfjaeohfigcciabZb
import Derived.Test.YtfjaeohfigcciabZc
namespace Go.Proofs.Ytfjaeohfigcciab

structure Nt where
  (kind src dst num cur flt : Int)
  know : List Rn
  epoch : Int
  ents : List En
  next : Int
  done : Bool
  offer : List Rn
  deriving Inhabited

/-- within what the types hold -/
def Nt.ok (n : Nt) : Prop := (-9223372036854775808 ≤ n.kind ∧ n.kind ≤ 9223372036854775807) ∧ (0 ≤ n.src ∧ n.src ≤ 255) ∧ (0 ≤ n.dst ∧ n.dst ≤ 255) ∧ (0 ≤ n.num ∧ n.num ≤ 4294967295) ∧ (0 ≤ n.cur ∧ n.cur ≤ 255) ∧ (0 ≤ n.flt ∧ n.flt ≤ 255) ∧ (∀ x ∈ n.know, x.ok) ∧ (0 ≤ n.epoch ∧ n.epoch ≤ 4294967295) ∧ (∀ x ∈ n.ents, x.ok) ∧ (0 ≤ n.next ∧ n.next ≤ 255) ∧ (∀ x ∈ n.offer, x.ok)

/-- up to which item the entries come -/
def nextB (n : Nt) : Bool :=
  match n.ents with
  | [] => decide (n.next = n.cur)
  | e :: r => decide (n.cur ≤ e.id ∧ n.next = ((e :: r).getLast (by simp)).id + 1)
/-- a note is right -/
def headB (n : Nt) : Bool := decide (n.src ≤ 7 ∧ n.dst ≤ 7 ∧ n.src ≠ n.dst ∧ 1 ≤ n.num ∧ n.cur ≤ 63)
def pullB (n : Nt) : Bool := rightB n.know && decide (n.epoch = 0 ∧ n.ents = [] ∧ n.offer = [] ∧ n.next = 0 ∧ n.done = false)
def batchB (n : Nt) : Bool := decide (n.kind = 2 ∧ n.flt = 0 ∧ n.know = [] ∧ n.ents.length ≤ 4) && (erightB n.ents && (rightB n.offer && (nextB n && (decide (n.done = true ∨ (n.ents.length = 4 ∧ n.next ≤ 63)) && decide (n.cur = 0 ∨ n.offer = [])))))
def noteB (n : Nt) : Bool := headB n && (if n.kind = 1 then pullB n else batchB n)

/-! its bytes -/
def b8 (x : Int) : UInt8 := UInt8.ofNat x.toNat
def b32 (x : Int) : List UInt8 := four x.toNat
def runB (x : Rn) : List UInt8 := b8 x.r :: (b32 x.lo ++ b32 x.hi)
def runsB (l : List Rn) : List UInt8 := UInt8.ofNat l.length :: l.flatMap runB
def entB (e : En) : List UInt8 := b8 e.id :: b8 e.rep :: (b32 e.seq ++ b32 e.stamp ++ b8 e.kind :: b8 e.cls :: b32 e.val)
def entsB (l : List En) : List UInt8 := UInt8.ofNat l.length :: l.flatMap entB
def noteBytes (n : Nt) : List UInt8 :=
  b8 n.kind :: b8 n.src :: b8 n.dst :: (b32 n.num ++ b8 n.cur ::
    (if n.kind = 1 then b8 n.flt :: runsB n.know
     else b32 n.epoch ++ (entsB n.ents ++ b8 n.next :: (if n.done then 1 else 0) :: runsB n.offer)))

/-! how bytes are read -/
/-- how far a payload is read, and whether a field didn't end -/
structure Rd where
  at_ : Nat
  bad : Bool
  deriving Inhabited, DecidableEq
def valOf (l : List UInt8) : Nat := l.foldl (fun v c => v * 256 + c.toNat) 0
def rdNum (b : List UInt8) (s : Rd) (n : Nat) : Nat × Rd := if s.bad = true ∨ b.length < s.at_ + n then (0, ⟨s.at_, true⟩) else (valOf ((b.drop s.at_).take n), ⟨s.at_ + n, false⟩)
def rdWithin (b : List UInt8) (s : Rd) (lo hi : Nat) : Nat × Rd :=
  let p := rdNum b s 1
  if p.2.bad = false ∧ (p.1 < lo ∨ hi < p.1) then (p.1, ⟨p.2.at_ - 1, true⟩) else p
def rdRun (b : List UInt8) (s : Rd) : Rn × Rd :=
  let p := rdNum b s 1
  let q := rdNum b p.2 4
  let t := rdNum b q.2 4
  (⟨p.1, q.1, t.1⟩, t.2)
def rdRunsN (b : List UInt8) : Nat → List Rn → Rd → List Rn × Rd
  | 0, acc, s => (acc, s)
  | n + 1, acc, s => if s.bad = true then (acc, s) else rdRunsN b n (acc ++ [(rdRun b s).1]) (rdRun b s).2
def rdRuns (b : List UInt8) (s : Rd) : List Rn × Rd := rdRunsN b (rdNum b s 1).1 [] (rdNum b s 1).2
def rdEnt (b : List UInt8) (s : Rd) : En × Rd :=
  let i := rdNum b s 1
  let r := rdNum b i.2 1
  let q := rdNum b r.2 4
  let t := rdNum b q.2 4
  let k := rdNum b t.2 1
  let c := rdNum b k.2 1
  let v := rdNum b c.2 4
  (⟨i.1, r.1, q.1, t.1, k.1, c.1, v.1⟩, v.2)
def rdEntsN (b : List UInt8) : Nat → List En → Rd → List En × Rd
  | 0, acc, s => (acc, s)
  | n + 1, acc, s => if s.bad = true then (acc, s) else rdEntsN b n (acc ++ [(rdEnt b s).1]) (rdEnt b s).2
def rdNote (b : List UInt8) : Nt × Rd :=
  let k := rdWithin b ⟨0, false⟩ 1 2
  let f := rdNum b k.2 1
  let t := rdNum b f.2 1
  let n := rdNum b t.2 4
  let c := rdNum b n.2 1
  if k.1 = 1 then
    let fl := rdNum b c.2 1
    let kn := rdRuns b fl.2
    (⟨k.1, f.1, t.1, n.1, c.1, fl.1, kn.1, 0, [], 0, false, []⟩, kn.2)
  else
    let ep := rdNum b c.2 4
    let m := rdNum b ep.2 1
    let es := rdEntsN b m.1 [] m.2
    let nx := rdNum b es.2 1
    let d := rdWithin b nx.2 0 1
    let o := rdRuns b d.2
    (⟨k.1, f.1, t.1, n.1, c.1, 0, [], ep.1, es.1, nx.1, decide (d.1 = 1), o.1⟩, o.2)
/-- a note, or a code and a place (-1: none) -/
def readR (f : List UInt8) : Except (Int × Int) Nt :=
  match openR f with
  | .error c => .error (c, -1)
  | .ok b =>
    let p := rdNote b
    if p.2.bad = true ∨ p.2.at_ < b.length then .error (3, p.2.at_) else if noteB p.1 = false then .error (3, b.length) else .ok p.1

/-! what is read stays what it was with more bytes behind -/
theorem num_ext (b x : List UInt8) (s : Rd) (n : Nat) (h : (rdNum b s n).2.bad = false) : rdNum (b ++ x) s n = rdNum b s n := by
  unfold rdNum at *
  split at h
  · cases h
  · rename_i hc
    rw [if_neg hc, if_neg (by simp only [List.length_append] at *; simp only [not_or] at *; exact ⟨hc.1, by omega⟩)]
    simp only [not_or] at hc
    rw [List.drop_append_of_le_length (by omega), List.take_append_of_le_length (by simp; omega)]
theorem num_bad (b : List UInt8) (s : Rd) (n : Nat) (h : (rdNum b s n).2.bad = false) : s.bad = false := by
  unfold rdNum at h
  split at h
  · cases h
  · rename_i hc; simp only [not_or] at hc; simpa using hc.1
theorem within_ext (b x : List UInt8) (s : Rd) (lo hi : Nat) (h : (rdWithin b s lo hi).2.bad = false) : rdWithin (b ++ x) s lo hi = rdWithin b s lo hi := by
  unfold rdWithin at *
  simp only at *
  split at h
  · cases h
  · rename_i hc
    rw [num_ext b x s 1 h, if_neg hc]
theorem within_bad (b : List UInt8) (s : Rd) (lo hi : Nat) (h : (rdWithin b s lo hi).2.bad = false) : s.bad = false := by
  unfold rdWithin at h
  simp only at h
  split at h
  · cases h
  · exact num_bad b s 1 h
theorem run_bad (b : List UInt8) (s : Rd) (h : (rdRun b s).2.bad = false) : s.bad = false :=
  num_bad _ _ _ (num_bad _ _ _ (num_bad _ _ _ h))
theorem run_ext (b x : List UInt8) (s : Rd) (h : (rdRun b s).2.bad = false) : rdRun (b ++ x) s = rdRun b s := by
  have h3 := h
  have h2 := num_bad _ _ _ h3
  have h1 := num_bad _ _ _ h2
  unfold rdRun
  simp only
  rw [num_ext b x s 1 h1, num_ext b x _ 4 h2, num_ext b x _ 4 h3]
theorem runsN_step (b : List UInt8) (n : Nat) (acc : List Rn) (s : Rd) (h : s.bad = false) : rdRunsN b (n + 1) acc s = rdRunsN b n (acc ++ [(rdRun b s).1]) (rdRun b s).2 := by
  rw [rdRunsN, if_neg (by simp [h])]
theorem runsN_bad (b : List UInt8) (n : Nat) (acc : List Rn) (s : Rd) (h : (rdRunsN b n acc s).2.bad = false) : s.bad = false := by
  cases n with
  | zero => exact h
  | succ n =>
    unfold rdRunsN at h
    split at h
    · rename_i hc; rw [hc] at h; cases h
    · rename_i hc; simpa using hc
theorem runsN_ext (b x : List UInt8) (n : Nat) (acc : List Rn) (s : Rd) (h : (rdRunsN b n acc s).2.bad = false) : rdRunsN (b ++ x) n acc s = rdRunsN b n acc s := by
  induction n generalizing acc s with
  | zero => rfl
  | succ n ih =>
    have hs := runsN_bad _ _ _ _ h
    rw [runsN_step _ _ _ _ hs] at h
    have hr := runsN_bad _ _ _ _ h
    rw [runsN_step _ _ _ _ hs, runsN_step _ _ _ _ hs, run_ext b x s hr]
    exact ih _ _ h
theorem runs_bad (b : List UInt8) (s : Rd) (h : (rdRuns b s).2.bad = false) : s.bad = false := num_bad _ _ _ (runsN_bad _ _ _ _ h)
theorem runs_ext (b x : List UInt8) (s : Rd) (h : (rdRuns b s).2.bad = false) : rdRuns (b ++ x) s = rdRuns b s := by
  have h1 := runsN_bad _ _ _ _ h
  unfold rdRuns at *
  rw [num_ext b x s 1 h1]
  exact runsN_ext _ _ _ _ _ h
theorem ent_bad (b : List UInt8) (s : Rd) (h : (rdEnt b s).2.bad = false) : s.bad = false :=
  num_bad _ _ _ (num_bad _ _ _ (num_bad _ _ _ (num_bad _ _ _ (num_bad _ _ _ (num_bad _ _ _ (num_bad _ _ _ h))))))
theorem ent_ext (b x : List UInt8) (s : Rd) (h : (rdEnt b s).2.bad = false) : rdEnt (b ++ x) s = rdEnt b s := by
  have h7 := h
  have h6 := num_bad _ _ _ h7
  have h5 := num_bad _ _ _ h6
  have h4 := num_bad _ _ _ h5
  have h3 := num_bad _ _ _ h4
  have h2 := num_bad _ _ _ h3
  have h1 := num_bad _ _ _ h2
  unfold rdEnt
  simp only
  rw [num_ext b x s 1 h1, num_ext b x _ 1 h2, num_ext b x _ 4 h3, num_ext b x _ 4 h4, num_ext b x _ 1 h5, num_ext b x _ 1 h6, num_ext b x _ 4 h7]
theorem entsN_step (b : List UInt8) (n : Nat) (acc : List En) (s : Rd) (h : s.bad = false) : rdEntsN b (n + 1) acc s = rdEntsN b n (acc ++ [(rdEnt b s).1]) (rdEnt b s).2 := by
  rw [rdEntsN, if_neg (by simp [h])]
theorem entsN_bad (b : List UInt8) (n : Nat) (acc : List En) (s : Rd) (h : (rdEntsN b n acc s).2.bad = false) : s.bad = false := by
  cases n with
  | zero => exact h
  | succ n =>
    unfold rdEntsN at h
    split at h
    · rename_i hc; rw [hc] at h; cases h
    · rename_i hc; simpa using hc
theorem entsN_ext (b x : List UInt8) (n : Nat) (acc : List En) (s : Rd) (h : (rdEntsN b n acc s).2.bad = false) : rdEntsN (b ++ x) n acc s = rdEntsN b n acc s := by
  induction n generalizing acc s with
  | zero => rfl
  | succ n ih =>
    have hs := entsN_bad _ _ _ _ h
    rw [entsN_step _ _ _ _ hs] at h
    have hr := entsN_bad _ _ _ _ h
    rw [entsN_step _ _ _ _ hs, entsN_step _ _ _ _ hs, ent_ext b x s hr]
    exact ih _ _ h
theorem note_ext (b x : List UInt8) (h : (rdNote b).2.bad = false) : rdNote (b ++ x) = rdNote b := by
  unfold rdNote at *
  simp only at *
  by_cases hk : (rdWithin b ⟨0, false⟩ 1 2).1 = 1
  · rw [if_pos hk] at h ⊢
    simp only at h
    have h6 := runs_bad _ _ h
    have h5 := num_bad _ _ _ h6
    have h4 := num_bad _ _ _ h5
    have h3 := num_bad _ _ _ h4
    have h2 := num_bad _ _ _ h3
    have h1 := num_bad _ _ _ h2
    rw [within_ext b x _ 1 2 h1, if_pos hk, num_ext b x _ 1 h2, num_ext b x _ 1 h3, num_ext b x _ 4 h4, num_ext b x _ 1 h5, num_ext b x _ 1 h6, runs_ext b x _ h]
  · rw [if_neg hk] at h ⊢
    simp only at h
    have h10 := runs_bad _ _ h
    have h9 := within_bad _ _ _ _ h10
    have h8 := num_bad _ _ _ h9
    have h7 := entsN_bad _ _ _ _ h8
    have h6 := num_bad _ _ _ h7
    have h5 := num_bad _ _ _ h6
    have h4 := num_bad _ _ _ h5
    have h3 := num_bad _ _ _ h4
    have h2 := num_bad _ _ _ h3
    have h1 := num_bad _ _ _ h2
    rw [within_ext b x _ 1 2 h1, if_neg hk, num_ext b x _ 1 h2, num_ext b x _ 1 h3, num_ext b x _ 4 h4, num_ext b x _ 1 h5, num_ext b x _ 4 h6, num_ext b x _ 1 h7, entsN_ext b x _ _ _ h8, num_ext b x _ 1 h9, within_ext b x _ 0 1 h10, runs_ext b x _ h]
end Go.Proofs.Ytfjaeohfigcciab

