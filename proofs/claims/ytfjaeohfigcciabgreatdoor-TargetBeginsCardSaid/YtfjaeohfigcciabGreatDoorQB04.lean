/- Texts in one: IMath, Lays, Has, RApp, App, Around, Drop, Join, Math, IIn. -/
import Derived.Shelf.SlGeneric
import Derived.Shelf.SlSortCmp.WholeK
import Derived.Shelf.SlicesQ.IndexFunc
import Derived.Shelf.Spec.SlicesGrow
import Derived.Ground.SlgfProg
import Derived.Ground.SlsfProg
import Derived.Ground.Names8Prog
import Derived.Test.YtfjaeohfigcciabGreatDoorProg
import Derived.Test.YtfjaeohfigcciabGreatDoorRows
import Derived.WalkKit
import Derived.Laws.AppendOwnNone
import Derived.Lib.Hide
import Derived.Deep.DeepCutAuto
import Derived.RegionTactic
import Derived.BigRegion
import Derived.Test.YtfjaeohfigcciabGreatDoorQB03
import Derived.Test.YtfjaeohfigcciabGreatDoorQB01
import Derived.Test.YtfjaeohfigcciabGreatDoorQB00
set_option linter.unusedVariables false
set_option linter.unusedSimpArgs false
set_option linter.unusedSectionVars false
set_option linter.unnecessarySimpa false
namespace Go.Proofs.YtfjaeohfigcciabGreatDoor

abbrev Rise (zs : List En) : Prop := zs.Pairwise (fun a b => a.id < b.id)

theorem rise_of_right {zs : List En} (h : erightB zs = true) : Rise zs := by
  refine List.pairwise_iff_getElem.2 ?_
  intro i j hi hj hij
  have h1 := right_le h (i + 1) (j - (i + 1)) (by omega)
  have h2 := right_step h (j := i) (by omega)
  rw [show i + 1 + (j - (i + 1)) = j by omega] at h1
  rw [getElem!_pos zs i hi, getElem!_pos zs (i + 1) (by omega)] at h2
  rw [getElem!_pos zs (i + 1) (by omega), getElem!_pos zs j hj] at h1
  omega
theorem re_of_right {zs : List En} (h : erightB zs = true) : ∀ x ∈ zs, reB x = true := by
  intro x hx
  obtain ⟨i, hi, rfl⟩ := List.mem_iff_getElem.1 hx
  simp only [erightB, List.all_eq_true, List.mem_range] at h
  have := h i hi
  simp only [eokAt, Bool.and_eq_true] at this
  rw [getElem!_pos zs i hi] at this
  exact this.1
theorem right_of {zs : List En} (h : Rise zs) (hr : ∀ x ∈ zs, reB x = true) : erightB zs = true := by
  apply erightB_true
  intro j hj
  have h := List.pairwise_iff_getElem.1 h
  simp only [eokAt, Bool.and_eq_true, Bool.or_eq_true, decide_eq_true_eq]
  refine ⟨by rw [getElem!_pos zs j hj]; exact hr _ (List.getElem_mem hj), ?_⟩
  rcases Nat.eq_zero_or_pos j with h0 | h0
  · exact .inl h0
  · right
    rw [getElem!_pos zs j hj, getElem!_pos zs (j - 1) (by omega)]
    exact h (j - 1) j (by omega) hj (by omega)

def takeS : List En → En → List En
  | [], e => [e]
  | x :: r, e => if x.id < e.id then x :: takeS r e else if x.id = e.id then (if repB e x = true then e else x) :: r else e :: x :: r

theorem takeL_cons_lt {x e : En} {r : List En} (h : x.id < e.id) : takeL (x :: r) e = x :: takeL r e := by
  have hp : posE (x :: r) e.id = posE r e.id + 1 := by simp [posE, List.countP_cons, h]
  have hg : (x :: r)[posE r e.id + 1]! = r[posE r e.id]! := by simp
  unfold takeL
  rw [hp, hg, List.length_cons]
  rw [show decide (posE r e.id + 1 < r.length + 1) = decide (posE r e.id < r.length) by simp]
  split
  · split
    · rw [List.set_cons_succ]
    · rfl
  · simp [insL]
theorem takeL_cons_ge {x e : En} {r : List En} (h : ¬ x.id < e.id) (hr : ∀ y ∈ r, x.id < y.id) : takeL (x :: r) e = if x.id = e.id then (if repB e x = true then e else x) :: r else e :: x :: r := by
  have hp : posE (x :: r) e.id = 0 := by
    simp only [posE, List.countP_eq_zero, List.mem_cons, decide_eq_true_eq]
    rintro y (rfl | hy)
    · exact h
    · have := hr y hy; omega
  unfold takeL
  rw [hp]
  by_cases he : x.id = e.id
  · by_cases hb : repB e x = true
    · simp [he, hb]
    · simp [he, hb]
  · simp [he, insL]
theorem takeL_eq {zs : List En} (e : En) (h : Rise zs) : takeL zs e = takeS zs e := by
  induction zs with
  | nil => simp [takeL, takeS, posE, insL]
  | cons x r ih =>
    have h := List.pairwise_cons.1 h
    by_cases hlt : x.id < e.id
    · rw [takeL_cons_lt hlt, takeS, if_pos hlt, ih h.2]
    · rw [takeL_cons_ge hlt h.1, takeS, if_neg hlt]

theorem mem_takeS {zs : List En} {e y : En} (h : y ∈ takeS zs e) : y = e ∨ y ∈ zs := by
  induction zs with
  | nil => simp [takeS] at h; exact .inl h
  | cons x r ih =>
    unfold takeS at h
    split at h
    · rcases List.mem_cons.1 h with h1 | h1
      · exact .inr (by simp [h1])
      · rcases ih h1 with h2 | h2
        · exact .inl h2
        · exact .inr (by simp [h2])
    · split at h
      · rcases List.mem_cons.1 h with h1 | h1
        · split at h1
          · exact .inl h1
          · exact .inr (by simp [h1])
        · exact .inr (by simp [h1])
      · rcases List.mem_cons.1 h with h1 | h1
        · exact .inl h1
        · exact .inr h1
theorem takeS_rise {zs : List En} (e : En) (h : Rise zs) : Rise (takeS zs e) := by
  induction zs with
  | nil => simp [takeS, Rise]
  | cons x r ih =>
    have h' := List.pairwise_cons.1 h
    unfold takeS
    split
    · next hlt =>
      refine List.pairwise_cons.2 ⟨fun y hy => ?_, ih h'.2⟩
      rcases mem_takeS hy with h1 | h1
      · rw [h1]; exact hlt
      · exact h'.1 y h1
    · split
      · next hlt heq =>
        refine List.pairwise_cons.2 ⟨fun y hy => ?_, h'.2⟩
        have := h'.1 y hy
        split <;> omega
      · next hlt hne =>
        refine List.pairwise_cons.2 ⟨fun y hy => ?_, h⟩
        rcases List.mem_cons.1 hy with h1 | h1
        · rw [h1]; omega
        · have := h'.1 y h1; omega
theorem takeS_length (zs : List En) (e : En) : (takeS zs e).length ≤ zs.length + 1 := by
  induction zs with
  | nil => simp [takeS]
  | cons x r ih =>
    unfold takeS
    split
    · simp only [List.length_cons]; omega
    · split <;> simp
/-- the version that is held of an ID -/
def verAt : List En → Int → Option Vr
  | [], _ => none
  | x :: r, id => if x.id = id then some x.ver else verAt r id
theorem verAt_none {zs : List En} {id : Int} (h : ∀ y ∈ zs, id < y.id) : verAt zs id = none := by
  induction zs with
  | nil => rfl
  | cons x r ih =>
    have := h x (by simp)
    rw [verAt, if_neg (by omega), ih (fun y hy => h y (by simp [hy]))]
def mx : Option Vr → Vr → Vr
  | none, v => v
  | some u, v => if ltV u v = true then v else u
def stepV (o : Option Vr) (e : En) (id : Int) : Option Vr := if id = e.id then some (mx o e.ver) else o
theorem rep_ver (e x : En) : (if repB e x = true then e else x).ver = mx (some x.ver) e.ver := by
  unfold mx repB
  by_cases h : ltV x.ver e.ver = true
  · simp [h]
  · by_cases h2 : x.ver = e.ver
    · by_cases h3 : x.kind = 2 ∧ e.kind ≠ 2
      · simp [h2, h3, ltV_irrefl]
      · have : (decide (x.kind = 2) && decide (e.kind ≠ 2)) = false := by
          rw [Bool.eq_false_iff]; simp only [ne_eq, Bool.and_eq_true, decide_eq_true_eq]; exact h3
        rw [this]; simp [h2, ltV_irrefl]
    · simp [h, h2]
theorem rep_id (e x : En) (h : x.id = e.id) : (if repB e x = true then e else x).id = e.id := by split <;> simp [h]
theorem verAt_take {zs : List En} (e : En) (id : Int) (h : Rise zs) : verAt (takeS zs e) id = stepV (verAt zs id) e id := by
  induction zs with
  | nil =>
    simp only [takeS, verAt, stepV, mx]
    by_cases he : id = e.id
    · rw [if_pos he.symm, if_pos he]
    · rw [if_neg (fun h => he h.symm), if_neg he]
  | cons x r ih =>
    have h' := List.pairwise_cons.1 h
    unfold takeS
    by_cases hlt : x.id < e.id
    · rw [if_pos hlt, verAt, verAt, ih h'.2]
      by_cases hx : x.id = id
      · rw [if_pos hx, if_pos hx, stepV, if_neg (by omega)]
      · rw [if_neg hx, if_neg hx]
    · rw [if_neg hlt]
      by_cases he : x.id = e.id
      · rw [if_pos he, verAt, verAt, rep_id e x he, rep_ver]
        by_cases hx : e.id = id
        · rw [if_pos hx, if_pos (by omega), stepV, if_pos hx.symm]
        · rw [if_neg hx, if_neg (by omega), stepV, if_neg (fun h => hx h.symm)]
      · rw [if_neg he, verAt]
        by_cases hx : e.id = id
        · have hn : verAt (x :: r) id = none := verAt_none (fun y hy => by
            rcases List.mem_cons.1 hy with h1 | h1
            · rw [h1]; omega
            · have := h'.1 y h1; omega)
          rw [if_pos hx, hn, stepV, if_pos hx.symm, mx]
        · rw [if_neg hx, stepV, if_neg (fun h => hx h.symm)]

/-- what was held is not less than what is -/
theorem step_up {u : Vr} {o : Option Vr} (e : En) (id : Int) (h : ∃ v, o = some v ∧ ltV v u = false) : ∃ v, stepV o e id = some v ∧ ltV v u = false := by
  obtain ⟨v, rfl, hv⟩ := h
  unfold stepV
  split
  · refine ⟨_, rfl, ?_⟩
    simp only [mx]
    split
    · next h =>
      by_cases h2 : ltV e.ver u = true
      · have := ltV_trans h h2; rw [hv] at this; cases this
      · simpa using h2
    · exact hv
  · exact ⟨v, rfl, hv⟩

end Go.Proofs.YtfjaeohfigcciabGreatDoor

namespace Go.Proofs
open Go.Shelf
def Tryz.lContains_ren : Go.Shelf.Ren := ⟨fun | 8 => 88 | 6 => 119 | n => n, fun | 22 => 23 | 23 => 67 | 25 => 123 | 4 => 4 | 3 => 3 | 0 => 0 | n => n, fun | n => n⟩
theorem Tryz.lContains : Go.Proofs.SlLaysH0.n8 Tryz.prog Tryz.lContains_ren := {
  mixed := by kernel_rfl
  f6 := ⟨Tryz.f119.name, by decide, Tryz.func119.trans (congrArg some (by kernel_rfl))⟩
  f8 := ⟨Tryz.f88.name, by decide, Tryz.func88.trans (congrArg some (by kernel_rfl))⟩
  t0 := Tryz.underlying0
  a0 := Tryz.isAgg0
  z0 := Tryz.sizeOf0
  v0 := Tryz.zeroValue0
  t3 := Tryz.underlying3
  a3 := Tryz.isAgg3
  z3 := Tryz.sizeOf3
  v3 := Tryz.zeroValue3
  t4 := Tryz.underlying4
  a4 := Tryz.isAgg4
  z4 := Tryz.sizeOf4
  v4 := Tryz.zeroValue4
  t22 := Tryz.underlying23
  a22 := Tryz.isAgg23
  z22 := Tryz.sizeOf23
  v22 := Tryz.zeroValue23
  t25 := Tryz.underlying123
  a25 := Tryz.isAgg123
  z25 := Tryz.sizeOf123
  v25 := Tryz.zeroValue123 }
def Tryz.lEContains_ren : Go.Shelf.Ren := ⟨fun | 8 => 91 | 6 => 122 | n => n, fun | 22 => 24 | 23 => 62 | 25 => 126 | 4 => 4 | 3 => 3 | 0 => 0 | n => n, fun | n => n⟩
theorem Tryz.lEContains : Go.Proofs.SlLaysH0.n8 Tryz.prog Tryz.lEContains_ren := {
  mixed := by kernel_rfl
  f6 := ⟨Tryz.f122.name, by decide, Tryz.func122.trans (congrArg some (by kernel_rfl))⟩
  f8 := ⟨Tryz.f91.name, by decide, Tryz.func91.trans (congrArg some (by kernel_rfl))⟩
  t0 := Tryz.underlying0
  a0 := Tryz.isAgg0
  z0 := Tryz.sizeOf0
  v0 := Tryz.zeroValue0
  t3 := Tryz.underlying3
  a3 := Tryz.isAgg3
  z3 := Tryz.sizeOf3
  v3 := Tryz.zeroValue3
  t4 := Tryz.underlying4
  a4 := Tryz.isAgg4
  z4 := Tryz.sizeOf4
  v4 := Tryz.zeroValue4
  t22 := Tryz.underlying24
  a22 := Tryz.isAgg24
  z22 := Tryz.sizeOf24
  v22 := Tryz.zeroValue24
  t25 := Tryz.underlying126
  a25 := Tryz.isAgg126
  z25 := Tryz.sizeOf126
  v25 := Tryz.zeroValue126 }
def Tryz.lSort_ren : Go.Shelf.Ren := ⟨fun | 6 => 135 | 15 => 149 | 14 => 148 | 28 => 162 | 29 => 163 | 20 => 154 | 21 => 155 | 22 => 156 | 23 => 157 | 24 => 158 | 25 => 159 | 26 => 160 | 27 => 161 | 46 => 165 | 47 => 166 | 48 => 167 | 49 => 168 | 50 => 169 | 57 => 170 | n => n, fun | 22 => 23 | 24 => 67 | 25 => 172 | 3 => 3 | 39 => 181 | 0 => 0 | 53 => 22 | 55 => 130 | 4 => 4 | 46 => 187 | 45 => 186 | 50 => 164 | 5 => 5 | 9 => 9 | 66 => 196 | 70 => 200 | 76 => 202 | 77 => 203 | n => n, fun | n => n⟩
theorem Tryz.lSort : Go.Proofs.SlLaysF0.n6 Tryz.prog Tryz.lSort_ren := {
  mixed := by kernel_rfl
  f6 := ⟨Tryz.f135.name, by decide, Tryz.func135.trans (congrArg some (by kernel_rfl))⟩
  f14 := ⟨Tryz.f148.name, by decide, Tryz.func148.trans (congrArg some (by kernel_rfl))⟩
  f15 := Tryz.func149.trans (congrArg some (by kernel_rfl))
  f20 := ⟨Tryz.f154.name, by decide, Tryz.func154.trans (congrArg some (by kernel_rfl))⟩
  f21 := ⟨Tryz.f155.name, by decide, Tryz.func155.trans (congrArg some (by kernel_rfl))⟩
  f22 := ⟨Tryz.f156.name, by decide, Tryz.func156.trans (congrArg some (by kernel_rfl))⟩
  f23 := ⟨Tryz.f157.name, by decide, Tryz.func157.trans (congrArg some (by kernel_rfl))⟩
  f24 := ⟨Tryz.f158.name, by decide, Tryz.func158.trans (congrArg some (by kernel_rfl))⟩
  f25 := ⟨Tryz.f159.name, by decide, Tryz.func159.trans (congrArg some (by kernel_rfl))⟩
  f26 := ⟨Tryz.f160.name, by decide, Tryz.func160.trans (congrArg some (by kernel_rfl))⟩
  f27 := ⟨Tryz.f161.name, by decide, Tryz.func161.trans (congrArg some (by kernel_rfl))⟩
  f28 := Tryz.func162.trans (congrArg some (by kernel_rfl))
  f29 := Tryz.func163.trans (congrArg some (by kernel_rfl))
  f46 := ⟨Tryz.f165.name, by decide, Tryz.func165.trans (congrArg some (by kernel_rfl))⟩
  f47 := Tryz.func166.trans (congrArg some (by kernel_rfl))
  f48 := Tryz.func167.trans (congrArg some (by kernel_rfl))
  f49 := ⟨Tryz.f168.name, by decide, Tryz.func168.trans (congrArg some (by kernel_rfl))⟩
  f50 := ⟨Tryz.f169.name, by decide, Tryz.func169.trans (congrArg some (by kernel_rfl))⟩
  f57 := ⟨Tryz.f170.name, by decide, Tryz.func170.trans (congrArg some (by kernel_rfl))⟩
  t0 := Tryz.underlying0
  a0 := Tryz.isAgg0
  z0 := Tryz.sizeOf0
  v0 := Tryz.zeroValue0
  t3 := Tryz.underlying3
  a3 := Tryz.isAgg3
  z3 := Tryz.sizeOf3
  v3 := Tryz.zeroValue3
  t4 := Tryz.underlying4
  a4 := Tryz.isAgg4
  z4 := Tryz.sizeOf4
  v4 := Tryz.zeroValue4
  t5 := Tryz.underlying5
  a5 := Tryz.isAgg5
  z5 := Tryz.sizeOf5
  v5 := Tryz.zeroValue5
  t9 := Tryz.underlying9
  a9 := Tryz.isAgg9
  z9 := Tryz.sizeOf9
  v9 := Tryz.zeroValue9
  t22 := Tryz.underlying23
  a22 := Tryz.isAgg23
  z22 := Tryz.sizeOf23
  v22 := Tryz.zeroValue23
  t25 := Tryz.underlying172
  a25 := Tryz.isAgg172
  z25 := Tryz.sizeOf172
  v25 := Tryz.zeroValue172
  t39 := Tryz.underlying181
  a39 := Tryz.isAgg181
  z39 := Tryz.sizeOf181
  v39 := Tryz.zeroValue181
  t45 := Tryz.underlying186
  a45 := Tryz.isAgg186
  z45 := Tryz.sizeOf186
  v45 := Tryz.zeroValue186
  t46 := Tryz.underlying187
  a46 := Tryz.isAgg187
  z46 := Tryz.sizeOf187
  v46 := Tryz.zeroValue187
  t50 := Tryz.underlying164
  a50 := Tryz.isAgg164
  z50 := Tryz.sizeOf164
  v50 := Tryz.zeroValue164
  t53 := Tryz.underlying22
  a53 := Tryz.isAgg22
  z53 := Tryz.sizeOf22
  v53 := Tryz.zeroValue22
  t55 := Tryz.underlying130
  a55 := Tryz.isAgg130
  z55 := Tryz.sizeOf130
  v55 := Tryz.zeroValue130
  t66 := Tryz.underlying196
  a66 := Tryz.isAgg196
  z66 := Tryz.sizeOf196
  v66 := Tryz.zeroValue196
  t70 := Tryz.underlying200
  a70 := Tryz.isAgg200
  z70 := Tryz.sizeOf200
  v70 := Tryz.zeroValue200
  t76 := Tryz.underlying202
  a76 := Tryz.isAgg202
  z76 := Tryz.sizeOf202
  v76 := Tryz.zeroValue202
  t77 := Tryz.underlying203
  a77 := Tryz.isAgg203
  z77 := Tryz.sizeOf203
  v77 := Tryz.zeroValue203 }
def Tryz.lGrow_ren : Go.Shelf.Ren := ⟨fun | 4 => 147 | n => n, fun | 22 => 23 | 25 => 67 | 3 => 3 | 4 => 4 | 9 => 9 | 20 => 20 | 0 => 0 | n => n, fun | n => n⟩
theorem Tryz.lGrow : Go.Proofs.Lays8.n4 Tryz.prog Tryz.lGrow_ren := {
  mixed := by kernel_rfl
  f4 := ⟨Tryz.f147.name, by decide, Tryz.func147.trans (congrArg some (by kernel_rfl))⟩
  t0 := Tryz.underlying0
  a0 := Tryz.isAgg0
  z0 := Tryz.sizeOf0
  v0 := Tryz.zeroValue0
  t3 := Tryz.underlying3
  a3 := Tryz.isAgg3
  z3 := Tryz.sizeOf3
  v3 := Tryz.zeroValue3
  t4 := Tryz.underlying4
  a4 := Tryz.isAgg4
  z4 := Tryz.sizeOf4
  v4 := Tryz.zeroValue4
  t9 := Tryz.underlying9
  a9 := Tryz.isAgg9
  z9 := Tryz.sizeOf9
  v9 := Tryz.zeroValue9
  t20 := Tryz.underlying20
  a20 := Tryz.isAgg20
  z20 := Tryz.sizeOf20
  v20 := Tryz.zeroValue20
  t22 := Tryz.underlying23
  a22 := Tryz.isAgg23
  z22 := Tryz.sizeOf23
  v22 := Tryz.zeroValue23 }
end Go.Proofs

namespace Go.Proofs.YtfjaeohfigcciabGreatDoor
open Go.RowKit Go.Sort Go.Shelf

def hasB (zs : List Rn) (p n : Int) : Bool := rightB zs && zs.any (covB · p n)

set_option maxHeartbeats 400000 in
theorem IndexFunc_none (A : Option Addr) (c : Nat) (f : Value) (w : World) :
    Calls Tryz.prog 119 #[.slice A 0 c, f] w fun e w' => e = .returned (.int .i64 (-1)) ∧ w' = w := by
  go_enter Tryz.func119, Tryz.ntmps119
  go_wp2
  refine wp_loop_rounds 1 ?_
  rw [rounds_succ]
  go_wp2
  go_ret
  exact ⟨rfl, rfl⟩
set_option maxHeartbeats 400000 in
theorem ContainsFunc_none (A : Option Addr) (c : Nat) (f : Value) (w : World) :
    Calls Tryz.prog 88 #[.slice A 0 c, f] w fun e w' => e = .returned (.bool false) ∧ w' = w := by
  go_enter Tryz.func88, Tryz.ntmps88
  go_wp2_with (go_at_call 119; refine (IndexFunc_none _ _ _ _).mono ?_; rintro e w' ⟨rfl, rfl⟩)
  go_ret
  exact ⟨rfl, rfl⟩

set_option maxHeartbeats 400000 in
theorem HasC_pred (p n : Int) (B1 B2 : Nat) (w : World) (h1 : B1 < w.heap.size) (h2 : B2 < w.heap.size) (c1 : w.cell? ⟨B1, 0, none⟩ = some (.int .u8 p)) (c2 : w.cell? ⟨B2, 0, none⟩ = some (.int .u32 n)) :
    PredBelow Tryz.prog 141 #[.pointer (some ⟨B1, 0, none⟩), .pointer (some ⟨B2, 0, none⟩)] (fun x : Rn => .agg x.enc.toArray) (fun x => covB x p n) w := fun W x hb => by
  have d1 : W.cell? ⟨B1, 0, none⟩ = some (.int .u8 p) := (hb.cell (p := ⟨B1, 0, none⟩) h1).trans c1
  have d2 : W.cell? ⟨B2, 0, none⟩ = some (.int .u32 n) := (hb.cell (p := ⟨B2, 0, none⟩) h2).trans c2
  have s1 : B1 < W.heap.size := Nat.lt_of_lt_of_le h1 hb.size
  have s2 : B2 < W.heap.size := Nat.lt_of_lt_of_le h2 hb.size
  have con := fun W' => covers_any x.r x.lo x.hi p n W'
  rw [show covB ⟨x.r, x.lo, x.hi⟩ p n = covB x p n from rfl] at con
  show Calls Tryz.prog 141 #[.agg #[.int .u8 x.r, .int .u32 x.lo, .int .u32 x.hi], .pointer (some ⟨B1, 0, none⟩), .pointer (some ⟨B2, 0, none⟩)] W fun e w' => e = .returned (.bool (covB x p n)) ∧ Below w.heap.size w w'
  generalize covB x p n = q at con ⊢
  clear c1 c2
  have n1 : B1 ≠ W.heap.size := by omega
  have n2 : B2 ≠ W.heap.size := by omega
  go_enter Tryz.func141, Tryz.ntmps141
  go_wp2_with (go_at_call 125; refine (con _).mono ?_; rintro e w' ⟨rfl, rfl⟩)
  go_ret
  exact ⟨rfl, (hb.alloc hb.size _).alloc (by simp; have := hb.size; omega) _⟩

theorem Sl.alloc {w : World} {B : Nat} {v : Value} {zs : List Rn} (h : Sl w B v zs) (hB : B ≤ w.heap.size) (o : Obj) : Sl (w.alloc o) B v zs := h.below ((Below.refl B w).alloc hB o)

/-- slices.ContainsFunc with know.Has's closure, whatever the slice -/
theorem Contains_any (p n : Int) (B1 B2 : Nat) (v : Value) (zs : List Rn) (w : World) (h : Sl w w.heap.size v zs) (h64 : zs.length ≤ 64) (h1 : B1 < w.heap.size) (h2 : B2 < w.heap.size) (c1 : w.cell? ⟨B1, 0, none⟩ = some (.int .u8 p)) (c2 : w.cell? ⟨B2, 0, none⟩ = some (.int .u32 n)) :
    Calls Tryz.prog 88 #[v, .func (.func 141) #[] #[.pointer (some ⟨B1, 0, none⟩), .pointer (some ⟨B2, 0, none⟩)]] w fun e w' => e = .returned (.bool (zs.any (covB · p n))) ∧ Below w.heap.size w w' := by
  obtain ⟨A, c, rfl, _, hok, hA⟩ := h
  rcases zs with _ | ⟨x0, zs⟩
  · exact (ContainsFunc_none A c _ w).mono fun e w' ⟨he, hw⟩ => ⟨he, by subst hw; exact Below.refl _ _⟩
  · obtain ⟨b, off, rfl, hb, hc⟩ := hA (by simp)
    have eg : ∀ args w, (callFunc 141 args).run Tryz.prog w = .ok (.enter 141 args) w := enters_of Tryz.func141 (by kernel_rfl) rfl
    have hcon := AnyQ.slices_ContainsFunc Tryz.lContains 3 Tryz.isAgg67 Tryz.sizeOf67 Rn.enc (fun _ => rfl) (fun x => covB x p n) 141 _ eg b off (x0 :: zs).length c (x0 :: zs) w
      (HasC_pred p n B1 B2 w h1 h2 c1 c2) (Nat.le_refl _) (by omega) hb (fun j hj i u hi => by
        have hat := hc j _ (List.getElem?_eq_getElem hj)
        have hg : (x0 :: zs)[j]! = (x0 :: zs)[j] := by simp [List.getElem!_eq_getElem?_getD, List.getElem?_eq_getElem hj]
        rw [hg] at hi
        generalize (x0 :: zs)[j] = y at hi hat
        obtain ⟨q0, q1, q2⟩ := hat
        match i, hi with
        | 0, hi => simp [Rn.enc] at hi; rw [← hi]; exact q0
        | 1, hi => simp [Rn.enc] at hi; rw [← hi]; exact q1
        | 2, hi => simp [Rn.enc] at hi; rw [← hi]; exact q2
        | i + 3, hi => simp [Rn.enc] at hi)
    rw [List.take_length] at hcon
    exact hcon

set_option maxHeartbeats 1000000 in
theorem Has_any (p n : Int) (v : Value) (zs : List Rn) (w : World) (h : Sl w w.heap.size v zs) :
    Calls Tryz.prog 121 #[v, .int .u8 p, .int .u32 n] w fun e w' => e = .returned (.bool (hasB zs p n)) ∧ Below w.heap.size w w' := by
  have hr := Right_any ((w.alloc (.cells #[.int .u8 p] 5)).alloc (.cells #[.int .u32 n] 22)) v zs (((h.alloc (Nat.le_refl _) _).alloc (by simp) _).more (by simp; omega))
  have hcs : Below w.heap.size w ((w.alloc (.cells #[.int .u8 p] 5)).alloc (.cells #[.int .u32 n] 22)) := ((Below.refl _ w).alloc (Nat.le_refl _) _).alloc (by simp) _
  have hk := fun w' (hb : Below ((w.alloc (.cells #[.int .u8 p] 5)).alloc (.cells #[.int .u32 n] 22)).heap.size ((w.alloc (.cells #[.int .u8 p] 5)).alloc (.cells #[.int .u32 n] 22)) w') (h64 : zs.length ≤ 64) =>
    Contains_any p n w.heap.size (w.heap.size + 1) v zs w' ((h.below (hcs.trans (hb.mono (by simp; omega)))).more (by have := hb.size; simp at this; omega)) h64 (by have := hb.size; simp at this; omega) (by have := hb.size; simp at this; omega)
      ((hb.cell (p := ⟨w.heap.size, 0, none⟩) (by simp; omega)).trans (by simp)) ((hb.cell (p := ⟨w.heap.size + 1, 0, none⟩) (by simp)).trans (by simp))
  have hback := fun w' (hb : Below ((w.alloc (.cells #[.int .u8 p] 5)).alloc (.cells #[.int .u32 n] 22)).heap.size ((w.alloc (.cells #[.int .u8 p] 5)).alloc (.cells #[.int .u32 n] 22)) w') => hcs.trans (hb.mono (by simp; omega))
  have HR := Lib.hid hr; clear hr
  have HK := Lib.hid hk; clear hk
  have HB := Lib.hid hback; clear hback
  clear hcs h
  by_cases hx : rightB zs = true
  · have h64 : zs.length ≤ 64 := by simp [rightB] at hx; exact hx.1
    have e : hasB zs p n = zs.any (covB · p n) := by simp [hasB, hx]
    rw [e]; clear e
    have hr := HR.out
    rw [hx] at hr
    have HR := Lib.hid hr; clear hr hx
    generalize zs.any (covB · p n) = q at HK ⊢
    go_enter Tryz.func121, Tryz.ntmps121
    go_wp2_with fail
    refine (HR.out).mono ?_
    rintro e w1 ⟨rfl, hb1⟩
    go_wp2_with fail
    refine (HK.out w1 hb1 h64).mono ?_
    rintro e w2 ⟨rfl, hb2⟩
    go_wp2_with fail
    go_ret
    exact ⟨rfl, (HB.out w1 hb1).trans (hb2.mono (by have := hb1.size; simp at this; omega))⟩
  · have hx : rightB zs = false := by simpa using hx
    have e : hasB zs p n = false := by simp [hasB, hx]
    rw [e]; clear e
    have hr := HR.out
    rw [hx] at hr
    have HR := Lib.hid hr; clear hr hx
    go_enter Tryz.func121, Tryz.ntmps121
    go_wp2_with fail
    refine (HR.out).mono ?_
    rintro e w1 ⟨rfl, hb1⟩
    go_wp2_with fail
    go_ret
    exact ⟨rfl, HB.out w1 hb1⟩

end Go.Proofs.YtfjaeohfigcciabGreatDoor

namespace Go.Proofs.YtfjaeohfigcciabGreatDoor
open Go.RowKit Go.Sort

theorem infoRun : (Tryz.prog.info? 67).map (fun i => (i.zero, i.size, i.bytes)) = some (some (.agg #[.int .u8 0, .int .u32 0, .int .u32 0]), 3, 12) := by kernel_rfl

/-- append of runs, from whatever slice of runs -/
theorem append_runs {ops : Array Oper} {rest : List Oper} {o : Oper} {a : Act} {w : World} {Q : Exit → Act → World → Prop} (hgd : o.guard = none) (s x : Operand)
    (ho : o.op = .call { callee := .builtin .append, args := #[s, x], argTypes := #[23, 23] })
    (base : Nat) (v : Value) (zs : List Rn) (hs : a.eval s = v) (hown : Own w base v zs) (B : Nat) (v2 : Value) (ys : List Rn) (hx : a.eval x = v2) (hsl : Sl w B v2 ys)
    (hlen : zs.length + ys.length ≤ 10000) (hbase : base ≤ w.heap.size)
    (h : ∀ v' w', Own w' base v' (zs ++ ys) → w.grownBy w' v.ownBlock → wpList Tryz.prog ops Q rest (a.put o.dst v') w') : wpList Tryz.prog ops Q (o :: rest) a w := by
  obtain ⟨i0, hi, hz0, hz1, hz2⟩ := info_parts infoRun
  obtain ⟨A, c, rfl, hn, hok, hA⟩ := hsl
  rcases A with _ | ad
  · have hy : ys = [] := by
      by_cases hne : ys = []
      · exact hne
      · obtain ⟨b, off, h, _⟩ := hA hne
        cases h
    subst hy
    obtain rfl := hn rfl
    refine wpList_append_own_none hgd s x 23 ho base 67 i0 3 Tryz.underlying23 hi v zs.length (flat zs) hs hown hx ?_
    have := h v w (by simpa using hown) ⟨rfl, rfl, rfl, Nat.le_refl _, fun _ _ _ => rfl⟩
    exact this
  · refine wpList_append_own w hgd s x 23 ho base 67 i0 _ 3 12 Tryz.underlying23 hi hz0 hz1 hz2 rfl (by decide) v zs.length (flat zs) hs hown ad ys.length c (flat ys) hx (flat_length ys) ?_ (flat_one_cell ys) (by unfold maxLen; omega) (by omega) hbase ?_
    · intro j u hu
      have hjl : j < ys.length * 3 := by
        have := (List.getElem?_eq_some_iff.1 hu).1
        rw [flat_length] at this
        exact this
      have hne : ys ≠ [] := by rintro rfl; simp at hjl
      obtain ⟨b, off, hbo, _, hc⟩ := hA hne
      cases hbo
      have hj3 : j / 3 < ys.length := by omega
      have hg := flat_get ys (j / 3) (j % 3) ys[j / 3] (List.getElem?_eq_getElem hj3) (by omega)
      rw [show j / 3 * 3 + j % 3 = j by omega, hu] at hg
      obtain ⟨q0, q1, q2⟩ := hc (j / 3) _ (List.getElem?_eq_getElem hj3)
      generalize ys[j / 3] = y at hg q0 q1 q2
      have e : ∀ m, (⟨b, off, none⟩ : Addr).add m = ⟨b, off + m, none⟩ := fun m => by unfold Addr.add; split <;> simp_all
      rw [e]
      have h3 : j % 3 = 0 ∨ j % 3 = 1 ∨ j % 3 = 2 := by omega
      rcases h3 with h3 | h3 | h3
      · rw [h3] at hg; simp [Rn.enc] at hg; subst hg
        rw [show off + j = off + j / 3 * 3 by omega]; exact q0
      · rw [h3] at hg; simp [Rn.enc] at hg; subst hg
        rw [show off + j = off + j / 3 * 3 + 1 by omega]; exact q1
      · rw [h3] at hg; simp [Rn.enc] at hg; subst hg
        rw [show off + j = off + j / 3 * 3 + 2 by omega]; exact q2
    · intro v' w' h1 h2 _
      refine h v' w' ?_ h2
      unfold Own
      rw [flat_append, List.length_append]
      exact h1

/-- a slice of one run, just built -/
theorem one_sl (w : World) (g : Nat) (r lo hi : Int) (hg : g = w.heap.size) (hx : Rn.ok ⟨r, lo, hi⟩) : Sl (w.alloc (.cells #[.int .u8 r, .int .u32 lo, .int .u32 hi] 67)) (g + 1) (.slice (some ⟨g, 0, none⟩) 1 1) [⟨r, lo, hi⟩] := by
  subst hg
  refine ⟨some ⟨w.heap.size, 0, none⟩, 1, rfl, (fun h => by simp at h), by simpa using hx, fun _ => ⟨w.heap.size, 0, rfl, by omega, fun j y hj => ?_⟩⟩
  match j, hj with
  | 0, hj => simp at hj; subst hj; exact ⟨by simp, by simp, by simp⟩
  | j + 1, hj => simp at hj

end Go.Proofs.YtfjaeohfigcciabGreatDoor

namespace Go.Proofs.YtfjaeohfigcciabGreatDoor
open Go.RowKit Go.Sort

set_option maxHeartbeats 400000 in
theorem within_yes (A : Option Addr) (n c : Nat) (w : World) (h : n ≤ 64) :
    Calls Tryz.prog 110 #[.slice A n c] w fun e w' => e = .returned (.tuple #[.slice A n c, .nilIface]) ∧ w' = w := by
  go_enter Tryz.func110, Tryz.ntmps110
  go_wp2
  go_ret2
  exact ⟨rfl, rfl⟩
set_option maxHeartbeats 400000 in
theorem within_no (A : Option Addr) (n c : Nat) (w : World) (h : 64 < n) (hn : n ≤ 1000) :
    Calls Tryz.prog 110 #[.slice A n c] w fun e w' => e = .returned (.tuple #[.slice none 0 0, .iface 74 (.int .i64 5)]) ∧ w' = w := by
  go_enter Tryz.func110, Tryz.ntmps110
  go_wp2
  go_ret2
  exact ⟨rfl, rfl⟩
end Go.Proofs.YtfjaeohfigcciabGreatDoor

namespace Go.Proofs.YtfjaeohfigcciabGreatDoor
open Go.RowKit Go.Sort

/-- a new slice of the call's own comes back -/
def OwnPost (w : World) (ys : List Rn) (e : Ending) (w' : World) : Prop := ∃ v, e = .returned v ∧ Own w' w.heap.size v ys ∧ Below w.heap.size w w'

theorem grown_below {B : Nat} {a w w' : World} {base : Nat} {v : Value} {zs : List Rn} (h : Below B a w) (ho : Own w base v zs) (hg : w.grownBy w' v.ownBlock) (hB : B ≤ base) (hw : B ≤ w.heap.size) : Below B a w' :=
  h.grown hg hw (fun k hk => by have := (ho.lt k hk).1; omega)
theorem grown_cell {w w' : World} {base : Nat} {v : Value} {zs : List Rn} (ho : Own w base v zs) (hg : w.grownBy w' v.ownBlock) {p : Addr} (hp : p.block < base) (hw : p.block < w.heap.size) : w'.cell? p = w.cell? p :=
  World.cell?_of_block (hg.block p.block hw (fun e => by have := (ho.lt p.block e.symm).1; omega))

/-- where around stands: its own slice so far, the box of its run -/
def ArRel (w : World) (x : Rn) (ys : List Rn) (s : Value) (wx : World) : Prop := Own wx (w.heap.size + 1) s ys ∧ RnAt wx w.heap.size 0 x ∧ Below w.heap.size w wx ∧ w.heap.size + 1 ≤ wx.heap.size

theorem ArRel.step {w : World} {x : Rn} {ys : List Rn} {s s' : Value} {wx wx' : World} {y : Rn} (h : ArRel w x ys s wx) (ob : Obj) (hg : (wx.alloc ob).grownBy wx' s.ownBlock) (ho : Own wx' (w.heap.size + 1) s' (ys ++ [y])) : ArRel w x (ys ++ [y]) s' wx' := by
  obtain ⟨h1, ⟨c0, c1, c2⟩, h3, h4⟩ := h
  have hb : Below w.heap.size w (wx.alloc ob) := h3.alloc (by omega) ob
  have hs : w.heap.size + 1 ≤ (wx.alloc ob).heap.size := by simp; omega
  have hc : ∀ o, wx'.cell? ⟨w.heap.size, o, none⟩ = wx.cell? ⟨w.heap.size, o, none⟩ := fun o =>
    (grown_cell (h1.alloc ob) hg (p := ⟨w.heap.size, o, none⟩) (by simp) (by simp at hs ⊢; omega)).trans (World.cell?_alloc_lt wx ob _ (by simp; omega))
  exact ⟨ho, ⟨(hc _).trans c0, (hc _).trans c1, (hc _).trans c2⟩, grown_below hb (h1.alloc ob) hg (by omega) (by omega), Nat.le_trans hs hg.size⟩

end Go.Proofs.YtfjaeohfigcciabGreatDoor

namespace Go.Proofs.YtfjaeohfigcciabGreatDoor
open Go.RowKit Go.Sort

def lim (l : List Rn) : Except Int (List Rn) := if l.length ≤ 64 then .ok l else .error 5
/-- runs, or a code, come back -/
def ResPost (w : World) (res : Except Int (List Rn)) (e : Ending) (w' : World) : Prop :=
  match res with
  | .ok l => ∃ v, e = .returned (.tuple #[v, .nilIface]) ∧ Sl w' w'.heap.size v l ∧ Below w.heap.size w w'
  | .error c => e = .returned (.tuple #[.slice none 0 0, .iface 74 (.int .i64 c)]) ∧ Below w.heap.size w w'

/-- where Drop's loop stands -/
def DropRel (w : World) (ys : List Rn) (s : Value) (wr : World) : Prop := Own wr w.heap.size s ys ∧ Below w.heap.size w wr

theorem DropRel.step {w wr wx w' : World} {ys zs : List Rn} {s s' : Value} (h : DropRel w ys s wr) (hx : Below wr.heap.size wr wx) (hg : wx.grownBy w' s.ownBlock) (ho : Own w' w.heap.size s' zs) : DropRel w zs s' w' := by
  refine ⟨ho, grown_below (h.2.trans (hx.mono h.2.size)) (h.1.below hx) hg (Nat.le_refl _) (Nat.le_trans h.2.size hx.size)⟩

end Go.Proofs.YtfjaeohfigcciabGreatDoor

namespace Go.Proofs.YtfjaeohfigcciabGreatDoor
open Go.RowKit Go.Sort

def joinS (out : List Rn) (x : Rn) : List Rn :=
  match out[out.length - 1]? with
  | none => out ++ [x]
  | some l => if apB l x then out ++ [x] else out.set (out.length - 1) ⟨l.r, l.lo, max l.hi x.hi⟩
def joinL (zs : List Rn) : List Rn := zs.foldl joinS []

theorem joinS_nil (x : Rn) : joinS [] x = [] ++ [x] := rfl
theorem joinS_app {Y : List Rn} {m : Nat} {y x : Rn} (hm : Y.length = m + 1) (hy : Y[m]? = some y) (h : apB y x = true) : joinS Y x = Y ++ [x] := by
  unfold joinS
  rw [show Y[Y.length - 1]? = some y by rw [hm]; exact hy]
  simp only [h, if_true]
theorem joinS_set {Y : List Rn} {m : Nat} {y x : Rn} (hm : Y.length = m + 1) (hy : Y[m]? = some y) (h : apB y x = false) : joinS Y x = Y.set m ⟨y.r, y.lo, max y.hi x.hi⟩ := by
  unfold joinS
  rw [show Y[Y.length - 1]? = some y by rw [hm]; exact hy]
  simp only [h, hm, Nat.add_sub_cancel]
  rfl
theorem joinS_len (Y : List Rn) (x : Rn) : (joinS Y x).length ≤ Y.length + 1 := by
  unfold joinS; split
  · simp
  · split <;> simp
theorem joinS_ok {Y : List Rn} {x : Rn} (h : ∀ y ∈ Y, y.ok) (hx : x.ok) : ∀ y ∈ joinS Y x, y.ok := by
  intro y hy
  unfold joinS at hy
  split at hy
  · simp at hy
    rcases hy with hy | rfl
    · exact h y hy
    · exact hx
  · rename_i l hl
    split at hy
    · simp at hy
      rcases hy with hy | rfl
      · exact h y hy
      · exact hx
    · rcases List.mem_or_eq_of_mem_set hy with hy | rfl
      · exact h y hy
      · obtain ⟨a1, a2, a3⟩ := h l (List.mem_of_getElem? hl)
        obtain ⟨b1, b2, b3⟩ := hx
        refine ⟨a1, a2, ?_, ?_⟩ <;> simp <;> omega
theorem joinL_take {zs : List Rn} {k : Nat} {x : Rn} (h : zs[k]? = some x) : joinL (zs.take (k + 1)) = joinS (joinL (zs.take k)) x := by
  obtain ⟨hk, hx⟩ := List.getElem?_eq_some_iff.1 h
  rw [List.take_succ_eq_append_getElem hk, hx]
  simp [joinL]
theorem foldl_ok (zs : List Rn) : ∀ Y : List Rn, (∀ y ∈ Y, y.ok) → (∀ x ∈ zs, x.ok) → (∀ y ∈ zs.foldl joinS Y, y.ok) ∧ (zs.foldl joinS Y).length ≤ Y.length + zs.length := by
  induction zs with
  | nil => intro Y h _; exact ⟨h, by simp⟩
  | cons x l ih =>
    intro Y h hx
    have := ih (joinS Y x) (joinS_ok h (hx x (by simp))) (fun z hz => hx z (by simp [hz]))
    refine ⟨this.1, ?_⟩
    have h2 := joinS_len Y x
    have h3 := this.2
    simp only [List.foldl_cons, List.length_cons]
    omega
theorem joinL_ok {zs : List Rn} (h : ∀ x ∈ zs, x.ok) : ∀ y ∈ joinL zs, y.ok := (foldl_ok zs [] (by simp) h).1
theorem joinL_len {zs : List Rn} (h : ∀ x ∈ zs, x.ok) : (joinL zs).length ≤ zs.length := by have := (foldl_ok zs [] (by simp) h).2; unfold joinL; simpa using this

theorem Own.form' {w : World} {base : Nat} {v : Value} {zs : List Rn} (h : Own w base v zs) : ∃ A n c, v = .slice A n c ∧ n = zs.length ∧ (A = none → c = 0) ∧ (zs ≠ [] → ∃ g, A = some ⟨g, 0, none⟩ ∧ base ≤ g ∧ g < w.heap.size) := by
  obtain ⟨A, c, h1, h2, h3⟩ := h.form
  exact ⟨A, _, c, h1, rfl, h2, h3⟩

set_option maxHeartbeats 2000000 in
theorem joined_any (v : Value) (zs : List Rn) (w : World) (hz : zs.length ≤ 500) (h : Sl w w.heap.size v zs) :
    Calls Tryz.prog 111 #[v] w (OwnPost w (joinL zs)) := by
  obtain ⟨A, c, rfl, _, hok, hA⟩ := h
  have HA := Lib.hid hA; clear hA
  have HK := Lib.hid hok; clear hok
  have hm : Tryz.prog.follows .mixedOrders = true := by kernel_rfl
  have HM := Lib.hid hm; clear hm
  generalize hL : joinL zs = L
  have HL := Lib.hid hL; clear hL
  go_enter Tryz.func111, Tryz.ntmps111
  go_wp2
  go_loopw [3, 9] (fun s i wr => ∃ k : Nat, i = .int .i64 k ∧ k ≤ zs.length ∧ DropRel w (joinL (zs.take k)) s wr) (fun _ i _ => zs.length - (intOf i).toNat)
  case atStart => exact ⟨0, rfl, by omega, Own.nil _ _, Below.refl _ _⟩
  case round =>
    obtain ⟨k, rfl, hk, H⟩ := hrel
    by_cases hlt : k < zs.length
    · obtain ⟨b, off, rfl, hbw, hc⟩ := HA.out (by intro h; simp [h] at hlt)
      have hxk : zs[k]? = some zs[k] := List.getElem?_eq_getElem hlt
      generalize zs[k] = x at hxk
      have hxo := HK.out x (List.mem_of_getElem? hxk)
      have hokt : ∀ y ∈ zs.take k, y.ok := fun y hy => HK.out y (List.mem_of_mem_take hy)
      have hdl := joinL_len hokt
      have hyo := joinL_ok hokt
      have hdt := joinL_take hxk
      clear hokt
      rw [List.length_take] at hdl
      have hdl' : (joinL (zs.take k)).length ≤ 500 := by omega
      clear hdl
      obtain ⟨c0, c1, c2⟩ := (hc k x hxk).keep H.2 hbw
      clear hc
      have HX := Lib.hid hxk; clear hxk
      have HO := Lib.hid hxo; clear hxo
      have HT := Lib.hid hdt; clear hdt
      have HYO := Lib.hid hyo; clear hyo
      have H0 := Lib.hid H
      have ho := H.1
      have hsz := H.2.size
      clear H
      generalize hY : joinL (zs.take k) = Y at hdl' ho HT H0 HYO
      clear hY
      have hnew := new_run wr x
      have hal := fun (B : Nat) (hB : B ≤ wr.heap.size) => (Below.refl B wr).alloc hB (.cells #[.int .u8 x.r, .int .u32 x.lo, .int .u32 x.hi] 67)
      have hsz2 : wr.heap.size ≤ (wr.alloc (.cells #[.int .u8 x.r, .int .u32 x.lo, .int .u32 x.hi] 67)).heap.size := by simp
      have hold := fun (b o : Nat) (y : Rn) (n : Nat) (os : Array Obj) (h : RnAt wr b o y) (hb : b < wr.heap.size) => old_run (B := wr.heap.size) wr (.cells #[.int .u8 x.r, .int .u32 x.lo, .int .u32 x.hi] 67) n os h hb (Nat.le_refl _)
      have HN := Lib.hid hnew; clear hnew
      have HL2 := Lib.hid hal; clear hal
      have HD := Lib.hid hold; clear hold
      obtain ⟨A2, n2, c2', rfl, hn2, hcz, hform⟩ := ho.form'
      have HF := Lib.hid hform; clear hform
      by_cases hY0 : Y = []
      · subst hY0
        obtain rfl : n2 = 0 := hn2
        clear HF
        go_wp2_with fail
        generalize hwq : wr.alloc (.cells #[.int .u8 x.r, .int .u32 x.lo, .int .u32 x.hi] 67) = wq at HN HL2 HD hsz2 ⊢
        clear hwq
        have m0 := fun n os => (HN.out n os).1
        have m1 := fun n os => (HN.out n os).2.1
        have m2 := fun n os => (HN.out n os).2.2
        have hm : Tryz.prog.follows .mixedOrders = true := HM.out
        refine wp_region_quiet_grown hm (by kernel_rfl) ?_
        repeat (any_goals (first | go_big_quiet_step (fail) | quiet_step (fail)))
        refine wpQuiet_nil ?_
        intro _ hw'
        obtain ⟨⟨nq, osq⟩, hw''⟩ := hw'
        subst hw''
        have hbn : Below wr.heap.size wr (grow (wq.drewN nq) osq) := (HL2.out _ (Nat.le_refl _)).trans (below_grow wq nq osq hsz2)
        have g0 := m0 nq osq
        have g1 := m1 nq osq
        have g2 := m2 nq osq
        clear m0 m1 m2
        generalize grow (wq.drewN nq) osq = w3 at hbn g0 g1 g2 ⊢
        have hs3 := hbn.size
        have HB3 := Lib.hid hbn; clear hbn
        clear HL2 HD HN
        go_wp2_with (at_builtin; (refine append_runs rfl _ _ rfl w.heap.size _ [] rfl ((ho.below HB3.out).alloc _) _ _ [⟨x.r, x.lo, x.hi⟩] rfl (one_sl _ _ x.r x.lo x.hi (by simp) HO.out) (by simp) (by simp; omega) ?_); intro v1 w5 ho1 hg1)
        go_roundw
        case rel =>
          refine ⟨k + 1, by go_num, by omega, ?_⟩
          rw [HT.out, joinS_nil]
          exact H0.out.step (HB3.out.alloc hs3 _) hg1 ho1
        case measure => simp [intOf]; omega
      · obtain ⟨g, rfl, hg1, hg2⟩ := HF.out hY0
        have hpos : 0 < Y.length := by
          rcases Y with _ | ⟨_, _⟩
          · exact absurd rfl hY0
          · simp
        obtain ⟨m, rfl⟩ : ∃ m, n2 = m + 1 := ⟨n2 - 1, by omega⟩
        have hym : Y[m]? = some Y[m] := List.getElem?_eq_getElem (by omega)
        generalize Y[m] = y at hym
        obtain ⟨_, ⟨_, _⟩, p5, p6⟩ := HYO.out y (List.mem_of_getElem? hym)
        obtain ⟨o3, o4⟩ := HO.out.2.1
        obtain ⟨o5, o6⟩ := HO.out.2.2
        have hya := ho.cell hn2 hym
        have HYA := Lib.hid hya; clear hya
        have r2 := fun (W : World) n os => apart_grown y.r y.lo y.hi x.r x.lo x.hi W n os p5 p6 o3 o4
        rw [show apB ⟨y.r, y.lo, y.hi⟩ ⟨x.r, x.lo, x.hi⟩ = apB y x from rfl] at r2
        have hmk : m ≤ 500 := by omega
        have HN2 := Lib.hid hn2; clear hn2
        have HYM := Lib.hid hym; clear hym
        clear HF hcz hpos
        by_cases hp : apB y x = true
        · rw [hp] at r2
          have HP := Lib.hid hp; clear hp
          have R2 := Lib.hid r2; clear r2
          go_wp2_with fail
          generalize hwq : wr.alloc (.cells #[.int .u8 x.r, .int .u32 x.lo, .int .u32 x.hi] 67) = wq at HN HL2 HD hsz2 ⊢
          clear hwq
          have m0 := fun n os => (HN.out n os).1
          have m1 := fun n os => (HN.out n os).2.1
          have m2 := fun n os => (HN.out n os).2.2
          have y0 := fun n os => (HD.out _ _ _ n os HYA.out hg2).1
          have y1 := fun n os => (HD.out _ _ _ n os HYA.out hg2).2.1
          have y2 := fun n os => (HD.out _ _ _ n os HYA.out hg2).2.2
          have i1 : IntKind.i64.wrap (m : Int) = (m : Int) := IntWalk.i64_in _ (by omega)
          have i3 : (decide ((m : Int) < 0)) = false := by simp
          have hm : Tryz.prog.follows .mixedOrders = true := HM.out
          refine wp_region_quiet_grown hm (by kernel_rfl) ?_
          repeat (any_goals (first | go_big_quiet_step (first | (go_at_call 118; exact R2.out _ _ _)) | quiet_step (first | (go_at_call 118; exact R2.out _ _ _))))
          refine wpQuiet_nil ?_
          intro _ hw'
          obtain ⟨⟨nq, osq⟩, hw''⟩ := hw'
          subst hw''
          clear i1 i3
          have hbn : Below wr.heap.size wr (grow (wq.drewN nq) osq) := (HL2.out _ (Nat.le_refl _)).trans (below_grow wq nq osq hsz2)
          have g0 := m0 nq osq
          have g1 := m1 nq osq
          have g2 := m2 nq osq
          clear m0 m1 m2 y0 y1 y2
          have hsw : wr.heap.size < (grow (wq.drewN nq) osq).heap.size := World.block_lt_of_cell? _ ⟨wr.heap.size, 0, none⟩ g0
          generalize grow (wq.drewN nq) osq = w3 at hbn g0 g1 g2 hsw ⊢
          have hs3 := hbn.size
          have HB3 := Lib.hid hbn; clear hbn
          clear HL2 HD HN
          go_wp2_with (at_builtin; (refine append_runs rfl _ _ rfl w.heap.size _ Y rfl ((ho.below HB3.out).alloc _) _ _ [⟨x.r, x.lo, x.hi⟩] rfl (one_sl _ _ x.r x.lo x.hi (by simp) HO.out) (by simp; omega) (by simp; omega) ?_); intro v1 w5 ho1 hg1)
          go_roundw
          case rel =>
            refine ⟨k + 1, by go_num, by omega, ?_⟩
            rw [HT.out, joinS_app HN2.out.symm HYM.out HP.out]
            exact H0.out.step (HB3.out.alloc hs3 _) hg1 ho1
          case measure => simp [intOf]; omega
        · have hp : apB y x = false := by simpa using hp
          rw [hp] at r2
          have HP := Lib.hid hp; clear hp
          have R2 := Lib.hid r2; clear r2
          go_wp2_with fail
          generalize hwq : wr.alloc (.cells #[.int .u8 x.r, .int .u32 x.lo, .int .u32 x.hi] 67) = wq at HN HL2 HD hsz2 ⊢
          clear hwq
          have m0 := fun n os => (HN.out n os).1
          have m1 := fun n os => (HN.out n os).2.1
          have m2 := fun n os => (HN.out n os).2.2
          have y0 := fun n os => (HD.out _ _ _ n os HYA.out hg2).1
          have y1 := fun n os => (HD.out _ _ _ n os HYA.out hg2).2.1
          have y2 := fun n os => (HD.out _ _ _ n os HYA.out hg2).2.2
          have i1 : IntKind.i64.wrap (m : Int) = (m : Int) := IntWalk.i64_in _ (by omega)
          have i3 : (decide ((m : Int) < 0)) = false := by simp
          have hm : Tryz.prog.follows .mixedOrders = true := HM.out
          refine wp_region_quiet_grown hm (by kernel_rfl) ?_
          repeat (any_goals (first | go_big_quiet_step (first | (go_at_call 118; exact R2.out _ _ _)) | quiet_step (first | (go_at_call 118; exact R2.out _ _ _))))
          refine wpQuiet_nil ?_
          intro _ hw'
          obtain ⟨⟨nq, osq⟩, hw''⟩ := hw'
          subst hw''
          clear i1 i3
          have hbn : Below wr.heap.size wr (grow (wq.drewN nq) osq) := (HL2.out _ (Nat.le_refl _)).trans (below_grow wq nq osq hsz2)
          have g0 := m0 nq osq
          have g1 := m1 nq osq
          have g2 := m2 nq osq
          clear m0 m1 m2 y0 y1 y2
          have hsw : wr.heap.size < (grow (wq.drewN nq) osq).heap.size := World.block_lt_of_cell? _ ⟨wr.heap.size, 0, none⟩ g0
          generalize grow (wq.drewN nq) osq = w3 at hbn g0 g1 g2 hsw ⊢
          have hs3 := hbn.size
          have HB3 := Lib.hid hbn; clear hbn
          clear HL2 HD HN
          have ho3 := ho.below HB3.out
          obtain ⟨q0, q1, q2⟩ := ho3.cell HN2.out HYM.out
          have hfz := ho3.frozen HN2.out (m * 3 + 2)
          have HO3 := Lib.hid ho3; clear ho3
          clear ho
          go_wp2_with fail
          go_region
          go_wp2
          go_roundw
          case rel =>
            refine ⟨k + 1, by go_num, by omega, ?_⟩
            rw [HT.out, joinS_set HN2.out.symm HYM.out HP.out]
            have hs := HO3.out.set HN2.out HYM.out (max y.hi x.hi)
            have D := H0.out.step HB3.out hs.2 hs.1
            exact ⟨D.1, D.2.drew⟩
          case measure => simp [intOf]; omega
    · have ht : zs.take k = zs := List.take_of_length_le (by omega)
      rw [ht] at H
      have H1 := Lib.hid H; clear H ht
      go_wp2
      go_ret
      rw [← HL.out]
      exact ⟨_, rfl, H1.out.1, H1.out.2⟩
end Go.Proofs.YtfjaeohfigcciabGreatDoor

namespace Go.Proofs.YtfjaeohfigcciabGreatDoor

/-- the runs are right, but for how many they are -/
def Good (l : List Rn) : Prop := (∀ x ∈ l, rrB x = true) ∧ l.Pairwise (fun x y => apB x y = true)
def covs (l : List Rn) (p n : Int) : Bool := l.any (covB · p n)

theorem rr_iff (x : Rn) : rrB x = true ↔ x.r < 8 ∧ 1 ≤ x.lo ∧ x.lo ≤ x.hi := by simp [rrB]
theorem ap_iff (x y : Rn) : apB x y = true ↔ x.r < y.r ∨ (x.r = y.r ∧ x.hi + 1 < y.lo) := by simp [apB]
theorem cov_iff (x : Rn) (p n : Int) : covB x p n = true ↔ x.r = p ∧ x.lo ≤ n ∧ n ≤ x.hi := by simp [covB]
theorem covs_iff (l : List Rn) (p n : Int) : covs l p n = true ↔ ∃ x ∈ l, x.r = p ∧ x.lo ≤ n ∧ n ≤ x.hi := by simp [covs, cov_iff]

theorem bang_eq {zs : List Rn} {i : Nat} (h : i < zs.length) : zs[i]! = zs[i] := by simp [List.getElem!_eq_getElem?_getD, List.getElem?_eq_getElem h]

theorem right_iff (zs : List Rn) : rightB zs = true ↔ zs.length ≤ 64 ∧ Good zs := by
  simp only [rightB, Bool.and_eq_true, decide_eq_true_eq, List.all_eq_true, List.mem_range]
  refine and_congr_right fun _ => ?_
  constructor
  · intro h
    have hr : ∀ i (hi : i < zs.length), rrB zs[i] = true := fun i hi => by
      have := h i hi
      simp only [okAt, bang_eq hi, Bool.and_eq_true] at this
      exact this.1
    have hs : ∀ i (hi : i + 1 < zs.length), apB zs[i] zs[i + 1] = true := fun i hi => by
      have := h (i + 1) hi
      simp only [okAt, bang_eq hi, Nat.add_sub_cancel, bang_eq (show i < zs.length by omega), Bool.and_eq_true, Bool.or_eq_true, decide_eq_true_eq] at this
      rcases this.2 with h0 | h0
      · omega
      · exact h0
    refine ⟨fun x hx => ?_, ?_⟩
    · obtain ⟨i, hi, rfl⟩ := List.mem_iff_getElem.1 hx
      exact hr i hi
    · rw [List.pairwise_iff_getElem]
      intro i j hi hj hij
      obtain ⟨d, rfl⟩ : ∃ d, j = i + 1 + d := ⟨j - (i + 1), by omega⟩
      clear hij
      induction d with
      | zero => exact hs i hj
      | succ d ih =>
        have h1 := ih (by omega)
        have h2 := hs (i + 1 + d) (by omega)
        have h3 := hr (i + 1 + d) (by omega)
        rw [ap_iff] at h1 h2 ⊢
        rw [rr_iff] at h3
        simp only [← Nat.add_assoc] at h2 ⊢
        omega
  · rintro ⟨h1, h2⟩ i hi
    simp only [okAt, bang_eq hi, Bool.and_eq_true, Bool.or_eq_true, decide_eq_true_eq]
    refine ⟨h1 _ (List.getElem_mem hi), ?_⟩
    rcases Nat.eq_zero_or_pos i with h0 | h0
    · exact .inl h0
    · right
      rw [bang_eq (show i - 1 < zs.length by omega)]
      exact List.pairwise_iff_getElem.1 h2 (i - 1) i (by omega) hi (by omega)

theorem covs_cons (x : Rn) (l : List Rn) (p n : Int) : covs (x :: l) p n = (covB x p n || covs l p n) := rfl
theorem covs_append (a b : List Rn) (p n : Int) : covs (a ++ b) p n = (covs a p n || covs b p n) := by simp [covs]
theorem covs_perm {a b : List Rn} (h : a.Perm b) (p n : Int) : covs a p n = covs b p n := by
  rw [Bool.eq_iff_iff, covs_iff, covs_iff]
  constructor <;> rintro ⟨x, hx, h'⟩
  · exact ⟨x, h.mem_iff.1 hx, h'⟩
  · exact ⟨x, h.mem_iff.2 hx, h'⟩

theorem joinS_concat (Z : List Rn) (y x : Rn) : joinS (Z ++ [y]) x = if apB y x then Z ++ [y] ++ [x] else Z ++ [⟨y.r, y.lo, max y.hi x.hi⟩] := by
  by_cases h : apB y x = true
  · rw [joinS_app (m := Z.length) (by simp) (by simp) h, if_pos h]
  · rw [joinS_set (m := Z.length) (y := y) (by simp) (by simp) (by simpa using h), if_neg h]
    simp

/-- what holds behind each step of the joining -/
def JoinInv (P Y : List Rn) : Prop := Good Y ∧ (∀ p n, covs Y p n = covs P p n) ∧ (∀ y ∈ Y, ∃ x ∈ P, x.r = y.r ∧ x.lo = y.lo)

theorem JoinInv.step {P Y : List Rn} {x : Rn} (h : JoinInv P Y) (hx : rrB x = true) (hs : ∀ z ∈ P, ¬ (x.r < z.r ∨ (x.r = z.r ∧ x.lo < z.lo))) : JoinInv (P ++ [x]) (joinS Y x) := by
  obtain ⟨⟨g1, g2⟩, hc, hl⟩ := h
  rcases List.eq_nil_or_concat Y with rfl | ⟨Z, y, rfl⟩
  · refine ⟨⟨by simpa [joinS] using hx, by simp [joinS]⟩, fun p n => ?_, fun y hy => ?_⟩
    · rw [covs_append, ← hc p n]; simp [joinS, covs]
    · simp [joinS] at hy; subst hy; exact ⟨y, by simp, rfl, rfl⟩
  · rw [List.concat_eq_append] at *
    rw [joinS_concat]
    have hy := g1 y (by simp)
    obtain ⟨z, hz, e1, e2⟩ := hl y (by simp)
    have hzx := hs z hz
    rw [List.pairwise_append] at g2
    obtain ⟨p1, _, p3⟩ := g2
    by_cases ha : apB y x = true
    · rw [if_pos ha]
      refine ⟨⟨?_, ?_⟩, fun p n => ?_, fun w hw => ?_⟩
      · intro w hw
        simp only [List.mem_append, List.mem_singleton] at hw
        rcases hw with hw | rfl
        · exact g1 w (by simpa using hw)
        · exact hx
      · rw [List.pairwise_append]
        refine ⟨List.pairwise_append.2 ⟨p1, by simp, p3⟩, by simp, fun a ha' b hb => ?_⟩
        simp at hb; subst hb
        simp only [List.mem_append, List.mem_singleton] at ha'
        rcases ha' with ha' | rfl
        · have := p3 a ha' y (by simp)
          rw [ap_iff] at this ha ⊢
          rw [rr_iff] at hy
          omega
        · exact ha
      · rw [covs_append, covs_append P, ← hc p n]
      · simp only [List.mem_append, List.mem_singleton] at hw
        rcases hw with hw | rfl
        · obtain ⟨q, hq, e⟩ := hl w (by simpa using hw)
          exact ⟨q, by simp [hq], e⟩
        · exact ⟨w, by simp, rfl, rfl⟩
    · rw [if_neg ha]
      have ha' : ¬ (y.r < x.r ∨ (y.r = x.r ∧ y.hi + 1 < x.lo)) := by rw [← ap_iff]; exact ha
      rw [rr_iff] at hx hy
      refine ⟨⟨?_, ?_⟩, fun p n => ?_, fun w hw => ?_⟩
      · intro w hw
        simp only [List.mem_append, List.mem_singleton] at hw
        rcases hw with hw | rfl
        · exact g1 w (by simp [hw])
        · rw [rr_iff]; simp only; omega
      · rw [List.pairwise_append]
        refine ⟨p1, by simp, fun a ha'' b hb => ?_⟩
        simp at hb; subst hb
        have := p3 a ha'' y (by simp)
        rw [ap_iff] at this ⊢
        exact this
      · rw [covs_append, covs_append P, ← hc p n, covs_append, Bool.or_assoc]
        congr 1
        rw [Bool.eq_iff_iff, Bool.or_eq_true]
        simp only [covs_iff, List.mem_singleton, exists_eq_left]
        omega
      · simp only [List.mem_append, List.mem_singleton] at hw
        rcases hw with hw | rfl
        · obtain ⟨q, hq, e⟩ := hl w (by simp [hw])
          exact ⟨q, by simp [hq], e⟩
        · exact ⟨z, by simp [hz], e1, e2⟩

/-- no later one is less than an earlier one -/
def Ordered (l : List Rn) : Prop := l.Pairwise (fun x y => ¬ (y.r < x.r ∨ (y.r = x.r ∧ y.lo < x.lo)))

theorem join_foldl (l : List Rn) : ∀ P Y, JoinInv P Y → (∀ x ∈ l, rrB x = true) → Ordered (P ++ l) → JoinInv (P ++ l) (l.foldl joinS Y) := by
  induction l with
  | nil => intro P Y h _ _; simpa using h
  | cons x l ih =>
    intro P Y h hr ho
    have h1 : JoinInv (P ++ [x]) (joinS Y x) := h.step (hr x (by simp)) fun z hz => by
      have := (List.pairwise_append.1 ho).2.2 z hz x (by simp)
      exact this
    have := ih (P ++ [x]) (joinS Y x) h1 (fun y hy => hr y (by simp [hy])) (by simpa using ho)
    simpa using this

theorem joinL_good {l : List Rn} (hr : ∀ x ∈ l, rrB x = true) (ho : Ordered l) : Good (joinL l) ∧ ∀ p n, covs (joinL l) p n = covs l p n := by
  have := join_foldl l [] [] ⟨⟨by simp, by simp⟩, fun _ _ => rfl, by simp⟩ hr (by simpa using ho)
  simp only [List.nil_append] at this
  exact ⟨this.1, this.2.1⟩

theorem Good.tail {x : Rn} {l : List Rn} (h : Good (x :: l)) : Good l := ⟨fun y hy => h.1 y (by simp [hy]), (List.pairwise_cons.1 h.2).2⟩
/-- the first run begins the set -/
theorem Good.first {x : Rn} {l : List Rn} (h : Good (x :: l)) {p n : Int} (hc : covs (x :: l) p n = true) : x.r < p ∨ (x.r = p ∧ x.lo ≤ n) := by
  obtain ⟨z, hz, h1, h2, _⟩ := (covs_iff _ _ _).1 hc
  rcases List.mem_cons.1 hz with rfl | hz
  · omega
  · have := (List.pairwise_cons.1 h.2).1 z hz
    have hx := h.1 x (by simp)
    rw [ap_iff] at this
    rw [rr_iff] at hx
    omega
/-- behind the first run nothing of its replica follows at once -/
theorem Good.next {x : Rn} {l : List Rn} (h : Good (x :: l)) : covs (x :: l) x.r (x.hi + 1) = false := by
  rw [← Bool.not_eq_true, covs_iff]
  rintro ⟨z, hz, h1, h2, h3⟩
  rcases List.mem_cons.1 hz with rfl | hz
  · omega
  · have := (List.pairwise_cons.1 h.2).1 z hz
    rw [ap_iff] at this
    omega
theorem Good.rest {x : Rn} {l : List Rn} (h : Good (x :: l)) (p n : Int) : covs l p n = (covs (x :: l) p n && !covB x p n) := by
  rw [covs_cons]
  by_cases hc : covB x p n = true
  · simp only [hc, Bool.true_or, Bool.not_true, Bool.and_false]
    rw [← Bool.not_eq_true, covs_iff]
    rintro ⟨z, hz, h1, h2, h3⟩
    have := (List.pairwise_cons.1 h.2).1 z hz
    rw [ap_iff] at this
    rw [cov_iff] at hc
    omega
  · have : covB x p n = false := by simpa using hc
    simp [this]
/-- right runs tell their set in one way only -/
theorem canon : ∀ (A B : List Rn), Good A → Good B → (∀ p n, covs A p n = covs B p n) → A = B
  | [], [], _, _, _ => rfl
  | [], y :: B, _, hB, h => by
    have hy := hB.1 y (by simp)
    rw [rr_iff] at hy
    have : covs (y :: B) y.r y.lo = true := (covs_iff _ _ _).2 ⟨y, by simp, rfl, by omega, by omega⟩
    rw [← h] at this
    simp [covs] at this
  | x :: A, [], hA, _, h => by
    have hx := hA.1 x (by simp)
    rw [rr_iff] at hx
    have : covs (x :: A) x.r x.lo = true := (covs_iff _ _ _).2 ⟨x, by simp, rfl, by omega, by omega⟩
    rw [h] at this
    simp [covs] at this
  | x :: A, y :: B, hA, hB, h => by
    have hx := hA.1 x (by simp)
    have hy := hB.1 y (by simp)
    rw [rr_iff] at hx hy
    have c1 : covs (x :: A) x.r x.lo = true := (covs_iff _ _ _).2 ⟨x, by simp, rfl, by omega, by omega⟩
    have c2 : covs (y :: B) y.r y.lo = true := (covs_iff _ _ _).2 ⟨y, by simp, rfl, by omega, by omega⟩
    have f1 := hA.first ((h _ _).trans c2)
    have f2 := hB.first ((h _ _).symm.trans c1)
    have n1 := hA.next
    have n2 := hB.next
    have e1 : x.r = y.r := by omega
    have e2 : x.lo = y.lo := by omega
    have e3 : x.hi = y.hi := by
      rcases Int.lt_trichotomy x.hi y.hi with hlt | heq | hgt
      · rw [h] at n1
        have : covs (y :: B) x.r (x.hi + 1) = true := (covs_iff _ _ _).2 ⟨y, by simp, e1.symm, by omega, by omega⟩
        rw [this] at n1; cases n1
      · exact heq
      · rw [← h] at n2
        have : covs (x :: A) y.r (y.hi + 1) = true := (covs_iff _ _ _).2 ⟨x, by simp, e1, by omega, by omega⟩
        rw [this] at n2; cases n2
    have exy : x = y := by
      cases x; cases y
      simp only at e1 e2 e3
      subst e1 e2 e3
      rfl
    subst exy
    rw [canon A B hA.tail hB.tail fun p n => by rw [hA.rest, hB.rest, h]]

end Go.Proofs.YtfjaeohfigcciabGreatDoor

namespace Go.Proofs.YtfjaeohfigcciabGreatDoor
open Go.RowKit

def inB (x : En) (f : Int) : Bool := decide (x.kind = 3) || decide ((f / 2 ^ x.cls.toNat) % 2 = 1)

theorem and1 : ∀ n : Fin 256, bits .and .u8 ((n.val : Nat) : Int) 1 = ((n.val : Nat) : Int) % 2 := by decide +kernel
theorem bit_and {y : Int} (h0 : 0 ≤ y) (h1 : y ≤ 255) : bits .and .u8 y 1 = y % 2 := by
  obtain ⟨n, rfl⟩ := Int.eq_ofNat_of_zero_le h0
  exact and1 ⟨n, by omega⟩
theorem shr_le {f : Int} (h0 : 0 ≤ f) (h1 : f ≤ 255) (c : Nat) : 0 ≤ f / 2 ^ c ∧ f / 2 ^ c ≤ 255 := by
  have hp : (0 : Int) < 2 ^ c := Int.pow_pos (by decide)
  refine ⟨Int.ediv_nonneg h0 (Int.le_of_lt hp), Int.le_trans (Int.ediv_le_self _ h0) h1⟩
theorem shr_min {f : Int} (h0 : 0 ≤ f) (h1 : f ≤ 255) (c : Nat) : f / 2 ^ min c 8 = f / 2 ^ c := by
  rcases Nat.lt_or_ge c 8 with h | h
  · rw [Nat.min_eq_left (by omega)]
  · rw [Nat.min_eq_right h]
    have e : (2 : Int) ^ c = 256 * 2 ^ (c - 8) := by
      rw [show c = 8 + (c - 8) by omega, Int.pow_add]
      simp
    have hp : (1 : Int) ≤ 2 ^ (c - 8) := Int.pow_pos (n := 2) (m := c - 8) (by decide)
    rw [Int.ediv_eq_zero_of_lt h0 (show f < 2 ^ 8 by omega), Int.ediv_eq_zero_of_lt h0 (by rw [e]; omega)]
theorem in_bit (id rep seq stamp kind cls val f : Int) (hk : (kind == 3) = false) (f1 : 0 ≤ f) (f2 : f ≤ 255) :
    (bits .and .u8 (f / 2 ^ min cls.toNat 8) 1 == 1) = inB ⟨id, rep, seq, stamp, kind, cls, val⟩ f := by
  have h3 : kind ≠ 3 := by simpa using hk
  rw [shr_min f1 f2, bit_and (shr_le f1 f2 _).1 (shr_le f1 f2 _).2, Bool.eq_iff_iff]
  simp [inB, h3]

set_option maxHeartbeats 1000000 in
theorem iIn_any (x : En) (f : Int) (w : World) (hx : x.ok) (hf : 0 ≤ f ∧ f ≤ 255) :
    Calls Tryz.prog 101 #[x.agg, .int .u8 f] w fun e w' => e = .returned (.bool (inB x f)) ∧ Below w.heap.size w w' := by
  obtain ⟨id, rep, seq, stamp, kind, cls, val⟩ := x
  obtain ⟨⟨i1, i2⟩, _, ⟨k1, k2⟩, ⟨c1, c2⟩, v1, v2⟩ := hx
  obtain ⟨f1, f2⟩ := hf
  simp only [En.agg] at *
  by_cases h3 : kind = 3
  · subst h3
    rw [show inB ⟨id, rep, seq, stamp, 3, cls, val⟩ f = true by simp [inB]]
    go_enter Tryz.func101, Tryz.ntmps101
    go_wp2
    go_ret
    exact ⟨rfl, al1 _ _⟩
  · have h3' : (kind == 3) = false := by simp [h3]
    clear h3
    go_enter Tryz.func101, Tryz.ntmps101
    go_wp2
    go_ret
    exact ⟨congrArg (fun b => Ending.returned (.bool b)) (in_bit id rep seq stamp kind cls val f h3' f1 f2), al1 _ _⟩

theorem half_step (f : Int) (k : Nat) : f / 2 ^ k / 2 = f / 2 ^ (k + 1) := by
  rw [Int.ediv_ediv_of_nonneg (Int.le_of_lt (Int.pow_pos (by decide))), Int.pow_succ]

set_option maxHeartbeats 1000000 in
theorem rIn_any (x : En) (f : Int) (w : World) (hx : x.ok) (hf : 0 ≤ f ∧ f ≤ 255) :
    Calls Tryz.prog 37 #[x.agg, .int .u8 f] w fun e w' => e = .returned (.bool (inB x f)) ∧ Below w.heap.size w w' := by
  obtain ⟨id, rep, seq, stamp, kind, cls, val⟩ := x
  obtain ⟨⟨i1, i2⟩, _, ⟨k1, k2⟩, ⟨c1, c2⟩, v1, v2⟩ := hx
  obtain ⟨f1, f2⟩ := hf
  simp only [En.agg] at *
  by_cases h3 : kind = 3
  · subst h3
    rw [show inB ⟨id, rep, seq, stamp, 3, cls, val⟩ f = true by simp [inB]]
    go_enter Tryz.func37, Tryz.ntmps37
    go_wp2
    go_ret
    exact ⟨rfl, al1 _ _⟩
  · have h3' : (kind == 3) = false := by simp [h3]
    rw [show inB ⟨id, rep, seq, stamp, kind, cls, val⟩ f = decide ((f / 2 ^ cls.toNat) % 2 = 1) by simp [inB, h3]]
    clear h3
    obtain ⟨cn, rfl⟩ := Int.eq_ofNat_of_zero_le c1
    have hc : cn ≤ 255 := by omega
    clear c1 c2
    rw [Int.toNat_natCast]
    have HL := Lib.hid (fun k => shr_le f1 f2 k)
    have HH := Lib.hid (fun k => half_step f k)
    go_enter Tryz.func37, Tryz.ntmps37
    go_wp2
    go_loop [5, 6] (fun s5 s6 => ∃ (k : Nat) (y : Int), k ≤ cn ∧ s6 = .int .i64 k ∧ s5 = .int .i64 y ∧ 0 ≤ y ∧ y ≤ 255 ∧ Hid (y = f / 2 ^ k)) (fun _ s6 => cn - (intOf s6).toNat)
    case atStart => exact ⟨0, f, by omega, rfl, rfl, f1, f2, Lib.hid (by simp)⟩
    case round =>
      obtain ⟨k, y, hk, rfl, rfl, y1, y2, HY⟩ := hrel
      by_cases hlt : k < cn
      · go_wp2
        go_round
        case rel => exact ⟨k + 1, y / 2, by omega, by go_num, rfl, by omega, by omega, Lib.hid (by rw [HY.out]; exact HH.out k)⟩
        case measure => simp [intOf]; omega
      · go_wp2
        go_ret
        refine ⟨?_, al1 _ _⟩
        obtain rfl : k = cn := by omega
        rw [← HY.out]
        rfl
end Go.Proofs.YtfjaeohfigcciabGreatDoor

