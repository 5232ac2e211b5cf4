/- Texts in one: IRight, NPlain, IPlace, IClone, IIns0, IIns, IInsG, ITake, IMath. -/
import Derived.Deep.LoopGhost
import Derived.Lib.Walk
import Derived.Lib.SliceRun
import Derived.Laws.IdiomCopy
import Derived.Laws.Externs
import Derived.Lib.Overlaps
import Derived.Lib.JoinLaws
import Derived.Lib.AppendZerosOnto
import Derived.Laws.NewBlocks
import Derived.Shelf.Spec.SlicesInsert
import Derived.Shelf.Spec.SlicesInsertGrow
import Derived.Test.YtfjaeohfigcciabGreatDoorQF01
import Derived.Test.YtfjaeohfigcciabGreatDoorQF00
set_option linter.unusedVariables false
set_option linter.unusedSimpArgs false
set_option linter.unusedSectionVars false
set_option linter.unnecessarySimpa false
namespace Go.Proofs.YtfjaeohfigcciabGreatDoor
open Go.RowKit

def eokAt (zs : List En) (i : Nat) : Bool := reB zs[i]! && (decide (i = 0) || decide (zs[i - 1]!.id < zs[i]!.id))
def erightB (zs : List En) : Bool := (List.range zs.length).all (eokAt zs)

theorem erightB_true {zs : List En} (ha : ∀ j, j < zs.length → eokAt zs j = true) : erightB zs = true := by
  simp only [erightB, List.all_eq_true, List.mem_range]
  exact ha
theorem erightB_false {zs : List En} {k : Nat} (hk : k < zs.length) (ha : eokAt zs k = false) : erightB zs = false := by
  simp only [erightB, List.all_eq_false, List.mem_range]
  exact ⟨k, hk, by simp [ha]⟩
theorem egetBang_of {zs : List En} {k : Nat} {x : En} (h : zs[k]? = some x) : zs[k]! = x := by simp [List.getElem!_eq_getElem?_getD, h]

set_option maxHeartbeats 2000000 in
theorem iRight_any (w : World) (v : Value) (zs : List En) (h : ESl w w.heap.size v zs) (hl : zs.length ≤ 9223372036854775807) :
    Calls Tryz.prog 89 #[v] w fun e w' => e = .returned (.bool (erightB zs)) ∧ Below w.heap.size w w' := by
  obtain ⟨A, c, rfl, _, hok, hA⟩ := h
  have hm : Tryz.prog.follows .mixedOrders = true := by kernel_rfl
  have HA := Lib.hid hA; clear hA
  have HM := Lib.hid hm; clear hm
  have HK := Lib.hid hok; clear hok
  generalize hrb : erightB zs = rb
  have HR := Lib.hid hrb; clear hrb
  go_enter Tryz.func89, Tryz.ntmps89
  go_wp2
  go_loopw [7] (fun i wr => ∃ k : Nat, i = .int .i64 k ∧ k ≤ zs.length ∧ Hid (∀ j, j < k → eokAt zs j = true) ∧ Below w.heap.size w wr) (fun i _ => zs.length - (intOf i).toNat)
  case atStart => exact ⟨0, rfl, by omega, Lib.hid (fun j hj => absurd hj (by omega)), Below.refl _ _⟩
  case round =>
    obtain ⟨k, rfl, hk, HO, hb⟩ := hrel
    by_cases hlt : k < zs.length
    · obtain ⟨b, off, rfl, hbw, hc⟩ := HA.out (by intro h; simp [h] at hlt)
      have hxk : zs[k]? = some zs[k] := List.getElem?_eq_getElem hlt
      generalize zs[k] = x at hxk
      have hxB := egetBang_of hxk
      have hxo := HK.out x (List.mem_of_getElem? hxk)
      have hz := hb.size
      have HNW := Lib.hid (new_entry wr x 62)
      have HAL := Lib.hid (al1 wr (.cells #[.int .u8 x.id, .int .u8 x.rep, .int .u32 x.seq, .int .u32 x.stamp, .int .i64 x.kind, .int .u8 x.cls, .int .u32 x.val] 62))
      have hsz : wr.heap.size < (wr.alloc (.cells #[.int .u8 x.id, .int .u8 x.rep, .int .u32 x.seq, .int .u32 x.stamp, .int .i64 x.kind, .int .u8 x.cls, .int .u32 x.val] 62)).heap.size := by simp
      obtain ⟨c0, c1, c2, c3, c4, c5, c6⟩ := ((hc k x hxk).keep hb hbw).all
      have HX := Lib.hid hxk; clear hxk
      have HXO := Lib.hid hxo; clear hxo
      have HB := Lib.hid hxB; clear hxB
      have HC := Lib.hid hc; clear hc
      have HBB := Lib.hid hb; clear hb
      by_cases hx : reB x = true
      · have r1 := fun (W : World) => irightEntry_any x W HXO.out
        rw [hx] at r1
        simp only [En.agg] at r1
        have HX1 := Lib.hid hx; clear hx
        have R1 := Lib.hid r1; clear r1
        by_cases hk0 : 0 < k
        · obtain ⟨j, rfl⟩ : ∃ j, k = j + 1 := ⟨k - 1, by omega⟩
          have hyk : zs[j]? = some zs[j] := List.getElem?_eq_getElem (by omega)
          generalize zs[j] = y at hyk
          have hyB := egetBang_of hyk
          have HYA := Lib.hid ((HC.out j y hyk).keep HBB.out hbw)
          have HY := Lib.hid hyk; clear hyk
          have HYB := Lib.hid hyB; clear hyB
          obtain ⟨q, hq⟩ : ∃ q, q = decide (x.id ≤ y.id) := ⟨_, rfl⟩
          have HQ := Lib.hid hq
          cases q
          · have hp : decide (x.id ≤ y.id) = false := hq.symm
            clear hq
            go_wp2_with fail
            generalize hwq : wr.alloc (.cells #[.int .u8 x.id, .int .u8 x.rep, .int .u32 x.seq, .int .u32 x.stamp, .int .i64 x.kind, .int .u8 x.cls, .int .u32 x.val] 62) = wq at HNW HAL hsz ⊢
            clear hwq
            have m0 := fun p : Later wq => (HNW.out.later hsz p).all0.1
            have m1 := fun p : Later wq => (HNW.out.later hsz p).all0.2.1
            have m2 := fun p : Later wq => (HNW.out.later hsz p).all0.2.2.1
            have m3 := fun p : Later wq => (HNW.out.later hsz p).all0.2.2.2.1
            have m4 := fun p : Later wq => (HNW.out.later hsz p).all0.2.2.2.2.1
            have m5 := fun p : Later wq => (HNW.out.later hsz p).all0.2.2.2.2.2.1
            have m6 := fun p : Later wq => (HNW.out.later hsz p).all0.2.2.2.2.2.2
            have y0 := fun p : Later wq => (((HYA.out.keep HAL.out (by omega)).later (by omega) p)).all.1
            have hm : Tryz.prog.follows .mixedOrders = true := HM.out
            have i2 : j < zs.length := by omega
            have i1 : IntKind.i64.wrap (j : Int) = (j : Int) := IntWalk.i64_in _ (by omega)
            refine wp_region_later hm (by kernel_rfl) ?_
            repeat (any_goals (first | go_big_quiet_step (first | (go_at_call 120; exact Calls.later (R1.out _))) | quiet_step (first | (go_at_call 120; exact Calls.later (R1.out _)))))
            refine wpQuiet_nil ?_
            intro wp hw'
            obtain ⟨lp, hlp⟩ := hw'
            have hbp := lp.bel
            rw [← hlp] at hbp
            clear hlp lp
            clear i1
            have hbn : Below w.heap.size w wp := HBB.out.trans ((HAL.out.trans (hbp.mono (by omega))).mono hz)
            have HBN := Lib.hid hbn; clear hbn
            clear HAL HNW m0 m1 m2 m3 m4 m5 m6 y0
            go_wp2
            go_roundw
            case rel =>
              refine ⟨j + 1 + 1, by go_num, by omega, Lib.hid (fun i hi => ?_), HBN.out⟩
              rcases Nat.lt_or_ge i (j + 1) with h | h
              · exact HO.out i h
              · obtain rfl : i = j + 1 := by omega
                have hq := HQ.out
                simp at hq
                simp [eokAt, HB.out, HYB.out, HX1.out, hq]
            case measure => simp [intOf]; omega
          · have hp : decide (x.id ≤ y.id) = true := hq.symm
            clear hq
            go_wp2_with fail
            generalize hwq : wr.alloc (.cells #[.int .u8 x.id, .int .u8 x.rep, .int .u32 x.seq, .int .u32 x.stamp, .int .i64 x.kind, .int .u8 x.cls, .int .u32 x.val] 62) = wq at HNW HAL hsz ⊢
            clear hwq
            have m0 := fun p : Later wq => (HNW.out.later hsz p).all0.1
            have m1 := fun p : Later wq => (HNW.out.later hsz p).all0.2.1
            have m2 := fun p : Later wq => (HNW.out.later hsz p).all0.2.2.1
            have m3 := fun p : Later wq => (HNW.out.later hsz p).all0.2.2.2.1
            have m4 := fun p : Later wq => (HNW.out.later hsz p).all0.2.2.2.2.1
            have m5 := fun p : Later wq => (HNW.out.later hsz p).all0.2.2.2.2.2.1
            have m6 := fun p : Later wq => (HNW.out.later hsz p).all0.2.2.2.2.2.2
            have y0 := fun p : Later wq => (((HYA.out.keep HAL.out (by omega)).later (by omega) p)).all.1
            have hm : Tryz.prog.follows .mixedOrders = true := HM.out
            have i2 : j < zs.length := by omega
            have i1 : IntKind.i64.wrap (j : Int) = (j : Int) := IntWalk.i64_in _ (by omega)
            refine wp_region_later hm (by kernel_rfl) ?_
            repeat (any_goals (first | go_big_quiet_step (first | (go_at_call 120; exact Calls.later (R1.out _))) | quiet_step (first | (go_at_call 120; exact Calls.later (R1.out _)))))
            refine wpQuiet_nil ?_
            intro wp hw'
            obtain ⟨lp, hlp⟩ := hw'
            have hbp := lp.bel
            rw [← hlp] at hbp
            clear hlp lp
            clear i1
            have hbn : Below w.heap.size w wp := HBB.out.trans ((HAL.out.trans (hbp.mono (by omega))).mono hz)
            have HBN := Lib.hid hbn; clear hbn
            clear HAL HNW m0 m1 m2 m3 m4 m5 m6 y0
            go_wp2
            go_ret
            refine ⟨?_, HBN.out⟩
            have hq := HQ.out
            simp at hq
            rw [← HR.out, erightB_false (k := j + 1) hlt (by simp [eokAt, HB.out, HYB.out]; omega)]
            rfl
        · have hk1 : decide (0 < k) = false := by simp; omega
          have HK0 := Lib.hid hk0; clear hk0
          go_wp2_with fail
          generalize hwq : wr.alloc (.cells #[.int .u8 x.id, .int .u8 x.rep, .int .u32 x.seq, .int .u32 x.stamp, .int .i64 x.kind, .int .u8 x.cls, .int .u32 x.val] 62) = wq at HNW HAL hsz ⊢
          clear hwq
          have m0 := fun p : Later wq => (HNW.out.later hsz p).all0.1
          have m1 := fun p : Later wq => (HNW.out.later hsz p).all0.2.1
          have m2 := fun p : Later wq => (HNW.out.later hsz p).all0.2.2.1
          have m3 := fun p : Later wq => (HNW.out.later hsz p).all0.2.2.2.1
          have m4 := fun p : Later wq => (HNW.out.later hsz p).all0.2.2.2.2.1
          have m5 := fun p : Later wq => (HNW.out.later hsz p).all0.2.2.2.2.2.1
          have m6 := fun p : Later wq => (HNW.out.later hsz p).all0.2.2.2.2.2.2
          have hm : Tryz.prog.follows .mixedOrders = true := HM.out
          refine wp_region_later hm (by kernel_rfl) ?_
          repeat (any_goals (first | go_big_quiet_step (first | (go_at_call 120; exact Calls.later (R1.out _))) | quiet_step (first | (go_at_call 120; exact Calls.later (R1.out _)))))
          refine wpQuiet_nil ?_
          intro wp hw'
          obtain ⟨lp, hlp⟩ := hw'
          have hbp := lp.bel
          rw [← hlp] at hbp
          clear hlp lp
          have hbn : Below w.heap.size w wp := HBB.out.trans ((HAL.out.trans (hbp.mono (by omega))).mono hz)
          have HBN := Lib.hid hbn; clear hbn
          clear HAL HNW m0 m1 m2 m3 m4 m5 m6
          go_wp2
          go_roundw
          case rel =>
            refine ⟨k + 1, by go_num, by omega, Lib.hid (fun i hi => ?_), HBN.out⟩
            rcases Nat.lt_or_ge i k with h | h
            · exact HO.out i h
            · obtain rfl : i = k := by omega
              have := HK0.out
              simp [eokAt, HB.out, HX1.out]
              omega
          case measure => simp [intOf]; omega
      · have hx : reB x = false := by simpa using hx
        have r1 := fun (W : World) => irightEntry_any x W HXO.out
        rw [hx] at r1
        simp only [En.agg] at r1
        have HX1 := Lib.hid hx; clear hx
        have R1 := Lib.hid r1; clear r1
        go_wp2_with fail
        generalize hwq : wr.alloc (.cells #[.int .u8 x.id, .int .u8 x.rep, .int .u32 x.seq, .int .u32 x.stamp, .int .i64 x.kind, .int .u8 x.cls, .int .u32 x.val] 62) = wq at HNW HAL hsz ⊢
        clear hwq
        have m0 := fun p : Later wq => (HNW.out.later hsz p).all0.1
        have m1 := fun p : Later wq => (HNW.out.later hsz p).all0.2.1
        have m2 := fun p : Later wq => (HNW.out.later hsz p).all0.2.2.1
        have m3 := fun p : Later wq => (HNW.out.later hsz p).all0.2.2.2.1
        have m4 := fun p : Later wq => (HNW.out.later hsz p).all0.2.2.2.2.1
        have m5 := fun p : Later wq => (HNW.out.later hsz p).all0.2.2.2.2.2.1
        have m6 := fun p : Later wq => (HNW.out.later hsz p).all0.2.2.2.2.2.2
        have hm : Tryz.prog.follows .mixedOrders = true := HM.out
        refine wp_region_later hm (by kernel_rfl) ?_
        repeat (any_goals (first | go_big_quiet_step (first | (go_at_call 120; exact Calls.later (R1.out _))) | quiet_step (first | (go_at_call 120; exact Calls.later (R1.out _)))))
        refine wpQuiet_nil ?_
        intro wp hw'
        obtain ⟨lp, hlp⟩ := hw'
        have hbp := lp.bel
        rw [← hlp] at hbp
        clear hlp lp
        have hbn : Below w.heap.size w wp := HBB.out.trans ((HAL.out.trans (hbp.mono (by omega))).mono hz)
        have HBN := Lib.hid hbn; clear hbn
        clear HAL HNW m0 m1 m2 m3 m4 m5 m6
        go_wp2
        go_ret
        refine ⟨?_, HBN.out⟩
        rw [← HR.out, erightB_false (k := k) hlt (by simp [eokAt, HB.out, HX1.out])]
        rfl
    · go_wp2
      go_ret
      refine ⟨?_, hb⟩
      rw [← HR.out, erightB_true (fun j hj => HO.out j (by omega))]
      rfl
end Go.Proofs.YtfjaeohfigcciabGreatDoor

namespace Go.Proofs.YtfjaeohfigcciabGreatDoor

structure Nt where
  (kind src dst num cur flt : Int)
  know : List Rn
  epoch : Int
  ents : List En
  next : Int
  done : Bool
  offer : List Rn
  deriving Inhabited

/-- within what the types hold -/
def Nt.ok (n : Nt) : Prop := (-9223372036854775808 ≤ n.kind ∧ n.kind ≤ 9223372036854775807) ∧ (0 ≤ n.src ∧ n.src ≤ 255) ∧ (0 ≤ n.dst ∧ n.dst ≤ 255) ∧ (0 ≤ n.num ∧ n.num ≤ 4294967295) ∧ (0 ≤ n.cur ∧ n.cur ≤ 255) ∧ (0 ≤ n.flt ∧ n.flt ≤ 255) ∧ (∀ x ∈ n.know, x.ok) ∧ (0 ≤ n.epoch ∧ n.epoch ≤ 4294967295) ∧ (∀ x ∈ n.ents, x.ok) ∧ (0 ≤ n.next ∧ n.next ≤ 255) ∧ (∀ x ∈ n.offer, x.ok)

/-- up to which item the entries come -/
def nextB (n : Nt) : Bool :=
  match n.ents with
  | [] => decide (n.next = n.cur)
  | e :: r => decide (n.cur ≤ e.id ∧ n.next = ((e :: r).getLast (by simp)).id + 1)
/-- a note is right -/
def headB (n : Nt) : Bool := decide (n.src ≤ 7 ∧ n.dst ≤ 7 ∧ n.src ≠ n.dst ∧ 1 ≤ n.num ∧ n.cur ≤ 63)
def pullB (n : Nt) : Bool := rightB n.know && decide (n.epoch = 0 ∧ n.ents = [] ∧ n.offer = [] ∧ n.next = 0 ∧ n.done = false)
def batchB (n : Nt) : Bool := decide (n.kind = 2 ∧ n.flt = 0 ∧ n.know = [] ∧ n.ents.length ≤ 4) && (erightB n.ents && (rightB n.offer && (nextB n && (decide (n.done = true ∨ (n.ents.length = 4 ∧ n.next ≤ 63)) && decide (n.cur = 0 ∨ n.offer = [])))))
def noteB (n : Nt) : Bool := headB n && (if n.kind = 1 then pullB n else batchB n)

/-! its bytes -/
/-! how bytes are read -/
/-- how far a payload is read, and whether a field didn't end -/
structure Rd where
  at_ : Nat
  bad : Bool
  deriving Inhabited, DecidableEq
/-! what is read stays what it was with more bytes behind -/
end Go.Proofs.YtfjaeohfigcciabGreatDoor

namespace Go.Proofs.YtfjaeohfigcciabGreatDoor
open Go.RowKit

/-- how many entries stand ahead of an ID -/
def posE (zs : List En) (id : Int) : Nat := zs.countP fun x => decide (x.id < id)

theorem count_at (p : En → Bool) : ∀ (l : List En) (i : Nat), i ≤ l.length → (∀ t, t < i → p l[t]! = true) → (∀ t, i ≤ t → t < l.length → p l[t]! = false) → l.countP p = i
  | [], i, hi, _, _ => by simp at hi; simp [hi]
  | a :: r, 0, _, _, h2 => by
    rw [List.countP_eq_zero]
    intro x hx
    obtain ⟨t, ht, rfl⟩ := List.getElem_of_mem hx
    have := h2 t (Nat.zero_le _) ht
    rw [getElem!_pos (a :: r) t ht] at this
    simp [this]
  | a :: r, i + 1, hi, h1, h2 => by
    have ha : p a = true := by simpa using h1 0 (Nat.succ_pos _)
    rw [List.countP_cons_of_pos ha, count_at p r i (by simpa using hi) (fun t ht => by simpa using h1 (t + 1) (by omega)) (fun t h3 h4 => by simpa using h2 (t + 1) (by omega) (by simpa using h4))]

set_option maxHeartbeats 400000 in
theorem placeC_any (x : En) (id : Int) (w : World) :
    Calls Tryz.prog 143 #[x.agg, .int .u8 id] w fun e w' => e = .returned (.int .i64 (icmpI x.id id)) ∧ Below w.heap.size w w' := by
  have c := fun W => icmp8_any x.id id W
  generalize icmpI x.id id = q at c ⊢
  have C := Lib.hid c; clear c
  simp only [En.agg]
  go_enter Tryz.func143, Tryz.ntmps143
  go_wp2_with (go_at_call 137; refine (C.out _).mono ?_; rintro e w' ⟨rfl, rfl⟩)
  go_ret
  exact ⟨rfl, al1 _ _⟩

theorem icmp_neg (a b : Int) : icmpI a b < 0 ↔ a < b := by
  unfold icmpI
  split
  · simp [*]
  · split <;> simp [*]
theorem icmp_zero (a b : Int) : icmpI a b = 0 ↔ a = b := by
  unfold icmpI
  split
  · constructor <;> intro <;> omega
  · split
    · constructor <;> intro <;> omega
    · constructor <;> intro <;> omega

set_option maxHeartbeats 2000000 in
theorem BSF_any (id : Int) (v : Value) (zs : List En) (w : World) (h : ESl w w.heap.size v zs) (hl : zs.length ≤ 4611686018427387903) (hmono : ∀ a b, a ≤ b → b < zs.length → zs[b]!.id < id → zs[a]!.id < id) :
    Calls Tryz.prog 142 #[v, .int .u8 id, .func (.func 143) #[] #[]] w fun e w' => e = .returned (.tuple #[.int .i64 (posE zs id : Nat), .bool (decide (posE zs id < zs.length) && decide (zs[posE zs id]!.id = id))]) ∧ Below w.heap.size w w' := by
  obtain ⟨A, c, rfl, _, hok, hA⟩ := h
  have HA := Lib.hid hA; clear hA
  clear hok
  have M := Lib.hid hmono; clear hmono
  obtain ⟨cnt, hcnt⟩ : ∃ cnt, posE zs id = cnt := ⟨_, rfl⟩
  rw [hcnt]
  have CN := Lib.hid hcnt; clear hcnt
  obtain ⟨fin, hfin⟩ : ∃ fin, (decide (cnt < zs.length) && decide (zs[cnt]!.id = id)) = fin := ⟨_, rfl⟩
  rw [hfin]
  have FIN := Lib.hid hfin; clear hfin
  go_enter Tryz.func142, Tryz.ntmps142
  go_wp2
  go_loopg [9, 10] zs.length (fun kx s9 s10 wr => ∃ lo hi : Nat, s9 = .int .i64 lo ∧ s10 = .int .i64 hi ∧ lo ≤ hi ∧ hi ≤ zs.length ∧ hi - lo ≤ kx ∧ Hid (Below w.heap.size w wr) ∧
    Hid ((∀ t, t < lo → zs[t]!.id < id) ∧ (∀ t, hi ≤ t → t < zs.length → id ≤ zs[t]!.id)))
  case atStart => exact ⟨0, zs.length, rfl, rfl, Nat.zero_le _, Nat.le_refl _, by omega, Lib.hid (Below.refl _ _), Lib.hid ⟨fun t ht => absurd ht (Nat.not_lt_zero _), fun t h1 h2 => by omega⟩⟩
  case round =>
    obtain ⟨lo, hi, rfl, rfl, hlh, hin, hg, S1, I⟩ := hrel
    by_cases hlt : lo < hi
    · obtain ⟨b, off, rfl, hbw, hc⟩ := HA.out (by intro h; simp [h] at hin; omega)
      have hyk : zs[(lo + hi) / 2]? = some zs[(lo + hi) / 2] := List.getElem?_eq_getElem (by omega)
      generalize zs[(lo + hi) / 2] = y at hyk
      have Y := Lib.hid (egetBang_of hyk)
      obtain ⟨c0, c1, c2, c3, c4, c5, c6⟩ := ((hc _ y hyk).keep S1.out hbw).all
      clear hc hyk
      have hcm := fun W => placeC_any y id W
      simp only [En.agg] at hcm
      have hic := icmp_neg y.id id
      generalize icmpI y.id id = q at hcm hic
      have HC := Lib.hid hcm; clear hcm
      have HI := Lib.hid hic; clear hic
      by_cases hyx : q < 0
      · go_wp2_with fail
        refine (HC.out _).mono ?_
        rintro e w1 ⟨rfl, hb1⟩
        have HBN := Lib.hid (S1.out.trans (hb1.mono S1.out.size))
        clear hb1
        go_wp2
        go_roundg (hi - ((lo + hi) / 2 + 1))
        case measure => omega
        case rel =>
          have I2 : Hid ((∀ t, t < (lo + hi) / 2 + 1 → zs[t]!.id < id) ∧ (∀ t, hi ≤ t → t < zs.length → id ≤ zs[t]!.id)) := Lib.hid ⟨fun t ht => M.out t ((lo + hi) / 2) (by omega) (by omega) (by rw [Y.out]; exact HI.out.1 hyx), I.out.2⟩
          exact ⟨(lo + hi) / 2 + 1, hi, by rw [show ((lo : Int) + (hi : Int)) / 2 + 1 = (((lo + hi) / 2 + 1 : Nat) : Int) by omega], rfl, by omega, hin, Nat.le_refl _, HBN, I2⟩
      · go_wp2_with fail
        refine (HC.out _).mono ?_
        rintro e w1 ⟨rfl, hb1⟩
        have HBN := Lib.hid (S1.out.trans (hb1.mono S1.out.size))
        clear hb1
        go_wp2
        go_roundg ((lo + hi) / 2 - lo)
        case measure => omega
        case rel =>
          have I2 : Hid ((∀ t, t < lo → zs[t]!.id < id) ∧ (∀ t, (lo + hi) / 2 ≤ t → t < zs.length → id ≤ zs[t]!.id)) := Lib.hid ⟨I.out.1, fun t ht htn => Int.not_lt.1 fun h => by have := M.out ((lo + hi) / 2) t ht htn h; rw [Y.out] at this; have := HI.out.2 this; omega⟩
          exact ⟨lo, (lo + hi) / 2, rfl, by rw [show ((lo : Int) + (hi : Int)) / 2 = (((lo + hi) / 2 : Nat) : Int) by omega], by omega, by omega, Nat.le_refl _, HBN, I2⟩
    · obtain rfl : hi = lo := by omega
      have ecnt : cnt = hi := by
        rw [← CN.out]
        refine count_at _ zs hi hin (fun t ht => ?_) (fun t h3 h4 => ?_)
        · exact decide_eq_true (I.out.1 t ht)
        · exact decide_eq_false (by have := I.out.2 t h3 h4; omega)
      subst ecnt
      by_cases hn : cnt < zs.length
      · obtain ⟨b, off, rfl, hbw, hc⟩ := HA.out (by intro h; simp [h] at hn)
        have hyk : zs[cnt]? = some zs[cnt] := List.getElem?_eq_getElem hn
        generalize zs[cnt] = y at hyk
        have Y := Lib.hid (egetBang_of hyk)
        obtain ⟨c0, c1, c2, c3, c4, c5, c6⟩ := ((hc _ y hyk).keep S1.out hbw).all
        clear hc hyk
        have hcm := fun W => placeC_any y id W
        simp only [En.agg] at hcm
        have hic := icmp_zero y.id id
        generalize icmpI y.id id = q at hcm hic
        have HC := Lib.hid hcm; clear hcm
        have HI := Lib.hid hic; clear hic
        by_cases hyx : q = 0
        · have HE := Lib.hid (HI.out.1 hyx)
          subst hyx
          clear HI
          go_wp2_with fail
          refine (HC.out _).mono ?_
          rintro e w1 ⟨rfl, hb1⟩
          have HBN := Lib.hid (S1.out.trans (hb1.mono S1.out.size))
          clear hb1
          go_wp2
          go_ret2
          exact ⟨by rw [← FIN.out, Y.out]; simp [hn, HE.out], HBN.out⟩
        · have hyx' : (q == 0) = false := by simp [hyx]
          have HYX := Lib.hid hyx; clear hyx
          go_wp2_with fail
          refine (HC.out _).mono ?_
          rintro e w1 ⟨rfl, hb1⟩
          have HBN := Lib.hid (S1.out.trans (hb1.mono S1.out.size))
          clear hb1
          go_wp2
          go_ret2
          exact ⟨by rw [← FIN.out, Y.out]; simp [hn]; exact fun h => HYX.out (HI.out.2 h), HBN.out⟩
      · have hn' : decide (cnt < zs.length) = false := by simp; omega
        go_wp2
        go_ret2
        exact ⟨by rw [← FIN.out]; simp [hn], S1.out⟩

set_option maxHeartbeats 400000 in
theorem place_any (id : Int) (v : Value) (zs : List En) (w : World) (h : ESl w w.heap.size v zs) (hl : zs.length ≤ 4611686018427387903) (hmono : ∀ a b, a ≤ b → b < zs.length → zs[b]!.id < id → zs[a]!.id < id) :
    Calls Tryz.prog 131 #[v, .int .u8 id] w fun e w' => e = .returned (.tuple #[.int .i64 (posE zs id : Nat), .bool (decide (posE zs id < zs.length) && decide (zs[posE zs id]!.id = id))]) ∧ Below w.heap.size w w' := by
  have H := Lib.hid (BSF_any id v zs w h hl hmono)
  clear hmono h hl
  generalize (decide (posE zs id < zs.length) && decide (zs[posE zs id]!.id = id)) = q at H ⊢
  generalize posE zs id = p at H ⊢
  go_enter Tryz.func131, Tryz.ntmps131
  go_wp2_with fail
  refine (H.out).mono ?_
  rintro e w1 ⟨rfl, hb1⟩
  go_wp2
  go_ret2
  exact ⟨rfl, hb1⟩
end Go.Proofs.YtfjaeohfigcciabGreatDoor

namespace Go.Proofs.YtfjaeohfigcciabGreatDoor
open Go.RowKit

set_option maxRecDepth 100000 in
set_option maxHeartbeats 1000000 in
theorem Clone_any (v : Value) (zs : List En) (w : World) (h : ESl w w.heap.size v zs) (hl : zs.length ≤ 10000) : Calls Tryz.prog 75 #[v] w (EOwnPost w zs) := by
  have q22 : ∀ (w : World) (a : Option Addr) (n c n' c' : Nat), (binOp .eql 24 (.slice a n c) (.slice none n' c')).run Tryz.prog w = .ok (.bool a.isNone) w := fun w a n c n' c' => Lib.run_eql_slice_nil w _ _ a n c n' c' Tryz.underlying24
  have HS := Lib.hid h
  obtain ⟨A, c, rfl, hn, hok, hA⟩ := h
  rcases A with _ | ad
  · have hy : zs = [] := by
      by_cases hne : zs = []
      · exact hne
      · obtain ⟨b, off, h, _⟩ := hA hne
        cases h
    subst hy
    obtain rfl := hn.1 rfl
    clear hn hok hA
    go_enter Tryz.func75, Tryz.ntmps75
    go_wp2
    go_ret
    exact ⟨_, rfl, EOwn.nil _ _, Below.refl _ _⟩
  · have HA := Lib.hid hA; clear hA hn hok
    have hown : EOwn (w.alloc (.cells #[] 62)) w.heap.size (.slice (some ⟨w.heap.size, 0, none⟩) 0 0) [] := World.ownsRow_made w #[] 0 (Nat.le_refl _) (Nat.zero_le _) (by simp)
    have HO := Lib.hid hown; clear hown
    have HAL := Lib.hid (al1 w (.cells #[] 62))
    go_enter Tryz.func75, Tryz.ntmps75
    go_wp2_with (at_builtin; (refine append_ents rfl _ _ rfl w.heap.size _ [] rfl HO.out _ _ zs rfl (HS.out.below HAL.out) (by simp; omega) (by simp) ?_); intro v1 w1 ho1 hg1)
    rw [List.nil_append] at ho1
    have HO1 := Lib.hid ho1; clear ho1
    have HG1 := Lib.hid hg1; clear hg1
    go_wp2
    go_ret
    exact ⟨v1, rfl, HO1.out, egrown_below HAL.out HO.out HG1.out (Nat.le_refl _) (by simp)⟩
end Go.Proofs.YtfjaeohfigcciabGreatDoor

namespace Go.Proofs.YtfjaeohfigcciabGreatDoor
open Go.RowKit

/-- copy of elements of k cells: all is read before anything is written -/
theorem run_copyK {P : Program} (w : World) (dT sT ty elem : TypeId) (k b o dLen dCap : Nat) (a : Addr) (sLen sCap : Nat) (cs : List Value)
    (hu : P.underlying dT = some (.slice elem)) (hs : (P.info? elem).map (·.size) = some k) (hn : cs.length = Nat.min sLen dLen * k)
    (hsrc : ∀ j v, cs[j]? = some v → w.cell? (a.add j) = some v) (hc : ∀ j, j < cs.length → (w.cell? ⟨b, o + j, none⟩).isSome = true) (hf : ∀ j, j < cs.length → w.frozen? ⟨b, o + j, none⟩ = false) (h1 : ∀ v ∈ cs, v.oneCell' = true) :
    (Builtin.copy_ #[dT, sT] ty #[.slice (some ⟨b, o, none⟩) dLen dCap, .slice (some a) sLen sCap]).run P w = .ok (goInt (Nat.min sLen dLen)) (w.setCells b o cs) := by
  have hl := run_loadCells_list (P := P) w a cs hsrc
  have hst := run_storeCells_cells (P := P) b o cs 0 w (by simpa using hc) (by simpa using hf) h1
  rw [hn] at hl
  cases hq : P.info? elem with
  | none => simp [hq] at hs
  | some i =>
    have hi : i.size = k := by simpa [hq] using hs
    simp [Builtin.copy_, run_underlying hu, Builtin.lenOf, Builtin.firstCells, sizeOf, typeInfo, hq, hi, hl, hst]

/-- cells laid over a list from a place on -/
def over (l : List Value) (o : Nat) (vs : List Value) : List Value := l.take o ++ vs ++ l.drop (o + vs.length)
theorem over_length {l : List Value} {o : Nat} {vs : List Value} (h : o + vs.length ≤ l.length) : (over l o vs).length = l.length := by
  simp only [over, List.length_append, List.length_take, List.length_drop]
  omega
theorem over_nil (l : List Value) (o : Nat) : over l o [] = l := by simp [over]
theorem over_cons {l : List Value} {o : Nat} {v : Value} {r : List Value} (h : o < l.length) : over (l.set o v) (o + 1) r = over l o (v :: r) := by
  simp only [over, List.length_cons]
  rw [List.drop_set_of_lt (by omega), show o + 1 + r.length = o + (r.length + 1) by omega]
  have : (l.set o v).take (o + 1) = l.take o ++ [v] := by
    rw [List.take_set, List.take_succ_eq_append_getElem h, List.set_append_right _ _ (by simp; omega)]
    simp [Nat.min_eq_left (Nat.le_of_lt h)]
  rw [this]
  simp

theorem heap_over (g : Nat) (e : TypeId) : ∀ (vs : List Value) (o : Nat) (w : World) (cur : Array Value), w.heap[g]? = some (.cells cur e (0, 0)) → o + vs.length ≤ cur.size →
    ∃ cur' : Array Value, (w.setCells g o vs).heap[g]? = some (.cells cur' e (0, 0)) ∧ cur'.toList = over cur.toList o vs
  | [], o, w, cur, h, _ => ⟨cur, h, (over_nil _ _).symm⟩
  | v :: r, o, w, cur, h, hb => by
    simp only [List.length_cons] at hb
    obtain ⟨cur', h1, h2⟩ := heap_over g e r (o + 1) (w.setCell ⟨g, o, none⟩ v) (cur.setIfInBounds o v) (heap_setCell_same w g o cur e v h) (by simp; omega)
    refine ⟨cur', h1, ?_⟩
    rw [h2, Array.toList_setIfInBounds, over_cons (by simp; omega)]

theorem below_setCells {B : Nat} {a : World} (g : Nat) (hg : B ≤ g) : ∀ (vs : List Value) (o : Nat) (w : World), Below B a w → Below B a (w.setCells g o vs)
  | [], _, _, h => h
  | v :: r, o, w, h => below_setCells g hg r (o + 1) (w.setCell ⟨g, o, none⟩ v) (h.setCell (p := ⟨g, o, none⟩) hg v)

/-- the list with one more entry -/
def insL (zs : List En) (i : Nat) (x : En) : List En := zs.take i ++ x :: zs.drop i
theorem insL_length (zs : List En) (i : Nat) (x : En) (hi : i ≤ zs.length) : (insL zs i x).length = zs.length + 1 := by
  simp only [insL, List.length_append, List.length_take, List.length_cons, List.length_drop]
  omega
theorem insL_flat (zs : List En) (i : Nat) (x : En) : flatE (insL zs i x) = flatE (zs.take i) ++ x.enc ++ flatE (zs.drop i) := by
  rw [insL, flatE_append, flatE_cons, List.append_assoc]
theorem insL_end (zs : List En) (x : En) : insL zs zs.length x = zs ++ [x] := by simp [insL]

/-- what was from i on moved up, then the new one laid in -/
theorem shift_list (L : List Value) (zs : List En) (i : Nat) (x : En) (hi : i < zs.length) (hL : (zs.length + 1) * 7 ≤ L.length) (ht : L.take (zs.length * 7) = flatE zs) :
    (over (over L ((i + 1) * 7) (flatE (zs.drop i))) (i * 7) x.enc).take ((zs.length + 1) * 7) = flatE (insL zs i x) := by
  have hdl : (flatE (zs.drop i)).length = (zs.length - i) * 7 := by rw [flatE_length, List.length_drop]
  have h1 : (over L ((i + 1) * 7) (flatE (zs.drop i))).take (i * 7) = flatE (zs.take i) := by
    rw [over, List.append_assoc, List.take_append_of_le_length (by rw [List.length_take]; omega), List.take_take, Nat.min_eq_left (by omega), flatE_take, ← ht, List.take_take, Nat.min_eq_left (by omega)]
  have h2 : (over L ((i + 1) * 7) (flatE (zs.drop i))).drop (i * 7 + x.enc.length) = flatE (zs.drop i) ++ L.drop ((i + 1) * 7 + (flatE (zs.drop i)).length) := by
    rw [enc_length, over, List.append_assoc, List.drop_append, List.drop_of_length_le (by rw [List.length_take]; omega), List.nil_append, List.length_take, show i * 7 + 7 - min ((i + 1) * 7) L.length = 0 by omega, List.drop_zero]
  rw [over, h1, h2, insL_flat, ← List.append_assoc, List.take_append_of_le_length]
  · rw [List.take_of_length_le]
    simp only [List.length_append, hdl, enc_length, flatE_length, List.length_take]
    omega
  · simp only [List.length_append, hdl, enc_length, flatE_length, List.length_take]
    omega

/-- the new one laid in, then what was from i on behind it -/
theorem grow_list (L : List Value) (zs : List En) (i : Nat) (x : En) (hi : i < zs.length) (hL : (zs.length + 1) * 7 ≤ L.length) (ht : L.take (i * 7) = flatE (zs.take i)) :
    (over (over L (i * 7) x.enc) ((i + 1) * 7) (flatE (zs.drop i))).take ((zs.length + 1) * 7) = flatE (insL zs i x) := by
  have hdl : (flatE (zs.drop i)).length = (zs.length - i) * 7 := by rw [flatE_length, List.length_drop]
  have htl : (flatE (zs.take i)).length = i * 7 := by rw [flatE_length, List.length_take]; omega
  have h1 : (over L (i * 7) x.enc).take ((i + 1) * 7) = flatE (zs.take i) ++ x.enc := by
    rw [over, ht, List.take_append_of_le_length (by simp [htl, enc_length]; omega), List.take_of_length_le (by simp [htl, enc_length]; omega)]
  rw [over, h1, insL_flat, List.take_append_of_le_length, List.take_of_length_le]
  · simp only [List.length_append, hdl, htl, enc_length]; omega
  · simp only [List.length_append, hdl, htl, enc_length]; omega
end Go.Proofs.YtfjaeohfigcciabGreatDoor

namespace Go.Proofs.YtfjaeohfigcciabGreatDoor
open Go.RowKit Go.Lib

theorem sizeEnt : (Tryz.prog.info? 62).map (·.size) = some 7 := by kernel_rfl

/-- the slice of one entry, in a block of its own -/
structure OneNew (w : World) (vb : Nat) (x : En) : Prop where
  blk : w.heap[vb]? = some (.cells #[.int .u8 x.id, .int .u8 x.rep, .int .u32 x.seq, .int .u32 x.stamp, .int .i64 x.kind, .int .u8 x.cls, .int .u32 x.val] 62 (0, 0))

theorem OneNew.at {w : World} {vb : Nat} {x : En} (h : OneNew w vb x) : EnAt w vb 0 x := by
  have hc : ∀ i, w.cell? ⟨vb, i, none⟩ = x.enc[i]? := fun i => by
    rw [cell_of_row w vb i _ _ _ h.blk]
    simp [En.enc]
  intro i u hu
  rw [Nat.zero_add, hc i]
  exact hu
theorem OneNew.sl {w : World} {vb : Nat} {x : En} (h : OneNew w vb x) (hx : x.ok) : ESl w w.heap.size (.slice (some ⟨vb, 0, none⟩) 1 1) [x] := by
  refine ⟨some ⟨vb, 0, none⟩, 1, rfl, ⟨(fun h => by simp at h), by simp⟩, by simpa using hx, fun _ => ⟨vb, 0, rfl, (Array.getElem?_eq_some_iff.1 h.blk).1, fun j y hj => ?_⟩⟩
  match j, hj with
  | 0, hj => simp at hj; subst hj; exact h.at
  | j + 1, hj => simp at hj

/-- what is told of an insertion -/
def InsPost (w : World) (base : Nat) (zs : List En) (i : Nat) (x : En) (e : Ending) (w' : World) : Prop := ∃ v, e = .returned v ∧ EOwn w' base v (insL zs i x) ∧ Below base w w'

set_option maxRecDepth 100000 in
set_option maxHeartbeats 2000000 in
theorem Insert_end (v : Value) (zs : List En) (vb base : Nat) (x : En) (w : World) (h : EOwn w base v zs) (hb : base ≤ w.heap.size) (h1 : OneNew w vb x) (hx : x.ok) (hl : zs.length ≤ 9000) :
    Calls Tryz.prog 132 #[v, .int .i64 zs.length, .slice (some ⟨vb, 0, none⟩) 1 1] w (InsPost w base zs zs.length x) := by
  have HO := Lib.hid h
  have HS := Lib.hid (h1.sl hx)
  obtain ⟨A, c, hv, hn, hA⟩ := h.form
  have hnc : zs.length ≤ c := by
    rcases h.2 with ⟨hv', hz⟩ | ⟨g, cap, cur, hv', _, _, hcap, _⟩
    · omega
    · rw [hv] at hv'; cases hv'; exact hcap
  subst hv
  clear hA hn h h1 hx
  by_cases hcn : c = zs.length
  · subst hcn
    go_enter Tryz.func132, Tryz.ntmps132
    go_wp2_with (at_builtin; (refine append_ents rfl _ _ rfl base _ zs rfl HO.out _ _ [x] rfl HS.out (by simp; omega) hb ?_); intro v1 w1 ho1 hg1)
    have HO1 := Lib.hid ho1; clear ho1
    have HG1 := Lib.hid hg1; clear hg1
    go_wp2
    go_ret
    exact ⟨v1, rfl, by rw [insL_end]; exact HO1.out, egrown_below (Below.refl _ _) HO.out HG1.out (Nat.le_refl _) hb⟩
  · have hcn' : ¬ (c = zs.length) := hcn
    go_enter Tryz.func132, Tryz.ntmps132
    go_wp2_with (at_builtin; (refine append_ents rfl _ _ rfl base _ zs rfl HO.out _ _ [x] rfl HS.out (by simp; omega) hb ?_); intro v1 w1 ho1 hg1)
    have HO1 := Lib.hid ho1; clear ho1
    have HG1 := Lib.hid hg1; clear hg1
    go_wp2
    go_ret
    exact ⟨v1, rfl, by rw [insL_end]; exact HO1.out, egrown_below (Below.refl _ _) HO.out HG1.out (Nat.le_refl _) hb⟩

set_option maxRecDepth 100000 in
set_option maxHeartbeats 4000000 in
theorem Insert_shift (g c i : Nat) (zs : List En) (vb base : Nat) (x : En) (w : World) (h : EOwn w base (.slice (some ⟨g, 0, none⟩) zs.length c) zs) (hb : base ≤ w.heap.size) (h1 : OneNew w vb x) (hne : vb ≠ g) (hl : zs.length ≤ 9000) (hi : i < zs.length) (hroom : zs.length + 1 ≤ c) :
    Calls Tryz.prog 132 #[.slice (some ⟨g, 0, none⟩) zs.length c, .int .i64 i, .slice (some ⟨vb, 0, none⟩) 1 1] w (InsPost w base zs i x) := by
  obtain ⟨hfl, hrest⟩ := h
  rcases hrest with ⟨hv', hz⟩ | ⟨g', cap, cur, hv', hbg, hg, hcap, hcm, hcs, htake⟩
  · cases hv'
  cases hv'
  have hsz := sizeEnt
  have HFE : Hid (InsPost w base zs i x (.returned (.slice (some ⟨g, 0, none⟩) (zs.length + 1) c)) ((w.drew.setCells g ((i + 1) * 7) (flatE (zs.drop i))).setCells g (i * 7) x.enc)) := by
    refine Lib.hid ⟨_, rfl, ?_, ?_⟩
    · obtain ⟨c1, e1, l1⟩ := heap_over g 62 (flatE (zs.drop i)) ((i + 1) * 7) w.drew cur hg (by rw [flatE_length, List.length_drop]; omega)
      have s1 : c1.size = cur.size := by
        have := congrArg List.length l1
        rw [over_length (by rw [flatE_length, List.length_drop]; simp; omega)] at this
        simpa using this
      obtain ⟨c2, e2, l2⟩ := heap_over g 62 x.enc (i * 7) _ c1 e1 (by rw [enc_length]; omega)
      have s2 : c2.size = cur.size := by
        have := congrArg List.length l2
        rw [over_length (by rw [enc_length]; simp; omega)] at this
        simp at this
        omega
      refine ⟨by rw [flatE_length], .inr ⟨g, c, c2, by rw [insL_length _ _ _ (by omega)], hbg, e2, by rw [insL_length _ _ _ (by omega)]; omega, hcm, by rw [s2, hcs], ?_⟩⟩
      rw [insL_length _ _ _ (by omega), l2, l1]
      exact shift_list cur.toList zs i x hi (by simp; omega) htake
    · exact below_setCells g hbg _ _ _ (below_setCells g hbg _ _ _ ((Below.refl _ w).drew))
  have hov : ∀ lb cb, (callFunc 144 #[.slice (some ⟨vb, 0, none⟩) 1 1, .slice (some ⟨g, (i + 1) * 7, none⟩) lb cb]).run Tryz.prog w = .ok (.value (.bool false)) w := fun lb cb => by
    rw [run_callFunc_extern Tryz.func144 (by kernel_rfl) (by kernel_rfl) (by kernel_rfl) (e := Extern.SlicesOverlaps.overlaps #[24, 24] #[4]) (by kernel_rfl),
      Lib.run_overlaps_apart w 24 4 62 Tryz.underlying24 7 Tryz.sizeOf62 ⟨vb, 0, none⟩ ⟨g, (i + 1) * 7, none⟩ 1 1 lb cb hne 62 62 7 cur.size (by simp [World.shape?, h1.blk]) (by simp [World.shape?, hg]) (by omega) (frozen_of_row w vb 0 _ _ h1.blk) (frozen_of_row w vb 7 _ _ h1.blk)]
    rfl
  have hcs' : ∀ j, j < cur.size → (w.drew.cell? ⟨g, j, none⟩).isSome = true := fun j hj => by
    rw [show w.drew.cell? ⟨g, j, none⟩ = w.cell? ⟨g, j, none⟩ from rfl, cell_of_row w g j _ _ _ hg, Array.getElem?_eq_getElem hj]; rfl
  have hfz : ∀ j, w.drew.frozen? ⟨g, j, none⟩ = false := fun j => frozen_of_row w g j _ _ hg
  have hrd : ∀ j u, (flatE zs)[j]? = some u → w.cell? ⟨g, j, none⟩ = some u := fun j u hu => by
    have hjl := (List.getElem?_eq_some_iff.1 hu).1
    rw [flatE_length] at hjl
    rw [← htake, List.getElem?_take, if_pos hjl] at hu
    rw [cell_of_row w g j _ _ _ hg]
    simpa using hu
  have hdl : (flatE (zs.drop i)).length = (zs.length - i) * 7 := by rw [flatE_length, List.length_drop]
  have hcp1 : ∀ ty dc sc, (Builtin.copy_ #[24, 24] ty #[.slice (some ⟨g, (i + 1) * 7, none⟩) (zs.length - i) dc, .slice (some ⟨g, i * 7, none⟩) (zs.length + 1 - i) sc]).run Tryz.prog w.drew = .ok (goInt (zs.length - i : Nat)) (w.drew.setCells g ((i + 1) * 7) (flatE (zs.drop i))) := fun ty dc sc => by
    have := run_copyK (P := Tryz.prog) w.drew 24 24 ty 62 7 g ((i + 1) * 7) (zs.length - i) dc ⟨g, i * 7, none⟩ (zs.length + 1 - i) sc (flatE (zs.drop i)) Tryz.underlying24 hsz (by rw [hdl]; show _ = min _ _ * 7; omega)
      (fun j v hj => by
        rw [Addr.add_lit]
        refine hrd (i * 7 + j) v ?_
        rw [flatE_drop, List.getElem?_drop] at hj
        exact hj)
      (fun j hj => hcs' _ (by omega)) (fun j hj => hfz _) (flatE_one_cell _)
    rw [show Nat.min (zs.length + 1 - i) (zs.length - i) = zs.length - i by show min _ _ = _; omega] at this
    exact this
  obtain ⟨W1, hW1⟩ : ∃ W1, W1 = w.drew.setCells g ((i + 1) * 7) (flatE (zs.drop i)) := ⟨_, rfl⟩
  have hcp2 : ∀ (W : World), (∀ a, W.cell? a = W1.cell? a) → (∀ a, W.frozen? a = W1.frozen? a) → ∀ ty dc, (Builtin.copy_ #[24, 24] ty #[.slice (some ⟨g, i * 7, none⟩) (zs.length + 1 - i) dc, .slice (some ⟨vb, 0, none⟩) 1 1]).run Tryz.prog W = .ok (goInt 1) (W.setCells g (i * 7) x.enc) := fun W hWc hWf ty dc => by
    have := run_copyK (P := Tryz.prog) W 24 24 ty 62 7 g (i * 7) (zs.length + 1 - i) dc ⟨vb, 0, none⟩ 1 1 x.enc Tryz.underlying24 hsz (by rw [enc_length]; show _ = min _ _ * 7; omega)
      (fun j v hj => by
        rw [Addr.add_lit, hWc, hW1, World.cell?_setCells_out g _ _ _ _ (fun h _ => absurd h hne)]
        exact h1.at j v hj)
      (fun j hj => by
        rw [enc_length] at hj
        rw [hWc, hW1]
        exact isSome_setCells g _ _ _ (fun t ht => hcs' _ (by omega)) _ (hcs' _ (by omega)))
      (fun j hj => by rw [hWf, hW1, World.frozen?_setCells]; exact hfz _) (by have := flatE_one_cell [x]; rwa [flatE_one] at this)
    rw [show Nat.min 1 (zs.length + 1 - i) = 1 by show min _ _ = _; omega] at this
    exact this
  rw [← hW1] at hcp1 HFE
  have hcp3 := hcp2 W1 (fun _ => rfl) (fun _ => rfl)
  clear hcp2 hW1
  have HCP3 := Lib.hid hcp3; clear hcp3
  have HIH := Lib.hid hi
  have hb2 : ¬ (c = i + 1) := by omega
  have hb4 : ¬ (c = i) := by omega
  have hz2 : ¬ ((i : Int) = (zs.length : Int)) := by omega
  have hw1 : IntKind.i64.wrap ((i : Int) + 1) = (i : Int) + 1 := IntWalk.i64_in _ (by omega)
  have htn : ((i : Int) + 1).toNat = i + 1 := by omega
  have hc63 : c ≤ 9223372036854775807 := by unfold maxLen at hcm; omega
  have hb1 : (0 : Int) ≤ (i : Int) + 1 := by omega
  have hin : i ≤ zs.length := by omega
  have hb3 : (i : Int) ≤ (zs.length : Int) + 1 := by omega
  clear hdl hrd hfz hcs' hsz hg hcs htake hfl hcap h1
  go_enter Tryz.func132, Tryz.ntmps132
  go_wp2_with (simp only [hov])
  go_region_law (refine step_copy_runI rfl _ _ 24 24 rfl (.slice (some ⟨g, (i + 1) * 7, none⟩) (zs.length - i) (c - (i + 1))) (.slice (some ⟨g, i * 7, none⟩) (zs.length + 1 - i) (c - i)) (by simp [Act.eval, Act.put]) (by simp [Act.eval, Act.put]) (hcp1 _ _ _) ?_)
  all_goals
    have hcp3 := HCP3.out
    clear hcp1 hov
    go_wp2
    go_ret
    exact HFE.out
end Go.Proofs.YtfjaeohfigcciabGreatDoor

namespace Go.Proofs.YtfjaeohfigcciabGreatDoor
open Go.RowKit Go.Lib

set_option maxRecDepth 100000 in
set_option maxHeartbeats 4000000 in
theorem Insert_grow (g c i : Nat) (zs : List En) (vb base : Nat) (x : En) (w : World) (h : EOwn w base (.slice (some ⟨g, 0, none⟩) zs.length c) zs) (hb : base ≤ w.heap.size) (h1 : OneNew w vb x) (hl : zs.length ≤ 9000) (hi : i < zs.length) (hroom : c < zs.length + 1) :
    Calls Tryz.prog 132 #[.slice (some ⟨g, 0, none⟩) zs.length c, .int .i64 i, .slice (some ⟨vb, 0, none⟩) 1 1] w (InsPost w base zs i x) := by
  obtain ⟨hfl, hrest⟩ := h
  rcases hrest with ⟨hv', hz⟩ | ⟨g', cap, cur, hv', hbg, hg, hcap, hcm, hcs, htake⟩
  · cases hv'
  cases hv'
  have hsz := sizeEnt
  obtain ⟨i0, hi0, hz0, hzs, hzb⟩ := info_parts infoEnt
  obtain ⟨z, hzz⟩ : ∃ z : Value, z = .agg #[.int .u8 0, .int .u8 0, .int .u32 0, .int .u32 0, .int .i64 0, .int .u8 0, .int .u32 0] := ⟨_, rfl⟩
  rw [← hzz] at hz0
  have hzc : z.cells.size = 7 := by rw [hzz]; rfl
  clear hzz
  have hgw : g < w.heap.size := (Array.getElem?_eq_some_iff.1 hg).1
  have hvw : vb < w.heap.size := (Array.getElem?_eq_some_iff.1 h1.blk).1
  have hrd : ∀ j u, (flatE zs)[j]? = some u → w.cell? ⟨g, j, none⟩ = some u := fun j u hu => by
    have hjl := (List.getElem?_eq_some_iff.1 hu).1
    rw [flatE_length] at hjl
    rw [← htake, List.getElem?_take, if_pos hjl] at hu
    rw [cell_of_row w g j _ _ _ hg]
    simpa using hu
  have hdl : (flatE (zs.drop i)).length = (zs.length - i) * 7 := by rw [flatE_length, List.length_drop]
  have htl : (flatE (zs.take i)).length = i * 7 := by rw [flatE_length, List.length_take]; omega
  have hkk : (zs.length : Int) + 1 - (i : Int) = ((zs.length + 1 - i : Nat) : Int) := by omega
  have hik : i + (zs.length + 1 - i) = zs.length + 1 := by omega
  have hold : (Builtin.firstCells i0.size i (.slice (some ⟨g, 0, none⟩) i c)).run Tryz.prog w.drew = .ok (flatE (zs.take i)).toArray w.drew := by
    rw [hzs]
    exact run_firstCells_some w.drew 7 i ⟨g, 0, none⟩ i c (flatE (zs.take i)) htl (fun j v hj => by
      rw [Addr.add_lit, Nat.zero_add]
      rw [flatE_take, List.getElem?_take] at hj
      split at hj
      · exact hrd j v hj
      · cases hj)
  obtain ⟨G, hG⟩ : ∃ G, G = grownCap w (zs.length + 1) c 62 := ⟨_, rfl⟩
  obtain ⟨ROW, hROW⟩ : ∃ ROW : Array Value, ROW = (flatE (zs.take i)).toArray ++ Builtin.zeroCells z.cells (zs.length + 1 - i) ++ Builtin.zeroCells z.cells (G - (zs.length + 1)) := ⟨_, rfl⟩
  have hGn : zs.length + 1 ≤ G := by rw [hG]; exact grownCap_ge w _ _ _
  have hGm : G ≤ maxLen := by rw [hG]; exact grownCap_le_maxLen w (zs.length + 1) c 62 (by unfold maxLen; omega)
  have hRs : ROW.size = G * 7 := by
    rw [hROW]
    simp only [Array.size_append, List.size_toArray, size_zeroCells, htl, hzc]
    omega
  have hRt : ROW.toList.take (i * 7) = flatE (zs.take i) := by
    rw [hROW]
    simp only [Array.toList_append, List.append_assoc]
    rw [List.take_append_of_le_length (by simp [htl]), List.take_of_length_le (by simp [htl])]
  obtain ⟨W1, hW1⟩ : ∃ W1, W1 = w.drew.alloc (.cells ROW 62) := ⟨_, rfl⟩
  have hrz : ∀ ty, (Builtin.append_ #[24, 3] ty #[.slice (some ⟨g, 0, none⟩) i c, .int .i64 ((zs.length : Int) + 1 - (i : Int))]).run Tryz.prog w = .ok (.slice (some ⟨w.heap.size, 0, none⟩) (zs.length + 1) G) W1 := fun ty => by
    have h := Lib.run_append_grow_zeros w 24 3 ty 62 i0 z .i64 .i64 Tryz.underlying24 Tryz.underlying3 hi0 hz0 (some ⟨g, 0, none⟩) i c (flatE (zs.take i)) hold (zs.length + 1 - i) (by omega) (by omega) (by omega) (by omega) (by rw [hzb]; omega) (by rw [hzb, hik]; exact growslice_fits hroom (by omega))
    rw [hik] at h
    rw [hkk, hW1, hROW, hG]
    exact h
  have hbl1 : w.drew.heap.size = w.heap.size := rfl
  have hblk : W1.heap[w.heap.size]? = some (.cells ROW 62 (0, 0)) := by rw [hW1]; exact heap_alloc_new w.drew _
  have hbel : Below w.heap.size w W1 := by rw [hW1]; exact ((Below.refl _ w).drew).alloc (by rw [hbl1]; exact Nat.le_refl _) _
  have hN : ∀ j, j < ROW.size → (W1.cell? ⟨w.heap.size, j, none⟩).isSome = true := fun j hj => by rw [cell_of_row W1 _ j _ _ _ hblk, Array.getElem?_eq_getElem hj]; rfl
  have hNf : ∀ j, W1.frozen? ⟨w.heap.size, j, none⟩ = false := fun j => frozen_of_row W1 _ j _ _ hblk
  clear hW1 hROW hG hold
  have hcpA : ∀ ty dc, (Builtin.copy_ #[24, 24] ty #[.slice (some ⟨w.heap.size, i * 7, none⟩) (zs.length + 1 - i) dc, .slice (some ⟨vb, 0, none⟩) 1 1]).run Tryz.prog W1 = .ok (goInt 1) (W1.setCells w.heap.size (i * 7) x.enc) := fun ty dc => by
    have := run_copyK (P := Tryz.prog) W1 24 24 ty 62 7 w.heap.size (i * 7) (zs.length + 1 - i) dc ⟨vb, 0, none⟩ 1 1 x.enc Tryz.underlying24 hsz (by rw [enc_length]; show _ = min _ _ * 7; omega)
      (fun j v hj => by rw [Addr.add_lit]; exact (h1.at.keep hbel hvw) j v hj)
      (fun j hj => by rw [enc_length] at hj; exact hN _ (by omega)) (fun j hj => hNf _) (by have := flatE_one_cell [x]; rwa [flatE_one] at this)
    rw [show Nat.min 1 (zs.length + 1 - i) = 1 by show min _ _ = _; omega] at this
    exact this
  obtain ⟨W2, hW2⟩ : ∃ W2, W2 = W1.setCells w.heap.size (i * 7) x.enc := ⟨_, rfl⟩
  have hcpB : ∀ ty dc sc, (Builtin.copy_ #[24, 24] ty #[.slice (some ⟨w.heap.size, (i + 1) * 7, none⟩) (zs.length - i) dc, .slice (some ⟨g, i * 7, none⟩) (zs.length - i) sc]).run Tryz.prog W2.drew = .ok (goInt (zs.length - i : Nat)) (W2.drew.setCells w.heap.size ((i + 1) * 7) (flatE (zs.drop i))) := fun ty dc sc => by
    have := run_copyK (P := Tryz.prog) W2.drew 24 24 ty 62 7 w.heap.size ((i + 1) * 7) (zs.length - i) dc ⟨g, i * 7, none⟩ (zs.length - i) sc (flatE (zs.drop i)) Tryz.underlying24 hsz (by rw [hdl]; show _ = min _ _ * 7; omega)
      (fun j v hj => by
        rw [Addr.add_lit, show W2.drew.cell? ⟨g, i * 7 + j, none⟩ = W2.cell? ⟨g, i * 7 + j, none⟩ from rfl, hW2, World.cell?_setCells_out _ _ _ _ _ (fun h _ => absurd h (by show g ≠ w.heap.size; omega)), hbel.cell (p := ⟨g, i * 7 + j, none⟩) hgw]
        refine hrd (i * 7 + j) v ?_
        rw [flatE_drop, List.getElem?_drop] at hj
        exact hj)
      (fun j hj => by
        rw [show W2.drew.cell? ⟨w.heap.size, (i + 1) * 7 + j, none⟩ = W2.cell? ⟨w.heap.size, (i + 1) * 7 + j, none⟩ from rfl, hW2]
        exact isSome_setCells _ _ _ _ (fun t ht => hN _ (by rw [enc_length] at ht; omega)) _ (hN _ (by omega)))
      (fun j hj => by rw [show W2.drew.frozen? ⟨w.heap.size, (i + 1) * 7 + j, none⟩ = W2.frozen? ⟨w.heap.size, (i + 1) * 7 + j, none⟩ from rfl, hW2, World.frozen?_setCells]; exact hNf _) (flatE_one_cell _)
    rw [show Nat.min (zs.length - i) (zs.length - i) = zs.length - i by show min _ _ = _; omega] at this
    exact this
  have HFE : Hid (InsPost w base zs i x (.returned (.slice (some ⟨w.heap.size, 0, none⟩) (zs.length + 1) G)) (W2.drew.setCells w.heap.size ((i + 1) * 7) (flatE (zs.drop i)))) := by
    refine Lib.hid ⟨_, rfl, ?_, ?_⟩
    · obtain ⟨c1, e1, l1⟩ := heap_over w.heap.size 62 x.enc (i * 7) W1 ROW hblk (by rw [enc_length]; omega)
      have s1 : c1.size = ROW.size := by
        have := congrArg List.length l1
        rw [over_length (by rw [enc_length]; simp; omega)] at this
        simpa using this
      rw [← hW2] at e1
      obtain ⟨c2, e2, l2⟩ := heap_over w.heap.size 62 (flatE (zs.drop i)) ((i + 1) * 7) W2.drew c1 e1 (by rw [hdl]; omega)
      have s2 : c2.size = ROW.size := by
        have := congrArg List.length l2
        rw [over_length (by rw [hdl]; simp; omega)] at this
        simp at this
        omega
      refine ⟨by rw [flatE_length], .inr ⟨w.heap.size, G, c2, by rw [insL_length _ _ _ (by omega)], hb, e2, by rw [insL_length _ _ _ (by omega)]; omega, hGm, by rw [s2, hRs], ?_⟩⟩
      rw [insL_length _ _ _ (by omega), l2, l1]
      exact grow_list ROW.toList zs i x hi (by simp; omega) hRt
    · rw [hW2]
      exact below_setCells _ hb _ _ _ ((below_setCells _ hb _ _ _ (hbel.mono hb)).drew)
  rw [← hW2] at hcpA
  clear hW2
  obtain ⟨W3, hW3⟩ : ∃ W3, W3 = W2.drew.setCells w.heap.size ((i + 1) * 7) (flatE (zs.drop i)) := ⟨_, rfl⟩
  rw [← hW3] at HFE hcpB
  clear hW3
  have HCB := Lib.hid hcpB; clear hcpB
  have HRZ := Lib.hid hrz; clear hrz
  have hb2 : ¬ (c = i + 1 ∧ False) := by simp
  have hb4 : ¬ (c = i) := by omega
  have hGi : ¬ (G = i) := by omega
  have hGim : ¬ (G = i + 1) := by omega
  have hz2 : ¬ ((i : Int) = (zs.length : Int)) := by omega
  have hz3 : (c : Int) < (zs.length : Int) + 1 := by omega
  have hw1 : IntKind.i64.wrap ((i : Int) + 1) = (i : Int) + 1 := IntWalk.i64_in _ (by omega)
  have htn : ((i : Int) + 1).toNat = i + 1 := by omega
  have hc63 : c ≤ 9223372036854775807 := by unfold maxLen at hcm; omega
  have hG63 : G ≤ 9223372036854775807 := by unfold maxLen at hGm; omega
  have hb1 : (0 : Int) ≤ (i : Int) + 1 := by omega
  have hin : i ≤ zs.length := by omega
  have hic : i ≤ c := by omega
  have hb3 : (i : Int) ≤ (zs.length : Int) + 1 := by omega
  clear hdl hrd hNf hN hsz hg hcs htake hfl hcap h1 hb2 hblk hbl1 hRs hRt hzc hzb hzs hz0 hi0 hkk hik htl hcm hGm
  go_enter Tryz.func132, Tryz.ntmps132
  go_wp2_with (at_builtin; refine Lib.wpList_append_run _ rfl _ _ _ _ rfl _ _ rfl rfl _ _ (HRZ.out _) ?_)
  have hcpB := HCB.out
  clear hcpA
  go_region_law (refine step_copy_runI rfl _ _ 24 24 rfl (.slice (some ⟨w.heap.size, (i + 1) * 7, none⟩) (zs.length - i) (G - (i + 1))) (.slice (some ⟨g, i * 7, none⟩) (zs.length - i) (c - i)) (by simp [Act.eval, Act.put]) (by simp [Act.eval, Act.put]) (hcpB _ _ _) ?_)
  all_goals
    clear hcpB
    go_wp2
    go_ret
    exact HFE.out

theorem Insert_any (v : Value) (zs : List En) (i vb base : Nat) (x : En) (w : World) (h : EOwn w base v zs) (hb : base ≤ w.heap.size) (h1 : OneNew w vb x) (hne : v.ownBlock ≠ some vb) (hx : x.ok) (hl : zs.length ≤ 9000) (hi : i ≤ zs.length) :
    Calls Tryz.prog 132 #[v, .int .i64 i, .slice (some ⟨vb, 0, none⟩) 1 1] w (InsPost w base zs i x) := by
  rcases Nat.lt_or_ge i zs.length with hlt | hge
  · obtain ⟨A, c, rfl, hn, hA⟩ := h.form
    obtain ⟨g, rfl, _, _⟩ := hA (by intro h; simp [h] at hlt)
    have hvg : vb ≠ g := fun e => hne (by simp [Value.ownBlock, e])
    rcases Nat.lt_or_ge c (zs.length + 1) with hc | hc
    · exact Insert_grow g c i zs vb base x w h hb h1 hl hlt hc
    · exact Insert_shift g c i zs vb base x w h hb h1 hvg hl hlt hc
  · obtain rfl : i = zs.length := by omega
    exact Insert_end v zs vb base x w h hb h1 hx hl
end Go.Proofs.YtfjaeohfigcciabGreatDoor

namespace Go.Proofs.YtfjaeohfigcciabGreatDoor
open Go.RowKit

def takeL (zs : List En) (e : En) : List En :=
  if (decide (posE zs e.id < zs.length) && decide (zs[posE zs e.id]!.id = e.id)) = true then (if repB e zs[posE zs e.id]! = true then zs.set (posE zs e.id) e else zs) else insL zs (posE zs e.id) e

theorem posE_le (zs : List En) (id : Int) : posE zs id ≤ zs.length := List.countP_le_length

theorem right_step {zs : List En} (h : erightB zs = true) {j : Nat} (hj : j + 1 < zs.length) : zs[j]!.id < zs[j + 1]!.id := by
  simp only [erightB, List.all_eq_true, List.mem_range] at h
  have := h (j + 1) hj
  simp only [eokAt, Bool.and_eq_true, Bool.or_eq_true, decide_eq_true_eq, Nat.add_sub_cancel] at this
  rcases this.2 with h | h
  · omega
  · exact h
theorem right_le {zs : List En} (h : erightB zs = true) (a : Nat) : ∀ d, a + d < zs.length → zs[a]!.id ≤ zs[a + d]!.id
  | 0, _ => Int.le_refl _
  | d + 1, hd => by
    have h1 := right_le h a d (by omega)
    have h2 := right_step h (j := a + d) (by omega)
    rw [show a + (d + 1) = a + d + 1 by omega]
    omega
theorem right_mono {zs : List En} (h : erightB zs = true) (id : Int) : ∀ a b, a ≤ b → b < zs.length → zs[b]!.id < id → zs[a]!.id < id := fun a b hab hb hlt => by
  have := right_le h a (b - a) (by omega)
  rw [show a + (b - a) = b by omega] at this
  omega

theorem set_step (a : List Value) (l : List Value) (j k : Nat) (v : Value) (ha : a.length = 7) : (a ++ l).set ((j + 1) * 7 + k) v = a ++ l.set (j * 7 + k) v := by
  rw [List.set_append_right _ _ (by omega), ha, show (j + 1) * 7 + k - 7 = j * 7 + k by omega]
theorem flatE_set (zs : List En) (j : Nat) (x : En) (hj : j < zs.length) :
    (((((((flatE zs).set (j * 7) (.int .u8 x.id)).set (j * 7 + 1) (.int .u8 x.rep)).set (j * 7 + 2) (.int .u32 x.seq)).set (j * 7 + 3) (.int .u32 x.stamp)).set (j * 7 + 4) (.int .i64 x.kind)).set (j * 7 + 5) (.int .u8 x.cls)).set (j * 7 + 6) (.int .u32 x.val) = flatE (zs.set j x) := by
  induction zs generalizing j with
  | nil => simp at hj
  | cons y l ih =>
    match j, hj with
    | 0, _ => simp [flatE, En.enc]
    | j + 1, hj =>
      have := ih j (by simpa using hj)
      rw [List.set_cons_succ, flatE_cons, flatE_cons, ← this]
      have e0 := set_step y.enc (flatE l) j 0 (.int .u8 x.id) rfl
      simp only [Nat.add_zero] at e0
      rw [e0, set_step _ _ _ _ _ rfl, set_step _ _ _ _ _ rfl, set_step _ _ _ _ _ rfl, set_step _ _ _ _ _ rfl, set_step _ _ _ _ _ rfl, set_step _ _ _ _ _ rfl]

/-- the world with an entry stored at a place -/
def putEn (w : World) (g o : Nat) (x : En) : World := ((((((w.setCell ⟨g, o, none⟩ (.int .u8 x.id)).setCell ⟨g, o + 1, none⟩ (.int .u8 x.rep)).setCell ⟨g, o + 2, none⟩ (.int .u32 x.seq)).setCell ⟨g, o + 3, none⟩ (.int .u32 x.stamp)).setCell ⟨g, o + 4, none⟩ (.int .i64 x.kind)).setCell ⟨g, o + 5, none⟩ (.int .u8 x.cls)).setCell ⟨g, o + 6, none⟩ (.int .u32 x.val)

theorem EOwn.put {w : World} {base g c : Nat} {zs : List En} (h : EOwn w base (.slice (some ⟨g, 0, none⟩) zs.length c) zs) {j : Nat} (hj : j < zs.length) (x : En) (hb : base ≤ g) :
    EOwn (putEn w g (j * 7) x) base (.slice (some ⟨g, 0, none⟩) zs.length c) (zs.set j x) ∧ Below base w (putEn w g (j * 7) x) := by
  refine ⟨?_, ?_⟩
  · have a := ((((((((h : w.ownsRow _ _ _ _ _ _).stored (j * 7) (.int .u8 x.id)).1.stored (j * 7 + 1) (.int .u8 x.rep)).1.stored (j * 7 + 2) (.int .u32 x.seq)).1.stored (j * 7 + 3) (.int .u32 x.stamp)).1.stored (j * 7 + 4) (.int .i64 x.kind)).1.stored (j * 7 + 5) (.int .u8 x.cls)).1.stored (j * 7 + 6) (.int .u32 x.val)).1
    rw [flatE_set zs j x hj] at a
    unfold EOwn
    rw [List.length_set]
    exact a
  · exact (((((((Below.refl _ w).setCell (p := ⟨g, _, none⟩) hb _).setCell (p := ⟨g, _, none⟩) hb _).setCell (p := ⟨g, _, none⟩) hb _).setCell (p := ⟨g, _, none⟩) hb _).setCell (p := ⟨g, _, none⟩) hb _).setCell (p := ⟨g, _, none⟩) hb _).setCell (p := ⟨g, _, none⟩) hb _

theorem frozen_own {w : World} {base g c : Nat} {zs : List En} (h : EOwn w base (.slice (some ⟨g, 0, none⟩) zs.length c) zs) (j : Nat) : w.frozen? ⟨g, j, none⟩ = false := World.ownsRow.frozenAt h j

def takeR (zs : List En) (e : En) : Option (List En) := if erightB zs = true ∧ reB e = true then some (takeL zs e) else none

theorem takeL_ok {zs : List En} {e : En} (h : ∀ x ∈ zs, x.ok) (he : e.ok) : ∀ x ∈ takeL zs e, x.ok := by
  intro x hx
  unfold takeL at hx
  split at hx
  · split at hx
    · rcases List.mem_or_eq_of_mem_set hx with h1 | h1
      · exact h x h1
      · rw [h1]; exact he
    · exact h x hx
  · simp only [insL, List.mem_append, List.mem_cons] at hx
    rcases hx with h1 | h1 | h1
    · exact h x (List.mem_of_mem_take h1)
    · rw [h1]; exact he
    · exact h x (List.mem_of_mem_drop h1)

theorem oneNew_alloc (w : World) (x : En) : OneNew (w.alloc (.cells #[.int .u8 x.id, .int .u8 x.rep, .int .u32 x.seq, .int .u32 x.stamp, .int .i64 x.kind, .int .u8 x.cls, .int .u32 x.val] 62)) w.heap.size x := ⟨heap_alloc_new w _⟩

end Go.Proofs.YtfjaeohfigcciabGreatDoor

namespace Go.Proofs.YtfjaeohfigcciabGreatDoor

abbrev Rise (zs : List En) : Prop := zs.Pairwise (fun a b => a.id < b.id)

theorem rise_of_right {zs : List En} (h : erightB zs = true) : Rise zs := by
  refine List.pairwise_iff_getElem.2 ?_
  intro i j hi hj hij
  have h1 := right_le h (i + 1) (j - (i + 1)) (by omega)
  have h2 := right_step h (j := i) (by omega)
  rw [show i + 1 + (j - (i + 1)) = j by omega] at h1
  rw [getElem!_pos zs i hi, getElem!_pos zs (i + 1) (by omega)] at h2
  rw [getElem!_pos zs (i + 1) (by omega), getElem!_pos zs j hj] at h1
  omega
theorem re_of_right {zs : List En} (h : erightB zs = true) : ∀ x ∈ zs, reB x = true := by
  intro x hx
  obtain ⟨i, hi, rfl⟩ := List.mem_iff_getElem.1 hx
  simp only [erightB, List.all_eq_true, List.mem_range] at h
  have := h i hi
  simp only [eokAt, Bool.and_eq_true] at this
  rw [getElem!_pos zs i hi] at this
  exact this.1
theorem right_of {zs : List En} (h : Rise zs) (hr : ∀ x ∈ zs, reB x = true) : erightB zs = true := by
  apply erightB_true
  intro j hj
  have h := List.pairwise_iff_getElem.1 h
  simp only [eokAt, Bool.and_eq_true, Bool.or_eq_true, decide_eq_true_eq]
  refine ⟨by rw [getElem!_pos zs j hj]; exact hr _ (List.getElem_mem hj), ?_⟩
  rcases Nat.eq_zero_or_pos j with h0 | h0
  · exact .inl h0
  · right
    rw [getElem!_pos zs j hj, getElem!_pos zs (j - 1) (by omega)]
    exact h (j - 1) j (by omega) hj (by omega)

def takeS : List En → En → List En
  | [], e => [e]
  | x :: r, e => if x.id < e.id then x :: takeS r e else if x.id = e.id then (if repB e x = true then e else x) :: r else e :: x :: r

theorem takeL_cons_lt {x e : En} {r : List En} (h : x.id < e.id) : takeL (x :: r) e = x :: takeL r e := by
  have hp : posE (x :: r) e.id = posE r e.id + 1 := by simp [posE, List.countP_cons, h]
  have hg : (x :: r)[posE r e.id + 1]! = r[posE r e.id]! := by simp
  unfold takeL
  rw [hp, hg, List.length_cons]
  rw [show decide (posE r e.id + 1 < r.length + 1) = decide (posE r e.id < r.length) by simp]
  split
  · split
    · rw [List.set_cons_succ]
    · rfl
  · simp [insL]
theorem takeL_cons_ge {x e : En} {r : List En} (h : ¬ x.id < e.id) (hr : ∀ y ∈ r, x.id < y.id) : takeL (x :: r) e = if x.id = e.id then (if repB e x = true then e else x) :: r else e :: x :: r := by
  have hp : posE (x :: r) e.id = 0 := by
    simp only [posE, List.countP_eq_zero, List.mem_cons, decide_eq_true_eq]
    rintro y (rfl | hy)
    · exact h
    · have := hr y hy; omega
  unfold takeL
  rw [hp]
  by_cases he : x.id = e.id
  · by_cases hb : repB e x = true
    · simp [he, hb]
    · simp [he, hb]
  · simp [he, insL]
theorem takeL_eq {zs : List En} (e : En) (h : Rise zs) : takeL zs e = takeS zs e := by
  induction zs with
  | nil => simp [takeL, takeS, posE, insL]
  | cons x r ih =>
    have h := List.pairwise_cons.1 h
    by_cases hlt : x.id < e.id
    · rw [takeL_cons_lt hlt, takeS, if_pos hlt, ih h.2]
    · rw [takeL_cons_ge hlt h.1, takeS, if_neg hlt]

theorem mem_takeS {zs : List En} {e y : En} (h : y ∈ takeS zs e) : y = e ∨ y ∈ zs := by
  induction zs with
  | nil => simp [takeS] at h; exact .inl h
  | cons x r ih =>
    unfold takeS at h
    split at h
    · rcases List.mem_cons.1 h with h1 | h1
      · exact .inr (by simp [h1])
      · rcases ih h1 with h2 | h2
        · exact .inl h2
        · exact .inr (by simp [h2])
    · split at h
      · rcases List.mem_cons.1 h with h1 | h1
        · split at h1
          · exact .inl h1
          · exact .inr (by simp [h1])
        · exact .inr (by simp [h1])
      · rcases List.mem_cons.1 h with h1 | h1
        · exact .inl h1
        · exact .inr h1
theorem takeS_rise {zs : List En} (e : En) (h : Rise zs) : Rise (takeS zs e) := by
  induction zs with
  | nil => simp [takeS, Rise]
  | cons x r ih =>
    have h' := List.pairwise_cons.1 h
    unfold takeS
    split
    · next hlt =>
      refine List.pairwise_cons.2 ⟨fun y hy => ?_, ih h'.2⟩
      rcases mem_takeS hy with h1 | h1
      · rw [h1]; exact hlt
      · exact h'.1 y h1
    · split
      · next hlt heq =>
        refine List.pairwise_cons.2 ⟨fun y hy => ?_, h'.2⟩
        have := h'.1 y hy
        split <;> omega
      · next hlt hne =>
        refine List.pairwise_cons.2 ⟨fun y hy => ?_, h⟩
        rcases List.mem_cons.1 hy with h1 | h1
        · rw [h1]; omega
        · have := h'.1 y h1; omega
theorem takeS_length (zs : List En) (e : En) : (takeS zs e).length ≤ zs.length + 1 := by
  induction zs with
  | nil => simp [takeS]
  | cons x r ih =>
    unfold takeS
    split
    · simp only [List.length_cons]; omega
    · split <;> simp
/-- the version that is held of an ID -/
def verAt : List En → Int → Option Vr
  | [], _ => none
  | x :: r, id => if x.id = id then some x.ver else verAt r id
theorem verAt_none {zs : List En} {id : Int} (h : ∀ y ∈ zs, id < y.id) : verAt zs id = none := by
  induction zs with
  | nil => rfl
  | cons x r ih =>
    have := h x (by simp)
    rw [verAt, if_neg (by omega), ih (fun y hy => h y (by simp [hy]))]
def mx : Option Vr → Vr → Vr
  | none, v => v
  | some u, v => if ltV u v = true then v else u
def stepV (o : Option Vr) (e : En) (id : Int) : Option Vr := if id = e.id then some (mx o e.ver) else o
theorem rep_ver (e x : En) : (if repB e x = true then e else x).ver = mx (some x.ver) e.ver := by
  unfold mx repB
  by_cases h : ltV x.ver e.ver = true
  · simp [h]
  · by_cases h2 : x.ver = e.ver
    · by_cases h3 : x.kind = 2 ∧ e.kind ≠ 2
      · simp [h2, h3, ltV_irrefl]
      · have : (decide (x.kind = 2) && decide (e.kind ≠ 2)) = false := by
          rw [Bool.eq_false_iff]; simp only [ne_eq, Bool.and_eq_true, decide_eq_true_eq]; exact h3
        rw [this]; simp [h2, ltV_irrefl]
    · simp [h, h2]
theorem rep_id (e x : En) (h : x.id = e.id) : (if repB e x = true then e else x).id = e.id := by split <;> simp [h]
theorem verAt_take {zs : List En} (e : En) (id : Int) (h : Rise zs) : verAt (takeS zs e) id = stepV (verAt zs id) e id := by
  induction zs with
  | nil =>
    simp only [takeS, verAt, stepV, mx]
    by_cases he : id = e.id
    · rw [if_pos he.symm, if_pos he]
    · rw [if_neg (fun h => he h.symm), if_neg he]
  | cons x r ih =>
    have h' := List.pairwise_cons.1 h
    unfold takeS
    by_cases hlt : x.id < e.id
    · rw [if_pos hlt, verAt, verAt, ih h'.2]
      by_cases hx : x.id = id
      · rw [if_pos hx, if_pos hx, stepV, if_neg (by omega)]
      · rw [if_neg hx, if_neg hx]
    · rw [if_neg hlt]
      by_cases he : x.id = e.id
      · rw [if_pos he, verAt, verAt, rep_id e x he, rep_ver]
        by_cases hx : e.id = id
        · rw [if_pos hx, if_pos (by omega), stepV, if_pos hx.symm]
        · rw [if_neg hx, if_neg (by omega), stepV, if_neg (fun h => hx h.symm)]
      · rw [if_neg he, verAt]
        by_cases hx : e.id = id
        · have hn : verAt (x :: r) id = none := verAt_none (fun y hy => by
            rcases List.mem_cons.1 hy with h1 | h1
            · rw [h1]; omega
            · have := h'.1 y h1; omega)
          rw [if_pos hx, hn, stepV, if_pos hx.symm, mx]
        · rw [if_neg hx, stepV, if_neg (fun h => hx h.symm)]

/-- what was held is not less than what is -/
theorem step_up {u : Vr} {o : Option Vr} (e : En) (id : Int) (h : ∃ v, o = some v ∧ ltV v u = false) : ∃ v, stepV o e id = some v ∧ ltV v u = false := by
  obtain ⟨v, rfl, hv⟩ := h
  unfold stepV
  split
  · refine ⟨_, rfl, ?_⟩
    simp only [mx]
    split
    · next h =>
      by_cases h2 : ltV e.ver u = true
      · have := ltV_trans h h2; rw [hv] at this; cases this
      · simpa using h2
    · exact hv
  · exact ⟨v, rfl, hv⟩

end Go.Proofs.YtfjaeohfigcciabGreatDoor

