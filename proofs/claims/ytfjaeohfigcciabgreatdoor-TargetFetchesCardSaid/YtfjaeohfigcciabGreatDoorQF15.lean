/- Texts in one: NCRight3. -/
import Derived.Test.YtfjaeohfigcciabGreatDoorQF14
set_option linter.unusedVariables false
set_option linter.unusedSimpArgs false
set_option linter.unusedSectionVars false
set_option linter.unnecessarySimpa false
namespace Go.Proofs.YtfjaeohfigcciabGreatDoor
open Go.RowKit

theorem next_split (n : Nt) : nextB n = (firstB n && (n.next == nextI n)) := by
  unfold nextB firstB nextI
  cases h : n.ents with
  | nil => simp only [List.getLast?_nil, Bool.true_and]; rw [Bool.eq_iff_iff]; simp
  | cons e r => rw [List.getLast?_eq_some_getLast (List.cons_ne_nil _ _)]; simp only; rw [Bool.eq_iff_iff]; simp
def batchC (n : Nt) : Bool := (n.flt == 0) && (((n.know.length : Int) == 0) && (entsOk n && ((n.next == nextI n) && (decide (n.done = true ∨ (n.ents.length = 4 ∧ n.next ≤ 63)) && (rightB n.offer && decide (n.cur = 0 ∨ n.offer = []))))))
theorem batch_split (n : Nt) (hk : n.kind = 2) : batchB n = batchC n := by
  unfold batchB batchC entsOk
  rw [next_split, len_zero, Bool.eq_iff_iff]
  simp only [Bool.and_eq_true, decide_eq_true_eq, beq_iff_eq, List.length_eq_zero_iff]
  constructor
  · rintro ⟨⟨_, h1, h2, h3⟩, h4, h5, ⟨h6, h7⟩, h8, h9⟩; exact ⟨h1, h2, ⟨h3, h4, h6⟩, h7, h8, h5, h9⟩
  · rintro ⟨h1, h2, ⟨h3, h4, h6⟩, h7, h8, h5, h9⟩; exact ⟨⟨hk, h1, h2, h3⟩, h4, h5, ⟨h6, h7⟩, h8, h9⟩
theorem ents_parts {n : Nt} (h : entsOk n = true) : n.ents.length ≤ 4 ∧ erightB n.ents = true := by
  unfold entsOk at h
  simp only [Bool.and_eq_true, decide_eq_true_eq] at h
  exact ⟨h.1, h.2.1⟩
theorem NtV.now {w : World} {v : Value} {n : Nt} (h : NtV w w.heap.size v n) (o : Obj) (p : Later (w.alloc o)) : NtV p.now p.now.heap.size v n :=
  h.later ((al1 w o).trans (p.bel.mono (by simp)))

set_option maxHeartbeats 8000000 in
set_option maxRecDepth 100000 in
theorem nrightBatch_any (v : Value) (n : Nt) (w : World) (hv : NtV w w.heap.size v n) :
    Calls Tryz.prog 48 #[v] w fun e w' => e = .returned (.bool (batchC n)) ∧ Below w.heap.size w w' := by
  have hv0 := hv
  obtain ⟨vk, ve, vo, rfl, hk, he, ho, hok⟩ := hv
  have HV := Lib.hid (fun p => hv0.now (.cells (n.cells vk ve vo) 30) p)
  obtain ⟨Ak, ck, rfl, _⟩ := hk
  have HP : batchC n = ((n.flt == 0) && (((n.know.length : Int) == 0) && (entsOk n && ((n.next == nextI n) && (decide (n.done = true ∨ (n.ents.length = 4 ∧ n.next ≤ 63)) && (rightB n.offer && decide (n.cur = 0 ∨ n.offer = []))))))) := rfl
  generalize batchC n = P at HP ⊢
  have r3 := fun p => nrightEntries_any _ n _ (HV.out p)
  have r4 := fun (h : entsOk n = true) p => nnext_any _ n _ (HV.out p) (ents_parts h).2 (ents_parts h).1
  have r5 := fun p => nrightDone_any _ n _ (HV.out p)
  have r6 := fun p => nrightOffer_any _ n _ (HV.out p)
  have NC := fun (p : Later (w.alloc (.cells (n.cells (.slice Ak n.know.length ck) ve vo) 30))) => note_cells (w := w) (n := n) p.bel
  generalize hb3 : entsOk n = b3 at HP r3 r4
  generalize decide (n.done = true ∨ (n.ents.length = 4 ∧ n.next ≤ 63)) = b5 at HP r5
  generalize (rightB n.offer && decide (n.cur = 0 ∨ n.offer = [])) = b6 at HP r6
  generalize hnx : nextI n = nx at HP r4
  clear HV hv0 he ho hok hb3 hnx
  unfold Nt.cells at NC r3 r4 r5 r6 ⊢
  generalize hq1 : (n.flt == 0) = q1 at HP
  generalize hq2 : ((n.know.length : Int) == 0) = q2 at HP
  generalize hq4 : (n.next == nx) = q4 at HP
  have HB0 := Lib.hid (al1 w (.cells #[.int .i64 n.kind, .int .u8 n.src, .int .u8 n.dst, .int .u32 n.num, .int .u8 n.cur, .int .u8 n.flt, .slice Ak n.know.length ck, .int .u32 n.epoch, ve, .int .u8 n.next, .bool n.done, vo] 30))
  have HPE := Lib.hid HP; clear HP
  have NC := Lib.hid NC
  have R3 := Lib.hid r3; clear r3
  have R4 := Lib.hid r4; clear r4
  have R5 := Lib.hid r5; clear r5
  have R6 := Lib.hid r6; clear r6
  cases q1
  · have HF := HPE
    go_enter Tryz.func48, Tryz.ntmps48
    go_wp2_with fail
    have hm : Tryz.prog.follows .mixedOrders = true := by kernel_rfl
    have p0 := fun p => NC.out p 0 _ rfl
    have p1 := fun p => NC.out p 1 _ rfl
    have p2 := fun p => NC.out p 2 _ rfl
    have p3 := fun p => NC.out p 3 _ rfl
    have p4 := fun p => NC.out p 4 _ rfl
    have p5 := fun p => NC.out p 5 _ rfl
    have p6 := fun p => NC.out p 6 _ rfl
    have p7 := fun p => NC.out p 7 _ rfl
    have p8 := fun p => NC.out p 8 _ rfl
    have p9 := fun p => NC.out p 9 _ rfl
    have p10 := fun p => NC.out p 10 _ rfl
    have p11 := fun p => NC.out p 11 _ rfl
    refine wp_region_later hm (by kernel_rfl) ?_
    repeat (any_goals (first | go_big_quiet_step (fail) | quiet_step (fail)))
    refine wpQuiet_nil ?_
    intro wp hw'
    obtain ⟨lp, hlp⟩ := hw'
    have hbp := lp.bel
    rw [← hlp] at hbp
    clear hlp lp
    have HBN := Lib.hid (HB0.out.trans (hbp.mono (by simp)))
    clear p0 p1 p2 p3 p4 p5 p6 p7 p8 p9 p10 p11 hbp
    go_wp2
    go_ret
    exact ⟨by rw [HPE.out]; simp, HBN.out⟩
  · skip
    cases q2
    · have HF := HPE
      go_enter Tryz.func48, Tryz.ntmps48
      go_wp2_with fail
      have hm : Tryz.prog.follows .mixedOrders = true := by kernel_rfl
      have p0 := fun p => NC.out p 0 _ rfl
      have p1 := fun p => NC.out p 1 _ rfl
      have p2 := fun p => NC.out p 2 _ rfl
      have p3 := fun p => NC.out p 3 _ rfl
      have p4 := fun p => NC.out p 4 _ rfl
      have p5 := fun p => NC.out p 5 _ rfl
      have p6 := fun p => NC.out p 6 _ rfl
      have p7 := fun p => NC.out p 7 _ rfl
      have p8 := fun p => NC.out p 8 _ rfl
      have p9 := fun p => NC.out p 9 _ rfl
      have p10 := fun p => NC.out p 10 _ rfl
      have p11 := fun p => NC.out p 11 _ rfl
      refine wp_region_later hm (by kernel_rfl) ?_
      repeat (any_goals (first | go_big_quiet_step (fail) | quiet_step (fail)))
      refine wpQuiet_nil ?_
      intro wp hw'
      obtain ⟨lp, hlp⟩ := hw'
      have hbp := lp.bel
      rw [← hlp] at hbp
      clear hlp lp
      have HBN := Lib.hid (HB0.out.trans (hbp.mono (by simp)))
      clear p0 p1 p2 p3 p4 p5 p6 p7 p8 p9 p10 p11 hbp
      go_wp2
      go_ret
      exact ⟨by rw [HPE.out]; simp, HBN.out⟩
    · skip
      cases b3
      · have HF := HPE
        go_enter Tryz.func48, Tryz.ntmps48
        go_wp2_with fail
        have hm : Tryz.prog.follows .mixedOrders = true := by kernel_rfl
        have p0 := fun p => NC.out p 0 _ rfl
        have p1 := fun p => NC.out p 1 _ rfl
        have p2 := fun p => NC.out p 2 _ rfl
        have p3 := fun p => NC.out p 3 _ rfl
        have p4 := fun p => NC.out p 4 _ rfl
        have p5 := fun p => NC.out p 5 _ rfl
        have p6 := fun p => NC.out p 6 _ rfl
        have p7 := fun p => NC.out p 7 _ rfl
        have p8 := fun p => NC.out p 8 _ rfl
        have p9 := fun p => NC.out p 9 _ rfl
        have p10 := fun p => NC.out p 10 _ rfl
        have p11 := fun p => NC.out p 11 _ rfl
        refine wp_region_later hm (by kernel_rfl) ?_
        repeat (any_goals (first | go_big_quiet_step (first | (go_at_call 83; exact Calls.later (R3.out _))) | quiet_step (first | (go_at_call 83; exact Calls.later (R3.out _)))))
        refine wpQuiet_nil ?_
        intro wp hw'
        obtain ⟨lp, hlp⟩ := hw'
        have hbp := lp.bel
        rw [← hlp] at hbp
        clear hlp lp
        have HBN := Lib.hid (HB0.out.trans (hbp.mono (by simp)))
        clear p0 p1 p2 p3 p4 p5 p6 p7 p8 p9 p10 p11 hbp
        go_wp2
        go_ret
        exact ⟨by rw [HPE.out]; simp, HBN.out⟩
      · skip
        cases q4
        · have HF := HPE
          go_enter Tryz.func48, Tryz.ntmps48
          go_wp2_with fail
          have hm : Tryz.prog.follows .mixedOrders = true := by kernel_rfl
          have p0 := fun p => NC.out p 0 _ rfl
          have p1 := fun p => NC.out p 1 _ rfl
          have p2 := fun p => NC.out p 2 _ rfl
          have p3 := fun p => NC.out p 3 _ rfl
          have p4 := fun p => NC.out p 4 _ rfl
          have p5 := fun p => NC.out p 5 _ rfl
          have p6 := fun p => NC.out p 6 _ rfl
          have p7 := fun p => NC.out p 7 _ rfl
          have p8 := fun p => NC.out p 8 _ rfl
          have p9 := fun p => NC.out p 9 _ rfl
          have p10 := fun p => NC.out p 10 _ rfl
          have p11 := fun p => NC.out p 11 _ rfl
          refine wp_region_later hm (by kernel_rfl) ?_
          repeat (any_goals (first | go_big_quiet_step (first | (go_at_call 83; exact Calls.later (R3.out _)) | (go_at_call 84; exact Calls.later (R4.out (by trivial) _))) | quiet_step (first | (go_at_call 83; exact Calls.later (R3.out _)) | (go_at_call 84; exact Calls.later (R4.out (by trivial) _)))))
          refine wpQuiet_nil ?_
          intro wp hw'
          obtain ⟨lp, hlp⟩ := hw'
          have hbp := lp.bel
          rw [← hlp] at hbp
          clear hlp lp
          have HBN := Lib.hid (HB0.out.trans (hbp.mono (by simp)))
          clear p0 p1 p2 p3 p4 p5 p6 p7 p8 p9 p10 p11 hbp
          go_wp2
          go_ret
          exact ⟨by rw [HPE.out]; simp, HBN.out⟩
        · skip
          cases b5
          · have HF := HPE
            go_enter Tryz.func48, Tryz.ntmps48
            go_wp2_with fail
            have hm : Tryz.prog.follows .mixedOrders = true := by kernel_rfl
            have p0 := fun p => NC.out p 0 _ rfl
            have p1 := fun p => NC.out p 1 _ rfl
            have p2 := fun p => NC.out p 2 _ rfl
            have p3 := fun p => NC.out p 3 _ rfl
            have p4 := fun p => NC.out p 4 _ rfl
            have p5 := fun p => NC.out p 5 _ rfl
            have p6 := fun p => NC.out p 6 _ rfl
            have p7 := fun p => NC.out p 7 _ rfl
            have p8 := fun p => NC.out p 8 _ rfl
            have p9 := fun p => NC.out p 9 _ rfl
            have p10 := fun p => NC.out p 10 _ rfl
            have p11 := fun p => NC.out p 11 _ rfl
            refine wp_region_later hm (by kernel_rfl) ?_
            repeat (any_goals (first | go_big_quiet_step (first | (go_at_call 83; exact Calls.later (R3.out _)) | (go_at_call 84; exact Calls.later (R4.out (by trivial) _)) | (go_at_call 85; exact Calls.later (R5.out _))) | quiet_step (first | (go_at_call 83; exact Calls.later (R3.out _)) | (go_at_call 84; exact Calls.later (R4.out (by trivial) _)) | (go_at_call 85; exact Calls.later (R5.out _)))))
            refine wpQuiet_nil ?_
            intro wp hw'
            obtain ⟨lp, hlp⟩ := hw'
            have hbp := lp.bel
            rw [← hlp] at hbp
            clear hlp lp
            have HBN := Lib.hid (HB0.out.trans (hbp.mono (by simp)))
            clear p0 p1 p2 p3 p4 p5 p6 p7 p8 p9 p10 p11 hbp
            go_wp2
            go_ret
            exact ⟨by rw [HPE.out]; simp, HBN.out⟩
          · skip
            have HF := HPE
            go_enter Tryz.func48, Tryz.ntmps48
            go_wp2_with fail
            have hm : Tryz.prog.follows .mixedOrders = true := by kernel_rfl
            have p0 := fun p => NC.out p 0 _ rfl
            have p1 := fun p => NC.out p 1 _ rfl
            have p2 := fun p => NC.out p 2 _ rfl
            have p3 := fun p => NC.out p 3 _ rfl
            have p4 := fun p => NC.out p 4 _ rfl
            have p5 := fun p => NC.out p 5 _ rfl
            have p6 := fun p => NC.out p 6 _ rfl
            have p7 := fun p => NC.out p 7 _ rfl
            have p8 := fun p => NC.out p 8 _ rfl
            have p9 := fun p => NC.out p 9 _ rfl
            have p10 := fun p => NC.out p 10 _ rfl
            have p11 := fun p => NC.out p 11 _ rfl
            refine wp_region_later hm (by kernel_rfl) ?_
            repeat (any_goals (first | go_big_quiet_step (first | (go_at_call 83; exact Calls.later (R3.out _)) | (go_at_call 84; exact Calls.later (R4.out (by trivial) _)) | (go_at_call 85; exact Calls.later (R5.out _)) | (go_at_call 86; exact Calls.later (R6.out _))) | quiet_step (first | (go_at_call 83; exact Calls.later (R3.out _)) | (go_at_call 84; exact Calls.later (R4.out (by trivial) _)) | (go_at_call 85; exact Calls.later (R5.out _)) | (go_at_call 86; exact Calls.later (R6.out _)))))
            refine wpQuiet_nil ?_
            intro wp hw'
            obtain ⟨lp, hlp⟩ := hw'
            have hbp := lp.bel
            rw [← hlp] at hbp
            clear hlp lp
            have HBN := Lib.hid (HB0.out.trans (hbp.mono (by simp)))
            clear p0 p1 p2 p3 p4 p5 p6 p7 p8 p9 p10 p11 hbp
            go_wp2
            go_ret
            exact ⟨by rw [HPE.out]; simp, HBN.out⟩

theorem Rt_head {n : Nt} : headB n = (!decide (8 ≤ n.src) && (!decide (8 ≤ n.dst) && (!(n.src == n.dst) && (!(n.num == 0) && !decide (64 ≤ n.cur))))) ∨ ¬ (0 ≤ n.num) := by
  by_cases h0 : 0 ≤ n.num
  · left
    unfold headB
    rw [Bool.eq_iff_iff]
    simp
    omega
  · exact .inr h0

set_option maxHeartbeats 8000000 in
set_option maxRecDepth 100000 in
theorem nRight_any (v : Value) (n : Nt) (w : World) (hv : NtV w w.heap.size v n) :
    Calls Tryz.prog 16 #[v] w fun e w' => e = .returned (.bool (noteB n)) ∧ Below w.heap.size w w' := by
  have hv0 := hv
  obtain ⟨vk, ve, vo, rfl, hk, he, ho, hok⟩ := hv
  have r1 := nrightPull_any _ n _ (hv0.later (al1 w (.cells (n.cells vk ve vo) 30)))
  have r2 := nrightBatch_any _ n _ (hv0.later (al1 w (.cells (n.cells vk ve vo) 30)))
  have hh := (Rt_head (n := n)).resolve_right (fun h => h hok.2.2.2.1.1)
  have HB0 := Lib.hid (al1 w (.cells (n.cells vk ve vo) 30))
  have hP : noteB n = (headB n && (if n.kind = 1 then pullB n else batchB n)) := rfl
  have hb2 := fun h => batch_split n h
  generalize noteB n = P at hP ⊢
  generalize pullB n = P1 at hP r1
  have hb3 : n.kind ≠ 2 → batchB n = false := fun h => by unfold batchB; rw [decide_eq_false (fun hd => h hd.1)]; rfl
  generalize batchB n = P2 at hP hb2 hb3
  generalize batchC n = P3 at hb2 r2
  rw [hh] at hP
  clear hh hv0 hk he ho
  obtain ⟨k0, k1, k2, k3, k4, k5, k6, k7, k8, k9, k10⟩ := hok
  clear k6 k8 k10
  unfold Nt.cells at HB0 r1 r2 ⊢
  have HPE := Lib.hid hP; clear hP
  have HC2 := Lib.hid hb2; clear hb2
  have HC3 := Lib.hid hb3; clear hb3
  have R1 := Lib.hid r1; clear r1
  have R2 := Lib.hid r2; clear r2
  by_cases c1 : 8 ≤ n.src
  · have HF := Lib.hid (show P = false by rw [HPE.out, decide_eq_true c1]; rfl)
    go_enter Tryz.func16, Tryz.ntmps16
    go_wp2_with fail
    go_ret
    rw [HF.out]; exact ⟨rfl, HB0.out⟩
  by_cases c2 : 8 ≤ n.dst
  · have HF := Lib.hid (show P = false by rw [HPE.out, decide_eq_true c2]; simp)
    go_enter Tryz.func16, Tryz.ntmps16
    go_wp2_with fail
    go_ret
    rw [HF.out]; exact ⟨rfl, HB0.out⟩
  cases c3 : (n.src == n.dst)
  case true =>
    have HF := Lib.hid (show P = false by rw [HPE.out, c3]; simp)
    go_enter Tryz.func16, Tryz.ntmps16
    go_wp2_with fail
    go_ret
    rw [HF.out]; exact ⟨rfl, HB0.out⟩
  cases c4 : (n.num == 0)
  case true =>
    have HF := Lib.hid (show P = false by rw [HPE.out, c4]; simp)
    go_enter Tryz.func16, Tryz.ntmps16
    go_wp2_with fail
    go_ret
    rw [HF.out]; exact ⟨rfl, HB0.out⟩
  by_cases c5 : 64 ≤ n.cur
  · have HF := Lib.hid (show P = false by rw [HPE.out, decide_eq_true c5]; simp)
    go_enter Tryz.func16, Tryz.ntmps16
    go_wp2_with fail
    go_ret
    rw [HF.out]; exact ⟨rfl, HB0.out⟩
  have HF := Lib.hid (show P = (if n.kind = 1 then P1 else P2) by rw [HPE.out, decide_eq_false c1, decide_eq_false c2, c3, c4, decide_eq_false c5]; simp)
  cases e1 : (n.kind == 1)
  · have hn1 : n.kind ≠ 1 := by simpa using e1
    have HF2 := Lib.hid (show P = P2 by rw [HF.out, if_neg hn1])
    clear hn1
    cases e2 : (n.kind == 2)
    · have hn2 : n.kind ≠ 2 := by simpa using e2
      have HF3 := Lib.hid (HC3.out hn2)
      clear hn2
      go_enter Tryz.func16, Tryz.ntmps16
      go_wp2_with fail
      go_ret
      rw [HF2.out, HF3.out]; exact ⟨rfl, HB0.out⟩
    · have hn2 : n.kind = 2 := by simpa using e2
      have HF3 := Lib.hid (HC2.out hn2)
      clear hn2
      go_enter Tryz.func16, Tryz.ntmps16
      go_wp2_with fail
      refine R2.out.mono ?_
      rintro e w1 ⟨rfl, hb1⟩
      have HB1 := Lib.hid (HB0.out.trans (hb1.mono (by simp))); clear hb1
      go_wp2_with fail
      go_ret
      rw [HF2.out, HF3.out]; exact ⟨rfl, HB1.out⟩
  · have hn1 : n.kind = 1 := by simpa using e1
    have HF2 := Lib.hid (show P = P1 by rw [HF.out, if_pos hn1])
    clear hn1
    go_enter Tryz.func16, Tryz.ntmps16
    go_wp2_with fail
    refine R1.out.mono ?_
    rintro e w1 ⟨rfl, hb1⟩
    have HB1 := Lib.hid (HB0.out.trans (hb1.mono (by simp))); clear hb1
    go_wp2_with fail
    go_ret
    rw [HF2.out]; exact ⟨rfl, HB1.out⟩
end Go.Proofs.YtfjaeohfigcciabGreatDoor

