/- The contracts of item.rightKind, item.rightEntry, item.replaces, and of the reference's RightEntry. -/
import Derived.Test.YtfjaeohfigcciaaDoorICmp
namespace Go.Proofs.YtfjaeohfigcciaaDoor
open Go.RowKit

def En.agg (x : En) : Value := .agg #[.int .u8 x.id, .int .u8 x.rep, .int .u32 x.seq, .int .u32 x.stamp, .int .i64 x.kind, .int .u8 x.cls, .int .u32 x.val]

set_option maxHeartbeats 1000000 in
theorem rightKind_any (x : En) (w : World) (hx : x.ok) :
    Calls Tryd.prog 60 #[x.agg] w fun e w' => e = .returned (.bool (rkB x)) ∧ Below w.heap.size w w' := by
  obtain ⟨id, rep, seq, stamp, kind, cls, val⟩ := x
  obtain ⟨⟨i1, i2⟩, _, ⟨k1, k2⟩, ⟨c1, c2⟩, v1, v2⟩ := hx
  simp only [En.agg] at *
  by_cases h1 : kind = 1
  · subst h1
    by_cases hc : cls = val % 8
    · have e : rkB ⟨id, rep, seq, stamp, 1, cls, val⟩ = true := by simp [rkB, hc]
      rw [e]; clear e
      have hc' : (cls == val % 8) = true := by simp [hc]
      clear hc
      go_enter Tryd.func60, Tryd.ntmps60
      go_wp2
      go_ret
      exact ⟨rfl, al1 _ _⟩
    · have e : rkB ⟨id, rep, seq, stamp, 1, cls, val⟩ = false := by simp [rkB, hc]
      rw [e]; clear e
      have hc' : (cls == val % 8) = false := by simp [hc]
      clear hc
      go_enter Tryd.func60, Tryd.ntmps60
      go_wp2
      go_ret
      exact ⟨rfl, al1 _ _⟩
  · have h1' : (kind == 1) = false := by simp [h1]
    by_cases h3 : kind = 3
    · subst h3
      clear h1 h1'
      by_cases hc : cls = 0
      · subst hc
        rw [show rkB ⟨id, rep, seq, stamp, 3, 0, val⟩ = (val == 0) by rw [Bool.eq_iff_iff]; simp [rkB]]
        go_enter Tryd.func60, Tryd.ntmps60
        go_wp2
        go_ret
        exact ⟨rfl, al1 _ _⟩
      · have e : rkB ⟨id, rep, seq, stamp, 3, cls, val⟩ = false := by simp [rkB, hc]
        rw [e]; clear e
        have hc' : (cls != 0) = true := by simp [hc]
        clear hc
        go_enter Tryd.func60, Tryd.ntmps60
        go_wp2
        go_ret
        exact ⟨rfl, al1 _ _⟩
    · have h3' : (kind == 3) = false := by simp [h3]
      by_cases h2 : kind = 2
      · subst h2
        clear h1 h1' h3 h3'
        by_cases hc : cls < 8
        · rw [show rkB ⟨id, rep, seq, stamp, 2, cls, val⟩ = (val == 0) by rw [Bool.eq_iff_iff]; simp [rkB, hc]]
          go_enter Tryd.func60, Tryd.ntmps60
          go_wp2
          go_ret
          exact ⟨rfl, al1 _ _⟩
        · have e : rkB ⟨id, rep, seq, stamp, 2, cls, val⟩ = false := by simp [rkB, hc]
          rw [e]; clear e
          go_enter Tryd.func60, Tryd.ntmps60
          go_wp2
          go_ret
          exact ⟨rfl, al1 _ _⟩
      · have h2' : (kind == 2) = false := by simp [h2]
        have e : rkB ⟨id, rep, seq, stamp, kind, cls, val⟩ = false := by simp [rkB, h1, h2, h3]
        rw [e]; clear e
        clear h1 h2 h3
        go_enter Tryd.func60, Tryd.ntmps60
        go_wp2
        go_ret
        exact ⟨rfl, al1 _ _⟩

set_option maxHeartbeats 1000000 in
theorem irightEntry_any (x : En) (w : World) (hx : x.ok) :
    Calls Tryd.prog 40 #[x.agg] w fun e w' => e = .returned (.bool (reB x)) ∧ Below w.heap.size w w' := by
  have k1 := fun W => iRightVer_any x.rep x.seq x.stamp W
  have k2 := fun W => rightKind_any x W hx
  simp only [En.agg] at k2 ⊢
  unfold reB
  rw [show x.ver = ⟨x.rep, x.seq, x.stamp⟩ from rfl]
  generalize rvB ⟨x.rep, x.seq, x.stamp⟩ = a at k1 ⊢
  generalize rkB x = b at k2 ⊢
  have K1 := Lib.hid k1; clear k1
  have K2 := Lib.hid k2; clear k2
  clear hx
  have hN := Lib.hid (new_entry w x 42)
  cases a
  · simp only [Bool.false_and]
    go_enter Tryd.func40, Tryd.ntmps40
    go_wp2_with fail
    refine (K1.out _).mono ?_
    rintro e w1 ⟨rfl, hb1⟩
    have HB := Lib.hid ((al1 w _).trans (hb1.mono (by simp)))
    clear hb1
    go_wp2_with fail
    go_ret
    exact ⟨rfl, HB.out⟩
  · simp only [Bool.true_and]
    by_cases h : x.id < 64
    · simp only [h, decide_true, Bool.true_and]
      go_enter Tryd.func40, Tryd.ntmps40
      go_wp2_with fail
      refine (K1.out _).mono ?_
      rintro e w1 ⟨rfl, hb1⟩
      obtain ⟨c0, c1, c2, c3, c4, c5, c6⟩ := (hN.out.keep hb1 (by simp)).all
      have HB := Lib.hid ((al1 w _).trans (hb1.mono (by simp)))
      clear hb1 hN
      go_wp2_with fail
      refine (K2.out _).mono ?_
      rintro e w2 ⟨rfl, hb2⟩
      go_wp2_with fail
      go_ret
      exact ⟨rfl, HB.out.trans (hb2.mono HB.out.size)⟩
    · simp only [h, decide_false, Bool.false_and]
      go_enter Tryd.func40, Tryd.ntmps40
      go_wp2_with fail
      refine (K1.out _).mono ?_
      rintro e w1 ⟨rfl, hb1⟩
      obtain ⟨c0, c1, c2, c3, c4, c5, c6⟩ := (hN.out.keep hb1 (by simp)).all
      have HB := Lib.hid ((al1 w _).trans (hb1.mono (by simp)))
      clear hb1 hN
      go_wp2_with fail
      go_ret
      exact ⟨rfl, HB.out⟩

set_option maxHeartbeats 1000000 in
theorem rRightEntry_any (x : En) (w : World) (hx : x.ok) :
    Calls Tryd.prog 23 #[x.agg] w fun e w' => e = .returned (.bool (reB x)) ∧ Below w.heap.size w w' := by
  have k1 := fun W => rRightVer_any x.rep x.seq x.stamp W
  simp only [En.agg]
  unfold reB
  rw [show x.ver = ⟨x.rep, x.seq, x.stamp⟩ from rfl]
  generalize rvB ⟨x.rep, x.seq, x.stamp⟩ = a at k1 ⊢
  have K1 := Lib.hid k1; clear k1
  have hN := Lib.hid (new_entry w x 42)
  obtain ⟨id, rep, seq, stamp, kind, cls, val⟩ := x
  obtain ⟨⟨i1, i2⟩, _, ⟨k1, k2⟩, ⟨c1, c2⟩, v1, v2⟩ := hx
  simp only at *
  cases a
  · simp only [Bool.false_and]
    go_enter Tryd.func23, Tryd.ntmps23
    go_wp2_with fail
    refine (K1.out _).mono ?_
    rintro e w1 ⟨rfl, hb1⟩
    have HB := Lib.hid ((al1 w _).trans (hb1.mono (by simp)))
    clear hb1
    go_wp2_with fail
    go_ret
    exact ⟨rfl, HB.out⟩
  · simp only [Bool.true_and]
    by_cases h : id < 64
    · simp only [h, decide_true, Bool.true_and]
      by_cases h1 : kind = 1
      · subst h1
        rw [show rkB ⟨id, rep, seq, stamp, 1, cls, val⟩ = (cls == val % 8) by rw [Bool.eq_iff_iff]; simp [rkB]]
        go_enter Tryd.func23, Tryd.ntmps23
        go_wp2_with fail
        refine (K1.out _).mono ?_
        rintro e w1 ⟨rfl, hb1⟩
        obtain ⟨c0, c1, c2, c3, c4, c5, c6⟩ := (hN.out.keep hb1 (by simp)).all
        have HB := Lib.hid ((al1 w _).trans (hb1.mono (by simp)))
        clear hb1 hN
        go_wp2_with fail
        go_ret
        exact ⟨rfl, HB.out⟩
      · have h1' : (kind == 1) = false := by simp [h1]
        by_cases h2 : kind = 2
        · subst h2
          clear h1 h1'
          by_cases hc : cls < 8
          · rw [show rkB ⟨id, rep, seq, stamp, 2, cls, val⟩ = (val == 0) by rw [Bool.eq_iff_iff]; simp [rkB, hc]]
            go_enter Tryd.func23, Tryd.ntmps23
            go_wp2_with fail
            refine (K1.out _).mono ?_
            rintro e w1 ⟨rfl, hb1⟩
            obtain ⟨c0, c1, c2, c3, c4, c5, c6⟩ := (hN.out.keep hb1 (by simp)).all
            have HB := Lib.hid ((al1 w _).trans (hb1.mono (by simp)))
            clear hb1 hN
            go_wp2_with fail
            go_ret
            exact ⟨rfl, HB.out⟩
          · have e : rkB ⟨id, rep, seq, stamp, 2, cls, val⟩ = false := by simp [rkB, hc]
            rw [e]; clear e
            go_enter Tryd.func23, Tryd.ntmps23
            go_wp2_with fail
            refine (K1.out _).mono ?_
            rintro e w1 ⟨rfl, hb1⟩
            obtain ⟨c0, c1, c2, c3, c4, c5, c6⟩ := (hN.out.keep hb1 (by simp)).all
            have HB := Lib.hid ((al1 w _).trans (hb1.mono (by simp)))
            clear hb1 hN
            go_wp2_with fail
            go_ret
            exact ⟨rfl, HB.out⟩
        · have h2' : (kind == 2) = false := by simp [h2]
          by_cases h3 : kind = 3
          · subst h3
            clear h1 h1' h2 h2'
            by_cases hc : cls = 0
            · subst hc
              rw [show rkB ⟨id, rep, seq, stamp, 3, 0, val⟩ = (val == 0) by rw [Bool.eq_iff_iff]; simp [rkB]]
              go_enter Tryd.func23, Tryd.ntmps23
              go_wp2_with fail
              refine (K1.out _).mono ?_
              rintro e w1 ⟨rfl, hb1⟩
              obtain ⟨c0, c1, c2, c3, c4, c5, c6⟩ := (hN.out.keep hb1 (by simp)).all
              have HB := Lib.hid ((al1 w _).trans (hb1.mono (by simp)))
              clear hb1 hN
              go_wp2_with fail
              go_ret
              exact ⟨rfl, HB.out⟩
            · have e : rkB ⟨id, rep, seq, stamp, 3, cls, val⟩ = false := by simp [rkB, hc]
              rw [e]; clear e
              have hc' : (cls == 0) = false := by simp [hc]
              clear hc
              go_enter Tryd.func23, Tryd.ntmps23
              go_wp2_with fail
              refine (K1.out _).mono ?_
              rintro e w1 ⟨rfl, hb1⟩
              obtain ⟨c0, c1, c2, c3, c4, c5, c6⟩ := (hN.out.keep hb1 (by simp)).all
              have HB := Lib.hid ((al1 w _).trans (hb1.mono (by simp)))
              clear hb1 hN
              go_wp2_with fail
              go_ret
              exact ⟨rfl, HB.out⟩
          · have h3' : (kind == 3) = false := by simp [h3]
            have e : rkB ⟨id, rep, seq, stamp, kind, cls, val⟩ = false := by simp [rkB, h1, h2, h3]
            rw [e]; clear e
            clear h1 h2 h3
            go_enter Tryd.func23, Tryd.ntmps23
            go_wp2_with fail
            refine (K1.out _).mono ?_
            rintro e w1 ⟨rfl, hb1⟩
            obtain ⟨c0, c1, c2, c3, c4, c5, c6⟩ := (hN.out.keep hb1 (by simp)).all
            have HB := Lib.hid ((al1 w _).trans (hb1.mono (by simp)))
            clear hb1 hN
            go_wp2_with fail
            go_ret
            exact ⟨rfl, HB.out⟩
    · simp only [h, decide_false, Bool.false_and]
      have h' : decide (64 ≤ id) = true := by simp; omega
      go_enter Tryd.func23, Tryd.ntmps23
      go_wp2_with fail
      refine (K1.out _).mono ?_
      rintro e w1 ⟨rfl, hb1⟩
      obtain ⟨c0, c1, c2, c3, c4, c5, c6⟩ := (hN.out.keep hb1 (by simp)).all
      have HB := Lib.hid ((al1 w _).trans (hb1.mono (by simp)))
      clear hb1 hN
      go_wp2_with fail
      go_ret
      exact ⟨rfl, HB.out⟩

theorem rep_cmp (e x : En) : repB e x = (decide (cmpV x.ver e.ver < 0) || (decide (cmpV x.ver e.ver = 0) && (decide (x.kind = 2) && decide (e.kind ≠ 2)))) := by
  rw [Bool.eq_iff_iff]
  simp only [repB, Bool.or_eq_true, Bool.and_eq_true, decide_eq_true_eq, cmpV_neg, cmpV_zero]

set_option maxHeartbeats 1000000 in
theorem replaces_any (e x : En) (w : World) :
    Calls Tryd.prog 44 #[e.agg, x.agg] w fun en w' => en = .returned (.bool (repB e x)) ∧ Below w.heap.size w w' := by
  have k1 := fun W => iCmp_any x.rep x.seq x.stamp e.rep e.seq e.stamp W
  rw [rep_cmp]
  simp only [En.agg]
  rw [show x.ver = ⟨x.rep, x.seq, x.stamp⟩ from rfl, show e.ver = ⟨e.rep, e.seq, e.stamp⟩ from rfl]
  generalize cmpV ⟨x.rep, x.seq, x.stamp⟩ ⟨e.rep, e.seq, e.stamp⟩ = q at k1 ⊢
  have K1 := Lib.hid k1; clear k1
  have hN := Lib.hid ((new_entry w e 42).keep (al1 _ (.cells #[.int .u8 x.id, .int .u8 x.rep, .int .u32 x.seq, .int .u32 x.stamp, .int .i64 x.kind, .int .u8 x.cls, .int .u32 x.val] 42)) (by simp))
  have hM := Lib.hid (new_entry (w.alloc (.cells #[.int .u8 e.id, .int .u8 e.rep, .int .u32 e.seq, .int .u32 e.stamp, .int .i64 e.kind, .int .u8 e.cls, .int .u32 e.val] 42)) x 42)
  obtain ⟨b, hb⟩ : ∃ b, b = (decide (q < 0) || (decide (q = 0) && (decide (x.kind = 2) && decide (e.kind ≠ 2)))) := ⟨_, rfl⟩
  rw [← hb]
  by_cases h1 : q < 0
  · have e1 : b = true := by rw [hb]; simp [h1]
    clear hb
    subst e1
    go_enter Tryd.func44, Tryd.ntmps44
    go_wp2_with fail
    refine (K1.out _).mono ?_
    rintro e w1 ⟨rfl, hb1⟩
    have HB := Lib.hid ((al2 w _ _).trans (hb1.mono (by simp; omega)))
    clear hb1
    go_wp2_with fail
    go_ret
    exact ⟨rfl, HB.out⟩
  · by_cases h0 : q = 0
    · subst h0
      clear h1
      by_cases h2 : x.kind = 2
      · have e1 : b = (e.kind != 2) := by rw [hb, Bool.eq_iff_iff]; simp [h2]
        clear hb
        subst e1
        have h2' : (x.kind == 2) = true := by simp [h2]
        clear h2
        go_enter Tryd.func44, Tryd.ntmps44
        go_wp2_with fail
        refine (K1.out _).mono ?_
        rintro e w1 ⟨rfl, hb1⟩
        obtain ⟨c0, c1, c2, c3, c4, c5, c6⟩ := (hN.out.keep hb1 (by simp; omega)).all
        obtain ⟨d0, d1, d2, d3, d4, d5, d6⟩ := (hM.out.keep hb1 (by simp)).all
        simp only [World.size_alloc] at d4
        have HB := Lib.hid ((al2 w _ _).trans (hb1.mono (by simp; omega)))
        clear hb1 hN hM
        go_wp2_with fail
        go_ret
        exact ⟨rfl, HB.out⟩
      · have e1 : b = false := by rw [hb]; simp [h2]
        clear hb
        subst e1
        have h2' : (x.kind == 2) = false := by simp [h2]
        clear h2
        go_enter Tryd.func44, Tryd.ntmps44
        go_wp2_with fail
        refine (K1.out _).mono ?_
        rintro e w1 ⟨rfl, hb1⟩
        obtain ⟨d0, d1, d2, d3, d4, d5, d6⟩ := (hM.out.keep hb1 (by simp)).all
        simp only [World.size_alloc] at d4
        have HB := Lib.hid ((al2 w _ _).trans (hb1.mono (by simp; omega)))
        clear hb1 hN hM
        go_wp2_with fail
        go_ret
        exact ⟨rfl, HB.out⟩
    · have e1 : b = false := by rw [hb]; simp [h1, h0]
      clear hb
      subst e1
      have h0' : (q == 0) = false := by simp [h0]
      have h1' : decide (q < 0) = false := by simp; omega
      clear h0 h1
      go_enter Tryd.func44, Tryd.ntmps44
      go_wp2_with fail
      refine (K1.out _).mono ?_
      rintro e w1 ⟨rfl, hb1⟩
      have HB := Lib.hid ((al2 w _ _).trans (hb1.mono (by simp; omega)))
      clear hb1
      go_wp2_with fail
      go_ret
      exact ⟨rfl, HB.out⟩
end Go.Proofs.YtfjaeohfigcciaaDoor
