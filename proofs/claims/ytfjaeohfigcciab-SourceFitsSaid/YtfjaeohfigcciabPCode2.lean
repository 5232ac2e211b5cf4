/- The contracts of replica.rightRuns, mayHold, sameWrite. -/
import Derived.Test.YtfjaeohfigcciabPCode
namespace Go.Proofs.Ytfjaeohfigcciab
open Go.RowKit

theorem RBox.up {w wz wy : World} {r : Rp} {vk vh vo : Value} (k : RBox w wz r vk vh vo) (hb : Below wz.heap.size wz wy) : RBox w wy r vk vh vo :=
  ⟨fun w1 hb1 j u hu => k.cell w1 (hb.trans (hb1.mono hb.size)) j u hu, k.trans hb, Nat.lt_of_lt_of_le k.lt hb.size, k.kn, k.he, k.of, k.ok⟩

set_option maxHeartbeats 4000000 in
set_option maxRecDepth 100000 in
theorem prightRuns_any (v u : Value) (r : Rp) (k : List Rn) (w : World) (hv : RpV w w.heap.size v r) (hk : Sl w w.heap.size u k) (hl : k.length ≤ 1000) :
    Calls Try.prog 33 #[v, u] w fun e w' => e = .returned (.bool (rrunsB r k)) ∧ Below w.heap.size w w' := by
  obtain ⟨vk, vh, vo, rfl, ik, ih, io, iok⟩ := hv
  have HB := Lib.hid (RBox.start ik ih io iok)
  clear ik ih io iok
  have r1 := fun w1 (hb : Below (w.alloc (.cells (r.cells vk vh vo) 28)).heap.size (w.alloc (.cells (r.cells vk vh vo) 28)) w1) => Right_any w1 u k ((hk.below (HB.out.trans hb)).more (HB.out.trans hb).size)
  have r2 := fun w1 (hb : Below (w.alloc (.cells (r.cells vk vh vo) 28)).heap.size (w.alloc (.cells (r.cells vk vh vo) 28)) w1) => ahead_any r.rep r.seq w.heap.size u k w1 ((hk.below (HB.out.trans hb)).more (HB.out.trans hb).size) (by omega) (Nat.lt_of_lt_of_le HB.out.lt hb.size) (HB.out.c0 hb) (HB.out.c3 hb)
  have HP := Lib.hid (show rrunsB r k = (rightB k && !k.any (fun x => topC r.rep r.seq x)) from rfl)
  clear hk hl
  generalize rrunsB r k = P at HP ⊢
  generalize rightB k = b1 at HP r1
  generalize k.any (fun x => topC r.rep r.seq x) = b2 at HP r2
  unfold Rp.cells at HB r1 r2 ⊢
  have R1 := Lib.hid r1; clear r1
  have R2 := Lib.hid r2; clear r2
  cases b1
  · go_enter Try.func33, Try.ntmps33
    go_wp2_with fail
    refine (R1.out _ (Below.refl _ _)).mono ?_
    rintro e w1 ⟨rfl, hb1⟩
    have HB1 := Lib.hid hb1; clear hb1
    go_wp2_with fail
    go_ret
    exact ⟨by rw [HP.out]; rfl, HB.out.trans HB1.out⟩
  · go_enter Try.func33, Try.ntmps33
    go_wp2_with fail
    refine (R1.out _ (Below.refl _ _)).mono ?_
    rintro e w1 ⟨rfl, hb1⟩
    have HB1 := Lib.hid hb1; clear hb1
    go_wp2_with fail
    refine (R2.out _ HB1.out).mono ?_
    rintro e w2 ⟨rfl, hb2⟩
    have HB2 := Lib.hid (HB1.out.trans (hb2.mono HB1.out.size)); clear hb2
    go_wp2_with fail
    go_ret
    exact ⟨by rw [HP.out]; rfl, HB.out.trans HB2.out⟩

set_option maxHeartbeats 400000 in
theorem psameWrite_any (x : En) (w : World) :
    Calls Try.prog 48 #[x.agg] w fun e w' => e = .returned (.func (.func 54) #[] #[.pointer (some ⟨w.heap.size, 0, none⟩)]) ∧ w' = w.alloc (.cells #[.int .u8 x.id, .int .u8 x.rep, .int .u32 x.seq, .int .u32 x.stamp, .int .i64 x.kind, .int .u8 x.cls, .int .u32 x.val] 43) := by
  simp only [En.agg]
  go_enter Try.func48, Try.ntmps48
  go_wp2_with fail
  go_ret
  exact ⟨rfl, rfl⟩
set_option maxHeartbeats 8000000 in
set_option maxRecDepth 100000 in
theorem pmayHold_any (v : Value) (r : Rp) (x : En) (w : World) (hv : RpV w w.heap.size v r) (hx : x.ok) :
    Calls Try.prog 46 #[v, x.agg] w fun e w' => e = .returned (.bool (mayB r x)) ∧ Below w.heap.size w w' := by
  obtain ⟨vk, vh, vo, rfl, ik, ih, io, iok⟩ := hv
  have hf := iok.2.1
  have HB := Lib.hid ((RBox.start ik ih io iok).up (al1 _ (.cells #[.int .u8 x.id, .int .u8 x.rep, .int .u32 x.seq, .int .u32 x.stamp, .int .i64 x.kind, .int .u8 x.cls, .int .u32 x.val] 43)))
  have XE := Lib.hid (show EnAt ((w.alloc (.cells (r.cells vk vh vo) 28)).alloc (.cells #[.int .u8 x.id, .int .u8 x.rep, .int .u32 x.seq, .int .u32 x.stamp, .int .i64 x.kind, .int .u8 x.cls, .int .u32 x.val] 43)) (w.heap.size + 1) 0 x by
    have := new_entry (w.alloc (.cells (r.cells vk vh vo) 28)) x 43
    rwa [show (w.alloc (.cells (r.cells vk vh vo) 28)).heap.size = w.heap.size + 1 by simp] at this)
  clear ik ih io iok
  have HP := Lib.hid (show mayB r x = (!((x.rep == r.rep) && decide (r.seq < x.seq)) && ((x.kind == 2) || (inB x r.flt && hasB r.know x.rep x.seq))) from rfl)
  generalize mayB r x = P at HP ⊢
  have r1 := fun w1 => iIn_any x r.flt w1 hx hf
  have r2 := fun w1 (hb : Below ((w.alloc (.cells (r.cells vk vh vo) 28)).alloc (.cells #[.int .u8 x.id, .int .u8 x.rep, .int .u32 x.seq, .int .u32 x.stamp, .int .i64 x.kind, .int .u8 x.cls, .int .u32 x.val] 43)).heap.size ((w.alloc (.cells (r.cells vk vh vo) 28)).alloc (.cells #[.int .u8 x.id, .int .u8 x.rep, .int .u32 x.seq, .int .u32 x.stamp, .int .i64 x.kind, .int .u8 x.cls, .int .u32 x.val] 43)) w1) => Has_any x.rep x.seq vk r.know w1 ((HB.out.kn.below (HB.out.trans hb)).more (HB.out.trans hb).size)
  clear hx hf
  generalize inB x r.flt = b1 at HP r1
  generalize hasB r.know x.rep x.seq = b2 at HP r2
  unfold Rp.cells at HB XE r2 ⊢
  unfold En.agg at r1 ⊢
  have R1 := Lib.hid r1; clear r1
  have R2 := Lib.hid r2; clear r2
  obtain ⟨q1, hq1⟩ : ∃ q : Bool, (x.rep == r.rep) = q := ⟨_, rfl⟩
  obtain ⟨q2, hq2⟩ : ∃ q : Bool, decide (r.seq < x.seq) = q := ⟨_, rfl⟩
  obtain ⟨q3, hq3⟩ : ∃ q : Bool, (x.kind == 2) = q := ⟨_, rfl⟩
  rw [hq1, hq2, hq3] at HP
  cases q1
  · skip
    cases q3
    · cases b1
      · skip
        go_enter Try.func46, Try.ntmps46
        go_wp2_with fail
        refine (R1.out _).mono ?_
        rintro e w2 ⟨rfl, hb2⟩
        have n4 := HB.out.c4 hb2
        have hx2 := XE.out.keep hb2 (by simp)
        have n1' := hx2.all0.2.1
        have n2' := hx2.all0.2.2.1
        clear hx2
        have HB2 := Lib.hid hb2; clear hb2
        go_wp2_with fail
        go_ret
        exact ⟨by rw [HP.out]; rfl, HB.out.trans HB2.out⟩
      · skip
        go_enter Try.func46, Try.ntmps46
        go_wp2_with fail
        refine (R1.out _).mono ?_
        rintro e w2 ⟨rfl, hb2⟩
        have n4 := HB.out.c4 hb2
        have hx2 := XE.out.keep hb2 (by simp)
        have n1' := hx2.all0.2.1
        have n2' := hx2.all0.2.2.1
        clear hx2
        have HB2 := Lib.hid hb2; clear hb2
        go_wp2_with fail
        refine (R2.out _ HB2.out).mono ?_
        rintro e w3 ⟨rfl, hb3⟩
        have HB3 := Lib.hid (HB2.out.trans (hb3.mono HB2.out.size)); clear hb3
        go_wp2_with fail
        go_ret
        exact ⟨by rw [HP.out]; rfl, HB.out.trans HB3.out⟩
    · skip
      go_enter Try.func46, Try.ntmps46
      go_wp2_with fail
      go_ret
      exact ⟨by rw [HP.out]; rfl, HB.out.trans (Below.refl _ _)⟩
  · cases q2
    · skip
      cases q3
      · cases b1
        · skip
          go_enter Try.func46, Try.ntmps46
          go_wp2_with fail
          refine (R1.out _).mono ?_
          rintro e w2 ⟨rfl, hb2⟩
          have n4 := HB.out.c4 hb2
          have hx2 := XE.out.keep hb2 (by simp)
          have n1' := hx2.all0.2.1
          have n2' := hx2.all0.2.2.1
          clear hx2
          have HB2 := Lib.hid hb2; clear hb2
          go_wp2_with fail
          go_ret
          exact ⟨by rw [HP.out]; rfl, HB.out.trans HB2.out⟩
        · skip
          go_enter Try.func46, Try.ntmps46
          go_wp2_with fail
          refine (R1.out _).mono ?_
          rintro e w2 ⟨rfl, hb2⟩
          have n4 := HB.out.c4 hb2
          have hx2 := XE.out.keep hb2 (by simp)
          have n1' := hx2.all0.2.1
          have n2' := hx2.all0.2.2.1
          clear hx2
          have HB2 := Lib.hid hb2; clear hb2
          go_wp2_with fail
          refine (R2.out _ HB2.out).mono ?_
          rintro e w3 ⟨rfl, hb3⟩
          have HB3 := Lib.hid (HB2.out.trans (hb3.mono HB2.out.size)); clear hb3
          go_wp2_with fail
          go_ret
          exact ⟨by rw [HP.out]; rfl, HB.out.trans HB3.out⟩
      · skip
        go_enter Try.func46, Try.ntmps46
        go_wp2_with fail
        go_ret
        exact ⟨by rw [HP.out]; rfl, HB.out.trans (Below.refl _ _)⟩
    · skip
      go_enter Try.func46, Try.ntmps46
      go_wp2_with fail
      go_ret
      exact ⟨by rw [HP.out]; rfl, HB.out.trans (Below.refl _ _)⟩
end Go.Proofs.Ytfjaeohfigcciab

