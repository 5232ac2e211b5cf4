/- Texts in one: PRef8. -/
import Derived.Test.YtfjaeohfigcciabGreatDoorQB25
set_option linter.unusedVariables false
set_option linter.unusedSimpArgs false
set_option linter.unusedSectionVars false
set_option linter.unnecessarySimpa false
namespace Go.Proofs.YtfjaeohfigcciabGreatDoor
open Go.RowKit

theorem zeroP_v (w : World) (B : Nat) : RpV w B (.agg #[.int .u8 0, .int .u8 0, .int .u32 0, .int .u32 0, .slice none 0 0, .slice none 0 0, .bool false, .int .u32 0, .int .u8 0, .int .u8 0, .int .u32 0, .slice none 0 0, .int .u32 0]) zeroP := ⟨.slice none 0 0, .slice none 0 0, .slice none 0 0, rfl, Sl.nil _ _, ESl.nil _ _, Sl.nil _ _, by unfold Rp.ok Ss.ok zeroP; simp⟩

set_option maxHeartbeats 4000000 in
set_option maxRecDepth 100000 in
theorem q7Begin_no1 (v : Value) (r : Rp) (src : Int) (w : World) (hv : RpV w w.heap.size v r) (h1 : r.know.length ≤ 1000) (h2 : r.held.length ≤ 1000) (h3 : r.ses.offer.length ≤ 1000)
    (hr : rpB r = false) :
    Calls Tryz.prog 15 #[v, .int .u8 src] w (BeginPost w (zeroP, zeroN, 9)) := by
  obtain ⟨vk, vh, vo, rfl, hk, hh, ho, hok⟩ := hv
  have HR := Lib.hid (fun w1 (hb : Below w.heap.size w w1) => q5Right_any (.agg (r.cells vk vh vo)) r w1 ⟨vk, vh, vo, rfl, (hk.below hb).more hb.size, hh.later hb, (ho.below hb).more hb.size, hok⟩ h1 h2 h3)
  rw [hr] at HR
  obtain ⟨Ak, ck, rfl, _⟩ := hk
  obtain ⟨Ah, ch, rfl, _⟩ := hh
  obtain ⟨Ao, co, rfl, _⟩ := ho
  unfold Rp.cells at HR ⊢
  clear hok hr
  go_enter Tryz.func15, Tryz.ntmps15
  go_wp2_with fail
  have HB0 := Lib.hid (al3 w (.cells #[.int .u8 r.rep, .int .u8 r.flt, .int .u32 r.epoch, .int .u32 r.seq, .slice Ak r.know.length ck, .slice Ah r.held.length ch, .bool r.ses.on, .int .u32 r.ses.num, .int .u8 r.ses.src, .int .u8 r.ses.cur, .int .u32 r.ses.epoch, .slice Ao r.ses.offer.length co, .int .u32 r.ses.last] 28) (.cells #[.int .u8 0, .int .u8 0, .int .u32 0, .int .u32 0, .slice none 0 0, .slice none 0 0, .bool false, .int .u32 0, .int .u8 0, .int .u8 0, .int .u32 0, .slice none 0 0, .int .u32 0] 28) (.cells #[.int .i64 0, .int .u8 0, .int .u8 0, .int .u32 0, .int .u8 0, .int .u8 0, .slice none 0 0, .int .u32 0, .slice none 0 0, .int .u8 0, .bool false, .slice none 0 0] 30))
  have BA := Lib.hid (blk_three w #[.int .u8 r.rep, .int .u8 r.flt, .int .u32 r.epoch, .int .u32 r.seq, .slice Ak r.know.length ck, .slice Ah r.held.length ch, .bool r.ses.on, .int .u32 r.ses.num, .int .u8 r.ses.src, .int .u8 r.ses.cur, .int .u32 r.ses.epoch, .slice Ao r.ses.offer.length co, .int .u32 r.ses.last] 28 #[.int .u8 0, .int .u8 0, .int .u32 0, .int .u32 0, .slice none 0 0, .slice none 0 0, .bool false, .int .u32 0, .int .u8 0, .int .u8 0, .int .u32 0, .slice none 0 0, .int .u32 0] 28 #[.int .i64 0, .int .u8 0, .int .u8 0, .int .u32 0, .int .u8 0, .int .u8 0, .slice none 0 0, .int .u32 0, .slice none 0 0, .int .u8 0, .bool false, .slice none 0 0] 30)
  generalize ((w.alloc (.cells #[.int .u8 r.rep, .int .u8 r.flt, .int .u32 r.epoch, .int .u32 r.seq, .slice Ak r.know.length ck, .slice Ah r.held.length ch, .bool r.ses.on, .int .u32 r.ses.num, .int .u8 r.ses.src, .int .u8 r.ses.cur, .int .u32 r.ses.epoch, .slice Ao r.ses.offer.length co, .int .u32 r.ses.last] 28)).alloc (.cells #[.int .u8 0, .int .u8 0, .int .u32 0, .int .u32 0, .slice none 0 0, .slice none 0 0, .bool false, .int .u32 0, .int .u8 0, .int .u8 0, .int .u32 0, .slice none 0 0, .int .u32 0] 28)).alloc (.cells #[.int .i64 0, .int .u8 0, .int .u8 0, .int .u32 0, .int .u8 0, .int .u8 0, .slice none 0 0, .int .u32 0, .slice none 0 0, .int .u8 0, .bool false, .slice none 0 0] 30) = wz at HB0 BA ⊢
  refine (HR.out _ HB0.out).mono ?_
  rintro e w1 ⟨rfl, hb1⟩
  have B1 := Lib.hid (BA.out.1.keep hb1)
  have D2 := Lib.hid (BA.out.2.1.keep hb1)
  have D3 := Lib.hid (BA.out.2.2.keep hb1)
  have HBE := Lib.hid (HB0.out.trans (hb1.mono HB0.out.size)); clear hb1 BA
  have c0 := B1.out.cell 0 (.int .u8 r.rep) rfl
  have c12 := B1.out.cell 12 (.int .u32 r.ses.last) rfl
  go_wp2_with (first
    | (refine wpList_store_row rfl _ _ _ rfl (w.heap.size + 1) #[.int .u8 0, .int .u8 0, .int .u32 0, .int .u32 0, .slice none 0 0, .slice none 0 0, .bool false, .int .u32 0, .int .u8 0, .int .u8 0, .int .u32 0, .slice none 0 0, .int .u32 0] rfl rfl 28 _ D2.out.at_ rep_size rfl (by simp [Value.oneCell']) ?_)
    | (refine wpList_store_row rfl _ _ _ rfl (w.heap.size + 1 + 1) #[.int .i64 0, .int .u8 0, .int .u8 0, .int .u32 0, .int .u8 0, .int .u8 0, .slice none 0 0, .int .u32 0, .slice none 0 0, .int .u8 0, .bool false, .slice none 0 0] rfl rfl 30 _ (D3.out.other (by omega) _).at_ note_size rfl (by simp [Value.oneCell']) ?_))
  refine bodyPost_ret (v := .tuple #[.agg #[.int .u8 0, .int .u8 0, .int .u32 0, .int .u32 0, .slice none 0 0, .slice none 0 0, .bool false, .int .u32 0, .int .u8 0, .int .u8 0, .int .u32 0, .slice none 0 0, .int .u32 0], .agg #[.int .i64 0, .int .u8 0, .int .u8 0, .int .u32 0, .int .u8 0, .int .u8 0, .slice none 0 0, .int .u32 0, .slice none 0 0, .int .u8 0, .bool false, .slice none 0 0], .int .i64 9]) (results_two_rows Tryz.results15 _ _ (w.heap.size + 1) (w.heap.size + 1 + 1) 28 30 #[.int .u8 0, .int .u8 0, .int .u32 0, .int .u32 0, .slice none 0 0, .slice none 0 0, .bool false, .int .u32 0, .int .u8 0, .int .u8 0, .int .u32 0, .slice none 0 0, .int .u32 0] #[.int .i64 0, .int .u8 0, .int .u8 0, .int .u32 0, .int .u8 0, .int .u8 0, .slice none 0 0, .int .u32 0, .slice none 0 0, .int .u8 0, .bool false, .slice none 0 0] (0, 0) (0, 0) _ _ rfl rfl ((D2.out.row _).other (by omega) _).at_ ((D3.out.other (by omega) _).row _).at_ Tryz.underlying28 Tryz.underlying30 rfl rfl rep_size note_size) rfl ?_
  have hfin := below_setRow (below_setRow HBE.out (Nat.le_succ w.heap.size) #[.int .u8 0, .int .u8 0, .int .u32 0, .int .u32 0, .slice none 0 0, .slice none 0 0, .bool false, .int .u32 0, .int .u8 0, .int .u8 0, .int .u32 0, .slice none 0 0, .int .u32 0]) (Nat.le_trans (Nat.le_succ w.heap.size) (Nat.le_succ _)) #[.int .i64 0, .int .u8 0, .int .u8 0, .int .u32 0, .int .u8 0, .int .u8 0, .slice none 0 0, .int .u32 0, .slice none 0 0, .int .u8 0, .bool false, .slice none 0 0]
  exact ⟨_, _, rfl, zeroP_v _ _, zero_v _ _, hfin⟩

set_option maxHeartbeats 4000000 in
set_option maxRecDepth 100000 in
theorem q7Begin_no2 (v : Value) (r : Rp) (src : Int) (w : World) (hv : RpV w w.heap.size v r) (h1 : r.know.length ≤ 1000) (h2 : r.held.length ≤ 1000) (h3 : r.ses.offer.length ≤ 1000)
    (hr : rpB r = true) (hs : 7 < src) :
    Calls Tryz.prog 15 #[v, .int .u8 src] w (BeginPost w (zeroP, zeroN, 9)) := by
  obtain ⟨vk, vh, vo, rfl, hk, hh, ho, hok⟩ := hv
  have HR := Lib.hid (fun w1 (hb : Below w.heap.size w w1) => q5Right_any (.agg (r.cells vk vh vo)) r w1 ⟨vk, vh, vo, rfl, (hk.below hb).more hb.size, hh.later hb, (ho.below hb).more hb.size, hok⟩ h1 h2 h3)
  rw [hr] at HR
  obtain ⟨Ak, ck, rfl, _⟩ := hk
  obtain ⟨Ah, ch, rfl, _⟩ := hh
  obtain ⟨Ao, co, rfl, _⟩ := ho
  unfold Rp.cells at HR ⊢
  clear hok hr
  go_enter Tryz.func15, Tryz.ntmps15
  go_wp2_with fail
  have HB0 := Lib.hid (al3 w (.cells #[.int .u8 r.rep, .int .u8 r.flt, .int .u32 r.epoch, .int .u32 r.seq, .slice Ak r.know.length ck, .slice Ah r.held.length ch, .bool r.ses.on, .int .u32 r.ses.num, .int .u8 r.ses.src, .int .u8 r.ses.cur, .int .u32 r.ses.epoch, .slice Ao r.ses.offer.length co, .int .u32 r.ses.last] 28) (.cells #[.int .u8 0, .int .u8 0, .int .u32 0, .int .u32 0, .slice none 0 0, .slice none 0 0, .bool false, .int .u32 0, .int .u8 0, .int .u8 0, .int .u32 0, .slice none 0 0, .int .u32 0] 28) (.cells #[.int .i64 0, .int .u8 0, .int .u8 0, .int .u32 0, .int .u8 0, .int .u8 0, .slice none 0 0, .int .u32 0, .slice none 0 0, .int .u8 0, .bool false, .slice none 0 0] 30))
  have BA := Lib.hid (blk_three w #[.int .u8 r.rep, .int .u8 r.flt, .int .u32 r.epoch, .int .u32 r.seq, .slice Ak r.know.length ck, .slice Ah r.held.length ch, .bool r.ses.on, .int .u32 r.ses.num, .int .u8 r.ses.src, .int .u8 r.ses.cur, .int .u32 r.ses.epoch, .slice Ao r.ses.offer.length co, .int .u32 r.ses.last] 28 #[.int .u8 0, .int .u8 0, .int .u32 0, .int .u32 0, .slice none 0 0, .slice none 0 0, .bool false, .int .u32 0, .int .u8 0, .int .u8 0, .int .u32 0, .slice none 0 0, .int .u32 0] 28 #[.int .i64 0, .int .u8 0, .int .u8 0, .int .u32 0, .int .u8 0, .int .u8 0, .slice none 0 0, .int .u32 0, .slice none 0 0, .int .u8 0, .bool false, .slice none 0 0] 30)
  generalize ((w.alloc (.cells #[.int .u8 r.rep, .int .u8 r.flt, .int .u32 r.epoch, .int .u32 r.seq, .slice Ak r.know.length ck, .slice Ah r.held.length ch, .bool r.ses.on, .int .u32 r.ses.num, .int .u8 r.ses.src, .int .u8 r.ses.cur, .int .u32 r.ses.epoch, .slice Ao r.ses.offer.length co, .int .u32 r.ses.last] 28)).alloc (.cells #[.int .u8 0, .int .u8 0, .int .u32 0, .int .u32 0, .slice none 0 0, .slice none 0 0, .bool false, .int .u32 0, .int .u8 0, .int .u8 0, .int .u32 0, .slice none 0 0, .int .u32 0] 28)).alloc (.cells #[.int .i64 0, .int .u8 0, .int .u8 0, .int .u32 0, .int .u8 0, .int .u8 0, .slice none 0 0, .int .u32 0, .slice none 0 0, .int .u8 0, .bool false, .slice none 0 0] 30) = wz at HB0 BA ⊢
  refine (HR.out _ HB0.out).mono ?_
  rintro e w1 ⟨rfl, hb1⟩
  have B1 := Lib.hid (BA.out.1.keep hb1)
  have D2 := Lib.hid (BA.out.2.1.keep hb1)
  have D3 := Lib.hid (BA.out.2.2.keep hb1)
  have HBE := Lib.hid (HB0.out.trans (hb1.mono HB0.out.size)); clear hb1 BA
  have c0 := B1.out.cell 0 (.int .u8 r.rep) rfl
  have c12 := B1.out.cell 12 (.int .u32 r.ses.last) rfl
  go_wp2_with (first
    | (refine wpList_store_row rfl _ _ _ rfl (w.heap.size + 1) #[.int .u8 0, .int .u8 0, .int .u32 0, .int .u32 0, .slice none 0 0, .slice none 0 0, .bool false, .int .u32 0, .int .u8 0, .int .u8 0, .int .u32 0, .slice none 0 0, .int .u32 0] rfl rfl 28 _ D2.out.at_ rep_size rfl (by simp [Value.oneCell']) ?_)
    | (refine wpList_store_row rfl _ _ _ rfl (w.heap.size + 1 + 1) #[.int .i64 0, .int .u8 0, .int .u8 0, .int .u32 0, .int .u8 0, .int .u8 0, .slice none 0 0, .int .u32 0, .slice none 0 0, .int .u8 0, .bool false, .slice none 0 0] rfl rfl 30 _ (D3.out.other (by omega) _).at_ note_size rfl (by simp [Value.oneCell']) ?_))
  refine bodyPost_ret (v := .tuple #[.agg #[.int .u8 0, .int .u8 0, .int .u32 0, .int .u32 0, .slice none 0 0, .slice none 0 0, .bool false, .int .u32 0, .int .u8 0, .int .u8 0, .int .u32 0, .slice none 0 0, .int .u32 0], .agg #[.int .i64 0, .int .u8 0, .int .u8 0, .int .u32 0, .int .u8 0, .int .u8 0, .slice none 0 0, .int .u32 0, .slice none 0 0, .int .u8 0, .bool false, .slice none 0 0], .int .i64 9]) (results_two_rows Tryz.results15 _ _ (w.heap.size + 1) (w.heap.size + 1 + 1) 28 30 #[.int .u8 0, .int .u8 0, .int .u32 0, .int .u32 0, .slice none 0 0, .slice none 0 0, .bool false, .int .u32 0, .int .u8 0, .int .u8 0, .int .u32 0, .slice none 0 0, .int .u32 0] #[.int .i64 0, .int .u8 0, .int .u8 0, .int .u32 0, .int .u8 0, .int .u8 0, .slice none 0 0, .int .u32 0, .slice none 0 0, .int .u8 0, .bool false, .slice none 0 0] (0, 0) (0, 0) _ _ rfl rfl ((D2.out.row _).other (by omega) _).at_ ((D3.out.other (by omega) _).row _).at_ Tryz.underlying28 Tryz.underlying30 rfl rfl rep_size note_size) rfl ?_
  have hfin := below_setRow (below_setRow HBE.out (Nat.le_succ w.heap.size) #[.int .u8 0, .int .u8 0, .int .u32 0, .int .u32 0, .slice none 0 0, .slice none 0 0, .bool false, .int .u32 0, .int .u8 0, .int .u8 0, .int .u32 0, .slice none 0 0, .int .u32 0]) (Nat.le_trans (Nat.le_succ w.heap.size) (Nat.le_succ _)) #[.int .i64 0, .int .u8 0, .int .u8 0, .int .u32 0, .int .u8 0, .int .u8 0, .slice none 0 0, .int .u32 0, .slice none 0 0, .int .u8 0, .bool false, .slice none 0 0]
  exact ⟨_, _, rfl, zeroP_v _ _, zero_v _ _, hfin⟩

set_option maxHeartbeats 4000000 in
set_option maxRecDepth 100000 in
theorem q7Begin_no3 (v : Value) (r : Rp) (src : Int) (w : World) (hv : RpV w w.heap.size v r) (h1 : r.know.length ≤ 1000) (h2 : r.held.length ≤ 1000) (h3 : r.ses.offer.length ≤ 1000)
    (hr : rpB r = true) (hs : src ≤ 7) (hne : src = r.rep) :
    Calls Tryz.prog 15 #[v, .int .u8 src] w (BeginPost w (zeroP, zeroN, 9)) := by
  obtain ⟨vk, vh, vo, rfl, hk, hh, ho, hok⟩ := hv
  have HR := Lib.hid (fun w1 (hb : Below w.heap.size w w1) => q5Right_any (.agg (r.cells vk vh vo)) r w1 ⟨vk, vh, vo, rfl, (hk.below hb).more hb.size, hh.later hb, (ho.below hb).more hb.size, hok⟩ h1 h2 h3)
  rw [hr] at HR
  obtain ⟨Ak, ck, rfl, _⟩ := hk
  obtain ⟨Ah, ch, rfl, _⟩ := hh
  obtain ⟨Ao, co, rfl, _⟩ := ho
  unfold Rp.cells at HR ⊢
  have z1 : (src == r.rep) = true := by rw [beq_iff_eq]; exact hne
  clear hne
  clear hok hr
  go_enter Tryz.func15, Tryz.ntmps15
  go_wp2_with fail
  have HB0 := Lib.hid (al3 w (.cells #[.int .u8 r.rep, .int .u8 r.flt, .int .u32 r.epoch, .int .u32 r.seq, .slice Ak r.know.length ck, .slice Ah r.held.length ch, .bool r.ses.on, .int .u32 r.ses.num, .int .u8 r.ses.src, .int .u8 r.ses.cur, .int .u32 r.ses.epoch, .slice Ao r.ses.offer.length co, .int .u32 r.ses.last] 28) (.cells #[.int .u8 0, .int .u8 0, .int .u32 0, .int .u32 0, .slice none 0 0, .slice none 0 0, .bool false, .int .u32 0, .int .u8 0, .int .u8 0, .int .u32 0, .slice none 0 0, .int .u32 0] 28) (.cells #[.int .i64 0, .int .u8 0, .int .u8 0, .int .u32 0, .int .u8 0, .int .u8 0, .slice none 0 0, .int .u32 0, .slice none 0 0, .int .u8 0, .bool false, .slice none 0 0] 30))
  have BA := Lib.hid (blk_three w #[.int .u8 r.rep, .int .u8 r.flt, .int .u32 r.epoch, .int .u32 r.seq, .slice Ak r.know.length ck, .slice Ah r.held.length ch, .bool r.ses.on, .int .u32 r.ses.num, .int .u8 r.ses.src, .int .u8 r.ses.cur, .int .u32 r.ses.epoch, .slice Ao r.ses.offer.length co, .int .u32 r.ses.last] 28 #[.int .u8 0, .int .u8 0, .int .u32 0, .int .u32 0, .slice none 0 0, .slice none 0 0, .bool false, .int .u32 0, .int .u8 0, .int .u8 0, .int .u32 0, .slice none 0 0, .int .u32 0] 28 #[.int .i64 0, .int .u8 0, .int .u8 0, .int .u32 0, .int .u8 0, .int .u8 0, .slice none 0 0, .int .u32 0, .slice none 0 0, .int .u8 0, .bool false, .slice none 0 0] 30)
  generalize ((w.alloc (.cells #[.int .u8 r.rep, .int .u8 r.flt, .int .u32 r.epoch, .int .u32 r.seq, .slice Ak r.know.length ck, .slice Ah r.held.length ch, .bool r.ses.on, .int .u32 r.ses.num, .int .u8 r.ses.src, .int .u8 r.ses.cur, .int .u32 r.ses.epoch, .slice Ao r.ses.offer.length co, .int .u32 r.ses.last] 28)).alloc (.cells #[.int .u8 0, .int .u8 0, .int .u32 0, .int .u32 0, .slice none 0 0, .slice none 0 0, .bool false, .int .u32 0, .int .u8 0, .int .u8 0, .int .u32 0, .slice none 0 0, .int .u32 0] 28)).alloc (.cells #[.int .i64 0, .int .u8 0, .int .u8 0, .int .u32 0, .int .u8 0, .int .u8 0, .slice none 0 0, .int .u32 0, .slice none 0 0, .int .u8 0, .bool false, .slice none 0 0] 30) = wz at HB0 BA ⊢
  refine (HR.out _ HB0.out).mono ?_
  rintro e w1 ⟨rfl, hb1⟩
  have B1 := Lib.hid (BA.out.1.keep hb1)
  have D2 := Lib.hid (BA.out.2.1.keep hb1)
  have D3 := Lib.hid (BA.out.2.2.keep hb1)
  have HBE := Lib.hid (HB0.out.trans (hb1.mono HB0.out.size)); clear hb1 BA
  have c0 := B1.out.cell 0 (.int .u8 r.rep) rfl
  have c12 := B1.out.cell 12 (.int .u32 r.ses.last) rfl
  go_wp2_with (first
    | (refine wpList_store_row rfl _ _ _ rfl (w.heap.size + 1) #[.int .u8 0, .int .u8 0, .int .u32 0, .int .u32 0, .slice none 0 0, .slice none 0 0, .bool false, .int .u32 0, .int .u8 0, .int .u8 0, .int .u32 0, .slice none 0 0, .int .u32 0] rfl rfl 28 _ D2.out.at_ rep_size rfl (by simp [Value.oneCell']) ?_)
    | (refine wpList_store_row rfl _ _ _ rfl (w.heap.size + 1 + 1) #[.int .i64 0, .int .u8 0, .int .u8 0, .int .u32 0, .int .u8 0, .int .u8 0, .slice none 0 0, .int .u32 0, .slice none 0 0, .int .u8 0, .bool false, .slice none 0 0] rfl rfl 30 _ (D3.out.other (by omega) _).at_ note_size rfl (by simp [Value.oneCell']) ?_))
  refine bodyPost_ret (v := .tuple #[.agg #[.int .u8 0, .int .u8 0, .int .u32 0, .int .u32 0, .slice none 0 0, .slice none 0 0, .bool false, .int .u32 0, .int .u8 0, .int .u8 0, .int .u32 0, .slice none 0 0, .int .u32 0], .agg #[.int .i64 0, .int .u8 0, .int .u8 0, .int .u32 0, .int .u8 0, .int .u8 0, .slice none 0 0, .int .u32 0, .slice none 0 0, .int .u8 0, .bool false, .slice none 0 0], .int .i64 9]) (results_two_rows Tryz.results15 _ _ (w.heap.size + 1) (w.heap.size + 1 + 1) 28 30 #[.int .u8 0, .int .u8 0, .int .u32 0, .int .u32 0, .slice none 0 0, .slice none 0 0, .bool false, .int .u32 0, .int .u8 0, .int .u8 0, .int .u32 0, .slice none 0 0, .int .u32 0] #[.int .i64 0, .int .u8 0, .int .u8 0, .int .u32 0, .int .u8 0, .int .u8 0, .slice none 0 0, .int .u32 0, .slice none 0 0, .int .u8 0, .bool false, .slice none 0 0] (0, 0) (0, 0) _ _ rfl rfl ((D2.out.row _).other (by omega) _).at_ ((D3.out.other (by omega) _).row _).at_ Tryz.underlying28 Tryz.underlying30 rfl rfl rep_size note_size) rfl ?_
  have hfin := below_setRow (below_setRow HBE.out (Nat.le_succ w.heap.size) #[.int .u8 0, .int .u8 0, .int .u32 0, .int .u32 0, .slice none 0 0, .slice none 0 0, .bool false, .int .u32 0, .int .u8 0, .int .u8 0, .int .u32 0, .slice none 0 0, .int .u32 0]) (Nat.le_trans (Nat.le_succ w.heap.size) (Nat.le_succ _)) #[.int .i64 0, .int .u8 0, .int .u8 0, .int .u32 0, .int .u8 0, .int .u8 0, .slice none 0 0, .int .u32 0, .slice none 0 0, .int .u8 0, .bool false, .slice none 0 0]
  exact ⟨_, _, rfl, zeroP_v _ _, zero_v _ _, hfin⟩

set_option maxHeartbeats 4000000 in
set_option maxRecDepth 100000 in
theorem q7Begin_no4 (v : Value) (r : Rp) (src : Int) (w : World) (hv : RpV w w.heap.size v r) (h1 : r.know.length ≤ 1000) (h2 : r.held.length ≤ 1000) (h3 : r.ses.offer.length ≤ 1000)
    (hr : rpB r = true) (hs : src ≤ 7) (hne : src ≠ r.rep) (hl : r.ses.last = 4294967295) :
    Calls Tryz.prog 15 #[v, .int .u8 src] w (BeginPost w (zeroP, zeroN, 5)) := by
  obtain ⟨vk, vh, vo, rfl, hk, hh, ho, hok⟩ := hv
  have HR := Lib.hid (fun w1 (hb : Below w.heap.size w w1) => q5Right_any (.agg (r.cells vk vh vo)) r w1 ⟨vk, vh, vo, rfl, (hk.below hb).more hb.size, hh.later hb, (ho.below hb).more hb.size, hok⟩ h1 h2 h3)
  rw [hr] at HR
  obtain ⟨Ak, ck, rfl, _⟩ := hk
  obtain ⟨Ah, ch, rfl, _⟩ := hh
  obtain ⟨Ao, co, rfl, _⟩ := ho
  unfold Rp.cells at HR ⊢
  have z1 : (src == r.rep) = false := by rw [beq_eq_false_iff_ne]; exact hne
  have z2 : (r.ses.last == 4294967295) = true := by rw [beq_iff_eq]; exact hl
  clear hne hl
  clear hok hr
  go_enter Tryz.func15, Tryz.ntmps15
  go_wp2_with fail
  have HB0 := Lib.hid (al3 w (.cells #[.int .u8 r.rep, .int .u8 r.flt, .int .u32 r.epoch, .int .u32 r.seq, .slice Ak r.know.length ck, .slice Ah r.held.length ch, .bool r.ses.on, .int .u32 r.ses.num, .int .u8 r.ses.src, .int .u8 r.ses.cur, .int .u32 r.ses.epoch, .slice Ao r.ses.offer.length co, .int .u32 r.ses.last] 28) (.cells #[.int .u8 0, .int .u8 0, .int .u32 0, .int .u32 0, .slice none 0 0, .slice none 0 0, .bool false, .int .u32 0, .int .u8 0, .int .u8 0, .int .u32 0, .slice none 0 0, .int .u32 0] 28) (.cells #[.int .i64 0, .int .u8 0, .int .u8 0, .int .u32 0, .int .u8 0, .int .u8 0, .slice none 0 0, .int .u32 0, .slice none 0 0, .int .u8 0, .bool false, .slice none 0 0] 30))
  have BA := Lib.hid (blk_three w #[.int .u8 r.rep, .int .u8 r.flt, .int .u32 r.epoch, .int .u32 r.seq, .slice Ak r.know.length ck, .slice Ah r.held.length ch, .bool r.ses.on, .int .u32 r.ses.num, .int .u8 r.ses.src, .int .u8 r.ses.cur, .int .u32 r.ses.epoch, .slice Ao r.ses.offer.length co, .int .u32 r.ses.last] 28 #[.int .u8 0, .int .u8 0, .int .u32 0, .int .u32 0, .slice none 0 0, .slice none 0 0, .bool false, .int .u32 0, .int .u8 0, .int .u8 0, .int .u32 0, .slice none 0 0, .int .u32 0] 28 #[.int .i64 0, .int .u8 0, .int .u8 0, .int .u32 0, .int .u8 0, .int .u8 0, .slice none 0 0, .int .u32 0, .slice none 0 0, .int .u8 0, .bool false, .slice none 0 0] 30)
  generalize ((w.alloc (.cells #[.int .u8 r.rep, .int .u8 r.flt, .int .u32 r.epoch, .int .u32 r.seq, .slice Ak r.know.length ck, .slice Ah r.held.length ch, .bool r.ses.on, .int .u32 r.ses.num, .int .u8 r.ses.src, .int .u8 r.ses.cur, .int .u32 r.ses.epoch, .slice Ao r.ses.offer.length co, .int .u32 r.ses.last] 28)).alloc (.cells #[.int .u8 0, .int .u8 0, .int .u32 0, .int .u32 0, .slice none 0 0, .slice none 0 0, .bool false, .int .u32 0, .int .u8 0, .int .u8 0, .int .u32 0, .slice none 0 0, .int .u32 0] 28)).alloc (.cells #[.int .i64 0, .int .u8 0, .int .u8 0, .int .u32 0, .int .u8 0, .int .u8 0, .slice none 0 0, .int .u32 0, .slice none 0 0, .int .u8 0, .bool false, .slice none 0 0] 30) = wz at HB0 BA ⊢
  refine (HR.out _ HB0.out).mono ?_
  rintro e w1 ⟨rfl, hb1⟩
  have B1 := Lib.hid (BA.out.1.keep hb1)
  have D2 := Lib.hid (BA.out.2.1.keep hb1)
  have D3 := Lib.hid (BA.out.2.2.keep hb1)
  have HBE := Lib.hid (HB0.out.trans (hb1.mono HB0.out.size)); clear hb1 BA
  have c0 := B1.out.cell 0 (.int .u8 r.rep) rfl
  have c12 := B1.out.cell 12 (.int .u32 r.ses.last) rfl
  go_wp2_with (first
    | (refine wpList_store_row rfl _ _ _ rfl (w.heap.size + 1) #[.int .u8 0, .int .u8 0, .int .u32 0, .int .u32 0, .slice none 0 0, .slice none 0 0, .bool false, .int .u32 0, .int .u8 0, .int .u8 0, .int .u32 0, .slice none 0 0, .int .u32 0] rfl rfl 28 _ D2.out.at_ rep_size rfl (by simp [Value.oneCell']) ?_)
    | (refine wpList_store_row rfl _ _ _ rfl (w.heap.size + 1 + 1) #[.int .i64 0, .int .u8 0, .int .u8 0, .int .u32 0, .int .u8 0, .int .u8 0, .slice none 0 0, .int .u32 0, .slice none 0 0, .int .u8 0, .bool false, .slice none 0 0] rfl rfl 30 _ (D3.out.other (by omega) _).at_ note_size rfl (by simp [Value.oneCell']) ?_))
  refine bodyPost_ret (v := .tuple #[.agg #[.int .u8 0, .int .u8 0, .int .u32 0, .int .u32 0, .slice none 0 0, .slice none 0 0, .bool false, .int .u32 0, .int .u8 0, .int .u8 0, .int .u32 0, .slice none 0 0, .int .u32 0], .agg #[.int .i64 0, .int .u8 0, .int .u8 0, .int .u32 0, .int .u8 0, .int .u8 0, .slice none 0 0, .int .u32 0, .slice none 0 0, .int .u8 0, .bool false, .slice none 0 0], .int .i64 5]) (results_two_rows Tryz.results15 _ _ (w.heap.size + 1) (w.heap.size + 1 + 1) 28 30 #[.int .u8 0, .int .u8 0, .int .u32 0, .int .u32 0, .slice none 0 0, .slice none 0 0, .bool false, .int .u32 0, .int .u8 0, .int .u8 0, .int .u32 0, .slice none 0 0, .int .u32 0] #[.int .i64 0, .int .u8 0, .int .u8 0, .int .u32 0, .int .u8 0, .int .u8 0, .slice none 0 0, .int .u32 0, .slice none 0 0, .int .u8 0, .bool false, .slice none 0 0] (0, 0) (0, 0) _ _ rfl rfl ((D2.out.row _).other (by omega) _).at_ ((D3.out.other (by omega) _).row _).at_ Tryz.underlying28 Tryz.underlying30 rfl rfl rep_size note_size) rfl ?_
  have hfin := below_setRow (below_setRow HBE.out (Nat.le_succ w.heap.size) #[.int .u8 0, .int .u8 0, .int .u32 0, .int .u32 0, .slice none 0 0, .slice none 0 0, .bool false, .int .u32 0, .int .u8 0, .int .u8 0, .int .u32 0, .slice none 0 0, .int .u32 0]) (Nat.le_trans (Nat.le_succ w.heap.size) (Nat.le_succ _)) #[.int .i64 0, .int .u8 0, .int .u8 0, .int .u32 0, .int .u8 0, .int .u8 0, .slice none 0 0, .int .u32 0, .slice none 0 0, .int .u8 0, .bool false, .slice none 0 0]
  exact ⟨_, _, rfl, zeroP_v _ _, zero_v _ _, hfin⟩

theorem q7Begin_any (v : Value) (r : Rp) (src : Int) (w : World) (hv : RpV w w.heap.size v r) (hs : 0 ≤ src ∧ src ≤ 255) (h1 : r.know.length ≤ 1000) (h2 : r.held.length ≤ 1000) (h3 : r.ses.offer.length ≤ 1000) :
    Calls Tryz.prog 15 #[v, .int .u8 src] w (BeginPost w (beginR r src)) := by
  unfold beginR
  cases hr : rpB r
  · rw [if_pos (.inl rfl)]
    exact q7Begin_no1 v r src w hv h1 h2 h3 hr
  · by_cases h7 : 7 < src
    · rw [if_pos (.inr (.inl h7))]
      exact q7Begin_no2 v r src w hv h1 h2 h3 hr h7
    · by_cases he : src = r.rep
      · rw [if_pos (.inr (.inr he))]
        exact q7Begin_no3 v r src w hv h1 h2 h3 hr (by omega) he
      · rw [if_neg (by simp [h7, he])]
        by_cases hl : r.ses.last = 4294967295
        · rw [if_pos hl]
          exact q7Begin_no4 v r src w hv h1 h2 h3 hr (by omega) he hl
        · rw [if_neg hl]
          exact q7Begin_ok v r src w hv hs h1 h2 h3 hr (by omega) he hl
end Go.Proofs.YtfjaeohfigcciabGreatDoor

