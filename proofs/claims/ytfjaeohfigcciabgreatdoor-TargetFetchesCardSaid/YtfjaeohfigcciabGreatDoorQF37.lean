/- Texts in one: TC9. -/
import Derived.Test.YtfjaeohfigcciabGreatDoorQF28
import Derived.Test.YtfjaeohfigcciabGreatDoorQF36
set_option linter.unusedVariables false
set_option linter.unusedSimpArgs false
set_option linter.unusedSectionVars false
set_option linter.unnecessarySimpa false
namespace Go.Proofs.YtfjaeohfigcciabGreatDoor
open Go.RowKit

theorem refuseB_pos {r : Rp} {src c : Int} (h : refuseB r src = some c) : 0 < c := by
  unfold refuseB at h
  split at h
  · injection h with h; omega
  · split at h
    · injection h with h; omega
    · cases h

set_option maxHeartbeats 8000000 in
set_option maxRecDepth 100000 in
theorem tBegin_said : BeginSaid 14 := by
  intro v src r w hg hv hsrc hs
  have hm : Tryz.prog.follows .mixedOrders = true := by kernel_rfl
  have HM := Lib.hid hm; clear hm
  have h1 : r.know.length ≤ 1000 := Nat.le_trans hs.1 (by decide)
  have h2 : r.held.length ≤ 1000 := Nat.le_trans hs.2.1 (by decide)
  have h3 : r.ses.offer.length ≤ 1000 := Nat.le_trans hs.2.2 (by decide)
  have hmf : ∀ (fn : Fn) (first cap : Array Value) (w : World), (Instr.makeFunc fn first cap).run Tryz.prog w = .ok (.func fn first cap) w := fun _ _ _ _ => rfl
  obtain ⟨lr, rfl⟩ := hv.rows
  have eg : ∀ args w, (callFunc 45 args).run Tryz.prog w = .ok (.enter 45 args) w := enters_of Tryz.func45 (by kernel_rfl) rfl
  have HB := Lib.hid (al4 w (.cells (repR r lr) 28) (.cells #[.int .u8 src] 5) (.cells #[.int .u8 0, .int .u8 0, .int .u32 0, .int .u32 0, .slice none 0 0, .slice none 0 0, .bool false, .int .u32 0, .int .u8 0, .int .u8 0, .int .u32 0, .slice none 0 0, .int .u32 0] 28) (.cells #[.int .i64 0, .int .u8 0, .int .u8 0, .int .u32 0, .int .u8 0, .int .u8 0, .slice none 0 0, .int .u32 0, .slice none 0 0, .int .u8 0, .bool false, .slice none 0 0] 30))
  have B4 := blk_four w (repR r lr) 28 #[.int .u8 src] 5 #[.int .u8 0, .int .u8 0, .int .u32 0, .int .u32 0, .slice none 0 0, .slice none 0 0, .bool false, .int .u32 0, .int .u8 0, .int .u8 0, .int .u32 0, .slice none 0 0, .int .u32 0] 28 #[.int .i64 0, .int .u8 0, .int .u8 0, .int .u32 0, .int .u8 0, .int .u8 0, .slice none 0 0, .int .u32 0, .slice none 0 0, .int .u8 0, .bool false, .slice none 0 0] 30
  have BO := Lib.hid B4.2.2.1
  have BZ := Lib.hid B4.2.2.2
  have HC := Lib.hid (tcaughtP_any 45 #[.pointer (some ⟨w.heap.size, 0, none⟩), .pointer (some ⟨w.heap.size + 1, 0, none⟩)] eg ((((w.alloc (.cells (repR r lr) 28)).alloc (.cells #[.int .u8 src] 5)).alloc (.cells #[.int .u8 0, .int .u8 0, .int .u32 0, .int .u32 0, .slice none 0 0, .slice none 0 0, .bool false, .int .u32 0, .int .u8 0, .int .u8 0, .int .u32 0, .slice none 0 0, .int .u32 0] 28)).alloc (.cells #[.int .i64 0, .int .u8 0, .int .u8 0, .int .u32 0, .int .u8 0, .int .u8 0, .slice none 0 0, .int .u32 0, .slice none 0 0, .int .u8 0, .bool false, .slice none 0 0] 30)) (sureOf (refuseB r src) (beginP r src))
    (fun W hb hz => tBeginC_any r lr src W w.heap.size (w.heap.size + 1) (B4.1.keep hb) ((B4.2.1.keep hb).cell 0 _ rfl) ((hv.later HB.out).later hb) hsrc h1 h2 h3))
  have HG := Lib.hid hg
  have HPOS := Lib.hid (fun c (h : refuseB r src = some c) => refuseB_pos h)
  rw [begin_refuse]
  have HK := Lib.hid (show (beginP r src).know.length ≤ 10000 from Nat.le_trans h1 (by decide))
  generalize refuseB r src = D at HC HPOS ⊢
  clear eg hv hs h1 h2 h3 hg B4
  generalize repR r lr = cs at HC HB BO BZ ⊢
  go_enter Tryz.func14, Tryz.ntmps14
  go_wp2_with fail
  have hsz : ((((w.alloc (.cells cs 28)).alloc (.cells #[.int .u8 src] 5)).alloc (.cells #[.int .u8 0, .int .u8 0, .int .u32 0, .int .u32 0, .slice none 0 0, .slice none 0 0, .bool false, .int .u32 0, .int .u8 0, .int .u8 0, .int .u32 0, .slice none 0 0, .int .u32 0] 28)).alloc (.cells #[.int .i64 0, .int .u8 0, .int .u8 0, .int .u32 0, .int .u8 0, .int .u8 0, .slice none 0 0, .int .u32 0, .slice none 0 0, .int .u8 0, .bool false, .slice none 0 0] 30)).heap.size = w.heap.size + 1 + 1 + 1 + 1 := by simp
  generalize (((w.alloc (.cells cs 28)).alloc (.cells #[.int .u8 src] 5)).alloc (.cells #[.int .u8 0, .int .u8 0, .int .u32 0, .int .u32 0, .slice none 0 0, .slice none 0 0, .bool false, .int .u32 0, .int .u8 0, .int .u8 0, .int .u32 0, .slice none 0 0, .int .u32 0] 28)).alloc (.cells #[.int .i64 0, .int .u8 0, .int .u8 0, .int .u32 0, .int .u8 0, .int .u8 0, .slice none 0 0, .int .u32 0, .slice none 0 0, .int .u8 0, .bool false, .slice none 0 0] 30) = W0 at HC HB BO BZ hsz ⊢
  refine (HC.out).mono ?_
  cases D with
  | some c =>
    rintro e w1 ⟨rfl, hb⟩
    have B7 := Lib.hid (Blk.new w1 #[.int .u8 0, .int .u8 0, .int .u32 0, .int .u32 0, .slice none 0 0, .slice none 0 0, .bool false, .int .u32 0, .int .u8 0, .int .u8 0, .int .u32 0, .slice none 0 0, .int .u32 0] 28)
    have BO := Lib.hid ((BO.out.keep hb).alloc (.cells #[.int .u8 0, .int .u8 0, .int .u32 0, .int .u32 0, .slice none 0 0, .slice none 0 0, .bool false, .int .u32 0, .int .u8 0, .int .u8 0, .int .u32 0, .slice none 0 0, .int .u32 0] 28))
    have BZ := Lib.hid ((BZ.out.keep hb).alloc (.cells #[.int .u8 0, .int .u8 0, .int .u32 0, .int .u32 0, .slice none 0 0, .slice none 0 0, .bool false, .int .u32 0, .int .u8 0, .int .u8 0, .int .u32 0, .slice none 0 0, .int .u32 0] 28))
    have hb1 := HB.out.trans (hb.mono HB.out.size)
    have HB := Lib.hid (hb1.trans ((al1 w1 (.cells #[.int .u8 0, .int .u8 0, .int .u32 0, .int .u32 0, .slice none 0 0, .slice none 0 0, .bool false, .int .u32 0, .int .u8 0, .int .u8 0, .int .u32 0, .slice none 0 0, .int .u32 0] 28)).mono hb1.size)); clear hb hb1
    go_wp2_with (first
      | (refine wpList_store_row rfl _ _ _ rfl w1.heap.size #[.int .u8 0, .int .u8 0, .int .u32 0, .int .u32 0, .slice none 0 0, .slice none 0 0, .bool false, .int .u32 0, .int .u8 0, .int .u8 0, .int .u32 0, .slice none 0 0, .int .u32 0] rfl rfl 28 #[.int .u8 0, .int .u8 0, .int .u32 0, .int .u32 0, .slice none 0 0, .slice none 0 0, .bool false, .int .u32 0, .int .u8 0, .int .u8 0, .int .u32 0, .slice none 0 0, .int .u32 0] B7.out.at_ rep_size1 rfl (by simp [Value.oneCell']) ?_; rw [setRow_id B7.out.at_])
      | (refine wpList_store_row rfl _ _ _ rfl (w.heap.size + 1 + 1) #[.int .u8 0, .int .u8 0, .int .u32 0, .int .u32 0, .slice none 0 0, .slice none 0 0, .bool false, .int .u32 0, .int .u8 0, .int .u8 0, .int .u32 0, .slice none 0 0, .int .u32 0] rfl rfl 28 #[.int .u8 0, .int .u8 0, .int .u32 0, .int .u32 0, .slice none 0 0, .slice none 0 0, .bool false, .int .u32 0, .int .u8 0, .int .u8 0, .int .u32 0, .slice none 0 0, .int .u32 0] BO.out.at_ rep_size1 rfl (by simp [Value.oneCell']) ?_; rw [setRow_id BO.out.at_])
      | (refine wpList_store_row rfl _ _ _ rfl (w.heap.size + 1 + 1 + 1) #[.int .i64 0, .int .u8 0, .int .u8 0, .int .u32 0, .int .u8 0, .int .u8 0, .slice none 0 0, .int .u32 0, .slice none 0 0, .int .u8 0, .bool false, .slice none 0 0] rfl rfl 30 #[.int .i64 0, .int .u8 0, .int .u8 0, .int .u32 0, .int .u8 0, .int .u8 0, .slice none 0 0, .int .u32 0, .slice none 0 0, .int .u8 0, .bool false, .slice none 0 0] BZ.out.at_ note_size1 rfl (by simp [Value.oneCell']) ?_; rw [setRow_id BZ.out.at_]))
    refine bodyPost_ret (v := .tuple #[.agg #[.int .u8 0, .int .u8 0, .int .u32 0, .int .u32 0, .slice none 0 0, .slice none 0 0, .bool false, .int .u32 0, .int .u8 0, .int .u8 0, .int .u32 0, .slice none 0 0, .int .u32 0], .agg #[.int .i64 0, .int .u8 0, .int .u8 0, .int .u32 0, .int .u8 0, .int .u8 0, .slice none 0 0, .int .u32 0, .slice none 0 0, .int .u8 0, .bool false, .slice none 0 0], .iface 74 (.int .i64 c)]) (results_two_rows Tryz.results14 _ _ (w.heap.size + 1 + 1) (w.heap.size + 1 + 1 + 1) 28 30 #[.int .u8 0, .int .u8 0, .int .u32 0, .int .u32 0, .slice none 0 0, .slice none 0 0, .bool false, .int .u32 0, .int .u8 0, .int .u8 0, .int .u32 0, .slice none 0 0, .int .u32 0] #[.int .i64 0, .int .u8 0, .int .u8 0, .int .u32 0, .int .u8 0, .int .u8 0, .slice none 0 0, .int .u32 0, .slice none 0 0, .int .u8 0, .bool false, .slice none 0 0] (0, 0) (0, 0) _ _ rfl rfl BO.out.at_ BZ.out.at_ Tryz.underlying28 Tryz.underlying30 rfl rfl rep_size1 note_size1) rfl ?_
    exact ⟨_, _, _, rfl, zeroP_v _ _, zero_v _ _, err_is (HPOS.out c rfl) (HG.out.later HB.out), HB.out⟩
  | none =>
    rintro e w1 ⟨v, rfl, hv, hav, hb⟩
    obtain ⟨c2, rfl, hs, h1⟩ := hv.row
    have hi2 : (Tryz.prog.info? 28).map (·.size) = some c2.size := by rw [hs]; exact rep_size1
    have hal := al1 w1 (.cells #[.int .u8 0, .int .u8 0, .int .u32 0, .int .u32 0, .slice none 0 0, .slice none 0 0, .bool false, .int .u32 0, .int .u8 0, .int .u8 0, .int .u32 0, .slice none 0 0, .int .u32 0] 28)
    have B7 := Lib.hid (Blk.new w1 #[.int .u8 0, .int .u8 0, .int .u32 0, .int .u32 0, .slice none 0 0, .slice none 0 0, .bool false, .int .u32 0, .int .u8 0, .int .u8 0, .int .u32 0, .slice none 0 0, .int .u32 0] 28)
    have h0 : w.heap.size + 1 + 1 + 1 + 1 ≤ w1.heap.size := hsz ▸ hb.size
    have BO := Lib.hid (((BO.out.keep hb).alloc (.cells #[.int .u8 0, .int .u8 0, .int .u32 0, .int .u32 0, .slice none 0 0, .slice none 0 0, .bool false, .int .u32 0, .int .u8 0, .int .u8 0, .int .u32 0, .slice none 0 0, .int .u32 0] 28)).other (k := w1.heap.size) (by omega) c2)
    have BZ := Lib.hid (((BZ.out.keep hb).alloc (.cells #[.int .u8 0, .int .u8 0, .int .u32 0, .int .u32 0, .slice none 0 0, .slice none 0 0, .bool false, .int .u32 0, .int .u8 0, .int .u8 0, .int .u32 0, .slice none 0 0, .int .u32 0] 28)).other (k := w1.heap.size) (by omega) c2)
    have HV := Lib.hid ((hv.later hal).rowOff (g := w1.heap.size) (hv.av.mono fun k hk => by omega) c2)
    have hb1 := HB.out.trans (hb.mono HB.out.size)
    have HB := Lib.hid (below_setRow1 (B := w.heap.size) (r := w1.heap.size) (hb1.trans (hal.mono hb1.size)) (by omega) c2)
    have HA := Lib.hid (hav.mono fun k (hk : W0.heap.size ≤ k) => (by omega : w.heap.size + 1 + 1 + 1 < k))
    have hz : ((w1.alloc (.cells #[.int .u8 0, .int .u8 0, .int .u32 0, .int .u32 0, .slice none 0 0, .slice none 0 0, .bool false, .int .u32 0, .int .u8 0, .int .u8 0, .int .u32 0, .slice none 0 0, .int .u32 0] 28)).setRow w1.heap.size c2).heap.size = (w1.alloc (.cells #[.int .u8 0, .int .u8 0, .int .u32 0, .int .u32 0, .slice none 0 0, .slice none 0 0, .bool false, .int .u32 0, .int .u8 0, .int .u8 0, .int .u32 0, .slice none 0 0, .int .u32 0] 28)).heap.size := by simp [World.setRow]
    rw [← hz] at HV
    have hl7 : w1.heap.size < ((w1.alloc (.cells #[.int .u8 0, .int .u8 0, .int .u32 0, .int .u32 0, .slice none 0 0, .slice none 0 0, .bool false, .int .u32 0, .int .u8 0, .int .u8 0, .int .u32 0, .slice none 0 0, .int .u32 0] 28)).setRow w1.heap.size c2).heap.size := by rw [hz]; simp
    clear hb hb1 hv hav hal hz
    go_wp2_with (refine wpList_store_row rfl _ _ _ rfl w1.heap.size c2 rfl rfl 28 #[.int .u8 0, .int .u8 0, .int .u32 0, .int .u32 0, .slice none 0 0, .slice none 0 0, .bool false, .int .u32 0, .int .u8 0, .int .u8 0, .int .u32 0, .slice none 0 0, .int .u32 0] B7.out.at_ hi2 (by rw [hs]; rfl) h1 ?_)
    have B7 := Lib.hid (B7.out.row c2)
    generalize (w1.alloc (.cells #[.int .u8 0, .int .u8 0, .int .u32 0, .int .u32 0, .slice none 0 0, .slice none 0 0, .bool false, .int .u32 0, .int .u8 0, .int .u8 0, .int .u32 0, .slice none 0 0, .int .u32 0] 28)).setRow w1.heap.size c2 = W2 at BO BZ B7 HV HB hl7 ⊢
    generalize w1.heap.size = g7 at B7 h0 hl7 ⊢
    refine wp_region_C (fun w' => Blk w' g7 c2 28) HM.out ?_
    have HC := Lib.hid (show Blk W2.drew g7 c2 28 from ⟨B7.out.at_⟩)
    have BO := Lib.hid (show Blk W2.drew (w.heap.size + 1 + 1) #[.int .u8 0, .int .u8 0, .int .u32 0, .int .u32 0, .slice none 0 0, .slice none 0 0, .bool false, .int .u32 0, .int .u8 0, .int .u8 0, .int .u32 0, .slice none 0 0, .int .u32 0] 28 from ⟨BO.out.at_⟩)
    have BZ := Lib.hid (show Blk W2.drew (w.heap.size + 1 + 1 + 1) #[.int .i64 0, .int .u8 0, .int .u8 0, .int .u32 0, .int .u8 0, .int .u8 0, .slice none 0 0, .int .u32 0, .slice none 0 0, .int .u8 0, .bool false, .slice none 0 0] 30 from ⟨BZ.out.at_⟩)
    have HB := Lib.hid (show Below w.heap.size w W2.drew from HB.out.trans (Below.refl _ W2).drew)
    have HV := Lib.hid (show RpV W2.drew W2.drew.heap.size (.agg c2) (beginP r src) from HV.out.later ((Below.refl _ W2).drew))
    have hl7 : g7 < W2.drew.heap.size := hl7
    clear B7
    generalize W2.drew = W3 at HC BO BZ HB HV hl7 ⊢
    refine anyC_take (i := 0) (v := .agg c2) rfl (by kernel_rfl) (by kernel_rfl) (by kernel_rfl) (fun _ _ _ h => h) HC.out (reads_row rfl _ _ rfl (g7) rfl 28 c2 _ (fun w' hw => hw.at_) Tryz.underlying28 rfl hi2) ?_
    refine anyC_take (i := 1) (v := .agg c2) rfl (by kernel_rfl) (by kernel_rfl) (by kernel_rfl) (fun _ _ _ h => h) HC.out (reads_row rfl _ _ rfl (g7) rfl 28 c2 _ (fun w' hw => hw.at_) Tryz.underlying28 rfl hi2) ?_
    refine anyC_one (i := 2) (by decide +kernel) rfl rfl fun K hK => ?_
    go_simp
    refine (tpullOf_any _ _ _ HV.out HK.out).mono ?_
    rintro e w4 ⟨v4, rfl, hv4, ha4, hb⟩
    obtain ⟨c4, rfl, hs4, h4⟩ := hv4.row
    have hi4 : (Tryz.prog.info? 30).map (·.size) = some c4.size := by rw [hs4]; exact note_size1
    have HC := Lib.hid (HC.out.keep hb)
    have BO := Lib.hid (BO.out.keep hb)
    have BZ := Lib.hid (BZ.out.keep hb)
    have HV := Lib.hid (HV.out.later hb)
    have HB := Lib.hid (HB.out.trans (hb.mono HB.out.size))
    have H4 := Lib.hid (ha4.mono fun k (hk : W3.heap.size ≤ k) => (by omega : w.heap.size + 1 + 1 + 1 < k))
    have HV4 := Lib.hid hv4
    clear hb hv4 ha4
    refine hK _ _ HC.out ?_
    clear hK
    refine anyC_one (i := 3) (by decide +kernel) rfl rfl fun K hK => ?_
    refine wp_store_row _ _ _ rfl (w.heap.size + 1 + 1) c2 rfl rfl 28 #[.int .u8 0, .int .u8 0, .int .u32 0, .int .u32 0, .slice none 0 0, .slice none 0 0, .bool false, .int .u32 0, .int .u8 0, .int .u8 0, .int .u32 0, .slice none 0 0, .int .u32 0] BO.out.at_ hi2 (by rw [hs]; rfl) h1 ?_
    have BO := Lib.hid (BO.out.row c2)
    have BZ := Lib.hid (BZ.out.other (k := w.heap.size + 1 + 1) (by omega) c2)
    have HC := Lib.hid (HC.out.other (k := w.heap.size + 1 + 1) (by omega) c2)
    have HV := Lib.hid (HV.out.rowOff (g := w.heap.size + 1 + 1) (HA.out.mono fun k hk => by omega) c2)
    have HV4 := Lib.hid (HV4.out.rowOff (g := w.heap.size + 1 + 1) (H4.out.mono fun k hk => by omega) c2)
    have HB := Lib.hid (below_setRow1 (B := w.heap.size) (r := w.heap.size + 1 + 1) HB.out (by omega) c2)
    have hz : (w4.setRow (w.heap.size + 1 + 1) c2).heap.size = w4.heap.size := by simp [World.setRow]
    rw [← hz] at HV HV4
    clear hz
    refine hK _ _ HC.out ?_
    clear hK
    generalize w4.setRow (w.heap.size + 1 + 1) c2 = w5 at BO BZ HC HV HV4 HB ⊢
    refine anyC_one (i := 4) (by decide +kernel) rfl rfl fun K hK => ?_
    refine wp_store_row _ _ _ rfl (w.heap.size + 1 + 1 + 1) c4 rfl rfl 30 #[.int .i64 0, .int .u8 0, .int .u8 0, .int .u32 0, .int .u8 0, .int .u8 0, .slice none 0 0, .int .u32 0, .slice none 0 0, .int .u8 0, .bool false, .slice none 0 0] BZ.out.at_ hi4 (by rw [hs4]; rfl) h4 ?_
    have BO := Lib.hid (BO.out.other (k := w.heap.size + 1 + 1 + 1) (by omega) c4)
    have BZ := Lib.hid (BZ.out.row c4)
    have HC := Lib.hid (HC.out.other (k := w.heap.size + 1 + 1 + 1) (by omega) c4)
    have HV := Lib.hid (HV.out.rowOff (g := w.heap.size + 1 + 1 + 1) (HA.out.mono fun k hk => by omega) c4)
    have HV4 := Lib.hid (HV4.out.rowOff (g := w.heap.size + 1 + 1 + 1) (H4.out.mono fun k hk => by omega) c4)
    have HB := Lib.hid (below_setRow1 (B := w.heap.size) (r := w.heap.size + 1 + 1 + 1) HB.out (by omega) c4)
    have hz : (w5.setRow (w.heap.size + 1 + 1 + 1) c4).heap.size = w5.heap.size := by simp [World.setRow]
    rw [← hz] at HV HV4
    clear hz
    refine hK _ _ HC.out ?_
    clear hK
    generalize w5.setRow (w.heap.size + 1 + 1 + 1) c4 = w6 at BO BZ HC HV HV4 HB ⊢
    refine anyC_one (i := 5) (by decide +kernel) rfl rfl fun K hK => ?_
    go_simp
    refine hK _ _ HC.out (anyC_done (by decide +kernel) ?_)
    clear hK
    go_wp2_with fail
    refine bodyPost_ret (v := .tuple #[.agg c2, .agg c4, .nilIface]) (results_two_rows Tryz.results14 _ _ (w.heap.size + 1 + 1) (w.heap.size + 1 + 1 + 1) 28 30 c2 c4 (0, 0) (0, 0) _ _ rfl rfl BO.out.at_ BZ.out.at_ Tryz.underlying28 Tryz.underlying30 rfl rfl hi2 hi4) rfl ?_
    exact ⟨_, _, _, rfl, HV.out, HV4.out, err_none _, HB.out⟩
end Go.Proofs.YtfjaeohfigcciabGreatDoor

