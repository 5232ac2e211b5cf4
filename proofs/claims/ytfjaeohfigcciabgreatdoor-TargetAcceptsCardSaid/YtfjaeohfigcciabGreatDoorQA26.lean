/- Texts in one: TC8c. -/
import Derived.Test.YtfjaeohfigcciabGreatDoorQA23
import Derived.Test.YtfjaeohfigcciabGreatDoorQA25
set_option linter.all false
namespace Go.Proofs.YtfjaeohfigcciabGreatDoor
open Go.RowKit

def behindR (r : Rp) (n : Nt) : Except Int Rp := match refuseA r n with | some c => .error c | none => bTake r n
theorem b_cut2 {a0 a1 c : Code} (h : Tryz.f32.body = some (.seq a0 (.seq a1 c))) : Tryz.f32.body = some (.seq a0 (.seq a1 bRest2)) := by
  have e : bRest2 = c := tail2 h
  rw [e]
  exact h

set_option maxHeartbeats 16000000 in
set_option maxRecDepth 100000 in
theorem tbehind_any (r : Rp) (n : Nt) (lr ln : Ls) (w : World) (hv : RpV w w.heap.size (.agg (repR r lr)) r) (hu : NtV w w.heap.size (.agg (noteR n ln)) n) (h1 : r.know.length ≤ 1000) (h2 : r.held.length ≤ 1000) (h3 : r.ses.offer.length ≤ 1000)
    (g2 : n.ents.length ≤ 1000) (g3 : n.offer.length ≤ 1000) :
    Calls Tryz.prog 32 #[.agg (repR r lr),.agg (noteR n ln)] w (RepSure w (behindR r n)) := by
  have hm : Tryz.prog.follows .mixedOrders = true := by kernel_rfl
  have HM := Lib.hid hm; clear hm
  have CR := Lib.hid (fun w1 (hb : Below w.heap.size w w1) => trefusal_any r n lr ln w1 (hv.later hb) (hu.later hb) h1 h2 h3 g2 g3)
  have CC := Lib.hid (fun w1 (hb : Below w.heap.size w w1) => tcloned_any (.agg (repR r lr)) r w1 (hv.later hb) (by omega) (by omega) (by omega))
  have HUA := Lib.hid hu.av
  have HLL := Lib.hid (And.intro h2 (And.intro g2 (show n.offer.length ≤ 10000 by omega)))
  have HB := Lib.hid (al3 w (.cells (repR r lr) 28) (.cells (noteR n ln) 30) (.cells #[.int .u8 0,.int .u8 0,.int .u32 0,.int .u32 0,.slice none 0 0,.slice none 0 0,.bool false,.int .u32 0,.int .u8 0,.int .u8 0,.int .u32 0,.slice none 0 0,.int .u32 0] 28))
  have B3 := Lib.hid (blk_three w (repR r lr) 28 (noteR n ln) 30 #[.int .u8 0,.int .u8 0,.int .u32 0,.int .u32 0,.slice none 0 0,.slice none 0 0,.bool false,.int .u32 0,.int .u8 0,.int .u8 0,.int .u32 0,.slice none 0 0,.int .u32 0] 28)
  have HU := Lib.hid (hu.later HB.out)
  have hi := rep_row_size r lr
  have ho := rep_row_one r lr
  have hs : (repR r lr).size = 13 := rfl
  have hj : (Tryz.prog.info? 30).map (·.size) = some (noteR n ln).size := note_size1
  have HD : behindR r n = match refuseA r n with | some c => .error c | none => bTake r n := rfl
  rw [HD]
  clear HD hv hu h1 h2 h3 g2 g3
  generalize hD : refuseA r n = D at CR ⊢
  have HD := Lib.hid hD; clear hD
  generalize repR r lr = cs at CR CC HB B3 HU hi ho hs ⊢
  refine calls_of_wp Tryz.func32 (b_cut2 rfl) ?_
  simp only [Tryz.ntmps32,List.size_toArray,List.length_cons,List.length_nil,Nat.reduceAdd,Nat.reduceSub,Array.replicate_succ,Array.replicate_zero,List.push_toArray,List.append_toArray,List.nil_append,List.cons_append]
  go_wp2_with fail
  generalize ((w.alloc (.cells cs 28)).alloc (.cells (noteR n ln) 30)).alloc (.cells #[.int .u8 0,.int .u8 0,.int .u32 0,.int .u32 0,.slice none 0 0,.slice none 0 0,.bool false,.int .u32 0,.int .u8 0,.int .u8 0,.int .u32 0,.slice none 0 0,.int .u32 0] 28) = W0 at HB B3 HU ⊢
  refine wp_region_C (fun w' => Blk w' w.heap.size cs 28 ∧ Blk w' (w.heap.size + 1) (noteR n ln) 30) HM.out ?_
  have hs0 : w.heap.size + 1 + 1 < W0.drew.heap.size := B3.out.2.2.lt
  have HC := Lib.hid (show Blk W0.drew w.heap.size cs 28 ∧ Blk W0.drew (w.heap.size + 1) (noteR n ln) 30 from ⟨⟨B3.out.1.at_⟩,⟨B3.out.2.1.at_⟩⟩)
  have BO := Lib.hid (show Blk W0.drew (w.heap.size + 1 + 1) #[.int .u8 0,.int .u8 0,.int .u32 0,.int .u32 0,.slice none 0 0,.slice none 0 0,.bool false,.int .u32 0,.int .u8 0,.int .u8 0,.int .u32 0,.slice none 0 0,.int .u32 0] 28 from ⟨B3.out.2.2.at_⟩)
  have HU := Lib.hid (HU.out.later (Below.refl _ W0).drew)
  have HB := Lib.hid (show Below w.heap.size w W0.drew from HB.out.trans (Below.refl _ W0).drew)
  have HS := Lib.hid hs0
  clear hs0 B3
  refine anyC_take (i := 0) (v := .agg cs) rfl (by kernel_rfl) (by kernel_rfl) (by kernel_rfl) (fun _ _ _ h => h) HC.out (reads_row rfl _ _ rfl (w.heap.size) rfl 28 cs _ (fun w' hw => hw.1.at_) Tryz.underlying28 rfl hi) ?_
  refine anyC_take (i := 1) (v := .agg cs) rfl (by kernel_rfl) (by kernel_rfl) (by kernel_rfl) (fun _ _ _ h => h) HC.out (reads_row rfl _ _ rfl (w.heap.size) rfl 28 cs _ (fun w' hw => hw.1.at_) Tryz.underlying28 rfl hi) ?_
  refine anyC_take (i := 2) (v := .agg (noteR n ln)) rfl (by kernel_rfl) (by kernel_rfl) (by kernel_rfl) (fun _ _ _ h => h) HC.out (reads_row rfl _ _ rfl (w.heap.size + 1) rfl 30 (noteR n ln) _ (fun w' hw => hw.2.at_) Tryz.underlying30 rfl hj) ?_
  generalize W0.drew = W1 at HC BO HB HS HU ⊢
  cases D with
  | some c =>
    have CR := Lib.hid (fun w1 (hb : Below w.heap.size w w1) => (CR.out w1 hb : Calls Tryz.prog 68 #[.agg cs,.agg (noteR n ln)] w1 fun e w' => e = .returned (.iface 74 (.int .i64 c)) ∧ Below w1.heap.size w1 w'))
    refine anyC_two (i := 3) (j := 6) (by decide +kernel) rfl rfl rfl rfl (fun K hK => ?_) (fun K hK => ?_)
    · skip
      go_simp
      refine (CR.out _ HB.out).mono ?_
      rintro e w1 ⟨rfl,hb⟩
      have HC := Lib.hid (And.intro (HC.out.1.keep hb) (HC.out.2.keep hb))
      have BO := Lib.hid (BO.out.keep hb)
      have HU := Lib.hid (HU.out.later hb)
      have HB := Lib.hid (HB.out.trans (hb.mono HB.out.size))
      have HS := Lib.hid (Nat.lt_of_lt_of_le HS.out hb.size)
      clear hb
      refine hK _ _ HC.out ?_
      clear hK
      refine anyC_two (i := 4) (j := 6) (by decide +kernel) rfl rfl rfl rfl (fun K hK => ?_) (fun K hK => ?_)
      · skip
        go_simp
        refine (tsureP_bad _ _ _ _).mono ?_
        rintro e w2 ⟨rfl,hb⟩
        exact ⟨rfl,rfl,HB.out.trans (hb.mono HB.out.size)⟩
      · skip
        go_simp
        refine hK _ _ (And.intro (HC.out.1.alloc (.cells #[.int .u8 0,.int .u8 0,.int .u32 0,.int .u32 0,.slice none 0 0,.slice none 0 0,.bool false,.int .u32 0,.int .u8 0,.int .u8 0,.int .u32 0,.slice none 0 0,.int .u32 0] 28)) (HC.out.2.alloc (.cells #[.int .u8 0,.int .u8 0,.int .u32 0,.int .u32 0,.slice none 0 0,.slice none 0 0,.bool false,.int .u32 0,.int .u8 0,.int .u8 0,.int .u32 0,.slice none 0 0,.int .u32 0] 28))) ?_
        clear hK
        have HC := Lib.hid (And.intro (HC.out.1.alloc (.cells #[.int .u8 0,.int .u8 0,.int .u32 0,.int .u32 0,.slice none 0 0,.slice none 0 0,.bool false,.int .u32 0,.int .u8 0,.int .u8 0,.int .u32 0,.slice none 0 0,.int .u32 0] 28)) (HC.out.2.alloc (.cells #[.int .u8 0,.int .u8 0,.int .u32 0,.int .u32 0,.slice none 0 0,.slice none 0 0,.bool false,.int .u32 0,.int .u8 0,.int .u8 0,.int .u32 0,.slice none 0 0,.int .u32 0] 28)))
        have BO := Lib.hid (BO.out.alloc (.cells #[.int .u8 0,.int .u8 0,.int .u32 0,.int .u32 0,.slice none 0 0,.slice none 0 0,.bool false,.int .u32 0,.int .u8 0,.int .u8 0,.int .u32 0,.slice none 0 0,.int .u32 0] 28))
        have BA := Lib.hid (Blk.new w1 #[.int .u8 0,.int .u8 0,.int .u32 0,.int .u32 0,.slice none 0 0,.slice none 0 0,.bool false,.int .u32 0,.int .u8 0,.int .u8 0,.int .u32 0,.slice none 0 0,.int .u32 0] 28)
        have hal := al1 w1 (.cells #[.int .u8 0,.int .u8 0,.int .u32 0,.int .u32 0,.slice none 0 0,.slice none 0 0,.bool false,.int .u32 0,.int .u8 0,.int .u8 0,.int .u32 0,.slice none 0 0,.int .u32 0] 28)
        have HG := Lib.hid (show w1.heap.size < (w1.alloc (.cells #[.int .u8 0,.int .u8 0,.int .u32 0,.int .u32 0,.slice none 0 0,.slice none 0 0,.bool false,.int .u32 0,.int .u8 0,.int .u8 0,.int .u32 0,.slice none 0 0,.int .u32 0] 28)).heap.size by simp)
        have HL := Lib.hid HS.out
        have HS := Lib.hid (Nat.lt_of_lt_of_le HS.out hal.size)
        have HB := Lib.hid (HB.out.trans (hal.mono HB.out.size))
        have HU := Lib.hid (HU.out.later hal)
        clear hal
        generalize w1.alloc (.cells #[.int .u8 0,.int .u8 0,.int .u32 0,.int .u32 0,.slice none 0 0,.slice none 0 0,.bool false,.int .u32 0,.int .u8 0,.int .u8 0,.int .u32 0,.slice none 0 0,.int .u32 0] 28) = w3 at HC BA HG HL HS HB HU BO ⊢
        generalize w1.heap.size = gA at BA HG HL ⊢
        refine anyC_one (i := 4) (by decide +kernel) rfl rfl fun K hK => ?_
        go_simp
        refine (tsureP_bad _ _ _ _).mono ?_
        rintro e w4 ⟨rfl,hb⟩
        exact ⟨rfl,rfl,HB.out.trans (hb.mono HB.out.size)⟩
    · skip
      go_simp
      refine hK _ _ (And.intro (HC.out.1.alloc (.cells #[.int .u8 0,.int .u8 0,.int .u32 0,.int .u32 0,.slice none 0 0,.slice none 0 0,.bool false,.int .u32 0,.int .u8 0,.int .u8 0,.int .u32 0,.slice none 0 0,.int .u32 0] 28)) (HC.out.2.alloc (.cells #[.int .u8 0,.int .u8 0,.int .u32 0,.int .u32 0,.slice none 0 0,.slice none 0 0,.bool false,.int .u32 0,.int .u8 0,.int .u8 0,.int .u32 0,.slice none 0 0,.int .u32 0] 28))) ?_
      clear hK
      have HC := Lib.hid (And.intro (HC.out.1.alloc (.cells #[.int .u8 0,.int .u8 0,.int .u32 0,.int .u32 0,.slice none 0 0,.slice none 0 0,.bool false,.int .u32 0,.int .u8 0,.int .u8 0,.int .u32 0,.slice none 0 0,.int .u32 0] 28)) (HC.out.2.alloc (.cells #[.int .u8 0,.int .u8 0,.int .u32 0,.int .u32 0,.slice none 0 0,.slice none 0 0,.bool false,.int .u32 0,.int .u8 0,.int .u8 0,.int .u32 0,.slice none 0 0,.int .u32 0] 28)))
      have BO := Lib.hid (BO.out.alloc (.cells #[.int .u8 0,.int .u8 0,.int .u32 0,.int .u32 0,.slice none 0 0,.slice none 0 0,.bool false,.int .u32 0,.int .u8 0,.int .u8 0,.int .u32 0,.slice none 0 0,.int .u32 0] 28))
      have BA := Lib.hid (Blk.new W1 #[.int .u8 0,.int .u8 0,.int .u32 0,.int .u32 0,.slice none 0 0,.slice none 0 0,.bool false,.int .u32 0,.int .u8 0,.int .u8 0,.int .u32 0,.slice none 0 0,.int .u32 0] 28)
      have hal := al1 W1 (.cells #[.int .u8 0,.int .u8 0,.int .u32 0,.int .u32 0,.slice none 0 0,.slice none 0 0,.bool false,.int .u32 0,.int .u8 0,.int .u8 0,.int .u32 0,.slice none 0 0,.int .u32 0] 28)
      have HG := Lib.hid (show W1.heap.size < (W1.alloc (.cells #[.int .u8 0,.int .u8 0,.int .u32 0,.int .u32 0,.slice none 0 0,.slice none 0 0,.bool false,.int .u32 0,.int .u8 0,.int .u8 0,.int .u32 0,.slice none 0 0,.int .u32 0] 28)).heap.size by simp)
      have HL := Lib.hid HS.out
      have HS := Lib.hid (Nat.lt_of_lt_of_le HS.out hal.size)
      have HB := Lib.hid (HB.out.trans (hal.mono HB.out.size))
      have HU := Lib.hid (HU.out.later hal)
      clear hal
      generalize W1.alloc (.cells #[.int .u8 0,.int .u8 0,.int .u32 0,.int .u32 0,.slice none 0 0,.slice none 0 0,.bool false,.int .u32 0,.int .u8 0,.int .u8 0,.int .u32 0,.slice none 0 0,.int .u32 0] 28) = w5 at HC BA HG HL HS HB HU BO ⊢
      generalize W1.heap.size = gA at BA HG HL ⊢
      refine anyC_one (i := 3) (by decide +kernel) rfl rfl fun K hK => ?_
      go_simp
      refine (CR.out _ HB.out).mono ?_
      rintro e w6 ⟨rfl,hb⟩
      have HC := Lib.hid (And.intro (HC.out.1.keep hb) (HC.out.2.keep hb))
      have BO := Lib.hid (BO.out.keep hb)
      have BA := Lib.hid (BA.out.keep hb)
      have HU := Lib.hid (HU.out.later hb)
      have HB := Lib.hid (HB.out.trans (hb.mono HB.out.size))
      have HS := Lib.hid (Nat.lt_of_lt_of_le HS.out hb.size)
      have HG := Lib.hid (Nat.lt_of_lt_of_le HG.out hb.size)
      clear hb
      refine hK _ _ HC.out ?_
      clear hK
      refine anyC_one (i := 4) (by decide +kernel) rfl rfl fun K hK => ?_
      go_simp
      refine (tsureP_bad _ _ _ _).mono ?_
      rintro e w7 ⟨rfl,hb⟩
      exact ⟨rfl,rfl,HB.out.trans (hb.mono HB.out.size)⟩
  | none =>
    have CR := Lib.hid (fun w1 (hb : Below w.heap.size w w1) => (CR.out w1 hb : Calls Tryz.prog 68 #[.agg cs,.agg (noteR n ln)] w1 fun e w' => e = .returned .nilIface ∧ Below w1.heap.size w1 w'))
    have HGO := Lib.hid (refuse_goes HD.out)
    have HH := Lib.hid (And.intro (rp_parts HGO.out.rp).2.2.1 (batch_of HGO.out.nb (wait_on HGO.out.wait).2).1)
    refine anyC_two (i := 3) (j := 6) (by decide +kernel) rfl rfl rfl rfl (fun K hK => ?_) (fun K hK => ?_)
    · skip
      go_simp
      refine (CR.out _ HB.out).mono ?_
      rintro e w1 ⟨rfl,hb⟩
      have HC := Lib.hid (And.intro (HC.out.1.keep hb) (HC.out.2.keep hb))
      have BO := Lib.hid (BO.out.keep hb)
      have HU := Lib.hid (HU.out.later hb)
      have HB := Lib.hid (HB.out.trans (hb.mono HB.out.size))
      have HS := Lib.hid (Nat.lt_of_lt_of_le HS.out hb.size)
      clear hb
      refine hK _ _ HC.out ?_
      clear hK
      refine anyC_two (i := 4) (j := 6) (by decide +kernel) rfl rfl rfl rfl (fun K hK => ?_) (fun K hK => ?_)
      · skip
        go_simp
        refine (tsureP_ok cs hs ho _).mono ?_
        rintro e w2 ⟨rfl,hb⟩
        have HC := Lib.hid (And.intro (HC.out.1.keep hb) (HC.out.2.keep hb))
        have BO := Lib.hid (BO.out.keep hb)
        have HU := Lib.hid (HU.out.later hb)
        have HB := Lib.hid (HB.out.trans (hb.mono HB.out.size))
        have HS := Lib.hid (Nat.lt_of_lt_of_le HS.out hb.size)
        clear hb
        refine hK _ _ HC.out ?_
        clear hK
        refine anyC_two (i := 5) (j := 6) (by decide +kernel) rfl rfl rfl rfl (fun K hK => ?_) (fun K hK => ?_)
        · skip
          go_simp
          refine (CC.out _ HB.out).mono ?_
          rintro e w3 ⟨vc,rfl,hvc,hac,hb⟩
          obtain ⟨lc,rfl⟩ := hvc.rows
          have HN := Lib.hid (hvc.av)
          have HQ := Lib.hid (hac.mono fun k hk => (by have := HS.out; omega : w.heap.size + 1 + 1 < k))
          have HC := Lib.hid (And.intro (HC.out.1.keep hb) (HC.out.2.keep hb))
          have BO := Lib.hid (BO.out.keep hb)
          have HU := Lib.hid (HU.out.later hb)
          have HB := Lib.hid (HB.out.trans (hb.mono HB.out.size))
          have HS := Lib.hid (Nat.lt_of_lt_of_le HS.out hb.size)
          clear hb
          have HV := Lib.hid hvc
          clear hvc hac
          refine hK _ _ HC.out ?_
          clear hK
          refine anyC_one (i := 6) (by decide +kernel) rfl rfl fun K hK => ?_
          go_simp
          refine hK _ _ (And.intro (HC.out.1.alloc (.cells #[.int .u8 0,.int .u8 0,.int .u32 0,.int .u32 0,.slice none 0 0,.slice none 0 0,.bool false,.int .u32 0,.int .u8 0,.int .u8 0,.int .u32 0,.slice none 0 0,.int .u32 0] 28)) (HC.out.2.alloc (.cells #[.int .u8 0,.int .u8 0,.int .u32 0,.int .u32 0,.slice none 0 0,.slice none 0 0,.bool false,.int .u32 0,.int .u8 0,.int .u8 0,.int .u32 0,.slice none 0 0,.int .u32 0] 28))) ?_
          clear hK
          have HC := Lib.hid (And.intro (HC.out.1.alloc (.cells #[.int .u8 0,.int .u8 0,.int .u32 0,.int .u32 0,.slice none 0 0,.slice none 0 0,.bool false,.int .u32 0,.int .u8 0,.int .u8 0,.int .u32 0,.slice none 0 0,.int .u32 0] 28)) (HC.out.2.alloc (.cells #[.int .u8 0,.int .u8 0,.int .u32 0,.int .u32 0,.slice none 0 0,.slice none 0 0,.bool false,.int .u32 0,.int .u8 0,.int .u8 0,.int .u32 0,.slice none 0 0,.int .u32 0] 28)))
          have BO := Lib.hid (BO.out.alloc (.cells #[.int .u8 0,.int .u8 0,.int .u32 0,.int .u32 0,.slice none 0 0,.slice none 0 0,.bool false,.int .u32 0,.int .u8 0,.int .u8 0,.int .u32 0,.slice none 0 0,.int .u32 0] 28))
          have BA := Lib.hid (Blk.new w3 #[.int .u8 0,.int .u8 0,.int .u32 0,.int .u32 0,.slice none 0 0,.slice none 0 0,.bool false,.int .u32 0,.int .u8 0,.int .u8 0,.int .u32 0,.slice none 0 0,.int .u32 0] 28)
          have hal := al1 w3 (.cells #[.int .u8 0,.int .u8 0,.int .u32 0,.int .u32 0,.slice none 0 0,.slice none 0 0,.bool false,.int .u32 0,.int .u8 0,.int .u8 0,.int .u32 0,.slice none 0 0,.int .u32 0] 28)
          have HG := Lib.hid (show w3.heap.size < (w3.alloc (.cells #[.int .u8 0,.int .u8 0,.int .u32 0,.int .u32 0,.slice none 0 0,.slice none 0 0,.bool false,.int .u32 0,.int .u8 0,.int .u8 0,.int .u32 0,.slice none 0 0,.int .u32 0] 28)).heap.size by simp)
          have HL := Lib.hid HS.out
          have HS := Lib.hid (Nat.lt_of_lt_of_le HS.out hal.size)
          have HB := Lib.hid (HB.out.trans (hal.mono HB.out.size))
          have HU := Lib.hid (HU.out.later hal)
          have HV := Lib.hid (HV.out.later hal)
          have HN := Lib.hid (HN.out.mono fun k hk => (by omega : k ≠ w3.heap.size))
          clear hal
          generalize w3.alloc (.cells #[.int .u8 0,.int .u8 0,.int .u32 0,.int .u32 0,.slice none 0 0,.slice none 0 0,.bool false,.int .u32 0,.int .u8 0,.int .u8 0,.int .u32 0,.slice none 0 0,.int .u32 0] 28) = w4 at HC BA HG HL HS HB HU BO HV HN ⊢
          generalize w3.heap.size = gA at BA HG HL HN ⊢
          refine anyC_one (i := 7) (by decide +kernel) rfl rfl fun K hK => ?_
          refine wp_store_row _ _ _ rfl gA (repR r lc) rfl rfl 28 #[.int .u8 0,.int .u8 0,.int .u32 0,.int .u32 0,.slice none 0 0,.slice none 0 0,.bool false,.int .u32 0,.int .u8 0,.int .u8 0,.int .u32 0,.slice none 0 0,.int .u32 0] BA.out.at_ (rep_row_size r lc) rfl (rep_row_one r lc) ?_
          have hlg := HL.out
          refine hK _ _ (And.intro (HC.out.1.other (k := gA) (by omega) (repR r lc)) (HC.out.2.other (k := gA) (by omega) (repR r lc))) (anyC_done (by decide +kernel) ?_)
          clear hK
          have HC := Lib.hid (And.intro (HC.out.1.other (k := gA) (by omega) (repR r lc)) (HC.out.2.other (k := gA) (by omega) (repR r lc)))
          have HV := Lib.hid (HV.out.rowOff HN.out (repR r lc))
          have HU := Lib.hid (HU.out.rowOff (g := gA) (HUA.out.mono fun k hk => by omega) (repR r lc))
          have BO := Lib.hid (BO.out.other (k := gA) (by omega) (repR r lc))
          have BA := Lib.hid (BA.out.row (repR r lc))
          have HB := Lib.hid (below_setRow1 (B := w.heap.size) (r := gA) HB.out (by omega) (repR r lc))
          have hz : (w4.setRow gA (repR r lc)).heap.size = w4.heap.size := by simp [World.setRow]
          have HG := Lib.hid (show gA < (w4.setRow gA (repR r lc)).heap.size by rw [hz]; exact HG.out)
          rw [← hz] at HV HU
          clear hz HS
          generalize w4.setRow gA (repR r lc) = wf at HC HV HU BA HB HG BO ⊢
          have ha6 : RpAv (fun k => k ≠ gA ∧ w.heap.size + 1 + 1 < k) (.agg (repR r lc)) r := HN.out.and HQ.out
          go_wp2_with fail
          exact b_rest2 HC.out.2 BO.out BA.out HV.out ha6 HB.out hlg HU.out HUA.out HLL.out.2.2 HH.out.1 HLL.out.1 HH.out.2 HLL.out.2.1
        · skip
          go_simp
          refine hK _ _ (And.intro (HC.out.1.alloc (.cells #[.int .u8 0,.int .u8 0,.int .u32 0,.int .u32 0,.slice none 0 0,.slice none 0 0,.bool false,.int .u32 0,.int .u8 0,.int .u8 0,.int .u32 0,.slice none 0 0,.int .u32 0] 28)) (HC.out.2.alloc (.cells #[.int .u8 0,.int .u8 0,.int .u32 0,.int .u32 0,.slice none 0 0,.slice none 0 0,.bool false,.int .u32 0,.int .u8 0,.int .u8 0,.int .u32 0,.slice none 0 0,.int .u32 0] 28))) ?_
          clear hK
          have HC := Lib.hid (And.intro (HC.out.1.alloc (.cells #[.int .u8 0,.int .u8 0,.int .u32 0,.int .u32 0,.slice none 0 0,.slice none 0 0,.bool false,.int .u32 0,.int .u8 0,.int .u8 0,.int .u32 0,.slice none 0 0,.int .u32 0] 28)) (HC.out.2.alloc (.cells #[.int .u8 0,.int .u8 0,.int .u32 0,.int .u32 0,.slice none 0 0,.slice none 0 0,.bool false,.int .u32 0,.int .u8 0,.int .u8 0,.int .u32 0,.slice none 0 0,.int .u32 0] 28)))
          have BO := Lib.hid (BO.out.alloc (.cells #[.int .u8 0,.int .u8 0,.int .u32 0,.int .u32 0,.slice none 0 0,.slice none 0 0,.bool false,.int .u32 0,.int .u8 0,.int .u8 0,.int .u32 0,.slice none 0 0,.int .u32 0] 28))
          have BA := Lib.hid (Blk.new w2 #[.int .u8 0,.int .u8 0,.int .u32 0,.int .u32 0,.slice none 0 0,.slice none 0 0,.bool false,.int .u32 0,.int .u8 0,.int .u8 0,.int .u32 0,.slice none 0 0,.int .u32 0] 28)
          have hal := al1 w2 (.cells #[.int .u8 0,.int .u8 0,.int .u32 0,.int .u32 0,.slice none 0 0,.slice none 0 0,.bool false,.int .u32 0,.int .u8 0,.int .u8 0,.int .u32 0,.slice none 0 0,.int .u32 0] 28)
          have HG := Lib.hid (show w2.heap.size < (w2.alloc (.cells #[.int .u8 0,.int .u8 0,.int .u32 0,.int .u32 0,.slice none 0 0,.slice none 0 0,.bool false,.int .u32 0,.int .u8 0,.int .u8 0,.int .u32 0,.slice none 0 0,.int .u32 0] 28)).heap.size by simp)
          have HL := Lib.hid HS.out
          have HS := Lib.hid (Nat.lt_of_lt_of_le HS.out hal.size)
          have HB := Lib.hid (HB.out.trans (hal.mono HB.out.size))
          have HU := Lib.hid (HU.out.later hal)
          clear hal
          generalize w2.alloc (.cells #[.int .u8 0,.int .u8 0,.int .u32 0,.int .u32 0,.slice none 0 0,.slice none 0 0,.bool false,.int .u32 0,.int .u8 0,.int .u8 0,.int .u32 0,.slice none 0 0,.int .u32 0] 28) = w5 at HC BA HG HL HS HB HU BO ⊢
          generalize w2.heap.size = gA at BA HG HL ⊢
          refine anyC_one (i := 5) (by decide +kernel) rfl rfl fun K hK => ?_
          go_simp
          refine (CC.out _ HB.out).mono ?_
          rintro e w6 ⟨vc,rfl,hvc,hac,hb⟩
          obtain ⟨lc,rfl⟩ := hvc.rows
          have HN := Lib.hid (hac.mono fun k hk => (by have := HG.out; omega : k ≠ gA))
          have HQ := Lib.hid (hac.mono fun k hk => (by have := HS.out; omega : w.heap.size + 1 + 1 < k))
          have HC := Lib.hid (And.intro (HC.out.1.keep hb) (HC.out.2.keep hb))
          have BO := Lib.hid (BO.out.keep hb)
          have BA := Lib.hid (BA.out.keep hb)
          have HU := Lib.hid (HU.out.later hb)
          have HB := Lib.hid (HB.out.trans (hb.mono HB.out.size))
          have HS := Lib.hid (Nat.lt_of_lt_of_le HS.out hb.size)
          have HG := Lib.hid (Nat.lt_of_lt_of_le HG.out hb.size)
          clear hb
          have HV := Lib.hid hvc
          clear hvc hac
          refine hK _ _ HC.out ?_
          clear hK
          refine anyC_one (i := 7) (by decide +kernel) rfl rfl fun K hK => ?_
          refine wp_store_row _ _ _ rfl gA (repR r lc) rfl rfl 28 #[.int .u8 0,.int .u8 0,.int .u32 0,.int .u32 0,.slice none 0 0,.slice none 0 0,.bool false,.int .u32 0,.int .u8 0,.int .u8 0,.int .u32 0,.slice none 0 0,.int .u32 0] BA.out.at_ (rep_row_size r lc) rfl (rep_row_one r lc) ?_
          have hlg := HL.out
          refine hK _ _ (And.intro (HC.out.1.other (k := gA) (by omega) (repR r lc)) (HC.out.2.other (k := gA) (by omega) (repR r lc))) (anyC_done (by decide +kernel) ?_)
          clear hK
          have HC := Lib.hid (And.intro (HC.out.1.other (k := gA) (by omega) (repR r lc)) (HC.out.2.other (k := gA) (by omega) (repR r lc)))
          have HV := Lib.hid (HV.out.rowOff HN.out (repR r lc))
          have HU := Lib.hid (HU.out.rowOff (g := gA) (HUA.out.mono fun k hk => by omega) (repR r lc))
          have BO := Lib.hid (BO.out.other (k := gA) (by omega) (repR r lc))
          have BA := Lib.hid (BA.out.row (repR r lc))
          have HB := Lib.hid (below_setRow1 (B := w.heap.size) (r := gA) HB.out (by omega) (repR r lc))
          have hz : (w6.setRow gA (repR r lc)).heap.size = w6.heap.size := by simp [World.setRow]
          have HG := Lib.hid (show gA < (w6.setRow gA (repR r lc)).heap.size by rw [hz]; exact HG.out)
          rw [← hz] at HV HU
          clear hz HS
          generalize w6.setRow gA (repR r lc) = wf at HC HV HU BA HB HG BO ⊢
          have ha6 : RpAv (fun k => k ≠ gA ∧ w.heap.size + 1 + 1 < k) (.agg (repR r lc)) r := HN.out.and HQ.out
          go_wp2_with fail
          exact b_rest2 HC.out.2 BO.out BA.out HV.out ha6 HB.out hlg HU.out HUA.out HLL.out.2.2 HH.out.1 HLL.out.1 HH.out.2 HLL.out.2.1
      · skip
        go_simp
        refine hK _ _ (And.intro (HC.out.1.alloc (.cells #[.int .u8 0,.int .u8 0,.int .u32 0,.int .u32 0,.slice none 0 0,.slice none 0 0,.bool false,.int .u32 0,.int .u8 0,.int .u8 0,.int .u32 0,.slice none 0 0,.int .u32 0] 28)) (HC.out.2.alloc (.cells #[.int .u8 0,.int .u8 0,.int .u32 0,.int .u32 0,.slice none 0 0,.slice none 0 0,.bool false,.int .u32 0,.int .u8 0,.int .u8 0,.int .u32 0,.slice none 0 0,.int .u32 0] 28))) ?_
        clear hK
        have HC := Lib.hid (And.intro (HC.out.1.alloc (.cells #[.int .u8 0,.int .u8 0,.int .u32 0,.int .u32 0,.slice none 0 0,.slice none 0 0,.bool false,.int .u32 0,.int .u8 0,.int .u8 0,.int .u32 0,.slice none 0 0,.int .u32 0] 28)) (HC.out.2.alloc (.cells #[.int .u8 0,.int .u8 0,.int .u32 0,.int .u32 0,.slice none 0 0,.slice none 0 0,.bool false,.int .u32 0,.int .u8 0,.int .u8 0,.int .u32 0,.slice none 0 0,.int .u32 0] 28)))
        have BO := Lib.hid (BO.out.alloc (.cells #[.int .u8 0,.int .u8 0,.int .u32 0,.int .u32 0,.slice none 0 0,.slice none 0 0,.bool false,.int .u32 0,.int .u8 0,.int .u8 0,.int .u32 0,.slice none 0 0,.int .u32 0] 28))
        have BA := Lib.hid (Blk.new w1 #[.int .u8 0,.int .u8 0,.int .u32 0,.int .u32 0,.slice none 0 0,.slice none 0 0,.bool false,.int .u32 0,.int .u8 0,.int .u8 0,.int .u32 0,.slice none 0 0,.int .u32 0] 28)
        have hal := al1 w1 (.cells #[.int .u8 0,.int .u8 0,.int .u32 0,.int .u32 0,.slice none 0 0,.slice none 0 0,.bool false,.int .u32 0,.int .u8 0,.int .u8 0,.int .u32 0,.slice none 0 0,.int .u32 0] 28)
        have HG := Lib.hid (show w1.heap.size < (w1.alloc (.cells #[.int .u8 0,.int .u8 0,.int .u32 0,.int .u32 0,.slice none 0 0,.slice none 0 0,.bool false,.int .u32 0,.int .u8 0,.int .u8 0,.int .u32 0,.slice none 0 0,.int .u32 0] 28)).heap.size by simp)
        have HL := Lib.hid HS.out
        have HS := Lib.hid (Nat.lt_of_lt_of_le HS.out hal.size)
        have HB := Lib.hid (HB.out.trans (hal.mono HB.out.size))
        have HU := Lib.hid (HU.out.later hal)
        clear hal
        generalize w1.alloc (.cells #[.int .u8 0,.int .u8 0,.int .u32 0,.int .u32 0,.slice none 0 0,.slice none 0 0,.bool false,.int .u32 0,.int .u8 0,.int .u8 0,.int .u32 0,.slice none 0 0,.int .u32 0] 28) = w7 at HC BA HG HL HS HB HU BO ⊢
        generalize w1.heap.size = gA at BA HG HL ⊢
        refine anyC_one (i := 4) (by decide +kernel) rfl rfl fun K hK => ?_
        go_simp
        refine (tsureP_ok cs hs ho _).mono ?_
        rintro e w8 ⟨rfl,hb⟩
        have HC := Lib.hid (And.intro (HC.out.1.keep hb) (HC.out.2.keep hb))
        have BO := Lib.hid (BO.out.keep hb)
        have BA := Lib.hid (BA.out.keep hb)
        have HU := Lib.hid (HU.out.later hb)
        have HB := Lib.hid (HB.out.trans (hb.mono HB.out.size))
        have HS := Lib.hid (Nat.lt_of_lt_of_le HS.out hb.size)
        have HG := Lib.hid (Nat.lt_of_lt_of_le HG.out hb.size)
        clear hb
        refine hK _ _ HC.out ?_
        clear hK
        refine anyC_one (i := 5) (by decide +kernel) rfl rfl fun K hK => ?_
        go_simp
        refine (CC.out _ HB.out).mono ?_
        rintro e w9 ⟨vc,rfl,hvc,hac,hb⟩
        obtain ⟨lc,rfl⟩ := hvc.rows
        have HN := Lib.hid (hac.mono fun k hk => (by have := HG.out; omega : k ≠ gA))
        have HQ := Lib.hid (hac.mono fun k hk => (by have := HS.out; omega : w.heap.size + 1 + 1 < k))
        have HC := Lib.hid (And.intro (HC.out.1.keep hb) (HC.out.2.keep hb))
        have BO := Lib.hid (BO.out.keep hb)
        have BA := Lib.hid (BA.out.keep hb)
        have HU := Lib.hid (HU.out.later hb)
        have HB := Lib.hid (HB.out.trans (hb.mono HB.out.size))
        have HS := Lib.hid (Nat.lt_of_lt_of_le HS.out hb.size)
        have HG := Lib.hid (Nat.lt_of_lt_of_le HG.out hb.size)
        clear hb
        have HV := Lib.hid hvc
        clear hvc hac
        refine hK _ _ HC.out ?_
        clear hK
        refine anyC_one (i := 7) (by decide +kernel) rfl rfl fun K hK => ?_
        refine wp_store_row _ _ _ rfl gA (repR r lc) rfl rfl 28 #[.int .u8 0,.int .u8 0,.int .u32 0,.int .u32 0,.slice none 0 0,.slice none 0 0,.bool false,.int .u32 0,.int .u8 0,.int .u8 0,.int .u32 0,.slice none 0 0,.int .u32 0] BA.out.at_ (rep_row_size r lc) rfl (rep_row_one r lc) ?_
        have hlg := HL.out
        refine hK _ _ (And.intro (HC.out.1.other (k := gA) (by omega) (repR r lc)) (HC.out.2.other (k := gA) (by omega) (repR r lc))) (anyC_done (by decide +kernel) ?_)
        clear hK
        have HC := Lib.hid (And.intro (HC.out.1.other (k := gA) (by omega) (repR r lc)) (HC.out.2.other (k := gA) (by omega) (repR r lc)))
        have HV := Lib.hid (HV.out.rowOff HN.out (repR r lc))
        have HU := Lib.hid (HU.out.rowOff (g := gA) (HUA.out.mono fun k hk => by omega) (repR r lc))
        have BO := Lib.hid (BO.out.other (k := gA) (by omega) (repR r lc))
        have BA := Lib.hid (BA.out.row (repR r lc))
        have HB := Lib.hid (below_setRow1 (B := w.heap.size) (r := gA) HB.out (by omega) (repR r lc))
        have hz : (w9.setRow gA (repR r lc)).heap.size = w9.heap.size := by simp [World.setRow]
        have HG := Lib.hid (show gA < (w9.setRow gA (repR r lc)).heap.size by rw [hz]; exact HG.out)
        rw [← hz] at HV HU
        clear hz HS
        generalize w9.setRow gA (repR r lc) = wf at HC HV HU BA HB HG BO ⊢
        have ha6 : RpAv (fun k => k ≠ gA ∧ w.heap.size + 1 + 1 < k) (.agg (repR r lc)) r := HN.out.and HQ.out
        go_wp2_with fail
        exact b_rest2 HC.out.2 BO.out BA.out HV.out ha6 HB.out hlg HU.out HUA.out HLL.out.2.2 HH.out.1 HLL.out.1 HH.out.2 HLL.out.2.1
    · skip
      go_simp
      refine hK _ _ (And.intro (HC.out.1.alloc (.cells #[.int .u8 0,.int .u8 0,.int .u32 0,.int .u32 0,.slice none 0 0,.slice none 0 0,.bool false,.int .u32 0,.int .u8 0,.int .u8 0,.int .u32 0,.slice none 0 0,.int .u32 0] 28)) (HC.out.2.alloc (.cells #[.int .u8 0,.int .u8 0,.int .u32 0,.int .u32 0,.slice none 0 0,.slice none 0 0,.bool false,.int .u32 0,.int .u8 0,.int .u8 0,.int .u32 0,.slice none 0 0,.int .u32 0] 28))) ?_
      clear hK
      have HC := Lib.hid (And.intro (HC.out.1.alloc (.cells #[.int .u8 0,.int .u8 0,.int .u32 0,.int .u32 0,.slice none 0 0,.slice none 0 0,.bool false,.int .u32 0,.int .u8 0,.int .u8 0,.int .u32 0,.slice none 0 0,.int .u32 0] 28)) (HC.out.2.alloc (.cells #[.int .u8 0,.int .u8 0,.int .u32 0,.int .u32 0,.slice none 0 0,.slice none 0 0,.bool false,.int .u32 0,.int .u8 0,.int .u8 0,.int .u32 0,.slice none 0 0,.int .u32 0] 28)))
      have BO := Lib.hid (BO.out.alloc (.cells #[.int .u8 0,.int .u8 0,.int .u32 0,.int .u32 0,.slice none 0 0,.slice none 0 0,.bool false,.int .u32 0,.int .u8 0,.int .u8 0,.int .u32 0,.slice none 0 0,.int .u32 0] 28))
      have BA := Lib.hid (Blk.new W1 #[.int .u8 0,.int .u8 0,.int .u32 0,.int .u32 0,.slice none 0 0,.slice none 0 0,.bool false,.int .u32 0,.int .u8 0,.int .u8 0,.int .u32 0,.slice none 0 0,.int .u32 0] 28)
      have hal := al1 W1 (.cells #[.int .u8 0,.int .u8 0,.int .u32 0,.int .u32 0,.slice none 0 0,.slice none 0 0,.bool false,.int .u32 0,.int .u8 0,.int .u8 0,.int .u32 0,.slice none 0 0,.int .u32 0] 28)
      have HG := Lib.hid (show W1.heap.size < (W1.alloc (.cells #[.int .u8 0,.int .u8 0,.int .u32 0,.int .u32 0,.slice none 0 0,.slice none 0 0,.bool false,.int .u32 0,.int .u8 0,.int .u8 0,.int .u32 0,.slice none 0 0,.int .u32 0] 28)).heap.size by simp)
      have HL := Lib.hid HS.out
      have HS := Lib.hid (Nat.lt_of_lt_of_le HS.out hal.size)
      have HB := Lib.hid (HB.out.trans (hal.mono HB.out.size))
      have HU := Lib.hid (HU.out.later hal)
      clear hal
      generalize W1.alloc (.cells #[.int .u8 0,.int .u8 0,.int .u32 0,.int .u32 0,.slice none 0 0,.slice none 0 0,.bool false,.int .u32 0,.int .u8 0,.int .u8 0,.int .u32 0,.slice none 0 0,.int .u32 0] 28) = w10 at HC BA HG HL HS HB HU BO ⊢
      generalize W1.heap.size = gA at BA HG HL ⊢
      refine anyC_one (i := 3) (by decide +kernel) rfl rfl fun K hK => ?_
      go_simp
      refine (CR.out _ HB.out).mono ?_
      rintro e w11 ⟨rfl,hb⟩
      have HC := Lib.hid (And.intro (HC.out.1.keep hb) (HC.out.2.keep hb))
      have BO := Lib.hid (BO.out.keep hb)
      have BA := Lib.hid (BA.out.keep hb)
      have HU := Lib.hid (HU.out.later hb)
      have HB := Lib.hid (HB.out.trans (hb.mono HB.out.size))
      have HS := Lib.hid (Nat.lt_of_lt_of_le HS.out hb.size)
      have HG := Lib.hid (Nat.lt_of_lt_of_le HG.out hb.size)
      clear hb
      refine hK _ _ HC.out ?_
      clear hK
      refine anyC_one (i := 4) (by decide +kernel) rfl rfl fun K hK => ?_
      go_simp
      refine (tsureP_ok cs hs ho _).mono ?_
      rintro e w12 ⟨rfl,hb⟩
      have HC := Lib.hid (And.intro (HC.out.1.keep hb) (HC.out.2.keep hb))
      have BO := Lib.hid (BO.out.keep hb)
      have BA := Lib.hid (BA.out.keep hb)
      have HU := Lib.hid (HU.out.later hb)
      have HB := Lib.hid (HB.out.trans (hb.mono HB.out.size))
      have HS := Lib.hid (Nat.lt_of_lt_of_le HS.out hb.size)
      have HG := Lib.hid (Nat.lt_of_lt_of_le HG.out hb.size)
      clear hb
      refine hK _ _ HC.out ?_
      clear hK
      refine anyC_one (i := 5) (by decide +kernel) rfl rfl fun K hK => ?_
      go_simp
      refine (CC.out _ HB.out).mono ?_
      rintro e w13 ⟨vc,rfl,hvc,hac,hb⟩
      obtain ⟨lc,rfl⟩ := hvc.rows
      have HN := Lib.hid (hac.mono fun k hk => (by have := HG.out; omega : k ≠ gA))
      have HQ := Lib.hid (hac.mono fun k hk => (by have := HS.out; omega : w.heap.size + 1 + 1 < k))
      have HC := Lib.hid (And.intro (HC.out.1.keep hb) (HC.out.2.keep hb))
      have BO := Lib.hid (BO.out.keep hb)
      have BA := Lib.hid (BA.out.keep hb)
      have HU := Lib.hid (HU.out.later hb)
      have HB := Lib.hid (HB.out.trans (hb.mono HB.out.size))
      have HS := Lib.hid (Nat.lt_of_lt_of_le HS.out hb.size)
      have HG := Lib.hid (Nat.lt_of_lt_of_le HG.out hb.size)
      clear hb
      have HV := Lib.hid hvc
      clear hvc hac
      refine hK _ _ HC.out ?_
      clear hK
      refine anyC_one (i := 7) (by decide +kernel) rfl rfl fun K hK => ?_
      refine wp_store_row _ _ _ rfl gA (repR r lc) rfl rfl 28 #[.int .u8 0,.int .u8 0,.int .u32 0,.int .u32 0,.slice none 0 0,.slice none 0 0,.bool false,.int .u32 0,.int .u8 0,.int .u8 0,.int .u32 0,.slice none 0 0,.int .u32 0] BA.out.at_ (rep_row_size r lc) rfl (rep_row_one r lc) ?_
      have hlg := HL.out
      refine hK _ _ (And.intro (HC.out.1.other (k := gA) (by omega) (repR r lc)) (HC.out.2.other (k := gA) (by omega) (repR r lc))) (anyC_done (by decide +kernel) ?_)
      clear hK
      have HC := Lib.hid (And.intro (HC.out.1.other (k := gA) (by omega) (repR r lc)) (HC.out.2.other (k := gA) (by omega) (repR r lc)))
      have HV := Lib.hid (HV.out.rowOff HN.out (repR r lc))
      have HU := Lib.hid (HU.out.rowOff (g := gA) (HUA.out.mono fun k hk => by omega) (repR r lc))
      have BO := Lib.hid (BO.out.other (k := gA) (by omega) (repR r lc))
      have BA := Lib.hid (BA.out.row (repR r lc))
      have HB := Lib.hid (below_setRow1 (B := w.heap.size) (r := gA) HB.out (by omega) (repR r lc))
      have hz : (w13.setRow gA (repR r lc)).heap.size = w13.heap.size := by simp [World.setRow]
      have HG := Lib.hid (show gA < (w13.setRow gA (repR r lc)).heap.size by rw [hz]; exact HG.out)
      rw [← hz] at HV HU
      clear hz HS
      generalize w13.setRow gA (repR r lc) = wf at HC HV HU BA HB HG BO ⊢
      have ha6 : RpAv (fun k => k ≠ gA ∧ w.heap.size + 1 + 1 < k) (.agg (repR r lc)) r := HN.out.and HQ.out
      go_wp2_with fail
      exact b_rest2 HC.out.2 BO.out BA.out HV.out ha6 HB.out hlg HU.out HUA.out HLL.out.2.2 HH.out.1 HLL.out.1 HH.out.2 HLL.out.2.1
end Go.Proofs.YtfjaeohfigcciabGreatDoor

