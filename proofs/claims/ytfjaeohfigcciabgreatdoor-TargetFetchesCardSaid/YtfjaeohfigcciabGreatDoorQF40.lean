/- Texts in one: TC11. -/
import Derived.Test.YtfjaeohfigcciabGreatDoorQF39
set_option linter.unusedVariables false
set_option linter.unusedSimpArgs false
set_option linter.unusedSectionVars false
set_option linter.unnecessarySimpa false
namespace Go.Proofs.YtfjaeohfigcciabGreatDoor
open Go.RowKit

def getV (r : Rp) (id : Int) : Value := if (findE r.held id).2 = true ∧ (findE r.held id).1.kind = 1 then .tuple #[.int .u32 (findE r.held id).1.val, .nilIface] else .tuple #[.int .u32 0, .iface 74 (.int .i64 8)]
set_option maxHeartbeats 8000000 in
set_option maxRecDepth 100000 in
theorem pGet_any (r : Rp) (lr : Ls) (id : Int) (w : World) (hv : RpV w w.heap.size (.agg (repR r lr)) r) (h2 : r.held.length ≤ 1000) :
    Calls Tryz.prog 29 #[.agg (repR r lr), .int .u8 id] w fun e w' => e = .returned (getV r id) ∧ Below w.heap.size w w' := by
  have HF := Lib.hid (fun w1 (hb : Below w.heap.size w w1) => iFind_any w1 (.slice lr.b r.held.length lr.j) r.held id (hv.later hb).she (by omega))
  have HG := Lib.hid (show getV r id = if (findE r.held id).2 = true ∧ (findE r.held id).1.kind = 1 then .tuple #[.int .u32 (findE r.held id).1.val, .nilIface] else .tuple #[.int .u32 0, .iface 74 (.int .i64 8)] from rfl)
  have HB := Lib.hid (al1 w (.cells (repR r lr) 28))
  have BR := Lib.hid (Blk.new w (repR r lr) 28)
  have c5 := BR.out.cell 5 (.slice lr.b r.held.length lr.j) rfl
  clear hv h2
  generalize getV r id = G at HG ⊢
  generalize findE r.held id = F at HF HG
  obtain ⟨x, t⟩ := F
  generalize repR r lr = cs at HB BR c5 ⊢
  go_enter Tryz.func29, Tryz.ntmps29
  go_upto_region 1 with fail
  generalize w.alloc (.cells cs 28) = W0 at HB BR c5 ⊢
  go_wp2_with fail
  refine (HF.out W0 HB.out).mono ?_
  rintro e w1 ⟨rfl, hb⟩
  have HB := Lib.hid (HB.out.trans (hb.mono HB.out.size)); clear hb c5
  unfold En.agg
  obtain ⟨q, hq⟩ : ∃ q : Bool, (x.kind != 1) = q := ⟨_, rfl⟩
  have h1' : (x.kind == 1) = !q := by rw [← hq]; simp [bne]
  have hk : (x.kind = 1) ↔ q = false := by rw [← hq]; simp
  have hG2 : G = if (t && !q) = true then .tuple #[.int .u32 x.val, .nilIface] else .tuple #[.int .u32 0, .iface 74 (.int .i64 8)] := by
    rw [HG.out]
    have e : (t = true ∧ x.kind = 1) ↔ ((t && !q) = true) := by rw [hk]; cases t <;> cases q <;> simp
    simp only [e]
  have HGG := Lib.hid hG2
  clear hG2 hk HG
  cases t <;> cases q <;>
    (go_wp2_with fail
     go_ret2
     exact ⟨by rw [HGG.out]; rfl, HB.out.trans ((al1 w1 _).mono HB.out.size)⟩)

def rA0 : Rp := ⟨2, 255, 0, 0, [], [], ⟨false, 0, 0, 0, 0, [], 0⟩⟩
def rA1 : Rp := beginP rA0 1
def nA1 : Nt := ⟨2, 1, 2, 1, 0, 0, [], 0, [⟨3, 1, 2, 1, 1, 1, 9⟩], 4, true, [⟨1, 1, 2⟩]⟩
def rA2 : Rp := ⟨2, 255, 0, 0, [⟨1, 1, 2⟩], [⟨3, 1, 2, 1, 1, 1, 9⟩], ⟨false, 0, 0, 0, 0, [], 1⟩⟩
theorem begin_A : beginR rA0 1 = (rA1, pullP rA1, 0) := by kernel_rfl
theorem add_A : addR [] 1 2 = .ok [⟨1, 2, 2⟩] := by
  unfold addR
  rw [union_of (by kernel_rfl) (by kernel_rfl), unionL_is (u := [⟨1, 2, 2⟩]) (by kernel_rfl) (by kernel_rfl) ((right_iff _).1 (by kernel_rfl)).2 (fun p n => by simp [covs])]
  rfl
theorem uni_A : unionR [⟨1, 2, 2⟩] [⟨1, 1, 2⟩] = .ok [⟨1, 1, 2⟩] := by
  rw [union_of (by kernel_rfl) (by kernel_rfl), unionL_is (u := [⟨1, 1, 2⟩]) (by kernel_rfl) (by kernel_rfl) ((right_iff _).1 (by kernel_rfl)).2 (fun p n => by
    rw [Bool.eq_iff_iff]
    simp only [Bool.or_eq_true, covs_iff, List.mem_singleton, exists_eq_left]
    omega)]
  rfl
theorem accept_A1 : acceptR rA1 nA1 = ⟨rA2, zeroN, false, 0⟩ := by
  rw [accept_none (by kernel_rfl)]
  have ht : takesR rA1.flt nA1.ents rA1.know rA1.held = .ok ([⟨1, 2, 2⟩], [⟨3, 1, 2, 1, 1, 1, 9⟩]) := by
    show takesR 255 [⟨3, 1, 2, 1, 1, 1, 9⟩] [] [] = _
    rw [tc_one, if_neg (by decide)]
    show (match addR [] 1 2 with | .ok k' => _ | .error c => _) = _
    rw [add_A]
    rfl
  unfold takeP
  rw [ht]
  show endR nA1 (afterP rA1 nA1 [⟨1, 2, 2⟩] [⟨3, 1, 2, 1, 1, 1, 9⟩]) = _
  unfold endR
  rw [if_pos (show nA1.done = true from rfl)]
  show (match unionR [⟨1, 2, 2⟩] [⟨1, 1, 2⟩] with | .ok k => _ | .error c => _) = _
  rw [uni_A]
  rfl
theorem accept_A2 : acceptR rA2 nA1 = ⟨zeroP, zeroN, false, 4⟩ := by kernel_rfl
theorem get_A : getV rA2 3 = .tuple #[.int .u32 9, .nilIface] := by kernel_rfl
theorem rA0_ok : rA0.ok := by unfold rA0 Rp.ok Ss.ok; simp
theorem nA1_ok : nA1.ok := by unfold nA1 Nt.ok; simp [Rn.ok, En.ok, Vr.ok, En.ver]
theorem err_zero {W : World} {ev : Value} (h : ErrIs W ev 0) : ev = .nilIface := by
  obtain ⟨⟨_, h⟩ | ⟨h, _⟩, _⟩ := h
  · exact h
  · exact absurd rfl h

set_option maxHeartbeats 16000000 in
set_option maxRecDepth 100000 in
theorem tawake_said : AwakeSaidE 6 := by
  intro w hg
  have HG := Lib.hid hg
  have hv0 : RpV w w.heap.size (.agg #[.int .u8 2, .int .u8 255, .int .u32 0, .int .u32 0, .slice none 0 0, .slice none 0 0, .bool false, .int .u32 0, .int .u8 0, .int .u8 0, .int .u32 0, .slice none 0 0, .int .u32 0]) rA0 := ⟨.slice none 0 0, .slice none 0 0, .slice none 0 0, rfl, Sl.nil _ _, ESl.nil _ _, Sl.nil _ _, rA0_ok⟩
  have HC := Lib.hid (tBegin_said _ 1 rA0 w hg hv0 (by decide) (by unfold shortR; decide))
  rw [begin_A] at HC
  clear hg hv0
  go_enter Tryz.func6, Tryz.ntmps6
  go_wp2_with fail
  refine (HC.out).mono ?_
  rintro e w1 ⟨v1, v2, ev, rfl, hv1, hv2, he, hb⟩
  obtain rfl := err_zero he
  obtain ⟨l1, rfl⟩ := hv1.rows
  obtain ⟨lp, rfl⟩ := hv2.rows
  have hi1 := rep_row_size rA1 l1
  have ho1 := rep_row_one rA1 l1
  have hs1 : (repR rA1 l1).size = 13 := rfl
  have hip : (Tryz.prog.info? 30).map (·.size) = some (noteR (pullP rA1) lp).size := note_size1
  have hop : (noteR (pullP rA1) lp).all (·.oneCell') = true := by simp [noteR, noteRow, Nt.cells, Value.oneCell']
  have hsp : (noteR (pullP rA1) lp).size = 12 := rfl
  have P3 := Lib.hid (show (noteR (pullP rA1) lp)[3]? = some (.int .u32 1) from rfl)
  have hal := al2 w1 (.cells #[.int .u8 0, .int .u8 0, .int .u32 0, .int .u32 0, .slice none 0 0, .slice none 0 0, .bool false, .int .u32 0, .int .u8 0, .int .u8 0, .int .u32 0, .slice none 0 0, .int .u32 0] 28) (.cells #[.int .i64 0, .int .u8 0, .int .u8 0, .int .u32 0, .int .u8 0, .int .u8 0, .slice none 0 0, .int .u32 0, .slice none 0 0, .int .u8 0, .bool false, .slice none 0 0] 30)
  have B1 := Lib.hid ((Blk.new w1 #[.int .u8 0, .int .u8 0, .int .u32 0, .int .u32 0, .slice none 0 0, .slice none 0 0, .bool false, .int .u32 0, .int .u8 0, .int .u8 0, .int .u32 0, .slice none 0 0, .int .u32 0] 28).alloc (.cells #[.int .i64 0, .int .u8 0, .int .u8 0, .int .u32 0, .int .u8 0, .int .u8 0, .slice none 0 0, .int .u32 0, .slice none 0 0, .int .u8 0, .bool false, .slice none 0 0] 30))
  have B2 := Lib.hid ((blk_two w1 (.cells #[.int .u8 0, .int .u8 0, .int .u32 0, .int .u32 0, .slice none 0 0, .slice none 0 0, .bool false, .int .u32 0, .int .u8 0, .int .u8 0, .int .u32 0, .slice none 0 0, .int .u32 0] 28) #[.int .i64 0, .int .u8 0, .int .u8 0, .int .u32 0, .int .u8 0, .int .u8 0, .slice none 0 0, .int .u32 0, .slice none 0 0, .int .u8 0, .bool false, .slice none 0 0] 30).other (k := w1.heap.size) (by omega) (repR rA1 l1))
  have HB := Lib.hid (below_setRow1 (B := w.heap.size) (r := w1.heap.size + 1) (below_setRow1 (B := w.heap.size) (r := w1.heap.size) (hb.trans (hal.mono hb.size)) hb.size (repR rA1 l1)) (by have := hb.size; omega) (noteR (pullP rA1) lp))
  have HV1 := Lib.hid (((hv1.later hal).rowOff (g := w1.heap.size) (hv1.av.mono fun k hk => by omega) (repR rA1 l1)).rowOff (g := w1.heap.size + 1) (hv1.av.mono fun k hk => by omega) (noteR (pullP rA1) lp))
  have hz : ((((w1.alloc (.cells #[.int .u8 0, .int .u8 0, .int .u32 0, .int .u32 0, .slice none 0 0, .slice none 0 0, .bool false, .int .u32 0, .int .u8 0, .int .u8 0, .int .u32 0, .slice none 0 0, .int .u32 0] 28)).alloc (.cells #[.int .i64 0, .int .u8 0, .int .u8 0, .int .u32 0, .int .u8 0, .int .u8 0, .slice none 0 0, .int .u32 0, .slice none 0 0, .int .u8 0, .bool false, .slice none 0 0] 30)).setRow w1.heap.size (repR rA1 l1)).setRow (w1.heap.size + 1) (noteR (pullP rA1) lp)).heap.size = ((w1.alloc (.cells #[.int .u8 0, .int .u8 0, .int .u32 0, .int .u32 0, .slice none 0 0, .slice none 0 0, .bool false, .int .u32 0, .int .u8 0, .int .u8 0, .int .u32 0, .slice none 0 0, .int .u32 0] 28)).alloc (.cells #[.int .i64 0, .int .u8 0, .int .u8 0, .int .u32 0, .int .u8 0, .int .u8 0, .slice none 0 0, .int .u32 0, .slice none 0 0, .int .u8 0, .bool false, .slice none 0 0] 30)).heap.size := by simp [World.setRow]
  rw [← hz] at HV1
  clear hz hv1 hv2 he hal hb
  go_upto_region 2 with (first
    | (refine wpList_store_row rfl _ _ _ rfl w1.heap.size (repR rA1 l1) rfl rfl 28 #[.int .u8 0, .int .u8 0, .int .u32 0, .int .u32 0, .slice none 0 0, .slice none 0 0, .bool false, .int .u32 0, .int .u8 0, .int .u8 0, .int .u32 0, .slice none 0 0, .int .u32 0] B1.out.at_ hi1 rfl ho1 ?_)
    | (refine wpList_store_row rfl _ _ _ rfl (w1.heap.size + 1) (noteR (pullP rA1) lp) rfl rfl 30 #[.int .i64 0, .int .u8 0, .int .u8 0, .int .u32 0, .int .u8 0, .int .u8 0, .slice none 0 0, .int .u32 0, .slice none 0 0, .int .u8 0, .bool false, .slice none 0 0] B2.out.at_ hip rfl hop ?_))
  have B1 := Lib.hid ((B1.out.row (repR rA1 l1)).other (k := w1.heap.size + 1) (by omega) (noteR (pullP rA1) lp))
  have B2 := Lib.hid (B2.out.row (noteR (pullP rA1) lp))
  generalize (((w1.alloc (.cells #[.int .u8 0, .int .u8 0, .int .u32 0, .int .u32 0, .slice none 0 0, .slice none 0 0, .bool false, .int .u32 0, .int .u8 0, .int .u8 0, .int .u32 0, .slice none 0 0, .int .u32 0] 28)).alloc (.cells #[.int .i64 0, .int .u8 0, .int .u8 0, .int .u32 0, .int .u8 0, .int .u8 0, .slice none 0 0, .int .u32 0, .slice none 0 0, .int .u8 0, .bool false, .slice none 0 0] 30)).setRow w1.heap.size (repR rA1 l1)).setRow (w1.heap.size + 1) (noteR (pullP rA1) lp) = wA at B1 B2 HB HV1 ⊢
  generalize w1.heap.size = g1 at B1 B2 ⊢
  have hlt2 := B2.out.lt
  -- the batch
  have HBB := Lib.hid (al4 wA (.cells #[.int .u8 3, .int .u8 1, .int .u32 2, .int .u32 1, .int .i64 1, .int .u8 1, .int .u32 9] 62) (.cells #[.int .u8 3, .int .u8 1, .int .u32 2, .int .u32 1, .int .i64 1, .int .u8 1, .int .u32 9] 62) (.cells #[.int .u8 1, .int .u32 1, .int .u32 2] 67) (.cells #[.int .i64 2, .int .u8 1, .int .u8 2, .int .u32 1, .int .u8 0, .int .u8 0, .slice none 0 0, .int .u32 0, .slice (some ⟨wA.heap.size + 1, 0, none⟩) 1 1, .int .u8 4, .bool true, .slice (some ⟨wA.heap.size + 1 + 1, 0, none⟩) 1 1] 30))
  have B5 := Lib.hid ((blk_four wA #[.int .u8 3, .int .u8 1, .int .u32 2, .int .u32 1, .int .i64 1, .int .u8 1, .int .u32 9] 62 #[.int .u8 3, .int .u8 1, .int .u32 2, .int .u32 1, .int .i64 1, .int .u8 1, .int .u32 9] 62 #[.int .u8 1, .int .u32 1, .int .u32 2] 67 #[.int .i64 2, .int .u8 1, .int .u8 2, .int .u32 1, .int .u8 0, .int .u8 0, .slice none 0 0, .int .u32 0, .slice (some ⟨wA.heap.size + 1, 0, none⟩) 1 1, .int .u8 4, .bool true, .slice (some ⟨wA.heap.size + 1 + 1, 0, none⟩) 1 1] 30).2.2.2)
  have hn1 : NtV ((((wA.alloc (.cells #[.int .u8 3, .int .u8 1, .int .u32 2, .int .u32 1, .int .i64 1, .int .u8 1, .int .u32 9] 62)).alloc (.cells #[.int .u8 3, .int .u8 1, .int .u32 2, .int .u32 1, .int .i64 1, .int .u8 1, .int .u32 9] 62)).alloc (.cells #[.int .u8 1, .int .u32 1, .int .u32 2] 67)).alloc (.cells #[.int .i64 2, .int .u8 1, .int .u8 2, .int .u32 1, .int .u8 0, .int .u8 0, .slice none 0 0, .int .u32 0, .slice (some ⟨wA.heap.size + 1, 0, none⟩) 1 1, .int .u8 4, .bool true, .slice (some ⟨wA.heap.size + 1 + 1, 0, none⟩) 1 1] 30)) ((((wA.alloc (.cells #[.int .u8 3, .int .u8 1, .int .u32 2, .int .u32 1, .int .i64 1, .int .u8 1, .int .u32 9] 62)).alloc (.cells #[.int .u8 3, .int .u8 1, .int .u32 2, .int .u32 1, .int .i64 1, .int .u8 1, .int .u32 9] 62)).alloc (.cells #[.int .u8 1, .int .u32 1, .int .u32 2] 67)).alloc (.cells #[.int .i64 2, .int .u8 1, .int .u8 2, .int .u32 1, .int .u8 0, .int .u8 0, .slice none 0 0, .int .u32 0, .slice (some ⟨wA.heap.size + 1, 0, none⟩) 1 1, .int .u8 4, .bool true, .slice (some ⟨wA.heap.size + 1 + 1, 0, none⟩) 1 1] 30)).heap.size (.agg #[.int .i64 2, .int .u8 1, .int .u8 2, .int .u32 1, .int .u8 0, .int .u8 0, .slice none 0 0, .int .u32 0, .slice (some ⟨wA.heap.size + 1, 0, none⟩) 1 1, .int .u8 4, .bool true, .slice (some ⟨wA.heap.size + 1 + 1, 0, none⟩) 1 1]) nA1 := by
    refine ⟨.slice none 0 0, .slice (some ⟨wA.heap.size + 1, 0, none⟩) 1 1, .slice (some ⟨wA.heap.size + 1 + 1, 0, none⟩) 1 1, rfl, Sl.nil _ _, ?_, ?_, nA1_ok⟩
    · have h := one_esl' (wA.alloc (.cells #[.int .u8 3, .int .u8 1, .int .u32 2, .int .u32 1, .int .i64 1, .int .u8 1, .int .u32 9] 62)) (wA.heap.size + 1) 3 1 2 1 1 1 9 (by simp) (by simp [En.ok, Vr.ok, En.ver])
      exact (h.below (((Below.refl _ _).alloc (by simp) _).alloc (by simp) _)).more (by simp)
    · have h := one_sl ((wA.alloc (.cells #[.int .u8 3, .int .u8 1, .int .u32 2, .int .u32 1, .int .i64 1, .int .u8 1, .int .u32 9] 62)).alloc (.cells #[.int .u8 3, .int .u8 1, .int .u32 2, .int .u32 1, .int .i64 1, .int .u8 1, .int .u32 9] 62)) (wA.heap.size + 1 + 1) 1 1 2 (by simp) (by simp [Rn.ok])
      exact ((h.alloc (by simp) _).more (by simp))
  have HN1 := Lib.hid hn1
  clear hn1
  go_upto_region 4 with fail
  have B1 := Lib.hid (B1.out.keep HBB.out)
  have B2 := Lib.hid (B2.out.keep HBB.out)
  have HV1 := Lib.hid (HV1.out.later HBB.out)
  have HB := Lib.hid (HB.out.trans (HBB.out.mono HB.out.size))
  clear HBB
  have hj5 : (Tryz.prog.info? 30).map (·.size) = some (#[.int .i64 2, .int .u8 1, .int .u8 2, .int .u32 1, .int .u8 0, .int .u8 0, .slice none 0 0, .int .u32 0, .slice (some ⟨wA.heap.size + 1, 0, none⟩) 1 1, .int .u8 4, .bool true, .slice (some ⟨wA.heap.size + 1 + 1, 0, none⟩) 1 1] : Array Value).size := note_size1
  have HNR := Lib.hid (show (#[.int .i64 2, .int .u8 1, .int .u8 2, .int .u32 1, .int .u8 0, .int .u8 0, .slice none 0 0, .int .u32 0, .slice (some ⟨wA.heap.size + 1, 0, none⟩) 1 1, .int .u8 4, .bool true, .slice (some ⟨wA.heap.size + 1 + 1, 0, none⟩) 1 1] : Array Value) = noteR nA1 ⟨none, some ⟨wA.heap.size + 1, 0, none⟩, some ⟨wA.heap.size + 1 + 1, 0, none⟩, 0, 1, 1⟩ from rfl)
  have h5g : g1 ≠ wA.heap.size + 1 + 1 + 1 := by omega
  generalize (((wA.alloc (.cells #[.int .u8 3, .int .u8 1, .int .u32 2, .int .u32 1, .int .i64 1, .int .u8 1, .int .u32 9] 62)).alloc (.cells #[.int .u8 3, .int .u8 1, .int .u32 2, .int .u32 1, .int .i64 1, .int .u8 1, .int .u32 9] 62)).alloc (.cells #[.int .u8 1, .int .u32 1, .int .u32 2] 67)).alloc (.cells #[.int .i64 2, .int .u8 1, .int .u8 2, .int .u32 1, .int .u8 0, .int .u8 0, .slice none 0 0, .int .u32 0, .slice (some ⟨wA.heap.size + 1, 0, none⟩) 1 1, .int .u8 4, .bool true, .slice (some ⟨wA.heap.size + 1 + 1, 0, none⟩) 1 1] 30) = wB at B1 B2 B5 HN1 HV1 HB ⊢
  generalize (#[.int .i64 2, .int .u8 1, .int .u8 2, .int .u32 1, .int .u8 0, .int .u8 0, .slice none 0 0, .int .u32 0, .slice (some ⟨wA.heap.size + 1, 0, none⟩) 1 1, .int .u8 4, .bool true, .slice (some ⟨wA.heap.size + 1 + 1, 0, none⟩) 1 1] : Array Value) = cn at B5 HN1 hj5 ⊢
  generalize wA.heap.size + 1 + 1 + 1 = g5 at B5 h5g ⊢
  have CA1 := Lib.hid (tAccept_said _ _ rA1 nA1 wB (HG.out.later HB.out) HV1.out HN1.out (by unfold shortR; decide) (by unfold shortN; decide))
  rw [accept_A1] at CA1
  go_wp2_with (first
    | (refine wpList_load_row rfl _ _ rfl g1 rfl 28 (repR rA1 l1) (0, 0) _ B1.out.at_ Tryz.underlying28 rfl hi1 ?_)
    | (refine wpList_load_row rfl _ _ rfl g5 rfl 30 cn (0, 0) _ B5.out.at_ Tryz.underlying30 rfl hj5 ?_))
  refine (CA1.out).mono ?_
  rintro e w2 ⟨v3, v4, ev2, rfl, hv3, hv4, he, hb, _⟩
  obtain rfl := err_zero he
  obtain ⟨l2, rfl⟩ := hv3.rows
  obtain ⟨c4, rfl, hs4, h4⟩ := hv4.row
  have hi4 : (Tryz.prog.info? 30).map (·.size) = some c4.size := by rw [hs4]; exact note_size1
  have hi2 := rep_row_size rA2 l2
  have ho2 := rep_row_one rA2 l2
  have hal := al2 w2 (.cells #[.int .u8 0, .int .u8 0, .int .u32 0, .int .u32 0, .slice none 0 0, .slice none 0 0, .bool false, .int .u32 0, .int .u8 0, .int .u8 0, .int .u32 0, .slice none 0 0, .int .u32 0] 28) (.cells #[.int .i64 0, .int .u8 0, .int .u8 0, .int .u32 0, .int .u8 0, .int .u8 0, .slice none 0 0, .int .u32 0, .slice none 0 0, .int .u8 0, .bool false, .slice none 0 0] 30)
  have B2 := Lib.hid ((((B2.out.keep hb).keep hal).other (k := w2.heap.size) (by have := (B2.out.keep hb).lt; omega) (repR rA2 l2)).other (k := w2.heap.size + 1) (by have := (B2.out.keep hb).lt; omega) c4)
  have B5 := Lib.hid ((((B5.out.keep hb).keep hal).other (k := w2.heap.size) (by have := (B5.out.keep hb).lt; omega) (repR rA2 l2)).other (k := w2.heap.size + 1) (by have := (B5.out.keep hb).lt; omega) c4)
  have HN1 := Lib.hid ((((HN1.out.later hb).later hal).rowOff (g := w2.heap.size) ((HN1.out.later hb).av.mono fun k hk => by omega) (repR rA2 l2)).rowOff (g := w2.heap.size + 1) ((HN1.out.later hb).av.mono fun k hk => by omega) c4)
  have B6 := Lib.hid ((Blk.new w2 #[.int .u8 0, .int .u8 0, .int .u32 0, .int .u32 0, .slice none 0 0, .slice none 0 0, .bool false, .int .u32 0, .int .u8 0, .int .u8 0, .int .u32 0, .slice none 0 0, .int .u32 0] 28).alloc (.cells #[.int .i64 0, .int .u8 0, .int .u8 0, .int .u32 0, .int .u8 0, .int .u8 0, .slice none 0 0, .int .u32 0, .slice none 0 0, .int .u8 0, .bool false, .slice none 0 0] 30))
  have B7 := Lib.hid ((blk_two w2 (.cells #[.int .u8 0, .int .u8 0, .int .u32 0, .int .u32 0, .slice none 0 0, .slice none 0 0, .bool false, .int .u32 0, .int .u8 0, .int .u8 0, .int .u32 0, .slice none 0 0, .int .u32 0] 28) #[.int .i64 0, .int .u8 0, .int .u8 0, .int .u32 0, .int .u8 0, .int .u8 0, .slice none 0 0, .int .u32 0, .slice none 0 0, .int .u8 0, .bool false, .slice none 0 0] 30).other (k := w2.heap.size) (by omega) (repR rA2 l2))
  have HVB := Lib.hid (HV1.out.later hb)
  have hb1 := HB.out.trans (hb.mono HB.out.size)
  have HB := Lib.hid (below_setRow1 (B := w.heap.size) (r := w2.heap.size + 1) (below_setRow1 (B := w.heap.size) (r := w2.heap.size) (hb1.trans (hal.mono hb1.size)) hb1.size (repR rA2 l2)) (by have := hb1.size; omega) c4)
  have HV2 := Lib.hid (((hv3.later hal).rowOff (g := w2.heap.size) (hv3.av.mono fun k hk => by omega) (repR rA2 l2)).rowOff (g := w2.heap.size + 1) (hv3.av.mono fun k hk => by omega) c4)
  have hz : ((((w2.alloc (.cells #[.int .u8 0, .int .u8 0, .int .u32 0, .int .u32 0, .slice none 0 0, .slice none 0 0, .bool false, .int .u32 0, .int .u8 0, .int .u8 0, .int .u32 0, .slice none 0 0, .int .u32 0] 28)).alloc (.cells #[.int .i64 0, .int .u8 0, .int .u8 0, .int .u32 0, .int .u8 0, .int .u8 0, .slice none 0 0, .int .u32 0, .slice none 0 0, .int .u8 0, .bool false, .slice none 0 0] 30)).setRow w2.heap.size (repR rA2 l2)).setRow (w2.heap.size + 1) c4).heap.size = ((w2.alloc (.cells #[.int .u8 0, .int .u8 0, .int .u32 0, .int .u32 0, .slice none 0 0, .slice none 0 0, .bool false, .int .u32 0, .int .u8 0, .int .u8 0, .int .u32 0, .slice none 0 0, .int .u32 0] 28)).alloc (.cells #[.int .i64 0, .int .u8 0, .int .u8 0, .int .u32 0, .int .u8 0, .int .u8 0, .slice none 0 0, .int .u32 0, .slice none 0 0, .int .u8 0, .bool false, .slice none 0 0] 30)).heap.size := by simp [World.setRow]
  rw [← hz] at HV2 HN1
  clear hz hv3 hv4 he hal hb hb1 HVB B1 HV1 CA1 HC
  go_upto_region 5 with (first
    | (refine wpList_store_row rfl _ _ _ rfl w2.heap.size (repR rA2 l2) rfl rfl 28 #[.int .u8 0, .int .u8 0, .int .u32 0, .int .u32 0, .slice none 0 0, .slice none 0 0, .bool false, .int .u32 0, .int .u8 0, .int .u8 0, .int .u32 0, .slice none 0 0, .int .u32 0] B6.out.at_ hi2 rfl ho2 ?_)
    | (refine wpList_store_row rfl _ _ _ rfl (w2.heap.size + 1) c4 rfl rfl 30 #[.int .i64 0, .int .u8 0, .int .u8 0, .int .u32 0, .int .u8 0, .int .u8 0, .slice none 0 0, .int .u32 0, .slice none 0 0, .int .u8 0, .bool false, .slice none 0 0] B7.out.at_ hi4 (by rw [hs4]; rfl) h4 ?_))
  have B6 := Lib.hid ((B6.out.row (repR rA2 l2)).other (k := w2.heap.size + 1) (by omega) c4)
  generalize (((w2.alloc (.cells #[.int .u8 0, .int .u8 0, .int .u32 0, .int .u32 0, .slice none 0 0, .slice none 0 0, .bool false, .int .u32 0, .int .u8 0, .int .u8 0, .int .u32 0, .slice none 0 0, .int .u32 0] 28)).alloc (.cells #[.int .i64 0, .int .u8 0, .int .u8 0, .int .u32 0, .int .u8 0, .int .u8 0, .slice none 0 0, .int .u32 0, .slice none 0 0, .int .u8 0, .bool false, .slice none 0 0] 30)).setRow w2.heap.size (repR rA2 l2)).setRow (w2.heap.size + 1) c4 = wC at B2 B5 B6 HB HN1 HV2 ⊢
  clear B7
  generalize w2.heap.size = g6 at B6 ⊢
  have CA2 := Lib.hid (tAccept_said _ _ rA2 nA1 wC (HG.out.later HB.out) HV2.out HN1.out (by unfold shortR; decide) (by unfold shortN; decide))
  rw [accept_A2] at CA2
  go_wp2_with (first
    | (refine wpList_load_row rfl _ _ rfl g6 rfl 28 (repR rA2 l2) (0, 0) _ B6.out.at_ Tryz.underlying28 rfl hi2 ?_)
    | (refine wpList_load_row rfl _ _ rfl g5 rfl 30 cn (0, 0) _ B5.out.at_ Tryz.underlying30 rfl hj5 ?_))
  refine (CA2.out).mono ?_
  rintro e w3 ⟨v5, v6, ev3, rfl, hv5, hv6, he3, hb, _⟩
  obtain ⟨c5, rfl, hs5, h5⟩ := hv5.row
  obtain ⟨c6, rfl, hs6, h6⟩ := hv6.row
  have hi5 : (Tryz.prog.info? 28).map (·.size) = some c5.size := by rw [hs5]; exact rep_size1
  have hi6 : (Tryz.prog.info? 30).map (·.size) = some c6.size := by rw [hs6]; exact note_size1
  have hal := al2 w3 (.cells #[.int .u8 0, .int .u8 0, .int .u32 0, .int .u32 0, .slice none 0 0, .slice none 0 0, .bool false, .int .u32 0, .int .u8 0, .int .u8 0, .int .u32 0, .slice none 0 0, .int .u32 0] 28) (.cells #[.int .i64 0, .int .u8 0, .int .u8 0, .int .u32 0, .int .u8 0, .int .u8 0, .slice none 0 0, .int .u32 0, .slice none 0 0, .int .u8 0, .bool false, .slice none 0 0] 30)
  have L2 := (B2.out.keep hb).lt
  have L6 := (B6.out.keep hb).lt
  have B2 := Lib.hid ((((B2.out.keep hb).keep hal).other (k := w3.heap.size) (by omega) c5).other (k := w3.heap.size + 1) (by omega) c6)
  have B6 := Lib.hid ((((B6.out.keep hb).keep hal).other (k := w3.heap.size) (by omega) c5).other (k := w3.heap.size + 1) (by omega) c6)
  have BA := Lib.hid ((Blk.new w3 #[.int .u8 0, .int .u8 0, .int .u32 0, .int .u32 0, .slice none 0 0, .slice none 0 0, .bool false, .int .u32 0, .int .u8 0, .int .u8 0, .int .u32 0, .slice none 0 0, .int .u32 0] 28).alloc (.cells #[.int .i64 0, .int .u8 0, .int .u8 0, .int .u32 0, .int .u8 0, .int .u8 0, .slice none 0 0, .int .u32 0, .slice none 0 0, .int .u8 0, .bool false, .slice none 0 0] 30))
  have BB := Lib.hid ((blk_two w3 (.cells #[.int .u8 0, .int .u8 0, .int .u32 0, .int .u32 0, .slice none 0 0, .slice none 0 0, .bool false, .int .u32 0, .int .u8 0, .int .u8 0, .int .u32 0, .slice none 0 0, .int .u32 0] 28) #[.int .i64 0, .int .u8 0, .int .u8 0, .int .u32 0, .int .u8 0, .int .u8 0, .slice none 0 0, .int .u32 0, .slice none 0 0, .int .u8 0, .bool false, .slice none 0 0] 30).other (k := w3.heap.size) (by omega) c5)
  have hb1 := HB.out.trans (hb.mono HB.out.size)
  have HV2 := Lib.hid ((((HV2.out.later hb).later hal).rowOff (g := w3.heap.size) ((HV2.out.later hb).av.mono fun k hk => by omega) c5).rowOff (g := w3.heap.size + 1) ((HV2.out.later hb).av.mono fun k hk => by omega) c6)
  have HB := Lib.hid (below_setRow1 (B := w.heap.size) (r := w3.heap.size + 1) (below_setRow1 (B := w.heap.size) (r := w3.heap.size) (hb1.trans (hal.mono hb1.size)) hb1.size c5) (by have := hb1.size; omega) c6)
  have HE3 := Lib.hid (he3.later (below_setRow1 (B := w3.heap.size) (r := w3.heap.size + 1) (below_setRow1 (B := w3.heap.size) (r := w3.heap.size) hal (Nat.le_refl _) c5) (by omega) c6))
  have hz : ((((w3.alloc (.cells #[.int .u8 0, .int .u8 0, .int .u32 0, .int .u32 0, .slice none 0 0, .slice none 0 0, .bool false, .int .u32 0, .int .u8 0, .int .u8 0, .int .u32 0, .slice none 0 0, .int .u32 0] 28)).alloc (.cells #[.int .i64 0, .int .u8 0, .int .u8 0, .int .u32 0, .int .u8 0, .int .u8 0, .slice none 0 0, .int .u32 0, .slice none 0 0, .int .u8 0, .bool false, .slice none 0 0] 30)).setRow w3.heap.size c5).setRow (w3.heap.size + 1) c6).heap.size = ((w3.alloc (.cells #[.int .u8 0, .int .u8 0, .int .u32 0, .int .u32 0, .slice none 0 0, .slice none 0 0, .bool false, .int .u32 0, .int .u8 0, .int .u8 0, .int .u32 0, .slice none 0 0, .int .u32 0] 28)).alloc (.cells #[.int .i64 0, .int .u8 0, .int .u8 0, .int .u32 0, .int .u8 0, .int .u8 0, .slice none 0 0, .int .u32 0, .slice none 0 0, .int .u8 0, .bool false, .slice none 0 0] 30)).heap.size := by simp [World.setRow]
  rw [← hz] at HV2
  clear hz hv5 hv6 he3 hal hb hb1 L2 L6 B5 HN1 CA2
  obtain ⟨⟨h, _⟩ | ⟨_, t3, u3, rfl⟩, HE4⟩ := HE3.out
  · exact absurd h (by decide)
  have HE4 := Lib.hid HE4
  clear HE3
  go_upto_region 6 with (first
    | (refine wpList_store_row rfl _ _ _ rfl w3.heap.size c5 rfl rfl 28 #[.int .u8 0, .int .u8 0, .int .u32 0, .int .u32 0, .slice none 0 0, .slice none 0 0, .bool false, .int .u32 0, .int .u8 0, .int .u8 0, .int .u32 0, .slice none 0 0, .int .u32 0] BA.out.at_ hi5 (by rw [hs5]; rfl) h5 ?_)
    | (refine wpList_store_row rfl _ _ _ rfl (w3.heap.size + 1) c6 rfl rfl 30 #[.int .i64 0, .int .u8 0, .int .u8 0, .int .u32 0, .int .u8 0, .int .u8 0, .slice none 0 0, .int .u32 0, .slice none 0 0, .int .u8 0, .bool false, .slice none 0 0] BB.out.at_ hi6 (by rw [hs6]; rfl) h6 ?_))
  generalize (((w3.alloc (.cells #[.int .u8 0, .int .u8 0, .int .u32 0, .int .u32 0, .slice none 0 0, .slice none 0 0, .bool false, .int .u32 0, .int .u8 0, .int .u8 0, .int .u32 0, .slice none 0 0, .int .u32 0] 28)).alloc (.cells #[.int .i64 0, .int .u8 0, .int .u8 0, .int .u32 0, .int .u8 0, .int .u8 0, .slice none 0 0, .int .u32 0, .slice none 0 0, .int .u8 0, .bool false, .slice none 0 0] 30)).setRow w3.heap.size c5).setRow (w3.heap.size + 1) c6 = wD at B2 B6 HB HV2 HE4 ⊢
  clear BA BB
  have CG := Lib.hid (pGet_any rA2 l2 3 wD HV2.out (by decide))
  rw [get_A] at CG
  go_wp2_with (refine wpList_load_row rfl _ _ rfl g6 rfl 28 (repR rA2 l2) (0, 0) _ B6.out.at_ Tryz.underlying28 rfl hi2 ?_)
  refine (CG.out).mono ?_
  rintro e w4 ⟨rfl, hb⟩
  have B2 := Lib.hid (B2.out.keep hb)
  have B6 := Lib.hid (B6.out.keep hb)
  have HE := Lib.hid (fun W' (h : Below w4.heap.size w4 W') => HE4.out W' (hb.trans (h.mono hb.size)))
  have hsl := (HV2.out.later hb).skn
  have HB := Lib.hid (HB.out.trans (hb.mono HB.out.size)); clear hb HE4 HV2 CG
  obtain ⟨A, c, hv, _, _, hA⟩ := hsl
  obtain ⟨bk, ok, hA1, hbk, hc⟩ := hA (by simp [rA2])
  have hr0 := hc 0 ⟨1, 1, 2⟩ rfl
  obtain ⟨_, _, k2⟩ := hr0
  injection hv with hv1 _ _
  rw [hA1] at hv1
  have m3 := B2.out.cell 3 (.int .u32 1) rfl
  have m6 := B6.out.cell 6 (.bool false) rfl
  have m4 := B6.out.cell 4 (.slice l2.a 1 l2.i) rfl
  rw [hv1] at m4
  simp only [Nat.zero_mul, Nat.add_zero] at k2
  clear hA hc hv1
  go_wp2_with fail
  refine (HE.out w4 (Below.refl _ _)).mono ?_
  rintro e w5 ⟨rfl, hb⟩
  have HB := Lib.hid (HB.out.trans (hb.mono HB.out.size)); clear hb
  go_wp2_with fail
  go_ret
  exact ⟨rfl, HB.out⟩
end Go.Proofs.YtfjaeohfigcciabGreatDoor

