/- Texts in one: TC4, TakeO, Concat, Order, Union, DropO, UnionO, PTMath, Awake, LawMath. -/
import Derived.Shelf.SlSortCmp.NoneTotal
import Derived.Test.YtfjaeohfigcciabGreatDoorQB26
import Derived.Test.YtfjaeohfigcciabGreatDoorQB03
import Derived.Test.YtfjaeohfigcciabGreatDoorQB04
import Derived.Test.YtfjaeohfigcciabGreatDoorQB25
set_option linter.unusedVariables false
set_option linter.unusedSimpArgs false
set_option linter.unusedSectionVars false
set_option linter.unnecessarySimpa false
namespace Go.Proofs.YtfjaeohfigcciabGreatDoor
open Go.RowKit

def refuseF (r : Rp) : Option Int := if rpB r = false then some 9 else if r.ses.on = false then some 8 else none
def sureOf {α : Type} (o : Option Int) (x : α) : Except Int α := match o with | some c => .error c | none => .ok x
theorem rep_row_one (r : Rp) (l : Ls) : (repR r l).all (·.oneCell') = true := by simp [repR, repRow, Rp.cells, Value.oneCell']
theorem rep_row_size (r : Rp) (l : Ls) : (Tryz.prog.info? 28).map (·.size) = some (repR r l).size := rep_size1

set_option maxHeartbeats 8000000 in
set_option maxRecDepth 100000 in
theorem trefF_any (v : Value) (r : Rp) (w : World) (hv : RpV w w.heap.size v r) (h1 : r.know.length ≤ 1000) (h2 : r.held.length ≤ 1000) (h3 : r.ses.offer.length ≤ 1000) :
    Calls Tryz.prog 95 #[v] w fun e w' => e = .returned (refV (refuseF r)) ∧ Below w.heap.size w w' := by
  have HR := Lib.hid (fun w1 (hb : Below w.heap.size w w1) => pRight_any v r w1 (hv.later hb) h1 h2 h3)
  have HP := Lib.hid (show refuseF r = if rpB r = false then some 9 else if r.ses.on = false then some 8 else none from rfl)
  obtain ⟨lr, rfl⟩ := hv.rows
  clear hv h1 h2 h3
  unfold repR repRow Rp.cells at HR ⊢
  generalize refuseF r = D at HP ⊢
  generalize rpB r = q1 at HR HP
  go_enter Tryz.func95, Tryz.ntmps95
  go_wp2_with fail
  have HB := Lib.hid (al1 w (.cells #[.int .u8 r.rep, .int .u8 r.flt, .int .u32 r.epoch, .int .u32 r.seq, .slice lr.a r.know.length lr.i, .slice lr.b r.held.length lr.j, .bool r.ses.on, .int .u32 r.ses.num, .int .u8 r.ses.src, .int .u8 r.ses.cur, .int .u32 r.ses.epoch, .slice lr.c r.ses.offer.length lr.k, .int .u32 r.ses.last] 28))
  have BR := Lib.hid (Blk.new w #[.int .u8 r.rep, .int .u8 r.flt, .int .u32 r.epoch, .int .u32 r.seq, .slice lr.a r.know.length lr.i, .slice lr.b r.held.length lr.j, .bool r.ses.on, .int .u32 r.ses.num, .int .u8 r.ses.src, .int .u8 r.ses.cur, .int .u32 r.ses.epoch, .slice lr.c r.ses.offer.length lr.k, .int .u32 r.ses.last] 28)
  generalize w.alloc (.cells #[.int .u8 r.rep, .int .u8 r.flt, .int .u32 r.epoch, .int .u32 r.seq, .slice lr.a r.know.length lr.i, .slice lr.b r.held.length lr.j, .bool r.ses.on, .int .u32 r.ses.num, .int .u8 r.ses.src, .int .u8 r.ses.cur, .int .u32 r.ses.epoch, .slice lr.c r.ses.offer.length lr.k, .int .u32 r.ses.last] 28) = W0 at HB BR ⊢
  refine (HR.out W0 HB.out).mono ?_
  rintro e w1 ⟨rfl, hb⟩
  have BR := Lib.hid (BR.out.keep hb)
  have HB := Lib.hid (HB.out.trans (hb.mono HB.out.size)); clear hb
  have c6 := BR.out.cell 6 (.bool r.ses.on) rfl
  cases q1
  · go_wp2_with fail
    go_ret
    exact ⟨by rw [HP.out]; rfl, HB.out⟩
  obtain ⟨q2, hq2⟩ : ∃ q : Bool, r.ses.on = q := ⟨_, rfl⟩
  rw [hq2] at HP c6
  clear BR
  cases q2
  · go_wp2_with fail
    go_ret
    exact ⟨by rw [HP.out]; rfl, HB.out⟩
  · go_wp2_with fail
    go_ret
    exact ⟨by rw [HP.out]; rfl, HB.out⟩

/-- the replica itself comes back, or the call dies of a code -/
def RepSame (w : World) (cs : Array Value) (o : Option Int) (e : Ending) (w' : World) : Prop :=
  match o with
  | none => e = .returned (.agg cs) ∧ Below w.heap.size w w'
  | some c => e = diesOf (.iface 74 (.int .i64 c)) ∧ Below w.heap.size w w'
set_option maxHeartbeats 8000000 in
set_option maxRecDepth 100000 in
theorem tfetching_any (r : Rp) (lr : Ls) (w : World) (hv : RpV w w.heap.size (.agg (repR r lr)) r) (h1 : r.know.length ≤ 1000) (h2 : r.held.length ≤ 1000) (h3 : r.ses.offer.length ≤ 1000) :
    Calls Tryz.prog 54 #[.agg (repR r lr)] w (RepSame w (repR r lr) (refuseF r)) := by
  have hm : Tryz.prog.follows .mixedOrders = true := by kernel_rfl
  have HM := Lib.hid hm; clear hm
  have CR := Lib.hid (fun w1 (hb : Below w.heap.size w w1) => trefF_any _ r w1 (hv.later hb) h1 h2 h3)
  have hi := rep_row_size r lr
  have ho := rep_row_one r lr
  have hs : (repR r lr).size = 13 := rfl
  clear hv h1 h2 h3
  generalize refuseF r = D at CR ⊢
  generalize repR r lr = cs at CR hi ho hs ⊢
  go_enter Tryz.func54, Tryz.ntmps54
  go_wp2_with fail
  have BR := Lib.hid ((Blk.new w cs 28).alloc (.cells #[.int .u8 0, .int .u8 0, .int .u32 0, .int .u32 0, .slice none 0 0, .slice none 0 0, .bool false, .int .u32 0, .int .u8 0, .int .u8 0, .int .u32 0, .slice none 0 0, .int .u32 0] 28))
  have BO := Lib.hid (blk_two w (.cells cs 28) #[.int .u8 0, .int .u8 0, .int .u32 0, .int .u32 0, .slice none 0 0, .slice none 0 0, .bool false, .int .u32 0, .int .u8 0, .int .u8 0, .int .u32 0, .slice none 0 0, .int .u32 0] 28)
  have HB := Lib.hid (al2 w (.cells cs 28) (.cells #[.int .u8 0, .int .u8 0, .int .u32 0, .int .u32 0, .slice none 0 0, .slice none 0 0, .bool false, .int .u32 0, .int .u8 0, .int .u8 0, .int .u32 0, .slice none 0 0, .int .u32 0] 28))
  generalize (w.alloc (.cells cs 28)).alloc (.cells #[.int .u8 0, .int .u8 0, .int .u32 0, .int .u32 0, .slice none 0 0, .slice none 0 0, .bool false, .int .u32 0, .int .u8 0, .int .u8 0, .int .u32 0, .slice none 0 0, .int .u32 0] 28) = W0 at BR BO HB ⊢
  refine wp_region_C (fun w' => Blk w' w.heap.size cs 28) HM.out ?_
  have HC := Lib.hid (show Blk W0.drew w.heap.size cs 28 from ⟨BR.out.at_⟩)
  have BO := Lib.hid (show Blk W0.drew (w.heap.size + 1) #[.int .u8 0, .int .u8 0, .int .u32 0, .int .u32 0, .slice none 0 0, .slice none 0 0, .bool false, .int .u32 0, .int .u8 0, .int .u8 0, .int .u32 0, .slice none 0 0, .int .u32 0] 28 from ⟨BO.out.at_⟩)
  have HB := Lib.hid (show Below w.heap.size w W0.drew from HB.out.trans (Below.refl _ W0).drew)
  clear BR
  generalize W0.drew = W1 at HC BO HB ⊢
  refine anyC_take (i := 0) (v := .agg cs) rfl (by kernel_rfl) (by kernel_rfl) (by kernel_rfl) (fun _ _ _ h => h) HC.out (reads_row rfl _ _ rfl (w.heap.size) rfl 28 cs _ (fun w' hw => hw.at_) Tryz.underlying28 rfl hi) ?_
  refine anyC_take (i := 1) (v := .agg cs) rfl (by kernel_rfl) (by kernel_rfl) (by kernel_rfl) (fun _ _ _ h => h) HC.out (reads_row rfl _ _ rfl (w.heap.size) rfl 28 cs _ (fun w' hw => hw.at_) Tryz.underlying28 rfl hi) ?_
  refine anyC_one (i := 2) (by decide +kernel) rfl rfl fun K hK => ?_
  go_simp
  refine (CR.out _ HB.out).mono ?_
  rintro e w2 ⟨rfl, hb⟩
  have HC := Lib.hid (HC.out.keep hb)
  have BO := Lib.hid (BO.out.keep hb)
  have HB := Lib.hid (HB.out.trans (hb.mono HB.out.size)); clear hb
  refine hK _ _ HC.out ?_
  clear hK
  refine anyC_one (i := 3) (by decide +kernel) rfl rfl fun K hK => ?_
  cases D with
  | some c =>
    go_simp
    refine (tsureP_bad _ _ _ _).mono ?_
    rintro e w3 ⟨rfl, hb⟩
    exact ⟨rfl, rfl, HB.out.trans (hb.mono HB.out.size)⟩
  | none =>
    go_simp
    refine (tsureP_ok cs hs ho _).mono ?_
    rintro e w3 ⟨rfl, hb⟩
    have HC := Lib.hid (HC.out.keep hb)
    have BO := Lib.hid (BO.out.keep hb)
    have HB := Lib.hid (HB.out.trans (hb.mono HB.out.size)); clear hb
    refine hK _ _ HC.out ?_
    clear hK
    refine anyC_one (i := 4) (by decide +kernel) rfl rfl fun K hK => ?_
    refine wp_store_row _ _ _ rfl (w.heap.size + 1) cs rfl rfl 28 #[.int .u8 0, .int .u8 0, .int .u32 0, .int .u32 0, .slice none 0 0, .slice none 0 0, .bool false, .int .u32 0, .int .u8 0, .int .u8 0, .int .u32 0, .slice none 0 0, .int .u32 0] BO.out.at_ hi (by rw [hs]; rfl) ho ?_
    refine hK _ _ (HC.out.other (k := w.heap.size + 1) (by omega) cs) (anyC_done (by decide +kernel) ?_)
    clear hK
    go_wp2_with fail
    refine bodyPost_ret (v := .agg cs) (results_cell_row Tryz.results54 _ _ (w.heap.size + 1) 28 cs (0, 0) _ rfl (BO.out.row cs).at_ Tryz.underlying28 rfl hi) rfl ?_
    exact ⟨rfl, below_setRow1 (B := w.heap.size) (r := w.heap.size + 1) HB.out (by omega) _⟩

set_option maxHeartbeats 8000000 in
set_option maxRecDepth 100000 in
theorem tBeginC_any (r : Rp) (lr : Ls) (src : Int) (W : World) (g g1 : Nat) (hbr : Blk W g (repR r lr) 28) (hc1 : W.cell? ⟨g1, 0, none⟩ = some (.int .u8 src)) (hv : RpV W W.heap.size (.agg (repR r lr)) r) (hsrc : 0 ≤ src ∧ src ≤ 255)
    (h1 : r.know.length ≤ 1000) (h2 : r.held.length ≤ 1000) (h3 : r.ses.offer.length ≤ 1000) :
    Calls Tryz.prog 45 #[.pointer (some ⟨g, 0, none⟩), .pointer (some ⟨g1, 0, none⟩)] W (RepSure W (sureOf (refuseB r src) (beginP r src))) := by
  have hb0 := al1 W (.cells #[.int .u8 0, .int .u8 0, .int .u32 0, .int .u32 0, .slice none 0 0, .slice none 0 0, .bool false, .int .u32 0, .int .u8 0, .int .u8 0, .int .u32 0, .slice none 0 0, .int .u32 0] 28)
  have HC := Lib.hid (show Calls _ _ _ _ (RepSure _ (sureOf (refuseB r src) (beginP r src))) from tbegun_any (.agg (repR r lr)) r src (W.alloc (.cells #[.int .u8 0, .int .u8 0, .int .u32 0, .int .u32 0, .slice none 0 0, .slice none 0 0, .bool false, .int .u32 0, .int .u8 0, .int .u8 0, .int .u32 0, .slice none 0 0, .int .u32 0] 28)) (hv.later hb0) hsrc h1 h2 h3)
  generalize sureOf (refuseB r src) (beginP r src) = res at HC ⊢
  have BO := Lib.hid (Blk.new W #[.int .u8 0, .int .u8 0, .int .u32 0, .int .u32 0, .slice none 0 0, .slice none 0 0, .bool false, .int .u32 0, .int .u8 0, .int .u8 0, .int .u32 0, .slice none 0 0, .int .u32 0] 28)
  have BR := Lib.hid (hbr.keep hb0)
  have c1 := (hb0.cell (p := ⟨g1, 0, none⟩) (World.block_lt_of_cell? W ⟨g1, 0, none⟩ hc1)).trans hc1
  have hi := rep_row_size r lr
  have hl : W.heap.size < (W.alloc (.cells #[.int .u8 0, .int .u8 0, .int .u32 0, .int .u32 0, .slice none 0 0, .slice none 0 0, .bool false, .int .u32 0, .int .u8 0, .int .u8 0, .int .u32 0, .slice none 0 0, .int .u32 0] 28)).heap.size := by simp
  clear hbr hc1 hv h1 h2 h3
  generalize repR r lr = cs at HC BR hi ⊢
  go_enter Tryz.func45, Tryz.ntmps45
  go_upto_region 1 with fail
  have HB := Lib.hid hb0; clear hb0
  generalize W.alloc (.cells #[.int .u8 0, .int .u8 0, .int .u32 0, .int .u32 0, .slice none 0 0, .slice none 0 0, .bool false, .int .u32 0, .int .u8 0, .int .u8 0, .int .u32 0, .slice none 0 0, .int .u32 0] 28) = W0 at HC BO BR HB c1 hl ⊢
  go_wp2_with (refine wpList_load_row rfl _ _ rfl g rfl 28 cs (0, 0) _ BR.out.at_ Tryz.underlying28 rfl hi ?_)
  refine (HC.out).mono ?_
  cases res with
  | error c =>
    rintro e w1 ⟨rfl, hb⟩
    exact ⟨rfl, rfl, HB.out.trans (hb.mono HB.out.size)⟩
  | ok x =>
    rintro e w1 ⟨v, rfl, hv, hav, hb⟩
    obtain ⟨c2, rfl, hs, h1⟩ := hv.row
    have hi2 : (Tryz.prog.info? 28).map (·.size) = some c2.size := by rw [hs]; exact rep_size1
    have BO := Lib.hid (BO.out.keep hb)
    have HV := Lib.hid (hv.rowOff (g := W.heap.size) (hav.mono fun k hk => by omega) c2)
    have HA := Lib.hid (hav.mono fun k (hk : W0.heap.size ≤ k) => (by omega : W.heap.size ≤ k))
    have HB := Lib.hid (HB.out.trans (hb.mono HB.out.size)); clear hb hv hav
    have hz : (w1.setRow W.heap.size c2).heap.size = w1.heap.size := by simp [World.setRow]
    rw [← hz] at HV
    clear hz
    go_wp2_with (refine wpList_store_row rfl _ _ _ rfl W.heap.size c2 rfl rfl 28 _ BO.out.at_ hi2 (by rw [hs]; rfl) h1 ?_)
    refine bodyPost_ret (v := .agg c2) (results_cell_row Tryz.results45 _ _ (W.heap.size) 28 c2 (0, 0) _ rfl (BO.out.row c2).at_ Tryz.underlying28 rfl hi2) rfl ?_
    exact ⟨_, rfl, HV.out, HA.out, below_setRow1 (B := W.heap.size) (r := W.heap.size) HB.out (Nat.le_refl _) _⟩

set_option maxHeartbeats 8000000 in
set_option maxRecDepth 100000 in
theorem tAgainC_any (r : Rp) (lr : Ls) (W : World) (g : Nat) (hbr : Blk W g (repR r lr) 28) (hv : RpV W W.heap.size (.agg (repR r lr)) r)
    (h1 : r.know.length ≤ 1000) (h2 : r.held.length ≤ 1000) (h3 : r.ses.offer.length ≤ 1000) :
    Calls Tryz.prog 53 #[.pointer (some ⟨g, 0, none⟩)] W (NoteSure W (sureOf (refuseF r) (pullP r))) := by
  have hb0 := al1 W (.cells #[.int .i64 0, .int .u8 0, .int .u8 0, .int .u32 0, .int .u8 0, .int .u8 0, .slice none 0 0, .int .u32 0, .slice none 0 0, .int .u8 0, .bool false, .slice none 0 0] 30)
  have HF := Lib.hid (tfetching_any r lr (W.alloc (.cells #[.int .i64 0, .int .u8 0, .int .u8 0, .int .u32 0, .int .u8 0, .int .u8 0, .slice none 0 0, .int .u32 0, .slice none 0 0, .int .u8 0, .bool false, .slice none 0 0] 30)) (hv.later hb0) h1 h2 h3)
  have HV0 := Lib.hid (hv.later hb0)
  have H1 := Lib.hid (show r.know.length ≤ 10000 ∧ r.held.length ≤ 10000 ∧ r.ses.offer.length ≤ 10000 by omega)
  generalize refuseF r = D at HF ⊢
  have BO := Lib.hid (Blk.new W #[.int .i64 0, .int .u8 0, .int .u8 0, .int .u32 0, .int .u8 0, .int .u8 0, .slice none 0 0, .int .u32 0, .slice none 0 0, .int .u8 0, .bool false, .slice none 0 0] 30)
  have BR := Lib.hid (hbr.keep hb0)
  have hi := rep_row_size r lr
  have hl : W.heap.size < (W.alloc (.cells #[.int .i64 0, .int .u8 0, .int .u8 0, .int .u32 0, .int .u8 0, .int .u8 0, .slice none 0 0, .int .u32 0, .slice none 0 0, .int .u8 0, .bool false, .slice none 0 0] 30)).heap.size := by simp
  clear hbr hv h1 h2 h3
  obtain ⟨cs, hcs⟩ : ∃ cs, repR r lr = cs := ⟨_, rfl⟩
  rw [hcs] at HF BR hi HV0
  go_enter Tryz.func53, Tryz.ntmps53
  go_upto_region 1 with fail
  have HB := Lib.hid hb0; clear hb0
  generalize W.alloc (.cells #[.int .i64 0, .int .u8 0, .int .u8 0, .int .u32 0, .int .u8 0, .int .u8 0, .slice none 0 0, .int .u32 0, .slice none 0 0, .int .u8 0, .bool false, .slice none 0 0] 30) = W0 at HF HV0 BO BR HB hl ⊢
  go_wp2_with (refine wpList_load_row rfl _ _ rfl g rfl 28 cs (0, 0) _ BR.out.at_ Tryz.underlying28 rfl hi ?_)
  refine (HF.out).mono ?_
  cases D with
  | some c =>
    rintro e w1 ⟨rfl, hb⟩
    exact ⟨rfl, rfl, HB.out.trans (hb.mono HB.out.size)⟩
  | none =>
    rintro e w1 ⟨rfl, hb⟩
    have BO := Lib.hid (BO.out.keep hb)
    have HV0 := Lib.hid (HV0.out.later hb)
    have hl : W.heap.size < w1.heap.size := Nat.lt_of_lt_of_le hl hb.size
    have HB := Lib.hid (HB.out.trans (hb.mono HB.out.size)); clear hb BR HF
    have HC := Lib.hid (tpullOf_any _ r w1 HV0.out H1.out.1)
    go_wp2_with fail
    refine (HC.out).mono ?_
    rintro e w2 ⟨v2, rfl, hv2, ha2, hb⟩
    have BO := Lib.hid (BO.out.keep hb)
    have HB := Lib.hid (HB.out.trans (hb.mono HB.out.size))
    have ha2 := ha2.mono fun k (hk : w1.heap.size ≤ k) => (by omega : W.heap.size < k)
    clear hb
    obtain ⟨c2, rfl, hs, h1⟩ := hv2.row
    have hi2 : (Tryz.prog.info? 30).map (·.size) = some c2.size := by rw [hs]; exact note_size1
    have HV := Lib.hid (hv2.rowOff (g := W.heap.size) (ha2.mono fun k hk => by omega) c2)
    have HA := Lib.hid (ha2.mono fun k (hk : W.heap.size < k) => (by omega : W.heap.size ≤ k))
    have hz : (w2.setRow W.heap.size c2).heap.size = w2.heap.size := by simp [World.setRow]
    rw [← hz] at HV
    clear hz hv2 ha2
    go_wp2_with (refine wpList_store_row rfl _ _ _ rfl W.heap.size c2 rfl rfl 30 _ BO.out.at_ hi2 (by rw [hs]; rfl) h1 ?_)
    refine bodyPost_ret (v := .agg c2) (results_cell_row Tryz.results53 _ _ (W.heap.size) 30 c2 (0, 0) _ rfl (BO.out.row c2).at_ Tryz.underlying30 rfl hi2) rfl ?_
    exact ⟨_, rfl, HV.out, HA.out, below_setRow1 (B := W.heap.size) (r := W.heap.size) HB.out (Nat.le_refl _) _⟩

set_option maxHeartbeats 8000000 in
set_option maxRecDepth 100000 in
theorem tQuitC_any (r : Rp) (lr : Ls) (W : World) (g : Nat) (hbr : Blk W g (repR r lr) 28) (hv : RpV W W.heap.size (.agg (repR r lr)) r)
    (h1 : r.know.length ≤ 1000) (h2 : r.held.length ≤ 1000) (h3 : r.ses.offer.length ≤ 1000) :
    Calls Tryz.prog 55 #[.pointer (some ⟨g, 0, none⟩)] W (RepSure W (sureOf (refuseF r) (offP r))) := by
  have hb0 := al1 W (.cells #[.int .u8 0, .int .u8 0, .int .u32 0, .int .u32 0, .slice none 0 0, .slice none 0 0, .bool false, .int .u32 0, .int .u8 0, .int .u8 0, .int .u32 0, .slice none 0 0, .int .u32 0] 28)
  have HF := Lib.hid (tfetching_any r lr (W.alloc (.cells #[.int .u8 0, .int .u8 0, .int .u32 0, .int .u32 0, .slice none 0 0, .slice none 0 0, .bool false, .int .u32 0, .int .u8 0, .int .u8 0, .int .u32 0, .slice none 0 0, .int .u32 0] 28)) (hv.later hb0) h1 h2 h3)
  have HV0 := Lib.hid (hv.later hb0)
  have H1 := Lib.hid (show r.know.length ≤ 10000 ∧ r.held.length ≤ 10000 ∧ r.ses.offer.length ≤ 10000 by omega)
  generalize refuseF r = D at HF ⊢
  have BO := Lib.hid (Blk.new W #[.int .u8 0, .int .u8 0, .int .u32 0, .int .u32 0, .slice none 0 0, .slice none 0 0, .bool false, .int .u32 0, .int .u8 0, .int .u8 0, .int .u32 0, .slice none 0 0, .int .u32 0] 28)
  have BR := Lib.hid (hbr.keep hb0)
  have hi := rep_row_size r lr
  have hl : W.heap.size < (W.alloc (.cells #[.int .u8 0, .int .u8 0, .int .u32 0, .int .u32 0, .slice none 0 0, .slice none 0 0, .bool false, .int .u32 0, .int .u8 0, .int .u8 0, .int .u32 0, .slice none 0 0, .int .u32 0] 28)).heap.size := by simp
  clear hbr hv h1 h2 h3
  obtain ⟨cs, hcs⟩ : ∃ cs, repR r lr = cs := ⟨_, rfl⟩
  rw [hcs] at HF BR hi HV0
  go_enter Tryz.func55, Tryz.ntmps55
  go_upto_region 1 with fail
  have HB := Lib.hid hb0; clear hb0
  generalize W.alloc (.cells #[.int .u8 0, .int .u8 0, .int .u32 0, .int .u32 0, .slice none 0 0, .slice none 0 0, .bool false, .int .u32 0, .int .u8 0, .int .u8 0, .int .u32 0, .slice none 0 0, .int .u32 0] 28) = W0 at HF HV0 BO BR HB hl ⊢
  go_wp2_with (refine wpList_load_row rfl _ _ rfl g rfl 28 cs (0, 0) _ BR.out.at_ Tryz.underlying28 rfl hi ?_)
  refine (HF.out).mono ?_
  cases D with
  | some c =>
    rintro e w1 ⟨rfl, hb⟩
    exact ⟨rfl, rfl, HB.out.trans (hb.mono HB.out.size)⟩
  | none =>
    rintro e w1 ⟨rfl, hb⟩
    have BO := Lib.hid (BO.out.keep hb)
    have HV0 := Lib.hid (HV0.out.later hb)
    have hl : W.heap.size < w1.heap.size := Nat.lt_of_lt_of_le hl hb.size
    have HB := Lib.hid (HB.out.trans (hb.mono HB.out.size)); clear hb BR HF
    have HC := Lib.hid (tcloned_any _ r w1 HV0.out H1.out.1 H1.out.2.1 H1.out.2.2)
    go_wp2_with fail
    refine (HC.out).mono ?_
    rintro e w2 ⟨v2, rfl, hv2, ha2, hb⟩
    have BO := Lib.hid (BO.out.keep hb)
    have HB := Lib.hid (HB.out.trans (hb.mono HB.out.size))
    have HI := Lib.hid (tidle_any _ v2 r w2 hv2 (ha2.mono fun k (hk : w1.heap.size ≤ k) => (by omega : W.heap.size < k)))
    clear hb hv2 ha2
    go_wp2_with fail
    refine (HI.out).mono ?_
    rintro e w3 ⟨v3, rfl, hv3, ha3, hb⟩
    have BO := Lib.hid (BO.out.keep hb)
    have HB := Lib.hid (HB.out.trans (hb.mono HB.out.size))
    clear hb
    obtain ⟨c2, rfl, hs, h1⟩ := hv3.row
    have hi2 : (Tryz.prog.info? 28).map (·.size) = some c2.size := by rw [hs]; exact rep_size1
    have HV := Lib.hid (hv3.rowOff (g := W.heap.size) (ha3.mono fun k hk => by omega) c2)
    have HA := Lib.hid (ha3.mono fun k (hk : W.heap.size < k) => (by omega : W.heap.size ≤ k))
    have hz : (w3.setRow W.heap.size c2).heap.size = w3.heap.size := by simp [World.setRow]
    rw [← hz] at HV
    clear hz hv3 ha3
    go_wp2_with (refine wpList_store_row rfl _ _ _ rfl W.heap.size c2 rfl rfl 28 _ BO.out.at_ hi2 (by rw [hs]; rfl) h1 ?_)
    refine bodyPost_ret (v := .agg c2) (results_cell_row Tryz.results55 _ _ (W.heap.size) 28 c2 (0, 0) _ rfl (BO.out.row c2).at_ Tryz.underlying28 rfl hi2) rfl ?_
    exact ⟨_, rfl, HV.out, HA.out, below_setRow1 (B := W.heap.size) (r := W.heap.size) HB.out (Nat.le_refl _) _⟩
end Go.Proofs.YtfjaeohfigcciabGreatDoor

namespace Go.Proofs.YtfjaeohfigcciabGreatDoor
open Go.RowKit

/-- entries of the call's own, or a code, come back -/
def TakeOwn (w : World) (res : Option (List En)) (e : Ending) (w' : World) : Prop :=
  match res with
  | some l => ∃ v, e = .returned (.tuple #[v, .nilIface]) ∧ (EOwn w' w.heap.size v l ∧ ESl w' w'.heap.size v l) ∧ Below w.heap.size w w'
  | none => e = .returned (.tuple #[.slice none 0 0, .iface 74 (.int .i64 9)]) ∧ Below w.heap.size w w'

set_option maxHeartbeats 1000000 in
theorem Take_wrong1O (v : Value) (zs : List En) (x : En) (w : World) (h : ESl w w.heap.size v zs) (hl : zs.length ≤ 9000) (hr : erightB zs = false) :
    Calls Tryz.prog 108 #[v, x.agg] w (TakeOwn w none) := by
  simp only [En.agg]
  have hq := iRight_any _ v zs (h.later (al1 w (.cells #[.int .u8 x.id, .int .u8 x.rep, .int .u32 x.seq, .int .u32 x.stamp, .int .i64 x.kind, .int .u8 x.cls, .int .u32 x.val] 62))) (by omega)
  rw [hr] at hq
  have HR := Lib.hid hq; clear hq hr h
  go_enter Tryz.func108, Tryz.ntmps108
  go_wp2_with fail
  refine (HR.out).mono ?_
  rintro e w1 ⟨rfl, hb1⟩
  go_wp2_with fail
  go_ret2
  exact ⟨rfl, (al1 w _).trans (hb1.mono (by simp))⟩

set_option maxHeartbeats 1000000 in
theorem Take_wrong2O (v : Value) (zs : List En) (x : En) (w : World) (h : ESl w w.heap.size v zs) (hl : zs.length ≤ 9000) (hx : x.ok) (hr : erightB zs = true) (he : reB x = false) :
    Calls Tryz.prog 108 #[v, x.agg] w (TakeOwn w none) := by
  have he' := fun W => irightEntry_any x W hx
  simp only [En.agg] at he' ⊢
  rw [he] at he'
  have HE := Lib.hid he'; clear he' he hx
  have hq := iRight_any _ v zs (h.later (al1 w (.cells #[.int .u8 x.id, .int .u8 x.rep, .int .u32 x.seq, .int .u32 x.stamp, .int .i64 x.kind, .int .u8 x.cls, .int .u32 x.val] 62))) (by omega)
  rw [hr] at hq
  have HR := Lib.hid hq; clear hq hr h
  have HN := Lib.hid (new_entry w x 62)
  go_enter Tryz.func108, Tryz.ntmps108
  go_wp2_with fail
  refine (HR.out).mono ?_
  rintro e w1 ⟨rfl, hb1⟩
  obtain ⟨c0, c1, c2, c3, c4, c5, c6⟩ := (HN.out.keep hb1 (by simp)).all0
  have HB := Lib.hid ((al1 w _).trans (hb1.mono (by simp)))
  clear hb1 HN
  go_wp2_with fail
  refine (HE.out _).mono ?_
  rintro e w2 ⟨rfl, hb2⟩
  go_wp2_with fail
  go_ret2
  exact ⟨rfl, HB.out.trans (hb2.mono HB.out.size)⟩

set_option maxRecDepth 100000 in
set_option maxHeartbeats 2000000 in
theorem Take_rightO (v : Value) (zs : List En) (x : En) (w : World) (h : ESl w w.heap.size v zs) (hl : zs.length ≤ 9000) (hx : x.ok) (hr : erightB zs = true) (he : reB x = true) :
    Calls Tryz.prog 108 #[v, x.agg] w (TakeOwn w (some (takeL zs x))) := by
  have hm : Tryz.prog.follows .mixedOrders = true := by kernel_rfl
  have HM := Lib.hid hm; clear hm
  have he' := fun W => irightEntry_any x W hx
  have hok := h.okAll
  have htok := takeL_ok hok hx
  have hmo := right_mono hr x.id
  simp only [En.agg] at he' ⊢
  rw [he] at he'
  have HE := Lib.hid he'; clear he' he
  have HMO := Lib.hid hmo; clear hmo
  have HXO := Lib.hid hx; clear hx
  have HOK := Lib.hid hok; clear hok
  have HTK := Lib.hid htok; clear htok
  have hq := iRight_any _ v zs (h.later (al1 w (.cells #[.int .u8 x.id, .int .u8 x.rep, .int .u32 x.seq, .int .u32 x.stamp, .int .i64 x.kind, .int .u8 x.cls, .int .u32 x.val] 62))) (by omega)
  rw [hr] at hq
  have HR := Lib.hid hq; clear hq hr
  have HH := Lib.hid h; clear h
  have HN := Lib.hid (new_entry w x 62)
  obtain ⟨T, hT⟩ : ∃ T, takeL zs x = T := ⟨_, rfl⟩
  rw [hT]
  rw [hT] at HTK
  have HT := Lib.hid hT; clear hT
  have hp := posE_le zs x.id
  go_enter Tryz.func108, Tryz.ntmps108
  go_wp2_with fail
  refine (HR.out).mono ?_
  rintro e w1 ⟨rfl, hb1⟩
  obtain ⟨c0, c1, c2, c3, c4, c5, c6⟩ := (HN.out.keep hb1 (by simp)).all0
  have HN1 := Lib.hid (HN.out.keep hb1 (by simp))
  have HB1 := Lib.hid ((al1 w _).trans (hb1.mono (by simp)))
  have hs1 : w.heap.size < w1.heap.size := by have := hb1.size; simp at this; omega
  clear hb1 HN HR
  go_wp2_with fail
  refine (HE.out _).mono ?_
  rintro e w2 ⟨rfl, hb2⟩
  have HB2 := Lib.hid (HB1.out.trans (hb2.mono HB1.out.size))
  have HN2 := Lib.hid (HN1.out.keep hb2 hs1)
  have hs2 : w.heap.size < w2.heap.size := by have := hb2.size; omega
  clear hb2 HN1 HB1 HE c0 c1 c2 c3 c4 c5 c6
  have HC := Lib.hid (Clone_any v zs w2 (HH.out.later HB2.out) (by omega))
  go_wp2_with fail
  refine (HC.out).mono ?_
  rintro e w3 ⟨v3, rfl, ho3, hb3⟩
  have HO3 := Lib.hid ho3; clear ho3
  have HB3 := Lib.hid (HB2.out.trans (hb3.mono HB2.out.size))
  have HN3 := Lib.hid (HN2.out.keep hb3 hs2)
  have hs3 : w2.heap.size ≤ w3.heap.size := hb3.size
  obtain ⟨c0, c1, c2, c3, c4, c5, c6⟩ := HN3.out.all0
  clear hb3 HC HN2
  have HP := Lib.hid (place_any x.id v3 zs w3 (HO3.out.sl HOK.out) (by omega) HMO.out)
  obtain ⟨p, hpe⟩ : ∃ p, posE zs x.id = p := ⟨_, rfl⟩
  rw [hpe] at HP hp
  have HPE := Lib.hid hpe; clear hpe
  obtain ⟨fd, hfd⟩ : ∃ fd, (decide (p < zs.length) && decide (zs[p]!.id = x.id)) = fd := ⟨_, rfl⟩
  rw [hfd] at HP
  have HFD := Lib.hid hfd; clear hfd
  go_wp2_with fail
  refine (HP.out).mono ?_
  rintro e w4 ⟨rfl, hb4⟩
  have HO4 := Lib.hid (HO3.out.below hb4)
  have HB4 := Lib.hid (HB3.out.trans (hb4.mono HB3.out.size))
  have HN4 := Lib.hid (HN3.out.keep hb4 (by omega))
  have hs4 : w3.heap.size ≤ w4.heap.size := hb4.size
  clear hb4 HP HN3 HO3 c0 c1 c2 c3 c4 c5 c6
  obtain ⟨c0, c1, c2, c3, c4, c5, c6⟩ := HN4.out.all0
  cases fd
  · -- not there: it is laid in
    have hown : v3.ownBlock ≠ some w4.heap.size := fun h => by have := HO4.out.lt _ h; omega
    have HI := Lib.hid (Insert_any v3 zs p w4.heap.size w2.heap.size x _ (HO4.out.alloc (.cells #[.int .u8 x.id, .int .u8 x.rep, .int .u32 x.seq, .int .u32 x.stamp, .int .i64 x.kind, .int .u8 x.cls, .int .u32 x.val] 62)) (by simp; omega) (oneNew_alloc w4 x) hown HXO.out hl hp)
    clear hown
    go_wp2_with fail
    refine (HI.out).mono ?_
    rintro e w5 ⟨v5, rfl, ho5, hb5⟩
    have HO5 := Lib.hid ho5; clear ho5
    have HB5 := Lib.hid ((HB4.out.alloc HB4.out.size (.cells #[.int .u8 x.id, .int .u8 x.rep, .int .u32 x.seq, .int .u32 x.stamp, .int .i64 x.kind, .int .u8 x.cls, .int .u32 x.val] 62)).trans (hb5.mono (by omega)))
    clear hb5 HI
    go_wp2_with fail
    go_ret2
    have ht : T = insL zs p x := by
      rw [← HT.out, takeL, HPE.out, HFD.out]
      rfl
    refine ⟨v5, rfl, ?_, HB5.out⟩
    have := HTK.out
    rw [ht] at this ⊢
    exact ⟨HO5.out.mono HB2.out.size, HO5.out.sl this⟩
  · have hpl : p < zs.length := by
      have := HFD.out
      simp at this
      exact this.1
    have hyk : zs[p]? = some zs[p] := List.getElem?_eq_getElem hpl
    generalize zs[p] = y at hyk
    have HY := Lib.hid (egetBang_of hyk)
    obtain ⟨A, cc, rfl, _, hA⟩ := HO4.out.form
    obtain ⟨g, rfl, hg1, hg2⟩ := hA (by intro h; simp [h] at hpl)
    have HYA := Lib.hid (HO4.out.cell rfl hyk)
    clear hyk hA
    have m0 := fun p : Later w4 => (HN4.out.later (by omega) p).all0.1
    have m1 := fun p : Later w4 => (HN4.out.later (by omega) p).all0.2.1
    have m2 := fun p : Later w4 => (HN4.out.later (by omega) p).all0.2.2.1
    have m3 := fun p : Later w4 => (HN4.out.later (by omega) p).all0.2.2.2.1
    have m4 := fun p : Later w4 => (HN4.out.later (by omega) p).all0.2.2.2.2.1
    have m5 := fun p : Later w4 => (HN4.out.later (by omega) p).all0.2.2.2.2.2.1
    have m6 := fun p : Later w4 => (HN4.out.later (by omega) p).all0.2.2.2.2.2.2
    have y0 := fun p : Later w4 => (HYA.out.later hg2 p).all.1
    have y1 := fun p : Later w4 => (HYA.out.later hg2 p).all.2.1
    have y2 := fun p : Later w4 => (HYA.out.later hg2 p).all.2.2.1
    have y3 := fun p : Later w4 => (HYA.out.later hg2 p).all.2.2.2.1
    have y4 := fun p : Later w4 => (HYA.out.later hg2 p).all.2.2.2.2.1
    have y5 := fun p : Later w4 => (HYA.out.later hg2 p).all.2.2.2.2.2.1
    have y6 := fun p : Later w4 => (HYA.out.later hg2 p).all.2.2.2.2.2.2
    have r1 := fun W => replaces_any x y W
    simp only [En.agg] at r1
    obtain ⟨rp, hrp⟩ : ∃ rp, repB x y = rp := ⟨_, rfl⟩
    rw [hrp] at r1
    have HRP := Lib.hid hrp; clear hrp
    have R1 := Lib.hid r1; clear r1
    go_wp2_with fail
    have hm : Tryz.prog.follows .mixedOrders = true := HM.out
    refine wp_region_later hm (by kernel_rfl) ?_
    repeat (any_goals (first | go_big_quiet_step (first | (go_at_call 133; exact Calls.later (R1.out _))) | quiet_step (first | (go_at_call 133; exact Calls.later (R1.out _)))))
    refine wpQuiet_nil ?_
    intro wp hw'
    obtain ⟨lp, hlp⟩ := hw'
    have hbp := lp.bel
    rw [← hlp] at hbp
    clear hlp lp m0 m1 m2 m3 m4 m5 m6 y0 y1 y2 y3 y4 y5 y6 c0 c1 c2 c3 c4 c5 c6
    have HO5 := Lib.hid (HO4.out.below hbp)
    have HB5 := Lib.hid (HB4.out.trans (hbp.mono HB4.out.size))
    obtain ⟨c0, c1, c2, c3, c4, c5, c6⟩ := (HN4.out.keep hbp (by omega)).all0
    obtain ⟨d0, d1, d2, d3, d4, d5, d6⟩ := (HYA.out.keep hbp hg2).all
    have hs5 : w4.heap.size ≤ wp.heap.size := hbp.size
    have f := fun j => frozen_own HO5.out j
    clear hbp hm
    cases rp
    · clear f
      go_wp2_with fail
      go_ret2
      have ht : T = zs := by
        rw [← HT.out, takeL, HPE.out, HFD.out, HY.out, HRP.out]
        rfl
      refine ⟨_, rfl, ?_, HB5.out⟩
      have := HTK.out
      rw [ht] at this ⊢
      exact ⟨HO5.out.mono HB2.out.size, HO5.out.sl this⟩
    · go_wp2_with fail
      go_ret2
      have ht : T = zs.set p x := by
        rw [← HT.out, takeL, HPE.out, HFD.out, HY.out, HRP.out]
        rfl
      obtain ⟨q1, q2⟩ := HO5.out.put hpl x hg1
      refine ⟨_, rfl, ?_, HB5.out.trans (q2.mono (by omega))⟩
      have := HTK.out
      rw [ht] at this ⊢
      have q3 := q1.sl this
      exact ⟨q1.mono HB2.out.size, q3⟩

theorem Take_anyO (v : Value) (zs : List En) (x : En) (w : World) (h : ESl w w.heap.size v zs) (hl : zs.length ≤ 9000) (hx : x.ok) :
    Calls Tryz.prog 108 #[v, x.agg] w (TakeOwn w (takeR zs x)) := by
  unfold takeR
  by_cases hr : erightB zs = true
  · by_cases he : reB x = true
    · rw [if_pos ⟨hr, he⟩]; exact Take_rightO v zs x w h hl hx hr he
    · rw [if_neg (fun h => he h.2)]; exact Take_wrong2O v zs x w h hl hx hr (by simpa using he)
  · rw [if_neg (fun h => hr h.1)]; exact Take_wrong1O v zs x w h hl (by simpa using hr)
end Go.Proofs.YtfjaeohfigcciabGreatDoor

namespace Go.Proofs.YtfjaeohfigcciabGreatDoor
open Go.RowKit Go.Sort Go.Shelf

theorem Grow_any (n : Nat) (w : World) (hn : n ≤ 1000) : Calls Tryz.prog 147 #[.slice none 0 0, .int .i64 n] w (OwnPost w []) := by
  rcases Nat.eq_zero_or_pos n with h0 | h0
  · subst h0
    have hcon := Any8.slices_Grow_room Tryz.lGrow none 0 0 0 w (Nat.le_refl _) (by omega) (by omega) (by omega)
    exact hcon.mono fun e w' ⟨he, hw⟩ => ⟨_, he, by subst hw; exact ⟨Own.nil _ _, Below.refl _ _⟩⟩
  · obtain ⟨i0, hi, hz0, hz1, hz2⟩ := info_parts infoRun
    have hcon := Any8.slices_Grow_grow Tryz.lGrow i0 _ hi hz0 (by omega) none 0 0 n [] w (Nat.le_refl _) (by omega) (by rw [hz2]; omega) (by omega) (by simp) (fun _ => rfl) (fun a h => by cases h)
    refine hcon.mono fun e w' ⟨he, hw⟩ => ⟨_, he, ?_, ?_⟩
    · subst hw
      have h1 := grownCap_ge w (0 + n) 0 67
      have h2 := grownCap_le_maxLen w (0 + n) 0 67 (by unfold maxLen; omega)
      exact World.ownsRow_made (base := w.heap.size) (e := 67) (size := 3) w.drew _ _ (by simp) h2 (by
        simp only [Array.size_append, List.size_toArray, size_zeroCells, List.length_nil]
        show 0 + (0 + n - 0) * 3 + (grownCap w (0 + n) 0 67 - (0 + n)) * 3 = grownCap w (0 + n) 0 67 * 3
        omega)
    · subst hw
      exact ((Below.refl _ w).drew).alloc (by simp) _

theorem Grow_int (q : Int) (w : World) (h0 : 0 ≤ q) (h1 : q ≤ 1000) : Calls Tryz.prog 147 #[.slice none 0 0, .int .i64 q] w (OwnPost w []) := by
  obtain ⟨n, rfl⟩ := Int.eq_ofNat_of_zero_le h0
  exact Grow_any n w (by omega)

set_option maxHeartbeats 2000000 in
theorem Concat_any (va vb : Value) (zs ys : List Rn) (gs : Nat) (w : World) (hg : gs < w.heap.size) (c0 : w.cell? ⟨gs, 0, none⟩ = some va) (c1 : w.cell? ⟨gs, 1, none⟩ = some vb)
    (ha : Sl w w.heap.size va zs) (hb : Sl w w.heap.size vb ys) (hz : zs.length ≤ 100) (hy : ys.length ≤ 100) :
    Calls Tryz.prog 134 #[.slice (some ⟨gs, 0, none⟩) 2 2] w (OwnPost w (zs ++ ys)) := by
  have HA := Lib.hid ha
  have HB := Lib.hid hb
  obtain ⟨A1, k1, rfl, _, _, _⟩ := ha
  obtain ⟨A2, k2, rfl, _, _, _⟩ := hb
  go_enter Tryz.func134, Tryz.ntmps134
  go_wp2
  refine wp_loop_rounds 3 ?_
  rw [rounds_succ]
  go_wp2
  rw [rounds_succ]
  go_wp2
  rw [rounds_succ]
  go_wp2_with fail
  refine (Grow_int _ _ (by omega) (by omega)).mono ?_
  rintro e w1 ⟨v6, rfl, ho, hbl⟩
  have d0 := (hbl.cell (p := ⟨gs, 0, none⟩) hg).trans c0
  have d1 := (hbl.cell (p := ⟨gs, 1, none⟩) hg).trans c1
  have hz1 := hbl.size
  have HBL := Lib.hid hbl; clear hbl
  clear c0 c1
  go_wp2_with fail
  refine wp_loop_rounds 3 ?_
  rw [rounds_succ]
  go_wp2_with (at_builtin; (refine append_runs rfl _ _ rfl w.heap.size _ [] rfl ho _ _ zs rfl (HA.out.below HBL.out) (by simp; omega) hz1 ?_); intro v7 w2 ho2 hg2)
  have hb2 : Below w.heap.size w w2 := grown_below HBL.out ho hg2 (Nat.le_refl _) hz1
  have e0 := (hb2.cell (p := ⟨gs, 0, none⟩) hg).trans ((HBL.out.cell (p := ⟨gs, 0, none⟩) hg).symm.trans d0)
  have e1 := (hb2.cell (p := ⟨gs, 1, none⟩) hg).trans ((HBL.out.cell (p := ⟨gs, 1, none⟩) hg).symm.trans d1)
  have hz2 := hb2.size
  have HB2 := Lib.hid hb2; clear hb2
  rw [List.nil_append] at ho2
  clear d0 d1
  rw [rounds_succ]
  go_wp2_with (at_builtin; (refine append_runs rfl _ _ rfl w.heap.size _ zs rfl ho2 _ _ ys rfl (HB.out.below HB2.out) (by omega) hz2 ?_); intro v8 w3 ho3 hg3)
  have hb3 : Below w.heap.size w w3 := grown_below HB2.out ho2 hg3 (Nat.le_refl _) hz2
  have HB3 := Lib.hid hb3; clear hb3
  have HO3 := Lib.hid ho3; clear ho3
  clear e0 e1 ho ho2 hg2 hg3
  rw [rounds_succ]
  go_wp2
  go_ret
  exact ⟨v8, rfl, HO3.out, HB3.out⟩
end Go.Proofs.YtfjaeohfigcciabGreatDoor

namespace Go.Proofs.YtfjaeohfigcciabGreatDoor
open Go.RowKit Go.Sort Go.Shelf

def ltR (x y : Rn) : Prop := x.r < y.r ∨ (x.r = y.r ∧ x.lo < y.lo)
instance : DecidableRel ltR := fun x y => by unfold ltR; infer_instance
theorem lt_cmpR (x y : Rn) : ltOf cmpR x y = decide (ltR x y) := by
  unfold ltOf cmpR cmpI ltR
  by_cases h : x.r = y.r
  · simp only [h, if_true]
    by_cases h1 : x.lo < y.lo
    · simp [h1]
    · by_cases h2 : y.lo < x.lo <;> simp [h1, h2]
  · simp only [h, if_false]
    by_cases h1 : x.r < y.r
    · simp [h1]
    · by_cases h2 : y.r < x.r <;> simp [h1, h2]
theorem lt_iff (x y : Rn) : ltOf cmpR x y = true ↔ x.r < y.r ∨ (x.r = y.r ∧ x.lo < y.lo) := by
  rw [lt_cmpR, decide_eq_true_iff]; exact Iff.rfl
theorem nlt_iff (x y : Rn) : ltOf cmpR x y = false ↔ ¬ (x.r < y.r ∨ (x.r = y.r ∧ x.lo < y.lo)) := by
  rw [← Bool.not_eq_true, lt_iff]
theorem swoR : SWO (ltOf cmpR) where
  irrefl x := by rw [nlt_iff]; omega
  trans x y z h1 h2 := by
    rw [lt_iff] at h1 h2 ⊢
    omega
  ntrans x y z h1 h2 := by
    rw [nlt_iff] at h1 h2 ⊢
    omega

theorem cmpLaysR (blk off size : Nat) (w : World) : CmpLays Tryz.prog 136 #[] Rn.enc 3 cmpR blk off size w := fun _ _ _ _ x y =>
  (ordC_any x.r x.lo x.hi y.r y.lo y.hi _).mono fun _ _ ⟨he, hw⟩ => ⟨he, 0, _, hw.trans ((alloc_eq_grow _ _).trans ((congrArg (fun u => grow u _) (alloc_eq_grow _ _)).trans (grow_grow _ _ _)))⟩

theorem enc_get (x : Rn) (c : Nat) (hc : c < 3) : ∃ u, x.enc[c]? = some u ∧ x.enc[c]! = u := by
  match c, hc with
  | 0, _ => exact ⟨_, rfl, rfl⟩
  | 1, _ => exact ⟨_, rfl, rfl⟩
  | 2, _ => exact ⟨_, rfl, rfl⟩

theorem Own.holds {w : World} {base g c n : Nat} {zs : List Rn} (h : Own w base (.slice (some ⟨g, 0, none⟩) n c) zs) (hn : n = zs.length) : HoldsK Rn.enc 3 w g 0 zs.toArray := by
  intro t ht
  rw [size_flatK] at ht
  simp only [List.size_toArray] at ht
  refine ⟨?_, h.frozen hn _⟩
  rw [get_flatK _ _ _ t (by simpa using ht)]
  have hj : t / 3 < zs.length := by omega
  have hc := World.ownsRow.cellAt (by subst hn; exact h) t (by omega)
  have hg := flat_get zs (t / 3) (t % 3) zs[t / 3] (List.getElem?_eq_getElem hj) (by omega)
  rw [show t / 3 * 3 + t % 3 = t by omega] at hg
  obtain ⟨u, hu1, hu2⟩ := enc_get zs[t / 3] (t % 3) (by omega)
  rw [Nat.zero_add, hc, hg, hu1]
  have hz : zs.toArray[t / 3]! = zs[t / 3] := by simp [hj]
  rw [hz, hu2]
  rfl

theorem HoldsK.run {w : World} {g : Nat} {d : Array Rn} (h : HoldsK Rn.enc 3 w g 0 d) {j : Nat} {x : Rn} (hj : d.toList[j]? = some x) : RnAt w g (0 + j * 3) x := by
  have hlt : j < d.size := by have := (List.getElem?_eq_some_iff.1 hj).1; simpa using this
  have hx : d[j]! = x := by
    rw [Array.getElem?_toList] at hj
    simp [Array.getElem!_eq_getD, Array.getD_eq_getD_getElem?, hj]
  have h0 := (h.cell hlt (c := 0) (by omega)).1
  have h1 := (h.cell hlt (c := 1) (by omega)).1
  have h2 := (h.cell hlt (c := 2) (by omega)).1
  rw [hx] at h0 h1 h2
  exact ⟨h0, h1, h2⟩

theorem below_sortWorld {B : Nat} (w : World) (g n : Nat) (d : Array Rn) (os : Array Obj) (hB : B ≤ g) (hw : B ≤ w.heap.size) : Below B w (sortWorldK Rn.enc 3 w g 0 n d os) := by
  refine ⟨rfl, rfl, rfl, ?_, fun i hi => ?_⟩
  · simp [sortWorldK, putRowK]
  · show ((putRowK Rn.enc 3 (Sort.ahead w n) g 0 d).heap ++ os)[i]? = w.heap[i]?
    rw [Array.getElem?_append_left (by simp [putRowK]; omega)]
    simp only [putRowK, putRow, mapBlock, Array.getElem?_modify]
    rw [if_neg (by omega)]
    rfl

/-- slices.SortFunc on a slice of the call's own -/
theorem Sort_any (v : Value) (zs : List Rn) (w : World) (base : Nat) (h : Own w base v zs) (hok : ∀ x ∈ zs, x.ok) (hl : zs.length ≤ 1000) (hB : base ≤ w.heap.size) :
    Calls Tryz.prog 135 #[v, .func (.func 136) #[] #[]] w fun e w' => e = .returned (.tuple #[]) ∧ ∃ l : List Rn, l.Perm zs ∧ Ordered l ∧ Sl w' w'.heap.size v l ∧ Below base w w' := by
  obtain ⟨A, n, c, rfl, hn, hcz, hA⟩ := h.form'
  by_cases hne : zs = []
  · subst hne
    obtain rfl : n = 0 := hn
    refine (AnyF.slices_SortFunc_none Tryz.lSort A c _ w).mono fun e w' ⟨he, hw⟩ => ?_
    subst hw
    exact ⟨he, [], List.Perm.refl _, List.Pairwise.nil, h.sl hok, Below.refl _ _⟩
  · obtain ⟨g, rfl, hg1, hg2⟩ := hA hne
    have eg : ∀ args w, (callFunc 136 args).run Tryz.prog w = .ok (.enter 136 args) w := enters_of Tryz.func136 (by kernel_rfl) rfl
    have hH := h.holds hn
    have hcon := AnyQ.slices_SortFunc Tryz.lSort 3 Tryz.isAgg67 Tryz.sizeOf67 Rn.enc (fun _ => rfl) (fun x u hu => by simp [Rn.enc] at hu; rcases hu with rfl | rfl | rfl <;> rfl) cmpR swoR 136 #[] g 0 c zs.toArray w eg (cmpLaysR g 0 _ w) hH hg2 (by simp; omega)
    rw [List.size_toArray, ← hn] at hcon
    refine hcon.mono fun e w' ⟨he, d', q, os, hp, hs, hw⟩ => ⟨he, d'.toList, ?_, ?_, ?_, ?_⟩
    · obtain ⟨h1, _, h3⟩ := hp
      have h1' : d'.size = n := by rw [h1]; simp [hn]
      have e1 : (d'.extract 0 n).toList = d'.toList := by rw [← h1']; simp
      have e2 : (zs.toArray.extract 0 n).toList = zs := by rw [hn]; simp
      rw [e1, e2] at h3
      exact h3
    · have h1 : d'.size = n := by have := hp.1; simp at this; omega
      refine List.pairwise_iff_getElem.2 fun i j hi hj hij => ?_
      rw [Array.length_toList] at hi hj
      have := hs i j (Nat.zero_le _) hij (by omega)
      rw [nlt_iff] at this
      simp only [getElem!_pos d' i hi, getElem!_pos d' j hj] at this
      simpa using this
    · have h1 : d'.size = n := by have := hp.1; simp at this; omega
      have hperm : d'.toList.Perm zs := by
        obtain ⟨h1, _, h3⟩ := hp
        have h1' : d'.size = n := by rw [h1]; simp [hn]
        have e1 : (d'.extract 0 n).toList = d'.toList := by rw [← h1']; simp
        have e2 : (zs.toArray.extract 0 n).toList = zs := by rw [hn]; simp
        rw [e1, e2] at h3
        exact h3
      have hHd : HoldsK Rn.enc 3 w' g 0 d' := by
        rw [hw]
        exact holdsK_grow _ _ _ _ _ _ _ (by simp [putRowK]; exact hg2) (holdsK_putRowK _ _ _ _ _ zs.toArray d' (holdsK_ahead _ _ _ _ _ _ _ hH) (by simp; omega))
      refine ⟨_, c, by rw [Array.length_toList, h1], (fun h => by simp at h), fun x hx => hok x (hperm.mem_iff.1 hx), fun _ => ⟨g, 0, rfl, ?_, fun j x hj => HoldsK.run hHd hj⟩⟩
      rw [hw]; simp [sortWorldK, putRowK]; omega
    · rw [hw]; exact below_sortWorld w g q d' os hg1 hB
end Go.Proofs.YtfjaeohfigcciabGreatDoor

namespace Go.Proofs.YtfjaeohfigcciabGreatDoor
open Go.RowKit Go.Sort Go.Shelf

def leR (x y : Rn) : Bool := decide (¬ (y.r < x.r ∨ (y.r = x.r ∧ y.lo < x.lo)))
def unionL (zs ys : List Rn) : List Rn := joinL ((zs ++ ys).mergeSort leR)
def unionR (zs ys : List Rn) : Except Int (List Rn) := if rightB zs = true ∧ rightB ys = true then lim (unionL zs ys) else .error 9
def addR (zs : List Rn) (p n : Int) : Except Int (List Rn) := unionR zs [⟨p, n, n⟩]

theorem union_good {zs ys l : List Rn} (hz : rightB zs = true) (hy : rightB ys = true) (hp : l.Perm (zs ++ ys)) (ho : Ordered l) :
    Good (joinL l) ∧ ∀ p n, covs (joinL l) p n = (covs zs p n || covs ys p n) := by
  have hr : ∀ x ∈ l, rrB x = true := fun x hx => by
    rcases List.mem_append.1 (hp.mem_iff.1 hx) with h | h
    · exact ((right_iff zs).1 hz).2.1 x h
    · exact ((right_iff ys).1 hy).2.1 x h
  obtain ⟨h1, h2⟩ := joinL_good hr ho
  exact ⟨h1, fun p n => by rw [h2, covs_perm hp, covs_append]⟩
theorem mergeSort_ordered (l : List Rn) : Ordered (l.mergeSort leR) := by
  have := List.pairwise_mergeSort (le := leR) (fun a b c h1 h2 => by simp only [leR, decide_eq_true_eq] at *; omega) (fun a b => by simp only [leR, Bool.or_eq_true, decide_eq_true_eq]; omega) l
  exact this.imp fun h => by simpa only [leR, decide_eq_true_eq] using h
theorem unionL_good {zs ys : List Rn} (hz : rightB zs = true) (hy : rightB ys = true) : Good (unionL zs ys) ∧ ∀ p n, covs (unionL zs ys) p n = (covs zs p n || covs ys p n) :=
  union_good hz hy (List.mergeSort_perm _ _) (mergeSort_ordered _)
theorem unionL_of {zs ys l : List Rn} (hz : rightB zs = true) (hy : rightB ys = true) (hp : l.Perm (zs ++ ys)) (ho : Ordered l) : joinL l = unionL zs ys := by
  obtain ⟨a1, a2⟩ := union_good hz hy hp ho
  obtain ⟨b1, b2⟩ := unionL_good hz hy
  exact canon _ _ a1 b1 fun p n => by rw [a2, b2]

def InPost (w : World) (zs : List Rn) (e : Ending) (w' : World) : Prop := ∃ v l, e = .returned v ∧ l.Perm zs ∧ Ordered l ∧ Sl w' w'.heap.size v l ∧ Below w.heap.size w w'

set_option maxHeartbeats 1000000 in
theorem inOrder_any (va vb : Value) (zs ys : List Rn) (w : World) (ha : Sl w w.heap.size va zs) (hb : Sl w w.heap.size vb ys) (hz : zs.length ≤ 64) (hy : ys.length ≤ 64) :
    Calls Tryz.prog 112 #[va, vb] w (InPost w (zs ++ ys)) := by
  have hok : ∀ x ∈ zs ++ ys, x.ok := fun x hx => by
    obtain ⟨_, _, _, _, h1, _⟩ := ha
    obtain ⟨_, _, _, _, h2, _⟩ := hb
    rcases List.mem_append.1 hx with h | h
    · exact h1 x h
    · exact h2 x h
  have hcon := Concat_any va vb zs ys w.heap.size (w.alloc (.cells #[va, vb] 23)) (by simp) (by simp) (by simp) ((ha.alloc (Nat.le_refl _) _).more (by simp)) ((hb.alloc (Nat.le_refl _) _).more (by simp)) (by omega) (by omega)
  have hsz : w.heap.size ≤ (w.alloc (.cells #[va, vb] 23)).heap.size := by simp
  have hbl : Below w.heap.size w (w.alloc (.cells #[va, vb] 23)) := (Below.refl _ w).alloc (Nat.le_refl _) _
  have HC := Lib.hid hcon; clear hcon
  have HBL := Lib.hid hbl; clear hbl
  have HOK := Lib.hid hok; clear hok
  obtain ⟨A1, k1, rfl, _, _, _⟩ := ha
  obtain ⟨A2, k2, rfl, _, _, _⟩ := hb
  go_enter Tryz.func112, Tryz.ntmps112
  go_wp2_with fail
  refine (HC.out).mono ?_
  rintro e w2 ⟨v5, rfl, ho, hb2⟩
  have hs := Sort_any v5 (zs ++ ys) w2 _ ho HOK.out (by simp; omega) hb2.size
  have HS := Lib.hid hs; clear hs ho
  have HB2 := Lib.hid hb2; clear hb2
  go_wp2_with fail
  refine (HS.out).mono ?_
  rintro e w3 ⟨rfl, l, hp, hor, hsl, hb3⟩
  have HP := Lib.hid hp; clear hp
  have HR := Lib.hid hor; clear hor
  have HL := Lib.hid hsl; clear hsl
  have HB3 := Lib.hid hb3; clear hb3
  go_wp2
  go_ret
  exact ⟨v5, l, rfl, HP.out, HR.out, HL.out, HBL.out.trans ((HB2.out.trans HB3.out).mono hsz)⟩

theorem ResPost.of_below {w0 w : World} {res : Except Int (List Rn)} {e : Ending} {w' : World} (h : ResPost w res e w') (hb : Below w0.heap.size w0 w) : ResPost w0 res e w' := by
  cases res with
  | ok l =>
    obtain ⟨v, he, hs, hb'⟩ := h
    exact ⟨v, he, hs, hb.trans (hb'.mono hb.size)⟩
  | error c => exact ⟨h.1, hb.trans (h.2.mono hb.size)⟩

end Go.Proofs.YtfjaeohfigcciabGreatDoor

namespace Go.Proofs.YtfjaeohfigcciabGreatDoor
open Go.RowKit Go.Sort

/-- runs of the call's own, or a code, come back -/
def ResOwn (w : World) (res : Except Int (List Rn)) (e : Ending) (w' : World) : Prop :=
  match res with
  | .ok l => ∃ v, e = .returned (.tuple #[v, .nilIface]) ∧ (Own w' w.heap.size v l ∧ Sl w' w'.heap.size v l) ∧ Below w.heap.size w w'
  | .error c => e = .returned (.tuple #[.slice none 0 0, .iface 74 (.int .i64 c)]) ∧ Below w.heap.size w w'

theorem within_own (v : Value) (l : List Rn) (w w0 : World) (h : Own w w0.heap.size v l) (hok : ∀ x ∈ l, x.ok) (hl : l.length ≤ 1000) (hb : Below w0.heap.size w0 w) :
    Calls Tryz.prog 110 #[v] w (ResOwn w0 (lim l)) := by
  obtain ⟨A, c, rfl, hn, hA⟩ := h.form
  by_cases h64 : l.length ≤ 64
  · refine (within_yes A l.length c w h64).mono fun e w' ⟨he, hw⟩ => ?_
    subst hw
    rw [lim, if_pos h64]
    exact ⟨_, he, ⟨h, h.sl hok⟩, hb⟩
  · refine (within_no A l.length c w (by omega) hl).mono fun e w' ⟨he, hw⟩ => ?_
    subst hw
    rw [lim, if_neg h64]
    exact ⟨he, hb⟩

end Go.Proofs.YtfjaeohfigcciabGreatDoor

namespace Go.Proofs.YtfjaeohfigcciabGreatDoor
open Go.RowKit Go.Sort

set_option maxHeartbeats 1000000 in
theorem Union_wrong1O (va vb : Value) (zs : List Rn) (w : World) (ha : Sl w w.heap.size va zs) (hx : rightB zs = false) :
    Calls Tryz.prog 72 #[va, vb] w (ResOwn w (.error 9)) := by
  have hr := Right_any w va zs ha
  rw [hx] at hr
  have HR := Lib.hid hr; clear hr hx
  go_enter Tryz.func72, Tryz.ntmps72
  go_wp2_with fail
  refine (HR.out).mono ?_
  rintro e w1 ⟨rfl, hb1⟩
  go_wp2_with fail
  go_ret2
  exact ⟨rfl, hb1⟩

set_option maxHeartbeats 1000000 in
theorem Union_wrong2O (va vb : Value) (zs ys : List Rn) (w : World) (ha : Sl w w.heap.size va zs) (hb : Sl w w.heap.size vb ys) (hx : rightB zs = true) (hy : rightB ys = false) :
    Calls Tryz.prog 72 #[va, vb] w (ResOwn w (.error 9)) := by
  have hr := Right_any w va zs ha
  rw [hx] at hr
  have HR := Lib.hid hr; clear hr hx
  have hq := fun w1 (hb1 : Below w.heap.size w w1) => Right_any w1 vb ys ((hb.below hb1).more hb1.size)
  rw [hy] at hq
  have HQ := Lib.hid hq; clear hq hy
  go_enter Tryz.func72, Tryz.ntmps72
  go_wp2_with fail
  refine (HR.out).mono ?_
  rintro e w1 ⟨rfl, hb1⟩
  go_wp2_with fail
  refine (HQ.out w1 hb1).mono ?_
  rintro e w2 ⟨rfl, hb2⟩
  go_wp2_with fail
  go_ret2
  exact ⟨rfl, hb1.trans (hb2.mono hb1.size)⟩

set_option maxHeartbeats 1000000 in
theorem Union_rightO (va vb : Value) (zs ys : List Rn) (w : World) (ha : Sl w w.heap.size va zs) (hb : Sl w w.heap.size vb ys) (hx : rightB zs = true) (hy : rightB ys = true) :
    Calls Tryz.prog 72 #[va, vb] w (ResOwn w (lim (unionL zs ys))) := by
  have hz64 := ((right_iff zs).1 hx).1
  have hy64 := ((right_iff ys).1 hy).1
  have hun := fun l hp ho => unionL_of (l := l) hx hy hp ho
  have hr := Right_any w va zs ha
  rw [hx] at hr
  have HR := Lib.hid hr; clear hr hx
  have hq := fun w1 (hb1 : Below w.heap.size w w1) => Right_any w1 vb ys ((hb.below hb1).more hb1.size)
  rw [hy] at hq
  have HQ := Lib.hid hq; clear hq hy
  have hin := fun w1 (hb1 : Below w.heap.size w w1) => inOrder_any va vb zs ys w1 ((ha.below hb1).more hb1.size) ((hb.below hb1).more hb1.size) hz64 hy64
  have HI := Lib.hid hin; clear hin
  have HU := Lib.hid hun; clear hun
  generalize hL : lim (unionL zs ys) = L
  have HL := Lib.hid hL; clear hL
  go_enter Tryz.func72, Tryz.ntmps72
  go_wp2_with fail
  refine (HR.out).mono ?_
  rintro e w1 ⟨rfl, hb1⟩
  go_wp2_with fail
  refine (HQ.out w1 hb1).mono ?_
  rintro e w2 ⟨rfl, hb2⟩
  have hb12 := hb1.trans (hb2.mono hb1.size)
  have HB12 := Lib.hid hb12; clear hb12 hb1 hb2
  go_wp2_with fail
  refine (HI.out w2 HB12.out).mono ?_
  rintro e w3 ⟨v3, l, rfl, hp, ho, hsl, hb3⟩
  have hll : l.length ≤ 128 := by rw [hp.length_eq]; simp; omega
  have hokl : ∀ x ∈ l, x.ok := by obtain ⟨_, _, _, _, h1, _⟩ := hsl; exact h1
  have hj := joined_any v3 l w3 (by omega) hsl
  rw [HU.out l hp ho] at hj
  have hju := joinL_ok hokl
  have hjl := joinL_len hokl
  rw [HU.out l hp ho] at hju hjl
  have HJ := Lib.hid hj; clear hj
  have HJU := Lib.hid hju; clear hju
  have hb13 := HB12.out.trans (hb3.mono HB12.out.size)
  have HB13 := Lib.hid hb13; clear hb13 hb3
  clear hp ho hsl hokl
  go_wp2_with fail
  refine (HJ.out).mono ?_
  rintro e w4 ⟨v4, rfl, ho4, hb4⟩
  have hb14 := HB13.out.trans (hb4.mono HB13.out.size)
  have hw := within_own v4 _ w4 w (ho4.mono HB13.out.size) HJU.out (by omega) hb14
  rw [HL.out] at hw
  have HW := Lib.hid hw; clear hw ho4 hb4 hb14
  go_wp2_with fail
  refine (HW.out).mono ?_
  cases L with
  | ok l =>
    rintro e w9 ⟨v9, rfl, hv9, hb9⟩
    have H9 := Lib.hid hv9; clear hv9
    go_wp2_with fail
    go_ret2
    exact ⟨v9, rfl, H9.out, hb9⟩
  | error cc =>
    rintro e w9 ⟨rfl, hb9⟩
    go_wp2_with fail
    go_ret2
    exact ⟨rfl, hb9⟩

theorem Union_anyO (va vb : Value) (zs ys : List Rn) (w : World) (ha : Sl w w.heap.size va zs) (hb : Sl w w.heap.size vb ys) :
    Calls Tryz.prog 72 #[va, vb] w (ResOwn w (unionR zs ys)) := by
  unfold unionR
  by_cases hx : rightB zs = true
  · by_cases hy : rightB ys = true
    · rw [if_pos ⟨hx, hy⟩]; exact Union_rightO va vb zs ys w ha hb hx hy
    · rw [if_neg (fun h => hy h.2)]; exact Union_wrong2O va vb zs ys w ha hb hx (by simpa using hy)
  · rw [if_neg (fun h => hx h.1)]; exact Union_wrong1O va vb zs w ha (by simpa using hx)

theorem ResOwn.of_below {w0 w : World} {res : Except Int (List Rn)} {e : Ending} {w' : World} (h : ResOwn w res e w') (hb : Below w0.heap.size w0 w) : ResOwn w0 res e w' := by
  cases res with
  | ok l =>
    obtain ⟨v, he, hs, hb'⟩ := h
    exact ⟨v, he, ⟨hs.1.mono hb.size, hs.2⟩, hb.trans (hb'.mono hb.size)⟩
  | error c => exact ⟨h.1, hb.trans (h.2.mono hb.size)⟩

set_option maxHeartbeats 1000000 in
theorem Add_anyO (v : Value) (zs : List Rn) (p n : Int) (w : World) (hp : 0 ≤ p ∧ p ≤ 255) (hn : 0 ≤ n ∧ n ≤ 4294967295) (h : Sl w w.heap.size v zs) :
    Calls Tryz.prog 109 #[v, .int .u8 p, .int .u32 n] w (ResOwn w (addR zs p n)) := by
  have hbl : Below w.heap.size w (w.alloc (.cells #[.int .u8 p, .int .u32 n, .int .u32 n] 67)) := (Below.refl _ w).alloc (Nat.le_refl _) _
  have hu := (Union_anyO v (.slice (some ⟨w.heap.size, 0, none⟩) 1 1) zs [⟨p, n, n⟩] (w.alloc (.cells #[.int .u8 p, .int .u32 n, .int .u32 n] 67))
    ((h.below hbl).more (by simp)) ((one_sl w w.heap.size p n n rfl ⟨hp, hn, hn⟩).more (by simp))).mono fun e w' hr => hr.of_below hbl
  have HU := Lib.hid hu; clear hu hbl
  change Hid (Calls _ _ _ _ (fun e w' => ResOwn w (addR zs p n) e w')) at HU
  generalize addR zs p n = L at HU ⊢
  obtain ⟨A, c, rfl, _, _, _⟩ := h
  go_enter Tryz.func109, Tryz.ntmps109
  go_wp2_with fail
  refine (HU.out).mono ?_
  cases L with
  | ok l =>
    rintro e w9 ⟨v9, rfl, hv9, hb9⟩
    have H9 := Lib.hid hv9; clear hv9
    go_wp2_with fail
    go_ret2
    exact ⟨v9, rfl, H9.out, hb9⟩
  | error cc =>
    rintro e w9 ⟨rfl, hb9⟩
    go_wp2_with fail
    go_ret2
    exact ⟨rfl, hb9⟩
end Go.Proofs.YtfjaeohfigcciabGreatDoor

namespace Go.Proofs.YtfjaeohfigcciabGreatDoor

theorem rp_all {r : Rp} (h : rpB r = true) : headR r = true ∧ topB r.rep r.seq r.know = true ∧ topB r.rep r.seq r.ses.offer = true ∧ (List.range r.held.length).all (heldAt r) = true := by
  unfold rpB at h
  simp only [Bool.and_eq_true] at h
  exact ⟨h.1, h.2.1, h.2.2.1, h.2.2.2⟩
/-- another session, right by itself, leaves the replica right -/
theorem rp_ses {r : Rp} (h : rpB r = true) (s : Ss) (hs : sesB s r.rep = true) (ht : topB r.rep r.seq s.offer = true) : rpB ⟨r.rep, r.flt, r.epoch, r.seq, r.know, r.held, s⟩ = true := by
  obtain ⟨h1, h2, h3, h4⟩ := rp_all h
  have hp := rp_parts h
  refine rp_true ?_ h2 ht h4
  unfold headR
  simp only [Bool.and_eq_true, decide_eq_true_eq]
  exact ⟨hp.1, hp.2.1, hp.2.2.1, hs⟩
theorem begin_rp {r : Rp} (h : rpB r = true) (hok : r.ok) {src : Int} (h7 : src ≤ 7) (hne : src ≠ r.rep) : rpB (beginP r src) = true := by
  refine rp_ses h _ ?_ rfl
  have h0 := hok.2.2.2.2.2.2.2.2.2.2.2.1
  unfold sesB
  rw [if_pos rfl]
  refine Bool.and_eq_true_iff.2 ⟨rfl, decide_eq_true ⟨?_, ?_, h7, hne, ?_, .inr ⟨rfl, rfl⟩⟩⟩
  · show 1 ≤ r.ses.last + 1
    omega
  · exact Int.le_refl _
  · show (0 : Int) ≤ 63
    decide
theorem off_rp {r : Rp} (h : rpB r = true) : rpB (offP r) = true := by
  refine rp_ses h _ ?_ rfl
  unfold sesB
  rw [if_neg (by simp)]
  exact decide_eq_true ⟨rfl, rfl, rfl, rfl, rfl⟩
/-- a session that is on -/
theorem ses_parts {r : Rp} (h : rpB r = true) (ho : r.ses.on = true) : rightB r.ses.offer = true ∧ 1 ≤ r.ses.num ∧ r.ses.num ≤ r.ses.last ∧ r.ses.src ≤ 7 ∧ r.ses.src ≠ r.rep ∧ r.ses.cur ≤ 63 ∧ (0 < r.ses.cur ∨ (r.ses.epoch = 0 ∧ r.ses.offer = [])) := by
  have hp := (rp_parts h).2.2.2
  unfold sesB at hp
  rw [if_pos ho] at hp
  simp only [Bool.and_eq_true, decide_eq_true_eq] at hp
  exact ⟨hp.1, hp.2.1, hp.2.2.1, hp.2.2.2.1, hp.2.2.2.2.1, hp.2.2.2.2.2.1, hp.2.2.2.2.2.2⟩
theorem pull_right {r : Rp} (h : rpB r = true) (ho : r.ses.on = true) : noteB (pullP r) = true := by
  have hp := rp_parts h
  obtain ⟨s1, s2, s3, s4, s5, s6, s7⟩ := ses_parts h ho
  have hh : headB (pullP r) = true := decide_eq_true ⟨hp.1, s4, fun hc => s5 hc.symm, s2, s6⟩
  unfold noteB
  rw [hh, if_pos (show (pullP r).kind = 1 from rfl)]
  show (true && (rightB r.know && _)) = true
  rw [hp.2.1]
  rfl
end Go.Proofs.YtfjaeohfigcciabGreatDoor

namespace Go.Proofs.YtfjaeohfigcciabGreatDoor
open Go.RowKit Go.Sort Go.Shelf

theorem right_of_good {l : List Rn} (h : l.length ≤ 64) (hg : Good l) : rightB l = true := (right_iff l).2 ⟨h, hg⟩

end Go.Proofs.YtfjaeohfigcciabGreatDoor

namespace Go.Proofs.YtfjaeohfigcciabGreatDoor

theorem lim_is {l x : List Rn} (h : lim l = .ok x) : l.length ≤ 64 ∧ x = l := by
  unfold lim at h
  split at h
  · exact ⟨by assumption, by cases h; rfl⟩
  · cases h
/-- a union that is told: its parts are right, and so is it -/
theorem union_told {zs ys z : List Rn} (h : unionR zs ys = .ok z) : rightB zs = true ∧ rightB ys = true ∧ rightB z = true ∧ ∀ p n, covs z p n = (covs zs p n || covs ys p n) := by
  unfold unionR at h
  split at h
  · rename_i hr
    obtain ⟨hl, rfl⟩ := lim_is h
    obtain ⟨g1, g2⟩ := unionL_good hr.1 hr.2
    exact ⟨hr.1, hr.2, right_of_good hl g1, g2⟩
  · cases h
theorem union_of {zs ys : List Rn} (h1 : rightB zs = true) (h2 : rightB ys = true) : unionR zs ys = lim (unionL zs ys) := by
  unfold unionR; rw [if_pos ⟨h1, h2⟩]
theorem unionL_is {zs ys u : List Rn} (h1 : rightB zs = true) (h2 : rightB ys = true) (hu : Good u) (hc : ∀ p n, covs u p n = (covs zs p n || covs ys p n)) : unionL zs ys = u := by
  obtain ⟨g1, g2⟩ := unionL_good h1 h2
  exact canon _ _ g1 hu fun p n => by rw [g2, hc]
end Go.Proofs.YtfjaeohfigcciabGreatDoor

