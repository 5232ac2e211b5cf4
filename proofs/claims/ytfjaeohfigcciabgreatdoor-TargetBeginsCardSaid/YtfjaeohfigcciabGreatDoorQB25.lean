/- Texts in one: PRef7. -/
import Derived.Test.YtfjaeohfigcciabGreatDoorQB21
import Derived.Test.YtfjaeohfigcciabGreatDoorQB24
set_option linter.unusedVariables false
set_option linter.unusedSimpArgs false
set_option linter.unusedSectionVars false
set_option linter.unnecessarySimpa false
namespace Go.Proofs.YtfjaeohfigcciabGreatDoor
open Go.RowKit

def beginP (r : Rp) (src : Int) : Rp := ⟨r.rep, r.flt, r.epoch, r.seq, r.know, r.held, ⟨true, r.ses.last + 1, src, 0, 0, [], r.ses.last + 1⟩⟩
def zeroP : Rp := ⟨0, 0, 0, 0, [], [], ⟨false, 0, 0, 0, 0, [], 0⟩⟩
/-- what Begin tells: a replica, a Pull, a code -/
def beginR (r : Rp) (src : Int) : Rp × Nt × Int :=
  if rpB r = false ∨ 7 < src ∨ src = r.rep then (zeroP, zeroN, 9) else if r.ses.last = 4294967295 then (zeroP, zeroN, 5) else (beginP r src, pullP (beginP r src), 0)
def BeginPost (w : World) (x : Rp × Nt × Int) (e : Ending) (w' : World) : Prop :=
  ∃ v1 v2, e = .returned (.tuple #[v1, v2, .int .i64 x.2.2]) ∧ RpV w' w'.heap.size v1 x.1 ∧ NtV w' w'.heap.size v2 x.2.1 ∧ Below w.heap.size w w'

theorem results_two_rows {P : Program} {fn : Func} {p1 p2 q : Tmp} {ty1 ty2 : TypeId} (h : fn.results = #[.cell p1 ty1, .cell p2 ty2, .tmp q]) (tmps : Array Value) (w : World) (g1 g2 : Nat) (t1 t2 : TypeId) (c1 c2 : Array Value) (f1 f2 : Nat × Nat) (d1 d2 : TypeDesc)
    (hp1 : tmps.getD p1 undef = .pointer (some ⟨g1, 0, none⟩)) (hp2 : tmps.getD p2 undef = .pointer (some ⟨g2, 0, none⟩)) (hg1 : w.heap[g1]? = some (.cells c1 t1 f1)) (hg2 : w.heap[g2]? = some (.cells c2 t2 f2))
    (hu1 : P.underlying ty1 = some d1) (hu2 : P.underlying ty2 = some d2) (hd1 : (match d1 with | .struct _ | .array _ _ => true | _ => false) = true) (hd2 : (match d2 with | .struct _ | .array _ _ => true | _ => false) = true)
    (hi1 : (P.info? ty1).map (·.size) = some c1.size) (hi2 : (P.info? ty2).map (·.size) = some c2.size) :
    (results fn tmps).run P w = .ok (.tuple #[.agg c1, .agg c2, tmps.getD q undef]) w := by
  have hp1' : tmps[p1]?.getD undef = .pointer (some ⟨g1, 0, none⟩) := by simpa using hp1
  have hp2' : tmps[p2]?.getD undef = .pointer (some ⟨g2, 0, none⟩) := by simpa using hp2
  simp [results, h, hp1', hp2', asAddr, run_loadVar_row w g1 t1 ty1 c1 f1 d1 hg1 hu1 hd1 hi1, run_loadVar_row w g2 t2 ty2 c2 f2 d2 hg2 hu2 hd2 hi2]
theorem begin_ok {r : Rp} (h : r.ok) {src : Int} (hs : 0 ≤ src ∧ src ≤ 255) (hl : r.ses.last < 4294967295) : (beginP r src).ok := by
  obtain ⟨h1, h2, h3, h4, h5, h6, g1, g2, g3, g4, g5, g6⟩ := h
  have z : ∀ n : Int, 0 ≤ n → (0 : Int) ≤ 0 ∧ (0 : Int) ≤ n := fun n h => ⟨Int.le_refl 0, h⟩
  have hn : 0 ≤ r.ses.last + 1 ∧ r.ses.last + 1 ≤ 4294967295 := by omega
  exact ⟨h1, h2, h3, h4, h5, h6, hn, hs, z _ (by decide), z _ (by decide), (fun x hx => by cases hx), hn⟩

set_option maxHeartbeats 4000000 in
set_option maxRecDepth 100000 in
theorem q7Begin_ok (v : Value) (r : Rp) (src : Int) (w : World) (hv : RpV w w.heap.size v r) (hs : 0 ≤ src ∧ src ≤ 255) (h1 : r.know.length ≤ 1000) (h2 : r.held.length ≤ 1000) (h3 : r.ses.offer.length ≤ 1000)
    (hr : rpB r = true) (hs7 : src ≤ 7) (hne : src ≠ r.rep) (hl : r.ses.last ≠ 4294967295) :
    Calls Tryz.prog 15 #[v, .int .u8 src] w (BeginPost w (beginP r src, pullP (beginP r src), 0)) := by
  obtain ⟨vk, vh, vo, rfl, hk, hh, ho, hok⟩ := hv
  have HR := Lib.hid (fun w1 (hb : Below w.heap.size w w1) => q5Right_any (.agg (r.cells vk vh vo)) r w1 ⟨vk, vh, vo, rfl, (hk.below hb).more hb.size, hh.later hb, (ho.below hb).more hb.size, hok⟩ h1 h2 h3)
  rw [hr] at HR
  have hlt : r.ses.last < 4294967295 := by have := hok.2.2.2.2.2.2.2.2.2.2.2; omega
  have HV := Lib.hid (fun w1 (hb : Below w.heap.size w w1) => (⟨⟨vk, vh, .slice none 0 0, rfl, (hk.below hb).more hb.size, hh.later hb, Sl.nil _ _, begin_ok hok hs hlt⟩, ⟨vk, .slice none 0 0, .slice none 0 0, rfl, (hk.below hb).more hb.size, ESl.nil _ _, Sl.nil _ _, pull_ok (begin_ok hok hs hlt)⟩⟩ :
    RpV w1 w1.heap.size (.agg ((beginP r src).cells vk vh (.slice none 0 0))) (beginP r src) ∧ NtV w1 w1.heap.size (.agg ((pullP (beginP r src)).cells vk (.slice none 0 0) (.slice none 0 0))) (pullP (beginP r src))))
  clear hlt
  obtain ⟨Ak, ck, rfl, _⟩ := hk
  obtain ⟨Ah, ch, rfl, _⟩ := hh
  obtain ⟨Ao, co, rfl, _⟩ := ho
  unfold Rp.cells at HR ⊢
  have z1 : (src == r.rep) = false := by rw [beq_eq_false_iff_ne]; exact hne
  have z2 : (r.ses.last == 4294967295) = false := by rw [beq_eq_false_iff_ne]; exact hl
  have hlk : 0 ≤ r.ses.last ∧ r.ses.last < 4294967295 := by
    have := hok.2.2.2.2.2.2.2.2.2.2.2
    omega
  clear hne hl hok
  go_enter Tryz.func15, Tryz.ntmps15
  go_wp2_with fail
  have HB0 := Lib.hid (al3 w (.cells #[.int .u8 r.rep, .int .u8 r.flt, .int .u32 r.epoch, .int .u32 r.seq, .slice Ak r.know.length ck, .slice Ah r.held.length ch, .bool r.ses.on, .int .u32 r.ses.num, .int .u8 r.ses.src, .int .u8 r.ses.cur, .int .u32 r.ses.epoch, .slice Ao r.ses.offer.length co, .int .u32 r.ses.last] 28) (.cells #[.int .u8 0, .int .u8 0, .int .u32 0, .int .u32 0, .slice none 0 0, .slice none 0 0, .bool false, .int .u32 0, .int .u8 0, .int .u8 0, .int .u32 0, .slice none 0 0, .int .u32 0] 28) (.cells #[.int .i64 0, .int .u8 0, .int .u8 0, .int .u32 0, .int .u8 0, .int .u8 0, .slice none 0 0, .int .u32 0, .slice none 0 0, .int .u8 0, .bool false, .slice none 0 0] 30))
  have BA := Lib.hid (blk_three w (#[.int .u8 r.rep, .int .u8 r.flt, .int .u32 r.epoch, .int .u32 r.seq, .slice Ak r.know.length ck, .slice Ah r.held.length ch, .bool r.ses.on, .int .u32 r.ses.num, .int .u8 r.ses.src, .int .u8 r.ses.cur, .int .u32 r.ses.epoch, .slice Ao r.ses.offer.length co, .int .u32 r.ses.last]) 28 (#[.int .u8 0, .int .u8 0, .int .u32 0, .int .u32 0, .slice none 0 0, .slice none 0 0, .bool false, .int .u32 0, .int .u8 0, .int .u8 0, .int .u32 0, .slice none 0 0, .int .u32 0]) 28 (#[.int .i64 0, .int .u8 0, .int .u8 0, .int .u32 0, .int .u8 0, .int .u8 0, .slice none 0 0, .int .u32 0, .slice none 0 0, .int .u8 0, .bool false, .slice none 0 0]) 30)
  generalize ((w.alloc (.cells #[.int .u8 r.rep, .int .u8 r.flt, .int .u32 r.epoch, .int .u32 r.seq, .slice Ak r.know.length ck, .slice Ah r.held.length ch, .bool r.ses.on, .int .u32 r.ses.num, .int .u8 r.ses.src, .int .u8 r.ses.cur, .int .u32 r.ses.epoch, .slice Ao r.ses.offer.length co, .int .u32 r.ses.last] 28)).alloc (.cells #[.int .u8 0, .int .u8 0, .int .u32 0, .int .u32 0, .slice none 0 0, .slice none 0 0, .bool false, .int .u32 0, .int .u8 0, .int .u8 0, .int .u32 0, .slice none 0 0, .int .u32 0] 28)).alloc (.cells #[.int .i64 0, .int .u8 0, .int .u8 0, .int .u32 0, .int .u8 0, .int .u8 0, .slice none 0 0, .int .u32 0, .slice none 0 0, .int .u8 0, .bool false, .slice none 0 0] 30) = wz at HB0 BA ⊢
  refine (HR.out _ HB0.out).mono ?_
  rintro e w1 ⟨rfl, hb1⟩
  have B1 := Lib.hid (BA.out.1.keep hb1)
  have B2 := Lib.hid (BA.out.2.1.keep hb1)
  have B3 := Lib.hid (BA.out.2.2.keep hb1)
  have HB1 := Lib.hid (HB0.out.trans (hb1.mono HB0.out.size)); clear hb1 BA
  have c0 := B1.out.cell 0 (.int .u8 r.rep) rfl
  have c1 := B1.out.cell 1 (.int .u8 r.flt) rfl
  have c2 := B1.out.cell 2 (.int .u32 r.epoch) rfl
  have c3 := B1.out.cell 3 (.int .u32 r.seq) rfl
  have c4 := B1.out.cell 4 (.slice Ak r.know.length ck) rfl
  have c5 := B1.out.cell 5 (.slice Ah r.held.length ch) rfl
  have c6 := B1.out.cell 6 (.bool r.ses.on) rfl
  have c7 := B1.out.cell 7 (.int .u32 r.ses.num) rfl
  have c8 := B1.out.cell 8 (.int .u8 r.ses.src) rfl
  have c9 := B1.out.cell 9 (.int .u8 r.ses.cur) rfl
  have c10 := B1.out.cell 10 (.int .u32 r.ses.epoch) rfl
  have c11 := B1.out.cell 11 (.slice Ao r.ses.offer.length co) rfl
  have c12 := B1.out.cell 12 (.int .u32 r.ses.last) rfl
  have hw1 : w.heap.size < w1.heap.size := B1.out.lt
  have hw2 : w.heap.size + 1 < w1.heap.size := B2.out.lt
  have hw3 : w.heap.size + 1 + 1 < w1.heap.size := B3.out.lt
  have hsl : IntKind.u32.wrap (r.ses.last + 1) = r.ses.last + 1 := by
    obtain ⟨g5, g6⟩ := hlk
    rw [IntKind.wrap]
    simp [IntKind.bits, IntKind.signed]
    omega
  go_wp2_with fail
  have hm : Tryz.prog.follows .mixedOrders = true := by kernel_rfl
  have BO := Lib.hid (Blk.new w1 #[.int .u8 r.rep, .int .u8 r.flt, .int .u32 r.epoch, .int .u32 r.seq, .slice Ak r.know.length ck, .slice Ah r.held.length ch, .bool true, .int .u32 (r.ses.last + 1), .int .u8 src, .int .u8 0, .int .u32 0, .slice none 0 0, .int .u32 (r.ses.last + 1)] 28)
  have HAL := Lib.hid (al1 w1 (.cells #[.int .u8 r.rep, .int .u8 r.flt, .int .u32 r.epoch, .int .u32 r.seq, .slice Ak r.know.length ck, .slice Ah r.held.length ch, .bool true, .int .u32 (r.ses.last + 1), .int .u8 src, .int .u8 0, .int .u32 0, .slice none 0 0, .int .u32 (r.ses.last + 1)] 28))
  have PV := Lib.hid (fun W => q7Pull_val (beginP r src) Ak Ah none ck ch 0 W)
  unfold beginP Rp.cells at PV
  simp only [List.length_nil] at PV
  generalize w1.alloc (.cells #[.int .u8 r.rep, .int .u8 r.flt, .int .u32 r.epoch, .int .u32 r.seq, .slice Ak r.know.length ck, .slice Ah r.held.length ch, .bool true, .int .u32 (r.ses.last + 1), .int .u8 src, .int .u8 0, .int .u32 0, .slice none 0 0, .int .u32 (r.ses.last + 1)] 28) = we at BO HAL ⊢
  clear c0 c1 c2 c3 c4 c5 c6 c7 c8 c9 c10 c11 c12
  have p0 := fun p : Later we => (BO.out.keep p.bel).cell 0 (.int .u8 r.rep) rfl
  have p1 := fun p : Later we => (BO.out.keep p.bel).cell 1 (.int .u8 r.flt) rfl
  have p2 := fun p : Later we => (BO.out.keep p.bel).cell 2 (.int .u32 r.epoch) rfl
  have p3 := fun p : Later we => (BO.out.keep p.bel).cell 3 (.int .u32 r.seq) rfl
  have p4 := fun p : Later we => (BO.out.keep p.bel).cell 4 (.slice Ak r.know.length ck) rfl
  have p5 := fun p : Later we => (BO.out.keep p.bel).cell 5 (.slice Ah r.held.length ch) rfl
  have p6 := fun p : Later we => (BO.out.keep p.bel).cell 6 (.bool true) rfl
  have p7 := fun p : Later we => (BO.out.keep p.bel).cell 7 (.int .u32 (r.ses.last + 1)) rfl
  have p8 := fun p : Later we => (BO.out.keep p.bel).cell 8 (.int .u8 src) rfl
  have p9 := fun p : Later we => (BO.out.keep p.bel).cell 9 (.int .u8 0) rfl
  have p10 := fun p : Later we => (BO.out.keep p.bel).cell 10 (.int .u32 0) rfl
  have p11 := fun p : Later we => (BO.out.keep p.bel).cell 11 (.slice none 0 0) rfl
  have p12 := fun p : Later we => (BO.out.keep p.bel).cell 12 (.int .u32 (r.ses.last + 1)) rfl
  refine wp_region_later_tail 3 hm (by kernel_rfl) ?_
  simp only [List.take_succ_cons, List.take_zero, List.drop_succ_cons, List.drop_zero]
  repeat (any_goals (first | go_big_quiet_step (first | (go_at_call 21; exact Calls.later (PV.out _))) | quiet_step (first | (go_at_call 21; exact Calls.later (PV.out _)))))
  refine wpQuiet_nil ?_
  intro wp hw'
  obtain ⟨lp, hlp⟩ := hw'
  have hbp := lp.bel
  rw [← hlp] at hbp
  clear hlp lp p0 p1 p2 p3 p4 p5 p6 p7 p8 p9 p10 p11 p12
  have D2 := Lib.hid ((B2.out.keep HAL.out).keep hbp)
  have D3 := Lib.hid ((B3.out.keep HAL.out).keep hbp)
  have HBE := Lib.hid (HB1.out.trans ((HAL.out.trans (hbp.mono HAL.out.size)).mono HB1.out.size))
  clear hbp hsl hw1 hw2 hw3
  go_wp2_with (first
    | (refine wpList_store_row rfl _ _ _ rfl (w.heap.size + 1) #[.int .u8 r.rep, .int .u8 r.flt, .int .u32 r.epoch, .int .u32 r.seq, .slice Ak r.know.length ck, .slice Ah r.held.length ch, .bool true, .int .u32 (r.ses.last + 1), .int .u8 src, .int .u8 0, .int .u32 0, .slice none 0 0, .int .u32 (r.ses.last + 1)] rfl rfl 28 _ D2.out.at_ rep_size rfl (by simp [Value.oneCell']) ?_)
    | (refine wpList_store_row rfl _ _ _ rfl (w.heap.size + 1 + 1) #[.int .i64 1, .int .u8 r.rep, .int .u8 src, .int .u32 (r.ses.last + 1), .int .u8 0, .int .u8 r.flt, .slice Ak r.know.length ck, .int .u32 0, .slice none 0 0, .int .u8 0, .bool false, .slice none 0 0] rfl rfl 30 _ (D3.out.other (by omega) _).at_ note_size rfl (by simp [Value.oneCell']) ?_))
  refine bodyPost_ret (v := .tuple #[.agg #[.int .u8 r.rep, .int .u8 r.flt, .int .u32 r.epoch, .int .u32 r.seq, .slice Ak r.know.length ck, .slice Ah r.held.length ch, .bool true, .int .u32 (r.ses.last + 1), .int .u8 src, .int .u8 0, .int .u32 0, .slice none 0 0, .int .u32 (r.ses.last + 1)], .agg #[.int .i64 1, .int .u8 r.rep, .int .u8 src, .int .u32 (r.ses.last + 1), .int .u8 0, .int .u8 r.flt, .slice Ak r.know.length ck, .int .u32 0, .slice none 0 0, .int .u8 0, .bool false, .slice none 0 0], .int .i64 0]) (results_two_rows Tryz.results15 _ _ (w.heap.size + 1) (w.heap.size + 1 + 1) 28 30 #[.int .u8 r.rep, .int .u8 r.flt, .int .u32 r.epoch, .int .u32 r.seq, .slice Ak r.know.length ck, .slice Ah r.held.length ch, .bool true, .int .u32 (r.ses.last + 1), .int .u8 src, .int .u8 0, .int .u32 0, .slice none 0 0, .int .u32 (r.ses.last + 1)] #[.int .i64 1, .int .u8 r.rep, .int .u8 src, .int .u32 (r.ses.last + 1), .int .u8 0, .int .u8 r.flt, .slice Ak r.know.length ck, .int .u32 0, .slice none 0 0, .int .u8 0, .bool false, .slice none 0 0] (0, 0) (0, 0) _ _ rfl rfl ((D2.out.row _).other (by omega) _).at_ ((D3.out.other (by omega) _).row _).at_ Tryz.underlying28 Tryz.underlying30 rfl rfl rep_size note_size) rfl ?_
  have hfin := below_setRow (below_setRow HBE.out (Nat.le_succ w.heap.size) #[.int .u8 r.rep, .int .u8 r.flt, .int .u32 r.epoch, .int .u32 r.seq, .slice Ak r.know.length ck, .slice Ah r.held.length ch, .bool true, .int .u32 (r.ses.last + 1), .int .u8 src, .int .u8 0, .int .u32 0, .slice none 0 0, .int .u32 (r.ses.last + 1)]) (Nat.le_trans (Nat.le_succ w.heap.size) (Nat.le_succ _)) #[.int .i64 1, .int .u8 r.rep, .int .u8 src, .int .u32 (r.ses.last + 1), .int .u8 0, .int .u8 r.flt, .slice Ak r.know.length ck, .int .u32 0, .slice none 0 0, .int .u8 0, .bool false, .slice none 0 0]
  exact ⟨_, _, rfl, (HV.out _ hfin).1, (HV.out _ hfin).2, hfin⟩
end Go.Proofs.YtfjaeohfigcciabGreatDoor

