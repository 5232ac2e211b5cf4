/- Texts in one: PRef9. -/
import Derived.Test.YtfjaeohfigcciabGreatDoorQA27
import Derived.Test.YtfjaeohfigcciabGreatDoorQA23
set_option linter.all false
namespace Go.Proofs.YtfjaeohfigcciabGreatDoor
open Go.RowKit

def AccPost (w : World) (x : Acc) (e : Ending) (w' : World) : Prop :=
  ∃ v1 v2,e = .returned (.tuple #[v1,v2,.bool x.more,.int .i64 x.code]) ∧ RpV w' w'.heap.size v1 x.r ∧ NtV w' w'.heap.size v2 x.p ∧ Below w.heap.size w w'
theorem results_two_rows2 {P : Program} {fn : Func} {p1 p2 q s : Tmp} {ty1 ty2 : TypeId} (h : fn.results = #[.cell p1 ty1,.cell p2 ty2,.tmp q,.tmp s]) (tmps : Array Value) (w : World) (g1 g2 : Nat) (t1 t2 : TypeId) (c1 c2 : Array Value) (f1 f2 : Nat × Nat) (d1 d2 : TypeDesc)
    (hp1 : tmps.getD p1 undef = .pointer (some ⟨g1,0,none⟩)) (hp2 : tmps.getD p2 undef = .pointer (some ⟨g2,0,none⟩)) (hg1 : w.heap[g1]? = some (.cells c1 t1 f1)) (hg2 : w.heap[g2]? = some (.cells c2 t2 f2))
    (hu1 : P.underlying ty1 = some d1) (hu2 : P.underlying ty2 = some d2) (hd1 : (match d1 with | .struct _ | .array _ _ => true | _ => false) = true) (hd2 : (match d2 with | .struct _ | .array _ _ => true | _ => false) = true)
    (hi1 : (P.info? ty1).map (·.size) = some c1.size) (hi2 : (P.info? ty2).map (·.size) = some c2.size) :
    (results fn tmps).run P w = .ok (.tuple #[.agg c1,.agg c2,tmps.getD q undef,tmps.getD s undef]) w := by
  have hp1' : tmps[p1]?.getD undef = .pointer (some ⟨g1,0,none⟩) := by simpa using hp1
  have hp2' : tmps[p2]?.getD undef = .pointer (some ⟨g2,0,none⟩) := by simpa using hp2
  simp [results,h,hp1',hp2',asAddr,run_loadVar_row w g1 t1 ty1 c1 f1 d1 hg1 hu1 hd1 hi1,run_loadVar_row w g2 t2 ty2 c2 f2 d2 hg2 hu2 hd2 hi2]

set_option maxHeartbeats 8000000 in
set_option maxRecDepth 100000 in
theorem q7Accept_no1 (v v2 : Value) (r : Rp) (n : Nt) (w : World) (hv : RpV w w.heap.size v r) (hv2 : NtV w w.heap.size v2 n) (h1 : r.know.length ≤ 1000) (h2 : r.held.length ≤ 1000) (h3 : r.ses.offer.length ≤ 1000)
    (g1 : n.know.length ≤ 1000) (g2 : n.ents.length ≤ 1000) (g3 : n.offer.length ≤ 1000) (hr : rpB r = false) :
    Calls Tryz.prog 10 #[v,v2] w (AccPost w ⟨zeroP,zeroN,false,9⟩) := by
  have HR := Lib.hid (fun w1 (hb : Below w.heap.size w w1) => q5Right_any v r w1 (hv.later hb) h1 h2 h3)
  have HN := Lib.hid (fun w1 (hb : Below w.heap.size w w1) => q4Right_any v2 n w1 (hv2.later hb) g1 g2 g3)
  obtain ⟨vk,vh,vo,rfl,hk,hh,ho,hok⟩ := hv
  obtain ⟨uk,ue,uo,rfl,jk,je,jo,jok⟩ := hv2
  clear hok jok
  obtain ⟨Ak,ck,rfl,_⟩ := hk
  obtain ⟨Ah,ch,rfl,_⟩ := hh
  obtain ⟨Ao,co,rfl,_⟩ := ho
  obtain ⟨Bk,dk,rfl,_⟩ := jk
  obtain ⟨Be,de,rfl,_⟩ := je
  obtain ⟨Bo,d0,rfl,_⟩ := jo
  unfold Rp.cells at HR ⊢
  unfold Nt.cells at HN ⊢
  rw [hr] at HR
  clear hr
  go_enter Tryz.func10,Tryz.ntmps10
  go_wp2_with fail
  have HB0 := Lib.hid (al4 w (.cells #[.int .u8 r.rep,.int .u8 r.flt,.int .u32 r.epoch,.int .u32 r.seq,.slice Ak r.know.length ck,.slice Ah r.held.length ch,.bool r.ses.on,.int .u32 r.ses.num,.int .u8 r.ses.src,.int .u8 r.ses.cur,.int .u32 r.ses.epoch,.slice Ao r.ses.offer.length co,.int .u32 r.ses.last] 28) (.cells #[.int .i64 n.kind,.int .u8 n.src,.int .u8 n.dst,.int .u32 n.num,.int .u8 n.cur,.int .u8 n.flt,.slice Bk n.know.length dk,.int .u32 n.epoch,.slice Be n.ents.length de,.int .u8 n.next,.bool n.done,.slice Bo n.offer.length d0] 30) (.cells #[.int .u8 0,.int .u8 0,.int .u32 0,.int .u32 0,.slice none 0 0,.slice none 0 0,.bool false,.int .u32 0,.int .u8 0,.int .u8 0,.int .u32 0,.slice none 0 0,.int .u32 0] 28) (.cells #[.int .i64 0,.int .u8 0,.int .u8 0,.int .u32 0,.int .u8 0,.int .u8 0,.slice none 0 0,.int .u32 0,.slice none 0 0,.int .u8 0,.bool false,.slice none 0 0] 30))
  have BA := Lib.hid (blk_four w #[.int .u8 r.rep,.int .u8 r.flt,.int .u32 r.epoch,.int .u32 r.seq,.slice Ak r.know.length ck,.slice Ah r.held.length ch,.bool r.ses.on,.int .u32 r.ses.num,.int .u8 r.ses.src,.int .u8 r.ses.cur,.int .u32 r.ses.epoch,.slice Ao r.ses.offer.length co,.int .u32 r.ses.last] 28 #[.int .i64 n.kind,.int .u8 n.src,.int .u8 n.dst,.int .u32 n.num,.int .u8 n.cur,.int .u8 n.flt,.slice Bk n.know.length dk,.int .u32 n.epoch,.slice Be n.ents.length de,.int .u8 n.next,.bool n.done,.slice Bo n.offer.length d0] 30 #[.int .u8 0,.int .u8 0,.int .u32 0,.int .u32 0,.slice none 0 0,.slice none 0 0,.bool false,.int .u32 0,.int .u8 0,.int .u8 0,.int .u32 0,.slice none 0 0,.int .u32 0] 28 #[.int .i64 0,.int .u8 0,.int .u8 0,.int .u32 0,.int .u8 0,.int .u8 0,.slice none 0 0,.int .u32 0,.slice none 0 0,.int .u8 0,.bool false,.slice none 0 0] 30)
  generalize (((w.alloc (.cells #[.int .u8 r.rep,.int .u8 r.flt,.int .u32 r.epoch,.int .u32 r.seq,.slice Ak r.know.length ck,.slice Ah r.held.length ch,.bool r.ses.on,.int .u32 r.ses.num,.int .u8 r.ses.src,.int .u8 r.ses.cur,.int .u32 r.ses.epoch,.slice Ao r.ses.offer.length co,.int .u32 r.ses.last] 28)).alloc (.cells #[.int .i64 n.kind,.int .u8 n.src,.int .u8 n.dst,.int .u32 n.num,.int .u8 n.cur,.int .u8 n.flt,.slice Bk n.know.length dk,.int .u32 n.epoch,.slice Be n.ents.length de,.int .u8 n.next,.bool n.done,.slice Bo n.offer.length d0] 30)).alloc (.cells #[.int .u8 0,.int .u8 0,.int .u32 0,.int .u32 0,.slice none 0 0,.slice none 0 0,.bool false,.int .u32 0,.int .u8 0,.int .u8 0,.int .u32 0,.slice none 0 0,.int .u32 0] 28)).alloc (.cells #[.int .i64 0,.int .u8 0,.int .u8 0,.int .u32 0,.int .u8 0,.int .u8 0,.slice none 0 0,.int .u32 0,.slice none 0 0,.int .u8 0,.bool false,.slice none 0 0] 30) = wz at HB0 BA ⊢
  refine (HR.out _ HB0.out).mono ?_
  rintro e w1 ⟨rfl,hb1⟩
  have B1 := Lib.hid (BA.out.1.keep hb1)
  have B2 := Lib.hid (BA.out.2.1.keep hb1)
  have D3 := Lib.hid (BA.out.2.2.1.keep hb1)
  have D4 := Lib.hid (BA.out.2.2.2.keep hb1)
  have HBE := Lib.hid (HB0.out.trans (hb1.mono HB0.out.size)); clear hb1 BA
  go_wp2_with (first
    | (refine wpList_store_row rfl _ _ _ rfl (w.heap.size + 1 + 1) #[.int .u8 0,.int .u8 0,.int .u32 0,.int .u32 0,.slice none 0 0,.slice none 0 0,.bool false,.int .u32 0,.int .u8 0,.int .u8 0,.int .u32 0,.slice none 0 0,.int .u32 0] rfl rfl 28 _ D3.out.at_ rep_size rfl (by simp [Value.oneCell']) ?_)
    | (refine wpList_store_row rfl _ _ _ rfl (w.heap.size + 1 + 1 + 1) #[.int .i64 0,.int .u8 0,.int .u8 0,.int .u32 0,.int .u8 0,.int .u8 0,.slice none 0 0,.int .u32 0,.slice none 0 0,.int .u8 0,.bool false,.slice none 0 0] rfl rfl 30 _ (D4.out.other (by omega) _).at_ note_size rfl (by simp [Value.oneCell']) ?_))
  refine bodyPost_ret (v := .tuple #[.agg #[.int .u8 0,.int .u8 0,.int .u32 0,.int .u32 0,.slice none 0 0,.slice none 0 0,.bool false,.int .u32 0,.int .u8 0,.int .u8 0,.int .u32 0,.slice none 0 0,.int .u32 0],.agg #[.int .i64 0,.int .u8 0,.int .u8 0,.int .u32 0,.int .u8 0,.int .u8 0,.slice none 0 0,.int .u32 0,.slice none 0 0,.int .u8 0,.bool false,.slice none 0 0],.bool false,.int .i64 9]) (results_two_rows2 Tryz.results10 _ _ (w.heap.size + 1 + 1) (w.heap.size + 1 + 1 + 1) 28 30 #[.int .u8 0,.int .u8 0,.int .u32 0,.int .u32 0,.slice none 0 0,.slice none 0 0,.bool false,.int .u32 0,.int .u8 0,.int .u8 0,.int .u32 0,.slice none 0 0,.int .u32 0] #[.int .i64 0,.int .u8 0,.int .u8 0,.int .u32 0,.int .u8 0,.int .u8 0,.slice none 0 0,.int .u32 0,.slice none 0 0,.int .u8 0,.bool false,.slice none 0 0] (0,0) (0,0) _ _ rfl rfl ((D3.out.row _).other (by omega) _).at_ ((D4.out.other (by omega) _).row _).at_ Tryz.underlying28 Tryz.underlying30 rfl rfl rep_size note_size) rfl ?_
  have hfin := below_setRow (below_setRow HBE.out (Nat.le_trans (Nat.le_succ w.heap.size) (Nat.le_succ _)) #[.int .u8 0,.int .u8 0,.int .u32 0,.int .u32 0,.slice none 0 0,.slice none 0 0,.bool false,.int .u32 0,.int .u8 0,.int .u8 0,.int .u32 0,.slice none 0 0,.int .u32 0]) (Nat.le_trans (Nat.le_trans (Nat.le_succ w.heap.size) (Nat.le_succ _)) (Nat.le_succ _)) #[.int .i64 0,.int .u8 0,.int .u8 0,.int .u32 0,.int .u8 0,.int .u8 0,.slice none 0 0,.int .u32 0,.slice none 0 0,.int .u8 0,.bool false,.slice none 0 0]
  exact ⟨_,_,rfl,zeroP_v _ _,zero_v _ _,hfin⟩

set_option maxHeartbeats 8000000 in
set_option maxRecDepth 100000 in
theorem q7Accept_no2 (v v2 : Value) (r : Rp) (n : Nt) (w : World) (hv : RpV w w.heap.size v r) (hv2 : NtV w w.heap.size v2 n) (h1 : r.know.length ≤ 1000) (h2 : r.held.length ≤ 1000) (h3 : r.ses.offer.length ≤ 1000)
    (g1 : n.know.length ≤ 1000) (g2 : n.ents.length ≤ 1000) (g3 : n.offer.length ≤ 1000) (hr : rpB r = true) (hn : noteB n = false) :
    Calls Tryz.prog 10 #[v,v2] w (AccPost w ⟨zeroP,zeroN,false,3⟩) := by
  have HR := Lib.hid (fun w1 (hb : Below w.heap.size w w1) => q5Right_any v r w1 (hv.later hb) h1 h2 h3)
  have HN := Lib.hid (fun w1 (hb : Below w.heap.size w w1) => q4Right_any v2 n w1 (hv2.later hb) g1 g2 g3)
  obtain ⟨vk,vh,vo,rfl,hk,hh,ho,hok⟩ := hv
  obtain ⟨uk,ue,uo,rfl,jk,je,jo,jok⟩ := hv2
  clear hok jok
  obtain ⟨Ak,ck,rfl,_⟩ := hk
  obtain ⟨Ah,ch,rfl,_⟩ := hh
  obtain ⟨Ao,co,rfl,_⟩ := ho
  obtain ⟨Bk,dk,rfl,_⟩ := jk
  obtain ⟨Be,de,rfl,_⟩ := je
  obtain ⟨Bo,d0,rfl,_⟩ := jo
  unfold Rp.cells at HR ⊢
  unfold Nt.cells at HN ⊢
  rw [hr] at HR
  rw [hn] at HN
  clear hr hn
  go_enter Tryz.func10,Tryz.ntmps10
  go_wp2_with fail
  have HB0 := Lib.hid (al4 w (.cells #[.int .u8 r.rep,.int .u8 r.flt,.int .u32 r.epoch,.int .u32 r.seq,.slice Ak r.know.length ck,.slice Ah r.held.length ch,.bool r.ses.on,.int .u32 r.ses.num,.int .u8 r.ses.src,.int .u8 r.ses.cur,.int .u32 r.ses.epoch,.slice Ao r.ses.offer.length co,.int .u32 r.ses.last] 28) (.cells #[.int .i64 n.kind,.int .u8 n.src,.int .u8 n.dst,.int .u32 n.num,.int .u8 n.cur,.int .u8 n.flt,.slice Bk n.know.length dk,.int .u32 n.epoch,.slice Be n.ents.length de,.int .u8 n.next,.bool n.done,.slice Bo n.offer.length d0] 30) (.cells #[.int .u8 0,.int .u8 0,.int .u32 0,.int .u32 0,.slice none 0 0,.slice none 0 0,.bool false,.int .u32 0,.int .u8 0,.int .u8 0,.int .u32 0,.slice none 0 0,.int .u32 0] 28) (.cells #[.int .i64 0,.int .u8 0,.int .u8 0,.int .u32 0,.int .u8 0,.int .u8 0,.slice none 0 0,.int .u32 0,.slice none 0 0,.int .u8 0,.bool false,.slice none 0 0] 30))
  have BA := Lib.hid (blk_four w #[.int .u8 r.rep,.int .u8 r.flt,.int .u32 r.epoch,.int .u32 r.seq,.slice Ak r.know.length ck,.slice Ah r.held.length ch,.bool r.ses.on,.int .u32 r.ses.num,.int .u8 r.ses.src,.int .u8 r.ses.cur,.int .u32 r.ses.epoch,.slice Ao r.ses.offer.length co,.int .u32 r.ses.last] 28 #[.int .i64 n.kind,.int .u8 n.src,.int .u8 n.dst,.int .u32 n.num,.int .u8 n.cur,.int .u8 n.flt,.slice Bk n.know.length dk,.int .u32 n.epoch,.slice Be n.ents.length de,.int .u8 n.next,.bool n.done,.slice Bo n.offer.length d0] 30 #[.int .u8 0,.int .u8 0,.int .u32 0,.int .u32 0,.slice none 0 0,.slice none 0 0,.bool false,.int .u32 0,.int .u8 0,.int .u8 0,.int .u32 0,.slice none 0 0,.int .u32 0] 28 #[.int .i64 0,.int .u8 0,.int .u8 0,.int .u32 0,.int .u8 0,.int .u8 0,.slice none 0 0,.int .u32 0,.slice none 0 0,.int .u8 0,.bool false,.slice none 0 0] 30)
  generalize (((w.alloc (.cells #[.int .u8 r.rep,.int .u8 r.flt,.int .u32 r.epoch,.int .u32 r.seq,.slice Ak r.know.length ck,.slice Ah r.held.length ch,.bool r.ses.on,.int .u32 r.ses.num,.int .u8 r.ses.src,.int .u8 r.ses.cur,.int .u32 r.ses.epoch,.slice Ao r.ses.offer.length co,.int .u32 r.ses.last] 28)).alloc (.cells #[.int .i64 n.kind,.int .u8 n.src,.int .u8 n.dst,.int .u32 n.num,.int .u8 n.cur,.int .u8 n.flt,.slice Bk n.know.length dk,.int .u32 n.epoch,.slice Be n.ents.length de,.int .u8 n.next,.bool n.done,.slice Bo n.offer.length d0] 30)).alloc (.cells #[.int .u8 0,.int .u8 0,.int .u32 0,.int .u32 0,.slice none 0 0,.slice none 0 0,.bool false,.int .u32 0,.int .u8 0,.int .u8 0,.int .u32 0,.slice none 0 0,.int .u32 0] 28)).alloc (.cells #[.int .i64 0,.int .u8 0,.int .u8 0,.int .u32 0,.int .u8 0,.int .u8 0,.slice none 0 0,.int .u32 0,.slice none 0 0,.int .u8 0,.bool false,.slice none 0 0] 30) = wz at HB0 BA ⊢
  refine (HR.out _ HB0.out).mono ?_
  rintro e w1 ⟨rfl,hb1⟩
  have B1 := Lib.hid (BA.out.1.keep hb1)
  have B2 := Lib.hid (BA.out.2.1.keep hb1)
  have D3 := Lib.hid (BA.out.2.2.1.keep hb1)
  have D4 := Lib.hid (BA.out.2.2.2.keep hb1)
  have HBE := Lib.hid (HB0.out.trans (hb1.mono HB0.out.size)); clear hb1 BA
  have b0 := B2.out.cell 0 (.int .i64 n.kind) rfl
  have b1 := B2.out.cell 1 (.int .u8 n.src) rfl
  have b2 := B2.out.cell 2 (.int .u8 n.dst) rfl
  have b3 := B2.out.cell 3 (.int .u32 n.num) rfl
  have b4 := B2.out.cell 4 (.int .u8 n.cur) rfl
  have b5 := B2.out.cell 5 (.int .u8 n.flt) rfl
  have b6 := B2.out.cell 6 (.slice Bk n.know.length dk) rfl
  have b7 := B2.out.cell 7 (.int .u32 n.epoch) rfl
  have b8 := B2.out.cell 8 (.slice Be n.ents.length de) rfl
  have b9 := B2.out.cell 9 (.int .u8 n.next) rfl
  have b10 := B2.out.cell 10 (.bool n.done) rfl
  have b11 := B2.out.cell 11 (.slice Bo n.offer.length d0) rfl
  go_wp2_with fail
  refine (HN.out _ HBE.out).mono ?_
  rintro e w2 ⟨rfl,hb2⟩
  have B1 := Lib.hid (B1.out.keep hb2)
  have B2 := Lib.hid (B2.out.keep hb2)
  have D3 := Lib.hid (D3.out.keep hb2)
  have D4 := Lib.hid (D4.out.keep hb2)
  have HBE := Lib.hid (HBE.out.trans (hb2.mono HBE.out.size)); clear hb2 b0 b1 b2 b3 b4 b5 b6 b7 b8 b9 b10 b11
  go_wp2_with (first
    | (refine wpList_store_row rfl _ _ _ rfl (w.heap.size + 1 + 1) #[.int .u8 0,.int .u8 0,.int .u32 0,.int .u32 0,.slice none 0 0,.slice none 0 0,.bool false,.int .u32 0,.int .u8 0,.int .u8 0,.int .u32 0,.slice none 0 0,.int .u32 0] rfl rfl 28 _ D3.out.at_ rep_size rfl (by simp [Value.oneCell']) ?_)
    | (refine wpList_store_row rfl _ _ _ rfl (w.heap.size + 1 + 1 + 1) #[.int .i64 0,.int .u8 0,.int .u8 0,.int .u32 0,.int .u8 0,.int .u8 0,.slice none 0 0,.int .u32 0,.slice none 0 0,.int .u8 0,.bool false,.slice none 0 0] rfl rfl 30 _ (D4.out.other (by omega) _).at_ note_size rfl (by simp [Value.oneCell']) ?_))
  refine bodyPost_ret (v := .tuple #[.agg #[.int .u8 0,.int .u8 0,.int .u32 0,.int .u32 0,.slice none 0 0,.slice none 0 0,.bool false,.int .u32 0,.int .u8 0,.int .u8 0,.int .u32 0,.slice none 0 0,.int .u32 0],.agg #[.int .i64 0,.int .u8 0,.int .u8 0,.int .u32 0,.int .u8 0,.int .u8 0,.slice none 0 0,.int .u32 0,.slice none 0 0,.int .u8 0,.bool false,.slice none 0 0],.bool false,.int .i64 3]) (results_two_rows2 Tryz.results10 _ _ (w.heap.size + 1 + 1) (w.heap.size + 1 + 1 + 1) 28 30 #[.int .u8 0,.int .u8 0,.int .u32 0,.int .u32 0,.slice none 0 0,.slice none 0 0,.bool false,.int .u32 0,.int .u8 0,.int .u8 0,.int .u32 0,.slice none 0 0,.int .u32 0] #[.int .i64 0,.int .u8 0,.int .u8 0,.int .u32 0,.int .u8 0,.int .u8 0,.slice none 0 0,.int .u32 0,.slice none 0 0,.int .u8 0,.bool false,.slice none 0 0] (0,0) (0,0) _ _ rfl rfl ((D3.out.row _).other (by omega) _).at_ ((D4.out.other (by omega) _).row _).at_ Tryz.underlying28 Tryz.underlying30 rfl rfl rep_size note_size) rfl ?_
  have hfin := below_setRow (below_setRow HBE.out (Nat.le_trans (Nat.le_succ w.heap.size) (Nat.le_succ _)) #[.int .u8 0,.int .u8 0,.int .u32 0,.int .u32 0,.slice none 0 0,.slice none 0 0,.bool false,.int .u32 0,.int .u8 0,.int .u8 0,.int .u32 0,.slice none 0 0,.int .u32 0]) (Nat.le_trans (Nat.le_trans (Nat.le_succ w.heap.size) (Nat.le_succ _)) (Nat.le_succ _)) #[.int .i64 0,.int .u8 0,.int .u8 0,.int .u32 0,.int .u8 0,.int .u8 0,.slice none 0 0,.int .u32 0,.slice none 0 0,.int .u8 0,.bool false,.slice none 0 0]
  exact ⟨_,_,rfl,zeroP_v _ _,zero_v _ _,hfin⟩

set_option maxHeartbeats 8000000 in
set_option maxRecDepth 100000 in
theorem q7Accept_no3a (v v2 : Value) (r : Rp) (n : Nt) (w : World) (hv : RpV w w.heap.size v r) (hv2 : NtV w w.heap.size v2 n) (h1 : r.know.length ≤ 1000) (h2 : r.held.length ≤ 1000) (h3 : r.ses.offer.length ≤ 1000)
    (g1 : n.know.length ≤ 1000) (g2 : n.ents.length ≤ 1000) (g3 : n.offer.length ≤ 1000) (hr : rpB r = true) (hn : noteB n = true) (kb : (n.kind != 2) = true) :
    Calls Tryz.prog 10 #[v,v2] w (AccPost w ⟨zeroP,zeroN,false,4⟩) := by
  have HR := Lib.hid (fun w1 (hb : Below w.heap.size w w1) => q5Right_any v r w1 (hv.later hb) h1 h2 h3)
  have HN := Lib.hid (fun w1 (hb : Below w.heap.size w w1) => q4Right_any v2 n w1 (hv2.later hb) g1 g2 g3)
  obtain ⟨vk,vh,vo,rfl,hk,hh,ho,hok⟩ := hv
  obtain ⟨uk,ue,uo,rfl,jk,je,jo,jok⟩ := hv2
  clear hok jok
  obtain ⟨Ak,ck,rfl,_⟩ := hk
  obtain ⟨Ah,ch,rfl,_⟩ := hh
  obtain ⟨Ao,co,rfl,_⟩ := ho
  obtain ⟨Bk,dk,rfl,_⟩ := jk
  obtain ⟨Be,de,rfl,_⟩ := je
  obtain ⟨Bo,d0,rfl,_⟩ := jo
  unfold Rp.cells at HR ⊢
  unfold Nt.cells at HN ⊢
  rw [hr] at HR
  rw [hn] at HN
  clear hr hn
  go_enter Tryz.func10,Tryz.ntmps10
  go_wp2_with fail
  have HB0 := Lib.hid (al4 w (.cells #[.int .u8 r.rep,.int .u8 r.flt,.int .u32 r.epoch,.int .u32 r.seq,.slice Ak r.know.length ck,.slice Ah r.held.length ch,.bool r.ses.on,.int .u32 r.ses.num,.int .u8 r.ses.src,.int .u8 r.ses.cur,.int .u32 r.ses.epoch,.slice Ao r.ses.offer.length co,.int .u32 r.ses.last] 28) (.cells #[.int .i64 n.kind,.int .u8 n.src,.int .u8 n.dst,.int .u32 n.num,.int .u8 n.cur,.int .u8 n.flt,.slice Bk n.know.length dk,.int .u32 n.epoch,.slice Be n.ents.length de,.int .u8 n.next,.bool n.done,.slice Bo n.offer.length d0] 30) (.cells #[.int .u8 0,.int .u8 0,.int .u32 0,.int .u32 0,.slice none 0 0,.slice none 0 0,.bool false,.int .u32 0,.int .u8 0,.int .u8 0,.int .u32 0,.slice none 0 0,.int .u32 0] 28) (.cells #[.int .i64 0,.int .u8 0,.int .u8 0,.int .u32 0,.int .u8 0,.int .u8 0,.slice none 0 0,.int .u32 0,.slice none 0 0,.int .u8 0,.bool false,.slice none 0 0] 30))
  have BA := Lib.hid (blk_four w #[.int .u8 r.rep,.int .u8 r.flt,.int .u32 r.epoch,.int .u32 r.seq,.slice Ak r.know.length ck,.slice Ah r.held.length ch,.bool r.ses.on,.int .u32 r.ses.num,.int .u8 r.ses.src,.int .u8 r.ses.cur,.int .u32 r.ses.epoch,.slice Ao r.ses.offer.length co,.int .u32 r.ses.last] 28 #[.int .i64 n.kind,.int .u8 n.src,.int .u8 n.dst,.int .u32 n.num,.int .u8 n.cur,.int .u8 n.flt,.slice Bk n.know.length dk,.int .u32 n.epoch,.slice Be n.ents.length de,.int .u8 n.next,.bool n.done,.slice Bo n.offer.length d0] 30 #[.int .u8 0,.int .u8 0,.int .u32 0,.int .u32 0,.slice none 0 0,.slice none 0 0,.bool false,.int .u32 0,.int .u8 0,.int .u8 0,.int .u32 0,.slice none 0 0,.int .u32 0] 28 #[.int .i64 0,.int .u8 0,.int .u8 0,.int .u32 0,.int .u8 0,.int .u8 0,.slice none 0 0,.int .u32 0,.slice none 0 0,.int .u8 0,.bool false,.slice none 0 0] 30)
  generalize (((w.alloc (.cells #[.int .u8 r.rep,.int .u8 r.flt,.int .u32 r.epoch,.int .u32 r.seq,.slice Ak r.know.length ck,.slice Ah r.held.length ch,.bool r.ses.on,.int .u32 r.ses.num,.int .u8 r.ses.src,.int .u8 r.ses.cur,.int .u32 r.ses.epoch,.slice Ao r.ses.offer.length co,.int .u32 r.ses.last] 28)).alloc (.cells #[.int .i64 n.kind,.int .u8 n.src,.int .u8 n.dst,.int .u32 n.num,.int .u8 n.cur,.int .u8 n.flt,.slice Bk n.know.length dk,.int .u32 n.epoch,.slice Be n.ents.length de,.int .u8 n.next,.bool n.done,.slice Bo n.offer.length d0] 30)).alloc (.cells #[.int .u8 0,.int .u8 0,.int .u32 0,.int .u32 0,.slice none 0 0,.slice none 0 0,.bool false,.int .u32 0,.int .u8 0,.int .u8 0,.int .u32 0,.slice none 0 0,.int .u32 0] 28)).alloc (.cells #[.int .i64 0,.int .u8 0,.int .u8 0,.int .u32 0,.int .u8 0,.int .u8 0,.slice none 0 0,.int .u32 0,.slice none 0 0,.int .u8 0,.bool false,.slice none 0 0] 30) = wz at HB0 BA ⊢
  refine (HR.out _ HB0.out).mono ?_
  rintro e w1 ⟨rfl,hb1⟩
  have B1 := Lib.hid (BA.out.1.keep hb1)
  have B2 := Lib.hid (BA.out.2.1.keep hb1)
  have D3 := Lib.hid (BA.out.2.2.1.keep hb1)
  have D4 := Lib.hid (BA.out.2.2.2.keep hb1)
  have HBE := Lib.hid (HB0.out.trans (hb1.mono HB0.out.size)); clear hb1 BA
  have b0 := B2.out.cell 0 (.int .i64 n.kind) rfl
  have b1 := B2.out.cell 1 (.int .u8 n.src) rfl
  have b2 := B2.out.cell 2 (.int .u8 n.dst) rfl
  have b3 := B2.out.cell 3 (.int .u32 n.num) rfl
  have b4 := B2.out.cell 4 (.int .u8 n.cur) rfl
  have b5 := B2.out.cell 5 (.int .u8 n.flt) rfl
  have b6 := B2.out.cell 6 (.slice Bk n.know.length dk) rfl
  have b7 := B2.out.cell 7 (.int .u32 n.epoch) rfl
  have b8 := B2.out.cell 8 (.slice Be n.ents.length de) rfl
  have b9 := B2.out.cell 9 (.int .u8 n.next) rfl
  have b10 := B2.out.cell 10 (.bool n.done) rfl
  have b11 := B2.out.cell 11 (.slice Bo n.offer.length d0) rfl
  go_wp2_with fail
  refine (HN.out _ HBE.out).mono ?_
  rintro e w2 ⟨rfl,hb2⟩
  have B1 := Lib.hid (B1.out.keep hb2)
  have B2 := Lib.hid (B2.out.keep hb2)
  have D3 := Lib.hid (D3.out.keep hb2)
  have D4 := Lib.hid (D4.out.keep hb2)
  have HBE := Lib.hid (HBE.out.trans (hb2.mono HBE.out.size)); clear hb2 b0 b1 b2 b3 b4 b5 b6 b7 b8 b9 b10 b11
  have b0 := B2.out.cell 0 (.int .i64 n.kind) rfl
  have b1 := B2.out.cell 1 (.int .u8 n.src) rfl
  have b2 := B2.out.cell 2 (.int .u8 n.dst) rfl
  have b3 := B2.out.cell 3 (.int .u32 n.num) rfl
  have b4 := B2.out.cell 4 (.int .u8 n.cur) rfl
  have b5 := B2.out.cell 5 (.int .u8 n.flt) rfl
  have b6 := B2.out.cell 6 (.slice Bk n.know.length dk) rfl
  have b7 := B2.out.cell 7 (.int .u32 n.epoch) rfl
  have b8 := B2.out.cell 8 (.slice Be n.ents.length de) rfl
  have b9 := B2.out.cell 9 (.int .u8 n.next) rfl
  have b10 := B2.out.cell 10 (.bool n.done) rfl
  have b11 := B2.out.cell 11 (.slice Bo n.offer.length d0) rfl
  have c0 := B1.out.cell 0 (.int .u8 r.rep) rfl
  have c1 := B1.out.cell 1 (.int .u8 r.flt) rfl
  have c2 := B1.out.cell 2 (.int .u32 r.epoch) rfl
  have c3 := B1.out.cell 3 (.int .u32 r.seq) rfl
  have c4 := B1.out.cell 4 (.slice Ak r.know.length ck) rfl
  have c5 := B1.out.cell 5 (.slice Ah r.held.length ch) rfl
  have c6 := B1.out.cell 6 (.bool r.ses.on) rfl
  have c7 := B1.out.cell 7 (.int .u32 r.ses.num) rfl
  have c8 := B1.out.cell 8 (.int .u8 r.ses.src) rfl
  have c9 := B1.out.cell 9 (.int .u8 r.ses.cur) rfl
  have c10 := B1.out.cell 10 (.int .u32 r.ses.epoch) rfl
  have c11 := B1.out.cell 11 (.slice Ao r.ses.offer.length co) rfl
  have c12 := B1.out.cell 12 (.int .u32 r.ses.last) rfl
  have hw1 : w.heap.size < w2.heap.size := B1.out.lt
  have hw2 : w.heap.size + 1 < w2.heap.size := B2.out.lt
  have HAL := Lib.hid (al1 w2 (.cells #[.bool r.ses.on,.int .u32 r.ses.num,.int .u8 r.ses.src,.int .u8 r.ses.cur,.int .u32 r.ses.epoch,.slice Ao r.ses.offer.length co,.int .u32 r.ses.last] 26))
  have D3 := Lib.hid (D3.out.keep HAL.out)
  have D4 := Lib.hid (D4.out.keep HAL.out)
  have HBE := Lib.hid (HBE.out.trans (HAL.out.mono HBE.out.size)); clear HAL
  go_wp2_with (first
    | (refine wpList_store_row rfl _ _ _ rfl (w.heap.size + 1 + 1) #[.int .u8 0,.int .u8 0,.int .u32 0,.int .u32 0,.slice none 0 0,.slice none 0 0,.bool false,.int .u32 0,.int .u8 0,.int .u8 0,.int .u32 0,.slice none 0 0,.int .u32 0] rfl rfl 28 _ D3.out.at_ rep_size rfl (by simp [Value.oneCell']) ?_)
    | (refine wpList_store_row rfl _ _ _ rfl (w.heap.size + 1 + 1 + 1) #[.int .i64 0,.int .u8 0,.int .u8 0,.int .u32 0,.int .u8 0,.int .u8 0,.slice none 0 0,.int .u32 0,.slice none 0 0,.int .u8 0,.bool false,.slice none 0 0] rfl rfl 30 _ (D4.out.other (by omega) _).at_ note_size rfl (by simp [Value.oneCell']) ?_))
  refine bodyPost_ret (v := .tuple #[.agg #[.int .u8 0,.int .u8 0,.int .u32 0,.int .u32 0,.slice none 0 0,.slice none 0 0,.bool false,.int .u32 0,.int .u8 0,.int .u8 0,.int .u32 0,.slice none 0 0,.int .u32 0],.agg #[.int .i64 0,.int .u8 0,.int .u8 0,.int .u32 0,.int .u8 0,.int .u8 0,.slice none 0 0,.int .u32 0,.slice none 0 0,.int .u8 0,.bool false,.slice none 0 0],.bool false,.int .i64 4]) (results_two_rows2 Tryz.results10 _ _ (w.heap.size + 1 + 1) (w.heap.size + 1 + 1 + 1) 28 30 #[.int .u8 0,.int .u8 0,.int .u32 0,.int .u32 0,.slice none 0 0,.slice none 0 0,.bool false,.int .u32 0,.int .u8 0,.int .u8 0,.int .u32 0,.slice none 0 0,.int .u32 0] #[.int .i64 0,.int .u8 0,.int .u8 0,.int .u32 0,.int .u8 0,.int .u8 0,.slice none 0 0,.int .u32 0,.slice none 0 0,.int .u8 0,.bool false,.slice none 0 0] (0,0) (0,0) _ _ rfl rfl ((D3.out.row _).other (by omega) _).at_ ((D4.out.other (by omega) _).row _).at_ Tryz.underlying28 Tryz.underlying30 rfl rfl rep_size note_size) rfl ?_
  have hfin := below_setRow (below_setRow HBE.out (Nat.le_trans (Nat.le_succ w.heap.size) (Nat.le_succ _)) #[.int .u8 0,.int .u8 0,.int .u32 0,.int .u32 0,.slice none 0 0,.slice none 0 0,.bool false,.int .u32 0,.int .u8 0,.int .u8 0,.int .u32 0,.slice none 0 0,.int .u32 0]) (Nat.le_trans (Nat.le_trans (Nat.le_succ w.heap.size) (Nat.le_succ _)) (Nat.le_succ _)) #[.int .i64 0,.int .u8 0,.int .u8 0,.int .u32 0,.int .u8 0,.int .u8 0,.slice none 0 0,.int .u32 0,.slice none 0 0,.int .u8 0,.bool false,.slice none 0 0]
  exact ⟨_,_,rfl,zeroP_v _ _,zero_v _ _,hfin⟩

set_option maxHeartbeats 8000000 in
set_option maxRecDepth 100000 in
theorem q7Accept_no3b (v v2 : Value) (r : Rp) (n : Nt) (w : World) (hv : RpV w w.heap.size v r) (hv2 : NtV w w.heap.size v2 n) (h1 : r.know.length ≤ 1000) (h2 : r.held.length ≤ 1000) (h3 : r.ses.offer.length ≤ 1000)
    (g1 : n.know.length ≤ 1000) (g2 : n.ents.length ≤ 1000) (g3 : n.offer.length ≤ 1000) (hr : rpB r = true) (hn : noteB n = true) (k0 : (n.kind != 2) = false) (kb : (n.dst != r.rep) = true) :
    Calls Tryz.prog 10 #[v,v2] w (AccPost w ⟨zeroP,zeroN,false,4⟩) := by
  have HR := Lib.hid (fun w1 (hb : Below w.heap.size w w1) => q5Right_any v r w1 (hv.later hb) h1 h2 h3)
  have HN := Lib.hid (fun w1 (hb : Below w.heap.size w w1) => q4Right_any v2 n w1 (hv2.later hb) g1 g2 g3)
  obtain ⟨vk,vh,vo,rfl,hk,hh,ho,hok⟩ := hv
  obtain ⟨uk,ue,uo,rfl,jk,je,jo,jok⟩ := hv2
  clear hok jok
  obtain ⟨Ak,ck,rfl,_⟩ := hk
  obtain ⟨Ah,ch,rfl,_⟩ := hh
  obtain ⟨Ao,co,rfl,_⟩ := ho
  obtain ⟨Bk,dk,rfl,_⟩ := jk
  obtain ⟨Be,de,rfl,_⟩ := je
  obtain ⟨Bo,d0,rfl,_⟩ := jo
  unfold Rp.cells at HR ⊢
  unfold Nt.cells at HN ⊢
  rw [hr] at HR
  rw [hn] at HN
  clear hr hn
  go_enter Tryz.func10,Tryz.ntmps10
  go_wp2_with fail
  have HB0 := Lib.hid (al4 w (.cells #[.int .u8 r.rep,.int .u8 r.flt,.int .u32 r.epoch,.int .u32 r.seq,.slice Ak r.know.length ck,.slice Ah r.held.length ch,.bool r.ses.on,.int .u32 r.ses.num,.int .u8 r.ses.src,.int .u8 r.ses.cur,.int .u32 r.ses.epoch,.slice Ao r.ses.offer.length co,.int .u32 r.ses.last] 28) (.cells #[.int .i64 n.kind,.int .u8 n.src,.int .u8 n.dst,.int .u32 n.num,.int .u8 n.cur,.int .u8 n.flt,.slice Bk n.know.length dk,.int .u32 n.epoch,.slice Be n.ents.length de,.int .u8 n.next,.bool n.done,.slice Bo n.offer.length d0] 30) (.cells #[.int .u8 0,.int .u8 0,.int .u32 0,.int .u32 0,.slice none 0 0,.slice none 0 0,.bool false,.int .u32 0,.int .u8 0,.int .u8 0,.int .u32 0,.slice none 0 0,.int .u32 0] 28) (.cells #[.int .i64 0,.int .u8 0,.int .u8 0,.int .u32 0,.int .u8 0,.int .u8 0,.slice none 0 0,.int .u32 0,.slice none 0 0,.int .u8 0,.bool false,.slice none 0 0] 30))
  have BA := Lib.hid (blk_four w #[.int .u8 r.rep,.int .u8 r.flt,.int .u32 r.epoch,.int .u32 r.seq,.slice Ak r.know.length ck,.slice Ah r.held.length ch,.bool r.ses.on,.int .u32 r.ses.num,.int .u8 r.ses.src,.int .u8 r.ses.cur,.int .u32 r.ses.epoch,.slice Ao r.ses.offer.length co,.int .u32 r.ses.last] 28 #[.int .i64 n.kind,.int .u8 n.src,.int .u8 n.dst,.int .u32 n.num,.int .u8 n.cur,.int .u8 n.flt,.slice Bk n.know.length dk,.int .u32 n.epoch,.slice Be n.ents.length de,.int .u8 n.next,.bool n.done,.slice Bo n.offer.length d0] 30 #[.int .u8 0,.int .u8 0,.int .u32 0,.int .u32 0,.slice none 0 0,.slice none 0 0,.bool false,.int .u32 0,.int .u8 0,.int .u8 0,.int .u32 0,.slice none 0 0,.int .u32 0] 28 #[.int .i64 0,.int .u8 0,.int .u8 0,.int .u32 0,.int .u8 0,.int .u8 0,.slice none 0 0,.int .u32 0,.slice none 0 0,.int .u8 0,.bool false,.slice none 0 0] 30)
  generalize (((w.alloc (.cells #[.int .u8 r.rep,.int .u8 r.flt,.int .u32 r.epoch,.int .u32 r.seq,.slice Ak r.know.length ck,.slice Ah r.held.length ch,.bool r.ses.on,.int .u32 r.ses.num,.int .u8 r.ses.src,.int .u8 r.ses.cur,.int .u32 r.ses.epoch,.slice Ao r.ses.offer.length co,.int .u32 r.ses.last] 28)).alloc (.cells #[.int .i64 n.kind,.int .u8 n.src,.int .u8 n.dst,.int .u32 n.num,.int .u8 n.cur,.int .u8 n.flt,.slice Bk n.know.length dk,.int .u32 n.epoch,.slice Be n.ents.length de,.int .u8 n.next,.bool n.done,.slice Bo n.offer.length d0] 30)).alloc (.cells #[.int .u8 0,.int .u8 0,.int .u32 0,.int .u32 0,.slice none 0 0,.slice none 0 0,.bool false,.int .u32 0,.int .u8 0,.int .u8 0,.int .u32 0,.slice none 0 0,.int .u32 0] 28)).alloc (.cells #[.int .i64 0,.int .u8 0,.int .u8 0,.int .u32 0,.int .u8 0,.int .u8 0,.slice none 0 0,.int .u32 0,.slice none 0 0,.int .u8 0,.bool false,.slice none 0 0] 30) = wz at HB0 BA ⊢
  refine (HR.out _ HB0.out).mono ?_
  rintro e w1 ⟨rfl,hb1⟩
  have B1 := Lib.hid (BA.out.1.keep hb1)
  have B2 := Lib.hid (BA.out.2.1.keep hb1)
  have D3 := Lib.hid (BA.out.2.2.1.keep hb1)
  have D4 := Lib.hid (BA.out.2.2.2.keep hb1)
  have HBE := Lib.hid (HB0.out.trans (hb1.mono HB0.out.size)); clear hb1 BA
  have b0 := B2.out.cell 0 (.int .i64 n.kind) rfl
  have b1 := B2.out.cell 1 (.int .u8 n.src) rfl
  have b2 := B2.out.cell 2 (.int .u8 n.dst) rfl
  have b3 := B2.out.cell 3 (.int .u32 n.num) rfl
  have b4 := B2.out.cell 4 (.int .u8 n.cur) rfl
  have b5 := B2.out.cell 5 (.int .u8 n.flt) rfl
  have b6 := B2.out.cell 6 (.slice Bk n.know.length dk) rfl
  have b7 := B2.out.cell 7 (.int .u32 n.epoch) rfl
  have b8 := B2.out.cell 8 (.slice Be n.ents.length de) rfl
  have b9 := B2.out.cell 9 (.int .u8 n.next) rfl
  have b10 := B2.out.cell 10 (.bool n.done) rfl
  have b11 := B2.out.cell 11 (.slice Bo n.offer.length d0) rfl
  go_wp2_with fail
  refine (HN.out _ HBE.out).mono ?_
  rintro e w2 ⟨rfl,hb2⟩
  have B1 := Lib.hid (B1.out.keep hb2)
  have B2 := Lib.hid (B2.out.keep hb2)
  have D3 := Lib.hid (D3.out.keep hb2)
  have D4 := Lib.hid (D4.out.keep hb2)
  have HBE := Lib.hid (HBE.out.trans (hb2.mono HBE.out.size)); clear hb2 b0 b1 b2 b3 b4 b5 b6 b7 b8 b9 b10 b11
  have b0 := B2.out.cell 0 (.int .i64 n.kind) rfl
  have b1 := B2.out.cell 1 (.int .u8 n.src) rfl
  have b2 := B2.out.cell 2 (.int .u8 n.dst) rfl
  have b3 := B2.out.cell 3 (.int .u32 n.num) rfl
  have b4 := B2.out.cell 4 (.int .u8 n.cur) rfl
  have b5 := B2.out.cell 5 (.int .u8 n.flt) rfl
  have b6 := B2.out.cell 6 (.slice Bk n.know.length dk) rfl
  have b7 := B2.out.cell 7 (.int .u32 n.epoch) rfl
  have b8 := B2.out.cell 8 (.slice Be n.ents.length de) rfl
  have b9 := B2.out.cell 9 (.int .u8 n.next) rfl
  have b10 := B2.out.cell 10 (.bool n.done) rfl
  have b11 := B2.out.cell 11 (.slice Bo n.offer.length d0) rfl
  have c0 := B1.out.cell 0 (.int .u8 r.rep) rfl
  have c1 := B1.out.cell 1 (.int .u8 r.flt) rfl
  have c2 := B1.out.cell 2 (.int .u32 r.epoch) rfl
  have c3 := B1.out.cell 3 (.int .u32 r.seq) rfl
  have c4 := B1.out.cell 4 (.slice Ak r.know.length ck) rfl
  have c5 := B1.out.cell 5 (.slice Ah r.held.length ch) rfl
  have c6 := B1.out.cell 6 (.bool r.ses.on) rfl
  have c7 := B1.out.cell 7 (.int .u32 r.ses.num) rfl
  have c8 := B1.out.cell 8 (.int .u8 r.ses.src) rfl
  have c9 := B1.out.cell 9 (.int .u8 r.ses.cur) rfl
  have c10 := B1.out.cell 10 (.int .u32 r.ses.epoch) rfl
  have c11 := B1.out.cell 11 (.slice Ao r.ses.offer.length co) rfl
  have c12 := B1.out.cell 12 (.int .u32 r.ses.last) rfl
  have hw1 : w.heap.size < w2.heap.size := B1.out.lt
  have hw2 : w.heap.size + 1 < w2.heap.size := B2.out.lt
  have HAL := Lib.hid (al1 w2 (.cells #[.bool r.ses.on,.int .u32 r.ses.num,.int .u8 r.ses.src,.int .u8 r.ses.cur,.int .u32 r.ses.epoch,.slice Ao r.ses.offer.length co,.int .u32 r.ses.last] 26))
  have D3 := Lib.hid (D3.out.keep HAL.out)
  have D4 := Lib.hid (D4.out.keep HAL.out)
  have HBE := Lib.hid (HBE.out.trans (HAL.out.mono HBE.out.size)); clear HAL
  go_wp2_with (first
    | (refine wpList_store_row rfl _ _ _ rfl (w.heap.size + 1 + 1) #[.int .u8 0,.int .u8 0,.int .u32 0,.int .u32 0,.slice none 0 0,.slice none 0 0,.bool false,.int .u32 0,.int .u8 0,.int .u8 0,.int .u32 0,.slice none 0 0,.int .u32 0] rfl rfl 28 _ D3.out.at_ rep_size rfl (by simp [Value.oneCell']) ?_)
    | (refine wpList_store_row rfl _ _ _ rfl (w.heap.size + 1 + 1 + 1) #[.int .i64 0,.int .u8 0,.int .u8 0,.int .u32 0,.int .u8 0,.int .u8 0,.slice none 0 0,.int .u32 0,.slice none 0 0,.int .u8 0,.bool false,.slice none 0 0] rfl rfl 30 _ (D4.out.other (by omega) _).at_ note_size rfl (by simp [Value.oneCell']) ?_))
  refine bodyPost_ret (v := .tuple #[.agg #[.int .u8 0,.int .u8 0,.int .u32 0,.int .u32 0,.slice none 0 0,.slice none 0 0,.bool false,.int .u32 0,.int .u8 0,.int .u8 0,.int .u32 0,.slice none 0 0,.int .u32 0],.agg #[.int .i64 0,.int .u8 0,.int .u8 0,.int .u32 0,.int .u8 0,.int .u8 0,.slice none 0 0,.int .u32 0,.slice none 0 0,.int .u8 0,.bool false,.slice none 0 0],.bool false,.int .i64 4]) (results_two_rows2 Tryz.results10 _ _ (w.heap.size + 1 + 1) (w.heap.size + 1 + 1 + 1) 28 30 #[.int .u8 0,.int .u8 0,.int .u32 0,.int .u32 0,.slice none 0 0,.slice none 0 0,.bool false,.int .u32 0,.int .u8 0,.int .u8 0,.int .u32 0,.slice none 0 0,.int .u32 0] #[.int .i64 0,.int .u8 0,.int .u8 0,.int .u32 0,.int .u8 0,.int .u8 0,.slice none 0 0,.int .u32 0,.slice none 0 0,.int .u8 0,.bool false,.slice none 0 0] (0,0) (0,0) _ _ rfl rfl ((D3.out.row _).other (by omega) _).at_ ((D4.out.other (by omega) _).row _).at_ Tryz.underlying28 Tryz.underlying30 rfl rfl rep_size note_size) rfl ?_
  have hfin := below_setRow (below_setRow HBE.out (Nat.le_trans (Nat.le_succ w.heap.size) (Nat.le_succ _)) #[.int .u8 0,.int .u8 0,.int .u32 0,.int .u32 0,.slice none 0 0,.slice none 0 0,.bool false,.int .u32 0,.int .u8 0,.int .u8 0,.int .u32 0,.slice none 0 0,.int .u32 0]) (Nat.le_trans (Nat.le_trans (Nat.le_succ w.heap.size) (Nat.le_succ _)) (Nat.le_succ _)) #[.int .i64 0,.int .u8 0,.int .u8 0,.int .u32 0,.int .u8 0,.int .u8 0,.slice none 0 0,.int .u32 0,.slice none 0 0,.int .u8 0,.bool false,.slice none 0 0]
  exact ⟨_,_,rfl,zeroP_v _ _,zero_v _ _,hfin⟩

set_option maxHeartbeats 8000000 in
set_option maxRecDepth 100000 in
theorem q7Accept_no3c (v v2 : Value) (r : Rp) (n : Nt) (w : World) (hv : RpV w w.heap.size v r) (hv2 : NtV w w.heap.size v2 n) (h1 : r.know.length ≤ 1000) (h2 : r.held.length ≤ 1000) (h3 : r.ses.offer.length ≤ 1000)
    (g1 : n.know.length ≤ 1000) (g2 : n.ents.length ≤ 1000) (g3 : n.offer.length ≤ 1000) (hr : rpB r = true) (hn : noteB n = true) (k0 : (n.kind != 2) = false) (k1 : (n.dst != r.rep) = false) (kb : r.ses.on = false) :
    Calls Tryz.prog 10 #[v,v2] w (AccPost w ⟨zeroP,zeroN,false,4⟩) := by
  have HR := Lib.hid (fun w1 (hb : Below w.heap.size w w1) => q5Right_any v r w1 (hv.later hb) h1 h2 h3)
  have HN := Lib.hid (fun w1 (hb : Below w.heap.size w w1) => q4Right_any v2 n w1 (hv2.later hb) g1 g2 g3)
  obtain ⟨vk,vh,vo,rfl,hk,hh,ho,hok⟩ := hv
  obtain ⟨uk,ue,uo,rfl,jk,je,jo,jok⟩ := hv2
  clear hok jok
  obtain ⟨Ak,ck,rfl,_⟩ := hk
  obtain ⟨Ah,ch,rfl,_⟩ := hh
  obtain ⟨Ao,co,rfl,_⟩ := ho
  obtain ⟨Bk,dk,rfl,_⟩ := jk
  obtain ⟨Be,de,rfl,_⟩ := je
  obtain ⟨Bo,d0,rfl,_⟩ := jo
  unfold Rp.cells at HR ⊢
  unfold Nt.cells at HN ⊢
  rw [hr] at HR
  rw [hn] at HN
  clear hr hn
  rw [kb] at HR ⊢
  clear kb
  go_enter Tryz.func10,Tryz.ntmps10
  go_wp2_with fail
  have HB0 := Lib.hid (al4 w (.cells #[.int .u8 r.rep,.int .u8 r.flt,.int .u32 r.epoch,.int .u32 r.seq,.slice Ak r.know.length ck,.slice Ah r.held.length ch,.bool false,.int .u32 r.ses.num,.int .u8 r.ses.src,.int .u8 r.ses.cur,.int .u32 r.ses.epoch,.slice Ao r.ses.offer.length co,.int .u32 r.ses.last] 28) (.cells #[.int .i64 n.kind,.int .u8 n.src,.int .u8 n.dst,.int .u32 n.num,.int .u8 n.cur,.int .u8 n.flt,.slice Bk n.know.length dk,.int .u32 n.epoch,.slice Be n.ents.length de,.int .u8 n.next,.bool n.done,.slice Bo n.offer.length d0] 30) (.cells #[.int .u8 0,.int .u8 0,.int .u32 0,.int .u32 0,.slice none 0 0,.slice none 0 0,.bool false,.int .u32 0,.int .u8 0,.int .u8 0,.int .u32 0,.slice none 0 0,.int .u32 0] 28) (.cells #[.int .i64 0,.int .u8 0,.int .u8 0,.int .u32 0,.int .u8 0,.int .u8 0,.slice none 0 0,.int .u32 0,.slice none 0 0,.int .u8 0,.bool false,.slice none 0 0] 30))
  have BA := Lib.hid (blk_four w #[.int .u8 r.rep,.int .u8 r.flt,.int .u32 r.epoch,.int .u32 r.seq,.slice Ak r.know.length ck,.slice Ah r.held.length ch,.bool false,.int .u32 r.ses.num,.int .u8 r.ses.src,.int .u8 r.ses.cur,.int .u32 r.ses.epoch,.slice Ao r.ses.offer.length co,.int .u32 r.ses.last] 28 #[.int .i64 n.kind,.int .u8 n.src,.int .u8 n.dst,.int .u32 n.num,.int .u8 n.cur,.int .u8 n.flt,.slice Bk n.know.length dk,.int .u32 n.epoch,.slice Be n.ents.length de,.int .u8 n.next,.bool n.done,.slice Bo n.offer.length d0] 30 #[.int .u8 0,.int .u8 0,.int .u32 0,.int .u32 0,.slice none 0 0,.slice none 0 0,.bool false,.int .u32 0,.int .u8 0,.int .u8 0,.int .u32 0,.slice none 0 0,.int .u32 0] 28 #[.int .i64 0,.int .u8 0,.int .u8 0,.int .u32 0,.int .u8 0,.int .u8 0,.slice none 0 0,.int .u32 0,.slice none 0 0,.int .u8 0,.bool false,.slice none 0 0] 30)
  generalize (((w.alloc (.cells #[.int .u8 r.rep,.int .u8 r.flt,.int .u32 r.epoch,.int .u32 r.seq,.slice Ak r.know.length ck,.slice Ah r.held.length ch,.bool false,.int .u32 r.ses.num,.int .u8 r.ses.src,.int .u8 r.ses.cur,.int .u32 r.ses.epoch,.slice Ao r.ses.offer.length co,.int .u32 r.ses.last] 28)).alloc (.cells #[.int .i64 n.kind,.int .u8 n.src,.int .u8 n.dst,.int .u32 n.num,.int .u8 n.cur,.int .u8 n.flt,.slice Bk n.know.length dk,.int .u32 n.epoch,.slice Be n.ents.length de,.int .u8 n.next,.bool n.done,.slice Bo n.offer.length d0] 30)).alloc (.cells #[.int .u8 0,.int .u8 0,.int .u32 0,.int .u32 0,.slice none 0 0,.slice none 0 0,.bool false,.int .u32 0,.int .u8 0,.int .u8 0,.int .u32 0,.slice none 0 0,.int .u32 0] 28)).alloc (.cells #[.int .i64 0,.int .u8 0,.int .u8 0,.int .u32 0,.int .u8 0,.int .u8 0,.slice none 0 0,.int .u32 0,.slice none 0 0,.int .u8 0,.bool false,.slice none 0 0] 30) = wz at HB0 BA ⊢
  refine (HR.out _ HB0.out).mono ?_
  rintro e w1 ⟨rfl,hb1⟩
  have B1 := Lib.hid (BA.out.1.keep hb1)
  have B2 := Lib.hid (BA.out.2.1.keep hb1)
  have D3 := Lib.hid (BA.out.2.2.1.keep hb1)
  have D4 := Lib.hid (BA.out.2.2.2.keep hb1)
  have HBE := Lib.hid (HB0.out.trans (hb1.mono HB0.out.size)); clear hb1 BA
  have b0 := B2.out.cell 0 (.int .i64 n.kind) rfl
  have b1 := B2.out.cell 1 (.int .u8 n.src) rfl
  have b2 := B2.out.cell 2 (.int .u8 n.dst) rfl
  have b3 := B2.out.cell 3 (.int .u32 n.num) rfl
  have b4 := B2.out.cell 4 (.int .u8 n.cur) rfl
  have b5 := B2.out.cell 5 (.int .u8 n.flt) rfl
  have b6 := B2.out.cell 6 (.slice Bk n.know.length dk) rfl
  have b7 := B2.out.cell 7 (.int .u32 n.epoch) rfl
  have b8 := B2.out.cell 8 (.slice Be n.ents.length de) rfl
  have b9 := B2.out.cell 9 (.int .u8 n.next) rfl
  have b10 := B2.out.cell 10 (.bool n.done) rfl
  have b11 := B2.out.cell 11 (.slice Bo n.offer.length d0) rfl
  go_wp2_with fail
  refine (HN.out _ HBE.out).mono ?_
  rintro e w2 ⟨rfl,hb2⟩
  have B1 := Lib.hid (B1.out.keep hb2)
  have B2 := Lib.hid (B2.out.keep hb2)
  have D3 := Lib.hid (D3.out.keep hb2)
  have D4 := Lib.hid (D4.out.keep hb2)
  have HBE := Lib.hid (HBE.out.trans (hb2.mono HBE.out.size)); clear hb2 b0 b1 b2 b3 b4 b5 b6 b7 b8 b9 b10 b11
  have b0 := B2.out.cell 0 (.int .i64 n.kind) rfl
  have b1 := B2.out.cell 1 (.int .u8 n.src) rfl
  have b2 := B2.out.cell 2 (.int .u8 n.dst) rfl
  have b3 := B2.out.cell 3 (.int .u32 n.num) rfl
  have b4 := B2.out.cell 4 (.int .u8 n.cur) rfl
  have b5 := B2.out.cell 5 (.int .u8 n.flt) rfl
  have b6 := B2.out.cell 6 (.slice Bk n.know.length dk) rfl
  have b7 := B2.out.cell 7 (.int .u32 n.epoch) rfl
  have b8 := B2.out.cell 8 (.slice Be n.ents.length de) rfl
  have b9 := B2.out.cell 9 (.int .u8 n.next) rfl
  have b10 := B2.out.cell 10 (.bool n.done) rfl
  have b11 := B2.out.cell 11 (.slice Bo n.offer.length d0) rfl
  have c0 := B1.out.cell 0 (.int .u8 r.rep) rfl
  have c1 := B1.out.cell 1 (.int .u8 r.flt) rfl
  have c2 := B1.out.cell 2 (.int .u32 r.epoch) rfl
  have c3 := B1.out.cell 3 (.int .u32 r.seq) rfl
  have c4 := B1.out.cell 4 (.slice Ak r.know.length ck) rfl
  have c5 := B1.out.cell 5 (.slice Ah r.held.length ch) rfl
  have c6 := B1.out.cell 6 (.bool false) rfl
  have c7 := B1.out.cell 7 (.int .u32 r.ses.num) rfl
  have c8 := B1.out.cell 8 (.int .u8 r.ses.src) rfl
  have c9 := B1.out.cell 9 (.int .u8 r.ses.cur) rfl
  have c10 := B1.out.cell 10 (.int .u32 r.ses.epoch) rfl
  have c11 := B1.out.cell 11 (.slice Ao r.ses.offer.length co) rfl
  have c12 := B1.out.cell 12 (.int .u32 r.ses.last) rfl
  have hw1 : w.heap.size < w2.heap.size := B1.out.lt
  have hw2 : w.heap.size + 1 < w2.heap.size := B2.out.lt
  have HAL := Lib.hid (al1 w2 (.cells #[.bool false,.int .u32 r.ses.num,.int .u8 r.ses.src,.int .u8 r.ses.cur,.int .u32 r.ses.epoch,.slice Ao r.ses.offer.length co,.int .u32 r.ses.last] 26))
  have D3 := Lib.hid (D3.out.keep HAL.out)
  have D4 := Lib.hid (D4.out.keep HAL.out)
  have HBE := Lib.hid (HBE.out.trans (HAL.out.mono HBE.out.size)); clear HAL
  go_wp2_with (first
    | (refine wpList_store_row rfl _ _ _ rfl (w.heap.size + 1 + 1) #[.int .u8 0,.int .u8 0,.int .u32 0,.int .u32 0,.slice none 0 0,.slice none 0 0,.bool false,.int .u32 0,.int .u8 0,.int .u8 0,.int .u32 0,.slice none 0 0,.int .u32 0] rfl rfl 28 _ D3.out.at_ rep_size rfl (by simp [Value.oneCell']) ?_)
    | (refine wpList_store_row rfl _ _ _ rfl (w.heap.size + 1 + 1 + 1) #[.int .i64 0,.int .u8 0,.int .u8 0,.int .u32 0,.int .u8 0,.int .u8 0,.slice none 0 0,.int .u32 0,.slice none 0 0,.int .u8 0,.bool false,.slice none 0 0] rfl rfl 30 _ (D4.out.other (by omega) _).at_ note_size rfl (by simp [Value.oneCell']) ?_))
  refine bodyPost_ret (v := .tuple #[.agg #[.int .u8 0,.int .u8 0,.int .u32 0,.int .u32 0,.slice none 0 0,.slice none 0 0,.bool false,.int .u32 0,.int .u8 0,.int .u8 0,.int .u32 0,.slice none 0 0,.int .u32 0],.agg #[.int .i64 0,.int .u8 0,.int .u8 0,.int .u32 0,.int .u8 0,.int .u8 0,.slice none 0 0,.int .u32 0,.slice none 0 0,.int .u8 0,.bool false,.slice none 0 0],.bool false,.int .i64 4]) (results_two_rows2 Tryz.results10 _ _ (w.heap.size + 1 + 1) (w.heap.size + 1 + 1 + 1) 28 30 #[.int .u8 0,.int .u8 0,.int .u32 0,.int .u32 0,.slice none 0 0,.slice none 0 0,.bool false,.int .u32 0,.int .u8 0,.int .u8 0,.int .u32 0,.slice none 0 0,.int .u32 0] #[.int .i64 0,.int .u8 0,.int .u8 0,.int .u32 0,.int .u8 0,.int .u8 0,.slice none 0 0,.int .u32 0,.slice none 0 0,.int .u8 0,.bool false,.slice none 0 0] (0,0) (0,0) _ _ rfl rfl ((D3.out.row _).other (by omega) _).at_ ((D4.out.other (by omega) _).row _).at_ Tryz.underlying28 Tryz.underlying30 rfl rfl rep_size note_size) rfl ?_
  have hfin := below_setRow (below_setRow HBE.out (Nat.le_trans (Nat.le_succ w.heap.size) (Nat.le_succ _)) #[.int .u8 0,.int .u8 0,.int .u32 0,.int .u32 0,.slice none 0 0,.slice none 0 0,.bool false,.int .u32 0,.int .u8 0,.int .u8 0,.int .u32 0,.slice none 0 0,.int .u32 0]) (Nat.le_trans (Nat.le_trans (Nat.le_succ w.heap.size) (Nat.le_succ _)) (Nat.le_succ _)) #[.int .i64 0,.int .u8 0,.int .u8 0,.int .u32 0,.int .u8 0,.int .u8 0,.slice none 0 0,.int .u32 0,.slice none 0 0,.int .u8 0,.bool false,.slice none 0 0]
  exact ⟨_,_,rfl,zeroP_v _ _,zero_v _ _,hfin⟩

set_option maxHeartbeats 8000000 in
set_option maxRecDepth 100000 in
theorem q7Accept_no3d (v v2 : Value) (r : Rp) (n : Nt) (w : World) (hv : RpV w w.heap.size v r) (hv2 : NtV w w.heap.size v2 n) (h1 : r.know.length ≤ 1000) (h2 : r.held.length ≤ 1000) (h3 : r.ses.offer.length ≤ 1000)
    (g1 : n.know.length ≤ 1000) (g2 : n.ents.length ≤ 1000) (g3 : n.offer.length ≤ 1000) (hr : rpB r = true) (hn : noteB n = true) (k0 : (n.kind != 2) = false) (k1 : (n.dst != r.rep) = false) (k2 : r.ses.on = true) (kb : (n.src != r.ses.src) = true) :
    Calls Tryz.prog 10 #[v,v2] w (AccPost w ⟨zeroP,zeroN,false,4⟩) := by
  have HR := Lib.hid (fun w1 (hb : Below w.heap.size w w1) => q5Right_any v r w1 (hv.later hb) h1 h2 h3)
  have HN := Lib.hid (fun w1 (hb : Below w.heap.size w w1) => q4Right_any v2 n w1 (hv2.later hb) g1 g2 g3)
  obtain ⟨vk,vh,vo,rfl,hk,hh,ho,hok⟩ := hv
  obtain ⟨uk,ue,uo,rfl,jk,je,jo,jok⟩ := hv2
  clear hok jok
  obtain ⟨Ak,ck,rfl,_⟩ := hk
  obtain ⟨Ah,ch,rfl,_⟩ := hh
  obtain ⟨Ao,co,rfl,_⟩ := ho
  obtain ⟨Bk,dk,rfl,_⟩ := jk
  obtain ⟨Be,de,rfl,_⟩ := je
  obtain ⟨Bo,d0,rfl,_⟩ := jo
  unfold Rp.cells at HR ⊢
  unfold Nt.cells at HN ⊢
  rw [hr] at HR
  rw [hn] at HN
  clear hr hn
  rw [k2] at HR ⊢
  clear k2
  go_enter Tryz.func10,Tryz.ntmps10
  go_wp2_with fail
  have HB0 := Lib.hid (al4 w (.cells #[.int .u8 r.rep,.int .u8 r.flt,.int .u32 r.epoch,.int .u32 r.seq,.slice Ak r.know.length ck,.slice Ah r.held.length ch,.bool true,.int .u32 r.ses.num,.int .u8 r.ses.src,.int .u8 r.ses.cur,.int .u32 r.ses.epoch,.slice Ao r.ses.offer.length co,.int .u32 r.ses.last] 28) (.cells #[.int .i64 n.kind,.int .u8 n.src,.int .u8 n.dst,.int .u32 n.num,.int .u8 n.cur,.int .u8 n.flt,.slice Bk n.know.length dk,.int .u32 n.epoch,.slice Be n.ents.length de,.int .u8 n.next,.bool n.done,.slice Bo n.offer.length d0] 30) (.cells #[.int .u8 0,.int .u8 0,.int .u32 0,.int .u32 0,.slice none 0 0,.slice none 0 0,.bool false,.int .u32 0,.int .u8 0,.int .u8 0,.int .u32 0,.slice none 0 0,.int .u32 0] 28) (.cells #[.int .i64 0,.int .u8 0,.int .u8 0,.int .u32 0,.int .u8 0,.int .u8 0,.slice none 0 0,.int .u32 0,.slice none 0 0,.int .u8 0,.bool false,.slice none 0 0] 30))
  have BA := Lib.hid (blk_four w #[.int .u8 r.rep,.int .u8 r.flt,.int .u32 r.epoch,.int .u32 r.seq,.slice Ak r.know.length ck,.slice Ah r.held.length ch,.bool true,.int .u32 r.ses.num,.int .u8 r.ses.src,.int .u8 r.ses.cur,.int .u32 r.ses.epoch,.slice Ao r.ses.offer.length co,.int .u32 r.ses.last] 28 #[.int .i64 n.kind,.int .u8 n.src,.int .u8 n.dst,.int .u32 n.num,.int .u8 n.cur,.int .u8 n.flt,.slice Bk n.know.length dk,.int .u32 n.epoch,.slice Be n.ents.length de,.int .u8 n.next,.bool n.done,.slice Bo n.offer.length d0] 30 #[.int .u8 0,.int .u8 0,.int .u32 0,.int .u32 0,.slice none 0 0,.slice none 0 0,.bool false,.int .u32 0,.int .u8 0,.int .u8 0,.int .u32 0,.slice none 0 0,.int .u32 0] 28 #[.int .i64 0,.int .u8 0,.int .u8 0,.int .u32 0,.int .u8 0,.int .u8 0,.slice none 0 0,.int .u32 0,.slice none 0 0,.int .u8 0,.bool false,.slice none 0 0] 30)
  generalize (((w.alloc (.cells #[.int .u8 r.rep,.int .u8 r.flt,.int .u32 r.epoch,.int .u32 r.seq,.slice Ak r.know.length ck,.slice Ah r.held.length ch,.bool true,.int .u32 r.ses.num,.int .u8 r.ses.src,.int .u8 r.ses.cur,.int .u32 r.ses.epoch,.slice Ao r.ses.offer.length co,.int .u32 r.ses.last] 28)).alloc (.cells #[.int .i64 n.kind,.int .u8 n.src,.int .u8 n.dst,.int .u32 n.num,.int .u8 n.cur,.int .u8 n.flt,.slice Bk n.know.length dk,.int .u32 n.epoch,.slice Be n.ents.length de,.int .u8 n.next,.bool n.done,.slice Bo n.offer.length d0] 30)).alloc (.cells #[.int .u8 0,.int .u8 0,.int .u32 0,.int .u32 0,.slice none 0 0,.slice none 0 0,.bool false,.int .u32 0,.int .u8 0,.int .u8 0,.int .u32 0,.slice none 0 0,.int .u32 0] 28)).alloc (.cells #[.int .i64 0,.int .u8 0,.int .u8 0,.int .u32 0,.int .u8 0,.int .u8 0,.slice none 0 0,.int .u32 0,.slice none 0 0,.int .u8 0,.bool false,.slice none 0 0] 30) = wz at HB0 BA ⊢
  refine (HR.out _ HB0.out).mono ?_
  rintro e w1 ⟨rfl,hb1⟩
  have B1 := Lib.hid (BA.out.1.keep hb1)
  have B2 := Lib.hid (BA.out.2.1.keep hb1)
  have D3 := Lib.hid (BA.out.2.2.1.keep hb1)
  have D4 := Lib.hid (BA.out.2.2.2.keep hb1)
  have HBE := Lib.hid (HB0.out.trans (hb1.mono HB0.out.size)); clear hb1 BA
  have b0 := B2.out.cell 0 (.int .i64 n.kind) rfl
  have b1 := B2.out.cell 1 (.int .u8 n.src) rfl
  have b2 := B2.out.cell 2 (.int .u8 n.dst) rfl
  have b3 := B2.out.cell 3 (.int .u32 n.num) rfl
  have b4 := B2.out.cell 4 (.int .u8 n.cur) rfl
  have b5 := B2.out.cell 5 (.int .u8 n.flt) rfl
  have b6 := B2.out.cell 6 (.slice Bk n.know.length dk) rfl
  have b7 := B2.out.cell 7 (.int .u32 n.epoch) rfl
  have b8 := B2.out.cell 8 (.slice Be n.ents.length de) rfl
  have b9 := B2.out.cell 9 (.int .u8 n.next) rfl
  have b10 := B2.out.cell 10 (.bool n.done) rfl
  have b11 := B2.out.cell 11 (.slice Bo n.offer.length d0) rfl
  go_wp2_with fail
  refine (HN.out _ HBE.out).mono ?_
  rintro e w2 ⟨rfl,hb2⟩
  have B1 := Lib.hid (B1.out.keep hb2)
  have B2 := Lib.hid (B2.out.keep hb2)
  have D3 := Lib.hid (D3.out.keep hb2)
  have D4 := Lib.hid (D4.out.keep hb2)
  have HBE := Lib.hid (HBE.out.trans (hb2.mono HBE.out.size)); clear hb2 b0 b1 b2 b3 b4 b5 b6 b7 b8 b9 b10 b11
  have b0 := B2.out.cell 0 (.int .i64 n.kind) rfl
  have b1 := B2.out.cell 1 (.int .u8 n.src) rfl
  have b2 := B2.out.cell 2 (.int .u8 n.dst) rfl
  have b3 := B2.out.cell 3 (.int .u32 n.num) rfl
  have b4 := B2.out.cell 4 (.int .u8 n.cur) rfl
  have b5 := B2.out.cell 5 (.int .u8 n.flt) rfl
  have b6 := B2.out.cell 6 (.slice Bk n.know.length dk) rfl
  have b7 := B2.out.cell 7 (.int .u32 n.epoch) rfl
  have b8 := B2.out.cell 8 (.slice Be n.ents.length de) rfl
  have b9 := B2.out.cell 9 (.int .u8 n.next) rfl
  have b10 := B2.out.cell 10 (.bool n.done) rfl
  have b11 := B2.out.cell 11 (.slice Bo n.offer.length d0) rfl
  have c0 := B1.out.cell 0 (.int .u8 r.rep) rfl
  have c1 := B1.out.cell 1 (.int .u8 r.flt) rfl
  have c2 := B1.out.cell 2 (.int .u32 r.epoch) rfl
  have c3 := B1.out.cell 3 (.int .u32 r.seq) rfl
  have c4 := B1.out.cell 4 (.slice Ak r.know.length ck) rfl
  have c5 := B1.out.cell 5 (.slice Ah r.held.length ch) rfl
  have c6 := B1.out.cell 6 (.bool true) rfl
  have c7 := B1.out.cell 7 (.int .u32 r.ses.num) rfl
  have c8 := B1.out.cell 8 (.int .u8 r.ses.src) rfl
  have c9 := B1.out.cell 9 (.int .u8 r.ses.cur) rfl
  have c10 := B1.out.cell 10 (.int .u32 r.ses.epoch) rfl
  have c11 := B1.out.cell 11 (.slice Ao r.ses.offer.length co) rfl
  have c12 := B1.out.cell 12 (.int .u32 r.ses.last) rfl
  have hw1 : w.heap.size < w2.heap.size := B1.out.lt
  have hw2 : w.heap.size + 1 < w2.heap.size := B2.out.lt
  have HAL := Lib.hid (al1 w2 (.cells #[.bool true,.int .u32 r.ses.num,.int .u8 r.ses.src,.int .u8 r.ses.cur,.int .u32 r.ses.epoch,.slice Ao r.ses.offer.length co,.int .u32 r.ses.last] 26))
  have D3 := Lib.hid (D3.out.keep HAL.out)
  have D4 := Lib.hid (D4.out.keep HAL.out)
  have HBE := Lib.hid (HBE.out.trans (HAL.out.mono HBE.out.size)); clear HAL
  go_wp2_with (first
    | (refine wpList_store_row rfl _ _ _ rfl (w.heap.size + 1 + 1) #[.int .u8 0,.int .u8 0,.int .u32 0,.int .u32 0,.slice none 0 0,.slice none 0 0,.bool false,.int .u32 0,.int .u8 0,.int .u8 0,.int .u32 0,.slice none 0 0,.int .u32 0] rfl rfl 28 _ D3.out.at_ rep_size rfl (by simp [Value.oneCell']) ?_)
    | (refine wpList_store_row rfl _ _ _ rfl (w.heap.size + 1 + 1 + 1) #[.int .i64 0,.int .u8 0,.int .u8 0,.int .u32 0,.int .u8 0,.int .u8 0,.slice none 0 0,.int .u32 0,.slice none 0 0,.int .u8 0,.bool false,.slice none 0 0] rfl rfl 30 _ (D4.out.other (by omega) _).at_ note_size rfl (by simp [Value.oneCell']) ?_))
  refine bodyPost_ret (v := .tuple #[.agg #[.int .u8 0,.int .u8 0,.int .u32 0,.int .u32 0,.slice none 0 0,.slice none 0 0,.bool false,.int .u32 0,.int .u8 0,.int .u8 0,.int .u32 0,.slice none 0 0,.int .u32 0],.agg #[.int .i64 0,.int .u8 0,.int .u8 0,.int .u32 0,.int .u8 0,.int .u8 0,.slice none 0 0,.int .u32 0,.slice none 0 0,.int .u8 0,.bool false,.slice none 0 0],.bool false,.int .i64 4]) (results_two_rows2 Tryz.results10 _ _ (w.heap.size + 1 + 1) (w.heap.size + 1 + 1 + 1) 28 30 #[.int .u8 0,.int .u8 0,.int .u32 0,.int .u32 0,.slice none 0 0,.slice none 0 0,.bool false,.int .u32 0,.int .u8 0,.int .u8 0,.int .u32 0,.slice none 0 0,.int .u32 0] #[.int .i64 0,.int .u8 0,.int .u8 0,.int .u32 0,.int .u8 0,.int .u8 0,.slice none 0 0,.int .u32 0,.slice none 0 0,.int .u8 0,.bool false,.slice none 0 0] (0,0) (0,0) _ _ rfl rfl ((D3.out.row _).other (by omega) _).at_ ((D4.out.other (by omega) _).row _).at_ Tryz.underlying28 Tryz.underlying30 rfl rfl rep_size note_size) rfl ?_
  have hfin := below_setRow (below_setRow HBE.out (Nat.le_trans (Nat.le_succ w.heap.size) (Nat.le_succ _)) #[.int .u8 0,.int .u8 0,.int .u32 0,.int .u32 0,.slice none 0 0,.slice none 0 0,.bool false,.int .u32 0,.int .u8 0,.int .u8 0,.int .u32 0,.slice none 0 0,.int .u32 0]) (Nat.le_trans (Nat.le_trans (Nat.le_succ w.heap.size) (Nat.le_succ _)) (Nat.le_succ _)) #[.int .i64 0,.int .u8 0,.int .u8 0,.int .u32 0,.int .u8 0,.int .u8 0,.slice none 0 0,.int .u32 0,.slice none 0 0,.int .u8 0,.bool false,.slice none 0 0]
  exact ⟨_,_,rfl,zeroP_v _ _,zero_v _ _,hfin⟩

set_option maxHeartbeats 8000000 in
set_option maxRecDepth 100000 in
theorem q7Accept_no3e (v v2 : Value) (r : Rp) (n : Nt) (w : World) (hv : RpV w w.heap.size v r) (hv2 : NtV w w.heap.size v2 n) (h1 : r.know.length ≤ 1000) (h2 : r.held.length ≤ 1000) (h3 : r.ses.offer.length ≤ 1000)
    (g1 : n.know.length ≤ 1000) (g2 : n.ents.length ≤ 1000) (g3 : n.offer.length ≤ 1000) (hr : rpB r = true) (hn : noteB n = true) (k0 : (n.kind != 2) = false) (k1 : (n.dst != r.rep) = false) (k2 : r.ses.on = true) (k3 : (n.src != r.ses.src) = false) (kb : (n.num != r.ses.num) = true) :
    Calls Tryz.prog 10 #[v,v2] w (AccPost w ⟨zeroP,zeroN,false,4⟩) := by
  have HR := Lib.hid (fun w1 (hb : Below w.heap.size w w1) => q5Right_any v r w1 (hv.later hb) h1 h2 h3)
  have HN := Lib.hid (fun w1 (hb : Below w.heap.size w w1) => q4Right_any v2 n w1 (hv2.later hb) g1 g2 g3)
  obtain ⟨vk,vh,vo,rfl,hk,hh,ho,hok⟩ := hv
  obtain ⟨uk,ue,uo,rfl,jk,je,jo,jok⟩ := hv2
  clear hok jok
  obtain ⟨Ak,ck,rfl,_⟩ := hk
  obtain ⟨Ah,ch,rfl,_⟩ := hh
  obtain ⟨Ao,co,rfl,_⟩ := ho
  obtain ⟨Bk,dk,rfl,_⟩ := jk
  obtain ⟨Be,de,rfl,_⟩ := je
  obtain ⟨Bo,d0,rfl,_⟩ := jo
  unfold Rp.cells at HR ⊢
  unfold Nt.cells at HN ⊢
  rw [hr] at HR
  rw [hn] at HN
  clear hr hn
  rw [k2] at HR ⊢
  clear k2
  go_enter Tryz.func10,Tryz.ntmps10
  go_wp2_with fail
  have HB0 := Lib.hid (al4 w (.cells #[.int .u8 r.rep,.int .u8 r.flt,.int .u32 r.epoch,.int .u32 r.seq,.slice Ak r.know.length ck,.slice Ah r.held.length ch,.bool true,.int .u32 r.ses.num,.int .u8 r.ses.src,.int .u8 r.ses.cur,.int .u32 r.ses.epoch,.slice Ao r.ses.offer.length co,.int .u32 r.ses.last] 28) (.cells #[.int .i64 n.kind,.int .u8 n.src,.int .u8 n.dst,.int .u32 n.num,.int .u8 n.cur,.int .u8 n.flt,.slice Bk n.know.length dk,.int .u32 n.epoch,.slice Be n.ents.length de,.int .u8 n.next,.bool n.done,.slice Bo n.offer.length d0] 30) (.cells #[.int .u8 0,.int .u8 0,.int .u32 0,.int .u32 0,.slice none 0 0,.slice none 0 0,.bool false,.int .u32 0,.int .u8 0,.int .u8 0,.int .u32 0,.slice none 0 0,.int .u32 0] 28) (.cells #[.int .i64 0,.int .u8 0,.int .u8 0,.int .u32 0,.int .u8 0,.int .u8 0,.slice none 0 0,.int .u32 0,.slice none 0 0,.int .u8 0,.bool false,.slice none 0 0] 30))
  have BA := Lib.hid (blk_four w #[.int .u8 r.rep,.int .u8 r.flt,.int .u32 r.epoch,.int .u32 r.seq,.slice Ak r.know.length ck,.slice Ah r.held.length ch,.bool true,.int .u32 r.ses.num,.int .u8 r.ses.src,.int .u8 r.ses.cur,.int .u32 r.ses.epoch,.slice Ao r.ses.offer.length co,.int .u32 r.ses.last] 28 #[.int .i64 n.kind,.int .u8 n.src,.int .u8 n.dst,.int .u32 n.num,.int .u8 n.cur,.int .u8 n.flt,.slice Bk n.know.length dk,.int .u32 n.epoch,.slice Be n.ents.length de,.int .u8 n.next,.bool n.done,.slice Bo n.offer.length d0] 30 #[.int .u8 0,.int .u8 0,.int .u32 0,.int .u32 0,.slice none 0 0,.slice none 0 0,.bool false,.int .u32 0,.int .u8 0,.int .u8 0,.int .u32 0,.slice none 0 0,.int .u32 0] 28 #[.int .i64 0,.int .u8 0,.int .u8 0,.int .u32 0,.int .u8 0,.int .u8 0,.slice none 0 0,.int .u32 0,.slice none 0 0,.int .u8 0,.bool false,.slice none 0 0] 30)
  generalize (((w.alloc (.cells #[.int .u8 r.rep,.int .u8 r.flt,.int .u32 r.epoch,.int .u32 r.seq,.slice Ak r.know.length ck,.slice Ah r.held.length ch,.bool true,.int .u32 r.ses.num,.int .u8 r.ses.src,.int .u8 r.ses.cur,.int .u32 r.ses.epoch,.slice Ao r.ses.offer.length co,.int .u32 r.ses.last] 28)).alloc (.cells #[.int .i64 n.kind,.int .u8 n.src,.int .u8 n.dst,.int .u32 n.num,.int .u8 n.cur,.int .u8 n.flt,.slice Bk n.know.length dk,.int .u32 n.epoch,.slice Be n.ents.length de,.int .u8 n.next,.bool n.done,.slice Bo n.offer.length d0] 30)).alloc (.cells #[.int .u8 0,.int .u8 0,.int .u32 0,.int .u32 0,.slice none 0 0,.slice none 0 0,.bool false,.int .u32 0,.int .u8 0,.int .u8 0,.int .u32 0,.slice none 0 0,.int .u32 0] 28)).alloc (.cells #[.int .i64 0,.int .u8 0,.int .u8 0,.int .u32 0,.int .u8 0,.int .u8 0,.slice none 0 0,.int .u32 0,.slice none 0 0,.int .u8 0,.bool false,.slice none 0 0] 30) = wz at HB0 BA ⊢
  refine (HR.out _ HB0.out).mono ?_
  rintro e w1 ⟨rfl,hb1⟩
  have B1 := Lib.hid (BA.out.1.keep hb1)
  have B2 := Lib.hid (BA.out.2.1.keep hb1)
  have D3 := Lib.hid (BA.out.2.2.1.keep hb1)
  have D4 := Lib.hid (BA.out.2.2.2.keep hb1)
  have HBE := Lib.hid (HB0.out.trans (hb1.mono HB0.out.size)); clear hb1 BA
  have b0 := B2.out.cell 0 (.int .i64 n.kind) rfl
  have b1 := B2.out.cell 1 (.int .u8 n.src) rfl
  have b2 := B2.out.cell 2 (.int .u8 n.dst) rfl
  have b3 := B2.out.cell 3 (.int .u32 n.num) rfl
  have b4 := B2.out.cell 4 (.int .u8 n.cur) rfl
  have b5 := B2.out.cell 5 (.int .u8 n.flt) rfl
  have b6 := B2.out.cell 6 (.slice Bk n.know.length dk) rfl
  have b7 := B2.out.cell 7 (.int .u32 n.epoch) rfl
  have b8 := B2.out.cell 8 (.slice Be n.ents.length de) rfl
  have b9 := B2.out.cell 9 (.int .u8 n.next) rfl
  have b10 := B2.out.cell 10 (.bool n.done) rfl
  have b11 := B2.out.cell 11 (.slice Bo n.offer.length d0) rfl
  go_wp2_with fail
  refine (HN.out _ HBE.out).mono ?_
  rintro e w2 ⟨rfl,hb2⟩
  have B1 := Lib.hid (B1.out.keep hb2)
  have B2 := Lib.hid (B2.out.keep hb2)
  have D3 := Lib.hid (D3.out.keep hb2)
  have D4 := Lib.hid (D4.out.keep hb2)
  have HBE := Lib.hid (HBE.out.trans (hb2.mono HBE.out.size)); clear hb2 b0 b1 b2 b3 b4 b5 b6 b7 b8 b9 b10 b11
  have b0 := B2.out.cell 0 (.int .i64 n.kind) rfl
  have b1 := B2.out.cell 1 (.int .u8 n.src) rfl
  have b2 := B2.out.cell 2 (.int .u8 n.dst) rfl
  have b3 := B2.out.cell 3 (.int .u32 n.num) rfl
  have b4 := B2.out.cell 4 (.int .u8 n.cur) rfl
  have b5 := B2.out.cell 5 (.int .u8 n.flt) rfl
  have b6 := B2.out.cell 6 (.slice Bk n.know.length dk) rfl
  have b7 := B2.out.cell 7 (.int .u32 n.epoch) rfl
  have b8 := B2.out.cell 8 (.slice Be n.ents.length de) rfl
  have b9 := B2.out.cell 9 (.int .u8 n.next) rfl
  have b10 := B2.out.cell 10 (.bool n.done) rfl
  have b11 := B2.out.cell 11 (.slice Bo n.offer.length d0) rfl
  have c0 := B1.out.cell 0 (.int .u8 r.rep) rfl
  have c1 := B1.out.cell 1 (.int .u8 r.flt) rfl
  have c2 := B1.out.cell 2 (.int .u32 r.epoch) rfl
  have c3 := B1.out.cell 3 (.int .u32 r.seq) rfl
  have c4 := B1.out.cell 4 (.slice Ak r.know.length ck) rfl
  have c5 := B1.out.cell 5 (.slice Ah r.held.length ch) rfl
  have c6 := B1.out.cell 6 (.bool true) rfl
  have c7 := B1.out.cell 7 (.int .u32 r.ses.num) rfl
  have c8 := B1.out.cell 8 (.int .u8 r.ses.src) rfl
  have c9 := B1.out.cell 9 (.int .u8 r.ses.cur) rfl
  have c10 := B1.out.cell 10 (.int .u32 r.ses.epoch) rfl
  have c11 := B1.out.cell 11 (.slice Ao r.ses.offer.length co) rfl
  have c12 := B1.out.cell 12 (.int .u32 r.ses.last) rfl
  have hw1 : w.heap.size < w2.heap.size := B1.out.lt
  have hw2 : w.heap.size + 1 < w2.heap.size := B2.out.lt
  have HAL := Lib.hid (al1 w2 (.cells #[.bool true,.int .u32 r.ses.num,.int .u8 r.ses.src,.int .u8 r.ses.cur,.int .u32 r.ses.epoch,.slice Ao r.ses.offer.length co,.int .u32 r.ses.last] 26))
  have D3 := Lib.hid (D3.out.keep HAL.out)
  have D4 := Lib.hid (D4.out.keep HAL.out)
  have HBE := Lib.hid (HBE.out.trans (HAL.out.mono HBE.out.size)); clear HAL
  go_wp2_with (first
    | (refine wpList_store_row rfl _ _ _ rfl (w.heap.size + 1 + 1) #[.int .u8 0,.int .u8 0,.int .u32 0,.int .u32 0,.slice none 0 0,.slice none 0 0,.bool false,.int .u32 0,.int .u8 0,.int .u8 0,.int .u32 0,.slice none 0 0,.int .u32 0] rfl rfl 28 _ D3.out.at_ rep_size rfl (by simp [Value.oneCell']) ?_)
    | (refine wpList_store_row rfl _ _ _ rfl (w.heap.size + 1 + 1 + 1) #[.int .i64 0,.int .u8 0,.int .u8 0,.int .u32 0,.int .u8 0,.int .u8 0,.slice none 0 0,.int .u32 0,.slice none 0 0,.int .u8 0,.bool false,.slice none 0 0] rfl rfl 30 _ (D4.out.other (by omega) _).at_ note_size rfl (by simp [Value.oneCell']) ?_))
  refine bodyPost_ret (v := .tuple #[.agg #[.int .u8 0,.int .u8 0,.int .u32 0,.int .u32 0,.slice none 0 0,.slice none 0 0,.bool false,.int .u32 0,.int .u8 0,.int .u8 0,.int .u32 0,.slice none 0 0,.int .u32 0],.agg #[.int .i64 0,.int .u8 0,.int .u8 0,.int .u32 0,.int .u8 0,.int .u8 0,.slice none 0 0,.int .u32 0,.slice none 0 0,.int .u8 0,.bool false,.slice none 0 0],.bool false,.int .i64 4]) (results_two_rows2 Tryz.results10 _ _ (w.heap.size + 1 + 1) (w.heap.size + 1 + 1 + 1) 28 30 #[.int .u8 0,.int .u8 0,.int .u32 0,.int .u32 0,.slice none 0 0,.slice none 0 0,.bool false,.int .u32 0,.int .u8 0,.int .u8 0,.int .u32 0,.slice none 0 0,.int .u32 0] #[.int .i64 0,.int .u8 0,.int .u8 0,.int .u32 0,.int .u8 0,.int .u8 0,.slice none 0 0,.int .u32 0,.slice none 0 0,.int .u8 0,.bool false,.slice none 0 0] (0,0) (0,0) _ _ rfl rfl ((D3.out.row _).other (by omega) _).at_ ((D4.out.other (by omega) _).row _).at_ Tryz.underlying28 Tryz.underlying30 rfl rfl rep_size note_size) rfl ?_
  have hfin := below_setRow (below_setRow HBE.out (Nat.le_trans (Nat.le_succ w.heap.size) (Nat.le_succ _)) #[.int .u8 0,.int .u8 0,.int .u32 0,.int .u32 0,.slice none 0 0,.slice none 0 0,.bool false,.int .u32 0,.int .u8 0,.int .u8 0,.int .u32 0,.slice none 0 0,.int .u32 0]) (Nat.le_trans (Nat.le_trans (Nat.le_succ w.heap.size) (Nat.le_succ _)) (Nat.le_succ _)) #[.int .i64 0,.int .u8 0,.int .u8 0,.int .u32 0,.int .u8 0,.int .u8 0,.slice none 0 0,.int .u32 0,.slice none 0 0,.int .u8 0,.bool false,.slice none 0 0]
  exact ⟨_,_,rfl,zeroP_v _ _,zero_v _ _,hfin⟩

set_option maxHeartbeats 8000000 in
set_option maxRecDepth 100000 in
theorem q7Accept_no3f (v v2 : Value) (r : Rp) (n : Nt) (w : World) (hv : RpV w w.heap.size v r) (hv2 : NtV w w.heap.size v2 n) (h1 : r.know.length ≤ 1000) (h2 : r.held.length ≤ 1000) (h3 : r.ses.offer.length ≤ 1000)
    (g1 : n.know.length ≤ 1000) (g2 : n.ents.length ≤ 1000) (g3 : n.offer.length ≤ 1000) (hr : rpB r = true) (hn : noteB n = true) (k0 : (n.kind != 2) = false) (k1 : (n.dst != r.rep) = false) (k2 : r.ses.on = true) (k3 : (n.src != r.ses.src) = false) (k4 : (n.num != r.ses.num) = false) (kb : (n.cur != r.ses.cur) = true) :
    Calls Tryz.prog 10 #[v,v2] w (AccPost w ⟨zeroP,zeroN,false,4⟩) := by
  have HR := Lib.hid (fun w1 (hb : Below w.heap.size w w1) => q5Right_any v r w1 (hv.later hb) h1 h2 h3)
  have HN := Lib.hid (fun w1 (hb : Below w.heap.size w w1) => q4Right_any v2 n w1 (hv2.later hb) g1 g2 g3)
  obtain ⟨vk,vh,vo,rfl,hk,hh,ho,hok⟩ := hv
  obtain ⟨uk,ue,uo,rfl,jk,je,jo,jok⟩ := hv2
  clear hok jok
  obtain ⟨Ak,ck,rfl,_⟩ := hk
  obtain ⟨Ah,ch,rfl,_⟩ := hh
  obtain ⟨Ao,co,rfl,_⟩ := ho
  obtain ⟨Bk,dk,rfl,_⟩ := jk
  obtain ⟨Be,de,rfl,_⟩ := je
  obtain ⟨Bo,d0,rfl,_⟩ := jo
  unfold Rp.cells at HR ⊢
  unfold Nt.cells at HN ⊢
  rw [hr] at HR
  rw [hn] at HN
  clear hr hn
  rw [k2] at HR ⊢
  clear k2
  go_enter Tryz.func10,Tryz.ntmps10
  go_wp2_with fail
  have HB0 := Lib.hid (al4 w (.cells #[.int .u8 r.rep,.int .u8 r.flt,.int .u32 r.epoch,.int .u32 r.seq,.slice Ak r.know.length ck,.slice Ah r.held.length ch,.bool true,.int .u32 r.ses.num,.int .u8 r.ses.src,.int .u8 r.ses.cur,.int .u32 r.ses.epoch,.slice Ao r.ses.offer.length co,.int .u32 r.ses.last] 28) (.cells #[.int .i64 n.kind,.int .u8 n.src,.int .u8 n.dst,.int .u32 n.num,.int .u8 n.cur,.int .u8 n.flt,.slice Bk n.know.length dk,.int .u32 n.epoch,.slice Be n.ents.length de,.int .u8 n.next,.bool n.done,.slice Bo n.offer.length d0] 30) (.cells #[.int .u8 0,.int .u8 0,.int .u32 0,.int .u32 0,.slice none 0 0,.slice none 0 0,.bool false,.int .u32 0,.int .u8 0,.int .u8 0,.int .u32 0,.slice none 0 0,.int .u32 0] 28) (.cells #[.int .i64 0,.int .u8 0,.int .u8 0,.int .u32 0,.int .u8 0,.int .u8 0,.slice none 0 0,.int .u32 0,.slice none 0 0,.int .u8 0,.bool false,.slice none 0 0] 30))
  have BA := Lib.hid (blk_four w #[.int .u8 r.rep,.int .u8 r.flt,.int .u32 r.epoch,.int .u32 r.seq,.slice Ak r.know.length ck,.slice Ah r.held.length ch,.bool true,.int .u32 r.ses.num,.int .u8 r.ses.src,.int .u8 r.ses.cur,.int .u32 r.ses.epoch,.slice Ao r.ses.offer.length co,.int .u32 r.ses.last] 28 #[.int .i64 n.kind,.int .u8 n.src,.int .u8 n.dst,.int .u32 n.num,.int .u8 n.cur,.int .u8 n.flt,.slice Bk n.know.length dk,.int .u32 n.epoch,.slice Be n.ents.length de,.int .u8 n.next,.bool n.done,.slice Bo n.offer.length d0] 30 #[.int .u8 0,.int .u8 0,.int .u32 0,.int .u32 0,.slice none 0 0,.slice none 0 0,.bool false,.int .u32 0,.int .u8 0,.int .u8 0,.int .u32 0,.slice none 0 0,.int .u32 0] 28 #[.int .i64 0,.int .u8 0,.int .u8 0,.int .u32 0,.int .u8 0,.int .u8 0,.slice none 0 0,.int .u32 0,.slice none 0 0,.int .u8 0,.bool false,.slice none 0 0] 30)
  generalize (((w.alloc (.cells #[.int .u8 r.rep,.int .u8 r.flt,.int .u32 r.epoch,.int .u32 r.seq,.slice Ak r.know.length ck,.slice Ah r.held.length ch,.bool true,.int .u32 r.ses.num,.int .u8 r.ses.src,.int .u8 r.ses.cur,.int .u32 r.ses.epoch,.slice Ao r.ses.offer.length co,.int .u32 r.ses.last] 28)).alloc (.cells #[.int .i64 n.kind,.int .u8 n.src,.int .u8 n.dst,.int .u32 n.num,.int .u8 n.cur,.int .u8 n.flt,.slice Bk n.know.length dk,.int .u32 n.epoch,.slice Be n.ents.length de,.int .u8 n.next,.bool n.done,.slice Bo n.offer.length d0] 30)).alloc (.cells #[.int .u8 0,.int .u8 0,.int .u32 0,.int .u32 0,.slice none 0 0,.slice none 0 0,.bool false,.int .u32 0,.int .u8 0,.int .u8 0,.int .u32 0,.slice none 0 0,.int .u32 0] 28)).alloc (.cells #[.int .i64 0,.int .u8 0,.int .u8 0,.int .u32 0,.int .u8 0,.int .u8 0,.slice none 0 0,.int .u32 0,.slice none 0 0,.int .u8 0,.bool false,.slice none 0 0] 30) = wz at HB0 BA ⊢
  refine (HR.out _ HB0.out).mono ?_
  rintro e w1 ⟨rfl,hb1⟩
  have B1 := Lib.hid (BA.out.1.keep hb1)
  have B2 := Lib.hid (BA.out.2.1.keep hb1)
  have D3 := Lib.hid (BA.out.2.2.1.keep hb1)
  have D4 := Lib.hid (BA.out.2.2.2.keep hb1)
  have HBE := Lib.hid (HB0.out.trans (hb1.mono HB0.out.size)); clear hb1 BA
  have b0 := B2.out.cell 0 (.int .i64 n.kind) rfl
  have b1 := B2.out.cell 1 (.int .u8 n.src) rfl
  have b2 := B2.out.cell 2 (.int .u8 n.dst) rfl
  have b3 := B2.out.cell 3 (.int .u32 n.num) rfl
  have b4 := B2.out.cell 4 (.int .u8 n.cur) rfl
  have b5 := B2.out.cell 5 (.int .u8 n.flt) rfl
  have b6 := B2.out.cell 6 (.slice Bk n.know.length dk) rfl
  have b7 := B2.out.cell 7 (.int .u32 n.epoch) rfl
  have b8 := B2.out.cell 8 (.slice Be n.ents.length de) rfl
  have b9 := B2.out.cell 9 (.int .u8 n.next) rfl
  have b10 := B2.out.cell 10 (.bool n.done) rfl
  have b11 := B2.out.cell 11 (.slice Bo n.offer.length d0) rfl
  go_wp2_with fail
  refine (HN.out _ HBE.out).mono ?_
  rintro e w2 ⟨rfl,hb2⟩
  have B1 := Lib.hid (B1.out.keep hb2)
  have B2 := Lib.hid (B2.out.keep hb2)
  have D3 := Lib.hid (D3.out.keep hb2)
  have D4 := Lib.hid (D4.out.keep hb2)
  have HBE := Lib.hid (HBE.out.trans (hb2.mono HBE.out.size)); clear hb2 b0 b1 b2 b3 b4 b5 b6 b7 b8 b9 b10 b11
  have b0 := B2.out.cell 0 (.int .i64 n.kind) rfl
  have b1 := B2.out.cell 1 (.int .u8 n.src) rfl
  have b2 := B2.out.cell 2 (.int .u8 n.dst) rfl
  have b3 := B2.out.cell 3 (.int .u32 n.num) rfl
  have b4 := B2.out.cell 4 (.int .u8 n.cur) rfl
  have b5 := B2.out.cell 5 (.int .u8 n.flt) rfl
  have b6 := B2.out.cell 6 (.slice Bk n.know.length dk) rfl
  have b7 := B2.out.cell 7 (.int .u32 n.epoch) rfl
  have b8 := B2.out.cell 8 (.slice Be n.ents.length de) rfl
  have b9 := B2.out.cell 9 (.int .u8 n.next) rfl
  have b10 := B2.out.cell 10 (.bool n.done) rfl
  have b11 := B2.out.cell 11 (.slice Bo n.offer.length d0) rfl
  have c0 := B1.out.cell 0 (.int .u8 r.rep) rfl
  have c1 := B1.out.cell 1 (.int .u8 r.flt) rfl
  have c2 := B1.out.cell 2 (.int .u32 r.epoch) rfl
  have c3 := B1.out.cell 3 (.int .u32 r.seq) rfl
  have c4 := B1.out.cell 4 (.slice Ak r.know.length ck) rfl
  have c5 := B1.out.cell 5 (.slice Ah r.held.length ch) rfl
  have c6 := B1.out.cell 6 (.bool true) rfl
  have c7 := B1.out.cell 7 (.int .u32 r.ses.num) rfl
  have c8 := B1.out.cell 8 (.int .u8 r.ses.src) rfl
  have c9 := B1.out.cell 9 (.int .u8 r.ses.cur) rfl
  have c10 := B1.out.cell 10 (.int .u32 r.ses.epoch) rfl
  have c11 := B1.out.cell 11 (.slice Ao r.ses.offer.length co) rfl
  have c12 := B1.out.cell 12 (.int .u32 r.ses.last) rfl
  have hw1 : w.heap.size < w2.heap.size := B1.out.lt
  have hw2 : w.heap.size + 1 < w2.heap.size := B2.out.lt
  have HAL := Lib.hid (al1 w2 (.cells #[.bool true,.int .u32 r.ses.num,.int .u8 r.ses.src,.int .u8 r.ses.cur,.int .u32 r.ses.epoch,.slice Ao r.ses.offer.length co,.int .u32 r.ses.last] 26))
  have D3 := Lib.hid (D3.out.keep HAL.out)
  have D4 := Lib.hid (D4.out.keep HAL.out)
  have HBE := Lib.hid (HBE.out.trans (HAL.out.mono HBE.out.size)); clear HAL
  go_wp2_with (first
    | (refine wpList_store_row rfl _ _ _ rfl (w.heap.size + 1 + 1) #[.int .u8 0,.int .u8 0,.int .u32 0,.int .u32 0,.slice none 0 0,.slice none 0 0,.bool false,.int .u32 0,.int .u8 0,.int .u8 0,.int .u32 0,.slice none 0 0,.int .u32 0] rfl rfl 28 _ D3.out.at_ rep_size rfl (by simp [Value.oneCell']) ?_)
    | (refine wpList_store_row rfl _ _ _ rfl (w.heap.size + 1 + 1 + 1) #[.int .i64 0,.int .u8 0,.int .u8 0,.int .u32 0,.int .u8 0,.int .u8 0,.slice none 0 0,.int .u32 0,.slice none 0 0,.int .u8 0,.bool false,.slice none 0 0] rfl rfl 30 _ (D4.out.other (by omega) _).at_ note_size rfl (by simp [Value.oneCell']) ?_))
  refine bodyPost_ret (v := .tuple #[.agg #[.int .u8 0,.int .u8 0,.int .u32 0,.int .u32 0,.slice none 0 0,.slice none 0 0,.bool false,.int .u32 0,.int .u8 0,.int .u8 0,.int .u32 0,.slice none 0 0,.int .u32 0],.agg #[.int .i64 0,.int .u8 0,.int .u8 0,.int .u32 0,.int .u8 0,.int .u8 0,.slice none 0 0,.int .u32 0,.slice none 0 0,.int .u8 0,.bool false,.slice none 0 0],.bool false,.int .i64 4]) (results_two_rows2 Tryz.results10 _ _ (w.heap.size + 1 + 1) (w.heap.size + 1 + 1 + 1) 28 30 #[.int .u8 0,.int .u8 0,.int .u32 0,.int .u32 0,.slice none 0 0,.slice none 0 0,.bool false,.int .u32 0,.int .u8 0,.int .u8 0,.int .u32 0,.slice none 0 0,.int .u32 0] #[.int .i64 0,.int .u8 0,.int .u8 0,.int .u32 0,.int .u8 0,.int .u8 0,.slice none 0 0,.int .u32 0,.slice none 0 0,.int .u8 0,.bool false,.slice none 0 0] (0,0) (0,0) _ _ rfl rfl ((D3.out.row _).other (by omega) _).at_ ((D4.out.other (by omega) _).row _).at_ Tryz.underlying28 Tryz.underlying30 rfl rfl rep_size note_size) rfl ?_
  have hfin := below_setRow (below_setRow HBE.out (Nat.le_trans (Nat.le_succ w.heap.size) (Nat.le_succ _)) #[.int .u8 0,.int .u8 0,.int .u32 0,.int .u32 0,.slice none 0 0,.slice none 0 0,.bool false,.int .u32 0,.int .u8 0,.int .u8 0,.int .u32 0,.slice none 0 0,.int .u32 0]) (Nat.le_trans (Nat.le_trans (Nat.le_succ w.heap.size) (Nat.le_succ _)) (Nat.le_succ _)) #[.int .i64 0,.int .u8 0,.int .u8 0,.int .u32 0,.int .u8 0,.int .u8 0,.slice none 0 0,.int .u32 0,.slice none 0 0,.int .u8 0,.bool false,.slice none 0 0]
  exact ⟨_,_,rfl,zeroP_v _ _,zero_v _ _,hfin⟩

theorem q7Accept_no3 (v v2 : Value) (r : Rp) (n : Nt) (w : World) (hv : RpV w w.heap.size v r) (hv2 : NtV w w.heap.size v2 n) (h1 : r.know.length ≤ 1000) (h2 : r.held.length ≤ 1000) (h3 : r.ses.offer.length ≤ 1000)
    (g1 : n.know.length ≤ 1000) (g2 : n.ents.length ≤ 1000) (g3 : n.offer.length ≤ 1000) (hr : rpB r = true) (hn : noteB n = true) (hw : waitB r n = false) :
    Calls Tryz.prog 10 #[v,v2] w (AccPost w ⟨zeroP,zeroN,false,4⟩) := by
  unfold waitB at hw
  cases k0 : (n.kind != 2)
  case true => exact q7Accept_no3a v v2 r n w hv hv2 h1 h2 h3 g1 g2 g3 hr hn k0
  cases k1 : (n.dst != r.rep)
  case true => exact q7Accept_no3b v v2 r n w hv hv2 h1 h2 h3 g1 g2 g3 hr hn k0 k1
  cases k2 : r.ses.on
  case false => exact q7Accept_no3c v v2 r n w hv hv2 h1 h2 h3 g1 g2 g3 hr hn k0 k1 k2
  cases k3 : (n.src != r.ses.src)
  case true => exact q7Accept_no3d v v2 r n w hv hv2 h1 h2 h3 g1 g2 g3 hr hn k0 k1 k2 k3
  cases k4 : (n.num != r.ses.num)
  case true => exact q7Accept_no3e v v2 r n w hv hv2 h1 h2 h3 g1 g2 g3 hr hn k0 k1 k2 k3 k4
  cases k5 : (n.cur != r.ses.cur)
  case true => exact q7Accept_no3f v v2 r n w hv hv2 h1 h2 h3 g1 g2 g3 hr hn k0 k1 k2 k3 k4 k5
  rw [k0,k1,k2,k3,k4,k5] at hw
  simp at hw
end Go.Proofs.YtfjaeohfigcciabGreatDoor

