/- Texts in one: TFetchD. -/
import Derived.Deep.RegionWith
import Derived.Deep.DeepCutAuto
import Derived.Test.YtfjaeohfigcciabGreatDoorQF42
set_option linter.unusedVariables false
set_option linter.unusedSimpArgs false
set_option linter.unusedSectionVars false
set_option linter.unnecessarySimpa false
namespace Go.Proofs.YtfjaeohfigcciabGreatDoor
open Go.RowKit

def codeN : Nat → Code → Code
  | 0, c => c
  | n + 1, .seq _ b => codeN n b
  | _, c => c
theorem snd10 {f : Func} {a0 a1 a2 a3 a4 a5 a6 a7 a8 a9 c : Code} (h : f.body = some (.seq a0 (.seq a1 (.seq a2 (.seq a3 (.seq a4 (.seq a5 (.seq a6 (.seq a7 (.seq a8 (.seq a9 c))))))))))) : codeN 10 (f.body.getD .skip) = c := by rw [h]; rfl
/-- the law behind its first loop -/
noncomputable def fetchRest : Code := codeN 10 (Tryz.f5.body.getD .skip)

set_option maxHeartbeats 16000000 in
set_option maxRecDepth 100000 in
theorem fetch_rest {x : Rp} {lx : Ls} {due told : List En} {Ad At : Option Addr} {nd cd ct G5 base : Nat} {w wr : World} {u0 u1 u2 u3 u4 u6 u7 u9 u11 u12 u13 u14 u15 u16 u17 u18 u19 u20 u21 u22 u23 u24 u25 u26 u27 u28 u29 u30 u31 u32 u33 u34 u35 u36 u37 u38 u39 u40 u41 u42 u43 u44 u45 u46 u47 u48 u49 u50 u51 u52 u53 u54 u55 u56 u57 u58 u59 u60 u61 u62 u63 u64 u65 u66 u67 u68 u69 u70 u71 u72 u73 u74 u75 u76 u77 u78 u79 u80 u81 u82 u83 u84 u85 u86 u87 u88 u89 u90 u91 u92 u93 u94 u95 u96 u97 u98 u99 u100 u101 u102 u103 u104 u105 u106 u107 u108 u109 u110 u111 u112 u113 u114 u115 u116 u117 u118 u119 u120 u121 u122 u123 u124 u125 u126 u127 u128 u129 u130 u131 u132 u133 u134 u135 u136 u137 u138 u139 u140 u141 u142 u143 u144 u145 u146 u147 u148 u149 u150 u151 u152 u153 u154 u155 u156 u157 u158 u159 u160 u161 u162 u163 u164 u165 u166 u167 : Value} (hnd : due.length = nd) (hnd64 : nd ≤ 64)
    (hma : ∀ (k : Nat) (d : En), due[k]? = some d → ∃ z : En, told[k]? = some z ∧ z.rep = d.rep ∧ z.seq = d.seq ∧ z.stamp = d.stamp ∧ (findE x.held d.id).2 = true ∧ ltV (findE x.held d.id).1.ver d.ver = false)
    (hdu : ESl wr wr.heap.size (.slice Ad nd cd) due) (hto : EOwn wr base (.slice At nd ct) told) (hhe : ESl wr wr.heap.size (.slice lx.b x.held.length lx.j) x.held) (hxl : x.held.length ≤ 9223372036854775807)
    (hbx : Blk wr G5 (repR x lx) 28) (hbe : Below w.heap.size w wr) :
    fetchRest.wp Tryz.prog (bodyPost Tryz.prog Tryz.f5 (fun e w' => e = .returned (.bool true) ∧ Below w.heap.size w w')) { tmps := #[u0, u1, u2, u3, u4, .pointer (some ⟨G5, 0, none⟩), u6, u7, .slice Ad nd cd, u9, .slice At nd ct, u11, u12, u13, u14, u15, u16, u17, u18, u19, u20, u21, u22, u23, u24, u25, u26, u27, u28, u29, u30, u31, u32, u33, u34, u35, u36, u37, u38, u39, u40, u41, u42, u43, u44, u45, u46, u47, u48, u49, u50, u51, u52, u53, u54, u55, u56, u57, u58, u59, u60, u61, u62, u63, u64, u65, u66, u67, u68, u69, u70, u71, u72, u73, u74, u75, u76, u77, u78, u79, u80, u81, u82, u83, u84, u85, u86, u87, u88, u89, u90, u91, u92, u93, u94, u95, u96, u97, u98, u99, u100, u101, u102, u103, u104, u105, u106, u107, u108, u109, u110, u111, u112, u113, u114, u115, u116, u117, u118, u119, u120, u121, u122, u123, u124, u125, u126, u127, u128, u129, u130, u131, u132, u133, u134, u135, u136, u137, u138, u139, u140, u141, u142, u143, u144, u145, u146, u147, u148, u149, u150, u151, u152, u153, u154, u155, u156, u157, u158, u159, u160, u161, u162, u163, u164, u165, u166, u167], defers := [] } wr := by
  have HND := Lib.hid hnd
  have HMA := Lib.hid hma
  have HDU := Lib.hid hdu
  have HTO := Lib.hid hto
  have HHE := Lib.hid hhe
  have HXL := Lib.hid hxl
  have HBX := Lib.hid hbx
  have HBE := Lib.hid hbe
  have HM := Lib.hid (by kernel_rfl : Tryz.prog.follows .mixedOrders = true)
  clear hnd hma hdu hto hhe hxl hbx hbe
  unfold fetchRest
  rw [snd10 (f := Tryz.f5) rfl]
  go_wp2_with fail
  go_loopw [18] (fun iv wl => ∃ k : Nat, iv = .int .i64 k ∧ k ≤ nd ∧ Below wr.heap.size wr wl) (fun iv _ => nd - (intOf iv).toNat)
  case atStart => exact ⟨0, rfl, Nat.zero_le _, Below.refl _ _⟩
  case round =>
    rename World => wl
    obtain ⟨k, rfl, hk, hb⟩ := hrel
    by_cases hlt : k < nd
    · skip
      obtain ⟨d, hd⟩ : ∃ d, due[k]? = some d := ⟨_, List.getElem?_eq_getElem (by rw [HND.out]; exact hlt)⟩
      obtain ⟨z, hz, z1, z2, z3, hf1, hf2⟩ := HMA.out k d hd
      obtain ⟨bd, od, rfl, hbd, hdc⟩ := HDU.out.at_ hd
      obtain ⟨bt, rfl, hbt, hzc⟩ := HTO.out.at_ hz
      have DE := Lib.hid (hdc.keep hb hbd)
      have ZE := Lib.hid (hzc.keep hb hbt)
      rw [show z = ⟨z.id, d.rep, d.seq, d.stamp, z.kind, z.cls, z.val⟩ by rw [← z1, ← z2, ← z3]] at ZE
      obtain ⟨en, hen⟩ : ∃ en, findE x.held d.id = (en, true) := ⟨_, Prod.ext rfl hf1⟩
      rw [hen] at hf2
      have CFA := Lib.hid (fun W (hw : Below wl.heap.size wl W) => by
        have h := rFind_any W (.slice lx.b x.held.length lx.j) x.held d.id (HHE.out.later (hb.trans (hw.mono hb.size))) HXL.out
        rw [hen] at h
        simp only [En.agg] at h
        exact h)
      have HF2 := Lib.hid hf2
      have hg5 := HBX.out.keep hb
      have hbl : bd < wl.heap.size := Nat.lt_of_lt_of_le hbd hb.size
      have htl : bt < wl.heap.size := Nat.lt_of_lt_of_le hbt hb.size
      have hgl : G5 < wl.heap.size := hg5.lt
      have p5 := hg5.cell 5 (.slice lx.b x.held.length lx.j) rfl
      have p0 := DE.out.all.1
      have HBL := Lib.hid hb
      clear hen hf1 hf2 hg5 hd hz z1 z2 z3 hdc hzc hb
      go_upto_region 31 with fail
      go_cut [19, 20] (fun s19 s20 wx => ∃ gE : Nat, s19 = .pointer (some ⟨gE, 0, none⟩) ∧ s20 = .bool true ∧ Hid (EnAt wx gE 0 en) ∧ Hid (Below wl.heap.size wl wx))
      case first =>
        go_region_with (first
          | (go_at_call 27
             refine (CFA.out _ (by first | exact Below.refl _ _ | exact (Below.refl _ _).drew | exact al1 _ _ | exact (Below.refl _ _).drew.alloc (by simp) _)).mono ?_
             rintro e w6 ⟨rfl, hb6⟩
             first
               | (have hz : Blk w6 wl.heap.size #[.int .u8 0, .int .u8 0, .int .u32 0, .int .u32 0, .int .i64 0, .int .u8 0, .int .u32 0] 62 := (Blk.new wl _ _).keep ((Below.refl _ (wl.alloc (.cells #[.int .u8 0, .int .u8 0, .int .u32 0, .int .u32 0, .int .i64 0, .int .u8 0, .int .u32 0] 62))).drew.trans hb6)
                  have z0 : w6.cell? ⟨wl.heap.size, 0, none⟩ = some (.int .u8 0) := hz.cell 0 _ rfl
                  have y0 : w6.frozen? ⟨wl.heap.size, 0, none⟩ = false := hz.free 0
                  have z1 : ∀ (a0 : Value), (w6.setCell ⟨wl.heap.size, 0, none⟩ a0).cell? ⟨wl.heap.size, 1, none⟩ = some (.int .u8 0) := fun a0 => by simp only [World.cell?_setCell_other _ _ _ _ (show (⟨wl.heap.size, 0, none⟩ : Addr) ≠ ⟨wl.heap.size, 1, none⟩ by simp)]; exact hz.cell 1 _ rfl
                  have y1 : ∀ (a0 : Value), (w6.setCell ⟨wl.heap.size, 0, none⟩ a0).frozen? ⟨wl.heap.size, 1, none⟩ = false := fun a0 => by simp only [World.frozen?_setCell]; exact hz.free 1
                  have z2 : ∀ (a0 a1 : Value), ((w6.setCell ⟨wl.heap.size, 0, none⟩ a0).setCell ⟨wl.heap.size, 1, none⟩ a1).cell? ⟨wl.heap.size, 2, none⟩ = some (.int .u32 0) := fun a0 a1 => by simp only [World.cell?_setCell_other _ _ _ _ (show (⟨wl.heap.size, 1, none⟩ : Addr) ≠ ⟨wl.heap.size, 2, none⟩ by simp), World.cell?_setCell_other _ _ _ _ (show (⟨wl.heap.size, 0, none⟩ : Addr) ≠ ⟨wl.heap.size, 2, none⟩ by simp)]; exact hz.cell 2 _ rfl
                  have y2 : ∀ (a0 a1 : Value), ((w6.setCell ⟨wl.heap.size, 0, none⟩ a0).setCell ⟨wl.heap.size, 1, none⟩ a1).frozen? ⟨wl.heap.size, 2, none⟩ = false := fun a0 a1 => by simp only [World.frozen?_setCell]; exact hz.free 2
                  have z3 : ∀ (a0 a1 a2 : Value), (((w6.setCell ⟨wl.heap.size, 0, none⟩ a0).setCell ⟨wl.heap.size, 1, none⟩ a1).setCell ⟨wl.heap.size, 2, none⟩ a2).cell? ⟨wl.heap.size, 3, none⟩ = some (.int .u32 0) := fun a0 a1 a2 => by simp only [World.cell?_setCell_other _ _ _ _ (show (⟨wl.heap.size, 2, none⟩ : Addr) ≠ ⟨wl.heap.size, 3, none⟩ by simp), World.cell?_setCell_other _ _ _ _ (show (⟨wl.heap.size, 1, none⟩ : Addr) ≠ ⟨wl.heap.size, 3, none⟩ by simp), World.cell?_setCell_other _ _ _ _ (show (⟨wl.heap.size, 0, none⟩ : Addr) ≠ ⟨wl.heap.size, 3, none⟩ by simp)]; exact hz.cell 3 _ rfl
                  have y3 : ∀ (a0 a1 a2 : Value), (((w6.setCell ⟨wl.heap.size, 0, none⟩ a0).setCell ⟨wl.heap.size, 1, none⟩ a1).setCell ⟨wl.heap.size, 2, none⟩ a2).frozen? ⟨wl.heap.size, 3, none⟩ = false := fun a0 a1 a2 => by simp only [World.frozen?_setCell]; exact hz.free 3
                  have z4 : ∀ (a0 a1 a2 a3 : Value), ((((w6.setCell ⟨wl.heap.size, 0, none⟩ a0).setCell ⟨wl.heap.size, 1, none⟩ a1).setCell ⟨wl.heap.size, 2, none⟩ a2).setCell ⟨wl.heap.size, 3, none⟩ a3).cell? ⟨wl.heap.size, 4, none⟩ = some (.int .i64 0) := fun a0 a1 a2 a3 => by simp only [World.cell?_setCell_other _ _ _ _ (show (⟨wl.heap.size, 3, none⟩ : Addr) ≠ ⟨wl.heap.size, 4, none⟩ by simp), World.cell?_setCell_other _ _ _ _ (show (⟨wl.heap.size, 2, none⟩ : Addr) ≠ ⟨wl.heap.size, 4, none⟩ by simp), World.cell?_setCell_other _ _ _ _ (show (⟨wl.heap.size, 1, none⟩ : Addr) ≠ ⟨wl.heap.size, 4, none⟩ by simp), World.cell?_setCell_other _ _ _ _ (show (⟨wl.heap.size, 0, none⟩ : Addr) ≠ ⟨wl.heap.size, 4, none⟩ by simp)]; exact hz.cell 4 _ rfl
                  have y4 : ∀ (a0 a1 a2 a3 : Value), ((((w6.setCell ⟨wl.heap.size, 0, none⟩ a0).setCell ⟨wl.heap.size, 1, none⟩ a1).setCell ⟨wl.heap.size, 2, none⟩ a2).setCell ⟨wl.heap.size, 3, none⟩ a3).frozen? ⟨wl.heap.size, 4, none⟩ = false := fun a0 a1 a2 a3 => by simp only [World.frozen?_setCell]; exact hz.free 4
                  have z5 : ∀ (a0 a1 a2 a3 a4 : Value), (((((w6.setCell ⟨wl.heap.size, 0, none⟩ a0).setCell ⟨wl.heap.size, 1, none⟩ a1).setCell ⟨wl.heap.size, 2, none⟩ a2).setCell ⟨wl.heap.size, 3, none⟩ a3).setCell ⟨wl.heap.size, 4, none⟩ a4).cell? ⟨wl.heap.size, 5, none⟩ = some (.int .u8 0) := fun a0 a1 a2 a3 a4 => by simp only [World.cell?_setCell_other _ _ _ _ (show (⟨wl.heap.size, 4, none⟩ : Addr) ≠ ⟨wl.heap.size, 5, none⟩ by simp), World.cell?_setCell_other _ _ _ _ (show (⟨wl.heap.size, 3, none⟩ : Addr) ≠ ⟨wl.heap.size, 5, none⟩ by simp), World.cell?_setCell_other _ _ _ _ (show (⟨wl.heap.size, 2, none⟩ : Addr) ≠ ⟨wl.heap.size, 5, none⟩ by simp), World.cell?_setCell_other _ _ _ _ (show (⟨wl.heap.size, 1, none⟩ : Addr) ≠ ⟨wl.heap.size, 5, none⟩ by simp), World.cell?_setCell_other _ _ _ _ (show (⟨wl.heap.size, 0, none⟩ : Addr) ≠ ⟨wl.heap.size, 5, none⟩ by simp)]; exact hz.cell 5 _ rfl
                  have y5 : ∀ (a0 a1 a2 a3 a4 : Value), (((((w6.setCell ⟨wl.heap.size, 0, none⟩ a0).setCell ⟨wl.heap.size, 1, none⟩ a1).setCell ⟨wl.heap.size, 2, none⟩ a2).setCell ⟨wl.heap.size, 3, none⟩ a3).setCell ⟨wl.heap.size, 4, none⟩ a4).frozen? ⟨wl.heap.size, 5, none⟩ = false := fun a0 a1 a2 a3 a4 => by simp only [World.frozen?_setCell]; exact hz.free 5
                  have z6 : ∀ (a0 a1 a2 a3 a4 a5 : Value), ((((((w6.setCell ⟨wl.heap.size, 0, none⟩ a0).setCell ⟨wl.heap.size, 1, none⟩ a1).setCell ⟨wl.heap.size, 2, none⟩ a2).setCell ⟨wl.heap.size, 3, none⟩ a3).setCell ⟨wl.heap.size, 4, none⟩ a4).setCell ⟨wl.heap.size, 5, none⟩ a5).cell? ⟨wl.heap.size, 6, none⟩ = some (.int .u32 0) := fun a0 a1 a2 a3 a4 a5 => by simp only [World.cell?_setCell_other _ _ _ _ (show (⟨wl.heap.size, 5, none⟩ : Addr) ≠ ⟨wl.heap.size, 6, none⟩ by simp), World.cell?_setCell_other _ _ _ _ (show (⟨wl.heap.size, 4, none⟩ : Addr) ≠ ⟨wl.heap.size, 6, none⟩ by simp), World.cell?_setCell_other _ _ _ _ (show (⟨wl.heap.size, 3, none⟩ : Addr) ≠ ⟨wl.heap.size, 6, none⟩ by simp), World.cell?_setCell_other _ _ _ _ (show (⟨wl.heap.size, 2, none⟩ : Addr) ≠ ⟨wl.heap.size, 6, none⟩ by simp), World.cell?_setCell_other _ _ _ _ (show (⟨wl.heap.size, 1, none⟩ : Addr) ≠ ⟨wl.heap.size, 6, none⟩ by simp), World.cell?_setCell_other _ _ _ _ (show (⟨wl.heap.size, 0, none⟩ : Addr) ≠ ⟨wl.heap.size, 6, none⟩ by simp)]; exact hz.cell 6 _ rfl
                  have y6 : ∀ (a0 a1 a2 a3 a4 a5 : Value), ((((((w6.setCell ⟨wl.heap.size, 0, none⟩ a0).setCell ⟨wl.heap.size, 1, none⟩ a1).setCell ⟨wl.heap.size, 2, none⟩ a2).setCell ⟨wl.heap.size, 3, none⟩ a3).setCell ⟨wl.heap.size, 4, none⟩ a4).setCell ⟨wl.heap.size, 5, none⟩ a5).frozen? ⟨wl.heap.size, 6, none⟩ = false := fun a0 a1 a2 a3 a4 a5 => by simp only [World.frozen?_setCell]; exact hz.free 6
                  clear hz)
               | skip))
        all_goals go_wp2
        all_goals
          go_meet
          case rel =>
            refine ⟨_, rfl, rfl, ?_, ?_⟩
            · first
                | with_reducible exact Lib.hid (new_entry w6 en 62)
                | exact Lib.hid (putEn_at (w := w6) (g := wl.heap.size) ((new_entry wl ⟨0, 0, 0, 0, 0, 0, 0⟩ 62).keep ((Below.refl _ _).drew.trans hb6) (by simp)) en)
            · first
                | (have hb7 := hb6
                   rw [show wl.drew.heap.size = wl.heap.size from rfl] at hb7
                   have hs7 : wl.heap.size ≤ w6.heap.size := hb7.size
                   have hb8 := (Below.refl wl.heap.size wl).drew.trans hb7
                   with_reducible exact Lib.hid (hb8.trans ((al1 w6 _).mono hs7)))
                | exact Lib.hid (putEn_below (w := w6) ((al1 wl (.cells #[.int .u8 0, .int .u8 0, .int .u32 0, .int .u32 0, .int .i64 0, .int .u8 0, .int .u32 0] 62)).drew.trans (Below.mono hb6 (by simp))) (Nat.le_refl wl.heap.size) 0 en)
      case rest =>
        rename World => wE
        obtain ⟨gE, rfl, rfl, HE, HW⟩ := hcut
        clear p0 p5
        have hge : gE < wE.heap.size := World.block_lt_of_cell? wE ⟨gE, 0, none⟩ HE.out.all0.1
        have hbl' : bd < wE.heap.size := Nat.lt_of_lt_of_le hbl HW.out.size
        have htl' : bt < wE.heap.size := Nat.lt_of_lt_of_le htl HW.out.size
        have CL := Lib.hid (fun p : Later wE => by
          have h := rLess_any en.rep en.seq en.stamp d.rep d.seq d.stamp p.now
          rw [show ltV ⟨en.rep, en.seq, en.stamp⟩ ⟨d.rep, d.seq, d.stamp⟩ = false from HF2.out] at h
          exact h)
        have DE2 := DE.out.keep HW.out hbl
        have ZE2 := ZE.out.keep HW.out htl
        go_wp2_with fail
        have t1 := fun p : Later wE => (p.bel.cell (p := ⟨bt, k * 7 + 1, none⟩) htl').trans ZE2.all.2.1
        have t2 := fun p : Later wE => (p.bel.cell (p := ⟨bt, k * 7 + 2, none⟩) htl').trans ZE2.all.2.2.1
        have t3 := fun p : Later wE => (p.bel.cell (p := ⟨bt, k * 7 + 3, none⟩) htl').trans ZE2.all.2.2.2.1
        have d1 := fun p : Later wE => (p.bel.cell (p := ⟨bd, od + k * 7 + 1, none⟩) hbl').trans DE2.all.2.1
        have d2 := fun p : Later wE => (p.bel.cell (p := ⟨bd, od + k * 7 + 2, none⟩) hbl').trans DE2.all.2.2.1
        have d3 := fun p : Later wE => (p.bel.cell (p := ⟨bd, od + k * 7 + 3, none⟩) hbl').trans DE2.all.2.2.2.1
        have e1 := fun p : Later wE => (p.bel.cell (p := ⟨gE, 1, none⟩) hge).trans HE.out.all0.2.1
        have e2 := fun p : Later wE => (p.bel.cell (p := ⟨gE, 2, none⟩) hge).trans HE.out.all0.2.2.1
        have e3 := fun p : Later wE => (p.bel.cell (p := ⟨gE, 3, none⟩) hge).trans HE.out.all0.2.2.2.1
        have hm : Tryz.prog.follows .mixedOrders = true := HM.out
        refine wp_region_later hm (by kernel_rfl) ?_
        repeat (any_goals (first | go_big_quiet_step (first | (go_at_call 28; exact Calls.later (CL.out _))) | quiet_step (first | (go_at_call 28; exact Calls.later (CL.out _)))))
        refine wpQuiet_nil ?_
        intro wp hw'
        obtain ⟨lp, hlp⟩ := hw'
        have hbp := lp.bel
        rw [← hlp] at hbp
        clear hlp lp t1 t2 t3 d1 d2 d3 e1 e2 e3
        have HBP := Lib.hid (HBL.out.trans ((HW.out.trans (hbp.mono HW.out.size)).mono HBL.out.size))
        clear hbp DE2 ZE2
        go_wp2
        go_roundw
        case rel => exact ⟨k + 1, by go_num, by omega, HBP.out⟩
        case measure => simp [intOf]; omega
    · skip
      have hkk : k = nd := by omega
      go_wp2_with fail
      go_ret
      exact ⟨rfl, HBE.out.trans (hb.mono HBE.out.size)⟩
end Go.Proofs.YtfjaeohfigcciabGreatDoor

