/- Texts in one: Same, PRef5, PRef6, RTake, TLs. -/
import Derived.Orders
import Derived.KernelRfl
import Derived.Laws.Rows
import Derived.Test.YtfjaeohfigcciabGreatDoorQA00
import Derived.Test.YtfjaeohfigcciabGreatDoorQA18
import Derived.Test.YtfjaeohfigcciabGreatDoorQA14
import Derived.Test.YtfjaeohfigcciabGreatDoorQA09
import Derived.Test.YtfjaeohfigcciabGreatDoorQA17
import Derived.Test.YtfjaeohfigcciabGreatDoorQA06
set_option linter.all false
namespace Go.Proofs.YtfjaeohfigcciabGreatDoor
open Go.RowKit Go.Sort

theorem same_take {zs ys : List Rn} (hl : zs.length = ys.length) (h : ∀ j,j < zs.length → zs[j]? = ys[j]?) : zs = ys := by
  apply List.ext_getElem?
  intro j
  rcases Nat.lt_or_ge j zs.length with hj | hj
  · exact h j hj
  · rw [List.getElem?_eq_none hj,List.getElem?_eq_none (by omega)]

set_option maxHeartbeats 2000000 in
theorem Same_any (v1 v2 : Value) (zs ys : List Rn) (w : World) (h1 : Sl w w.heap.size v1 zs) (h2 : Sl w w.heap.size v2 ys) (hz : zs.length ≤ 1000) (hy : ys.length ≤ 1000) :
    Calls Tryz.prog 43 #[v1,v2] w fun e w' => e = .returned (.bool (decide (zs = ys))) ∧ Below w.heap.size w w' := by
  obtain ⟨A,c,rfl,_,_,hA⟩ := h1
  obtain ⟨A',c',rfl,_,_,hA'⟩ := h2
  by_cases hl : zs.length = ys.length
  · generalize hR : decide (zs = ys) = R
    have HR := Lib.hid hR; clear hR
    have HA := Lib.hid hA; clear hA
    have HA' := Lib.hid hA'; clear hA'
    have HL := Lib.hid hl
    have hbn : ((zs.length : Int) != (ys.length : Int)) = false := by simp [hl]
    have hle : zs.length ≤ ys.length := by omega
    clear hl
    go_enter Tryz.func43,Tryz.ntmps43
    go_wp2
    go_loopw [5] (fun i wr => ∃ k : Nat,i = .int .i64 k ∧ k ≤ zs.length ∧ Hid (∀ j,j < k → zs[j]? = ys[j]?) ∧ Below w.heap.size w wr) (fun i _ => zs.length - (intOf i).toNat)
    case atStart => exact ⟨0,rfl,by omega,Lib.hid (fun j hj => absurd hj (by omega)),Below.refl _ _⟩
    case round =>
      obtain ⟨k,rfl,hk,HO,hb⟩ := hrel
      by_cases hlt : k < zs.length
      · obtain ⟨b,off,rfl,hbw,hc⟩ := HA.out (by intro h; simp [h] at hlt)
        obtain ⟨b',off',rfl,hbw',hc'⟩ := HA'.out (by intro h; have := congrArg List.length h; simp only [List.length_nil] at this; omega)
        have hxk : zs[k]? = some zs[k] := List.getElem?_eq_getElem hlt
        have hyk : ys[k]? = some ys[k] := List.getElem?_eq_getElem (by omega)
        generalize zs[k] = x at hxk
        generalize ys[k] = y at hyk
        obtain ⟨c0,c1,c2⟩ := (hc k x hxk).keep hb hbw
        obtain ⟨d0,d1,d2⟩ := (hc' k y hyk).keep hb hbw'
        clear hc hc'
        have HX := Lib.hid hxk; clear hxk
        have HY := Lib.hid hyk; clear hyk
        have hky : k < ys.length := by omega
        have hb' := Lib.hid hb; clear hb
        by_cases hxy : x = y
        · subst hxy
          go_wp2_with fail
          go_quiet (fail)
          go_wp2
          go_roundw
          case rel =>
            refine ⟨k + 1,by go_num,by omega,Lib.hid (fun i hi => ?_),?_⟩
            · rcases Nat.lt_or_ge i k with h | h
              · exact HO.out i h
              · obtain rfl : i = k := by omega
                rw [HX.out,HY.out]
            · exact ⟨hb'.out.os,hb'.out.tape,hb'.out.output,hb'.out.size,hb'.out.block⟩
          case measure => simp [intOf]; omega
        · have hend : Hid (R = false) := by
            refine Lib.hid ?_
            rw [← HR.out,decide_eq_false]
            intro h
            have h1 := HX.out
            rw [h,HY.out] at h1
            exact hxy (Option.some.inj h1).symm
          by_cases e1 : x.r = y.r
          · by_cases e2 : x.lo = y.lo
            · have e3 : (x.hi == y.hi) = false := by
                simp only [beq_eq_false_iff_ne]
                intro e3
                apply hxy
                cases x; cases y
                simp only at e1 e2 e3
                subst e1 e2 e3
                rfl
              have e1' : (x.r == y.r) = true := by simp [e1]
              have e2' : (x.lo == y.lo) = true := by simp [e2]
              clear e1 e2 hxy
              go_wp2_with fail
              go_quiet (fail)
              go_wp2
              go_ret
              rw [hend.out]
              exact ⟨rfl,⟨hb'.out.os,hb'.out.tape,hb'.out.output,hb'.out.size,hb'.out.block⟩⟩
            · have e2' : (x.lo == y.lo) = false := by simp [e2]
              have e1' : (x.r == y.r) = true := by simp [e1]
              clear e1 e2 hxy
              go_wp2_with fail
              go_quiet (fail)
              go_wp2
              go_ret
              rw [hend.out]
              exact ⟨rfl,⟨hb'.out.os,hb'.out.tape,hb'.out.output,hb'.out.size,hb'.out.block⟩⟩
          · have e1' : (x.r == y.r) = false := by simp [e1]
            clear e1 hxy
            go_wp2_with fail
            go_quiet (fail)
            go_wp2
            go_ret
            rw [hend.out]
            exact ⟨rfl,⟨hb'.out.os,hb'.out.tape,hb'.out.output,hb'.out.size,hb'.out.block⟩⟩
      · go_wp2
        go_ret
        refine ⟨?_,hb⟩
        rw [← HR.out,decide_eq_true (same_take HL.out (fun j hj => HO.out j (by omega)))]
        rfl
  · have e : decide (zs = ys) = false := by
      simp only [decide_eq_false_iff_not]
      rintro rfl
      exact hl rfl
    rw [e]; clear e
    have hbn : ((zs.length : Int) != (ys.length : Int)) = true := by simp; omega
    go_enter Tryz.func43,Tryz.ntmps43
    go_wp2
    go_ret
    exact ⟨rfl,Below.refl _ _⟩
end Go.Proofs.YtfjaeohfigcciabGreatDoor

namespace Go.Proofs.YtfjaeohfigcciabGreatDoor
open Go.RowKit

theorem q5Right_any (v : Value) (r : Rp) (w : World) (hv : RpV w w.heap.size v r) (h1 : r.know.length ≤ 1000) (h2 : r.held.length ≤ 1000) (h3 : r.ses.offer.length ≤ 1000) :
    Calls Tryz.prog 23 #[v] w fun e w' => e = .returned (.bool (rpB r)) ∧ Below w.heap.size w w' := by
  cases h : headR r
  · exact q5Right_head v r w hv h1 h2 h3 h
  · exact q5Right_rest v r w hv h1 h2 h3 h

set_option maxHeartbeats 16000000 in
set_option maxRecDepth 100000 in
theorem q5Same_eq (v1 v2 : Value) (r : Rp) (w : World) (hv1 : RpV w w.heap.size v1 r) (hv2 : RpV w w.heap.size v2 r) (h1 : r.know.length ≤ 1000) (h2 : r.held.length ≤ 1000) (h3 : r.ses.offer.length ≤ 1000) :
    Calls Tryz.prog 12 #[v1,v2] w fun e w' => e = .returned (.bool true) ∧ Below w.heap.size w w' := by
  obtain ⟨ak,ae,ao,rfl,hk,he,ho,_⟩ := hv1
  obtain ⟨bk,be,bo,rfl,gk,ge,go,_⟩ := hv2
  have s1 := fun w1 (hb : Below w.heap.size w w1) => Same_any ak bk r.know r.know w1 ((hk.below hb).more hb.size) ((gk.below hb).more hb.size) h1 h1
  have s2 := fun w1 (hb : Below w.heap.size w w1) => rSame_yes ae be r.held w1 ((he.below hb).more hb.size) ((ge.below hb).more hb.size) (by omega)
  have s3 := fun w1 (hb : Below w.heap.size w w1) => Same_any ao bo r.ses.offer r.ses.offer w1 ((ho.below hb).more hb.size) ((go.below hb).more hb.size) h3 h3
  rw [decide_eq_true rfl] at s1 s3
  have S1 := Lib.hid s1; clear s1
  have S2 := Lib.hid s2; clear s2
  have S3 := Lib.hid s3; clear s3
  obtain ⟨A1,c1,rfl,_⟩ := hk
  obtain ⟨A2,c2,rfl,_⟩ := he
  obtain ⟨A3,c3,rfl,_⟩ := ho
  obtain ⟨A4,c4,rfl,_⟩ := gk
  obtain ⟨A5,c5,rfl,_⟩ := ge
  obtain ⟨A6,c6,rfl,_⟩ := go
  have B1 := Blk.new w (r.cells (.slice A1 r.know.length c1) (.slice A2 r.held.length c2) (.slice A3 r.ses.offer.length c3)) 28
  have B2 := Blk.new (w.alloc (.cells (r.cells (.slice A1 r.know.length c1) (.slice A2 r.held.length c2) (.slice A3 r.ses.offer.length c3)) 28)) (r.cells (.slice A4 r.know.length c4) (.slice A5 r.held.length c5) (.slice A6 r.ses.offer.length c6)) 28
  have B1 := B1.alloc (.cells (r.cells (.slice A4 r.know.length c4) (.slice A5 r.held.length c5) (.slice A6 r.ses.offer.length c6)) 28)
  have e1 : (w.alloc (.cells (r.cells (.slice A1 r.know.length c1) (.slice A2 r.held.length c2) (.slice A3 r.ses.offer.length c3)) 28)).heap.size = w.heap.size + 1 := by simp
  rw [e1] at B2
  have HB0 := al2 w (.cells (r.cells (.slice A1 r.know.length c1) (.slice A2 r.held.length c2) (.slice A3 r.ses.offer.length c3)) 28) (.cells (r.cells (.slice A4 r.know.length c4) (.slice A5 r.held.length c5) (.slice A6 r.ses.offer.length c6)) 28)
  unfold Rp.cells at B1 B2 HB0 ⊢
  have HB0 := Lib.hid HB0
  have B1 := Lib.hid B1
  have B2 := Lib.hid B2
  clear e1
  have hd : (r.ses.on != r.ses.on) = false := by simp
  go_enter Tryz.func12,Tryz.ntmps12
  go_wp2_with fail
  have HB3 := Lib.hid (HB0.out.trans ((al2 _ (.cells #[.bool r.ses.on,.int .u32 r.ses.num,.int .u8 r.ses.src,.int .u8 r.ses.cur,.int .u32 r.ses.epoch,(.slice A3 r.ses.offer.length c3),.int .u32 r.ses.last] 26) (.cells #[.bool r.ses.on,.int .u32 r.ses.num,.int .u8 r.ses.src,.int .u8 r.ses.cur,.int .u32 r.ses.epoch,(.slice A6 r.ses.offer.length c6),.int .u32 r.ses.last] 26)).mono HB0.out.size))
  refine (S3.out _ HB3.out).mono ?_
  rintro e w1 ⟨rfl,hb1⟩
  have b1 := Lib.hid (((B1.out.alloc (.cells #[.bool r.ses.on,.int .u32 r.ses.num,.int .u8 r.ses.src,.int .u8 r.ses.cur,.int .u32 r.ses.epoch,(.slice A3 r.ses.offer.length c3),.int .u32 r.ses.last] 26)).alloc (.cells #[.bool r.ses.on,.int .u32 r.ses.num,.int .u8 r.ses.src,.int .u8 r.ses.cur,.int .u32 r.ses.epoch,(.slice A6 r.ses.offer.length c6),.int .u32 r.ses.last] 26)).keep hb1)
  have b2 := Lib.hid (((B2.out.alloc (.cells #[.bool r.ses.on,.int .u32 r.ses.num,.int .u8 r.ses.src,.int .u8 r.ses.cur,.int .u32 r.ses.epoch,(.slice A3 r.ses.offer.length c3),.int .u32 r.ses.last] 26)).alloc (.cells #[.bool r.ses.on,.int .u32 r.ses.num,.int .u8 r.ses.src,.int .u8 r.ses.cur,.int .u32 r.ses.epoch,(.slice A6 r.ses.offer.length c6),.int .u32 r.ses.last] 26)).keep hb1)
  have HB1 := Lib.hid (HB3.out.trans (hb1.mono HB3.out.size)); clear hb1
  have x0 := b1.out.cell 0 (.int .u8 r.rep) rfl
  have x1 := b1.out.cell 1 (.int .u8 r.flt) rfl
  have x2 := b1.out.cell 2 (.int .u32 r.epoch) rfl
  have x3 := b1.out.cell 3 (.int .u32 r.seq) rfl
  have x4 := b1.out.cell 4 (.slice A1 r.know.length c1) rfl
  have y0 := b2.out.cell 0 (.int .u8 r.rep) rfl
  have y1 := b2.out.cell 1 (.int .u8 r.flt) rfl
  have y2 := b2.out.cell 2 (.int .u32 r.epoch) rfl
  have y3 := b2.out.cell 3 (.int .u32 r.seq) rfl
  have y4 := b2.out.cell 4 (.slice A4 r.know.length c4) rfl
  go_wp2_with fail
  refine (S1.out _ HB1.out).mono ?_
  rintro e w2 ⟨rfl,hb2⟩
  have b1' := b1.out.keep hb2
  have b2' := b2.out.keep hb2
  have HB2 := Lib.hid (HB1.out.trans (hb2.mono HB1.out.size)); clear hb2 x0 x1 x2 x3 x4 y0 y1 y2 y3 y4
  have x5 := b1'.cell 5 (.slice A2 r.held.length c2) rfl
  have y5 := b2'.cell 5 (.slice A5 r.held.length c5) rfl
  clear b1' b2'
  go_wp2_with fail
  refine (S2.out _ HB2.out).mono ?_
  rintro e w4 ⟨rfl,hb4⟩
  have HB4 := Lib.hid (HB2.out.trans (hb4.mono HB2.out.size)); clear hb4
  go_wp2_with fail
  go_ret
  exact ⟨rfl,HB4.out⟩
end Go.Proofs.YtfjaeohfigcciabGreatDoor

namespace Go.Proofs.YtfjaeohfigcciabGreatDoor
open Go.RowKit

def offP (r : Rp) : Rp := ⟨r.rep,r.flt,r.epoch,r.seq,r.know,r.held,⟨false,0,0,0,0,[],r.ses.last⟩⟩
def pullP (r : Rp) : Nt := ⟨1,r.rep,r.ses.src,r.ses.num,r.ses.cur,r.flt,r.know,0,[],0,false,[]⟩
theorem rep_size : (Tryz.prog.info? 28).map (·.size) = some 13 := by kernel_rfl
theorem off_ok {r : Rp} (h : r.ok) : (offP r).ok := by
  obtain ⟨h1,h2,h3,h4,h5,h6,g1,g2,g3,g4,g5,g6⟩ := h
  have z : ∀ n : Int,0 ≤ n → (0 : Int) ≤ 0 ∧ (0 : Int) ≤ n := fun n h => ⟨Int.le_refl 0,h⟩
  exact ⟨h1,h2,h3,h4,h5,h6,z _ (by decide),z _ (by decide),z _ (by decide),z _ (by decide),(fun x hx => by cases hx),g6⟩
theorem pull_ok {r : Rp} (h : r.ok) : (pullP r).ok := by
  obtain ⟨h1,h2,h3,h4,h5,h6,g1,g2,g3,g4,g5,g6⟩ := h
  have z : ∀ n : Int,0 ≤ n → (0 : Int) ≤ 0 ∧ (0 : Int) ≤ n := fun n h => ⟨Int.le_refl 0,h⟩
  exact ⟨(by show (-9223372036854775808 : Int) ≤ 1 ∧ (1 : Int) ≤ 9223372036854775807; decide),h1,g2,g1,g3,h2,h5,z _ (by decide),(fun x hx => by cases hx),z _ (by decide),(fun x hx => by cases hx)⟩

set_option maxHeartbeats 4000000 in
set_option maxRecDepth 100000 in
theorem q7Pull_val (r : Rp) (Ak Ah Ao : Option Addr) (ck ch co : Nat) (w : World) : Calls Tryz.prog 21 #[.agg (r.cells (.slice Ak r.know.length ck) (.slice Ah r.held.length ch) (.slice Ao r.ses.offer.length co))] w fun e w' =>
    e = .returned (.agg #[.int .i64 1,.int .u8 r.rep,.int .u8 r.ses.src,.int .u32 r.ses.num,.int .u8 r.ses.cur,.int .u8 r.flt,.slice Ak r.know.length ck,.int .u32 0,.slice none 0 0,.int .u8 0,.bool false,.slice none 0 0]) ∧ Below w.heap.size w w' := by
  unfold Rp.cells
  go_enter Tryz.func21,Tryz.ntmps21
  go_wp2_with fail
  refine bodyPost_ret (v := .agg #[.int .i64 1,.int .u8 r.rep,.int .u8 r.ses.src,.int .u32 r.ses.num,.int .u8 r.ses.cur,.int .u8 r.flt,.slice Ak r.know.length ck,.int .u32 0,.slice none 0 0,.int .u8 0,.bool false,.slice none 0 0]) (results_cell_row Tryz.results21 _ _ (w.heap.size + 1) 30 _ (0,0) _ rfl (blk_two w _ _ _).at_ Tryz.underlying30 rfl note_size) rfl ?_
  exact ⟨rfl,al2 w _ _⟩
set_option maxHeartbeats 4000000 in
set_option maxRecDepth 100000 in
theorem q7Off_val (r : Rp) (Ak Ah Ao : Option Addr) (ck ch co : Nat) (w : World) : Calls Tryz.prog 22 #[.agg (r.cells (.slice Ak r.know.length ck) (.slice Ah r.held.length ch) (.slice Ao r.ses.offer.length co))] w fun e w' =>
    e = .returned (.agg #[.int .u8 r.rep,.int .u8 r.flt,.int .u32 r.epoch,.int .u32 r.seq,.slice Ak r.know.length ck,.slice Ah r.held.length ch,.bool false,.int .u32 0,.int .u8 0,.int .u8 0,.int .u32 0,.slice none 0 0,.int .u32 r.ses.last]) ∧ Below w.heap.size w w' := by
  unfold Rp.cells
  go_enter Tryz.func22,Tryz.ntmps22
  go_wp2_with fail
  refine bodyPost_ret (v := .agg #[.int .u8 r.rep,.int .u8 r.flt,.int .u32 r.epoch,.int .u32 r.seq,.slice Ak r.know.length ck,.slice Ah r.held.length ch,.bool false,.int .u32 0,.int .u8 0,.int .u8 0,.int .u32 0,.slice none 0 0,.int .u32 r.ses.last]) (results_cell_row Tryz.results22 _ _ (w.heap.size + 1) 28 _ (0,0) _ rfl ((blk_two w _ _ _).alloc _).at_ Tryz.underlying28 rfl rep_size) rfl ?_
  exact ⟨rfl,(al2 w _ _).trans ((al1 _ _).mono (al2 w _ _).size)⟩
end Go.Proofs.YtfjaeohfigcciabGreatDoor

namespace Go.Proofs.YtfjaeohfigcciabGreatDoor

section
variable {P : Program} {ops : Array Oper} {Q : Exit → Act → World → Prop} {md : Region.Mode} {C : World → Prop}

def anyC (P : Program) (md : Region.Mode) (ops : Array Oper) (C : World → Prop) (Q : Exit → Act → World → Prop) : Nat → Array Bool → Act → World → Prop
  | 0,listed,a,w => Region.ready md ops listed = [] ∧ Q .normal a w
  | f + 1,listed,a,w => (Region.ready md ops listed = [] → Q .normal a w) ∧ ∀ i ∈ Region.ready md ops listed,wpOp P ops Q i (fun a' w' => C w' ∧ anyC P md ops C Q f (listed.setIfInBounds i true) a' w') a w

theorem anyC.any : ∀ (f : Nat) (listed : Array Bool) (a : Act) (w : World),anyC P md ops C Q f listed a w → wpAny P md ops Q f listed a w
  | 0,_,_,_,h => h
  | f + 1,_,_,_,h => ⟨h.1,fun i hi => wpOp_mono (fun a' w' h' => anyC.any f _ a' w' h'.2) (h.2 i hi)⟩

def ReadsC (P : Program) (ops : Array Oper) (C : World → Prop) (o : Oper) (v : Value) (a : Act) : Prop :=
  Region.wanted o (yielded ops a.tmps) = true ∧ ∀ w,C w → (execOp a.eval o).run P w = .ok (.value v) w
theorem ReadsC.same {o : Oper} {v : Value} {a a' : Act} (hy : ReadsC P ops C o v a) (he : execOp a'.eval o = execOp a.eval o)
    (hw : Region.wanted o (yielded ops a'.tmps) = Region.wanted o (yielded ops a.tmps)) : ReadsC P ops C o v a' := by
  unfold ReadsC at *
  rw [he,hw]
  exact hy
theorem ReadsC.op {i : Nat} {o : Oper} {v : Value} {a : Act} (hi : ops[i]? = some o) (hy : ReadsC P ops C o v a) {K : Act → World → Prop} {w : World} (hw : C w) (h : K (a.put o.dst v) w) : wpOp P ops Q i K a w := by
  unfold wpOp
  simp only [hi,hy.1,if_true,Oper.wp,hy.2 w hw,Oper.upon]
  exact .inl h
theorem wpOp_apart {j : Nat} {oi oj : Oper} {v : Value} (hj : ops[j]? = some oj) (hap : oi.apart ops oj = true) (hsi : ∀ cs b,oi.op ≠ .select cs b) (hsj : ∀ cs b,oj.op ≠ .select cs b)
    (hQ : ∀ c a w,Q (.panic c) (a.put oi.dst v) w → Q (.panic c) a w) {K : Act → World → Prop} {a : Act} {w : World} (hy : ReadsC P ops C oi v a) (h : wpOp P ops Q j K (a.put oi.dst v) w) :
    wpOp P ops Q j (fun a' w' => ReadsC P ops C oi v a' ∧ K (a'.put oi.dst v) w') a w := by
  obtain ⟨h1,h2,h3⟩ := Oper.apart_spec hap
  have keep : ∀ a : Act,ReadsC P ops C oi v a → ∀ u,ReadsC P ops C oi v (a.put oj.dst u) := fun a hy u => hy.same (execOp_put oi hsi a oj.dst u h3) (wanted_put oi a oj.dst u h3)
  unfold wpOp at *
  simp only [hj] at *
  rw [wanted_put oj a oi.dst v h1] at h
  by_cases hw : Region.wanted oj (yielded ops a.tmps) = true
  · rw [if_pos hw] at h ⊢
    rcases h with h | ⟨h,hl⟩
    · refine .inl ?_
      unfold Oper.wp at *
      rw [execOp_put oj hsj a oi.dst v h1] at h
      generalize (execOp a.eval oj).run P w = r at *
      rcases r with ⟨n,w'⟩ | ⟨x,w'⟩
      · cases n <;> simp only [Oper.upon] at h ⊢
        case value u => exact ⟨keep a hy u,by rw [← Act.put_comm a v u h2]; exact h⟩
        case skip => exact ⟨keep a hy _,by rw [← Act.put_comm a v undef h2]; exact h⟩
        case defer d =>
          refine ⟨keep { a with defers := d :: a.defers } (hy.same rfl rfl) _,?_⟩
          rw [← Act.put_comm _ v undef h2,← Act.put_defers]
          exact h
        case enter f args =>
          refine Calls.mono h fun e w'' he => ?_
          cases e with
          | returned u => exact ⟨keep a hy u,by rw [← Act.put_comm a v u h2]; exact he⟩
          | panicked c => exact hQ _ _ _ he
          | outgrown => exact he
        case row row args => exact Rows.mono h fun u w'' he => ⟨keep a hy u,by rw [← Act.put_comm a v u h2]; exact he⟩
      · cases x <;> simp only [Oper.upon] at h ⊢
        case panic u => exact hQ _ _ _ h
    · exact .inr ⟨by unfold Oper.asks at *; rw [execOp_put oj hsj a oi.dst v h1] at h; exact h,hl⟩
  · rw [if_neg hw] at h ⊢
    exact ⟨keep a hy _,by rw [← Act.put_comm a v undef h2]; exact h⟩

theorem anyC_first {i : Nat} {oi : Oper} {v : Value} (hi : ops[i]? = some oi) (hsel : ∀ (j : Nat) (o : Oper) cs b,ops[j]? = some o → o.op ≠ .select cs b) (hQ : ∀ c a w,Q (.panic c) (a.put oi.dst v) w → Q (.panic c) a w) (f : Nat) :
    ∀ (listed : Array Bool) (a : Act) (w : World),(∀ j oj,ops[j]? = some oj → j ≠ i → listed.getD j true = false → (∀ e ∈ oj.after,Region.binds md e = true → e.on ≠ i) → oi.apart ops oj = true) →
      i ∈ Region.ready md ops listed → ReadsC P ops C oi v a → C w → anyC P md ops C Q f (listed.setIfInBounds i true) (a.put oi.dst v) w → anyC P md ops C Q (f + 1) listed a w := by
  induction f with
  | zero =>
    intro listed a w _ hr hy hw H
    refine ⟨fun h => (by rw [h] at hr; cases hr),fun j hj => ?_⟩
    rcases Nat.decEq j i with hji | hji
    · have := ready_mono hj hji
      rw [H.1] at this
      cases this
    · subst hji; exact hy.op hi hw ⟨hw,H⟩
  | succ f ih =>
    intro listed a w hfree hr hy hw H
    refine ⟨fun h => (by rw [h] at hr; cases hr),fun j hj => ?_⟩
    rcases Nat.decEq j i with hji | hji
    · have h1 := H.2 j (ready_mono hj hji)
      obtain ⟨hjun,oj,hoj,hall⟩ := mem_ready.1 hj
      have hnot : ∀ e ∈ oj.after,Region.binds md e = true → e.on ≠ i := fun e he hb heq => by
        have h1 := hall e he hb
        have h0 := (mem_ready.1 hr).1
        rw [heq] at h1
        rcases Nat.lt_or_ge i listed.size with h' | h'
        · simp [h'] at h0 h1; rw [h0] at h1; cases h1
        · simp [Array.getElem?_eq_none h'] at h1
      have h2 := wpOp_apart hoj (hfree j oj hoj hji hjun hnot) (fun cs b => hsel i oi cs b hi) (fun cs b => hsel j oj cs b hoj) hQ hy h1
      refine wpOp_mono (fun a' w' h3 => ⟨h3.2.1,ih (listed.setIfInBounds j true) a' w' (fun k ok hk hki hun hno => hfree k ok hk hki ?_ hno) (ready_mono hr (Ne.symm hji)) h3.1 h3.2.1 ?_⟩) h2
      · rcases Nat.decEq j k with hjk | hjk
        · rw [getD_set_ne true hjk] at hun; exact hun
        · subst hjk; exact hjun
      · rw [Array.setIfInBounds_comm _ _ hji]
        exact h3.2.2
    · subst hji; exact hy.op hi hw ⟨hw,H⟩
theorem anyC_take {i : Nat} {oi : Oper} {v : Value} {f : Nat} {listed : Array Bool} {a : Act} {w : World} (hi : ops[i]? = some oi) (hs : Region.noSelect ops = true) (hf : Region.free md ops listed i = true)
    (hr : (Region.ready md ops listed).contains i = true) (hQ : ∀ c a w,Q (.panic c) (a.put oi.dst v) w → Q (.panic c) a w) (hw : C w) (hy : ReadsC P ops C oi v a)
    (h : anyC P md ops C Q f (listed.setIfInBounds i true) (a.put oi.dst v) w) : anyC P md ops C Q (f + 1) listed a w :=
  anyC_first hi (Region.noSelect_spec hs) hQ f listed a w (Region.free_spec hi hf) (by simpa using hr) hy hw h
theorem anyC_one {i : Nat} {o : Oper} {f : Nat} {listed : Array Bool} {a : Act} {w : World} (hr : Region.ready md ops listed = [i]) (ho : ops[i]? = some o) (hw : Region.wanted o (yielded ops a.tmps) = true)
    (h : ∀ K : Act → World → Prop,(∀ a w,C w → anyC P md ops C Q f (listed.setIfInBounds i true) a w → K a w) → Oper.wp P o a w K Q) : anyC P md ops C Q (f + 1) listed a w := by
  refine ⟨fun h0 => (by rw [hr] at h0; cases h0),fun j hj => ?_⟩
  rw [hr,List.mem_singleton] at hj
  subst hj
  unfold wpOp
  simp only [ho,hw,if_true]
  exact .inl (h _ fun a w hc hh => ⟨hc,hh⟩)
theorem anyC_two {i j : Nat} {o o2 : Oper} {f : Nat} {listed : Array Bool} {a : Act} {w : World} (hr : Region.ready md ops listed = [i,j]) (ho : ops[i]? = some o) (ho2 : ops[j]? = some o2) (hw : Region.wanted o (yielded ops a.tmps) = true) (hw2 : Region.wanted o2 (yielded ops a.tmps) = true)
    (h : ∀ K : Act → World → Prop,(∀ a w,C w → anyC P md ops C Q f (listed.setIfInBounds i true) a w → K a w) → Oper.wp P o a w K Q)
    (h2 : ∀ K : Act → World → Prop,(∀ a w,C w → anyC P md ops C Q f (listed.setIfInBounds j true) a w → K a w) → Oper.wp P o2 a w K Q) : anyC P md ops C Q (f + 1) listed a w := by
  refine ⟨fun h0 => (by rw [hr] at h0; cases h0),fun k hk => ?_⟩
  rw [hr] at hk
  unfold wpOp
  rcases List.mem_cons.1 hk with hk | hk
  · subst hk
    simp only [ho,hw,if_true]
    exact .inl (h _ fun a w hc hh => ⟨hc,hh⟩)
  · rw [List.mem_singleton] at hk
    subst hk
    simp only [ho2,hw2,if_true]
    exact .inl (h2 _ fun a w hc hh => ⟨hc,hh⟩)
theorem anyC_done {listed : Array Bool} {a : Act} {w : World} (hr : Region.ready md ops listed = []) (h : Q .normal a w) : anyC P md ops C Q 0 listed a w := ⟨hr,h⟩
theorem wp_region_C {id : Nat} {l : List Oper} {a : Act} {w : World} (C : World → Prop) (hm : P.follows .mixedOrders = true) (h : anyC P .any l.toArray C Q l.toArray.size (Array.replicate l.toArray.size false) a w.drew) : (Code.region id l.toArray true).wp P Q a w :=
  wp_region_any hm (anyC.any _ _ _ _ h)

theorem reads_row {o : Oper} {a : Act} (hg : o.guard = none) (ty : TypeId) (x : Operand) (ho : o.op = .load ty x) (g : Nat) (hx : a.eval x = .pointer (some ⟨g,0,none⟩)) (t : TypeId) (cs : Array Value) (d : TypeDesc)
    (hC : ∀ w,C w → w.heap[g]? = some (.cells cs t (0,0))) (hu : P.underlying ty = some d) (hd : (match d with | .struct _ | .array _ _ => true | _ => false) = true) (hi : (P.info? ty).map (·.size) = some cs.size) : ReadsC P ops C o (.agg cs) a := by
  refine ⟨by unfold Region.wanted; rw [hg],fun w hw => ?_⟩
  have h := run_loadVar_row (P := P) w g t ty cs (0,0) d (hC w hw) hu hd hi
  unfold execOp
  simp only [ho,hx,Instr.loadAt,Instr.sureAddr,Sem.run_bind,Sem.run_pure,Result.andThen_ok,h]
end
end Go.Proofs.YtfjaeohfigcciabGreatDoor

namespace Go.Proofs.YtfjaeohfigcciabGreatDoor
open Go.RowKit

theorem RpV.skn {w : World} {B : Nat} {r : Rp} {lr : Ls} (h : RpV w B (.agg (repR r lr)) r) : Sl w B (.slice lr.a r.know.length lr.i) r.know := by
  obtain ⟨a,b,c,he,h1,_,_,_⟩ := h
  obtain ⟨rfl,_,_⟩ := rep_cells_inj he
  exact h1
theorem RpV.she {w : World} {B : Nat} {r : Rp} {lr : Ls} (h : RpV w B (.agg (repR r lr)) r) : ESl w B (.slice lr.b r.held.length lr.j) r.held := by
  obtain ⟨a,b,c,he,_,h1,_,_⟩ := h
  obtain ⟨_,rfl,_⟩ := rep_cells_inj he
  exact h1
theorem RpV.sof {w : World} {B : Nat} {r : Rp} {lr : Ls} (h : RpV w B (.agg (repR r lr)) r) : Sl w B (.slice lr.c r.ses.offer.length lr.k) r.ses.offer := by
  obtain ⟨a,b,c,he,_,_,h1,_⟩ := h
  obtain ⟨_,_,rfl⟩ := rep_cells_inj he
  exact h1
theorem RpV.isok {w : World} {B : Nat} {v : Value} {r : Rp} (h : RpV w B v r) : r.ok := by
  obtain ⟨_,_,_,_,_,_,_,h⟩ := h
  exact h
theorem NtV.skn {w : World} {B : Nat} {n : Nt} {ln : Ls} (h : NtV w B (.agg (noteR n ln)) n) : Sl w B (.slice ln.a n.know.length ln.i) n.know := by
  obtain ⟨a,b,c,he,h1,_,_,_⟩ := h
  obtain ⟨rfl,_,_⟩ := note_cells_inj he
  exact h1
theorem NtV.sen {w : World} {B : Nat} {n : Nt} {ln : Ls} (h : NtV w B (.agg (noteR n ln)) n) : ESl w B (.slice ln.b n.ents.length ln.j) n.ents := by
  obtain ⟨a,b,c,he,_,h1,_,_⟩ := h
  obtain ⟨_,rfl,_⟩ := note_cells_inj he
  exact h1
theorem NtV.sof {w : World} {B : Nat} {n : Nt} {ln : Ls} (h : NtV w B (.agg (noteR n ln)) n) : Sl w B (.slice ln.c n.offer.length ln.k) n.offer := by
  obtain ⟨a,b,c,he,_,_,h1,_⟩ := h
  obtain ⟨_,_,rfl⟩ := note_cells_inj he
  exact h1
theorem NtV.isok {w : World} {B : Nat} {v : Value} {n : Nt} (h : NtV w B v n) : n.ok := by
  obtain ⟨_,_,_,_,_,_,_,h⟩ := h
  exact h
theorem Sl.isok {W : World} {B : Nat} {v : Value} {zs : List Rn} (h : Sl W B v zs) : ∀ x ∈ zs,x.ok := by
  obtain ⟨_,_,_,_,h,_⟩ := h
  exact h
theorem ESl.isok {W : World} {B : Nat} {v : Value} {zs : List En} (h : ESl W B v zs) : ∀ x ∈ zs,x.ok := by
  obtain ⟨_,_,_,_,h,_⟩ := h
  exact h
theorem ESl.at1 {W : World} {B n c k : Nat} {A : Option Addr} {zs : List En} {x : En} (h : ESl W B (.slice A n c) zs) (hx : zs[k]? = some x) : ∃ b off,A = some ⟨b,off,none⟩ ∧ b < B ∧ EnAt W b (off + k * 7) x := by
  obtain ⟨A',c',hv,_,_,hA⟩ := h
  injection hv with h1 h2 h3
  subst h1
  obtain ⟨b,off,hA1,hb,hc⟩ := hA (by rintro rfl; simp at hx)
  exact ⟨b,off,hA1,hb,hc k x hx⟩
theorem Own.av {W : World} {B : Nat} {v : Value} {zs : List Rn} (h : Own W B v zs) : Av (fun k => B ≤ k) v zs := fun _ k hk => (h.lt k hk).1
theorem EOwn.av {W : World} {B : Nat} {v : Value} {zs : List En} (h : EOwn W B v zs) : Av (fun k => B ≤ k) v zs := fun _ k hk => (h.lt k hk).1
theorem EOwn.setOther {w : World} {base h j : Nat} {v u : Value} {zs : List En} (k : EOwn w base v zs) (hh : h < base) : EOwn (w.setCell ⟨h,j,none⟩ u) base v zs := by
  refine ⟨k.1,?_⟩
  rcases k.2 with hn | ⟨g,cap,cur,hv,hb',hg,r⟩
  · exact .inl hn
  · exact .inr ⟨g,cap,cur,hv,hb',(heap_setCell_other w ⟨h,j,none⟩ g u (by simp; omega)).trans hg,r⟩
theorem EOwn.setRowOther {w : World} {base h : Nat} {v : Value} {cs : Array Value} {zs : List En} (k : EOwn w base v zs) (hh : h < base) : EOwn (w.setRow h cs) base v zs := by
  refine ⟨k.1,?_⟩
  rcases k.2 with hn | ⟨g,cap,cur,hv,hb',hg,r⟩
  · exact .inl hn
  · exact .inr ⟨g,cap,cur,hv,hb',(setRow_other w h g cs (by omega)).trans hg,r⟩
end Go.Proofs.YtfjaeohfigcciabGreatDoor

