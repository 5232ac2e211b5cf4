/- Texts in one: PRefC. -/
import Derived.Test.YtfjaeohfigcciabGreatDoorQA35
import Derived.Test.YtfjaeohfigcciabGreatDoorQA34
import Derived.Test.YtfjaeohfigcciabGreatDoorQA38
set_option linter.all false
namespace Go.Proofs.YtfjaeohfigcciabGreatDoor
open Go.RowKit

theorem Sl.at_ {W : World} {B n c k : Nat} {A : Option Addr} {zs : List Rn} {x : Rn} (h : Sl W B (.slice A n c) zs) (hx : zs[k]? = some x) : ∃ b off,A = some ⟨b,off,none⟩ ∧ b < B ∧ RnAt W b (off + k * 3) x := by
  obtain ⟨A',c',hv,_,_,hA⟩ := h
  injection hv with h1 h2 h3
  subst h1
  obtain ⟨b,off,hA1,hb,hc⟩ := hA (by rintro rfl; simp at hx)
  exact ⟨b,off,hA1,hb,hc k x hx⟩
theorem NtIn.offers {W : World} {g : Nat} {b : Nt} {l : Ls} (h : NtIn W g b l) : Sl W W.heap.size (.slice l.c b.offer.length l.k) b.offer := by
  obtain ⟨a1,a2,a3,hv3,_,_,h7,_⟩ := h.val
  obtain ⟨_,_,rfl⟩ := note_cells_inj hv3
  exact h7
theorem clash_parts {r : Rp} {b : Nt} : clashB r b = false ↔ b.ents.any (aheadE r) = false ∧ (List.range b.ents.length).any (twiceAt r.held b.ents) = false ∧ topB r.rep r.seq b.offer = true := by
  unfold clashB
  rw [Bool.or_eq_false_iff,Bool.or_eq_false_iff,Bool.not_eq_false']
theorem off_v {W : World} {B : Nat} {r : Rp} {l : Ls} (h : RpV W B (.agg (repR r l)) r) : RpV W B (.agg (repR (offP r) ⟨l.a,l.b,none,l.i,l.j,0⟩)) (offP r) := by
  obtain ⟨a1,a2,a3,hv3,h1,h2,h3,ho⟩ := h
  obtain ⟨rfl,rfl,_⟩ := rep_cells_inj hv3
  exact ⟨_,_,_,rfl,h1,h2,Sl.nil _ _,off_ok ho⟩

set_option maxHeartbeats 16000000 in
set_option maxRecDepth 100000 in
theorem q7Accept_offer (v v2 : Value) (r : Rp) (n : Nt) (w : World) (hv : RpV w w.heap.size v r) (hv2 : NtV w w.heap.size v2 n) (h1 : r.know.length ≤ 1000) (h2 : r.held.length ≤ 1000) (h3 : r.ses.offer.length ≤ 1000) (g1 : n.know.length ≤ 1000) (g2 : n.ents.length ≤ 1000) (g3 : n.offer.length ≤ 1000) (hr : rpB r = true) (hn : noteB n = true) (hw : waitB r n = true) (hl2 : r.held.length ≤ 1000) (hg3 : n.offer.length ≤ 1000) (hc : n.ents.any (aheadE r) = false) (ht : (List.range n.ents.length).any (twiceAt r.held n.ents) = false) (hp : topB r.rep r.seq n.offer = false) :
    Calls Tryz.prog 10 #[v,v2] w (AccPost w (noAcc 9)) := by
  have HR := Lib.hid (fun w1 (hb : Below w.heap.size w w1) => by have := q5Right_any v r w1 (hv.later hb) h1 h2 h3; rw [hr] at this; exact this)
  have HN := Lib.hid (fun w1 (hb : Below w.heap.size w w1) => by have := q4Right_any v2 n w1 (hv2.later hb) g1 g2 g3; rw [hn] at this; exact this)
  obtain ⟨k0,k1,kon,k3,k4,k5⟩ : (n.kind != 2) = false ∧ (n.dst != r.rep) = false ∧ r.ses.on = true ∧ (n.src != r.ses.src) = false ∧ (n.num != r.ses.num) = false ∧ (n.cur != r.ses.cur) = false := by
    unfold waitB at hw
    simp only [Bool.and_eq_true,Bool.not_eq_true'] at hw
    exact ⟨hw.1,hw.2.1,hw.2.2.1,hw.2.2.2.1,hw.2.2.2.2.1,hw.2.2.2.2.2⟩
  have HV1 := Lib.hid hv
  have HV2 := Lib.hid hv2
  have G2 := Lib.hid g2
  obtain ⟨lr,rfl⟩ := hv.rows
  obtain ⟨ln,rfl⟩ := hv2.rows
  have HON := Lib.hid kon
  clear hv hv2 hw hr hn h1 h2 h3 g1 g2 g3
  have HH := Lib.hid (fun x hx => by have h := List.any_eq_false.1 hc x hx; simpa using h : ∀ x ∈ n.ents,aheadE r x = false)
  have HT := Lib.hid (fun j (hj : j < n.ents.length) => by have h := List.any_eq_false.1 ht j (List.mem_range.2 hj); simpa using h : ∀ j,j < n.ents.length → twiceAt r.held n.ents j = false)
  have HP := Lib.hid hp
  clear hc ht hp
  have HHL := Lib.hid hl2
  clear hl2
  have G3 := Lib.hid hg3
  clear hg3
  unfold repR repRow Rp.cells at HR ⊢
  unfold noteR noteRow Nt.cells at HN ⊢
  rw [kon] at HR ⊢
  go_enter Tryz.func10,Tryz.ntmps10
  go_wp2_with fail
  have HB0 := Lib.hid (al4 w (.cells #[.int .u8 r.rep,.int .u8 r.flt,.int .u32 r.epoch,.int .u32 r.seq,.slice lr.a r.know.length lr.i,.slice lr.b r.held.length lr.j,.bool true,.int .u32 r.ses.num,.int .u8 r.ses.src,.int .u8 r.ses.cur,.int .u32 r.ses.epoch,.slice lr.c r.ses.offer.length lr.k,.int .u32 r.ses.last] 28) (.cells #[.int .i64 n.kind,.int .u8 n.src,.int .u8 n.dst,.int .u32 n.num,.int .u8 n.cur,.int .u8 n.flt,.slice ln.a n.know.length ln.i,.int .u32 n.epoch,.slice ln.b n.ents.length ln.j,.int .u8 n.next,.bool n.done,.slice ln.c n.offer.length ln.k] 30) (.cells #[.int .u8 0,.int .u8 0,.int .u32 0,.int .u32 0,.slice none 0 0,.slice none 0 0,.bool false,.int .u32 0,.int .u8 0,.int .u8 0,.int .u32 0,.slice none 0 0,.int .u32 0] 28) (.cells #[.int .i64 0,.int .u8 0,.int .u8 0,.int .u32 0,.int .u8 0,.int .u8 0,.slice none 0 0,.int .u32 0,.slice none 0 0,.int .u8 0,.bool false,.slice none 0 0] 30))
  have BA := Lib.hid (blk_four w #[.int .u8 r.rep,.int .u8 r.flt,.int .u32 r.epoch,.int .u32 r.seq,.slice lr.a r.know.length lr.i,.slice lr.b r.held.length lr.j,.bool true,.int .u32 r.ses.num,.int .u8 r.ses.src,.int .u8 r.ses.cur,.int .u32 r.ses.epoch,.slice lr.c r.ses.offer.length lr.k,.int .u32 r.ses.last] 28 #[.int .i64 n.kind,.int .u8 n.src,.int .u8 n.dst,.int .u32 n.num,.int .u8 n.cur,.int .u8 n.flt,.slice ln.a n.know.length ln.i,.int .u32 n.epoch,.slice ln.b n.ents.length ln.j,.int .u8 n.next,.bool n.done,.slice ln.c n.offer.length ln.k] 30 #[.int .u8 0,.int .u8 0,.int .u32 0,.int .u32 0,.slice none 0 0,.slice none 0 0,.bool false,.int .u32 0,.int .u8 0,.int .u8 0,.int .u32 0,.slice none 0 0,.int .u32 0] 28 #[.int .i64 0,.int .u8 0,.int .u8 0,.int .u32 0,.int .u8 0,.int .u8 0,.slice none 0 0,.int .u32 0,.slice none 0 0,.int .u8 0,.bool false,.slice none 0 0] 30)
  generalize (((w.alloc (.cells #[.int .u8 r.rep,.int .u8 r.flt,.int .u32 r.epoch,.int .u32 r.seq,.slice lr.a r.know.length lr.i,.slice lr.b r.held.length lr.j,.bool true,.int .u32 r.ses.num,.int .u8 r.ses.src,.int .u8 r.ses.cur,.int .u32 r.ses.epoch,.slice lr.c r.ses.offer.length lr.k,.int .u32 r.ses.last] 28)).alloc (.cells #[.int .i64 n.kind,.int .u8 n.src,.int .u8 n.dst,.int .u32 n.num,.int .u8 n.cur,.int .u8 n.flt,.slice ln.a n.know.length ln.i,.int .u32 n.epoch,.slice ln.b n.ents.length ln.j,.int .u8 n.next,.bool n.done,.slice ln.c n.offer.length ln.k] 30)).alloc (.cells #[.int .u8 0,.int .u8 0,.int .u32 0,.int .u32 0,.slice none 0 0,.slice none 0 0,.bool false,.int .u32 0,.int .u8 0,.int .u8 0,.int .u32 0,.slice none 0 0,.int .u32 0] 28)).alloc (.cells #[.int .i64 0,.int .u8 0,.int .u8 0,.int .u32 0,.int .u8 0,.int .u8 0,.slice none 0 0,.int .u32 0,.slice none 0 0,.int .u8 0,.bool false,.slice none 0 0] 30) = wz at HB0 BA ⊢
  refine (HR.out _ HB0.out).mono ?_
  rintro e w1 ⟨rfl,hb⟩
  have B1 := Lib.hid (BA.out.1.keep hb)
  have B2 := Lib.hid (BA.out.2.1.keep hb)
  have D3 := Lib.hid (BA.out.2.2.1.keep hb)
  have D4 := Lib.hid (BA.out.2.2.2.keep hb)
  have HB := Lib.hid (HB0.out.trans (hb.mono HB0.out.size)); clear hb BA HB0
  have b0 := B2.out.cell 0 (.int .i64 n.kind) rfl
  have b1 := B2.out.cell 1 (.int .u8 n.src) rfl
  have b2 := B2.out.cell 2 (.int .u8 n.dst) rfl
  have b3 := B2.out.cell 3 (.int .u32 n.num) rfl
  have b4 := B2.out.cell 4 (.int .u8 n.cur) rfl
  have b5 := B2.out.cell 5 (.int .u8 n.flt) rfl
  have b6 := B2.out.cell 6 (.slice ln.a n.know.length ln.i) rfl
  have b7 := B2.out.cell 7 (.int .u32 n.epoch) rfl
  have b8 := B2.out.cell 8 (.slice ln.b n.ents.length ln.j) rfl
  have b9 := B2.out.cell 9 (.int .u8 n.next) rfl
  have b10 := B2.out.cell 10 (.bool n.done) rfl
  have b11 := B2.out.cell 11 (.slice ln.c n.offer.length ln.k) rfl
  go_wp2_with fail
  refine (HN.out _ HB.out).mono ?_
  rintro e w2 ⟨rfl,hb⟩
  clear b0 b1 b2 b3 b4 b5 b6 b7 b8 b9 b10 b11
  have B1 := Lib.hid (B1.out.keep hb)
  have B2 := Lib.hid (B2.out.keep hb)
  have D3 := Lib.hid (D3.out.keep hb)
  have D4 := Lib.hid (D4.out.keep hb)
  have HB := Lib.hid (HB.out.trans (hb.mono HB.out.size)); clear hb
  have b0 := B2.out.cell 0 (.int .i64 n.kind) rfl
  have b1 := B2.out.cell 1 (.int .u8 n.src) rfl
  have b2 := B2.out.cell 2 (.int .u8 n.dst) rfl
  have b3 := B2.out.cell 3 (.int .u32 n.num) rfl
  have b4 := B2.out.cell 4 (.int .u8 n.cur) rfl
  have b5 := B2.out.cell 5 (.int .u8 n.flt) rfl
  have b6 := B2.out.cell 6 (.slice ln.a n.know.length ln.i) rfl
  have b7 := B2.out.cell 7 (.int .u32 n.epoch) rfl
  have b8 := B2.out.cell 8 (.slice ln.b n.ents.length ln.j) rfl
  have b9 := B2.out.cell 9 (.int .u8 n.next) rfl
  have b10 := B2.out.cell 10 (.bool n.done) rfl
  have b11 := B2.out.cell 11 (.slice ln.c n.offer.length ln.k) rfl
  have c0 := B1.out.cell 0 (.int .u8 r.rep) rfl
  have c1 := B1.out.cell 1 (.int .u8 r.flt) rfl
  have c2 := B1.out.cell 2 (.int .u32 r.epoch) rfl
  have c3 := B1.out.cell 3 (.int .u32 r.seq) rfl
  have c4 := B1.out.cell 4 (.slice lr.a r.know.length lr.i) rfl
  have c5 := B1.out.cell 5 (.slice lr.b r.held.length lr.j) rfl
  have c6 := B1.out.cell 6 (.bool true) rfl
  have c7 := B1.out.cell 7 (.int .u32 r.ses.num) rfl
  have c8 := B1.out.cell 8 (.int .u8 r.ses.src) rfl
  have c9 := B1.out.cell 9 (.int .u8 r.ses.cur) rfl
  have c10 := B1.out.cell 10 (.int .u32 r.ses.epoch) rfl
  have c11 := B1.out.cell 11 (.slice lr.c r.ses.offer.length lr.k) rfl
  have c12 := B1.out.cell 12 (.int .u32 r.ses.last) rfl
  have l1 : w.heap.size < w2.heap.size := B1.out.lt
  have l2 : w.heap.size + 1 < w2.heap.size := B2.out.lt
  go_wp2_with fail
  have hb := al1 w2 (.cells #[.bool true,.int .u32 r.ses.num,.int .u8 r.ses.src,.int .u8 r.ses.cur,.int .u32 r.ses.epoch,.slice lr.c r.ses.offer.length lr.k,.int .u32 r.ses.last] 26)
  have BS := Lib.hid (Blk.new w2 #[.bool true,.int .u32 r.ses.num,.int .u8 r.ses.src,.int .u8 r.ses.cur,.int .u32 r.ses.epoch,.slice lr.c r.ses.offer.length lr.k,.int .u32 r.ses.last] 26)
  generalize w2.alloc (.cells #[.bool true,.int .u32 r.ses.num,.int .u8 r.ses.src,.int .u8 r.ses.cur,.int .u32 r.ses.epoch,.slice lr.c r.ses.offer.length lr.k,.int .u32 r.ses.last] 26) = w3 at hb BS ⊢
  have B1 := Lib.hid (B1.out.keep hb)
  have B2 := Lib.hid (B2.out.keep hb)
  have D3 := Lib.hid (D3.out.keep hb)
  have D4 := Lib.hid (D4.out.keep hb)
  have HB := Lib.hid (HB.out.trans (hb.mono HB.out.size)); clear hb
  clear b0 b1 b2 b3 b4 b5 b6 b7 b8 b9 b10 b11 c0 c1 c2 c3 c4 c5 c6 c7 c8 c9 c10 c11 c12
  clear l1 l2 k0 k1 k3 k4 k5
  have HM := Lib.hid (by kernel_rfl : Tryz.prog.follows .mixedOrders = true)
  have HES := Lib.hid (⟨B2.out,HV2.out.later HB.out⟩ : NtIn w3 (w.heap.size + 1) n ln).ents
  have HHS := Lib.hid ((⟨(by unfold repR repRow Rp.cells; rw [HON.out]; exact B1.out),HV1.out.later HB.out⟩ : RpIn w3 w.heap.size r lr).held)
  go_loopw [9] (fun i wr => ∃ k : Nat,i = .int .i64 k ∧ k ≤ n.ents.length ∧ Below w3.heap.size w3 wr) (fun i _ => n.ents.length - (intOf i).toNat)
  case atStart => exact ⟨0,rfl,Nat.zero_le _,Below.refl _ _⟩
  case round =>
    rename World => wr
    obtain ⟨k,rfl,hk,hb⟩ := hrel
    have g2 := G2.out
    have b8 := (B2.out.keep hb).cell 8 (.slice ln.b n.ents.length ln.j) rfl
    by_cases hlt : k < n.ents.length
    · skip
      obtain ⟨x,hxk⟩ : ∃ x,n.ents[k]? = some x := ⟨_,List.getElem?_eq_getElem hlt⟩
      obtain ⟨be,oe,hA,hbe,hec⟩ := HES.out.at_ hxk
      have XE := Lib.hid (hec.keep hb hbe)
      have HX := Lib.hid hxk
      have hq1 := B1.out.keep hb
      have hq2 := B2.out.keep hb
      have l1 : w.heap.size < wr.heap.size := hq1.lt
      have l2 : w.heap.size + 1 < wr.heap.size := hq2.lt
      have l3 : be < wr.heap.size := Nat.lt_of_lt_of_le hbe hb.size
      have E3 := Lib.hid (D3.out.keep hb)
      have E4 := Lib.hid (D4.out.keep hb)
      have HBR := Lib.hid (HB.out.trans (hb.mono HB.out.size))
      have HBB := Lib.hid hb
      rw [hA] at b8
      clear hxk hec hA
      obtain ⟨q1,hq⟩ : ∃ q : Bool,(x.rep == r.rep) = q := ⟨_,rfl⟩
      have HQ1 := Lib.hid hq
      obtain ⟨q2,hqb⟩ : ∃ q : Bool,decide (r.seq < x.seq) = q := ⟨_,rfl⟩
      have HQ2 := Lib.hid hqb
      cases q1
      · skip
        go_wp2_with fail
        have p8 := fun p : Later wr => (p.bel.cell (p := ⟨w.heap.size + 1,8,none⟩) l2).trans b8
        have p1 := fun p : Later wr => (p.bel.cell (p := ⟨be,oe + k * 7 + 1,none⟩) l3).trans XE.out.all.2.1
        have p0 := fun p : Later wr => (p.bel.cell (p := ⟨w.heap.size,0,none⟩) l1).trans (hq1.cell 0 (.int .u8 r.rep) rfl)
        have hm : Tryz.prog.follows .mixedOrders = true := HM.out
        refine wp_region_later hm (by kernel_rfl) ?_
        repeat (any_goals (first | go_big_quiet_step (fail) | quiet_step (fail)))
        refine wpQuiet_nil ?_
        intro wp hw'
        obtain ⟨lp,hlp⟩ := hw'
        have hbp := lp.bel
        rw [← hlp] at hbp
        clear hlp lp
        have HBN := Lib.hid (HBB.out.trans (hbp.mono HBB.out.size))
        clear hbp
        go_wp2
        go_roundw
        case rel => exact ⟨k + 1,by go_num,by omega,HBN.out⟩
        case measure => simp [intOf]; omega
      · cases q2
        · skip
          go_wp2_with fail
          have p8 := fun p : Later wr => (p.bel.cell (p := ⟨w.heap.size + 1,8,none⟩) l2).trans b8
          have p1 := fun p : Later wr => (p.bel.cell (p := ⟨be,oe + k * 7 + 1,none⟩) l3).trans XE.out.all.2.1
          have p0 := fun p : Later wr => (p.bel.cell (p := ⟨w.heap.size,0,none⟩) l1).trans (hq1.cell 0 (.int .u8 r.rep) rfl)
          have p2 := fun p : Later wr => (p.bel.cell (p := ⟨be,oe + k * 7 + 2,none⟩) l3).trans XE.out.all.2.2.1
          have p3 := fun p : Later wr => (p.bel.cell (p := ⟨w.heap.size,3,none⟩) l1).trans (hq1.cell 3 (.int .u32 r.seq) rfl)
          have hm : Tryz.prog.follows .mixedOrders = true := HM.out
          refine wp_region_later hm (by kernel_rfl) ?_
          repeat (any_goals (first | go_big_quiet_step (fail) | quiet_step (fail)))
          refine wpQuiet_nil ?_
          intro wp hw'
          obtain ⟨lp,hlp⟩ := hw'
          have hbp := lp.bel
          rw [← hlp] at hbp
          clear hlp lp
          have HBN := Lib.hid (HBB.out.trans (hbp.mono HBB.out.size))
          clear hbp
          go_wp2
          go_roundw
          case rel => exact ⟨k + 1,by go_num,by omega,HBN.out⟩
          case measure => simp [intOf]; omega
        · skip
          exfalso
          have := HH.out x (List.mem_of_getElem? HX.out)
          unfold aheadE at this
          rw [HQ1.out,HQ2.out] at this
          cases this
    · skip
      have hb1 := Lib.hid hb
      clear hb
      go_wp2_with fail
      clear b8
      go_loopw [10] (fun i wr => ∃ k : Nat,i = .int .i64 k ∧ k ≤ n.ents.length ∧ Below w3.heap.size w3 wr) (fun i _ => n.ents.length - (intOf i).toNat)
      case atStart => exact ⟨0,rfl,Nat.zero_le _,hb1.out⟩
      case round =>
        rename World => wr
        obtain ⟨k,rfl,hk,hb⟩ := hrel
        have g2 := G2.out
        have b8 := (B2.out.keep hb).cell 8 (.slice ln.b n.ents.length ln.j) rfl
        by_cases hlt : k < n.ents.length
        · skip
          obtain ⟨x,hxk⟩ : ∃ x,n.ents[k]? = some x := ⟨_,List.getElem?_eq_getElem hlt⟩
          obtain ⟨be,oe,hA,hbe,hec⟩ := HES.out.at_ hxk
          have XE := Lib.hid (hec.keep hb hbe)
          have HX := Lib.hid hxk
          have l1 : w.heap.size < wr.heap.size := (B1.out.keep hb).lt
          have l2 : w.heap.size + 1 < wr.heap.size := (B2.out.keep hb).lt
          have l3 : be < wr.heap.size := Nat.lt_of_lt_of_le hbe hb.size
          have L3 := Lib.hid l3
          have D3R := Lib.hid ((D3.out.keep hb).keep (al1 wr (.cells #[.int .u8 x.rep,.int .u32 x.seq,.int .u32 x.stamp] 60)))
          have D4R := Lib.hid ((D4.out.keep hb).keep (al1 wr (.cells #[.int .u8 x.rep,.int .u32 x.seq,.int .u32 x.stamp] 60)))
          have B1R := Lib.hid ((B1.out.keep hb).keep (al1 wr (.cells #[.int .u8 x.rep,.int .u32 x.seq,.int .u32 x.stamp] 60)))
          have B2R := Lib.hid ((B2.out.keep hb).keep (al1 wr (.cells #[.int .u8 x.rep,.int .u32 x.seq,.int .u32 x.stamp] 60)))
          have BV := Lib.hid (Blk.new wr #[.int .u8 x.rep,.int .u32 x.seq,.int .u32 x.stamp] 60)
          have HBX := Lib.hid (al1 wr (.cells #[.int .u8 x.rep,.int .u32 x.seq,.int .u32 x.stamp] 60))
          have HBB := Lib.hid (hb.trans ((al1 wr (.cells #[.int .u8 x.rep,.int .u32 x.seq,.int .u32 x.stamp] 60)).mono hb.size))
          have HBR := Lib.hid (HB.out.trans (HBB.out.mono HB.out.size))
          have hlv : wr.heap.size < (wr.alloc (.cells #[.int .u8 x.rep,.int .u32 x.seq,.int .u32 x.stamp] 60)).heap.size := by simp
          obtain ⟨x0,x1,x2,x3,_⟩ := XE.out.all
          rw [hA] at b8
          have HBA := Lib.hid hA
          clear hxk hec hA hb
          go_wp2_with fail
          generalize wr.alloc (.cells #[.int .u8 x.rep,.int .u32 x.seq,.int .u32 x.stamp] 60) = we at D3R D4R B1R B2R BV HBX HBB HBR hlv ⊢
          generalize hgv : wr.heap.size = gv at BV l1 l2 l3 hlv ⊢
          clear x0 x1 x2 x3 b8
          go_loopw [12] (fun i wl => ∃ m : Nat,i = .int .i64 m ∧ m ≤ n.ents.length ∧ Hid (∀ j,j < m → otherAt n.ents k j = false) ∧ Below we.heap.size we wl) (fun i _ => n.ents.length - (intOf i).toNat)
          case atStart => exact ⟨0,rfl,Nat.zero_le _,Lib.hid (fun j h => absurd h (by omega)),Below.refl _ _⟩
          case round =>
            rename World => wl
            obtain ⟨m,rfl,hmk,HI,hbl⟩ := hrel
            have c8 := (B2R.out.keep hbl).cell 8 (.slice ln.b n.ents.length ln.j) rfl
            have l1 : w.heap.size < wl.heap.size := (B1R.out.keep hbl).lt
            have l2 : w.heap.size + 1 < wl.heap.size := (B2R.out.keep hbl).lt
            have lv : gv < wl.heap.size := (BV.out.keep hbl).lt
            have HWL := Lib.hid hbl
            by_cases hmt : m < n.ents.length
            · skip
              obtain ⟨y,hyk⟩ : ∃ y,n.ents[m]? = some y := ⟨_,List.getElem?_eq_getElem hmt⟩
              obtain ⟨bf,of_,hF,hbf,hfc⟩ := HES.out.at_ hyk
              have YE := Lib.hid (hfc.keep (HBB.out.trans (hbl.mono HBB.out.size)) hbf)
              have l4 : bf < wl.heap.size := Nat.lt_of_lt_of_le hbf (Nat.le_trans HBB.out.size hbl.size)
              have HOT := Lib.hid (other_at HX.out hyk)
              have HY := Lib.hid hyk
              rw [hF] at c8
              clear hyk hfc hF hbl
              obtain ⟨q0,hq0⟩ : ∃ q : Bool,((m : Int) != (k : Int)) = q := ⟨_,rfl⟩
              obtain ⟨q1,hq1⟩ : ∃ q : Bool,(y.rep == x.rep) = q := ⟨_,rfl⟩
              obtain ⟨q2,hq2⟩ : ∃ q : Bool,(y.seq == x.seq) = q := ⟨_,rfl⟩
              rw [hq0,hq1,hq2] at HOT
              cases q0
              · skip
                go_wp2_with fail
                have hm : Tryz.prog.follows .mixedOrders = true := HM.out
                refine wp_region_later hm (by kernel_rfl) ?_
                repeat (any_goals (first | go_big_quiet_step (fail) | quiet_step (fail)))
                refine wpQuiet_nil ?_
                intro wp hw'
                obtain ⟨lp,hlp⟩ := hw'
                have hbp := lp.bel
                rw [← hlp] at hbp
                clear hlp lp
                have HBN := Lib.hid (HWL.out.trans (hbp.mono HWL.out.size))
                clear hbp
                go_wp2
                go_roundw
                case rel =>
                  exact ⟨m + 1,by go_num,by omega,Lib.hid (fun j hj => by
                    rcases Nat.lt_or_ge j m with h | h
                    · exact HI.out j h
                    · obtain rfl : j = m := by omega
                      rw [HOT.out]; rfl),HBN.out⟩
                case measure => simp [intOf]; omega
              · cases q1
                · skip
                  go_wp2_with fail
                  have p8 := fun p : Later wl => (p.bel.cell (p := ⟨w.heap.size + 1,8,none⟩) l2).trans c8
                  have p1 := fun p : Later wl => (p.bel.cell (p := ⟨bf,of_ + m * 7 + 1,none⟩) l4).trans YE.out.all.2.1
                  have v0 := fun p : Later wl => (p.bel.cell (p := ⟨gv,0,none⟩) lv).trans ((BV.out.keep HWL.out).cell 0 (.int .u8 x.rep) rfl)
                  have hm : Tryz.prog.follows .mixedOrders = true := HM.out
                  refine wp_region_later hm (by kernel_rfl) ?_
                  repeat (any_goals (first | go_big_quiet_step (fail) | quiet_step (fail)))
                  refine wpQuiet_nil ?_
                  intro wp hw'
                  obtain ⟨lp,hlp⟩ := hw'
                  have hbp := lp.bel
                  rw [← hlp] at hbp
                  clear hlp lp
                  have HBN := Lib.hid (HWL.out.trans (hbp.mono HWL.out.size))
                  clear hbp
                  go_wp2
                  go_roundw
                  case rel =>
                    exact ⟨m + 1,by go_num,by omega,Lib.hid (fun j hj => by
                      rcases Nat.lt_or_ge j m with h | h
                      · exact HI.out j h
                      · obtain rfl : j = m := by omega
                        rw [HOT.out]; rfl),HBN.out⟩
                  case measure => simp [intOf]; omega
                · cases q2
                  · skip
                    go_wp2_with fail
                    have p8 := fun p : Later wl => (p.bel.cell (p := ⟨w.heap.size + 1,8,none⟩) l2).trans c8
                    have p1 := fun p : Later wl => (p.bel.cell (p := ⟨bf,of_ + m * 7 + 1,none⟩) l4).trans YE.out.all.2.1
                    have v0 := fun p : Later wl => (p.bel.cell (p := ⟨gv,0,none⟩) lv).trans ((BV.out.keep HWL.out).cell 0 (.int .u8 x.rep) rfl)
                    have p2 := fun p : Later wl => (p.bel.cell (p := ⟨bf,of_ + m * 7 + 2,none⟩) l4).trans YE.out.all.2.2.1
                    have v1 := fun p : Later wl => (p.bel.cell (p := ⟨gv,1,none⟩) lv).trans ((BV.out.keep HWL.out).cell 1 (.int .u32 x.seq) rfl)
                    have hm : Tryz.prog.follows .mixedOrders = true := HM.out
                    refine wp_region_later hm (by kernel_rfl) ?_
                    repeat (any_goals (first | go_big_quiet_step (fail) | quiet_step (fail)))
                    refine wpQuiet_nil ?_
                    intro wp hw'
                    obtain ⟨lp,hlp⟩ := hw'
                    have hbp := lp.bel
                    rw [← hlp] at hbp
                    clear hlp lp
                    have HBN := Lib.hid (HWL.out.trans (hbp.mono HWL.out.size))
                    clear hbp
                    go_wp2
                    go_roundw
                    case rel =>
                      exact ⟨m + 1,by go_num,by omega,Lib.hid (fun j hj => by
                        rcases Nat.lt_or_ge j m with h | h
                        · exact HI.out j h
                        · obtain rfl : j = m := by omega
                          rw [HOT.out]; rfl),HBN.out⟩
                    case measure => simp [intOf]; omega
                  · skip
                    exfalso
                    have := HT.out k hlt
                    unfold twiceAt at this
                    rw [Bool.or_eq_false_iff] at this
                    have h2 := List.any_eq_false.1 this.1 m (List.mem_range.2 hmt)
                    rw [HOT.out] at h2
                    exact h2 rfl
            · skip
              have HI2 := Lib.hid (fun j (h : j < n.ents.length) => HI.out j (by omega))
              have HB4 := Lib.hid hbl
              clear hbl
              go_wp2_with fail
              clear HI c8 l1 l2 lv HWL
              go_loopw [13] (fun i wl => ∃ m : Nat,i = .int .i64 m ∧ m ≤ r.held.length ∧ Hid (∀ (j : Nat) (y : En),j < m → r.held[j]? = some y → otherHeld x y = false) ∧ Below we.heap.size we wl) (fun i _ => r.held.length - (intOf i).toNat)
              case atStart => exact ⟨0,rfl,Nat.zero_le _,Lib.hid (fun j y h _ => absurd h (by omega)),HB4.out⟩
              case round =>
                rename World => wl
                obtain ⟨m,rfl,hmk,HI,hbl⟩ := hrel
                have c5 := (B1R.out.keep hbl).cell 5 (.slice lr.b r.held.length lr.j) rfl
                have c8 := (B2R.out.keep hbl).cell 8 (.slice ln.b n.ents.length ln.j) rfl
                have l1 : w.heap.size < wl.heap.size := (B1R.out.keep hbl).lt
                have l2 : w.heap.size + 1 < wl.heap.size := (B2R.out.keep hbl).lt
                have lv : gv < wl.heap.size := (BV.out.keep hbl).lt
                have l3 : be < wl.heap.size := Nat.lt_of_lt_of_le hbe (Nat.le_trans HBB.out.size hbl.size)
                have XE2 := Lib.hid ((XE.out.keep HBX.out L3.out).keep hbl (Nat.lt_of_lt_of_le L3.out HBX.out.size))
                have HWL := Lib.hid hbl
                have h2 := HHL.out
                rw [HBA.out] at c8
                by_cases hmt : m < r.held.length
                · skip
                  obtain ⟨y,hyk⟩ : ∃ y,r.held[m]? = some y := ⟨_,List.getElem?_eq_getElem hmt⟩
                  obtain ⟨bf,of_,hF,hbf,hfc⟩ := HHS.out.at_ hyk
                  have YE := Lib.hid (hfc.keep (HBB.out.trans (hbl.mono HBB.out.size)) hbf)
                  have l4 : bf < wl.heap.size := Nat.lt_of_lt_of_le hbf (Nat.le_trans HBB.out.size hbl.size)
                  have HY := Lib.hid hyk
                  rw [hF] at c5
                  clear hyk hfc hF hbl
                  obtain ⟨q0,hq0⟩ : ∃ q : Bool,(y.id != x.id) = q := ⟨_,rfl⟩
                  obtain ⟨q1,hq1⟩ : ∃ q : Bool,(y.rep == x.rep) = q := ⟨_,rfl⟩
                  obtain ⟨q2,hq2⟩ : ∃ q : Bool,(y.seq == x.seq) = q := ⟨_,rfl⟩
                  have HOT := Lib.hid (show otherHeld x y = (q0 && (q1 && q2)) by unfold otherHeld alikeE; rw [hq0,hq1,hq2])
                  cases q0
                  · skip
                    go_wp2_with fail
                    have p5 := fun p : Later wl => (p.bel.cell (p := ⟨w.heap.size,5,none⟩) l1).trans c5
                    have y0 := fun p : Later wl => (p.bel.cell (p := ⟨bf,of_ + m * 7,none⟩) l4).trans YE.out.all.1
                    have p8 := fun p : Later wl => (p.bel.cell (p := ⟨w.heap.size + 1,8,none⟩) l2).trans c8
                    have x0 := fun p : Later wl => (p.bel.cell (p := ⟨be,oe + k * 7,none⟩) l3).trans XE2.out.all.1
                    have hm : Tryz.prog.follows .mixedOrders = true := HM.out
                    refine wp_region_later hm (by kernel_rfl) ?_
                    repeat (any_goals (first | go_big_quiet_step (fail) | quiet_step (fail)))
                    refine wpQuiet_nil ?_
                    intro wp hw'
                    obtain ⟨lp,hlp⟩ := hw'
                    have hbp := lp.bel
                    rw [← hlp] at hbp
                    clear hlp lp
                    have HBN := Lib.hid (HWL.out.trans (hbp.mono HWL.out.size))
                    clear hbp
                    go_wp2
                    go_roundw
                    case rel =>
                      exact ⟨m + 1,by go_num,by omega,Lib.hid (fun j z hj hz => by
                        rcases Nat.lt_or_ge j m with h | h
                        · exact HI.out j z h hz
                        · obtain rfl : j = m := by omega
                          rw [HY.out] at hz
                          rw [← Option.some.inj hz,HOT.out]; rfl),HBN.out⟩
                    case measure => simp [intOf]; omega
                  · cases q1
                    · skip
                      go_wp2_with fail
                      have p5 := fun p : Later wl => (p.bel.cell (p := ⟨w.heap.size,5,none⟩) l1).trans c5
                      have y0 := fun p : Later wl => (p.bel.cell (p := ⟨bf,of_ + m * 7,none⟩) l4).trans YE.out.all.1
                      have p8 := fun p : Later wl => (p.bel.cell (p := ⟨w.heap.size + 1,8,none⟩) l2).trans c8
                      have x0 := fun p : Later wl => (p.bel.cell (p := ⟨be,oe + k * 7,none⟩) l3).trans XE2.out.all.1
                      have y1 := fun p : Later wl => (p.bel.cell (p := ⟨bf,of_ + m * 7 + 1,none⟩) l4).trans YE.out.all.2.1
                      have v0 := fun p : Later wl => (p.bel.cell (p := ⟨gv,0,none⟩) lv).trans ((BV.out.keep HWL.out).cell 0 (.int .u8 x.rep) rfl)
                      have hm : Tryz.prog.follows .mixedOrders = true := HM.out
                      refine wp_region_later hm (by kernel_rfl) ?_
                      repeat (any_goals (first | go_big_quiet_step (fail) | quiet_step (fail)))
                      refine wpQuiet_nil ?_
                      intro wp hw'
                      obtain ⟨lp,hlp⟩ := hw'
                      have hbp := lp.bel
                      rw [← hlp] at hbp
                      clear hlp lp
                      have HBN := Lib.hid (HWL.out.trans (hbp.mono HWL.out.size))
                      clear hbp
                      go_wp2
                      go_roundw
                      case rel =>
                        exact ⟨m + 1,by go_num,by omega,Lib.hid (fun j z hj hz => by
                          rcases Nat.lt_or_ge j m with h | h
                          · exact HI.out j z h hz
                          · obtain rfl : j = m := by omega
                            rw [HY.out] at hz
                            rw [← Option.some.inj hz,HOT.out]; rfl),HBN.out⟩
                      case measure => simp [intOf]; omega
                    · cases q2
                      · skip
                        go_wp2_with fail
                        have p5 := fun p : Later wl => (p.bel.cell (p := ⟨w.heap.size,5,none⟩) l1).trans c5
                        have y0 := fun p : Later wl => (p.bel.cell (p := ⟨bf,of_ + m * 7,none⟩) l4).trans YE.out.all.1
                        have p8 := fun p : Later wl => (p.bel.cell (p := ⟨w.heap.size + 1,8,none⟩) l2).trans c8
                        have x0 := fun p : Later wl => (p.bel.cell (p := ⟨be,oe + k * 7,none⟩) l3).trans XE2.out.all.1
                        have y1 := fun p : Later wl => (p.bel.cell (p := ⟨bf,of_ + m * 7 + 1,none⟩) l4).trans YE.out.all.2.1
                        have v0 := fun p : Later wl => (p.bel.cell (p := ⟨gv,0,none⟩) lv).trans ((BV.out.keep HWL.out).cell 0 (.int .u8 x.rep) rfl)
                        have y2 := fun p : Later wl => (p.bel.cell (p := ⟨bf,of_ + m * 7 + 2,none⟩) l4).trans YE.out.all.2.2.1
                        have v1 := fun p : Later wl => (p.bel.cell (p := ⟨gv,1,none⟩) lv).trans ((BV.out.keep HWL.out).cell 1 (.int .u32 x.seq) rfl)
                        have hm : Tryz.prog.follows .mixedOrders = true := HM.out
                        refine wp_region_later hm (by kernel_rfl) ?_
                        repeat (any_goals (first | go_big_quiet_step (fail) | quiet_step (fail)))
                        refine wpQuiet_nil ?_
                        intro wp hw'
                        obtain ⟨lp,hlp⟩ := hw'
                        have hbp := lp.bel
                        rw [← hlp] at hbp
                        clear hlp lp
                        have HBN := Lib.hid (HWL.out.trans (hbp.mono HWL.out.size))
                        clear hbp
                        go_wp2
                        go_roundw
                        case rel =>
                          exact ⟨m + 1,by go_num,by omega,Lib.hid (fun j z hj hz => by
                            rcases Nat.lt_or_ge j m with h | h
                            · exact HI.out j z h hz
                            · obtain rfl : j = m := by omega
                              rw [HY.out] at hz
                              rw [← Option.some.inj hz,HOT.out]; rfl),HBN.out⟩
                        case measure => simp [intOf]; omega
                      · skip
                        exfalso
                        have := HT.out k hlt
                        unfold twiceAt at this
                        rw [Bool.or_eq_false_iff] at this
                        have h3 := List.any_eq_false.1 this.2 y (List.mem_of_getElem? HY.out)
                        rw [getElem!_pos n.ents k hlt,show n.ents[k] = x from Option.some.inj ((List.getElem?_eq_getElem hlt).symm.trans HX.out),HOT.out] at h3
                        exact h3 rfl
                · skip
                  have HBN := Lib.hid (HBB.out.trans (hbl.mono HBB.out.size))
                  have HI4 := Lib.hid (fun j y (h : j < r.held.length) hy => HI.out j y (by omega) hy)
                  clear HI hbl
                  go_wp2_with fail
                  go_roundw
                  case rel => exact ⟨k + 1,by go_num,by omega,HBN.out⟩
                  case measure => simp [intOf]; omega
        · skip
          have hb2 := Lib.hid hb
          clear hb
          go_wp2_with fail
          clear b8
          have HOS := Lib.hid (⟨B2.out,HV2.out.later HB.out⟩ : NtIn w3 (w.heap.size + 1) n ln).offers
          go_loopw [14] (fun i wr => ∃ k : Nat,i = .int .i64 k ∧ k ≤ n.offer.length ∧ Hid (∀ (j : Nat) (x : Rn),j < k → n.offer[j]? = some x → ((x.r == r.rep) && decide (r.seq < x.hi)) = false) ∧ Below w3.heap.size w3 wr) (fun i _ => n.offer.length - (intOf i).toNat)
          case atStart => exact ⟨0,rfl,Nat.zero_le _,Lib.hid (fun j x h _ => absurd h (by omega)),hb2.out⟩
          case round =>
            rename World => wr
            obtain ⟨k,rfl,hk,HO,hb⟩ := hrel
            have g3 := G3.out
            have b11 := (B2.out.keep hb).cell 11 (.slice ln.c n.offer.length ln.k) rfl
            by_cases hlt : k < n.offer.length
            · skip
              obtain ⟨x,hxk⟩ : ∃ x,n.offer[k]? = some x := ⟨_,List.getElem?_eq_getElem hlt⟩
              obtain ⟨be,oe,hA,hbe,hec⟩ := HOS.out.at_ hxk
              have XE := Lib.hid (hec.keep hb hbe)
              have HX := Lib.hid hxk
              have hq1 := B1.out.keep hb
              have l1 : w.heap.size < wr.heap.size := hq1.lt
              have l2 : w.heap.size + 1 < wr.heap.size := (B2.out.keep hb).lt
              have l3 : be < wr.heap.size := Nat.lt_of_lt_of_le hbe hb.size
              have E3 := Lib.hid (D3.out.keep hb)
              have E4 := Lib.hid (D4.out.keep hb)
              have HBR := Lib.hid (HB.out.trans (hb.mono HB.out.size))
              have HBB := Lib.hid hb
              rw [hA] at b11
              clear hxk hec hA
              obtain ⟨q1,hq⟩ : ∃ q : Bool,(x.r == r.rep) = q := ⟨_,rfl⟩
              have HQ1 := Lib.hid hq
              obtain ⟨q2,hqb⟩ : ∃ q : Bool,decide (r.seq < x.hi) = q := ⟨_,rfl⟩
              have HQ2 := Lib.hid hqb
              cases q1
              · skip
                go_wp2_with fail
                have p8 := fun p : Later wr => (p.bel.cell (p := ⟨w.heap.size + 1,11,none⟩) l2).trans b11
                have p1 := fun p : Later wr => (p.bel.cell (p := ⟨be,oe + k * 3,none⟩) l3).trans XE.out.1
                have p0 := fun p : Later wr => (p.bel.cell (p := ⟨w.heap.size,0,none⟩) l1).trans (hq1.cell 0 (.int .u8 r.rep) rfl)
                have hm : Tryz.prog.follows .mixedOrders = true := HM.out
                refine wp_region_later hm (by kernel_rfl) ?_
                repeat (any_goals (first | go_big_quiet_step (fail) | quiet_step (fail)))
                refine wpQuiet_nil ?_
                intro wp hw'
                obtain ⟨lp,hlp⟩ := hw'
                have hbp := lp.bel
                rw [← hlp] at hbp
                clear hlp lp
                have HBN := Lib.hid (HBB.out.trans (hbp.mono HBB.out.size))
                clear hbp
                go_wp2
                go_roundw
                case rel => exact ⟨k + 1,by go_num,by omega,Lib.hid (fun j y hj hy => by
                    rcases Nat.lt_or_ge j k with h | h
                    · exact HO.out j y h hy
                    · obtain rfl : j = k := by omega
                      rw [HX.out] at hy
                      rw [← Option.some.inj hy,HQ1.out]; rfl),HBN.out⟩
                case measure => simp [intOf]; omega
              · cases q2
                · skip
                  go_wp2_with fail
                  have p8 := fun p : Later wr => (p.bel.cell (p := ⟨w.heap.size + 1,11,none⟩) l2).trans b11
                  have p1 := fun p : Later wr => (p.bel.cell (p := ⟨be,oe + k * 3,none⟩) l3).trans XE.out.1
                  have p0 := fun p : Later wr => (p.bel.cell (p := ⟨w.heap.size,0,none⟩) l1).trans (hq1.cell 0 (.int .u8 r.rep) rfl)
                  have p2 := fun p : Later wr => (p.bel.cell (p := ⟨be,oe + k * 3 + 2,none⟩) l3).trans XE.out.2.2
                  have p3 := fun p : Later wr => (p.bel.cell (p := ⟨w.heap.size,3,none⟩) l1).trans (hq1.cell 3 (.int .u32 r.seq) rfl)
                  have hm : Tryz.prog.follows .mixedOrders = true := HM.out
                  refine wp_region_later hm (by kernel_rfl) ?_
                  repeat (any_goals (first | go_big_quiet_step (fail) | quiet_step (fail)))
                  refine wpQuiet_nil ?_
                  intro wp hw'
                  obtain ⟨lp,hlp⟩ := hw'
                  have hbp := lp.bel
                  rw [← hlp] at hbp
                  clear hlp lp
                  have HBN := Lib.hid (HBB.out.trans (hbp.mono HBB.out.size))
                  clear hbp
                  go_wp2
                  go_roundw
                  case rel => exact ⟨k + 1,by go_num,by omega,Lib.hid (fun j y hj hy => by
                      rcases Nat.lt_or_ge j k with h | h
                      · exact HO.out j y h hy
                      · obtain rfl : j = k := by omega
                        rw [HX.out] at hy
                        rw [← Option.some.inj hy,HQ1.out,HQ2.out]; rfl),HBN.out⟩
                  case measure => simp [intOf]; omega
                · skip
                  go_wp2_with fail
                  have p8 := fun p : Later wr => (p.bel.cell (p := ⟨w.heap.size + 1,11,none⟩) l2).trans b11
                  have p1 := fun p : Later wr => (p.bel.cell (p := ⟨be,oe + k * 3,none⟩) l3).trans XE.out.1
                  have p0 := fun p : Later wr => (p.bel.cell (p := ⟨w.heap.size,0,none⟩) l1).trans (hq1.cell 0 (.int .u8 r.rep) rfl)
                  have p2 := fun p : Later wr => (p.bel.cell (p := ⟨be,oe + k * 3 + 2,none⟩) l3).trans XE.out.2.2
                  have p3 := fun p : Later wr => (p.bel.cell (p := ⟨w.heap.size,3,none⟩) l1).trans (hq1.cell 3 (.int .u32 r.seq) rfl)
                  have hm : Tryz.prog.follows .mixedOrders = true := HM.out
                  refine wp_region_later hm (by kernel_rfl) ?_
                  repeat (any_goals (first | go_big_quiet_step (fail) | quiet_step (fail)))
                  refine wpQuiet_nil ?_
                  intro wp hw'
                  obtain ⟨lp,hlp⟩ := hw'
                  have hbp := lp.bel
                  rw [← hlp] at hbp
                  clear hlp lp
                  have HBE := Lib.hid (HBR.out.trans (hbp.mono HBR.out.size))
                  have E3 := Lib.hid (E3.out.keep hbp)
                  have E4 := Lib.hid (E4.out.keep hbp)
                  clear hbp
                  go_wp2_with (first
                    | (refine wpList_store_row rfl _ _ _ rfl (w.heap.size + 1 + 1) #[.int .u8 0,.int .u8 0,.int .u32 0,.int .u32 0,.slice none 0 0,.slice none 0 0,.bool false,.int .u32 0,.int .u8 0,.int .u8 0,.int .u32 0,.slice none 0 0,.int .u32 0] rfl rfl 28 _ E3.out.at_ rep_size rfl (by simp [Value.oneCell']) ?_)
                    | (refine wpList_store_row rfl _ _ _ rfl (w.heap.size + 1 + 1 + 1) #[.int .i64 0,.int .u8 0,.int .u8 0,.int .u32 0,.int .u8 0,.int .u8 0,.slice none 0 0,.int .u32 0,.slice none 0 0,.int .u8 0,.bool false,.slice none 0 0] rfl rfl 30 _ (E4.out.other (by omega) _).at_ note_size rfl (by simp [Value.oneCell']) ?_))
                  refine bodyPost_ret (v := .tuple #[.agg #[.int .u8 0,.int .u8 0,.int .u32 0,.int .u32 0,.slice none 0 0,.slice none 0 0,.bool false,.int .u32 0,.int .u8 0,.int .u8 0,.int .u32 0,.slice none 0 0,.int .u32 0],.agg #[.int .i64 0,.int .u8 0,.int .u8 0,.int .u32 0,.int .u8 0,.int .u8 0,.slice none 0 0,.int .u32 0,.slice none 0 0,.int .u8 0,.bool false,.slice none 0 0],.bool false,.int .i64 9]) (results_two_rows2 Tryz.results10 _ _ (w.heap.size + 1 + 1) (w.heap.size + 1 + 1 + 1) 28 30 #[.int .u8 0,.int .u8 0,.int .u32 0,.int .u32 0,.slice none 0 0,.slice none 0 0,.bool false,.int .u32 0,.int .u8 0,.int .u8 0,.int .u32 0,.slice none 0 0,.int .u32 0] #[.int .i64 0,.int .u8 0,.int .u8 0,.int .u32 0,.int .u8 0,.int .u8 0,.slice none 0 0,.int .u32 0,.slice none 0 0,.int .u8 0,.bool false,.slice none 0 0] (0,0) (0,0) _ _ rfl rfl ((E3.out.row _).other (by omega) _).at_ ((E4.out.other (by omega) _).row _).at_ Tryz.underlying28 Tryz.underlying30 rfl rfl rep_size note_size) rfl ?_
                  have hfin := below_setRow (below_setRow HBE.out (Nat.le_trans (Nat.le_succ w.heap.size) (Nat.le_succ _)) #[.int .u8 0,.int .u8 0,.int .u32 0,.int .u32 0,.slice none 0 0,.slice none 0 0,.bool false,.int .u32 0,.int .u8 0,.int .u8 0,.int .u32 0,.slice none 0 0,.int .u32 0]) (Nat.le_trans (Nat.le_trans (Nat.le_succ w.heap.size) (Nat.le_succ _)) (Nat.le_succ _)) #[.int .i64 0,.int .u8 0,.int .u8 0,.int .u32 0,.int .u8 0,.int .u8 0,.slice none 0 0,.int .u32 0,.slice none 0 0,.int .u8 0,.bool false,.slice none 0 0]
                  exact ⟨_,_,rfl,zeroP_v _ _,zero_v _ _,hfin⟩
            · skip
              exfalso
              have := top_true (rep := r.rep) (seq := r.seq) (l := n.offer) (fun j x hj hx => HO.out j x (by omega) hx)
              rw [HP.out] at this
              cases this
end Go.Proofs.YtfjaeohfigcciabGreatDoor

