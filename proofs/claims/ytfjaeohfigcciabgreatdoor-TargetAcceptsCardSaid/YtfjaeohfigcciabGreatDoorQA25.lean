/- Texts in one: TC6. -/
import Derived.Test.YtfjaeohfigcciabGreatDoorQA23
import Derived.Test.YtfjaeohfigcciabGreatDoorQA24
import Derived.Test.YtfjaeohfigcciabGreatDoorQA13
set_option linter.all false
namespace Go.Proofs.YtfjaeohfigcciabGreatDoor
open Go.RowKit

theorem wpList_load_row_g {P : Program} {ops : Array Oper} {rest : List Oper} {o : Oper} {a : Act} {w : World} {Q : Exit → Act → World → Prop} (hw : Region.wanted o (yielded ops a.tmps) = true) (ty : TypeId) (x : Operand) (ho : o.op = .load ty x)
    (g : Nat) (hx : a.eval x = .pointer (some ⟨g,0,none⟩)) (t : TypeId) (cs : Array Value) (fr : Nat × Nat) (d : TypeDesc) (hg : w.heap[g]? = some (.cells cs t fr))
    (hu : P.underlying ty = some d) (hd : (match d with | .struct _ | .array _ _ => true | _ => false) = true) (hi : (P.info? ty).map (·.size) = some cs.size)
    (h : wpList P ops Q rest (a.put o.dst (.agg cs)) w) : wpList P ops Q (o :: rest) a w :=
  wpList_step fun K hK => by rw [if_pos hw]; exact wp_load_row ty x ho g hx t cs fr d hg hu hd hi (hK _ _ h)

set_option maxHeartbeats 8000000 in
set_option maxRecDepth 100000 in
theorem trefusal_any (r : Rp) (n : Nt) (lr ln : Ls) (w : World) (hv : RpV w w.heap.size (.agg (repR r lr)) r) (hu : NtV w w.heap.size (.agg (noteR n ln)) n) (h1 : r.know.length ≤ 1000) (h2 : r.held.length ≤ 1000) (h3 : r.ses.offer.length ≤ 1000)
    (g2 : n.ents.length ≤ 1000) (g3 : n.offer.length ≤ 1000) :
    Calls Tryz.prog 68 #[.agg (repR r lr),.agg (noteR n ln)] w fun e w' => e = .returned (refV (refuseA r n)) ∧ Below w.heap.size w w' := by
  have C1 := Lib.hid (fun w1 (hb : Below w.heap.size w w1) => pRight_any (.agg (repR r lr)) r w1 (hv.later hb) h1 h2 h3)
  have C2 := Lib.hid (fun w1 (hb : Below w.heap.size w w1) => nRight_any (.agg (noteR n ln)) n w1 (hu.later hb))
  have C3 := Lib.hid (fun w1 => tisWaited_any r n lr ln w1)
  have C4 := Lib.hid (fun w1 (hb : Below w.heap.size w w1) => tisAhead_any r n lr ln w1 (hv.later hb) (hu.later hb) g2 g3)
  have C5 := Lib.hid (fun w1 (hb : Below w.heap.size w w1) => tclashes_any r n lr ln w1 (hv.later hb) (hu.later hb) h2 g2)
  have HP := Lib.hid (show refuseA r n = if rpB r = false then some 9 else if noteB n = false then some 3 else if waitB r n = false then some 4 else if clashB r n = true then some 9 else if 0 < n.cur ∧ n.epoch ≠ r.ses.epoch then some 10 else none from rfl)
  have HCL := Lib.hid (fun (a : noteB n = true) (b : waitB r n = true) => clash_is (r := r) (b := n) (batch_of a (wait_on b).2).1)
  have HN := Lib.hid hu.isok.2.2.2.2.1.1
  have HB := Lib.hid (al2 w (.cells (repR r lr) 28) (.cells (noteR n ln) 30))
  have BR := Lib.hid ((Blk.new w (repR r lr) 28).alloc (.cells (noteR n ln) 30))
  have BN := Lib.hid (blk_two w (.cells (repR r lr) 28) (noteR n ln) 30)
  have X10 := Lib.hid (show (repR r lr)[10]? = some (.int .u32 r.ses.epoch) from rfl)
  have X4 := Lib.hid (show (noteR n ln)[4]? = some (.int .u8 n.cur) from rfl)
  have X7 := Lib.hid (show (noteR n ln)[7]? = some (.int .u32 n.epoch) from rfl)
  have hi := rep_row_size r lr
  have hj : (Tryz.prog.info? 30).map (·.size) = some (noteR n ln).size := note_size1
  clear hv hu h1 h2 h3 g2 g3
  generalize refuseA r n = D at HP ⊢
  generalize rpB r = q1 at C1 HP
  generalize noteB n = q2 at C2 HP HCL
  generalize waitB r n = q3 at C3 HP HCL
  generalize aheadR r n = q4 at C4 HCL
  generalize clashR r n = q5 at C5 HCL
  generalize clashB r n = q45 at HP HCL
  generalize repR r lr = cs at C1 C2 C3 C4 C5 HB BR BN X10 hi ⊢
  generalize noteR n ln = cn at C1 C2 C3 C4 C5 HB BR BN X4 X7 hj ⊢
  go_enter Tryz.func68,Tryz.ntmps68
  go_upto_region 1 with fail
  generalize (w.alloc (.cells cs 28)).alloc (.cells cn 30) = W0 at HB BR BN ⊢
  go_wp2_with (first
    | (refine wpList_load_row rfl _ _ rfl w.heap.size rfl 28 cs (0,0) _ BR.out.at_ Tryz.underlying28 rfl hi ?_)
    | (refine wpList_load_row rfl _ _ rfl (w.heap.size + 1) rfl 30 cn (0,0) _ BN.out.at_ Tryz.underlying30 rfl hj ?_)
    | (refine wpList_load_row_g rfl _ _ rfl w.heap.size rfl 28 cs (0,0) _ BR.out.at_ Tryz.underlying28 rfl hi ?_)
    | (refine wpList_load_row_g rfl _ _ rfl (w.heap.size + 1) rfl 30 cn (0,0) _ BN.out.at_ Tryz.underlying30 rfl hj ?_))
  refine (C1.out W0 HB.out).mono ?_
  rintro e w1 ⟨rfl,hb⟩
  have BR := Lib.hid (BR.out.keep hb)
  have BN := Lib.hid (BN.out.keep hb)
  have HB := Lib.hid (HB.out.trans (hb.mono HB.out.size)); clear hb
  cases q1
  case false =>
    go_wp2_with fail
    go_ret
    exact ⟨by rw [HP.out]; rfl,HB.out⟩
  go_wp2_with (first
    | (refine wpList_load_row rfl _ _ rfl w.heap.size rfl 28 cs (0,0) _ BR.out.at_ Tryz.underlying28 rfl hi ?_)
    | (refine wpList_load_row rfl _ _ rfl (w.heap.size + 1) rfl 30 cn (0,0) _ BN.out.at_ Tryz.underlying30 rfl hj ?_)
    | (refine wpList_load_row_g rfl _ _ rfl w.heap.size rfl 28 cs (0,0) _ BR.out.at_ Tryz.underlying28 rfl hi ?_)
    | (refine wpList_load_row_g rfl _ _ rfl (w.heap.size + 1) rfl 30 cn (0,0) _ BN.out.at_ Tryz.underlying30 rfl hj ?_))
  refine (C2.out w1 HB.out).mono ?_
  rintro e w2 ⟨rfl,hb⟩
  have BR := Lib.hid (BR.out.keep hb)
  have BN := Lib.hid (BN.out.keep hb)
  have HB := Lib.hid (HB.out.trans (hb.mono HB.out.size)); clear hb
  cases q2
  case false =>
    go_wp2_with fail
    go_ret
    exact ⟨by rw [HP.out]; rfl,HB.out⟩
  go_wp2_with (first
    | (refine wpList_load_row rfl _ _ rfl w.heap.size rfl 28 cs (0,0) _ BR.out.at_ Tryz.underlying28 rfl hi ?_)
    | (refine wpList_load_row rfl _ _ rfl (w.heap.size + 1) rfl 30 cn (0,0) _ BN.out.at_ Tryz.underlying30 rfl hj ?_)
    | (refine wpList_load_row_g rfl _ _ rfl w.heap.size rfl 28 cs (0,0) _ BR.out.at_ Tryz.underlying28 rfl hi ?_)
    | (refine wpList_load_row_g rfl _ _ rfl (w.heap.size + 1) rfl 30 cn (0,0) _ BN.out.at_ Tryz.underlying30 rfl hj ?_))
  refine (C3.out w2).mono ?_
  rintro e w3 ⟨rfl,hb⟩
  have BR := Lib.hid (BR.out.keep hb)
  have BN := Lib.hid (BN.out.keep hb)
  have HB := Lib.hid (HB.out.trans (hb.mono HB.out.size)); clear hb
  cases q3
  case false =>
    go_wp2_with fail
    go_ret
    exact ⟨by rw [HP.out]; rfl,HB.out⟩
  have HQ := Lib.hid (HCL.out (by trivial) (by trivial)); clear HCL
  go_wp2_with (first
    | (refine wpList_load_row rfl _ _ rfl w.heap.size rfl 28 cs (0,0) _ BR.out.at_ Tryz.underlying28 rfl hi ?_)
    | (refine wpList_load_row rfl _ _ rfl (w.heap.size + 1) rfl 30 cn (0,0) _ BN.out.at_ Tryz.underlying30 rfl hj ?_)
    | (refine wpList_load_row_g rfl _ _ rfl w.heap.size rfl 28 cs (0,0) _ BR.out.at_ Tryz.underlying28 rfl hi ?_)
    | (refine wpList_load_row_g rfl _ _ rfl (w.heap.size + 1) rfl 30 cn (0,0) _ BN.out.at_ Tryz.underlying30 rfl hj ?_))
  refine (C4.out w3 HB.out).mono ?_
  rintro e w4 ⟨rfl,hb⟩
  have BR := Lib.hid (BR.out.keep hb)
  have BN := Lib.hid (BN.out.keep hb)
  have HB := Lib.hid (HB.out.trans (hb.mono HB.out.size)); clear hb
  cases q4
  case true =>
    go_wp2_with fail
    go_ret
    exact ⟨by rw [HP.out,← HQ.out]; rfl,HB.out⟩
  go_wp2_with (first
    | (refine wpList_load_row rfl _ _ rfl w.heap.size rfl 28 cs (0,0) _ BR.out.at_ Tryz.underlying28 rfl hi ?_)
    | (refine wpList_load_row rfl _ _ rfl (w.heap.size + 1) rfl 30 cn (0,0) _ BN.out.at_ Tryz.underlying30 rfl hj ?_)
    | (refine wpList_load_row_g rfl _ _ rfl w.heap.size rfl 28 cs (0,0) _ BR.out.at_ Tryz.underlying28 rfl hi ?_)
    | (refine wpList_load_row_g rfl _ _ rfl (w.heap.size + 1) rfl 30 cn (0,0) _ BN.out.at_ Tryz.underlying30 rfl hj ?_))
  refine (C5.out w4 HB.out).mono ?_
  rintro e w5 ⟨rfl,hb⟩
  have BR := Lib.hid (BR.out.keep hb)
  have BN := Lib.hid (BN.out.keep hb)
  have HB := Lib.hid (HB.out.trans (hb.mono HB.out.size)); clear hb
  cases q5
  case true =>
    go_wp2_with fail
    go_ret
    exact ⟨by rw [HP.out,← HQ.out]; rfl,HB.out⟩
  have c10 := BR.out.cell 10 _ X10.out
  have d4 := BN.out.cell 4 _ X4.out
  have d7 := BN.out.cell 7 _ X7.out
  obtain ⟨q6,hq6⟩ : ∃ q : Bool,(n.cur != 0) = q := ⟨_,rfl⟩
  obtain ⟨q7,hq7⟩ : ∃ q : Bool,(n.epoch != r.ses.epoch) = q := ⟨_,rfl⟩
  have H6 := Lib.hid hq6
  have H7 := Lib.hid hq7
  have h6' : (n.cur == 0) = !q6 := by rw [← hq6]; simp [bne]
  have h7' : (n.epoch == r.ses.epoch) = !q7 := by rw [← hq7]; simp [bne]
  have HE : D = if (q6 && q7) = true then some 10 else none := by
    rw [HP.out,← HQ.out,← H6.out,← H7.out]
    have h0 := HN.out
    have e : (0 < n.cur ∧ n.epoch ≠ r.ses.epoch) ↔ ((n.cur != 0 && n.epoch != r.ses.epoch) = true) := by
      simp only [Bool.and_eq_true,bne_iff_ne,ne_eq]
      constructor
      · rintro ⟨a,b⟩; exact ⟨by omega,b⟩
      · rintro ⟨a,b⟩; exact ⟨by omega,b⟩
    simp [e]
  have HE := Lib.hid HE
  clear HP HQ
  cases q6 <;> cases q7 <;>
    (go_wp2_with fail
     go_ret
     exact ⟨by rw [HE.out]; rfl,HB.out⟩)
end Go.Proofs.YtfjaeohfigcciabGreatDoor

