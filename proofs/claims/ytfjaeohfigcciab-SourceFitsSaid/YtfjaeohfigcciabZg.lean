/- Texts in one: RefRight, IRefRight, NMem, NRight, NRight2, NRight3, NRow, SMath. -/
import Derived.Test.YtfjaeohfigcciabZb
import Derived.Test.YtfjaeohfigcciabZc
import Derived.Test.YtfjaeohfigcciabNPlain
import Derived.Outline
import Derived.Test.YtfjaeohfigcciabZf
import Derived.Deep.QuietTactic
import Derived.BigQuiet
import Derived.Laws.Tables
import Derived.Test.YtfjaeohfigcciabPRep
/- The contract of the reference's Right. -/
namespace Go.Proofs.Ytfjaeohfigcciab
open Go.RowKit Go.Sort

theorem below_drawn {B : Nat} {w wr : World} (h : Below B w wr) (n : Nat) : Below B w (wr.drewN n) := ⟨h.os, h.tape, h.output, h.size, h.block⟩

set_option maxHeartbeats 4000000 in
set_option maxRecDepth 100000 in
theorem refRight_any (v : Value) (zs : List Rn) (w : World) (h : Sl w w.heap.size v zs) (hz : zs.length ≤ 1000) :
    Calls Try.prog 20 #[v] w fun e w' => e = .returned (.bool (rightB zs)) ∧ Below w.heap.size w w' := by
  obtain ⟨A, c, rfl, _, hok, hA⟩ := h
  have HA := Lib.hid hA; clear hA
  have HK := Lib.hid hok; clear hok
  generalize hrb : rightB zs = rb
  have HR := Lib.hid hrb; clear hrb
  go_enter Try.func20, Try.ntmps20
  go_wp2
  go_loopw [3] (fun i wr => ∃ k : Nat, i = .int .i64 k ∧ k ≤ zs.length ∧ Hid (∀ j, j < k → okAt zs j = true) ∧ Below w.heap.size w wr) (fun i _ => zs.length - (intOf i).toNat)
  case atStart => exact ⟨0, rfl, by omega, Lib.hid (fun j hj => absurd hj (by omega)), Below.refl _ _⟩
  case round =>
    obtain ⟨k, rfl, hk, HO, hb⟩ := hrel
    by_cases hlt : k < zs.length
    · obtain ⟨b, off, rfl, hbw, hc⟩ := HA.out (by intro h; simp [h] at hlt)
      have hxk : zs[k]? = some zs[k] := List.getElem?_eq_getElem hlt
      generalize zs[k] = x at hxk
      have HB := Lib.hid (getBang_of hxk)
      obtain ⟨⟨o1, o2⟩, ⟨o3, o4⟩, o5, o6⟩ := HK.out x (List.mem_of_getElem? hxk)
      obtain ⟨c0, c1, c2⟩ := (hc k x hxk).keep hb hbw
      have HC := Lib.hid hc; clear hc
      have HX := Lib.hid hxk; clear hxk
      have HBE := Lib.hid hb; clear hb
      by_cases hx : rrB x = true
      · have hx' : x.r < 8 ∧ 1 ≤ x.lo ∧ x.lo ≤ x.hi := by simpa [rrB] using hx
        obtain ⟨f1, f2, f3⟩ := hx'
        have g1 : decide (8 ≤ x.r) = false := by simp; omega
        have g2 : (x.lo == 0) = false := by simp; omega
        have g3 : decide (x.hi < x.lo) = false := by simp; omega
        have HX1 := Lib.hid hx; clear hx
        by_cases hk0 : 0 < k
        · obtain ⟨j, rfl⟩ : ∃ j, k = j + 1 := ⟨k - 1, by omega⟩
          have hyk : zs[j]? = some zs[j] := List.getElem?_eq_getElem (by omega)
          generalize zs[j] = y at hyk
          have HYB := Lib.hid (getBang_of hyk)
          obtain ⟨⟨p1, p2⟩, ⟨p3, p4⟩, p5, p6⟩ := HK.out y (List.mem_of_getElem? hyk)
          obtain ⟨d0, d1, d2⟩ := (HC.out j y hyk).keep HBE.out hbw
          have HY := Lib.hid hyk; clear hyk
          have i2 : j < zs.length := by omega
          by_cases q1 : x.r < y.r
          · have HP : Hid (apB y x = false) := Lib.hid (by simp [apB]; omega)
            go_wp2_with fail
            go_quiet (fail)
            go_wp2_with fail
            have i1 : IntKind.i64.wrap (j : Int) = (j : Int) := IntWalk.i64_in _ (by omega)
            go_quiet (fail)
            clear i1
            go_wp2
            go_ret
            refine ⟨?_, by first | exact below_drawn HBE.out _ | exact below_drawn (below_drawn HBE.out _) _⟩
            rw [← HR.out, rightB_false (k := j + 1) hlt (by simp [okAt, HB.out, HYB.out, HX1.out, HP.out])]
            rfl
          · have q1' : decide (x.r < y.r) = false := by simp; omega
            by_cases q2 : y.r = x.r
            · have q2' : (y.r == x.r) = true := by simp [q2]
              by_cases q3 : x.lo ≤ y.hi + 1
              · have HP : Hid (apB y x = false) := Lib.hid (by simp [apB]; omega)
                clear q2
                go_wp2_with fail
                go_quiet (fail)
                go_wp2_with fail
                have i1 : IntKind.i64.wrap (j : Int) = (j : Int) := IntWalk.i64_in _ (by omega)
                go_quiet (fail)
                clear i1
                go_wp2
                go_ret
                refine ⟨?_, by first | exact below_drawn HBE.out _ | exact below_drawn (below_drawn HBE.out _) _⟩
                rw [← HR.out, rightB_false (k := j + 1) hlt (by simp [okAt, HB.out, HYB.out, HX1.out, HP.out])]
                rfl
              · have HP : Hid (apB y x = true) := Lib.hid (by simp [apB]; omega)
                have q3' : decide (x.lo ≤ y.hi + 1) = false := by simp; omega
                clear q2
                go_wp2_with fail
                go_quiet (fail)
                go_wp2_with fail
                have i1 : IntKind.i64.wrap (j : Int) = (j : Int) := IntWalk.i64_in _ (by omega)
                go_quiet (fail)
                clear i1
                go_wp2
                go_roundw
                case rel =>
                  refine ⟨j + 1 + 1, by go_num, by omega, Lib.hid (fun i hi => ?_), by first | exact below_drawn HBE.out _ | exact below_drawn (below_drawn HBE.out _) _⟩
                  rcases Nat.lt_or_ge i (j + 1) with h | h
                  · exact HO.out i h
                  · obtain rfl : i = j + 1 := by omega
                    simp [okAt, HB.out, HYB.out, HX1.out, HP.out]
                case measure => simp [intOf]; omega
            · have HP : Hid (apB y x = true) := Lib.hid (by simp [apB]; omega)
              have q2' : (y.r == x.r) = false := by simp [q2]
              clear q2
              go_wp2_with fail
              go_quiet (fail)
              go_wp2_with fail
              have i1 : IntKind.i64.wrap (j : Int) = (j : Int) := IntWalk.i64_in _ (by omega)
              go_quiet (fail)
              clear i1
              go_wp2
              go_roundw
              case rel =>
                refine ⟨j + 1 + 1, by go_num, by omega, Lib.hid (fun i hi => ?_), by first | exact below_drawn HBE.out _ | exact below_drawn (below_drawn HBE.out _) _⟩
                rcases Nat.lt_or_ge i (j + 1) with h | h
                · exact HO.out i h
                · obtain rfl : i = j + 1 := by omega
                  simp [okAt, HB.out, HYB.out, HX1.out, HP.out]
              case measure => simp [intOf]; omega
        · have hk1 : decide (0 < k) = false := by simp; omega
          have HK0 := Lib.hid hk0; clear hk0
          go_wp2_with fail
          go_quiet (fail)
          go_wp2_with fail
          go_quiet (fail)
          go_wp2
          go_roundw
          case rel =>
            refine ⟨k + 1, by go_num, by omega, Lib.hid (fun i hi => ?_), by first | exact below_drawn HBE.out _ | exact below_drawn (below_drawn HBE.out _) _⟩
            rcases Nat.lt_or_ge i (k) with h | h
            · exact HO.out i h
            · obtain rfl : i = k := by omega
              have := HK0.out
              simp [okAt, HB.out, HX1.out]
              omega
          case measure => simp [intOf]; omega
      · have hx1 : rrB x = false := by simpa using hx
        have HX1 := Lib.hid hx1; clear hx1
        by_cases f1 : 8 ≤ x.r
        · clear hx
          go_wp2_with fail
          go_quiet (fail)
          go_wp2
          go_ret
          refine ⟨?_, by first | exact below_drawn HBE.out _ | exact below_drawn (below_drawn HBE.out _) _⟩
          rw [← HR.out, rightB_false (k := k) hlt (by simp [okAt, HB.out, HX1.out])]
          rfl
        · have g1 : decide (8 ≤ x.r) = false := by simp; omega
          by_cases f2 : x.lo = 0
          · have g2 : (x.lo == 0) = true := by simp [f2]
            clear hx f2
            go_wp2_with fail
            go_quiet (fail)
            go_wp2
            go_ret
            refine ⟨?_, by first | exact below_drawn HBE.out _ | exact below_drawn (below_drawn HBE.out _) _⟩
            rw [← HR.out, rightB_false (k := k) hlt (by simp [okAt, HB.out, HX1.out])]
            rfl
          · have g2 : (x.lo == 0) = false := by simp [f2]
            have f3 : x.hi < x.lo := by
              simp [rrB] at hx
              omega
            clear hx f2
            go_wp2_with fail
            go_quiet (fail)
            go_wp2
            go_ret
            refine ⟨?_, by first | exact below_drawn HBE.out _ | exact below_drawn (below_drawn HBE.out _) _⟩
            rw [← HR.out, rightB_false (k := k) hlt (by simp [okAt, HB.out, HX1.out])]
            rfl
    · by_cases h64 : zs.length ≤ 64
      · have e' : decide ((zs.length : Int) ≤ 64) = true := by simp; omega
        go_wp2
        go_ret
        refine ⟨?_, hb⟩
        rw [← HR.out, rightB_true h64 (fun j hj => HO.out j (by omega))]
        rfl
      · have e : rightB zs = false := by simp [rightB]; intro; omega
        have e' : decide ((zs.length : Int) ≤ 64) = false := by simp; omega
        rw [HR.out] at e
        subst e
        go_wp2
        go_ret
        exact ⟨rfl, hb⟩
end Go.Proofs.Ytfjaeohfigcciab

/- The contract of the reference's Right. -/
namespace Go.Proofs.Ytfjaeohfigcciab
open Go.RowKit

end Go.Proofs.Ytfjaeohfigcciab

/- A note as a value; the contract of the reference's Right. -/
namespace Go.Proofs.Ytfjaeohfigcciab
open Go.RowKit

/-- the cells of a note whose lists are those values -/
def Nt.cells (n : Nt) (vk ve vo : Value) : Array Value := #[.int .i64 n.kind, .int .u8 n.src, .int .u8 n.dst, .int .u32 n.num, .int .u8 n.cur, .int .u8 n.flt, vk, .int .u32 n.epoch, ve, .int .u8 n.next, .bool n.done, vo]
/-- a value is a note -/
def NtV (w : World) (B : Nat) (v : Value) (n : Nt) : Prop := ∃ vk ve vo, v = .agg (n.cells vk ve vo) ∧ Sl w B vk n.know ∧ ESl w B ve n.ents ∧ Sl w B vo n.offer ∧ n.ok
theorem NtV.below {w w' : World} {B : Nat} {v : Value} {n : Nt} (h : NtV w B v n) (hb : Below B w w') : NtV w' B v n := by
  obtain ⟨vk, ve, vo, hv, h1, h2, h3, ho⟩ := h
  exact ⟨vk, ve, vo, hv, h1.below hb, h2.below hb, h3.below hb, ho⟩
theorem NtV.more {w : World} {B B' : Nat} {v : Value} {n : Nt} (h : NtV w B v n) (hB : B ≤ B') : NtV w B' v n := by
  obtain ⟨vk, ve, vo, hv, h1, h2, h3, ho⟩ := h
  exact ⟨vk, ve, vo, hv, h1.more hB, h2.more hB, h3.more hB, ho⟩
theorem NtV.later {w w' : World} {v : Value} {n : Nt} (h : NtV w w.heap.size v n) (hb : Below w.heap.size w w') : NtV w' w'.heap.size v n := (h.below hb).more hb.size

set_option maxHeartbeats 4000000 in

theorem ret_bool {a b : Bool} (h : a = b) : Ending.returned (.bool a) = .returned (.bool b) := by rw [h]
theorem note_head {n : Nt} (h : headB n = false) : noteB n = false := by unfold noteB; rw [h]; rfl
theorem note_pull {n : Nt} (h : headB n = true) (hk : n.kind = 1) : noteB n = pullB n := by unfold noteB; rw [h, if_pos hk]; rfl
theorem note_batch {n : Nt} (h : headB n = true) (hk : n.kind ≠ 1) : noteB n = batchB n := by unfold noteB; rw [h, if_neg hk]; rfl

end Go.Proofs.Ytfjaeohfigcciab

/- The contract of the reference's Right at a Batch, and at any note. -/
namespace Go.Proofs.Ytfjaeohfigcciab
open Go.RowKit

/-- what stays of a batch, behind its lists -/
def tailB (n : Nt) : Bool := nextB n && (decide (n.done = true ∨ (n.ents.length = 4 ∧ n.next ≤ 63)) && decide (n.cur = 0 ∨ n.offer = []))

theorem tail_no {n : Nt} (h : nextB n = false) : tailB n = false := by unfold tailB; rw [h]; rfl
theorem tail_yes {n : Nt} (h : nextB n = true) : tailB n = (decide (n.done = true ∨ (n.ents.length = 4 ∧ n.next ≤ 63)) && (n.cur == 0 || ((n.offer.length : Int) == 0))) := by
  unfold tailB
  rw [h, Bool.true_and]
  congr 1
  rw [Bool.eq_iff_iff]
  simp

end Go.Proofs.Ytfjaeohfigcciab

/- The reference's Right at a Batch that has entries. -/
namespace Go.Proofs.Ytfjaeohfigcciab
open Go.RowKit

theorem next_cons {n : Nt} {m : Nat} {e0 el : En} (hm : n.ents.length = m + 1) (g0 : n.ents[0]? = some e0) (gl : n.ents[m]? = some el) : nextB n = decide (n.cur ≤ e0.id ∧ n.next = el.id + 1) := by
  unfold nextB
  match h : n.ents, hm, g0, gl with
  | e :: r, hm, g0, gl =>
    simp at g0
    subst g0
    have hl : (e :: r).getLast (by simp) = el := by
      rw [List.getLast_eq_getElem]
      have hm' : (e :: r).length - 1 = m := by rw [hm]; rfl
      have := List.getElem?_eq_getElem (l := e :: r) (i := m) (by omega)
      rw [gl] at this
      simp only [hm']
      exact (Option.some.inj this).symm
    show decide (n.cur ≤ e.id ∧ n.next = ((e :: r).getLast (by simp)).id + 1) = _
    rw [hl]

end Go.Proofs.Ytfjaeohfigcciab

/- The contract of the reference's Right at any note. -/
namespace Go.Proofs.Ytfjaeohfigcciab
open Go.RowKit

end Go.Proofs.Ytfjaeohfigcciab

/- A row stored as it was; a result that lies in a cell beside two numbers; what the reference's Read gives. -/
namespace Go.Proofs.Ytfjaeohfigcciab
open Go.RowKit

theorem setRow_id {w : World} {g : Nat} {cs : Array Value} {t : TypeId} {fr : Nat × Nat} (hg : w.heap[g]? = some (.cells cs t fr)) : w.setRow g cs = w := by
  have h : (w.setRow g cs).heap = w.heap := by
    apply Array.ext_getElem?
    intro i
    by_cases hi : i = g
    · subst hi; rw [setRow_heap w i cs cs t fr hg, hg]
    · exact setRow_other w g i cs hi
  have e : w.setRow g cs = { w with heap := (w.setRow g cs).heap } := rfl
  rw [e, h]
theorem wpQuiet_store_same {P : Program} {ops : Array Oper} {rest : List Oper} {o : Oper} {a : Act} {W : World} {Q : Act → Prop} (hgd : o.guard = none) (ty : TypeId) (x y : Operand) (ho : o.op = .store ty x y)
    (g : Nat) (cells : Array Value) (hx : a.eval x = .pointer (some ⟨g, 0, none⟩)) (hy : a.eval y = .agg cells) (t : TypeId) (hg : W.heap[g]? = some (.cells cells t (0, 0)))
    (hi : (P.info? ty).map (·.size) = some cells.size) (h1 : cells.all (·.oneCell') = true)
    (h : wpQuiet P ops (fun w' => ∃ p : Later W, w' = p.now) Q rest (a.put o.dst undef)) : wpQuiet P ops (fun w' => ∃ p : Later W, w' = p.now) Q (o :: rest) a := by
  refine wpQuiet_step (fun K hK => ?_)
  have hw : Region.wanted o (yielded ops a.tmps) = true := by simp [Region.wanted, hgd]
  rw [if_pos hw]
  refine ⟨undef, fun w' hp => ?_, hK _ h⟩
  obtain ⟨p, rfl⟩ := hp
  have hlt : g < W.heap.size := (Array.getElem?_eq_some_iff.1 hg).1
  have hg' := (p.bel.block g hlt).trans hg
  unfold Oper.quietAt execOp
  simp only [ho, hx, hy, Instr.storeAt, Instr.sureAddr, Sem.run_bind, Sem.run_pure, Result.andThen_ok, run_storeVar_row p.now g t ty cells cells hg' hi rfl h1]
  exact ⟨setRow_id hg', rfl⟩
theorem results_cell_row2 {P : Program} {fn : Func} {p q r : Tmp} {ty : TypeId} (h : fn.results = #[.cell p ty, .tmp q, .tmp r]) (tmps : Array Value) (w : World) (g : Nat) (t : TypeId) (cs : Array Value) (fr : Nat × Nat) (d : TypeDesc)
    (hp : tmps.getD p undef = .pointer (some ⟨g, 0, none⟩)) (hg : w.heap[g]? = some (.cells cs t fr))
    (hu : P.underlying ty = some d) (hd : (match d with | .struct _ | .array _ _ => true | _ => false) = true) (hi : (P.info? ty).map (·.size) = some cs.size) :
    (results fn tmps).run P w = .ok (.tuple #[.agg cs, tmps.getD q undef, tmps.getD r undef]) w := by
  have hp' : tmps[p]?.getD undef = .pointer (some ⟨g, 0, none⟩) := by simpa using hp
  simp [results, h, hp', asAddr, run_loadVar_row w g t ty cs fr d hg hu hd hi]

def zeroN : Nt := ⟨0, 0, 0, 0, 0, 0, [], 0, [], 0, false, []⟩
def zeroC : Array Value := #[.int .i64 0, .int .u8 0, .int .u8 0, .int .u32 0, .int .u8 0, .int .u8 0, .slice none 0 0, .int .u32 0, .slice none 0 0, .int .u8 0, .bool false, .slice none 0 0]
theorem zero_v (w : World) (B : Nat) : NtV w B (.agg zeroC) zeroN := ⟨.slice none 0 0, .slice none 0 0, .slice none 0 0, rfl, Sl.nil _ _, ESl.nil _ _, Sl.nil _ _, by unfold Nt.ok zeroN; simp⟩
theorem zero_one : zeroC.all (·.oneCell') = true := by simp [zeroC, Value.oneCell']
theorem cells_one (n : Nt) (A B C : Option Addr) (a b c d e f : Nat) : (n.cells (.slice A a b) (.slice B c d) (.slice C e f)).all (·.oneCell') = true := by simp [Nt.cells, Value.oneCell']
theorem Own.setOther {w : World} {base h j : Nat} {v u : Value} {zs : List Rn} (k : Own w base v zs) (hh : h < base) : Own (w.setCell ⟨h, j, none⟩ u) base v zs := by
  refine ⟨k.1, ?_⟩
  rcases k.2 with hn | ⟨g, cap, cur, hv, hb', hg, r⟩
  · exact .inl hn
  · exact .inr ⟨g, cap, cur, hv, hb', (heap_setCell_other w ⟨h, j, none⟩ g u (by simp; omega)).trans hg, r⟩
theorem Own.setRowOther {w : World} {base h : Nat} {v : Value} {cs : Array Value} {zs : List Rn} (k : Own w base v zs) (hh : h < base) : Own (w.setRow h cs) base v zs := by
  refine ⟨k.1, ?_⟩
  rcases k.2 with hn | ⟨g, cap, cur, hv, hb', hg, r⟩
  · exact .inl hn
  · exact .inr ⟨g, cap, cur, hv, hb', (setRow_other w h g cs (by omega)).trans hg, r⟩
theorem below_setRow {B : Nat} {W w : World} (h : Below B W w) {r : Nat} (hr : B ≤ r) (cs : Array Value) : Below B W (w.setRow r cs) :=
  ⟨h.os, h.tape, h.output, by simpa [World.setRow] using h.size, fun i hi => (setRow_other w r i cs (by omega)).trans (h.block i hi)⟩
theorem runsN_len (b : List UInt8) (n : Nat) (acc : List Rn) (s : Rd) : (rdRunsN b n acc s).1.length ≤ acc.length + n := by
  induction n generalizing acc s with
  | zero => exact Nat.le_refl _
  | succ n ih =>
    rw [rdRunsN]
    split
    · simp
    · have := ih (acc ++ [(rdRun b s).1]) (rdRun b s).2
      simp at this
      omega
theorem runs_len (b : List UInt8) (s : Rd) : (rdRuns b s).1.length ≤ 255 := by
  have h := runsN_len b (rdNum b s 1).1 [] (rdNum b s 1).2
  have := num_lt b s 1
  unfold rdRuns
  simp at h this
  omega
theorem note_size : (Try.prog.info? 30).map (·.size) = some 12 := by kernel_rfl
def codeP : Except (Int × Int) Nt → Int
  | .ok _ => 0
  | .error p => p.1
def atP : Except (Int × Int) Nt → Int
  | .ok _ => -1
  | .error p => p.2
def noteP : Except (Int × Int) Nt → Nt
  | .ok n => n
  | .error _ => zeroN
/-- what the reference's Read gives -/
def ReadPost (w : World) (r : Except (Int × Int) Nt) (e : Ending) (w' : World) : Prop := ∃ vn, e = .returned (.tuple #[vn, .int .i64 (codeP r), .int .i64 (atP r)]) ∧ NtV w' w'.heap.size vn (noteP r) ∧ Below w.heap.size w w'
end Go.Proofs.Ytfjaeohfigcciab

/- What follows of an answer (layer 6), in plain words. -/
namespace Go.Proofs.Ytfjaeohfigcciab
open Go.RowKit

/-- a note comes back, or an error -/
def AnsPost (w : World) (x : Except Int Nt) (e : Ending) (w' : World) : Prop :=
  match x with
  | .ok n => ∃ v, e = .returned (.tuple #[v, .nilIface]) ∧ NtV w' w'.heap.size v n ∧ Below w.heap.size w w'
  | .error _ => ∃ t u, e = .returned (.tuple #[.agg zeroC, .iface t u]) ∧ Below w.heap.size w w'
/-- entries come back, or an error -/
def DuePost (w : World) (x : Except Int (List En)) (e : Ending) (w' : World) : Prop :=
  match x with
  | .ok l => ∃ A c, e = .returned (.tuple #[.slice A l.length c, .nilIface]) ∧ l.length ≤ c ∧ ESl w' w'.heap.size (.slice A l.length c) l ∧ Below w.heap.size w w'
  | .error _ => ∃ t u, e = .returned (.tuple #[.slice none 0 0, .iface t u]) ∧ Below w.heap.size w w'

def cutAt (p : Nt) (c : Int) : Nt := ⟨p.kind, p.src, p.dst, p.num, c, p.flt, p.know, p.epoch, p.ents, p.next, p.done, p.offer⟩
theorem pull_cut {p : Nt} (h : noteB p = true) (hk : p.kind = 1) {c : Int} (hc : c ≤ 63) : noteB (cutAt p c) = true := by
  unfold noteB at h ⊢
  simp only [Bool.and_eq_true] at h ⊢
  obtain ⟨h1, h2⟩ := h
  simp only [headB, decide_eq_true_eq] at h1
  rw [if_pos hk] at h2
  refine ⟨decide_eq_true ⟨h1.1, h1.2.1, h1.2.2.1, h1.2.2.2.1, hc⟩, ?_⟩
  rw [if_pos (show (cutAt p c).kind = 1 from hk)]
  exact h2

structure Fits (r : Rp) (p n : Nt) (l : List En) : Prop where
  due : dueR r p = .ok l
  right : noteB n = true
  done : n.done = decide (l.length ≤ 4)
  four : 4 < l.length → n.ents.length = 4
  len : n.ents.length ≤ 4
  each : ∀ x ∈ n.ents, p.cur ≤ x.id ∧ hasB p.know x.rep x.seq = false ∧ (x.kind = 1 → inB x p.flt = true)
  rest : 4 < l.length → dueR r (cutAt p n.next) = .ok (l.drop 4)
  held : l.length ≤ r.held.length

theorem answer_fits {r : Rp} {p n : Nt} (h : answerR r p = .ok n) : ∃ l, Fits r p n l := by
  unfold answerR at h
  cases hd : dueR r p with
  | error c => rw [hd] at h; cases h
  | ok l =>
    rw [hd] at h
    simp only at h
    obtain ⟨h1, h2, h3, h4, rfl⟩ := due_ok hd
    have hri := rise_of_right (rp_parts h1).2.2.1
    have build : ∀ o, rightB o = true → (p.cur = 0 ∨ o = []) → Fits r p (answerN r p (dueL r.held p.know p.cur) o) (dueL r.held p.know p.cur) := fun o ho hc => by
      refine ⟨hd, answer_right h1 h2 h3 h4 ho hc, rfl, fun h => ?_, ?_, ?_, fun h => ?_, List.length_filter_le _ _⟩
      · simp [answerN]; omega
      · simp [answerN]; omega
      · intro x hx
        obtain ⟨y, hy, rfl⟩ := List.mem_map.1 hx
        have hm := due_mem (List.mem_of_mem_take hy)
        obtain ⟨e1, e2, e3, _⟩ := fit_same p.flt y
        rw [e1, e2, e3]
        exact ⟨hm.2.1, hm.2.2, fit_real⟩
      · have hroom := next_room (know := p.know) (cur := p.cur) (rp_parts h1).2.2.1 h
        show dueR r (cutAt p (nextOf ((dueL r.held p.know p.cur).take 4) p.cur)) = _
        rw [due_is h1 (pull_cut h2 h3 hroom) h3 h4]
        exact congrArg Except.ok (due_rest hri h)
    by_cases hc : p.cur = 0
    · rw [if_pos hc] at h
      cases ho : offerR p.flt r.held r.know with
      | error c => rw [ho] at h; cases h
      | ok o =>
        rw [ho] at h
        injection h with h
        rw [← h]
        exact ⟨_, build o (offer_right _ _ _ (rp_parts h1).2.1 ho) (.inl hc)⟩
    · rw [if_neg hc] at h
      injection h with h
      rw [← h]
      exact ⟨_, build [] rfl (.inr rfl)⟩
end Go.Proofs.Ytfjaeohfigcciab

