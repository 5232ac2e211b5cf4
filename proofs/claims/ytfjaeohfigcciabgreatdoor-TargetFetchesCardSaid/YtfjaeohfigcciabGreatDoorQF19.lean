/- Texts in one: IFade, SCode1, TFMem, Lists, SCode2. -/
import Derived.Test.YtfjaeohfigcciabGreatDoorQF03
import Derived.Test.YtfjaeohfigcciabGreatDoorQF16
import Derived.Test.YtfjaeohfigcciabGreatDoorQF18
import Derived.Test.YtfjaeohfigcciabGreatDoorQF08
import Derived.Test.YtfjaeohfigcciabGreatDoorQF00
import Derived.Test.YtfjaeohfigcciabGreatDoorQF11
set_option linter.unusedVariables false
set_option linter.unusedSimpArgs false
set_option linter.unusedSectionVars false
set_option linter.unnecessarySimpa false
namespace Go.Proofs.YtfjaeohfigcciabGreatDoor
open Go.RowKit

set_option maxHeartbeats 1000000 in
theorem iFade_any (x : En) (w : World) :
    Calls Tryz.prog 106 #[x.agg] w fun e w' => e = .returned (fadeE x).agg ∧ Below w.heap.size w w' := by
  obtain ⟨id, rep, seq, stamp, kind, cls, val⟩ := x
  by_cases h1 : kind = 1
  · subst h1
    rw [show fadeE ⟨id, rep, seq, stamp, 1, cls, val⟩ = ⟨id, rep, seq, stamp, 2, cls, 0⟩ by simp [fadeE]]
    simp only [En.agg]
    go_enter Tryz.func106, Tryz.ntmps106
    go_wp2
    exact bodyPost_ret (v := .agg #[.int .u8 id, .int .u8 rep, .int .u32 seq, .int .u32 stamp, .int .i64 2, .int .u8 cls, .int .u32 0]) (by simp [results, Tryz.results106, go_sem]) rfl ⟨rfl, al2 _ _ _⟩
  · have h1' : (kind != 1) = true := by simp [h1]
    rw [show fadeE ⟨id, rep, seq, stamp, kind, cls, val⟩ = ⟨id, rep, seq, stamp, kind, cls, val⟩ by simp [fadeE, h1]]
    clear h1
    simp only [En.agg]
    go_enter Tryz.func106, Tryz.ntmps106
    go_wp2
    exact bodyPost_ret (v := .agg #[.int .u8 id, .int .u8 rep, .int .u32 seq, .int .u32 stamp, .int .i64 kind, .int .u8 cls, .int .u32 val]) (by simp [results, Tryz.results106, go_sem]) rfl ⟨rfl, al2 _ _ _⟩

end Go.Proofs.YtfjaeohfigcciabGreatDoor

namespace Go.Proofs.YtfjaeohfigcciabGreatDoor
open Go.RowKit

theorem ssizeEnt : (Tryz.prog.info? 62).map (·.size) = some 7 := by kernel_rfl
/-- an entry is due for a Pull -/
def dueB (p : Nt) (x : En) : Bool := decide (p.cur ≤ x.id) && !hasB p.know x.rep x.seq
set_option maxHeartbeats 4000000 in
set_option maxRecDepth 100000 in
theorem sisDue_any (x : En) (u : Value) (p : Nt) (w : World) (hu : NtV w w.heap.size u p) :
    Calls Tryz.prog 99 #[x.agg, u] w fun e w' => e = .returned (.bool (dueB p x)) ∧ Below w.heap.size w w' := by
  obtain ⟨vk, ve, vo, rfl, hk, he, ho, hok⟩ := hu
  have HK := Lib.hid (fun w1 (hb : Below w.heap.size w w1) => Has_any x.rep x.seq vk p.know w1 ((hk.below hb).more hb.size))
  have HD := Lib.hid (show dueB p x = (decide (p.cur ≤ x.id) && !hasB p.know x.rep x.seq) from rfl)
  obtain ⟨Ak, ck, rfl, _⟩ := hk
  obtain ⟨Ae, ce, rfl, _⟩ := he
  obtain ⟨Ao, co, rfl, _⟩ := ho
  clear hok
  obtain ⟨id, rep, seq, stamp, kind, cls, val⟩ := x
  generalize dueB p ⟨id, rep, seq, stamp, kind, cls, val⟩ = D at HD ⊢
  generalize hasB p.know (En.mk id rep seq stamp kind cls val).rep (En.mk id rep seq stamp kind cls val).seq = H at HD HK
  unfold Nt.cells
  simp only [En.agg] at *
  by_cases h : p.cur ≤ id
  · go_enter Tryz.func99, Tryz.ntmps99
    go_wp2_with fail
    refine (HK.out _ (al2 _ _ _)).mono ?_
    rintro e w1 ⟨rfl, hb⟩
    have HB := Lib.hid ((al2 w (.cells #[.int .u8 id, .int .u8 rep, .int .u32 seq, .int .u32 stamp, .int .i64 kind, .int .u8 cls, .int .u32 val] 62) (.cells #[.int .i64 p.kind, .int .u8 p.src, .int .u8 p.dst, .int .u32 p.num, .int .u8 p.cur, .int .u8 p.flt, .slice Ak p.know.length ck, .int .u32 p.epoch, .slice Ae p.ents.length ce, .int .u8 p.next, .bool p.done, .slice Ao p.offer.length co] 30)).trans (hb.mono (al2 _ _ _).size)); clear hb
    go_wp2_with fail
    go_ret
    exact ⟨by rw [HD.out, decide_eq_true h]; rfl, HB.out⟩
  · have h' : id < p.cur := by omega
    go_enter Tryz.func99, Tryz.ntmps99
    go_wp2_with fail
    go_ret
    exact ⟨by rw [HD.out, decide_eq_false (by omega)]; rfl, al2 _ _ _⟩

set_option maxHeartbeats 4000000 in
set_option maxRecDepth 100000 in
theorem sshown_any (x : En) (f : Int) (w : World) (hx : x.ok) (hf : 0 ≤ f ∧ f ≤ 255) :
    Calls Tryz.prog 100 #[x.agg, .int .u8 f] w fun e w' => e = .returned (fitE f x).agg ∧ Below w.heap.size w w' := by
  have IN := Lib.hid (fun w1 => iIn_any x f w1 hx hf)
  have FA := Lib.hid (fun w1 => iFade_any x w1)
  have HF := Lib.hid (show fitE f x = if inB x f = true then x else fadeE x from rfl)
  generalize fitE f x = F at HF ⊢
  generalize inB x f = q at HF IN
  generalize fadeE x = G at HF FA
  obtain ⟨id, rep, seq, stamp, kind, cls, val⟩ := x
  obtain ⟨jd, rep2, seq2, stamp2, kind2, cls2, val2⟩ := G
  simp only [En.agg] at *
  have HB0 := Lib.hid (al2 w (.cells #[.int .u8 id, .int .u8 rep, .int .u32 seq, .int .u32 stamp, .int .i64 kind, .int .u8 cls, .int .u32 val] 62) (.cells #[.int .u8 0, .int .u8 0, .int .u32 0, .int .u32 0, .int .i64 0, .int .u8 0, .int .u32 0] 62))
  have BA := Lib.hid ((Blk.new w #[.int .u8 id, .int .u8 rep, .int .u32 seq, .int .u32 stamp, .int .i64 kind, .int .u8 cls, .int .u32 val] 62).alloc (.cells #[.int .u8 0, .int .u8 0, .int .u32 0, .int .u32 0, .int .i64 0, .int .u8 0, .int .u32 0] 62))
  have BB := Lib.hid (blk_two w (.cells #[.int .u8 id, .int .u8 rep, .int .u32 seq, .int .u32 stamp, .int .i64 kind, .int .u8 cls, .int .u32 val] 62) #[.int .u8 0, .int .u8 0, .int .u32 0, .int .u32 0, .int .i64 0, .int .u8 0, .int .u32 0] 62)
  go_enter Tryz.func100, Tryz.ntmps100
  go_wp2_with fail
  generalize (w.alloc (.cells #[.int .u8 id, .int .u8 rep, .int .u32 seq, .int .u32 stamp, .int .i64 kind, .int .u8 cls, .int .u32 val] 62)).alloc (.cells #[.int .u8 0, .int .u8 0, .int .u32 0, .int .u32 0, .int .i64 0, .int .u8 0, .int .u32 0] 62) = wz at HB0 BA BB ⊢
  refine (IN.out _).mono ?_
  rintro e w1 ⟨rfl, hb⟩
  have BA := Lib.hid (BA.out.keep hb)
  have BB := Lib.hid (BB.out.keep hb)
  have HB := Lib.hid (HB0.out.trans (hb.mono HB0.out.size)); clear hb HB0
  have c0 := BA.out.cell 0 (.int .u8 id) rfl
  have c1 := BA.out.cell 1 (.int .u8 rep) rfl
  have c2 := BA.out.cell 2 (.int .u32 seq) rfl
  have c3 := BA.out.cell 3 (.int .u32 stamp) rfl
  have c4 := BA.out.cell 4 (.int .i64 kind) rfl
  have c5 := BA.out.cell 5 (.int .u8 cls) rfl
  have c6 := BA.out.cell 6 (.int .u32 val) rfl
  cases q
  · skip
    go_wp2_with fail
    refine (FA.out _).mono ?_
    rintro e w2 ⟨rfl, hb⟩
    have BB := Lib.hid (BB.out.keep hb)
    have HB := Lib.hid (HB.out.trans (hb.mono HB.out.size)); clear hb
    go_wp2_with (refine wpList_store_row rfl _ _ _ rfl (w.heap.size + 1) _ rfl rfl 62 _ BB.out.at_ ssizeEnt rfl (by simp [Value.oneCell']) ?_)
    refine bodyPost_ret (v := .agg #[.int .u8 jd, .int .u8 rep2, .int .u32 seq2, .int .u32 stamp2, .int .i64 kind2, .int .u8 cls2, .int .u32 val2]) (results_cell_row Tryz.results100 _ _ (w.heap.size + 1) 62 _ (0, 0) _ rfl (BB.out.row _).at_ Tryz.underlying62 rfl ssizeEnt) rfl ?_
    exact ⟨by rw [HF.out]; rfl, below_setRow HB.out (Nat.le_succ _) _⟩
  · skip
    go_wp2_with (refine wpList_store_row rfl _ _ _ rfl (w.heap.size + 1) _ rfl rfl 62 _ BB.out.at_ ssizeEnt rfl (by simp [Value.oneCell']) ?_)
    refine bodyPost_ret (v := .agg #[.int .u8 id, .int .u8 rep, .int .u32 seq, .int .u32 stamp, .int .i64 kind, .int .u8 cls, .int .u32 val]) (results_cell_row Tryz.results100 _ _ (w.heap.size + 1) 62 _ (0, 0) _ rfl (BB.out.row _).at_ Tryz.underlying62 rfl ssizeEnt) rfl ?_
    exact ⟨by rw [HF.out]; rfl, below_setRow HB.out (Nat.le_succ _) _⟩

set_option maxHeartbeats 4000000 in
set_option maxRecDepth 100000 in
theorem snext_any (u : Value) (n : Nt) (w : World) (hu : NtV w w.heap.size u n) (hl : n.ents.length ≤ 1000) (h63 : ∀ x ∈ n.ents, x.id ≤ 63) :
    Calls Tryz.prog 63 #[u] w fun e w' => e = .returned (.int .u8 (nextOf n.ents n.cur)) ∧ Below w.heap.size w w' := by
  obtain ⟨vk, ve, vo, rfl, hk, he, ho, hok⟩ := hu
  have HE := Lib.hid he
  obtain ⟨Ak, ck, rfl, _⟩ := hk
  obtain ⟨Ae, ce, rfl, hcap, hokE, hA⟩ := he
  obtain ⟨Ao, co, rfl, _⟩ := ho
  clear hok hcap
  unfold Nt.cells
  by_cases hz : n.ents = []
  · have hn : (n.ents.length : Int) = 0 := by rw [hz]; rfl
    have hv : nextOf n.ents n.cur = n.cur := by rw [hz]; rfl
    rw [hv]
    clear hA hokE hv h63 hl
    go_enter Tryz.func63, Tryz.ntmps63
    go_wp2_with fail
    go_ret
    exact ⟨rfl, al1 _ _⟩
  · obtain ⟨b, off, rfl, hbw, hc⟩ := hA hz
    have hpos : 0 < n.ents.length := List.length_pos_iff.2 hz
    obtain ⟨x, hx0⟩ : ∃ x, n.ents.getLast? = some x := by
      cases h : n.ents.getLast? with
      | none => simp at h; exact absurd h hz
      | some x => exact ⟨x, rfl⟩
    have hx : n.ents[n.ents.length - 1]? = some x := by rw [← List.getLast?_eq_getElem?]; exact hx0
    have hv : nextOf n.ents n.cur = x.id + 1 := by unfold nextOf; rw [hx0]
    have h1 := h63 _ (List.mem_of_getElem? hx)
    have h2 := (hokE _ (List.mem_of_getElem? hx)).1.1
    rw [hv]
    have XE := Lib.hid ((hc _ _ hx).keep (al1 w (.cells #[.int .i64 n.kind, .int .u8 n.src, .int .u8 n.dst, .int .u32 n.num, .int .u8 n.cur, .int .u8 n.flt, .slice Ak n.know.length ck, .int .u32 n.epoch, .slice (some ⟨b, off, none⟩) n.ents.length ce, .int .u8 n.next, .bool n.done, .slice Ao n.offer.length co] 30)) hbw)
    have hnz : ((n.ents.length : Int) == 0) = false := by simp [hz]
    obtain ⟨k, hkk⟩ : ∃ k : Nat, n.ents.length = k + 1 := ⟨n.ents.length - 1, by omega⟩
    rw [hkk] at XE hnz hl ⊢
    rw [show k + 1 - 1 = k by omega] at XE
    obtain ⟨x0, _⟩ := XE.out.all
    clear hA hokE hv h63 hc hx hx0 hpos hkk
    go_enter Tryz.func63, Tryz.ntmps63
    go_wp2_with fail
    go_ret
    exact ⟨by simp, al1 _ _⟩
end Go.Proofs.YtfjaeohfigcciabGreatDoor

namespace Go.Proofs.YtfjaeohfigcciabGreatDoor
open Go.RowKit

def repRow (r : Rp) (A1 A2 A3 : Option Addr) (n1 n2 n3 c1 c2 c3 : Nat) : Array Value := r.cells (.slice A1 n1 c1) (.slice A2 n2 c2) (.slice A3 n3 c3)
def noteRow (n : Nt) (A1 A2 A3 : Option Addr) (n1 n2 n3 c1 c2 c3 : Nat) : Array Value := n.cells (.slice A1 n1 c1) (.slice A2 n2 c2) (.slice A3 n3 c3)

theorem run_in_rep {r : Rp} {A1 A2 A3 : Option Addr} {n1 n2 n3 c1 c2 c3 o : Nat} {x y z : Int} (h0 : (repRow r A1 A2 A3 n1 n2 n3 c1 c2 c3)[o]? = some (.int .u8 x)) (h1 : (repRow r A1 A2 A3 n1 n2 n3 c1 c2 c3)[o + 1]? = some (.int .u32 y))
    (h2 : (repRow r A1 A2 A3 n1 n2 n3 c1 c2 c3)[o + 2]? = some (.int .u32 z)) : o = 1 := by
  unfold repRow Rp.cells at h0 h1 h2
  match o with
  | 0 => simp at h1
  | 1 => rfl
  | 2 => simp at h0
  | 3 => simp at h0
  | 4 => simp at h0
  | 5 => simp at h0
  | 6 => simp at h0
  | 7 => simp at h0
  | 8 => simp at h1
  | 9 => simp at h2
  | 10 => simp at h0
  | 11 => simp at h0
  | 12 => simp at h0
  | o + 13 => simp at h0
theorem run_in_note {n : Nt} {A1 A2 A3 : Option Addr} {n1 n2 n3 c1 c2 c3 o : Nat} {x y z : Int} (h0 : (noteRow n A1 A2 A3 n1 n2 n3 c1 c2 c3)[o]? = some (.int .u8 x)) (h1 : (noteRow n A1 A2 A3 n1 n2 n3 c1 c2 c3)[o + 1]? = some (.int .u32 y))
    (h2 : (noteRow n A1 A2 A3 n1 n2 n3 c1 c2 c3)[o + 2]? = some (.int .u32 z)) : False := by
  unfold noteRow Nt.cells at h0 h1 h2
  match o with
  | 0 => simp at h0
  | 1 => simp at h1
  | 2 => simp at h2
  | 3 => simp at h0
  | 4 => simp at h1
  | 5 => simp at h1
  | 6 => simp at h0
  | 7 => simp at h0
  | 8 => simp at h0
  | 9 => simp at h1
  | 10 => simp at h0
  | 11 => simp at h0
  | o + 12 => simp at h0
theorem ent_in_rep {r : Rp} {A1 A2 A3 : Option Addr} {n1 n2 n3 c1 c2 c3 o : Nat} {x : Int} (h : (repRow r A1 A2 A3 n1 n2 n3 c1 c2 c3)[o]? = some (.int .i64 x)) : False := by
  unfold repRow Rp.cells at h
  match o with
  | 0 | 1 | 2 | 3 | 4 | 5 | 6 | 7 | 8 | 9 | 10 | 11 | 12 => simp at h
  | o + 13 => simp at h
theorem ent_in_note {n : Nt} {A1 A2 A3 : Option Addr} {n1 n2 n3 c1 c2 c3 o : Nat} {x : Int} (h : (noteRow n A1 A2 A3 n1 n2 n3 c1 c2 c3)[o + 1]? = some (.int .i64 x)) : False := by
  unfold noteRow Nt.cells at h
  match o with
  | 0 | 1 | 2 | 3 | 4 | 5 | 6 | 7 | 8 | 9 | 10 => simp at h
  | o + 11 => simp at h

theorem cell_other {W : World} {g b j : Nat} (cs : Array Value) (h : b ≠ g) : (W.setRow g cs).cell? ⟨b, j, none⟩ = W.cell? ⟨b, j, none⟩ := World.cell?_of_block (setRow_other W g b cs h)
theorem cell_in {W : World} {g j : Nat} {cs : Array Value} {t : TypeId} (h : Blk W g cs t) : W.cell? ⟨g, j, none⟩ = cs[j]? := cell_of_row W g j cs t (0, 0) h.at_

section
variable {W : World} {g B : Nat} {v : Value} {t : TypeId}
theorem Sl.rep {zs : List Rn} {r q : Rp} {A1 A2 A3 A1' A2' A3' : Option Addr} {n1 n2 n3 c1 c2 c3 n1' n2' n3' c1' c2' c3' : Nat} (h : Sl W B v zs) (hb : Blk W g (repRow r A1 A2 A3 n1 n2 n3 c1 c2 c3) t)
    (e1 : q.flt = r.flt) (e2 : q.epoch = r.epoch) (e3 : q.seq = r.seq) : Sl (W.setRow g (repRow q A1' A2' A3' n1' n2' n3' c1' c2' c3')) B v zs := by
  obtain ⟨A, c, hv, hn, hok, hA⟩ := h
  refine ⟨A, c, hv, hn, hok, fun hz => ?_⟩
  obtain ⟨b, off, hA1, hB, hc⟩ := hA hz
  refine ⟨b, off, hA1, hB, fun j x hx => ?_⟩
  obtain ⟨h0, h1, h2⟩ := hc j x hx
  by_cases hbg : b = g
  · subst hbg
    rw [cell_in hb] at h0 h1 h2
    have ho := run_in_rep h0 h1 h2
    have hb' := hb.row (repRow q A1' A2' A3' n1' n2' n3' c1' c2' c3')
    unfold RnAt
    rw [cell_in hb', cell_in hb', cell_in hb']
    rw [ho] at h0 h1 h2 ⊢
    unfold repRow Rp.cells at *
    simp at h0 h1 h2 ⊢
    exact ⟨by rw [e1]; exact h0, by rw [e2]; exact h1, by rw [e3]; exact h2⟩
  · exact ⟨(cell_other _ hbg).trans h0, (cell_other _ hbg).trans h1, (cell_other _ hbg).trans h2⟩
theorem Sl.note {zs : List Rn} {n : Nt} {A1 A2 A3 : Option Addr} {n1 n2 n3 c1 c2 c3 : Nat} (h : Sl W B v zs) (hb : Blk W g (noteRow n A1 A2 A3 n1 n2 n3 c1 c2 c3) t) (cs : Array Value) : Sl (W.setRow g cs) B v zs := by
  obtain ⟨A, c, hv, hn, hok, hA⟩ := h
  refine ⟨A, c, hv, hn, hok, fun hz => ?_⟩
  obtain ⟨b, off, hA1, hB, hc⟩ := hA hz
  refine ⟨b, off, hA1, hB, fun j x hx => ?_⟩
  obtain ⟨h0, h1, h2⟩ := hc j x hx
  by_cases hbg : b = g
  · subst hbg
    rw [cell_in hb] at h0 h1 h2
    exact (run_in_note h0 h1 h2).elim
  · exact ⟨(cell_other _ hbg).trans h0, (cell_other _ hbg).trans h1, (cell_other _ hbg).trans h2⟩
theorem ESl.row {zs : List En} (h : ESl W B v zs) (hne : ∀ b o x, EnAt W b o x → b ≠ g) (cs : Array Value) : ESl (W.setRow g cs) B v zs := by
  obtain ⟨A, c, hv, hn, hok, hA⟩ := h
  refine ⟨A, c, hv, hn, hok, fun hz => ?_⟩
  obtain ⟨b, off, hA1, hB, hc⟩ := hA hz
  refine ⟨b, off, hA1, hB, fun j x hx i u hu => ?_⟩
  exact (cell_other _ (hne b _ x (hc j x hx))).trans (hc j x hx i u hu)
theorem ESl.rep {zs : List En} {r : Rp} {A1 A2 A3 : Option Addr} {n1 n2 n3 c1 c2 c3 : Nat} (h : ESl W B v zs) (hb : Blk W g (repRow r A1 A2 A3 n1 n2 n3 c1 c2 c3) t) (cs : Array Value) : ESl (W.setRow g cs) B v zs :=
  h.row (fun b o x he hbg => by
    subst hbg
    have h4 := he 4 (.int .i64 x.kind) rfl
    rw [cell_in hb] at h4
    exact ent_in_rep h4) cs
theorem ESl.note {zs : List En} {n : Nt} {A1 A2 A3 : Option Addr} {n1 n2 n3 c1 c2 c3 : Nat} (h : ESl W B v zs) (hb : Blk W g (noteRow n A1 A2 A3 n1 n2 n3 c1 c2 c3) t) (cs : Array Value) : ESl (W.setRow g cs) B v zs :=
  h.row (fun b o x he hbg => by
    subst hbg
    have h4 := he 4 (.int .i64 x.kind) rfl
    rw [cell_in hb] at h4
    exact ent_in_note h4) cs
/-- entries of the call's own, when another block is stored into -/
theorem EOwn.row {zs : List En} {base : Nat} {cs0 : Array Value} (h : EOwn W base v zs) (hb : Blk W g cs0 t) (ht : t ≠ 62) (cs : Array Value) : EOwn (W.setRow g cs) base v zs := by
  refine ⟨h.1, ?_⟩
  rcases h.2 with hn | ⟨k, cap, cur, hv, hb', hg, r⟩
  · exact .inl hn
  · refine .inr ⟨k, cap, cur, hv, hb', (setRow_other W g k cs ?_).trans hg, r⟩
    rintro rfl
    have := hb.at_.symm.trans hg
    simp at this
    exact ht this.2
theorem RpV.rep {B : Nat} {u : Value} {x r q : Rp} {A1 A2 A3 A1' A2' A3' : Option Addr} {n1 n2 n3 c1 c2 c3 n1' n2' n3' c1' c2' c3' : Nat} (h : RpV W B u x) (hb : Blk W g (repRow r A1 A2 A3 n1 n2 n3 c1 c2 c3) t)
    (e1 : q.flt = r.flt) (e2 : q.epoch = r.epoch) (e3 : q.seq = r.seq) : RpV (W.setRow g (repRow q A1' A2' A3' n1' n2' n3' c1' c2' c3')) B u x := by
  obtain ⟨vk, vh, vo, hv, h1, h2, h3, ho⟩ := h
  exact ⟨vk, vh, vo, hv, h1.rep hb e1 e2 e3, h2.rep hb _, h3.rep hb e1 e2 e3, ho⟩
theorem RpV.note {B : Nat} {u : Value} {x : Rp} {n : Nt} {A1 A2 A3 : Option Addr} {n1 n2 n3 c1 c2 c3 : Nat} (h : RpV W B u x) (hb : Blk W g (noteRow n A1 A2 A3 n1 n2 n3 c1 c2 c3) t) (cs : Array Value) : RpV (W.setRow g cs) B u x := by
  obtain ⟨vk, vh, vo, hv, h1, h2, h3, ho⟩ := h
  exact ⟨vk, vh, vo, hv, h1.note hb cs, h2.note hb cs, h3.note hb cs, ho⟩
theorem NtV.rep {B : Nat} {u : Value} {x : Nt} {r q : Rp} {A1 A2 A3 A1' A2' A3' : Option Addr} {n1 n2 n3 c1 c2 c3 n1' n2' n3' c1' c2' c3' : Nat} (h : NtV W B u x) (hb : Blk W g (repRow r A1 A2 A3 n1 n2 n3 c1 c2 c3) t)
    (e1 : q.flt = r.flt) (e2 : q.epoch = r.epoch) (e3 : q.seq = r.seq) : NtV (W.setRow g (repRow q A1' A2' A3' n1' n2' n3' c1' c2' c3')) B u x := by
  obtain ⟨vk, vh, vo, hv, h1, h2, h3, ho⟩ := h
  exact ⟨vk, vh, vo, hv, h1.rep hb e1 e2 e3, h2.rep hb _, h3.rep hb e1 e2 e3, ho⟩
theorem NtV.note {B : Nat} {u : Value} {x n : Nt} {A1 A2 A3 : Option Addr} {n1 n2 n3 c1 c2 c3 : Nat} (h : NtV W B u x) (hb : Blk W g (noteRow n A1 A2 A3 n1 n2 n3 c1 c2 c3) t) (cs : Array Value) : NtV (W.setRow g cs) B u x := by
  obtain ⟨vk, vh, vo, hv, h1, h2, h3, ho⟩ := h
  exact ⟨vk, vh, vo, hv, h1.note hb cs, h2.note hb cs, h3.note hb cs, ho⟩
end
end Go.Proofs.YtfjaeohfigcciabGreatDoor

namespace Go.Proofs.YtfjaeohfigcciabGreatDoor
open Go.RowKit

/-- three lists' addresses and rooms -/
structure Ls where
  (a b c : Option Addr)
  (i j k : Nat)
def repR (r : Rp) (l : Ls) : Array Value := repRow r l.a l.b l.c r.know.length r.held.length r.ses.offer.length l.i l.j l.k
def noteR (n : Nt) (l : Ls) : Array Value := noteRow n l.a l.b l.c n.know.length n.ents.length n.offer.length l.i l.j l.k
theorem RpV.rows {W : World} {B : Nat} {v : Value} {r : Rp} (h : RpV W B v r) : ∃ l, v = .agg (repR r l) := by
  obtain ⟨a, b, c, rfl, ⟨A1, c1, rfl, _⟩, ⟨A2, c2, rfl, _⟩, ⟨A3, c3, rfl, _⟩, _⟩ := h
  exact ⟨⟨A1, A2, A3, c1, c2, c3⟩, rfl⟩
theorem NtV.rows {W : World} {B : Nat} {v : Value} {n : Nt} (h : NtV W B v n) : ∃ l, v = .agg (noteR n l) := by
  obtain ⟨a, b, c, rfl, ⟨A1, c1, rfl, _⟩, ⟨A2, c2, rfl, _⟩, ⟨A3, c3, rfl, _⟩, _⟩ := h
  exact ⟨⟨A1, A2, A3, c1, c2, c3⟩, rfl⟩
/-- a replica in a block of its own -/
structure RpIn (W : World) (g : Nat) (x : Rp) (l : Ls) : Prop where
  blk : Blk W g (repR x l) 28
  val : RpV W W.heap.size (.agg (repR x l)) x
structure NtIn (W : World) (g : Nat) (y : Nt) (l : Ls) : Prop where
  blk : Blk W g (noteR y l) 30
  val : NtV W W.heap.size (.agg (noteR y l)) y
theorem RpIn.keep {W W' : World} {g : Nat} {x : Rp} {l : Ls} (h : RpIn W g x l) (hb : Below W.heap.size W W') : RpIn W' g x l := ⟨h.blk.keep hb, h.val.later hb⟩
theorem NtIn.keep {W W' : World} {g : Nat} {y : Nt} {l : Ls} (h : NtIn W g y l) (hb : Below W.heap.size W W') : NtIn W' g y l := ⟨h.blk.keep hb, h.val.later hb⟩
theorem RpIn.new {W W' : World} {g : Nat} {x : Rp} {l : Ls} (hb : Blk W' g (repR x l) 28) (hv : RpV W W.heap.size (.agg (repR x l)) x) (h : Below W.heap.size W W') : RpIn W' g x l := ⟨hb, hv.later h⟩
theorem NtIn.new {W W' : World} {g : Nat} {x : Nt} {l : Ls} (hb : Blk W' g (noteR x l) 30) (hv : NtV W W.heap.size (.agg (noteR x l)) x) (h : Below W.heap.size W W') : NtIn W' g x l := ⟨hb, hv.later h⟩
/-- a slice of entries of the call's own has grown -/
theorem blk_grown {W W' : World} {base g : Nat} {tv : Value} {zs : List En} {cs : Array Value} {t : TypeId} (h : Blk W g cs t) (ht : t ≠ 62) (ho : EOwn W base tv zs) (hg : W.grownBy W' tv.ownBlock) : Blk W' g cs t := by
  refine ⟨(hg.block g h.lt fun e => ?_).trans h.at_⟩
  rcases ho.2 with ⟨hv, _⟩ | ⟨k, cap, cur, hv, _, hk, _⟩
  · rw [hv] at e; simp [Value.ownBlock] at e
  · rw [hv] at e
    simp [Value.ownBlock] at e
    subst e
    have := h.at_.symm.trans hk
    simp at this
    exact ht this.2
end Go.Proofs.YtfjaeohfigcciabGreatDoor

namespace Go.Proofs.YtfjaeohfigcciabGreatDoor
open Go.RowKit

/-- why a note isn't answered -/
def refuseR (r : Rp) (p : Nt) : Option Int := if rpB r = false then some 9 else if noteB p = false then some 3 else if p.kind ≠ 1 ∨ p.dst ≠ r.rep then some 4 else none
def refV : Option Int → Value
  | none => .nilIface
  | some c => .iface 74 (.int .i64 c)
theorem due_refuse (r : Rp) (p : Nt) : dueR r p = match refuseR r p with | some c => .error c | none => .ok (dueL r.held p.know p.cur) := by
  unfold dueR refuseR
  split
  · rfl
  · split
    · rfl
    · split <;> rfl
theorem refuse_none {r : Rp} {p : Nt} (h : refuseR r p = none) : rpB r = true ∧ noteB p = true ∧ p.kind = 1 ∧ p.dst = r.rep := by
  unfold refuseR at h
  split at h
  · cases h
  · split at h
    · cases h
    · split at h
      · cases h
      · rename_i a b c
        exact ⟨by simpa using a, by simpa using b, by omega, by omega⟩

set_option maxHeartbeats 8000000 in
set_option maxRecDepth 100000 in
theorem srefusal_any (v u : Value) (r : Rp) (p : Nt) (w : World) (hv : RpV w w.heap.size v r) (hu : NtV w w.heap.size u p) (h1 : r.know.length ≤ 1000) (h2 : r.held.length ≤ 1000) (h3 : r.ses.offer.length ≤ 1000) :
    Calls Tryz.prog 60 #[v, u] w fun e w' => e = .returned (refV (refuseR r p)) ∧ Below w.heap.size w w' := by
  have HR := Lib.hid (fun w1 (hb : Below w.heap.size w w1) => pRight_any v r w1 (hv.later hb) h1 h2 h3)
  have HN := Lib.hid (fun w1 (hb : Below w.heap.size w w1) => nRight_any u p w1 (hu.later hb))
  have HP := Lib.hid (show refuseR r p = if rpB r = false then some 9 else if noteB p = false then some 3 else if p.kind ≠ 1 ∨ p.dst ≠ r.rep then some 4 else none from rfl)
  obtain ⟨lr, rfl⟩ := hv.rows
  obtain ⟨ln, rfl⟩ := hu.rows
  clear hv hu h1 h2 h3
  unfold repR repRow Rp.cells at HR ⊢
  unfold noteR noteRow Nt.cells at HN ⊢
  generalize refuseR r p = D at HP ⊢
  generalize rpB r = q1 at HR HP
  generalize noteB p = q2 at HN HP
  go_enter Tryz.func60, Tryz.ntmps60
  go_wp2_with fail
  have HB := Lib.hid (al2 w (.cells #[.int .u8 r.rep, .int .u8 r.flt, .int .u32 r.epoch, .int .u32 r.seq, .slice lr.a r.know.length lr.i, .slice lr.b r.held.length lr.j, .bool r.ses.on, .int .u32 r.ses.num, .int .u8 r.ses.src, .int .u8 r.ses.cur, .int .u32 r.ses.epoch, .slice lr.c r.ses.offer.length lr.k, .int .u32 r.ses.last] 28) (.cells #[.int .i64 p.kind, .int .u8 p.src, .int .u8 p.dst, .int .u32 p.num, .int .u8 p.cur, .int .u8 p.flt, .slice ln.a p.know.length ln.i, .int .u32 p.epoch, .slice ln.b p.ents.length ln.j, .int .u8 p.next, .bool p.done, .slice ln.c p.offer.length ln.k] 30))
  have BR := Lib.hid ((Blk.new w #[.int .u8 r.rep, .int .u8 r.flt, .int .u32 r.epoch, .int .u32 r.seq, .slice lr.a r.know.length lr.i, .slice lr.b r.held.length lr.j, .bool r.ses.on, .int .u32 r.ses.num, .int .u8 r.ses.src, .int .u8 r.ses.cur, .int .u32 r.ses.epoch, .slice lr.c r.ses.offer.length lr.k, .int .u32 r.ses.last] 28).alloc (.cells #[.int .i64 p.kind, .int .u8 p.src, .int .u8 p.dst, .int .u32 p.num, .int .u8 p.cur, .int .u8 p.flt, .slice ln.a p.know.length ln.i, .int .u32 p.epoch, .slice ln.b p.ents.length ln.j, .int .u8 p.next, .bool p.done, .slice ln.c p.offer.length ln.k] 30))
  have BP := Lib.hid (blk_two w (.cells #[.int .u8 r.rep, .int .u8 r.flt, .int .u32 r.epoch, .int .u32 r.seq, .slice lr.a r.know.length lr.i, .slice lr.b r.held.length lr.j, .bool r.ses.on, .int .u32 r.ses.num, .int .u8 r.ses.src, .int .u8 r.ses.cur, .int .u32 r.ses.epoch, .slice lr.c r.ses.offer.length lr.k, .int .u32 r.ses.last] 28) #[.int .i64 p.kind, .int .u8 p.src, .int .u8 p.dst, .int .u32 p.num, .int .u8 p.cur, .int .u8 p.flt, .slice ln.a p.know.length ln.i, .int .u32 p.epoch, .slice ln.b p.ents.length ln.j, .int .u8 p.next, .bool p.done, .slice ln.c p.offer.length ln.k] 30)
  generalize (w.alloc (.cells #[.int .u8 r.rep, .int .u8 r.flt, .int .u32 r.epoch, .int .u32 r.seq, .slice lr.a r.know.length lr.i, .slice lr.b r.held.length lr.j, .bool r.ses.on, .int .u32 r.ses.num, .int .u8 r.ses.src, .int .u8 r.ses.cur, .int .u32 r.ses.epoch, .slice lr.c r.ses.offer.length lr.k, .int .u32 r.ses.last] 28)).alloc (.cells #[.int .i64 p.kind, .int .u8 p.src, .int .u8 p.dst, .int .u32 p.num, .int .u8 p.cur, .int .u8 p.flt, .slice ln.a p.know.length ln.i, .int .u32 p.epoch, .slice ln.b p.ents.length ln.j, .int .u8 p.next, .bool p.done, .slice ln.c p.offer.length ln.k] 30) = wz at HB BR BP ⊢
  have c0 := BR.out.cell 0 (.int .u8 r.rep) rfl
  have c1 := BR.out.cell 1 (.int .u8 r.flt) rfl
  have c2 := BR.out.cell 2 (.int .u32 r.epoch) rfl
  have c3 := BR.out.cell 3 (.int .u32 r.seq) rfl
  have c4 := BR.out.cell 4 (.slice lr.a r.know.length lr.i) rfl
  have c5 := BR.out.cell 5 (.slice lr.b r.held.length lr.j) rfl
  have c6 := BR.out.cell 6 (.bool r.ses.on) rfl
  have c7 := BR.out.cell 7 (.int .u32 r.ses.num) rfl
  have c8 := BR.out.cell 8 (.int .u8 r.ses.src) rfl
  have c9 := BR.out.cell 9 (.int .u8 r.ses.cur) rfl
  have c10 := BR.out.cell 10 (.int .u32 r.ses.epoch) rfl
  have c11 := BR.out.cell 11 (.slice lr.c r.ses.offer.length lr.k) rfl
  have c12 := BR.out.cell 12 (.int .u32 r.ses.last) rfl
  go_wp2_with fail
  refine (HR.out wz HB.out).mono ?_
  rintro e w1 ⟨rfl, hb⟩
  clear c0 c1 c2 c3 c4 c5 c6 c7 c8 c9 c10 c11 c12
  have BR := Lib.hid (BR.out.keep hb)
  have BP := Lib.hid (BP.out.keep hb)
  have HB := Lib.hid (HB.out.trans (hb.mono HB.out.size)); clear hb
  cases q1
  · skip
    go_wp2_with fail
    go_ret
    exact ⟨by rw [HP.out]; rfl, HB.out⟩
  have d0 := BP.out.cell 0 (.int .i64 p.kind) rfl
  have d1 := BP.out.cell 1 (.int .u8 p.src) rfl
  have d2 := BP.out.cell 2 (.int .u8 p.dst) rfl
  have d3 := BP.out.cell 3 (.int .u32 p.num) rfl
  have d4 := BP.out.cell 4 (.int .u8 p.cur) rfl
  have d5 := BP.out.cell 5 (.int .u8 p.flt) rfl
  have d6 := BP.out.cell 6 (.slice ln.a p.know.length ln.i) rfl
  have d7 := BP.out.cell 7 (.int .u32 p.epoch) rfl
  have d8 := BP.out.cell 8 (.slice ln.b p.ents.length ln.j) rfl
  have d9 := BP.out.cell 9 (.int .u8 p.next) rfl
  have d10 := BP.out.cell 10 (.bool p.done) rfl
  have d11 := BP.out.cell 11 (.slice ln.c p.offer.length ln.k) rfl
  go_wp2_with fail
  refine (HN.out w1 HB.out).mono ?_
  rintro e w2 ⟨rfl, hb⟩
  clear d0 d1 d2 d3 d4 d5 d6 d7 d8 d9 d10 d11
  have BR := Lib.hid (BR.out.keep hb)
  have BP := Lib.hid (BP.out.keep hb)
  have HB := Lib.hid (HB.out.trans (hb.mono HB.out.size)); clear hb
  cases q2
  · skip
    go_wp2_with fail
    go_ret
    exact ⟨by rw [HP.out]; rfl, HB.out⟩
  have d0 := BP.out.cell 0 (.int .i64 p.kind) rfl
  have d2 := BP.out.cell 2 (.int .u8 p.dst) rfl
  have c0 := BR.out.cell 0 (.int .u8 r.rep) rfl
  obtain ⟨k0, hk0⟩ : ∃ q : Bool, (p.kind != 1) = q := ⟨_, rfl⟩
  cases k0
  · skip
    obtain ⟨k2, hk2⟩ : ∃ q : Bool, (p.dst != r.rep) = q := ⟨_, rfl⟩
    cases k2
    · skip
      go_wp2_with fail
      go_ret
      exact ⟨by rw [HP.out, if_neg (by simp), if_neg (by simp), if_neg (by simp at hk0 hk2; omega)]; rfl, HB.out⟩
    · skip
      go_wp2_with fail
      go_ret
      exact ⟨by rw [HP.out, if_neg (by simp), if_neg (by simp), if_pos (by simp at hk2; omega)]; rfl, HB.out⟩
  · skip
    go_wp2_with fail
    go_ret
    exact ⟨by rw [HP.out, if_neg (by simp), if_neg (by simp), if_pos (by simp at hk0; omega)]; rfl, HB.out⟩

set_option maxHeartbeats 8000000 in
set_option maxRecDepth 100000 in
theorem rClone_any (v : Value) (zs : List Rn) (w : World) (h : Sl w w.heap.size v zs) (hl : zs.length ≤ 10000) : Calls Tryz.prog 70 #[v] w fun e w' => ∃ v', e = .returned v' ∧ Own w' w.heap.size v' zs ∧ Below w.heap.size w w' := by
  have q22 : ∀ (w : World) (a : Option Addr) (n c n' c' : Nat), (binOp .eql 23 (.slice a n c) (.slice none n' c')).run Tryz.prog w = .ok (.bool a.isNone) w := fun w a n c n' c' => Lib.run_eql_slice_nil w _ _ a n c n' c' Tryz.underlying23
  have HS := Lib.hid h
  obtain ⟨A, c, rfl, hn, hok, hA⟩ := h
  rcases A with _ | ad
  · have hy : zs = [] := by
      by_cases hne : zs = []
      · exact hne
      · obtain ⟨b, off, h, _⟩ := hA hne
        cases h
    subst hy
    obtain rfl := hn rfl
    clear hn hok hA
    go_enter Tryz.func70, Tryz.ntmps70
    go_wp2
    go_ret
    exact ⟨_, rfl, Own.nil _ _, Below.refl _ _⟩
  · clear hA hn hok
    have hown : Own (w.alloc (.cells #[] 67)) w.heap.size (.slice (some ⟨w.heap.size, 0, none⟩) 0 0) [] := World.ownsRow_made w #[] 0 (Nat.le_refl _) (Nat.zero_le _) (by simp)
    have HO := Lib.hid hown; clear hown
    have HAL := Lib.hid (al1 w (.cells #[] 67))
    go_enter Tryz.func70, Tryz.ntmps70
    go_wp2_with (at_builtin; (refine append_runs rfl _ _ rfl w.heap.size _ [] rfl HO.out _ _ zs rfl (HS.out.below HAL.out) (by simp; omega) (by simp) ?_); intro v1 w1 ho1 hg1)
    rw [List.nil_append] at ho1
    have HO1 := Lib.hid ho1; clear ho1
    have HG1 := Lib.hid hg1; clear hg1
    go_wp2
    go_ret
    exact ⟨v1, rfl, HO1.out, HAL.out.grown HG1.out (by simp) (fun k hk => by have := HO.out.lt k hk; omega)⟩

end Go.Proofs.YtfjaeohfigcciabGreatDoor

