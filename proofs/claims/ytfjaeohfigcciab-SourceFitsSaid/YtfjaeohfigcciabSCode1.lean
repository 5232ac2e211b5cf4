/- The contracts of source's small functions: isDue, shown, next, refusal. -/
import Derived.Test.YtfjaeohfigcciabSFits
import Derived.Test.YtfjaeohfigcciabPCode4
import Derived.Test.YtfjaeohfigcciabIIn
import Derived.Test.YtfjaeohfigcciabIFade
import Derived.Test.YtfjaeohfigcciabZe
namespace Go.Proofs.Ytfjaeohfigcciab
open Go.RowKit

theorem ssizeEnt : (Try.prog.info? 43).map (·.size) = some 7 := by kernel_rfl
/-- an entry is due for a Pull -/
def dueB (p : Nt) (x : En) : Bool := decide (p.cur ≤ x.id) && !hasB p.know x.rep x.seq
theorem dueL_eq (held : List En) (p : Nt) : dueL held p.know p.cur = held.filter (dueB p) := rfl

set_option maxHeartbeats 4000000 in
set_option maxRecDepth 100000 in
theorem sisDue_any (x : En) (u : Value) (p : Nt) (w : World) (hu : NtV w w.heap.size u p) :
    Calls Try.prog 27 #[x.agg, u] w fun e w' => e = .returned (.bool (dueB p x)) ∧ Below w.heap.size w w' := by
  obtain ⟨vk, ve, vo, rfl, hk, he, ho, hok⟩ := hu
  have HK := Lib.hid (fun w1 (hb : Below w.heap.size w w1) => Has_any x.rep x.seq vk p.know w1 ((hk.below hb).more hb.size))
  have HD := Lib.hid (show dueB p x = (decide (p.cur ≤ x.id) && !hasB p.know x.rep x.seq) from rfl)
  obtain ⟨Ak, ck, rfl, _⟩ := hk
  obtain ⟨Ae, ce, rfl, _⟩ := he
  obtain ⟨Ao, co, rfl, _⟩ := ho
  clear hok
  obtain ⟨id, rep, seq, stamp, kind, cls, val⟩ := x
  generalize dueB p ⟨id, rep, seq, stamp, kind, cls, val⟩ = D at HD ⊢
  generalize hasB p.know (En.mk id rep seq stamp kind cls val).rep (En.mk id rep seq stamp kind cls val).seq = H at HD HK
  unfold Nt.cells
  simp only [En.agg] at *
  by_cases h : p.cur ≤ id
  · go_enter Try.func27, Try.ntmps27
    go_wp2_with fail
    refine (HK.out _ (al2 _ _ _)).mono ?_
    rintro e w1 ⟨rfl, hb⟩
    have HB := Lib.hid ((al2 w (.cells #[.int .u8 id, .int .u8 rep, .int .u32 seq, .int .u32 stamp, .int .i64 kind, .int .u8 cls, .int .u32 val] 43) (.cells #[.int .i64 p.kind, .int .u8 p.src, .int .u8 p.dst, .int .u32 p.num, .int .u8 p.cur, .int .u8 p.flt, .slice Ak p.know.length ck, .int .u32 p.epoch, .slice Ae p.ents.length ce, .int .u8 p.next, .bool p.done, .slice Ao p.offer.length co] 30)).trans (hb.mono (al2 _ _ _).size)); clear hb
    go_wp2_with fail
    go_ret
    exact ⟨by rw [HD.out, decide_eq_true h]; rfl, HB.out⟩
  · have h' : id < p.cur := by omega
    go_enter Try.func27, Try.ntmps27
    go_wp2_with fail
    go_ret
    exact ⟨by rw [HD.out, decide_eq_false (by omega)]; rfl, al2 _ _ _⟩

set_option maxHeartbeats 4000000 in
set_option maxRecDepth 100000 in
theorem sshown_any (x : En) (f : Int) (w : World) (hx : x.ok) (hf : 0 ≤ f ∧ f ≤ 255) :
    Calls Try.prog 22 #[x.agg, .int .u8 f] w fun e w' => e = .returned (fitE f x).agg ∧ Below w.heap.size w w' := by
  have IN := Lib.hid (fun w1 => iIn_any x f w1 hx hf)
  have FA := Lib.hid (fun w1 => iFade_any x w1)
  have HF := Lib.hid (show fitE f x = if inB x f = true then x else fadeE x from rfl)
  generalize fitE f x = F at HF ⊢
  generalize inB x f = q at HF IN
  generalize fadeE x = G at HF FA
  obtain ⟨id, rep, seq, stamp, kind, cls, val⟩ := x
  obtain ⟨jd, rep2, seq2, stamp2, kind2, cls2, val2⟩ := G
  simp only [En.agg] at *
  have HB0 := Lib.hid (al2 w (.cells #[.int .u8 id, .int .u8 rep, .int .u32 seq, .int .u32 stamp, .int .i64 kind, .int .u8 cls, .int .u32 val] 43) (.cells #[.int .u8 0, .int .u8 0, .int .u32 0, .int .u32 0, .int .i64 0, .int .u8 0, .int .u32 0] 43))
  have BA := Lib.hid ((Blk.new w #[.int .u8 id, .int .u8 rep, .int .u32 seq, .int .u32 stamp, .int .i64 kind, .int .u8 cls, .int .u32 val] 43).alloc (.cells #[.int .u8 0, .int .u8 0, .int .u32 0, .int .u32 0, .int .i64 0, .int .u8 0, .int .u32 0] 43))
  have BB := Lib.hid (blk_two w (.cells #[.int .u8 id, .int .u8 rep, .int .u32 seq, .int .u32 stamp, .int .i64 kind, .int .u8 cls, .int .u32 val] 43) #[.int .u8 0, .int .u8 0, .int .u32 0, .int .u32 0, .int .i64 0, .int .u8 0, .int .u32 0] 43)
  go_enter Try.func22, Try.ntmps22
  go_wp2_with fail
  generalize (w.alloc (.cells #[.int .u8 id, .int .u8 rep, .int .u32 seq, .int .u32 stamp, .int .i64 kind, .int .u8 cls, .int .u32 val] 43)).alloc (.cells #[.int .u8 0, .int .u8 0, .int .u32 0, .int .u32 0, .int .i64 0, .int .u8 0, .int .u32 0] 43) = wz at HB0 BA BB ⊢
  refine (IN.out _).mono ?_
  rintro e w1 ⟨rfl, hb⟩
  have BA := Lib.hid (BA.out.keep hb)
  have BB := Lib.hid (BB.out.keep hb)
  have HB := Lib.hid (HB0.out.trans (hb.mono HB0.out.size)); clear hb HB0
  have c0 := BA.out.cell 0 (.int .u8 id) rfl
  have c1 := BA.out.cell 1 (.int .u8 rep) rfl
  have c2 := BA.out.cell 2 (.int .u32 seq) rfl
  have c3 := BA.out.cell 3 (.int .u32 stamp) rfl
  have c4 := BA.out.cell 4 (.int .i64 kind) rfl
  have c5 := BA.out.cell 5 (.int .u8 cls) rfl
  have c6 := BA.out.cell 6 (.int .u32 val) rfl
  cases q
  · skip
    go_wp2_with fail
    refine (FA.out _).mono ?_
    rintro e w2 ⟨rfl, hb⟩
    have BB := Lib.hid (BB.out.keep hb)
    have HB := Lib.hid (HB.out.trans (hb.mono HB.out.size)); clear hb
    go_wp2_with (refine wpList_store_row rfl _ _ _ rfl (w.heap.size + 1) _ rfl rfl 43 _ BB.out.at_ ssizeEnt rfl (by simp [Value.oneCell']) ?_)
    refine bodyPost_ret (v := .agg #[.int .u8 jd, .int .u8 rep2, .int .u32 seq2, .int .u32 stamp2, .int .i64 kind2, .int .u8 cls2, .int .u32 val2]) (results_cell_row Try.results22 _ _ (w.heap.size + 1) 43 _ (0, 0) _ rfl (BB.out.row _).at_ Try.underlying43 rfl ssizeEnt) rfl ?_
    exact ⟨by rw [HF.out]; rfl, below_setRow HB.out (Nat.le_succ _) _⟩
  · skip
    go_wp2_with (refine wpList_store_row rfl _ _ _ rfl (w.heap.size + 1) _ rfl rfl 43 _ BB.out.at_ ssizeEnt rfl (by simp [Value.oneCell']) ?_)
    refine bodyPost_ret (v := .agg #[.int .u8 id, .int .u8 rep, .int .u32 seq, .int .u32 stamp, .int .i64 kind, .int .u8 cls, .int .u32 val]) (results_cell_row Try.results22 _ _ (w.heap.size + 1) 43 _ (0, 0) _ rfl (BB.out.row _).at_ Try.underlying43 rfl ssizeEnt) rfl ?_
    exact ⟨by rw [HF.out]; rfl, below_setRow HB.out (Nat.le_succ _) _⟩

set_option maxHeartbeats 4000000 in
set_option maxRecDepth 100000 in
theorem snext_any (u : Value) (n : Nt) (w : World) (hu : NtV w w.heap.size u n) (hl : n.ents.length ≤ 1000) (h63 : ∀ x ∈ n.ents, x.id ≤ 63) :
    Calls Try.prog 15 #[u] w fun e w' => e = .returned (.int .u8 (nextOf n.ents n.cur)) ∧ Below w.heap.size w w' := by
  obtain ⟨vk, ve, vo, rfl, hk, he, ho, hok⟩ := hu
  have HE := Lib.hid he
  obtain ⟨Ak, ck, rfl, _⟩ := hk
  obtain ⟨Ae, ce, rfl, hcap, hokE, hA⟩ := he
  obtain ⟨Ao, co, rfl, _⟩ := ho
  clear hok hcap
  unfold Nt.cells
  by_cases hz : n.ents = []
  · have hn : (n.ents.length : Int) = 0 := by rw [hz]; rfl
    have hv : nextOf n.ents n.cur = n.cur := by rw [hz]; rfl
    rw [hv]
    clear hA hokE hv h63 hl
    go_enter Try.func15, Try.ntmps15
    go_wp2_with fail
    go_ret
    exact ⟨rfl, al1 _ _⟩
  · obtain ⟨b, off, rfl, hbw, hc⟩ := hA hz
    have hpos : 0 < n.ents.length := List.length_pos_iff.2 hz
    obtain ⟨x, hx0⟩ : ∃ x, n.ents.getLast? = some x := by
      cases h : n.ents.getLast? with
      | none => simp at h; exact absurd h hz
      | some x => exact ⟨x, rfl⟩
    have hx : n.ents[n.ents.length - 1]? = some x := by rw [← List.getLast?_eq_getElem?]; exact hx0
    have hv : nextOf n.ents n.cur = x.id + 1 := by unfold nextOf; rw [hx0]
    have h1 := h63 _ (List.mem_of_getElem? hx)
    have h2 := (hokE _ (List.mem_of_getElem? hx)).1.1
    rw [hv]
    have XE := Lib.hid ((hc _ _ hx).keep (al1 w (.cells #[.int .i64 n.kind, .int .u8 n.src, .int .u8 n.dst, .int .u32 n.num, .int .u8 n.cur, .int .u8 n.flt, .slice Ak n.know.length ck, .int .u32 n.epoch, .slice (some ⟨b, off, none⟩) n.ents.length ce, .int .u8 n.next, .bool n.done, .slice Ao n.offer.length co] 30)) hbw)
    have hnz : ((n.ents.length : Int) == 0) = false := by simp [hz]
    obtain ⟨k, hkk⟩ : ∃ k : Nat, n.ents.length = k + 1 := ⟨n.ents.length - 1, by omega⟩
    rw [hkk] at XE hnz hl ⊢
    rw [show k + 1 - 1 = k by omega] at XE
    obtain ⟨x0, _⟩ := XE.out.all
    clear hA hokE hv h63 hc hx hx0 hpos hkk
    go_enter Try.func15, Try.ntmps15
    go_wp2_with fail
    go_ret
    exact ⟨by simp, al1 _ _⟩
end Go.Proofs.Ytfjaeohfigcciab

