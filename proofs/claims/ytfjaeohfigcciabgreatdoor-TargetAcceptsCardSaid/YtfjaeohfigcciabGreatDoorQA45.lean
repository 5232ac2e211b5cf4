/- Texts in one: TFCell, PRefE0. -/
import Derived.Test.YtfjaeohfigcciabGreatDoorQA17
import Derived.Test.YtfjaeohfigcciabGreatDoorQA40
import Derived.Test.YtfjaeohfigcciabGreatDoorQA43
import Derived.Test.YtfjaeohfigcciabGreatDoorQA44
import Derived.Test.YtfjaeohfigcciabGreatDoorQA00
import Derived.Test.YtfjaeohfigcciabGreatDoorQA21
set_option linter.all false
namespace Go.Proofs.YtfjaeohfigcciabGreatDoor
open Go.RowKit

section
variable {W : World} {g B j : Nat} {v u : Value} {t : TypeId} {r : Rp} {A1 A2 A3 : Option Addr} {n1 n2 n3 c1 c2 c3 : Nat}
theorem Sl.cell_ {zs : List Rn} (h : Sl W B v zs) (hb : Blk W g (repRow r A1 A2 A3 n1 n2 n3 c1 c2 c3) t) (hj : 4 ≤ j) : Sl (W.setCell ⟨g,j,none⟩ u) B v zs := by
  obtain ⟨A,c,hv,hn,hok,hA⟩ := h
  refine ⟨A,c,hv,hn,hok,fun hz => ?_⟩
  obtain ⟨b,off,hA1,hB,hc⟩ := hA hz
  refine ⟨b,off,hA1,hB,fun k x hx => ?_⟩
  obtain ⟨h0,h1,h2⟩ := hc k x hx
  have key : ∀ i,(b = g → i ≤ 3) → (W.setCell ⟨g,j,none⟩ u).cell? ⟨b,i,none⟩ = W.cell? ⟨b,i,none⟩ := fun i hi => World.cell?_setCell_other _ _ _ _ (by
    intro hc
    have e1 : g = b := congrArg Addr.block hc
    have e2 : j = i := congrArg Addr.off hc
    have := hi e1.symm
    omega)
  have ho : b = g → off + k * 3 = 1 := fun hbg => by
    subst hbg
    rw [cell_in hb] at h0 h1 h2
    exact run_in_rep h0 h1 h2
  exact ⟨(key _ fun e => by have := ho e; omega).trans h0,(key _ fun e => by have := ho e; omega).trans h1,(key _ fun e => by have := ho e; omega).trans h2⟩
theorem ESl.cell_ {zs : List En} (h : ESl W B v zs) (hb : Blk W g (repRow r A1 A2 A3 n1 n2 n3 c1 c2 c3) t) : ESl (W.setCell ⟨g,j,none⟩ u) B v zs :=
  h.set (fun b o x _ he hbg => by
    subst hbg
    have h4 := he 4 (.int .i64 x.kind) rfl
    rw [cell_in hb] at h4
    exact ent_in_rep h4)
end
end Go.Proofs.YtfjaeohfigcciabGreatDoor

namespace Go.Proofs.YtfjaeohfigcciabGreatDoor
open Go.RowKit

def withP (r : Rp) (k : List Rn) (h : List En) : Rp := ⟨r.rep,r.flt,r.epoch,r.seq,k,h,r.ses⟩
theorem fit_keep {f : Int} {x : En} (h : x.kind ≠ 1 ∨ inB x f = true) : fitE f x = x := by
  unfold fitE
  split
  · rfl
  · rename_i hi
    rcases h with h | h
    · unfold fadeE; rw [if_neg h]
    · exact absurd h hi
theorem fit_fade {f : Int} {x : En} (h : inB x f = false) : fitE f x = fadeE x := by unfold fitE; rw [if_neg (by rw [h]; decide)]
section
variable {f : Int} {l : List En} {k : Nat} {k0 ks : List Rn} {h0 hs : List En} {x : En}
theorem takes_next (h : takesR f (l.take k) k0 h0 = .ok (ks,hs)) (hx : l[k]? = some x) : takesR f (l.take (k + 1)) k0 h0 = takesR f [x] ks hs := by
  rw [List.take_add_one,hx,Option.toList_some,takes_snoc,h]
theorem takes_skip (h : takesR f (l.take k) k0 h0 = .ok (ks,hs)) (hx : l[k]? = some x) (hw : x.kind = 2 ∧ inB x f = true) : takesR f (l.take (k + 1)) k0 h0 = .ok (ks,takeS hs (fitE f x)) := by
  rw [takes_next h hx]
  simp only [takesR]
  rw [if_pos hw]
theorem takes_add (h : takesR f (l.take k) k0 h0 = .ok (ks,hs)) (hx : l[k]? = some x) (hw : ¬ (x.kind = 2 ∧ inB x f = true)) {k' : List Rn} (ha : addR ks x.rep x.seq = .ok k') : takesR f (l.take (k + 1)) k0 h0 = .ok (k',takeS hs (fitE f x)) := by
  rw [takes_next h hx]
  simp only [takesR]
  rw [if_neg hw,ha]
theorem takes_fail (h : takesR f (l.take k) k0 h0 = .ok (ks,hs)) (hx : l[k]? = some x) (hw : ¬ (x.kind = 2 ∧ inB x f = true)) {c : Int} (ha : addR ks x.rep x.seq = .error c) : takesR f l k0 h0 = .error c := by
  have e : takesR f (l.take (k + 1)) k0 h0 = .error c := by
    rw [takes_next h hx]
    simp only [takesR]
    rw [if_neg hw,ha]
  have := takes_bad f (l.drop (k + 1)) (l.take (k + 1)) k0 h0 c e
  rwa [List.take_append_drop] at this
end
theorem entSz : (Tryz.prog.info? 62).map (·.size) = some 7 := by kernel_rfl
theorem RpV.knowSl {w : World} {B : Nat} {r : Rp} {lr : Ls} (h : RpV w B (.agg (repR r lr)) r) : Sl w B (.slice lr.a r.know.length lr.i) r.know := by
  obtain ⟨a,b,c,he,h1,_,_,_⟩ := h
  obtain ⟨rfl,_,_⟩ := rep_cells_inj he
  exact h1
theorem RpV.held_ {w : World} {B : Nat} {r : Rp} {lr : Ls} (h : RpV w B (.agg (repR r lr)) r) : ESl w B (.slice lr.b r.held.length lr.j) r.held := by
  obtain ⟨a,b,c,he,_,h1,_,_⟩ := h
  obtain ⟨_,rfl,_⟩ := rep_cells_inj he
  exact h1
theorem NtV.entsOk {w : World} {B : Nat} {v : Value} {n : Nt} (h : NtV w B v n) : ∀ x ∈ n.ents,x.ok := by
  obtain ⟨_,_,_,_,_,_,_,h⟩ := h
  exact h.2.2.2.2.2.2.2.2.1
theorem RpV.fltOk {w : World} {B : Nat} {v : Value} {r : Rp} (h : RpV w B v r) : 0 ≤ r.flt ∧ r.flt ≤ 255 := by
  obtain ⟨_,_,_,_,_,_,_,h⟩ := h
  exact h.2.1
theorem err_pos {k l : List Rn} {c : Int} (h : unionR k l = .error c) : 0 < c := by
  unfold unionR at h
  split at h
  · unfold lim at h
    split at h
    · cases h
    · injection h with h; omega
  · injection h with h; omega
theorem err_pos_add {k : List Rn} {p n c : Int} (h : addR k p n = .error c) : 0 < c := err_pos h
structure TkAt (w3 wl : World) (g : Nat) (r : Rp) (n : Nt) (lr : Ls) (k : Nat) (ks : List Rn) (hs : List En) (A1 A2 : Option Addr) (c1 c2 : Nat) : Prop where
  eq : takesR r.flt (n.ents.take k) r.know r.held = .ok (ks,hs)
  box : Blk wl g #[.int .u8 r.rep,.int .u8 r.flt,.int .u32 r.epoch,.int .u32 r.seq,.slice A1 ks.length c1,.slice A2 hs.length c2,.bool true,.int .u32 r.ses.num,.int .u8 r.ses.src,.int .u8 r.ses.cur,.int .u32 r.ses.epoch,.slice lr.c r.ses.offer.length lr.k,.int .u32 r.ses.last] 28
  kn : Sl wl wl.heap.size (.slice A1 ks.length c1) ks
  hd : ESl wl wl.heap.size (.slice A2 hs.length c2) hs
  bel : Below w3.heap.size w3 wl
  far : w3.heap.size ≤ g
  right : rightB ks = true
  rise : Rise hs
  len : hs.length ≤ r.held.length + k
theorem arow {W : World} {g : Nat} {t : TypeId} {a0 a1 a2 a3 a7 a8 a9 a10 a12 : Int} {b : Bool} {A1 A2 A3 : Option Addr} {n1 n2 n3 c1 c2 c3 : Nat}
    (h : Blk W g #[.int .u8 a0,.int .u8 a1,.int .u32 a2,.int .u32 a3,.slice A1 n1 c1,.slice A2 n2 c2,.bool b,.int .u32 a7,.int .u8 a8,.int .u8 a9,.int .u32 a10,.slice A3 n3 c3,.int .u32 a12] t) :
    Blk W g (repRow ⟨a0,a1,a2,a3,[],[],⟨b,a7,a8,a9,a10,[],a12⟩⟩ A1 A2 A3 n1 n2 n3 c1 c2 c3) t := h
theorem Sl.zrep {W : World} {B g : Nat} {v : Value} {t : TypeId} {zs : List Rn} (h : Sl W B v zs) (hr : rightB zs = true) (hb : Blk W g #[.int .u8 0,.int .u8 0,.int .u32 0,.int .u32 0,.slice none 0 0,.slice none 0 0,.bool false,.int .u32 0,.int .u8 0,.int .u8 0,.int .u32 0,.slice none 0 0,.int .u32 0] t) (cs : Array Value) : Sl (W.setRow g cs) B v zs := by
  obtain ⟨A,c,hv,hn,hok,hA⟩ := h
  refine ⟨A,c,hv,hn,hok,fun hz => ?_⟩
  obtain ⟨b,off,hA1,hB,hc⟩ := hA hz
  refine ⟨b,off,hA1,hB,fun k x hx => ?_⟩
  obtain ⟨h0,h1,h2⟩ := hc k x hx
  have hne : b ≠ g := by
    rintro rfl
    have hb' : Blk W b (repRow zeroP none none none 0 0 0 0 0 0) t := hb
    rw [cell_in hb'] at h0 h1 h2
    have ho := run_in_rep h0 h1 h2
    rw [ho] at h1
    have h3 : (0 : Int) = x.lo := by simpa [repRow,Rp.cells,zeroP] using h1
    have h4 := (rr_iff x).1 (((right_iff zs).1 hr).2.1 x (List.mem_of_getElem? hx))
    omega
  exact ⟨(cell_other cs hne).trans h0,(cell_other cs hne).trans h1,(cell_other cs hne).trans h2⟩
theorem zrowP {W : World} {g : Nat} {t : TypeId} (h : Blk W g #[.int .u8 0,.int .u8 0,.int .u32 0,.int .u32 0,.slice none 0 0,.slice none 0 0,.bool false,.int .u32 0,.int .u8 0,.int .u8 0,.int .u32 0,.slice none 0 0,.int .u32 0] t) : Blk W g (repRow zeroP none none none 0 0 0 0 0 0) t := h
theorem zrowN {W : World} {g : Nat} {t : TypeId} (h : Blk W g #[.int .i64 0,.int .u8 0,.int .u8 0,.int .u32 0,.int .u8 0,.int .u8 0,.slice none 0 0,.int .u32 0,.slice none 0 0,.int .u8 0,.bool false,.slice none 0 0] t) : Blk W g (noteRow zeroN none none none 0 0 0 0 0 0) t := h
theorem RpV.offSl {w : World} {B : Nat} {r : Rp} {lr : Ls} (h : RpV w B (.agg (repR r lr)) r) : Sl w B (.slice lr.c r.ses.offer.length lr.k) r.ses.offer := by
  obtain ⟨a,b,c,he,_,_,h1,_⟩ := h
  obtain ⟨_,_,rfl⟩ := rep_cells_inj he
  exact h1
theorem Sl.okAll_ {W : World} {B : Nat} {v : Value} {zs : List Rn} (h : Sl W B v zs) : ∀ x ∈ zs,x.ok := by
  obtain ⟨_,_,_,_,h,_⟩ := h
  exact h
theorem ESl.okAll_ {W : World} {B : Nat} {v : Value} {zs : List En} (h : ESl W B v zs) : ∀ x ∈ zs,x.ok := by
  obtain ⟨_,_,_,_,h,_⟩ := h
  exact h
def sndN : Nat → Code → Code
  | 0,c => c
  | n + 1,.seq _ b => sndN n b
  | _,c => c
theorem snd9 {f : Func} {a0 a1 a2 a3 a4 a5 a6 a7 a8 c : Code} (h : f.body = some (.seq a0 (.seq a1 (.seq a2 (.seq a3 (.seq a4 (.seq a5 (.seq a6 (.seq a7 (.seq a8 c)))))))))) : sndN 9 (f.body.getD .skip) = c := by rw [h]; rfl
noncomputable def takeRest : Code := sndN 9 (Tryz.f10.body.getD .skip)
theorem NtV.entsSl {w : World} {B : Nat} {n : Nt} {ln : Ls} (h : NtV w B (.agg (noteR n ln)) n) : ESl w B (.slice ln.b n.ents.length ln.j) n.ents := by
  obtain ⟨a,b,c,he,_,h1,_,_⟩ := h
  obtain ⟨_,rfl,_⟩ := note_cells_inj he
  exact h1
theorem NtV.offSl {w : World} {B : Nat} {n : Nt} {ln : Ls} (h : NtV w B (.agg (noteR n ln)) n) : Sl w B (.slice ln.c n.offer.length ln.k) n.offer := by
  obtain ⟨a,b,c,he,_,_,h1,_⟩ := h
  obtain ⟨_,_,rfl⟩ := note_cells_inj he
  exact h1
theorem RpV.rok_ {w : World} {B : Nat} {v : Value} {r : Rp} (h : RpV w B v r) : r.ok := by
  obtain ⟨_,_,_,_,_,_,_,h⟩ := h
  exact h
theorem NtV.nok_ {w : World} {B : Nat} {v : Value} {n : Nt} (h : NtV w B v n) : n.ok := by
  obtain ⟨_,_,_,_,_,_,_,h⟩ := h
  exact h
theorem more_ok {r : Rp} (h : r.ok) {ks : List Rn} {hs : List En} {o : List Rn} {e c : Int} (hh : ∀ x ∈ hs,x.ok) (hk : ∀ x ∈ ks,x.ok) (ho : ∀ x ∈ o,x.ok) (he : 0 ≤ e ∧ e ≤ 4294967295) (hc : 0 ≤ c ∧ c ≤ 255) :
    (⟨r.rep,r.flt,r.epoch,r.seq,ks,hs,⟨true,r.ses.num,r.ses.src,c,e,o,r.ses.last⟩⟩ : Rp).ok := by
  obtain ⟨h1,h2,h3,h4,_,_,g1,g2,_,_,_,g6⟩ := h
  exact ⟨h1,h2,h3,h4,hk,hh,g1,g2,hc,he,ho,g6⟩
theorem Sl.later {w w' : World} {v : Value} {zs : List Rn} (h : Sl w w.heap.size v zs) (hb : Below w.heap.size w w') : Sl w' w'.heap.size v zs := (h.below hb).more hb.size
theorem outP_ok {r : Rp} (h : r.ok) {l : List Rn} {hs : List En} (hl : ∀ x ∈ l,x.ok) (hh : ∀ x ∈ hs,x.ok) : (offP (withP r l hs)).ok := off_ok (by
  obtain ⟨h1,h2,h3,h4,_,_,h7⟩ := h
  exact ⟨h1,h2,h3,h4,hl,hh,h7⟩)
end Go.Proofs.YtfjaeohfigcciabGreatDoor

