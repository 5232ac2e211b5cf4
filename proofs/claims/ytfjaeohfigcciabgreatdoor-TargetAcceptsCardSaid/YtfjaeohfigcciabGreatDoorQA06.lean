/- Texts in one: Open, IOpen, NOpen, PMem, EApp2, TC1, NMath, WMem, WOpenR, NRead. -/
import Derived.Test.YtfjaeohfigcciabGreatDoorRows
import Derived.WalkKit
import Derived.ProofKit
import Derived.OpenShut
import Derived.ChangeOld
import Derived.Deep.Slices
import Derived.Deep.Fields
import Derived.Deep.DeepAppendRoom
import Derived.Stop.Asserts
import Derived.Defers
import Derived.Recover
import Derived.WalkSpells
import Derived.WalkLawsBesides
import Derived.Below
import Derived.Laws.OwnMore
import Derived.Laws.AppendOwnNone
import Derived.Deep.Draws
import Derived.Sort.Grow
import Derived.Lib.Hide
import Derived.Deep.QuietTactic
import Derived.BigQuiet
import Derived.Outline
import Derived.Laws.IdiomStrings
import Derived.Lib.EndianBits
import Derived.Test.YtfjaeohfigcciabGreatDoorQA00
import Derived.Test.YtfjaeohfigcciabGreatDoorQA01
import Derived.Test.YtfjaeohfigcciabGreatDoorQA05
import Derived.Test.YtfjaeohfigcciabGreatDoorQA02
set_option linter.all false
namespace Go.Proofs.YtfjaeohfigcciabGreatDoor
open Go.ChangeShapes Go.WideShapes Go.RowKit Go.Deep

theorem cellsRun : Tryz.prog.cellsOf 67 = 3 := by kernel_rfl
theorem cells8 : Tryz.prog.cellsOf 5 = 1 := by kernel_rfl
theorem cells32 : Tryz.prog.cellsOf 22 = 1 := by kernel_rfl

theorem u8_bounds {n : Int} (h : (Lit.int .u8 n).wf = true) : 0 ≤ n ∧ n ≤ 255 := by
  have h1 : IntKind.u8.min = 0 := rfl
  have h2 : IntKind.u8.max = 255 := rfl
  simp [Lit.wf,h1,h2] at h
  omega
theorem u32_bounds {n : Int} (h : (Lit.int .u32 n).wf = true) : 0 ≤ n ∧ n ≤ 4294967295 := by
  have h1 : IntKind.u32.min = 0 := rfl
  have h2 : IntKind.u32.max = 4294967295 := rfl
  simp [Lit.wf,h1,h2] at h
  omega

theorem choose_runs {P : Nat → Rn → Prop} : ∀ n : Nat,(∀ i,i < n → ∃ x,P i x) → ∃ l : List Rn,l.length = n ∧ ∀ i x,l[i]? = some x → P i x
  | 0,_ => ⟨[],rfl,fun i x h => by simp at h⟩
  | n + 1,h => by
    obtain ⟨l,hl,hp⟩ := choose_runs n fun i hi => h i (by omega)
    obtain ⟨x,hx⟩ := h n (by omega)
    refine ⟨l ++ [x],by simp [hl],fun i y hy => ?_⟩
    rcases Nat.lt_or_ge i n with hi | hi
    · exact hp i y (by rwa [List.getElem?_append_left (by omega)] at hy)
    · rw [List.getElem?_append_right (by omega)] at hy
      have : i - l.length = 0 := by
        rcases Nat.eq_zero_or_pos (i - l.length) with h0 | h0
        · exact h0
        · rw [List.getElem?_eq_none (by simp; omega)] at hy; cases hy
      rw [this] at hy
      simp at hy
      subst hy
      obtain rfl : i = n := by omega
      exact hx

set_option maxRecDepth 100000 in
theorem open_runs {H : Type} {enc : TypeId × Value → H} {W : World} {spare : Nat → Bool} {held : Bool} {fuel : Nat} {a : Option Addr} {len cap : Nat} {x : DataW H × List MemPlace}
    (h : DataW.trod enc Tryz.prog W 0 spare held fuel 23 [.slice a len cap] = some x) : ∃ zs : List Rn,zs.length ≤ 9223372036854775807 ∧ Sl W W.heap.size (.slice a len cap) zs := by
  rcases open_slice Tryz.underlying23 h with ⟨hcs,_⟩ | ⟨ad,len',cap',m,n,D,Pl,hcs,_,hl,hm,hmm,_,hi⟩
  · simp at hcs
    obtain ⟨rfl,rfl,rfl⟩ := hcs
    exact ⟨[],by simp,Sl.nil _ _⟩
  · simp at hcs
    obtain ⟨rfl,rfl,rfl⟩ := hcs
    have hlm : len ≤ m := by rw [hmm]; split <;> omega
    have each : ∀ i,i < len → ∃ y : Rn,y.ok ∧ W.cell? (ad.add (i * 3)) = some (.int .u8 y.r) ∧ W.cell? (ad.add (i * 3 + 1)) = some (.int .u32 y.lo) ∧ W.cell? (ad.add (i * 3 + 2)) = some (.int .u32 y.hi) := by
      intro i hil
      obtain ⟨cs',h1,h2⟩ := hi i (by omega)
      rw [cellsRun] at h1
      obtain ⟨_,hlen,hat⟩ := World.cells?_some h1
      obtain ⟨xs,k,_,_,_,hxl,hf⟩ := DataW.trod_struct Tryz.underlying67 h2
      match xs,hxl,cs',hlen with
      | [y0,y1,y2],_,[v0,v1,v2],_ =>
        have g0 := hf 0 _ rfl
        have g1 := hf 1 _ rfl
        have g2 := hf 2 _ rfl
        simp [cells8,cells32] at g0 g1 g2
        obtain ⟨r,e0,_,w0⟩ := DataW.trod_int Tryz.underlying5 g0
        obtain ⟨lo,e1,_,w1⟩ := DataW.trod_int Tryz.underlying22 g1
        obtain ⟨hi',e2,_,w2⟩ := DataW.trod_int Tryz.underlying22 g2
        simp at e0 e1 e2
        subst e0 e1 e2
        have c0 := hat 0 (by omega)
        have c1 := hat 1 (by omega)
        have c2 := hat 2 (by omega)
        rw [Go.Deep.add_add] at c0 c1 c2
        exact ⟨⟨r,lo,hi'⟩,⟨u8_bounds w0,u32_bounds w1,u32_bounds w2⟩,by simpa using c0,by simpa using c1,by simpa using c2⟩
    obtain ⟨zs,hz,hp⟩ := choose_runs len each
    refine ⟨zs,by unfold maxLen at hm; omega,some ad,cap,by rw [hz],(fun h => by simp at h),fun y hy => ?_,fun hne => ?_⟩
    · obtain ⟨i,hi',rfl⟩ := List.mem_iff_getElem.1 hy
      exact (hp i _ (List.getElem?_eq_getElem hi')).1
    · have h0 : 0 < zs.length := List.length_pos_iff.2 hne
      have hc0 := (hp 0 _ (List.getElem?_eq_getElem h0)).2.1
      obtain ⟨b,off,spot⟩ := ad
      have hspot : spot = none := by simpa [Addr.add] using World.cell?_spot hc0
      subst hspot
      have e : ∀ k,(⟨b,off,none⟩ : Addr).add k = ⟨b,off + k,none⟩ := fun k => by unfold Addr.add; split <;> simp_all
      refine ⟨b,off,rfl,?_,fun j y hj => ?_⟩
      · have := World.block_lt_of_cell? W _ hc0
        simpa [e] using this
      · obtain ⟨_,q0,q1,q2⟩ := hp j y hj
        rw [e] at q0 q1 q2
        exact ⟨q0,q1,q2⟩
end Go.Proofs.YtfjaeohfigcciabGreatDoor

namespace Go.Proofs.YtfjaeohfigcciabGreatDoor
open Go.ChangeShapes Go.WideShapes Go.RowKit Go.Deep

theorem icellsEnt : Tryz.prog.cellsOf 62 = 7 := by kernel_rfl
theorem icellsVer : Tryz.prog.cellsOf 60 = 3 := by kernel_rfl
theorem icells8 : Tryz.prog.cellsOf 5 = 1 := by kernel_rfl
theorem icells32 : Tryz.prog.cellsOf 22 = 1 := by kernel_rfl
theorem icellsInt : Tryz.prog.cellsOf 3 = 1 := by kernel_rfl

theorem iu8_bounds {n : Int} (h : (Lit.int .u8 n).wf = true) : 0 ≤ n ∧ n ≤ 255 := by
  have h1 : IntKind.u8.min = 0 := rfl
  have h2 : IntKind.u8.max = 255 := rfl
  simp [Lit.wf,h1,h2] at h
  omega
theorem iu32_bounds {n : Int} (h : (Lit.int .u32 n).wf = true) : 0 ≤ n ∧ n ≤ 4294967295 := by
  have h1 : IntKind.u32.min = 0 := rfl
  have h2 : IntKind.u32.max = 4294967295 := rfl
  simp [Lit.wf,h1,h2] at h
  omega
theorem ii64_bounds {n : Int} (h : (Lit.int .i64 n).wf = true) : -9223372036854775808 ≤ n ∧ n ≤ 9223372036854775807 := by
  have h1 : IntKind.i64.min = -9223372036854775808 := rfl
  have h2 : IntKind.i64.max = 9223372036854775807 := rfl
  simp [Lit.wf,h1,h2] at h
  omega

section
variable {H : Type} {enc : TypeId × Value → H} {W : World} {spare : Nat → Bool} {held : Bool}

set_option maxRecDepth 100000 in
theorem trod_ver {fuel : Nat} {cs : List Value} {x : DataW H × List MemPlace} (h : DataW.trod enc Tryz.prog W 0 spare held fuel 60 cs = some x) : ∃ y : Vr,cs = [.int .u8 y.rep,.int .u32 y.seq,.int .u32 y.stamp] ∧ y.ok := by
  obtain ⟨xs,k,_,_,hlen,hxl,hf⟩ := DataW.trod_struct Tryz.underlying60 h
  rw [icellsVer] at hlen
  match xs,hxl,cs,hlen with
  | [y0,y1,y2],_,[v0,v1,v2],_ =>
    have g0 := hf 0 _ rfl
    have g1 := hf 1 _ rfl
    have g2 := hf 2 _ rfl
    simp [icells8,icells32] at g0 g1 g2
    obtain ⟨r,e0,_,w0⟩ := DataW.trod_int Tryz.underlying5 g0
    obtain ⟨q,e1,_,w1⟩ := DataW.trod_int Tryz.underlying22 g1
    obtain ⟨t,e2,_,w2⟩ := DataW.trod_int Tryz.underlying22 g2
    simp at e0 e1 e2
    subst e0 e1 e2
    exact ⟨⟨r,q,t⟩,rfl,iu8_bounds w0,iu32_bounds w1,iu32_bounds w2⟩

set_option maxRecDepth 100000 in
theorem trod_ent {fuel : Nat} {cs : List Value} {x : DataW H × List MemPlace} (h : DataW.trod enc Tryz.prog W 0 spare held fuel 62 cs = some x) : ∃ y : En,cs = y.enc ∧ y.ok := by
  obtain ⟨xs,k,_,_,hlen,hxl,hf⟩ := DataW.trod_struct Tryz.underlying62 h
  rw [icellsEnt] at hlen
  match xs,hxl,cs,hlen with
  | [y0,y1,y2,y3,y4],_,[v0,v1,v2,v3,v4,v5,v6],_ =>
    have g0 := hf 0 _ rfl
    have g1 := hf 1 _ rfl
    have g2 := hf 2 _ rfl
    have g3 := hf 3 _ rfl
    have g4 := hf 4 _ rfl
    simp [icells8,icells32,icellsVer,icellsInt] at g0 g1 g2 g3 g4
    obtain ⟨r,e0,_,w0⟩ := DataW.trod_int Tryz.underlying5 g0
    obtain ⟨y,e1,w1⟩ := trod_ver g1
    obtain ⟨kd,e2,_,w2⟩ := DataW.trod_int Tryz.underlying3 g2
    obtain ⟨cl,e3,_,w3⟩ := DataW.trod_int Tryz.underlying5 g3
    obtain ⟨vl,e4,_,w4⟩ := DataW.trod_int Tryz.underlying22 g4
    simp at e0 e1 e2 e3 e4
    obtain ⟨rfl,rfl,rfl⟩ := e1
    subst e0 e2 e3 e4
    exact ⟨⟨r,y.rep,y.seq,y.stamp,kd,cl,vl⟩,rfl,iu8_bounds w0,w1,ii64_bounds w2,iu8_bounds w3,iu32_bounds w4⟩

theorem choose_ents {P : Nat → En → Prop} : ∀ n : Nat,(∀ i,i < n → ∃ x,P i x) → ∃ l : List En,l.length = n ∧ ∀ i x,l[i]? = some x → P i x
  | 0,_ => ⟨[],rfl,fun i x h => by simp at h⟩
  | n + 1,h => by
    obtain ⟨l,hl,hp⟩ := choose_ents n fun i hi => h i (by omega)
    obtain ⟨x,hx⟩ := h n (by omega)
    refine ⟨l ++ [x],by simp [hl],fun i y hy => ?_⟩
    rcases Nat.lt_or_ge i n with hi | hi
    · exact hp i y (by rwa [List.getElem?_append_left (by omega)] at hy)
    · rw [List.getElem?_append_right (by omega)] at hy
      have : i - l.length = 0 := by
        rcases Nat.eq_zero_or_pos (i - l.length) with h0 | h0
        · exact h0
        · rw [List.getElem?_eq_none (by simp; omega)] at hy; cases hy
      rw [this] at hy
      simp at hy
      subst hy
      obtain rfl : i = n := by omega
      exact hx

set_option maxRecDepth 100000 in
theorem open_ents {fuel : Nat} {a : Option Addr} {len cap : Nat} {x : DataW H × List MemPlace}
    (h : DataW.trod enc Tryz.prog W 0 spare held fuel 24 [.slice a len cap] = some x) : ∃ zs : List En,zs.length ≤ 9223372036854775807 ∧ ESl W W.heap.size (.slice a len cap) zs := by
  rcases open_slice Tryz.underlying24 h with ⟨hcs,_⟩ | ⟨ad,len',cap',m,n,D,Pl,hcs,_,hl,hm,hmm,_,hi⟩
  · simp at hcs
    obtain ⟨rfl,rfl,rfl⟩ := hcs
    exact ⟨[],by simp,ESl.nil _ _⟩
  · simp at hcs
    obtain ⟨rfl,rfl,rfl⟩ := hcs
    have hlm : len ≤ m := by rw [hmm]; split <;> omega
    have each : ∀ i,i < len → ∃ y : En,y.ok ∧ ∀ j u,y.enc[j]? = some u → W.cell? (ad.add (i * 7 + j)) = some u := by
      intro i hil
      obtain ⟨cs',h1,h2⟩ := hi i (by omega)
      rw [icellsEnt] at h1
      obtain ⟨_,hlen,hat⟩ := World.cells?_some h1
      obtain ⟨y,rfl,hy⟩ := trod_ent h2
      refine ⟨y,hy,fun j u hu => ?_⟩
      have hj : j < 7 := by have := (List.getElem?_eq_some_iff.1 hu).1; rwa [enc_length] at this
      have c := hat j hj
      rw [Go.Deep.add_add] at c
      rw [c,hu]
    obtain ⟨zs,hz,hp⟩ := choose_ents len each
    refine ⟨zs,by unfold maxLen at hm; omega,some ad,cap,by rw [hz],⟨(fun h => by simp at h),by rw [hz]; exact hl⟩,fun y hy => ?_,fun hne => ?_⟩
    · obtain ⟨i,hi',rfl⟩ := List.mem_iff_getElem.1 hy
      exact (hp i _ (List.getElem?_eq_getElem hi')).1
    · have h0 : 0 < zs.length := List.length_pos_iff.2 hne
      have hc0 := (hp 0 _ (List.getElem?_eq_getElem h0)).2 0 _ rfl
      obtain ⟨b,off,spot⟩ := ad
      have hspot : spot = none := by simpa [Addr.add] using World.cell?_spot hc0
      subst hspot
      have e : ∀ k,(⟨b,off,none⟩ : Addr).add k = ⟨b,off + k,none⟩ := fun k => by unfold Addr.add; split <;> simp_all
      refine ⟨b,off,rfl,?_,fun j y hj i u hu => ?_⟩
      · have := World.block_lt_of_cell? W _ hc0
        simpa [e] using this
      · have := (hp j y hj).2 i u hu
        rw [e] at this
        rw [Nat.add_assoc]
        exact this
end
end Go.Proofs.YtfjaeohfigcciabGreatDoor

namespace Go.Proofs.YtfjaeohfigcciabGreatDoor
open Go.ChangeShapes Go.WideShapes Go.RowKit Go.Deep

theorem ncellsNote : Tryz.prog.cellsOf 30 = 12 := by kernel_rfl
theorem ncellsRuns : Tryz.prog.cellsOf 23 = 1 := by kernel_rfl
theorem ncellsEnts : Tryz.prog.cellsOf 24 = 1 := by kernel_rfl
theorem ncellsBool : Tryz.prog.cellsOf 4 = 1 := by kernel_rfl

section
variable {H : Type} {enc : TypeId × Value → H} {W : World} {spare : Nat → Bool} {held : Bool}

theorem open_runs1 {fuel : Nat} {v : Value} {x : DataW H × List MemPlace} (h : DataW.trod enc Tryz.prog W 0 spare held fuel 23 [v] = some x) : ∃ zs : List Rn,zs.length ≤ 9223372036854775807 ∧ Sl W W.heap.size v zs := by
  rcases open_slice Tryz.underlying23 h with ⟨hcs,_⟩ | ⟨ad,len',cap',m,n,D,Pl,hcs,_,hl,hm,hmm,_,hi⟩
  · simp at hcs
    subst hcs
    exact open_runs h
  · simp at hcs
    subst hcs
    exact open_runs h
theorem open_ents1 {fuel : Nat} {v : Value} {x : DataW H × List MemPlace} (h : DataW.trod enc Tryz.prog W 0 spare held fuel 24 [v] = some x) : ∃ zs : List En,zs.length ≤ 9223372036854775807 ∧ ESl W W.heap.size v zs := by
  rcases open_slice Tryz.underlying24 h with ⟨hcs,_⟩ | ⟨ad,len',cap',m,n,D,Pl,hcs,_,hl,hm,hmm,_,hi⟩
  · simp at hcs
    subst hcs
    exact open_ents h
  · simp at hcs
    subst hcs
    exact open_ents h

def noteZero : Value := .agg ((⟨0,0,0,0,0,0,[],0,[],0,false,[]⟩ : Nt).cells (.slice none 0 0) (.slice none 0 0) (.slice none 0 0))

set_option maxRecDepth 100000 in
theorem open_note {base : Nat} {v : Value} {d : DataW H} {p : List MemPlace} (hv : Value.okWide Tryz.prog W .any base 30 v) (h : DataW.Trod enc Tryz.prog W 0 spare held 30 v d p) :
    ∃ y : Nt,NtV W W.heap.size v y ∧ y.know.length ≤ 9223372036854775807 ∧ y.ents.length ≤ 9223372036854775807 ∧ y.offer.length ≤ 9223372036854775807 := by
  obtain ⟨cs,rfl,hsz⟩ := okWide_struct Tryz.underlying30 hv
  obtain ⟨fuel,hf⟩ := h
  obtain ⟨xs,k,_,_,hlen,hxl,hf⟩ := DataW.trod_struct Tryz.underlying30 hf
  rw [ncellsNote] at hlen
  obtain ⟨cs⟩ := cs
  simp only [Value.cells] at hlen hf
  match xs,hxl,cs,hlen with
  | [y0,y1,y2,y3,y4,y5,y6,y7,y8,y9,y10,y11],_,[v0,v1,v2,v3,v4,v5,v6,v7,v8,v9,v10,v11],_ =>
    have g0 := hf 0 _ rfl
    have g1 := hf 1 _ rfl
    have g2 := hf 2 _ rfl
    have g3 := hf 3 _ rfl
    have g4 := hf 4 _ rfl
    have g5 := hf 5 _ rfl
    have g6 := hf 6 _ rfl
    have g7 := hf 7 _ rfl
    have g8 := hf 8 _ rfl
    have g9 := hf 9 _ rfl
    have g10 := hf 10 _ rfl
    have g11 := hf 11 _ rfl
    clear hf
    simp [icells8,icells32,icellsInt,ncellsRuns,ncellsEnts,ncellsBool] at g0 g1 g2 g3 g4 g5 g6 g7 g8 g9 g10 g11
    obtain ⟨x0,e0,_,w0⟩ := DataW.trod_int Tryz.underlying3 g0
    obtain ⟨x1,e1,_,w1⟩ := DataW.trod_int Tryz.underlying5 g1
    obtain ⟨x2,e2,_,w2⟩ := DataW.trod_int Tryz.underlying5 g2
    obtain ⟨x3,e3,_,w3⟩ := DataW.trod_int Tryz.underlying22 g3
    obtain ⟨x4,e4,_,w4⟩ := DataW.trod_int Tryz.underlying5 g4
    obtain ⟨x5,e5,_,w5⟩ := DataW.trod_int Tryz.underlying5 g5
    obtain ⟨z6,l6,s6⟩ := open_runs1 g6
    obtain ⟨x7,e7,_,w7⟩ := DataW.trod_int Tryz.underlying22 g7
    obtain ⟨z8,l8,s8⟩ := open_ents1 g8
    obtain ⟨x9,e9,_,w9⟩ := DataW.trod_int Tryz.underlying5 g9
    obtain ⟨x10,e10,_⟩ := DataW.trod_bool Tryz.underlying4 g10
    obtain ⟨z11,l11,s11⟩ := open_runs1 g11
    simp at e0 e1 e2 e3 e4 e5 e7 e9 e10
    subst e0 e1 e2 e3 e4 e5 e7 e9 e10
    have o6 : ∀ x ∈ z6,x.ok := by obtain ⟨_,_,_,_,h,_⟩ := s6; exact h
    have o8 : ∀ x ∈ z8,x.ok := by obtain ⟨_,_,_,_,h,_⟩ := s8; exact h
    have o11 : ∀ x ∈ z11,x.ok := by obtain ⟨_,_,_,_,h,_⟩ := s11; exact h
    exact ⟨⟨x0,x1,x2,x3,x4,x5,z6,x7,z8,x9,x10,z11⟩,⟨_,_,_,rfl,s6,s8,s11,ii64_bounds w0,iu8_bounds w1,iu8_bounds w2,iu32_bounds w3,iu8_bounds w4,iu8_bounds w5,o6,iu32_bounds w7,o8,iu8_bounds w9,o11⟩,l6,l8,l11⟩
end
end Go.Proofs.YtfjaeohfigcciabGreatDoor

namespace Go.Proofs.YtfjaeohfigcciabGreatDoor
open Go.ChangeShapes Go.WideShapes Go.RowKit Go.Deep

def Rp.cells (r : Rp) (vk vh vo : Value) : Array Value := #[.int .u8 r.rep,.int .u8 r.flt,.int .u32 r.epoch,.int .u32 r.seq,vk,vh,.bool r.ses.on,.int .u32 r.ses.num,.int .u8 r.ses.src,.int .u8 r.ses.cur,.int .u32 r.ses.epoch,vo,.int .u32 r.ses.last]
def RpV (w : World) (B : Nat) (v : Value) (r : Rp) : Prop := ∃ vk vh vo,v = .agg (r.cells vk vh vo) ∧ Sl w B vk r.know ∧ ESl w B vh r.held ∧ Sl w B vo r.ses.offer ∧ r.ok
theorem RpV.below {w w' : World} {B : Nat} {v : Value} {r : Rp} (h : RpV w B v r) (hb : Below B w w') : RpV w' B v r := by
  obtain ⟨vk,ve,vo,hv,h1,h2,h3,ho⟩ := h
  exact ⟨vk,ve,vo,hv,h1.below hb,h2.below hb,h3.below hb,ho⟩
theorem RpV.more {w : World} {B B' : Nat} {v : Value} {r : Rp} (h : RpV w B v r) (hB : B ≤ B') : RpV w B' v r := by
  obtain ⟨vk,ve,vo,hv,h1,h2,h3,ho⟩ := h
  exact ⟨vk,ve,vo,hv,h1.more hB,h2.more hB,h3.more hB,ho⟩
theorem RpV.later {w w' : World} {v : Value} {r : Rp} (h : RpV w w.heap.size v r) (hb : Below w.heap.size w w') : RpV w' w'.heap.size v r := (h.below hb).more hb.size

theorem pcellsRep : Tryz.prog.cellsOf 28 = 13 := by kernel_rfl
theorem pcellsSes : Tryz.prog.cellsOf 26 = 7 := by kernel_rfl

def repZero : Value := .agg ((⟨0,0,0,0,[],[],⟨false,0,0,0,0,[],0⟩⟩ : Rp).cells (.slice none 0 0) (.slice none 0 0) (.slice none 0 0))

section
variable {H : Type} {enc : TypeId × Value → H} {W : World} {spare : Nat → Bool} {held : Bool}

set_option maxRecDepth 100000 in
theorem trod_ses {fuel : Nat} {cs : List Value} {x : DataW H × List MemPlace} (h : DataW.trod enc Tryz.prog W 0 spare held fuel 26 cs = some x) :
    ∃ (s : Ss) (vo : Value),cs = [.bool s.on,.int .u32 s.num,.int .u8 s.src,.int .u8 s.cur,.int .u32 s.epoch,vo,.int .u32 s.last] ∧ Sl W W.heap.size vo s.offer ∧ s.offer.length ≤ 9223372036854775807 ∧ s.ok := by
  obtain ⟨xs,k,_,_,hlen,hxl,hf⟩ := DataW.trod_struct Tryz.underlying26 h
  rw [pcellsSes] at hlen
  match xs,hxl,cs,hlen with
  | [y0,y1,y2,y3,y4,y5,y6],_,[v0,v1,v2,v3,v4,v5,v6],_ =>
    have g0 := hf 0 _ rfl
    have g1 := hf 1 _ rfl
    have g2 := hf 2 _ rfl
    have g3 := hf 3 _ rfl
    have g4 := hf 4 _ rfl
    have g5 := hf 5 _ rfl
    have g6 := hf 6 _ rfl
    clear hf
    simp [icells8,icells32,icellsInt,ncellsRuns,ncellsEnts,ncellsBool] at g0 g1 g2 g3 g4 g5 g6
    obtain ⟨x0,e0,_⟩ := DataW.trod_bool Tryz.underlying4 g0
    obtain ⟨x1,e1,_,w1⟩ := DataW.trod_int Tryz.underlying22 g1
    obtain ⟨x2,e2,_,w2⟩ := DataW.trod_int Tryz.underlying5 g2
    obtain ⟨x3,e3,_,w3⟩ := DataW.trod_int Tryz.underlying5 g3
    obtain ⟨x4,e4,_,w4⟩ := DataW.trod_int Tryz.underlying22 g4
    obtain ⟨z5,l5,s5⟩ := open_runs1 g5
    obtain ⟨x6,e6,_,w6⟩ := DataW.trod_int Tryz.underlying22 g6
    simp at e0 e1 e2 e3 e4 e6
    subst e0 e1 e2 e3 e4 e6
    have o5 : ∀ x ∈ z5,x.ok := by obtain ⟨_,_,_,_,h,_⟩ := s5; exact h
    exact ⟨⟨x0,x1,x2,x3,x4,z5,x6⟩,v5,rfl,s5,l5,iu32_bounds w1,iu8_bounds w2,iu8_bounds w3,iu32_bounds w4,o5,iu32_bounds w6⟩

set_option maxRecDepth 100000 in
theorem open_rep {base : Nat} {v : Value} {d : DataW H} {p : List MemPlace} (hv : Value.okWide Tryz.prog W .any base 28 v) (h : DataW.Trod enc Tryz.prog W 0 spare held 28 v d p) :
    ∃ y : Rp,RpV W W.heap.size v y ∧ y.know.length ≤ 9223372036854775807 ∧ y.held.length ≤ 9223372036854775807 ∧ y.ses.offer.length ≤ 9223372036854775807 := by
  obtain ⟨cs,rfl,hsz⟩ := okWide_struct Tryz.underlying28 hv
  obtain ⟨fuel,hf⟩ := h
  obtain ⟨xs,k,_,_,hlen,hxl,hf⟩ := DataW.trod_struct Tryz.underlying28 hf
  rw [pcellsRep] at hlen
  obtain ⟨cs⟩ := cs
  simp only [Value.cells] at hlen hf
  match xs,hxl,cs,hlen with
  | [y0,y1,y2,y3,y4,y5,y6],_,[v0,v1,v2,v3,v4,v5,v6,v7,v8,v9,v10,v11,v12],_ =>
    have g0 := hf 0 _ rfl
    have g1 := hf 1 _ rfl
    have g2 := hf 2 _ rfl
    have g3 := hf 3 _ rfl
    have g4 := hf 4 _ rfl
    have g5 := hf 5 _ rfl
    have g6 := hf 6 _ rfl
    clear hf
    simp [icells8,icells32,icellsInt,ncellsRuns,ncellsEnts,ncellsBool,pcellsSes] at g0 g1 g2 g3 g4 g5 g6
    obtain ⟨x0,e0,_,w0⟩ := DataW.trod_int Tryz.underlying5 g0
    obtain ⟨x1,e1,_,w1⟩ := DataW.trod_int Tryz.underlying5 g1
    obtain ⟨x2,e2,_,w2⟩ := DataW.trod_int Tryz.underlying22 g2
    obtain ⟨x3,e3,_,w3⟩ := DataW.trod_int Tryz.underlying22 g3
    obtain ⟨z4,l4,s4⟩ := open_runs1 g4
    obtain ⟨z5,l5,s5⟩ := open_ents1 g5
    obtain ⟨s,vo,e6,so,lo,ok6⟩ := trod_ses g6
    simp at e0 e1 e2 e3 e6
    subst e0 e1 e2 e3
    obtain ⟨rfl,rfl,rfl,rfl,rfl,rfl,rfl⟩ := e6
    have o4 : ∀ x ∈ z4,x.ok := by obtain ⟨_,_,_,_,h,_⟩ := s4; exact h
    have o5 : ∀ x ∈ z5,x.ok := by obtain ⟨_,_,_,_,h,_⟩ := s5; exact h
    exact ⟨⟨x0,x1,x2,x3,z4,z5,s⟩,⟨_,_,_,rfl,s4,s5,so,iu8_bounds w0,iu8_bounds w1,iu32_bounds w2,iu32_bounds w3,o4,o5,ok6⟩,l4,l5,lo⟩
end
end Go.Proofs.YtfjaeohfigcciabGreatDoor

namespace Go.Proofs.YtfjaeohfigcciabGreatDoor
open Go.RowKit

def Av (P : Nat → Prop) {α : Type} (v : Value) (zs : List α) : Prop := zs ≠ [] → ∀ k,v.ownBlock = some k → P k
theorem Av.mono {P Q : Nat → Prop} {α : Type} {v : Value} {zs : List α} (h : Av P v zs) (hq : ∀ k,P k → Q k) : Av Q v zs := fun hz k hk => hq k (h hz k hk)
def RpAv (P : Nat → Prop) (v : Value) (r : Rp) : Prop := ∃ vk vh vo,v = .agg (r.cells vk vh vo) ∧ Av P vk r.know ∧ Av P vh r.held ∧ Av P vo r.ses.offer
def NtAv (P : Nat → Prop) (v : Value) (n : Nt) : Prop := ∃ vk ve vo,v = .agg (n.cells vk ve vo) ∧ Av P vk n.know ∧ Av P ve n.ents ∧ Av P vo n.offer
theorem RpAv.mono {P Q : Nat → Prop} {v : Value} {r : Rp} (h : RpAv P v r) (hq : ∀ k,P k → Q k) : RpAv Q v r := by
  obtain ⟨a,b,c,hv,h1,h2,h3⟩ := h
  exact ⟨a,b,c,hv,h1.mono hq,h2.mono hq,h3.mono hq⟩
theorem NtAv.mono {P Q : Nat → Prop} {v : Value} {n : Nt} (h : NtAv P v n) (hq : ∀ k,P k → Q k) : NtAv Q v n := by
  obtain ⟨a,b,c,hv,h1,h2,h3⟩ := h
  exact ⟨a,b,c,hv,h1.mono hq,h2.mono hq,h3.mono hq⟩
theorem Sl.av {W : World} {B : Nat} {v : Value} {zs : List Rn} (h : Sl W B v zs) : Av (· < B) v zs := fun hz k hk => by
  obtain ⟨A,c,rfl,_,_,hA⟩ := h
  obtain ⟨b,off,rfl,hB,_⟩ := hA hz
  simp [Value.ownBlock] at hk
  omega
theorem ESl.av {W : World} {B : Nat} {v : Value} {zs : List En} (h : ESl W B v zs) : Av (· < B) v zs := fun hz k hk => by
  obtain ⟨A,c,rfl,_,_,hA⟩ := h
  obtain ⟨b,off,rfl,hB,_⟩ := hA hz
  simp [Value.ownBlock] at hk
  omega
theorem Av.and {P Q : Nat → Prop} {α : Type} {v : Value} {zs : List α} (h : Av P v zs) (g : Av Q v zs) : Av (fun k => P k ∧ Q k) v zs := fun hz k hk => ⟨h hz k hk,g hz k hk⟩
theorem rep_cells_inj {r : Rp} {a b c a' b' c' : Value} (h : Value.agg (r.cells a b c) = .agg (r.cells a' b' c')) : a = a' ∧ b = b' ∧ c = c' := by
  unfold Rp.cells at h
  simp at h
  exact h
theorem note_cells_inj {n : Nt} {a b c a' b' c' : Value} (h : Value.agg (n.cells a b c) = .agg (n.cells a' b' c')) : a = a' ∧ b = b' ∧ c = c' := by
  unfold Nt.cells at h
  simp at h
  exact h
theorem RpV.av {W : World} {B : Nat} {v : Value} {r : Rp} (h : RpV W B v r) : RpAv (· < B) v r := by
  obtain ⟨a,b,c,hv,h1,h2,h3,_⟩ := h
  exact ⟨a,b,c,hv,h1.av,h2.av,h3.av⟩
theorem NtV.av {W : World} {B : Nat} {v : Value} {n : Nt} (h : NtV W B v n) : NtAv (· < B) v n := by
  obtain ⟨a,b,c,hv,h1,h2,h3,_⟩ := h
  exact ⟨a,b,c,hv,h1.av,h2.av,h3.av⟩
theorem RpAv.and {P Q : Nat → Prop} {v : Value} {r : Rp} (h : RpAv P v r) (g : RpAv Q v r) : RpAv (fun k => P k ∧ Q k) v r := by
  obtain ⟨a,b,c,hv,h1,h2,h3⟩ := h
  obtain ⟨a',b',c',hv',g1,g2,g3⟩ := g
  obtain ⟨rfl,rfl,rfl⟩ := rep_cells_inj (hv.symm.trans hv')
  exact ⟨a,b,c,hv,h1.and g1,h2.and g2,h3.and g3⟩
theorem NtAv.and {P Q : Nat → Prop} {v : Value} {n : Nt} (h : NtAv P v n) (g : NtAv Q v n) : NtAv (fun k => P k ∧ Q k) v n := by
  obtain ⟨a,b,c,hv,h1,h2,h3⟩ := h
  obtain ⟨a',b',c',hv',g1,g2,g3⟩ := g
  obtain ⟨rfl,rfl,rfl⟩ := note_cells_inj (hv.symm.trans hv')
  exact ⟨a,b,c,hv,h1.and g1,h2.and g2,h3.and g3⟩

section
variable {W W' : World} {B : Nat} {row : Option Nat} {v : Value}
theorem Sl.grown {zs : List Rn} (h : Sl W B v zs) (hg : W.grownBy W' row) (ha : Av (fun k => row ≠ some k) v zs) (hB : B ≤ W.heap.size) : Sl W' B v zs := by
  obtain ⟨A,c,rfl,hn,hok,hA⟩ := h
  refine ⟨A,c,rfl,hn,hok,fun hz => ?_⟩
  obtain ⟨b,off,rfl,hb,hc⟩ := hA hz
  refine ⟨b,off,rfl,hb,fun j x hx => ?_⟩
  have hne := ha hz b rfl
  have key : ∀ o,W'.cell? ⟨b,o,none⟩ = W.cell? ⟨b,o,none⟩ := fun o => World.cell?_of_block (hg.block b (by omega) (fun e => hne e.symm))
  obtain ⟨h0,h1,h2⟩ := hc j x hx
  exact ⟨(key _).trans h0,(key _).trans h1,(key _).trans h2⟩
theorem ESl.grown {zs : List En} (h : ESl W B v zs) (hg : W.grownBy W' row) (ha : Av (fun k => row ≠ some k) v zs) (hB : B ≤ W.heap.size) : ESl W' B v zs := by
  obtain ⟨A,c,rfl,hn,hok,hA⟩ := h
  refine ⟨A,c,rfl,hn,hok,fun hz => ?_⟩
  obtain ⟨b,off,rfl,hb,hc⟩ := hA hz
  refine ⟨b,off,rfl,hb,fun j x hx i u hu => ?_⟩
  have hne := ha hz b rfl
  exact (World.cell?_of_block (hg.block b (by omega) (fun e => hne e.symm))).trans (hc j x hx i u hu)
theorem RpV.grown {r : Rp} (h : RpV W B v r) (hg : W.grownBy W' row) (ha : RpAv (fun k => row ≠ some k) v r) (hB : B ≤ W.heap.size) : RpV W' B v r := by
  obtain ⟨a,b,c,rfl,h1,h2,h3,ho⟩ := h
  obtain ⟨a',b',c',hv',g1,g2,g3⟩ := ha
  obtain ⟨rfl,rfl,rfl⟩ := rep_cells_inj hv'
  exact ⟨a,b,c,rfl,h1.grown hg g1 hB,h2.grown hg g2 hB,h3.grown hg g3 hB,ho⟩
theorem NtV.grown {n : Nt} (h : NtV W B v n) (hg : W.grownBy W' row) (ha : NtAv (fun k => row ≠ some k) v n) (hB : B ≤ W.heap.size) : NtV W' B v n := by
  obtain ⟨a,b,c,rfl,h1,h2,h3,ho⟩ := h
  obtain ⟨a',b',c',hv',g1,g2,g3⟩ := ha
  obtain ⟨rfl,rfl,rfl⟩ := note_cells_inj hv'
  exact ⟨a,b,c,rfl,h1.grown hg g1 hB,h2.grown hg g2 hB,h3.grown hg g3 hB,ho⟩
end
end Go.Proofs.YtfjaeohfigcciabGreatDoor

namespace Go.Proofs.YtfjaeohfigcciabGreatDoor
open Go.RowKit Go.Stop

theorem rep_size1 : (Tryz.prog.info? 28).map (·.size) = some 13 := by kernel_rfl
theorem note_size1 : (Tryz.prog.info? 30).map (·.size) = some 12 := by kernel_rfl
theorem below_setRow1 {B : Nat} {W w : World} (h : Below B W w) {r : Nat} (hr : B ≤ r) (cs : Array Value) : Below B W (w.setRow r cs) :=
  ⟨h.os,h.tape,h.output,by simpa [World.setRow] using h.size,fun i hi => (setRow_other w r i cs (by omega)).trans (h.block i hi)⟩
theorem cell_off {W : World} {g b j : Nat} (cs : Array Value) (h : b ≠ g) : (W.setRow g cs).cell? ⟨b,j,none⟩ = W.cell? ⟨b,j,none⟩ := World.cell?_of_block (setRow_other W g b cs h)
section
variable {W : World} {B g : Nat} {v : Value}
theorem Sl.rowOff {zs : List Rn} (h : Sl W B v zs) (ha : Av (fun k => k ≠ g) v zs) (cs : Array Value) : Sl (W.setRow g cs) B v zs := by
  obtain ⟨A,c,hv,hn,hok,hA⟩ := h
  refine ⟨A,c,hv,hn,hok,fun hz => ?_⟩
  obtain ⟨b,off,hA1,hB,hc⟩ := hA hz
  have hbg : b ≠ g := ha hz b (by rw [hv,hA1]; rfl)
  refine ⟨b,off,hA1,hB,fun j x hx => ?_⟩
  obtain ⟨h0,h1,h2⟩ := hc j x hx
  exact ⟨(cell_off cs hbg).trans h0,(cell_off cs hbg).trans h1,(cell_off cs hbg).trans h2⟩
theorem ESl.rowOff {zs : List En} (h : ESl W B v zs) (ha : Av (fun k => k ≠ g) v zs) (cs : Array Value) : ESl (W.setRow g cs) B v zs := by
  obtain ⟨A,c,hv,hn,hok,hA⟩ := h
  refine ⟨A,c,hv,hn,hok,fun hz => ?_⟩
  obtain ⟨b,off,hA1,hB,hc⟩ := hA hz
  have hbg : b ≠ g := ha hz b (by rw [hv,hA1]; rfl)
  exact ⟨b,off,hA1,hB,fun j x hx i u hu => (cell_off cs hbg).trans (hc j x hx i u hu)⟩
theorem RpV.rowOff {r : Rp} (h : RpV W B v r) (ha : RpAv (fun k => k ≠ g) v r) (cs : Array Value) : RpV (W.setRow g cs) B v r := by
  obtain ⟨vk,vh,vo,hv,h1,h2,h3,ho⟩ := h
  obtain ⟨wk,wh,wo,hw,a1,a2,a3⟩ := ha
  rw [hv] at hw
  obtain ⟨rfl,rfl,rfl⟩ := rep_cells_inj hw
  exact ⟨_,_,_,hv,h1.rowOff a1 cs,h2.rowOff a2 cs,h3.rowOff a3 cs,ho⟩
theorem NtV.rowOff {n : Nt} (h : NtV W B v n) (ha : NtAv (fun k => k ≠ g) v n) (cs : Array Value) : NtV (W.setRow g cs) B v n := by
  obtain ⟨vk,vh,vo,hv,h1,h2,h3,ho⟩ := h
  obtain ⟨wk,wh,wo,hw,a1,a2,a3⟩ := ha
  rw [hv] at hw
  obtain ⟨rfl,rfl,rfl⟩ := note_cells_inj hw
  exact ⟨_,_,_,hv,h1.rowOff a1 cs,h2.rowOff a2 cs,h3.rowOff a3 cs,ho⟩
theorem RpV.row {r : Rp} (h : RpV W B v r) : ∃ cs,v = .agg cs ∧ cs.size = 13 ∧ cs.all (·.oneCell') = true := by
  obtain ⟨_,_,_,hv,⟨_,_,rfl,_⟩,⟨_,_,rfl,_⟩,⟨_,_,rfl,_⟩,_⟩ := h
  exact ⟨_,hv,rfl,by simp [Rp.cells,Value.oneCell']⟩
theorem NtV.row {n : Nt} (h : NtV W B v n) : ∃ cs,v = .agg cs ∧ cs.size = 12 ∧ cs.all (·.oneCell') = true := by
  obtain ⟨_,_,_,hv,⟨_,_,rfl,_⟩,⟨_,_,rfl,_⟩,⟨_,_,rfl,_⟩,_⟩ := h
  exact ⟨_,hv,rfl,by simp [Nt.cells,Value.oneCell']⟩
end
def diesOf (v : Value) : Ending := .panicked [{ v := v,recovered := false }]
def RepSure (w : World) (res : Except Int Rp) (e : Ending) (w' : World) : Prop :=
  match res with
  | .ok x => ∃ v,e = .returned v ∧ RpV w' w'.heap.size v x ∧ RpAv (fun k => w.heap.size ≤ k) v x ∧ Below w.heap.size w w'
  | .error c => e = diesOf (.iface 74 (.int .i64 c)) ∧ Below w.heap.size w w'
def RepCaught (w : World) (res : Except Int Rp) (e : Ending) (w' : World) : Prop :=
  match res with
  | .ok x => ∃ v,e = .returned (.tuple #[v,.nilIface]) ∧ RpV w' w'.heap.size v x ∧ RpAv (fun k => w.heap.size ≤ k) v x ∧ Below w.heap.size w w'
  | .error c => e = .returned (.tuple #[.agg #[.int .u8 0,.int .u8 0,.int .u32 0,.int .u32 0,.slice none 0 0,.slice none 0 0,.bool false,.int .u32 0,.int .u8 0,.int .u8 0,.int .u32 0,.slice none 0 0,.int .u32 0],.iface 74 (.int .i64 c)]) ∧ Below w.heap.size w w'
def NoteSure (w : World) (res : Except Int Nt) (e : Ending) (w' : World) : Prop :=
  match res with
  | .ok x => ∃ v,e = .returned v ∧ NtV w' w'.heap.size v x ∧ NtAv (fun k => w.heap.size ≤ k) v x ∧ Below w.heap.size w w'
  | .error c => e = diesOf (.iface 74 (.int .i64 c)) ∧ Below w.heap.size w w'

set_option maxHeartbeats 4000000 in
set_option maxRecDepth 100000 in
theorem tsureP_ok (cs : Array Value) (hs : cs.size = 13) (h1 : cs.all (·.oneCell') = true) (w : World) : Calls Tryz.prog 67 #[.agg cs,.nilIface] w fun e w' => e = .returned (.agg cs) ∧ Below w.heap.size w w' := by
  have hi : (Tryz.prog.info? 28).map (·.size) = some cs.size := by rw [hs]; exact rep_size1
  go_enter Tryz.func67,Tryz.ntmps67
  go_wp2_with (first
    | (refine wpList_load_row rfl _ _ rfl w.heap.size rfl 28 cs (0,0) _ ((Blk.new w cs 28).alloc _).at_ Tryz.underlying28 rfl hi ?_)
    | (refine wpList_store_row rfl _ _ _ rfl (w.heap.size + 1) cs rfl rfl 28 _ (blk_two w _ _ _).at_ hi (by rw [hs]; rfl) h1 ?_))
  refine bodyPost_ret (v := .agg cs) (results_cell_row Tryz.results67 _ _ (w.heap.size + 1) 28 cs (0,0) _ rfl ((blk_two w _ _ _).row cs).at_ Tryz.underlying28 rfl hi) rfl ?_
  exact ⟨rfl,below_setRow1 (al2 w _ _) (by omega) cs⟩
set_option maxRecDepth 100000 in
theorem tsureP_bad (cs : Array Value) (t : TypeId) (u : Value) (w : World) : Calls Tryz.prog 67 #[.agg cs,.iface t u] w fun e w' => e = diesOf (.iface t u) ∧ Below w.heap.size w w' := by
  go_enter Tryz.func67,Tryz.ntmps67
  go_wp2
  exact ⟨rfl,rfl,al2 w _ _⟩
set_option maxRecDepth 100000 in
theorem tsureE_ok (v : Value) (w : World) : Calls Tryz.prog 107 #[v,.nilIface] w fun e w' => e = .returned v ∧ w' = w := by
  go_enter Tryz.func107,Tryz.ntmps107
  go_wp2
  go_ret
  exact ⟨rfl,rfl⟩
set_option maxRecDepth 100000 in
theorem tsureR_ok (v : Value) (w : World) : Calls Tryz.prog 71 #[v,.nilIface] w fun e w' => e = .returned v ∧ w' = w := by
  go_enter Tryz.func71,Tryz.ntmps71
  go_wp2
  go_ret
  exact ⟨rfl,rfl⟩
set_option maxRecDepth 100000 in
theorem tsureR_bad (v : Value) (t : TypeId) (u : Value) (w : World) : Calls Tryz.prog 71 #[v,.iface t u] w fun e w' => e = diesOf (.iface t u) ∧ w' = w := by
  go_enter Tryz.func71,Tryz.ntmps71
  go_wp2
  exact ⟨rfl,rfl,rfl⟩

theorem run_typeAssert_is {P : Program} {asserted xT t : TypeId} {want : Array (String × TypeId)} (hu : P.underlying asserted = some (.interface want)) (h : (P.info? t).map (fun i => (lacking want i.methods).isEmpty) = some true)
    (v : Value) (w : World) : (Instr.typeAssert (.iface t v) xT asserted false).run P w = .ok (.iface t v) w := by
  obtain ⟨i,hi,hl⟩ := Option.map_eq_some_iff.1 h
  simp [Instr.typeAssert,run_underlying hu,typeInfo,hi,missingMethod_none (List.isEmpty_iff.1 hl)]
theorem code_is_err (v : Value) (xT : TypeId) (w : World) : (Instr.typeAssert (.iface 74 v) xT 35 false).run Tryz.prog w = .ok (.iface 74 v) w := run_typeAssert_is Tryz.underlying35 (by kernel_rfl) v w

theorem results_row_cell {P : Program} {fn : Func} {p q : Tmp} {tp tq : TypeId} (h : fn.results = #[.cell p tp,.cell q tq]) (tmps : Array Value) (w : World) (g g2 : Nat) (cs : Array Value) (u : Value)
    (hp : tmps.getD p undef = .pointer (some ⟨g,0,none⟩)) (hq : tmps.getD q undef = .pointer (some ⟨g2,0,none⟩)) (h1 : (loadVar tp ⟨g,0,none⟩).run P w = .ok (.agg cs) w) (h2 : (loadVar tq ⟨g2,0,none⟩).run P w = .ok u w) :
    (results fn tmps).run P w = .ok (.tuple #[.agg cs,u]) w := by
  have hp' : tmps[p]?.getD undef = .pointer (some ⟨g,0,none⟩) := by simpa using hp
  have hq' : tmps[q]?.getD undef = .pointer (some ⟨g2,0,none⟩) := by simpa using hq
  simp [results,h,hp',hq',asAddr,h1,h2]
theorem setCell_id {W : World} {g j : Nat} {cs : Array Value} {t : TypeId} {u : Value} (h : Blk W g cs t) (hu : cs[j]? = some u) : W.setCell ⟨g,j,none⟩ u = W := by
  have hc : cs.setIfInBounds j u = cs := by
    apply Array.ext_getElem?
    intro i
    rw [Array.getElem?_setIfInBounds]
    split
    · rename_i hij
      subst hij
      split
      · exact hu.symm
      · rename_i hl
        rw [Array.getElem?_eq_none (by omega)]
    · rfl
  have e0 := (h.put j u).at_
  rw [hc] at e0
  have hh : (W.setCell ⟨g,j,none⟩ u).heap = W.heap := by
    apply Array.ext_getElem?
    intro i
    by_cases hi : i = g
    · subst hi; rw [e0,h.at_]
    · exact heap_setCell_other W ⟨g,j,none⟩ i u (by simp; omega)
  have e : W.setCell ⟨g,j,none⟩ u = { W with heap := (W.setCell ⟨g,j,none⟩ u).heap } := rfl
  rw [e,hh]

theorem catchP_dies (p : Addr) (u : Value) (old : Value) (older : List PanicEntry) (w : World) (hc : w.cell? p = some old) (hz : w.frozen? p = false) :
    CallsD Tryz.prog 66 #[.pointer (some p)] (.panicking ({ v := .iface 74 u,recovered := false } :: older)) w fun e u' w' =>
      e = .returned (.tuple #[]) ∧ u' = .panicking ({ v := .iface 74 u,recovered := true } :: older) ∧ w' = w.setCell p (.iface 74 u) := by
  have hA := code_is_err u
  refine callsD_of_wpS Tryz.func66 rfl fun c₀ cs hu => ?_
  apply wpS_seq
  apply wpS_region
  simp [wpOpsS,go_sem,recoverD,hu,Tryz.ntmps66,Exit.thenS]
  apply wpS_seq
  apply wpS_region
  simp [wpOpsS,go_sem,Exit.thenS]
  refine wpS_cond (t := true) (by simp [Act.eval,Array.replicate]) ?_
  simp only [if_true]
  apply wpS_region
  simp [wpOpsS,go_sem,hA,hc,hz,bodyPostS,results,Tryz.results66]
theorem catchP_idle (p : Addr) (w : World) :
    CallsD Tryz.prog 66 #[.pointer (some p)] .returning w fun e u' w' => e = .returned (.tuple #[]) ∧ u' = .returning ∧ w' = w := by
  refine callsD_of_wpS Tryz.func66 rfl fun c₀ cs hu => ?_
  apply wpS_seq
  apply wpS_region
  simp [wpOpsS,go_sem,recoverD,hu,Tryz.ntmps66,Exit.thenS]
  apply wpS_seq
  apply wpS_region
  simp [wpOpsS,go_sem,Exit.thenS]
  refine wpS_cond (t := false) (by simp [Act.eval,Array.replicate]) ?_
  simp only [Bool.false_eq_true,if_false]
  refine wpS_of_wp (wp_skip ?_)
  cases c₀
  simp_all [bodyPostS,results,Tryz.results66]

set_option maxHeartbeats 4000000 in
set_option maxRecDepth 100000 in
theorem tcaughtP_any (f : FuncId) (caps : Array Value) (eg : ∀ args w,(callFunc f args).run Tryz.prog w = .ok (.enter f args) w) (w : World) (res : Except Int Rp)
    (hc : ∀ W,Below w.heap.size w W → w.heap.size ≤ W.heap.size → Calls Tryz.prog f caps W (RepSure W res)) : Calls Tryz.prog 30 #[.func (.func f) #[] caps] w (RepCaught w res) := by
  have hmf : ∀ (fn : Fn) (first cap : Array Value) (w : World),(Instr.makeFunc fn first cap).run Tryz.prog w = .ok (.func fn first cap) w := fun _ _ _ _ => rfl
  have HC := Lib.hid hc; clear hc
  go_enter_defers Tryz.func30,Tryz.ntmps30
  go_wp2_with fail
  have hb0 := al2 w (.cells #[.int .u8 0,.int .u8 0,.int .u32 0,.int .u32 0,.slice none 0 0,.slice none 0 0,.bool false,.int .u32 0,.int .u8 0,.int .u8 0,.int .u32 0,.slice none 0 0,.int .u32 0] 28) (.cells #[.nilIface] 35)
  have BZ := Lib.hid ((Blk.new w #[.int .u8 0,.int .u8 0,.int .u32 0,.int .u32 0,.slice none 0 0,.slice none 0 0,.bool false,.int .u32 0,.int .u8 0,.int .u8 0,.int .u32 0,.slice none 0 0,.int .u32 0] 28).alloc (.cells #[.nilIface] 35))
  have BE := Lib.hid (blk_two w (.cells #[.int .u8 0,.int .u8 0,.int .u32 0,.int .u32 0,.slice none 0 0,.slice none 0 0,.bool false,.int .u32 0,.int .u8 0,.int .u8 0,.int .u32 0,.slice none 0 0,.int .u32 0] 28) #[.nilIface] 35)
  have hsz : ((w.alloc (.cells #[.int .u8 0,.int .u8 0,.int .u32 0,.int .u32 0,.slice none 0 0,.slice none 0 0,.bool false,.int .u32 0,.int .u8 0,.int .u8 0,.int .u32 0,.slice none 0 0,.int .u32 0] 28)).alloc (.cells #[.nilIface] 35)).heap.size = w.heap.size + 1 + 1 := by simp
  have H0 := Lib.hid (HC.out _ hb0 hb0.size)
  generalize (w.alloc (.cells #[.int .u8 0,.int .u8 0,.int .u32 0,.int .u32 0,.slice none 0 0,.slice none 0 0,.bool false,.int .u32 0,.int .u8 0,.int .u8 0,.int .u32 0,.slice none 0 0,.int .u32 0] 28)).alloc (.cells #[.nilIface] 35) = W0 at hb0 BZ BE H0 hsz ⊢
  refine (H0.out).mono ?_
  cases res with
  | ok x =>
    rintro e w1 ⟨v,rfl,hv,hav,hb⟩
    obtain ⟨cs,rfl,hs,h1⟩ := hv.row
    have hi : (Tryz.prog.info? 28).map (·.size) = some cs.size := by rw [hs]; exact rep_size1
    have BZ := Lib.hid (BZ.out.keep hb)
    have BE := Lib.hid ((BE.out.keep hb).other (by omega : w.heap.size + 1 ≠ w.heap.size) cs)
    have e0 := BE.out.cell 0 .nilIface rfl
    have z0 := BE.out.free 0
    have HV := Lib.hid (hv.rowOff (g := w.heap.size) (hav.mono fun k hk => by omega) cs)
    have HA := Lib.hid (hav.mono fun k (hk : W0.heap.size ≤ k) => (by omega : w.heap.size ≤ k))
    have HB := Lib.hid (below_setRow1 (hb0.trans (hb.mono hb0.size)) (Nat.le_refl w.heap.size) cs)
    have HS := Lib.hid (show (w1.setRow w.heap.size cs).heap.size = w1.heap.size by simp [World.setRow])
    clear hv hav hb hb0
    go_wp2_with (refine wpList_store_row rfl _ _ _ rfl w.heap.size cs rfl rfl 28 _ BZ.out.at_ hi (by rw [hs]; rfl) h1 ?_)
    refine leaves_cons (f := 66) (args := #[.pointer (some ⟨w.heap.size + 1,0,none⟩)]) (by simp) (by simp [go_sem]) ?_
    refine (catchP_idle ⟨w.heap.size + 1,0,none⟩ _).mono ?_
    rintro e u' w'' ⟨rfl,rfl,rfl⟩
    rw [setCell_id BE.out rfl]
    have hr := fun d hu hd => run_loadVar_row (P := Tryz.prog) (w1.setRow w.heap.size cs) w.heap.size 28 28 cs (0,0) d (BZ.out.row cs).at_ hu hd hi
    refine ⟨.tuple #[.agg cs,.nilIface],?_,_,rfl,?_,HA.out,HB.out⟩
    · exact results_row_cell Tryz.results30 _ _ w.heap.size (w.heap.size + 1) cs .nilIface rfl rfl (hr _ Tryz.underlying28 rfl) (by simp [loadVar,isAgg,underlying,Tryz.underlying35,e0])
    · have := HV.out
      rw [HS.out]
      exact this
  | error c =>
    rintro e w1 ⟨rfl,hb⟩
    have BZ := Lib.hid (BZ.out.keep hb)
    have BE := Lib.hid (BE.out.keep hb)
    have HB := Lib.hid ((hb0.trans (hb.mono hb0.size)).setCell (show w.heap.size ≤ (⟨w.heap.size + 1,0,none⟩ : Addr).block by simp) (.iface 74 (.int .i64 c)))
    refine leaves_cons (f := 66) (args := #[.pointer (some ⟨w.heap.size + 1,0,none⟩)]) (by simp) (by simp [go_sem]) ?_
    refine (catchP_dies ⟨w.heap.size + 1,0,none⟩ _ _ _ _ (BE.out.cell 0 _ rfl) (BE.out.free 0)).mono ?_
    rintro e u' w'' ⟨rfl,rfl,rfl⟩
    have BZ := Lib.hid (BZ.out.setOther (by omega : w.heap.size ≠ w.heap.size + 1) 0 (.iface 74 (.int .i64 c)))
    have BE := Lib.hid (BE.out.put 0 (.iface 74 (.int .i64 c)))
    have e0 := BE.out.cell 0 (.iface 74 (.int .i64 c)) rfl
    have hr := fun d hu hd => run_loadVar_row (P := Tryz.prog) (w1.setCell ⟨w.heap.size + 1,0,none⟩ (.iface 74 (.int .i64 c))) w.heap.size 28 28 #[.int .u8 0,.int .u8 0,.int .u32 0,.int .u32 0,.slice none 0 0,.slice none 0 0,.bool false,.int .u32 0,.int .u8 0,.int .u8 0,.int .u32 0,.slice none 0 0,.int .u32 0] (0,0) d BZ.out.at_ hu hd rep_size1
    simp only [settle,List.dropWhile_nil]
    refine ⟨.tuple #[.agg #[.int .u8 0,.int .u8 0,.int .u32 0,.int .u32 0,.slice none 0 0,.slice none 0 0,.bool false,.int .u32 0,.int .u8 0,.int .u8 0,.int .u32 0,.slice none 0 0,.int .u32 0],.iface 74 (.int .i64 c)],?_,rfl,HB.out⟩
    exact results_row_cell Tryz.results30 _ _ w.heap.size (w.heap.size + 1) _ (.iface 74 (.int .i64 c)) rfl rfl (hr _ Tryz.underlying28 rfl) (by simp [loadVar,isAgg,underlying,Tryz.underlying35,e0])

end Go.Proofs.YtfjaeohfigcciabGreatDoor

namespace Go.Proofs.YtfjaeohfigcciabGreatDoor

def Took (b : List UInt8) (s s' : Rd) (w : List UInt8) : Prop := s'.bad = false ∧ s'.at_ = s.at_ + w.length ∧ s'.at_ ≤ b.length ∧ (b.drop s.at_).take w.length = w
theorem Took.trans {b : List UInt8} {s s' s'' : Rd} {w x : List UInt8} (h : Took b s s' w) (k : Took b s' s'' x) : Took b s s'' (w ++ x) := by
  obtain ⟨_,h2,h3,h4⟩ := h
  obtain ⟨k1,k2,k3,k4⟩ := k
  refine ⟨k1,by rw [k2,h2,List.length_append]; omega,k3,?_⟩
  rw [List.length_append,List.take_add,h4,List.drop_drop,← h2,k4]
end Go.Proofs.YtfjaeohfigcciabGreatDoor

namespace Go.Proofs.YtfjaeohfigcciabGreatDoor
open Go.RowKit

def encB (l : List UInt8) : List Value := l.map fun c => .int .u8 c.toNat
theorem encB_get (l : List UInt8) (j : Nat) (c : UInt8) (h : l[j]? = some c) : (encB l)[j]? = some (.int .u8 c.toNat) := by simp [encB,h]
def Bs (w : World) (B : Nat) (v : Value) (l : List UInt8) : Prop :=
  ∃ A c,v = .slice A l.length c ∧ l.length ≤ c ∧ (A = none → c = 0) ∧ (l ≠ [] → ∃ b off,A = some ⟨b,off,none⟩ ∧ b < B ∧ ∀ j x,l[j]? = some x → w.cell? ⟨b,off + j,none⟩ = some (.int .u8 x.toNat))

theorem Bs.below {w w' : World} {B : Nat} {v : Value} {l : List UInt8} (h : Bs w B v l) (hb : Below B w w') : Bs w' B v l := by
  obtain ⟨A,c,hv,hlc,hn,hA⟩ := h
  refine ⟨A,c,hv,hlc,hn,fun hne => ?_⟩
  obtain ⟨b,off,rfl,hlt,hc⟩ := hA hne
  exact ⟨b,off,rfl,hlt,fun j x hj => (hb.cell (p := ⟨b,off + j,none⟩) hlt).trans (hc j x hj)⟩
theorem Bs.more {w : World} {B B' : Nat} {v : Value} {l : List UInt8} (h : Bs w B v l) (hB : B ≤ B') : Bs w B' v l := by
  obtain ⟨A,c,hv,hlc,hn,hA⟩ := h
  refine ⟨A,c,hv,hlc,hn,fun hne => ?_⟩
  obtain ⟨b,off,rfl,hlt,hc⟩ := hA hne
  exact ⟨b,off,rfl,by omega,hc⟩
theorem Bs.later {w w' : World} {v : Value} {l : List UInt8} (h : Bs w w.heap.size v l) (hb : Below w.heap.size w w') : Bs w' w'.heap.size v l := (h.below hb).more hb.size
theorem Bs.nil (w : World) (B : Nat) : Bs w B (.slice none 0 0) [] := ⟨none,0,rfl,Nat.le_refl _,fun _ => rfl,fun h => absurd rfl h⟩
theorem Bs.drew {w : World} {B : Nat} {v : Value} {l : List UInt8} (h : Bs w B v l) (n : Nat) : Bs (w.drewN n) B v l := h

def OwnB (w : World) (base : Nat) (v : Value) (l : List UInt8) : Prop := w.ownsRow base 5 1 v l.length (encB l)
theorem OwnB.nil (w : World) (base : Nat) : OwnB w base (.slice none 0 0) [] := w.ownsRow_nil base 5 1
theorem OwnB.alloc {w : World} {base : Nat} {v : Value} {l : List UInt8} (h : OwnB w base v l) (o : Obj) : OwnB (w.alloc o) base v l := World.ownsRow.alloc h o
theorem OwnB.mono {w : World} {base base' : Nat} {v : Value} {l : List UInt8} (h : OwnB w base v l) (hb : base' ≤ base) : OwnB w base' v l := by
  refine ⟨h.1,?_⟩
  rcases h.2 with hn | ⟨g,cap,cur,hv,hb',r⟩
  · exact .inl hn
  · exact .inr ⟨g,cap,cur,hv,by omega,r⟩
theorem OwnB.below {w w' : World} {base : Nat} {v : Value} {l : List UInt8} (h : OwnB w base v l) (hb : Below w.heap.size w w') : OwnB w' base v l := by
  refine ⟨h.1,?_⟩
  rcases h.2 with hn | ⟨g,cap,cur,hv,hb',hg,r⟩
  · exact .inl hn
  · exact .inr ⟨g,cap,cur,hv,hb',(hb.block g (Array.getElem?_eq_some_iff.1 hg).1).trans hg,r⟩
theorem OwnB.lt {w : World} {base : Nat} {v : Value} {l : List UInt8} (h : OwnB w base v l) : ∀ k,v.ownBlock = some k → base ≤ k ∧ k < w.heap.size := World.ownsRow.lt h
theorem OwnB.form {w : World} {base : Nat} {v : Value} {l : List UInt8} (h : OwnB w base v l) : ∃ A c,v = .slice A l.length c ∧ l.length ≤ c ∧ (A = none → c = 0) ∧ (l ≠ [] → ∃ g,A = some ⟨g,0,none⟩ ∧ base ≤ g ∧ g < w.heap.size) := by
  rcases h.2 with ⟨hv,hn⟩ | ⟨g,cap,cur,hv,hb',hg,hcap,r⟩
  · refine ⟨none,0,?_,by omega,fun _ => rfl,fun hne => ?_⟩
    · rw [hv,hn]
    · exact absurd (List.length_eq_zero_iff.1 hn) hne
  · exact ⟨_,cap,hv,hcap,(fun h => by simp at h),fun _ => ⟨g,rfl,hb',(Array.getElem?_eq_some_iff.1 hg).1⟩⟩
theorem OwnB.cell {w : World} {base g c n : Nat} {l : List UInt8} (h : OwnB w base (.slice (some ⟨g,0,none⟩) n c) l) (hn : n = l.length) {j : Nat} {x : UInt8} (hj : l[j]? = some x) : w.cell? ⟨g,j,none⟩ = some (.int .u8 x.toNat) := by
  have hl : j < l.length := (List.getElem?_eq_some_iff.1 hj).1
  subst hn
  exact (World.ownsRow.cellAt h j (by omega)).trans (encB_get l j x hj)
theorem OwnB.frozen {w : World} {base g c n : Nat} {l : List UInt8} (h : OwnB w base (.slice (some ⟨g,0,none⟩) n c) l) (hn : n = l.length) (j : Nat) : w.frozen? ⟨g,j,none⟩ = false := by
  subst hn
  exact World.ownsRow.frozenAt h j
theorem OwnB.bs {w : World} {base : Nat} {v : Value} {l : List UInt8} (h : OwnB w base v l) : Bs w w.heap.size v l := by
  obtain ⟨A,c,rfl,hlc,hn,hA⟩ := h.form
  refine ⟨A,c,rfl,hlc,hn,fun hne => ?_⟩
  obtain ⟨g,rfl,_,hlt⟩ := hA hne
  exact ⟨g,0,rfl,hlt,fun j x hj => by rw [Nat.zero_add]; exact h.cell rfl hj⟩

theorem Bs.form {w : World} {B : Nat} {v : Value} {l : List UInt8} (h : Bs w B v l) : ∃ A c,v = .slice A l.length c ∧ l.length ≤ c := by
  obtain ⟨A,c,hv,hc,_⟩ := h
  exact ⟨A,c,hv,hc⟩
end Go.Proofs.YtfjaeohfigcciabGreatDoor

namespace Go.Proofs.YtfjaeohfigcciabGreatDoor
open Go.RowKit

theorem Bs.take {w : World} {B : Nat} {A : Option Addr} {n c : Nat} {l : List UInt8} (h : Bs w B (.slice A n c) l) (k : Nat) (hk : k ≤ l.length) : Bs w B (.slice A k c) (l.take k) := by
  obtain ⟨A',c',hv,hlc,hn,hA⟩ := h
  cases hv
  refine ⟨A,c,by rw [List.length_take,Nat.min_eq_left hk],by rw [List.length_take]; omega,hn,fun hne => ?_⟩
  obtain ⟨b,off,hb,hlt,hc⟩ := hA (by rintro rfl; simp at hne)
  refine ⟨b,off,hb,hlt,fun j x hj => hc j x ?_⟩
  rw [List.getElem?_take] at hj
  split at hj
  · exact hj
  · cases hj
theorem Bs.drop {w : World} {B b off : Nat} {n c : Nat} {l : List UInt8} (h : Bs w B (.slice (some ⟨b,off,none⟩) n c) l) (k : Nat) (hk : k ≤ l.length) : Bs w B (.slice (some ⟨b,off + k,none⟩) (n - k) (c - k)) (l.drop k) := by
  obtain ⟨A',c',hv,hlc,hn,hA⟩ := h
  cases hv
  refine ⟨_,_,by rw [List.length_drop],by rw [List.length_drop]; omega,(fun h => by simp at h),fun hne => ?_⟩
  obtain ⟨b',off',hb,hlt,hc⟩ := hA (by rintro rfl; simp at hne)
  cases hb
  refine ⟨b,off + k,rfl,hlt,fun j x hj => ?_⟩
  rw [Nat.add_assoc]
  exact hc (k + j) x (by rw [← hj,List.getElem?_drop])

theorem bel_drewN {B : Nat} {a w : World} (h : Below B a w) (n : Nat) : Below B a (w.drewN n) := ⟨h.os,h.tape,h.output,h.size,h.block⟩
end Go.Proofs.YtfjaeohfigcciabGreatDoor

namespace Go.Proofs.YtfjaeohfigcciabGreatDoor
open Go.RowKit

theorem Bs.grown {w w' : World} {g : Nat} {bv : Value} {b : List UInt8} (h : Bs w g bv b) (hg : w.grownBy w' (some g)) (hgl : g ≤ w.heap.size) : Bs w' g bv b := by
  obtain ⟨A,c,hv,hlc,hn,hA⟩ := h
  refine ⟨A,c,hv,hlc,hn,fun hne => ?_⟩
  obtain ⟨bb,off,rfl,hlt,hc⟩ := hA hne
  exact ⟨bb,off,rfl,hlt,fun j x hj => (World.cell?_of_block (a := ⟨bb,off + j,none⟩) (hg.block bb (by omega) (by simp; omega))).trans (hc j x hj)⟩
end Go.Proofs.YtfjaeohfigcciabGreatDoor

