/- Texts in one: Later, IPlain, IMem, ISmall, Blk, Blk2, IEApp, WFrame, Plain, Small, Mem, Right, ICmp. -/
import Derived.Test.YtfjaeohfigcciabGreatDoorRows
import Derived.WalkKit
import Derived.Below
import Derived.Deep.Draws
import Derived.Deep.QuietTactic
import Derived.BigQuiet
import Derived.Calls
import Derived.Laws.OwnMore
import Derived.Deep.Quiet
import Derived.Sort.Grow
import Derived.WalkSpells
import Derived.WalkLawsBesides
import Derived.Lib.Hide
import Derived.Deep.RegionHeld3
import Derived.Laws.Rows
import Derived.Laws.Tables
import Derived.Laws.AppendOwnNone
import Derived.Lib.Walk
import Derived.Lib.SliceRun
import Derived.Shelf.SlSortCmp.QuietGrown
import Derived.Deep.DrawnRows
set_option linter.all false
namespace Go.Proofs.YtfjaeohfigcciabGreatDoor
open Go.RowKit

structure Later (w : World) where
  now : World
  bel : Below w.heap.size w now

instance laterNow (w : World) : Inhabited (Later w) := ⟨⟨w,Below.refl _ _⟩⟩

theorem wp_region_later {P : Program} {id : Nat} {Q : Exit → Act → World → Prop} {a : Act} {w : World} {l : List Oper} (hm : P.follows .mixedOrders = true) (hB : Region.lexB .any l.toArray = true)
    (h : wpQuiet P l.toArray (fun w' => ∃ p : Later w,w' = p.now) (fun a' => ∀ w',(∃ p : Later w,w' = p.now) → Q .normal a' w') l a) : (Code.region id l.toArray true).wp P Q a w :=
  wp_region_quiet (C := fun w' => ∃ p : Later w,w' = p.now) hm hB ⟨⟨_,(Below.refl _ w).drew⟩,rfl⟩ (by simpa using h)
theorem Calls.later {P : Program} {f : FuncId} {args : Array Value} {w : World} {p : Later w} {v : Value} (h : Calls P f args p.now fun e w' => e = .returned v ∧ Below p.now.heap.size p.now w') :
    Calls P f args p.now fun e w' => e = .returned v ∧ ∃ q : Later w,w' = q.now :=
  h.mono fun _ _ ⟨he,hb⟩ => ⟨he,⟨_,p.bel.trans (hb.mono p.bel.size)⟩,rfl⟩
end Go.Proofs.YtfjaeohfigcciabGreatDoor

namespace Go.Proofs.YtfjaeohfigcciabGreatDoor

structure Vr where
  (rep seq stamp : Int)
  deriving DecidableEq,Inhabited,Repr
structure En where
  (id rep seq stamp kind cls val : Int)
  deriving DecidableEq,Inhabited,Repr

def En.ver (x : En) : Vr := ⟨x.rep,x.seq,x.stamp⟩
def rvB (v : Vr) : Bool := decide (v.rep < 8 ∧ 1 ≤ v.seq ∧ 1 ≤ v.stamp)
def ltV (a b : Vr) : Bool := decide (a.stamp < b.stamp ∨ (a.stamp = b.stamp ∧ (a.rep < b.rep ∨ (a.rep = b.rep ∧ a.seq < b.seq))))
def cmpV (a b : Vr) : Int := if ltV a b = true then -1 else if ltV b a = true then 1 else 0
def rkB (x : En) : Bool := decide ((x.kind = 1 ∧ x.cls = x.val % 8) ∨ (x.kind = 2 ∧ x.cls < 8 ∧ x.val = 0) ∨ (x.kind = 3 ∧ x.cls = 0 ∧ x.val = 0))
def reB (x : En) : Bool := rvB x.ver && (decide (x.id < 64) && rkB x)
def repB (e x : En) : Bool := ltV x.ver e.ver || (decide (x.ver = e.ver) && (decide (x.kind = 2) && decide (e.kind ≠ 2)))
def fadeE (x : En) : En := if x.kind = 1 then ⟨x.id,x.rep,x.seq,x.stamp,2,x.cls,0⟩ else x

def Vr.ok (v : Vr) : Prop := (0 ≤ v.rep ∧ v.rep ≤ 255) ∧ (0 ≤ v.seq ∧ v.seq ≤ 4294967295) ∧ (0 ≤ v.stamp ∧ v.stamp ≤ 4294967295)
def En.ok (x : En) : Prop := (0 ≤ x.id ∧ x.id ≤ 255) ∧ x.ver.ok ∧ (-9223372036854775808 ≤ x.kind ∧ x.kind ≤ 9223372036854775807) ∧ (0 ≤ x.cls ∧ x.cls ≤ 255) ∧ (0 ≤ x.val ∧ x.val ≤ 4294967295)

theorem cmpV_neg (a b : Vr) : cmpV a b < 0 ↔ ltV a b = true := by
  unfold cmpV
  split
  · simp [*]
  · split <;> simp [*]
theorem cmpV_zero (a b : Vr) : cmpV a b = 0 ↔ a = b := by
  obtain ⟨r,q,t⟩ := a
  obtain ⟨r',q',t'⟩ := b
  simp only [cmpV,ltV,Vr.mk.injEq,decide_eq_true_eq]
  split
  · constructor
    · intro h; omega
    · intro h; omega
  · split
    · constructor
      · intro h; omega
      · intro h; omega
    · constructor
      · intro h; omega
      · intro h; omega
theorem ltV_irrefl (a : Vr) : ltV a a = false := by
  simp [ltV]
theorem ltV_trans {a b c : Vr} (h : ltV a b = true) (k : ltV b c = true) : ltV a c = true := by
  simp only [ltV,decide_eq_true_eq] at *
  omega
end Go.Proofs.YtfjaeohfigcciabGreatDoor

namespace Go.Proofs.YtfjaeohfigcciabGreatDoor
open Go.RowKit

def En.enc (x : En) : List Value := [.int .u8 x.id,.int .u8 x.rep,.int .u32 x.seq,.int .u32 x.stamp,.int .i64 x.kind,.int .u8 x.cls,.int .u32 x.val]

def EnAt (w : World) (b o : Nat) (x : En) : Prop := ∀ i u,x.enc[i]? = some u → w.cell? ⟨b,o + i,none⟩ = some u

theorem EnAt.all {w : World} {b o : Nat} {x : En} (h : EnAt w b o x) : w.cell? ⟨b,o,none⟩ = some (.int .u8 x.id) ∧ w.cell? ⟨b,o + 1,none⟩ = some (.int .u8 x.rep) ∧ w.cell? ⟨b,o + 2,none⟩ = some (.int .u32 x.seq) ∧ w.cell? ⟨b,o + 3,none⟩ = some (.int .u32 x.stamp) ∧ w.cell? ⟨b,o + 4,none⟩ = some (.int .i64 x.kind) ∧ w.cell? ⟨b,o + 5,none⟩ = some (.int .u8 x.cls) ∧ w.cell? ⟨b,o + 6,none⟩ = some (.int .u32 x.val) :=
  ⟨h 0 _ rfl,h 1 _ rfl,h 2 _ rfl,h 3 _ rfl,h 4 _ rfl,h 5 _ rfl,h 6 _ rfl⟩
theorem EnAt.all0 {w : World} {b : Nat} {x : En} (h : EnAt w b 0 x) : w.cell? ⟨b,0,none⟩ = some (.int .u8 x.id) ∧ w.cell? ⟨b,1,none⟩ = some (.int .u8 x.rep) ∧ w.cell? ⟨b,2,none⟩ = some (.int .u32 x.seq) ∧ w.cell? ⟨b,3,none⟩ = some (.int .u32 x.stamp) ∧ w.cell? ⟨b,4,none⟩ = some (.int .i64 x.kind) ∧ w.cell? ⟨b,5,none⟩ = some (.int .u8 x.cls) ∧ w.cell? ⟨b,6,none⟩ = some (.int .u32 x.val) := h.all
theorem EnAt.mk {w : World} {b o : Nat} {x : En} (h0 : w.cell? ⟨b,o,none⟩ = some (.int .u8 x.id)) (h1 : w.cell? ⟨b,o + 1,none⟩ = some (.int .u8 x.rep)) (h2 : w.cell? ⟨b,o + 2,none⟩ = some (.int .u32 x.seq)) (h3 : w.cell? ⟨b,o + 3,none⟩ = some (.int .u32 x.stamp)) (h4 : w.cell? ⟨b,o + 4,none⟩ = some (.int .i64 x.kind)) (h5 : w.cell? ⟨b,o + 5,none⟩ = some (.int .u8 x.cls)) (h6 : w.cell? ⟨b,o + 6,none⟩ = some (.int .u32 x.val)) : EnAt w b o x := by
  intro i u hu
  match i,hu with
  | 0,hu => simp [En.enc] at hu; subst hu; exact h0
  | 1,hu => simp [En.enc] at hu; subst hu; exact h1
  | 2,hu => simp [En.enc] at hu; subst hu; exact h2
  | 3,hu => simp [En.enc] at hu; subst hu; exact h3
  | 4,hu => simp [En.enc] at hu; subst hu; exact h4
  | 5,hu => simp [En.enc] at hu; subst hu; exact h5
  | 6,hu => simp [En.enc] at hu; subst hu; exact h6
  | i + 7,hu => simp [En.enc] at hu
theorem EnAt.keep {w w' : World} {B b o : Nat} {x : En} (h : EnAt w b o x) (hb : Below B w w') (hB : b < B) : EnAt w' b o x := fun i u hu => (hb.cell (p := ⟨b,o + i,none⟩) hB).trans (h i u hu)

def ESl (w : World) (B : Nat) (v : Value) (zs : List En) : Prop :=
  ∃ A c,v = .slice A zs.length c ∧ ((A = none → c = 0) ∧ zs.length ≤ c) ∧ (∀ x ∈ zs,x.ok) ∧ (zs ≠ [] → ∃ b off,A = some ⟨b,off,none⟩ ∧ b < B ∧ ∀ j x,zs[j]? = some x → EnAt w b (off + j * 7) x)

theorem ESl.below {w w' : World} {B : Nat} {v : Value} {zs : List En} (h : ESl w B v zs) (hb : Below B w w') : ESl w' B v zs := by
  obtain ⟨A,c,hv,hn,hok,hA⟩ := h
  refine ⟨A,c,hv,hn,hok,fun hne => ?_⟩
  obtain ⟨b,off,rfl,hlt,hc⟩ := hA hne
  exact ⟨b,off,rfl,hlt,fun j x hj => (hc j x hj).keep hb hlt⟩
theorem ESl.more {w : World} {B B' : Nat} {v : Value} {zs : List En} (h : ESl w B v zs) (hB : B ≤ B') : ESl w B' v zs := by
  obtain ⟨A,c,hv,hn,hok,hA⟩ := h
  refine ⟨A,c,hv,hn,hok,fun hne => ?_⟩
  obtain ⟨b,off,rfl,hlt,hc⟩ := hA hne
  exact ⟨b,off,rfl,by omega,hc⟩
theorem ESl.later {w w' : World} {v : Value} {zs : List En} (h : ESl w w.heap.size v zs) (hb : Below w.heap.size w w') : ESl w' w'.heap.size v zs := (h.below hb).more hb.size
theorem ESl.nil (w : World) (B : Nat) : ESl w B (.slice none 0 0) [] := ⟨none,0,rfl,⟨fun _ => rfl,Nat.le_refl _⟩,by simp,fun h => absurd rfl h⟩
theorem ESl.cap {w : World} {B : Nat} {A : Option Addr} {n c : Nat} {zs : List En} (h : ESl w B (.slice A n c) zs) : zs.length ≤ c := by
  obtain ⟨_,_,hv,hn,_⟩ := h
  injection hv with _ _ h3
  rw [h3]
  exact hn.2
theorem ESl.okAll {w : World} {B : Nat} {v : Value} {zs : List En} (h : ESl w B v zs) : ∀ x ∈ zs,x.ok := by
  obtain ⟨_,_,_,_,h,_⟩ := h
  exact h

def flatE (zs : List En) : List Value := zs.flatMap En.enc
theorem enc_length (x : En) : x.enc.length = 7 := rfl
theorem flatE_length (zs : List En) : (flatE zs).length = zs.length * 7 := by
  induction zs with
  | nil => rfl
  | cons x l ih => simp only [flatE,List.flatMap_cons,List.length_append] at *; rw [ih]; simp [En.enc]; omega
theorem flatE_append (zs ys : List En) : flatE (zs ++ ys) = flatE zs ++ flatE ys := by simp [flatE]
theorem flatE_cons (x : En) (ys : List En) : flatE (x :: ys) = x.enc ++ flatE ys := by simp [flatE]
theorem flatE_one (x : En) : flatE [x] = x.enc := by simp [flatE]
theorem flatE_take (zs : List En) (j : Nat) : flatE (zs.take j) = (flatE zs).take (j * 7) := by
  induction zs generalizing j with
  | nil => simp [flatE]
  | cons x l ih =>
    match j with
    | 0 => simp [flatE]
    | j + 1 =>
      rw [List.take_succ_cons,flatE_cons,flatE_cons,ih,List.take_append,enc_length,show x.enc.take ((j + 1) * 7) = x.enc from List.take_of_length_le (by rw [enc_length]; omega)]
      rw [show (j + 1) * 7 - 7 = j * 7 by omega]
theorem flatE_drop (zs : List En) (j : Nat) : flatE (zs.drop j) = (flatE zs).drop (j * 7) := by
  induction zs generalizing j with
  | nil => simp [flatE]
  | cons x l ih =>
    match j with
    | 0 => simp
    | j + 1 =>
      rw [List.drop_succ_cons,flatE_cons,ih,List.drop_append,enc_length,show x.enc.drop ((j + 1) * 7) = [] from List.drop_of_length_le (by rw [enc_length]; omega),List.nil_append]
      rw [show (j + 1) * 7 - 7 = j * 7 by omega]
theorem flatE_get (zs : List En) (j i : Nat) (x : En) (h : zs[j]? = some x) (hi : i < 7) : (flatE zs)[j * 7 + i]? = x.enc[i]? := by
  have hd : zs.drop j = x :: zs.drop (j + 1) := by
    obtain ⟨hj,rfl⟩ := List.getElem?_eq_some_iff.1 h
    exact List.drop_eq_getElem_cons hj
  have := congrArg flatE hd
  rw [flatE_drop,flatE_cons] at this
  have h2 := congrArg (fun l => l[i]?) this
  simp only [List.getElem?_drop] at h2
  rw [h2,List.getElem?_append_left (by rw [enc_length]; exact hi)]
theorem flatE_one_cell (zs : List En) : ∀ u ∈ flatE zs,u.oneCell' = true := by
  intro u hu
  simp only [flatE,List.mem_flatMap] at hu
  obtain ⟨x,_,hx⟩ := hu
  simp only [En.enc,List.mem_cons,List.not_mem_nil,or_false] at hx
  rcases hx with rfl | rfl | rfl | rfl | rfl | rfl | rfl <;> rfl
theorem flat_cells {w : World} {b off : Nat} {zs : List En} (h : ∀ j x,zs[j]? = some x → EnAt w b (off + j * 7) x) : ∀ j u,(flatE zs)[j]? = some u → w.cell? ⟨b,off + j,none⟩ = some u := by
  intro j u hu
  have hjl : j < zs.length * 7 := by
    have := (List.getElem?_eq_some_iff.1 hu).1
    rwa [flatE_length] at this
  have hj : j / 7 < zs.length := by omega
  have hg := flatE_get zs (j / 7) (j % 7) zs[j / 7] (List.getElem?_eq_getElem hj) (by omega)
  rw [show j / 7 * 7 + j % 7 = j by omega,hu] at hg
  have := h (j / 7) _ (List.getElem?_eq_getElem hj) (j % 7) u hg.symm
  rwa [show off + j / 7 * 7 + j % 7 = off + j by omega] at this

def EOwn (w : World) (base : Nat) (v : Value) (zs : List En) : Prop := w.ownsRow base 62 7 v zs.length (flatE zs)
theorem EOwn.nil (w : World) (base : Nat) : EOwn w base (.slice none 0 0) [] := w.ownsRow_nil base 62 7
theorem EOwn.alloc {w : World} {base : Nat} {v : Value} {zs : List En} (h : EOwn w base v zs) (o : Obj) : EOwn (w.alloc o) base v zs := World.ownsRow.alloc h o
theorem EOwn.mono {w : World} {base base' : Nat} {v : Value} {zs : List En} (h : EOwn w base v zs) (hb : base' ≤ base) : EOwn w base' v zs := by
  refine ⟨h.1,?_⟩
  rcases h.2 with hn | ⟨g,cap,cur,hv,hb',r⟩
  · exact .inl hn
  · exact .inr ⟨g,cap,cur,hv,by omega,r⟩
theorem EOwn.below {w w' : World} {base : Nat} {v : Value} {zs : List En} (h : EOwn w base v zs) (hb : Below w.heap.size w w') : EOwn w' base v zs := by
  refine ⟨h.1,?_⟩
  rcases h.2 with hn | ⟨g,cap,cur,hv,hb',hg,r⟩
  · exact .inl hn
  · exact .inr ⟨g,cap,cur,hv,hb',(hb.block g (Array.getElem?_eq_some_iff.1 hg).1).trans hg,r⟩
theorem EOwn.lt {w : World} {base : Nat} {v : Value} {zs : List En} (h : EOwn w base v zs) : ∀ k,v.ownBlock = some k → base ≤ k ∧ k < w.heap.size := World.ownsRow.lt h
theorem EOwn.form {w : World} {base : Nat} {v : Value} {zs : List En} (h : EOwn w base v zs) : ∃ A c,v = .slice A zs.length c ∧ (A = none → c = 0) ∧ (zs ≠ [] → ∃ g,A = some ⟨g,0,none⟩ ∧ base ≤ g ∧ g < w.heap.size) := by
  rcases h.2 with ⟨hv,hn⟩ | ⟨g,cap,cur,hv,hb',hg,r⟩
  · refine ⟨none,0,?_,fun _ => rfl,fun hne => ?_⟩
    · rw [hv,hn]
    · exact absurd (List.length_eq_zero_iff.1 hn) hne
  · exact ⟨_,cap,hv,(fun h => by simp at h),fun _ => ⟨g,rfl,hb',(Array.getElem?_eq_some_iff.1 hg).1⟩⟩
theorem EOwn.cell {w : World} {base g c n : Nat} {zs : List En} (h : EOwn w base (.slice (some ⟨g,0,none⟩) n c) zs) (hn : n = zs.length) {j : Nat} {x : En} (hj : zs[j]? = some x) : EnAt w g (j * 7) x := by
  have hl : j < zs.length := (List.getElem?_eq_some_iff.1 hj).1
  subst hn
  intro i u hu
  have hi : i < 7 := by have := (List.getElem?_eq_some_iff.1 hu).1; rwa [enc_length] at this
  exact (World.ownsRow.cellAt h (j * 7 + i) (by omega)).trans ((flatE_get zs j i x hj hi).trans hu)
theorem EOwn.le {w : World} {base : Nat} {A : Option Addr} {n c : Nat} {zs : List En} (h : EOwn w base (.slice A n c) zs) : zs.length ≤ c := by
  rcases h.2 with ⟨_,hn⟩ | ⟨g,cap,cur,hv,_,_,hle,_⟩
  · omega
  · injection hv with _ _ h3
    omega
theorem EOwn.sl {w : World} {base : Nat} {v : Value} {zs : List En} (h : EOwn w base v zs) (hok : ∀ x ∈ zs,x.ok) : ESl w w.heap.size v zs := by
  obtain ⟨A,c,rfl,hn,hA⟩ := h.form
  refine ⟨A,c,rfl,⟨hn,h.le⟩,hok,fun hne => ?_⟩
  obtain ⟨g,rfl,_,hlt⟩ := hA hne
  exact ⟨g,0,rfl,hlt,fun j x hj => by rw [Nat.zero_add]; exact h.cell rfl hj⟩

theorem EnAt.later {w : World} {b o : Nat} {x : En} (h : EnAt w b o x) (hB : b < w.heap.size) (p : Later w) : EnAt p.now b o x := h.keep p.bel hB
theorem new_entry (w : World) (x : En) (t : TypeId) : EnAt (w.alloc (.cells #[.int .u8 x.id,.int .u8 x.rep,.int .u32 x.seq,.int .u32 x.stamp,.int .i64 x.kind,.int .u8 x.cls,.int .u32 x.val] t)) w.heap.size 0 x := by
  apply EnAt.mk <;> simp
end Go.Proofs.YtfjaeohfigcciabGreatDoor

namespace Go.Proofs.YtfjaeohfigcciabGreatDoor
open Go.RowKit

theorem al1 (w : World) (o : Obj) : Below w.heap.size w (w.alloc o) := (Below.refl _ w).alloc (Nat.le_refl _) o
theorem al2 (w : World) (o o' : Obj) : Below w.heap.size w ((w.alloc o).alloc o') := (al1 w o).alloc (by simp) o'

set_option maxHeartbeats 400000 in
theorem iRightVer_any (r q t : Int) (w : World) :
    Calls Tryz.prog 139 #[.agg #[.int .u8 r,.int .u32 q,.int .u32 t]] w fun e w' => e = .returned (.bool (rvB ⟨r,q,t⟩)) ∧ Below w.heap.size w w' := by
  by_cases h1 : r < 8
  · by_cases h2 : 1 ≤ q
    · by_cases h3 : 1 ≤ t
      · have e : rvB ⟨r,q,t⟩ = true := by simp [rvB,h1,h2,h3]
        rw [e]; clear e
        go_enter Tryz.func139,Tryz.ntmps139
        go_wp2
        go_ret
        exact ⟨rfl,al1 _ _⟩
      · have e : rvB ⟨r,q,t⟩ = false := by simp [rvB,h1,h2,h3]
        rw [e]; clear e
        go_enter Tryz.func139,Tryz.ntmps139
        go_wp2
        go_ret
        exact ⟨rfl,al1 _ _⟩
    · have e : rvB ⟨r,q,t⟩ = false := by simp [rvB,h1,h2]
      rw [e]; clear e
      go_enter Tryz.func139,Tryz.ntmps139
      go_wp2
      go_ret
      exact ⟨rfl,al1 _ _⟩
  · have e : rvB ⟨r,q,t⟩ = false := by simp [rvB,h1]
    rw [e]; clear e
    go_enter Tryz.func139,Tryz.ntmps139
    go_wp2
    go_ret
    exact ⟨rfl,al1 _ _⟩
set_option maxHeartbeats 400000 in
theorem rRightVer_any (r q t : Int) (w : World) :
    Calls Tryz.prog 124 #[.agg #[.int .u8 r,.int .u32 q,.int .u32 t]] w fun e w' => e = .returned (.bool (rvB ⟨r,q,t⟩)) ∧ Below w.heap.size w w' := by
  by_cases h1 : r < 8
  · by_cases h2 : 0 < q
    · by_cases h3 : 0 < t
      · have e : rvB ⟨r,q,t⟩ = true := by simp [rvB]; omega
        rw [e]; clear e
        go_enter Tryz.func124,Tryz.ntmps124
        go_wp2
        go_ret
        exact ⟨rfl,al1 _ _⟩
      · have e : rvB ⟨r,q,t⟩ = false := by simp [rvB]; omega
        rw [e]; clear e
        go_enter Tryz.func124,Tryz.ntmps124
        go_wp2
        go_ret
        exact ⟨rfl,al1 _ _⟩
    · have e : rvB ⟨r,q,t⟩ = false := by simp [rvB]; omega
      rw [e]; clear e
      go_enter Tryz.func124,Tryz.ntmps124
      go_wp2
      go_ret
      exact ⟨rfl,al1 _ _⟩
  · have e : rvB ⟨r,q,t⟩ = false := by simp [rvB,h1]
    rw [e]; clear e
    go_enter Tryz.func124,Tryz.ntmps124
    go_wp2
    go_ret
    exact ⟨rfl,al1 _ _⟩

def icmpI (a b : Int) : Int := if a < b then -1 else if b < a then 1 else 0
theorem inan8_any (a : Int) (w : World) : Calls Tryz.prog 150 #[.int .u8 a] w fun e w' => e = .returned (.bool false) ∧ w' = w := by
  go_enter Tryz.func150,Tryz.ntmps150
  go_wp2
  go_ret
  exact ⟨rfl,rfl⟩
theorem inan32_any (a : Int) (w : World) : Calls Tryz.prog 151 #[.int .u32 a] w fun e w' => e = .returned (.bool false) ∧ w' = w := by
  go_enter Tryz.func151,Tryz.ntmps151
  go_wp2
  go_ret
  exact ⟨rfl,rfl⟩
set_option maxHeartbeats 400000 in
theorem icmp8_any (a b : Int) (w : World) : Calls Tryz.prog 137 #[.int .u8 a,.int .u8 b] w fun e w' => e = .returned (.int .i64 (icmpI a b)) ∧ w' = w := by
  by_cases h1 : a < b
  · rw [show icmpI a b = -1 by simp [icmpI,h1]]
    go_enter Tryz.func137,Tryz.ntmps137
    go_wp2_with (go_at_call 150; refine (inan8_any _ _).mono ?_; rintro e w' ⟨rfl,rfl⟩)
    go_ret
    exact ⟨rfl,rfl⟩
  · by_cases h2 : b < a
    · rw [show icmpI a b = 1 by simp [icmpI,h1,h2]]
      go_enter Tryz.func137,Tryz.ntmps137
      go_wp2_with (go_at_call 150; refine (inan8_any _ _).mono ?_; rintro e w' ⟨rfl,rfl⟩)
      go_ret
      exact ⟨rfl,rfl⟩
    · rw [show icmpI a b = 0 by simp [icmpI,h1,h2]]
      go_enter Tryz.func137,Tryz.ntmps137
      go_wp2_with (go_at_call 150; refine (inan8_any _ _).mono ?_; rintro e w' ⟨rfl,rfl⟩)
      go_ret
      exact ⟨rfl,rfl⟩
set_option maxHeartbeats 400000 in
theorem icmp32_any (a b : Int) (w : World) : Calls Tryz.prog 138 #[.int .u32 a,.int .u32 b] w fun e w' => e = .returned (.int .i64 (icmpI a b)) ∧ w' = w := by
  by_cases h1 : a < b
  · rw [show icmpI a b = -1 by simp [icmpI,h1]]
    go_enter Tryz.func138,Tryz.ntmps138
    go_wp2_with (go_at_call 151; refine (inan32_any _ _).mono ?_; rintro e w' ⟨rfl,rfl⟩)
    go_ret
    exact ⟨rfl,rfl⟩
  · by_cases h2 : b < a
    · rw [show icmpI a b = 1 by simp [icmpI,h1,h2]]
      go_enter Tryz.func138,Tryz.ntmps138
      go_wp2_with (go_at_call 151; refine (inan32_any _ _).mono ?_; rintro e w' ⟨rfl,rfl⟩)
      go_ret
      exact ⟨rfl,rfl⟩
    · rw [show icmpI a b = 0 by simp [icmpI,h1,h2]]
      go_enter Tryz.func138,Tryz.ntmps138
      go_wp2_with (go_at_call 151; refine (inan32_any _ _).mono ?_; rintro e w' ⟨rfl,rfl⟩)
      go_ret
      exact ⟨rfl,rfl⟩

set_option maxHeartbeats 400000 in
theorem cmpOr_any (g : Nat) (a b c : Int) (w : World) (c0 : w.cell? ⟨g,0,none⟩ = some (.int .i64 a)) (c1 : w.cell? ⟨g,1,none⟩ = some (.int .i64 b)) (c2 : w.cell? ⟨g,2,none⟩ = some (.int .i64 c)) :
    Calls Tryz.prog 153 #[.slice (some ⟨g,0,none⟩) 3 3] w fun e w' => e = .returned (.int .i64 (if a = 0 then (if b = 0 then c else b) else a)) ∧ w' = w := by
  by_cases h1 : a = 0
  · subst h1
    by_cases h2 : b = 0
    · subst h2
      by_cases h3 : c = 0
      · subst h3
        simp only [if_true]
        go_enter Tryz.func153,Tryz.ntmps153
        go_wp2
        refine wp_loop_rounds 4 ?_
        rw [rounds_succ]
        go_wp2
        rw [rounds_succ]
        go_wp2
        rw [rounds_succ]
        go_wp2
        rw [rounds_succ]
        go_wp2
        go_ret
        exact ⟨rfl,rfl⟩
      · have h3' : (c != 0) = true := by simp [h3]
        simp only [if_true]
        clear h3
        go_enter Tryz.func153,Tryz.ntmps153
        go_wp2
        refine wp_loop_rounds 4 ?_
        rw [rounds_succ]
        go_wp2
        rw [rounds_succ]
        go_wp2
        rw [rounds_succ]
        go_wp2
        go_ret
        exact ⟨rfl,rfl⟩
    · have h2' : (b != 0) = true := by simp [h2]
      simp only [if_true,if_neg h2]
      clear h2
      go_enter Tryz.func153,Tryz.ntmps153
      go_wp2
      refine wp_loop_rounds 4 ?_
      rw [rounds_succ]
      go_wp2
      rw [rounds_succ]
      go_wp2
      go_ret
      exact ⟨rfl,rfl⟩
  · have h1' : (a != 0) = true := by simp [h1]
    simp only [if_neg h1]
    clear h1
    go_enter Tryz.func153,Tryz.ntmps153
    go_wp2
    refine wp_loop_rounds 4 ?_
    rw [rounds_succ]
    go_wp2
    go_ret
    exact ⟨rfl,rfl⟩
end Go.Proofs.YtfjaeohfigcciabGreatDoor

namespace Go.Proofs.YtfjaeohfigcciabGreatDoor
open Go.RowKit

structure Blk (W : World) (g : Nat) (cs : Array Value) (t : TypeId) : Prop where
  at_ : W.heap[g]? = some (.cells cs t (0,0))
theorem Blk.lt {W : World} {g : Nat} {cs : Array Value} {t : TypeId} (h : Blk W g cs t) : g < W.heap.size := (Array.getElem?_eq_some_iff.1 h.at_).1
theorem Blk.new (w : World) (cs : Array Value) (t : TypeId) : Blk (w.alloc (.cells cs t)) w.heap.size cs t := ⟨heap_alloc_new w _⟩
theorem Blk.keep {W W' : World} {g : Nat} {cs : Array Value} {t : TypeId} (h : Blk W g cs t) (hb : Below W.heap.size W W') : Blk W' g cs t := ⟨(hb.block g h.lt).trans h.at_⟩
theorem Blk.alloc {W : World} {g : Nat} {cs : Array Value} {t : TypeId} (h : Blk W g cs t) (o : Obj) : Blk (W.alloc o) g cs t := h.keep (al1 W o)
theorem Blk.cell {W : World} {g : Nat} {cs : Array Value} {t : TypeId} (h : Blk W g cs t) (j : Nat) (u : Value) (hu : cs[j]? = some u) : W.cell? ⟨g,j,none⟩ = some u := (cell_of_row W g j cs _ _ h.at_).trans hu

theorem blk_two (w : World) (a : Obj) (cs : Array Value) (t : TypeId) : Blk ((w.alloc a).alloc (.cells cs t)) (w.heap.size + 1) cs t := by
  have h := Blk.new (w.alloc a) cs t
  have e : (w.alloc a).heap.size = w.heap.size + 1 := by simp
  rw [e] at h
  exact h
theorem al3 (w : World) (a b c : Obj) : Below w.heap.size w (((w.alloc a).alloc b).alloc c) := (al2 w a b).trans ((al1 _ c).mono (al2 w a b).size)
theorem blk_three (w : World) (a : Array Value) (ta : TypeId) (b : Array Value) (tb : TypeId) (c : Array Value) (tc : TypeId) :
    Blk (((w.alloc (.cells a ta)).alloc (.cells b tb)).alloc (.cells c tc)) w.heap.size a ta ∧ Blk (((w.alloc (.cells a ta)).alloc (.cells b tb)).alloc (.cells c tc)) (w.heap.size + 1) b tb ∧ Blk (((w.alloc (.cells a ta)).alloc (.cells b tb)).alloc (.cells c tc)) (w.heap.size + 1 + 1) c tc := by
  refine ⟨((Blk.new w a ta).alloc _).alloc _,(blk_two w _ b tb).alloc _,?_⟩
  have h := blk_two (w.alloc (.cells a ta)) (.cells b tb) c tc
  have e : (w.alloc (.cells a ta)).heap.size = w.heap.size + 1 := by simp
  rw [e] at h
  exact h

theorem Blk.row {W : World} {g : Nat} {cs : Array Value} {t : TypeId} (h : Blk W g cs t) (cs' : Array Value) : Blk (W.setRow g cs') g cs' t := ⟨setRow_heap W g cs cs' t (0,0) h.at_⟩
theorem Blk.other {W : World} {g k : Nat} {cs : Array Value} {t : TypeId} (h : Blk W g cs t) (hne : g ≠ k) (cs' : Array Value) : Blk (W.setRow k cs') g cs t := ⟨(setRow_other W k g cs' hne).trans h.at_⟩
theorem al4 (w : World) (a b c d : Obj) : Below w.heap.size w ((((w.alloc a).alloc b).alloc c).alloc d) := (al3 w a b c).trans ((al1 _ d).mono (al3 w a b c).size)
theorem blk_four (w : World) (a : Array Value) (ta : TypeId) (b : Array Value) (tb : TypeId) (c : Array Value) (tc : TypeId) (d : Array Value) (td : TypeId) :
    Blk ((((w.alloc (.cells a ta)).alloc (.cells b tb)).alloc (.cells c tc)).alloc (.cells d td)) w.heap.size a ta ∧ Blk ((((w.alloc (.cells a ta)).alloc (.cells b tb)).alloc (.cells c tc)).alloc (.cells d td)) (w.heap.size + 1) b tb ∧
      Blk ((((w.alloc (.cells a ta)).alloc (.cells b tb)).alloc (.cells c tc)).alloc (.cells d td)) (w.heap.size + 1 + 1) c tc ∧ Blk ((((w.alloc (.cells a ta)).alloc (.cells b tb)).alloc (.cells c tc)).alloc (.cells d td)) (w.heap.size + 1 + 1 + 1) d td := by
  obtain ⟨h1,h2,h3⟩ := blk_three w a ta b tb c tc
  refine ⟨h1.alloc _,h2.alloc _,h3.alloc _,?_⟩
  have h := Blk.new (((w.alloc (.cells a ta)).alloc (.cells b tb)).alloc (.cells c tc)) d td
  have e : (((w.alloc (.cells a ta)).alloc (.cells b tb)).alloc (.cells c tc)).heap.size = w.heap.size + 1 + 1 + 1 := by simp
  rw [e] at h
  exact h
theorem Blk.free {W : World} {g : Nat} {cs : Array Value} {t : TypeId} (h : Blk W g cs t) (j : Nat) : W.frozen? ⟨g,j,none⟩ = false := by
  simp [World.frozen?,h.at_]
theorem ESl.set {W : World} {B : Nat} {v u : Value} {zs : List En} {g j : Nat} (h : ESl W B v zs) (hne : ∀ b o x,x ∈ zs → EnAt W b o x → b ≠ g) : ESl (W.setCell ⟨g,j,none⟩ u) B v zs := by
  obtain ⟨A,c,hv,hn,hok,hA⟩ := h
  refine ⟨A,c,hv,hn,hok,fun hz => ?_⟩
  obtain ⟨b,off,hA1,hb,hc⟩ := hA hz
  refine ⟨b,off,hA1,hb,fun k x hx i y hy => ?_⟩
  have hbg := hne b _ x (List.mem_of_getElem? hx) (hc k x hx)
  rw [World.cell?_setCell_other _ _ _ _ (by intro hc; exact hbg (congrArg Addr.block hc).symm)]
  exact hc k x hx i y hy
theorem ESl.tail {W : World} {B b off len c d : Nat} {zs : List En} (h : ESl W B (.slice (some ⟨b,off,none⟩) len c) zs) (hd : d < zs.length) : ESl W B (.slice (some ⟨b,off + d * 7,none⟩) (len - d) (c - d)) (zs.drop d) := by
  obtain ⟨A,c',hv,hn,hok,hA⟩ := h
  injection hv with h1 h2 h3
  subst h1 h2 h3
  obtain ⟨b',off',hA1,hb,hc⟩ := hA (by intro h; rw [h] at hd; simp at hd)
  injection hA1 with hA1
  injection hA1 with e1 e2 e3
  subst e1 e2
  refine ⟨_,c - d,by rw [List.length_drop],⟨(fun h => by cases h),by have := hn.2; rw [List.length_drop]; omega⟩,fun x hx => hok x (List.mem_of_mem_drop hx),fun _ => ⟨b,off + d * 7,rfl,hb,fun j x hj => ?_⟩⟩
  rw [List.getElem?_drop] at hj
  have := hc (d + j) x hj
  rw [show off + (d + j) * 7 = off + d * 7 + j * 7 by rw [Nat.add_mul]; omega] at this
  exact this
end Go.Proofs.YtfjaeohfigcciabGreatDoor

namespace Go.Proofs.YtfjaeohfigcciabGreatDoor
open Go.RowKit

theorem Blk.put {W : World} {g : Nat} {cs : Array Value} {t : TypeId} (h : Blk W g cs t) (j : Nat) (u : Value) : Blk (W.setCell ⟨g,j,none⟩ u) g (cs.setIfInBounds j u) t := by
  obtain ⟨hlt,hk⟩ := Array.getElem?_eq_some_iff.1 h.at_
  refine ⟨?_⟩
  show (W.heap.modify g _)[g]? = _
  rw [Array.getElem?_eq_getElem (by rw [Array.size_modify]; exact hlt),Array.getElem_modify_self,hk]
  rfl
theorem Blk.setOther {W : World} {g k : Nat} {cs : Array Value} {t : TypeId} (h : Blk W g cs t) (hne : g ≠ k) (j : Nat) (u : Value) : Blk (W.setCell ⟨k,j,none⟩ u) g cs t := ⟨(heap_setCell_other W ⟨k,j,none⟩ g u (by simp; omega)).trans h.at_⟩
end Go.Proofs.YtfjaeohfigcciabGreatDoor

namespace Go.Proofs.YtfjaeohfigcciabGreatDoor
open Go.RowKit

theorem infoEnt : (Tryz.prog.info? 62).map (fun i => (i.zero,i.size,i.bytes)) = some (some (.agg #[.int .u8 0,.int .u8 0,.int .u32 0,.int .u32 0,.int .i64 0,.int .u8 0,.int .u32 0]),7,32) := by kernel_rfl

theorem append_ents {ops : Array Oper} {rest : List Oper} {o : Oper} {a : Act} {w : World} {Q : Exit → Act → World → Prop} (hgd : o.guard = none) (s x : Operand)
    (ho : o.op = .call { callee := .builtin .append,args := #[s,x],argTypes := #[24,24] })
    (base : Nat) (v : Value) (zs : List En) (hs : a.eval s = v) (hown : EOwn w base v zs) (B : Nat) (v2 : Value) (ys : List En) (hx : a.eval x = v2) (hsl : ESl w B v2 ys)
    (hlen : zs.length + ys.length ≤ 10000) (hbase : base ≤ w.heap.size)
    (h : ∀ v' w',EOwn w' base v' (zs ++ ys) → w.grownBy w' v.ownBlock → wpList Tryz.prog ops Q rest (a.put o.dst v') w') : wpList Tryz.prog ops Q (o :: rest) a w := by
  obtain ⟨i0,hi,hz0,hz1,hz2⟩ := info_parts infoEnt
  obtain ⟨A,c,rfl,hn,hok,hA⟩ := hsl
  rcases A with _ | ad
  · have hy : ys = [] := by
      by_cases hne : ys = []
      · exact hne
      · obtain ⟨b,off,h,_⟩ := hA hne
        cases h
    subst hy
    obtain rfl := hn.1 rfl
    refine wpList_append_own_none hgd s x 24 ho base 62 i0 7 Tryz.underlying24 hi v zs.length (flatE zs) hs hown hx ?_
    have := h v w (by simpa using hown) ⟨rfl,rfl,rfl,Nat.le_refl _,fun _ _ _ => rfl⟩
    exact this
  · refine wpList_append_own w hgd s x 24 ho base 62 i0 _ 7 32 Tryz.underlying24 hi hz0 hz1 hz2 rfl (by decide) v zs.length (flatE zs) hs hown ad ys.length c (flatE ys) hx (flatE_length ys) ?_ (flatE_one_cell ys) (by unfold maxLen; omega) (by omega) hbase ?_
    · intro j u hu
      have hne : ys ≠ [] := by rintro rfl; simp [flatE] at hu
      obtain ⟨b,off,hbo,_,hc⟩ := hA hne
      cases hbo
      have e : ∀ m,(⟨b,off,none⟩ : Addr).add m = ⟨b,off + m,none⟩ := fun m => by unfold Addr.add; split <;> simp_all
      rw [e]
      exact flat_cells hc j u hu
    · intro v' w' h1 h2 _
      refine h v' w' ?_ h2
      unfold EOwn
      rw [flatE_append,List.length_append]
      exact h1

def EOwnPost (w : World) (zs : List En) (e : Ending) (w' : World) : Prop := ∃ v,e = .returned v ∧ EOwn w' w.heap.size v zs ∧ Below w.heap.size w w'

theorem egrown_below {a w w' : World} {B : Nat} {v : Value} {zs : List En} {base : Nat} (h : Below B a w) (ho : EOwn w base v zs) (hg : w.grownBy w' v.ownBlock) (hB : B ≤ base) (hb : B ≤ w.heap.size) : Below B a w' :=
  h.grown hg hb (fun k hk => by have := ho.lt k hk; omega)

theorem one_esl (w : World) (x : En) (hx : x.ok) : ESl (w.alloc (.cells #[.int .u8 x.id,.int .u8 x.rep,.int .u32 x.seq,.int .u32 x.stamp,.int .i64 x.kind,.int .u8 x.cls,.int .u32 x.val] 62)) (w.heap.size + 1) (.slice (some ⟨w.heap.size,0,none⟩) 1 1) [x] := by
  refine ⟨some ⟨w.heap.size,0,none⟩,1,rfl,⟨(fun h => by simp at h),by simp⟩,by simpa using hx,fun _ => ⟨w.heap.size,0,rfl,by omega,fun j y hj => ?_⟩⟩
  match j,hj with
  | 0,hj => simp at hj; subst hj; exact new_entry w x _
  | j + 1,hj => simp at hj

theorem one_esl' (w : World) (g : Nat) (id rep seq stamp kind cls val : Int) (hg : g = w.heap.size) (hx : En.ok ⟨id,rep,seq,stamp,kind,cls,val⟩) : ESl (w.alloc (.cells #[.int .u8 id,.int .u8 rep,.int .u32 seq,.int .u32 stamp,.int .i64 kind,.int .u8 cls,.int .u32 val] 62)) (g + 1) (.slice (some ⟨g,0,none⟩) 1 1) [⟨id,rep,seq,stamp,kind,cls,val⟩] := by
  subst hg
  exact one_esl w ⟨id,rep,seq,stamp,kind,cls,val⟩ hx

end Go.Proofs.YtfjaeohfigcciabGreatDoor

namespace Go.Proofs.YtfjaeohfigcciabGreatDoor

def four (w : Nat) : List UInt8 := [UInt8.ofNat (w / 16777216),UInt8.ofNat (w / 65536 % 256),UInt8.ofNat (w / 256 % 256),UInt8.ofNat (w % 256)]
/-! what is altered -/
end Go.Proofs.YtfjaeohfigcciabGreatDoor

namespace Go.Proofs.YtfjaeohfigcciabGreatDoor

structure Rn where
  (r lo hi : Int)
  deriving DecidableEq,Inhabited,Repr

def rrB (x : Rn) : Bool := decide (x.r < 8 ∧ 1 ≤ x.lo ∧ x.lo ≤ x.hi)
def covB (x : Rn) (p n : Int) : Bool := decide (x.r = p ∧ x.lo ≤ n ∧ n ≤ x.hi)
def apB (x y : Rn) : Bool := decide (x.r < y.r ∨ (x.r = y.r ∧ x.hi + 1 < y.lo))
def Rn.ok (x : Rn) : Prop := (0 ≤ x.r ∧ x.r ≤ 255) ∧ (0 ≤ x.lo ∧ x.lo ≤ 4294967295) ∧ (0 ≤ x.hi ∧ x.hi ≤ 4294967295)

end Go.Proofs.YtfjaeohfigcciabGreatDoor

namespace Go.Proofs.YtfjaeohfigcciabGreatDoor
open Go.RowKit

set_option maxHeartbeats 400000 in
theorem rightRun_any (r lo hi : Int) (w : World) :
    Calls Tryz.prog 117 #[.agg #[.int .u8 r,.int .u32 lo,.int .u32 hi]] w fun e w' => e = .returned (.bool (rrB ⟨r,lo,hi⟩)) ∧ w' = w.alloc (.cells #[.int .u8 r,.int .u32 lo,.int .u32 hi] 67) := by
  by_cases h1 : r < 8
  · by_cases h2 : 1 ≤ lo
    · by_cases h3 : lo ≤ hi
      · have e : rrB ⟨r,lo,hi⟩ = true := by simp [rrB,h1,h2,h3]
        rw [e]; clear e
        go_enter Tryz.func117,Tryz.ntmps117
        go_wp2
        go_ret
        exact ⟨rfl,rfl⟩
      · have e : rrB ⟨r,lo,hi⟩ = false := by simp [rrB,h1,h2,h3]
        rw [e]; clear e
        go_enter Tryz.func117,Tryz.ntmps117
        go_wp2
        go_ret
        exact ⟨rfl,rfl⟩
    · have e : rrB ⟨r,lo,hi⟩ = false := by simp [rrB,h1,h2]
      rw [e]; clear e
      go_enter Tryz.func117,Tryz.ntmps117
      go_wp2
      go_ret
      exact ⟨rfl,rfl⟩
  · have e : rrB ⟨r,lo,hi⟩ = false := by simp [rrB,h1]
    rw [e]; clear e
    go_enter Tryz.func117,Tryz.ntmps117
    go_wp2
    go_ret
    exact ⟨rfl,rfl⟩


set_option maxHeartbeats 400000 in
theorem covers_any (r lo hi p n : Int) (w : World) :
    Calls Tryz.prog 125 #[.agg #[.int .u8 r,.int .u32 lo,.int .u32 hi],.int .u8 p,.int .u32 n] w fun e w' => e = .returned (.bool (covB ⟨r,lo,hi⟩ p n)) ∧ w' = w.alloc (.cells #[.int .u8 r,.int .u32 lo,.int .u32 hi] 67) := by
  by_cases h1 : r = p
  · subst h1
    by_cases h2 : lo ≤ n
    · by_cases h3 : n ≤ hi
      · have e : covB ⟨r,lo,hi⟩ r n = true := by simp [covB,h2,h3]
        rw [e]; clear e
        go_enter Tryz.func125,Tryz.ntmps125
        go_wp2
        go_ret
        exact ⟨rfl,rfl⟩
      · have e : covB ⟨r,lo,hi⟩ r n = false := by simp [covB,h2,h3]
        rw [e]; clear e
        go_enter Tryz.func125,Tryz.ntmps125
        go_wp2
        go_ret
        exact ⟨rfl,rfl⟩
    · have e : covB ⟨r,lo,hi⟩ r n = false := by simp [covB,h2]
      rw [e]; clear e
      go_enter Tryz.func125,Tryz.ntmps125
      go_wp2
      go_ret
      exact ⟨rfl,rfl⟩
  · have e : covB ⟨r,lo,hi⟩ p n = false := by simp [covB,h1]
    have h1' : (r == p) = false := by simp [h1]
    rw [e]; clear e
    go_enter Tryz.func125,Tryz.ntmps125
    go_wp2
    go_ret
    exact ⟨rfl,rfl⟩

set_option maxHeartbeats 400000 in
theorem apart_any (r lo hi r' lo' hi' : Int) (w : World) (a1 : 0 ≤ hi) (a2 : hi ≤ 4294967295) (b1 : 0 ≤ lo') (b2 : lo' ≤ 4294967295) :
    Calls Tryz.prog 118 #[.agg #[.int .u8 r,.int .u32 lo,.int .u32 hi],.agg #[.int .u8 r',.int .u32 lo',.int .u32 hi']] w fun e w' => e = .returned (.bool (apB ⟨r,lo,hi⟩ ⟨r',lo',hi'⟩)) ∧ w' = (w.alloc (.cells #[.int .u8 r,.int .u32 lo,.int .u32 hi] 67)).alloc (.cells #[.int .u8 r',.int .u32 lo',.int .u32 hi'] 67) := by
  by_cases h1 : r = r'
  · subst h1
    by_cases h2 : lo' ≤ hi
    · have e : apB ⟨r,lo,hi⟩ ⟨r,lo',hi'⟩ = false := by simp [apB]; omega
      rw [e]; clear e
      go_enter Tryz.func118,Tryz.ntmps118
      go_wp2
      go_ret
      exact ⟨rfl,rfl⟩
    · have hb1 : 0 ≤ lo' - hi := by omega
      have hb2 : lo' - hi ≤ 4294967295 := by omega
      by_cases h3 : lo' - hi = 1
      · have e : apB ⟨r,lo,hi⟩ ⟨r,lo',hi'⟩ = false := by simp [apB]; omega
        rw [e]; clear e
        have h3' : (lo' - hi == 1) = true := by simp [h3]
        clear h3
        go_enter Tryz.func118,Tryz.ntmps118
        go_wp2
        go_ret
        exact ⟨rfl,rfl⟩
      · have e : apB ⟨r,lo,hi⟩ ⟨r,lo',hi'⟩ = true := by simp [apB]; omega
        rw [e]; clear e
        have h3' : (lo' - hi == 1) = false := by simp [h3]
        go_enter Tryz.func118,Tryz.ntmps118
        go_wp2
        go_ret
        exact ⟨rfl,rfl⟩
  · have h1' : (r == r') = false := by simp [h1]
    by_cases h2 : r < r'
    · have e : apB ⟨r,lo,hi⟩ ⟨r',lo',hi'⟩ = true := by simp [apB,h2]
      rw [e]; clear e
      go_enter Tryz.func118,Tryz.ntmps118
      go_wp2
      go_ret
      exact ⟨rfl,rfl⟩
    · have e : apB ⟨r,lo,hi⟩ ⟨r',lo',hi'⟩ = false := by simp [apB]; omega
      rw [e]; clear e
      go_enter Tryz.func118,Tryz.ntmps118
      go_wp2
      go_ret
      exact ⟨rfl,rfl⟩

def cmpI (a b : Int) : Int := if a < b then -1 else if b < a then 1 else 0

theorem nan8_any (a : Int) (w : World) : Calls Tryz.prog 150 #[.int .u8 a] w fun e w' => e = .returned (.bool false) ∧ w' = w := by
  go_enter Tryz.func150,Tryz.ntmps150
  go_wp2
  go_ret
  exact ⟨rfl,rfl⟩
theorem nan32_any (a : Int) (w : World) : Calls Tryz.prog 151 #[.int .u32 a] w fun e w' => e = .returned (.bool false) ∧ w' = w := by
  go_enter Tryz.func151,Tryz.ntmps151
  go_wp2
  go_ret
  exact ⟨rfl,rfl⟩

set_option maxHeartbeats 400000 in
theorem cmp8_any (a b : Int) (w : World) : Calls Tryz.prog 137 #[.int .u8 a,.int .u8 b] w fun e w' => e = .returned (.int .i64 (cmpI a b)) ∧ w' = w := by
  by_cases h1 : a < b
  · rw [show cmpI a b = -1 by simp [cmpI,h1]]
    go_enter Tryz.func137,Tryz.ntmps137
    go_wp2_with (go_at_call 150; refine (nan8_any _ _).mono ?_; rintro e w' ⟨rfl,rfl⟩)
    go_ret
    exact ⟨rfl,rfl⟩
  · by_cases h2 : b < a
    · rw [show cmpI a b = 1 by simp [cmpI,h1,h2]]
      go_enter Tryz.func137,Tryz.ntmps137
      go_wp2_with (go_at_call 150; refine (nan8_any _ _).mono ?_; rintro e w' ⟨rfl,rfl⟩)
      go_ret
      exact ⟨rfl,rfl⟩
    · rw [show cmpI a b = 0 by simp [cmpI,h1,h2]]
      go_enter Tryz.func137,Tryz.ntmps137
      go_wp2_with (go_at_call 150; refine (nan8_any _ _).mono ?_; rintro e w' ⟨rfl,rfl⟩)
      go_ret
      exact ⟨rfl,rfl⟩
set_option maxHeartbeats 400000 in
theorem cmp32_any (a b : Int) (w : World) : Calls Tryz.prog 138 #[.int .u32 a,.int .u32 b] w fun e w' => e = .returned (.int .i64 (cmpI a b)) ∧ w' = w := by
  by_cases h1 : a < b
  · rw [show cmpI a b = -1 by simp [cmpI,h1]]
    go_enter Tryz.func138,Tryz.ntmps138
    go_wp2_with (go_at_call 151; refine (nan32_any _ _).mono ?_; rintro e w' ⟨rfl,rfl⟩)
    go_ret
    exact ⟨rfl,rfl⟩
  · by_cases h2 : b < a
    · rw [show cmpI a b = 1 by simp [cmpI,h1,h2]]
      go_enter Tryz.func138,Tryz.ntmps138
      go_wp2_with (go_at_call 151; refine (nan32_any _ _).mono ?_; rintro e w' ⟨rfl,rfl⟩)
      go_ret
      exact ⟨rfl,rfl⟩
    · rw [show cmpI a b = 0 by simp [cmpI,h1,h2]]
      go_enter Tryz.func138,Tryz.ntmps138
      go_wp2_with (go_at_call 151; refine (nan32_any _ _).mono ?_; rintro e w' ⟨rfl,rfl⟩)
      go_ret
      exact ⟨rfl,rfl⟩

def cmpR (x y : Rn) : Int := if x.r = y.r then cmpI x.lo y.lo else cmpI x.r y.r

set_option maxHeartbeats 400000 in
theorem ordC_any (r lo hi r' lo' hi' : Int) (w : World) :
    Calls Tryz.prog 136 #[.agg #[.int .u8 r,.int .u32 lo,.int .u32 hi],.agg #[.int .u8 r',.int .u32 lo',.int .u32 hi']] w fun e w' => e = .returned (.int .i64 (cmpR ⟨r,lo,hi⟩ ⟨r',lo',hi'⟩)) ∧ w' = (w.alloc (.cells #[.int .u8 r,.int .u32 lo,.int .u32 hi] 67)).alloc (.cells #[.int .u8 r',.int .u32 lo',.int .u32 hi'] 67) := by
  by_cases h1 : r = r'
  · subst h1
    have c := fun W => cmp32_any lo lo' W
    rw [show cmpR ⟨r,lo,hi⟩ ⟨r,lo',hi'⟩ = cmpI lo lo' by simp [cmpR]]
    generalize cmpI lo lo' = q at c ⊢
    go_enter Tryz.func136,Tryz.ntmps136
    go_wp2_with (go_at_call 138; refine (c _).mono ?_; rintro e w' ⟨rfl,rfl⟩)
    go_ret
    exact ⟨rfl,rfl⟩
  · have c := fun W => cmp8_any r r' W
    rw [show cmpR ⟨r,lo,hi⟩ ⟨r',lo',hi'⟩ = cmpI r r' by simp [cmpR,h1]]
    generalize cmpI r r' = q at c ⊢
    have h1' : (r != r') = true := by simp [h1]
    go_enter Tryz.func136,Tryz.ntmps136
    go_wp2_with (go_at_call 137; refine (c _).mono ?_; rintro e w' ⟨rfl,rfl⟩)
    go_ret
    exact ⟨rfl,rfl⟩

end Go.Proofs.YtfjaeohfigcciabGreatDoor

namespace Go.Proofs.YtfjaeohfigcciabGreatDoor
open Go.RowKit

def Rn.enc (x : Rn) : List Value := [.int .u8 x.r,.int .u32 x.lo,.int .u32 x.hi]

def RnAt (w : World) (b o : Nat) (x : Rn) : Prop :=
  w.cell? ⟨b,o,none⟩ = some (.int .u8 x.r) ∧ w.cell? ⟨b,o + 1,none⟩ = some (.int .u32 x.lo) ∧ w.cell? ⟨b,o + 2,none⟩ = some (.int .u32 x.hi)

def Sl (w : World) (B : Nat) (v : Value) (zs : List Rn) : Prop :=
  ∃ A c,v = .slice A zs.length c ∧ (A = none → c = 0) ∧ (∀ x ∈ zs,x.ok) ∧ (zs ≠ [] → ∃ b off,A = some ⟨b,off,none⟩ ∧ b < B ∧ ∀ j x,zs[j]? = some x → RnAt w b (off + j * 3) x)

theorem RnAt.keep {w w' : World} {B b o : Nat} {x : Rn} (h : RnAt w b o x) (hb : Below B w w') (hB : b < B) : RnAt w' b o x := by
  obtain ⟨h0,h1,h2⟩ := h
  exact ⟨(hb.cell (p := ⟨b,o,none⟩) hB).trans h0,(hb.cell (p := ⟨b,o + 1,none⟩) hB).trans h1,(hb.cell (p := ⟨b,o + 2,none⟩) hB).trans h2⟩

theorem Sl.below {w w' : World} {B : Nat} {v : Value} {zs : List Rn} (h : Sl w B v zs) (hb : Below B w w') : Sl w' B v zs := by
  obtain ⟨A,c,hv,hn,hok,hA⟩ := h
  refine ⟨A,c,hv,hn,hok,fun hne => ?_⟩
  obtain ⟨b,off,rfl,hlt,hc⟩ := hA hne
  exact ⟨b,off,rfl,hlt,fun j x hj => (hc j x hj).keep hb hlt⟩
theorem Sl.more {w : World} {B B' : Nat} {v : Value} {zs : List Rn} (h : Sl w B v zs) (hB : B ≤ B') : Sl w B' v zs := by
  obtain ⟨A,c,hv,hn,hok,hA⟩ := h
  refine ⟨A,c,hv,hn,hok,fun hne => ?_⟩
  obtain ⟨b,off,rfl,hlt,hc⟩ := hA hne
  exact ⟨b,off,rfl,by omega,hc⟩
theorem Sl.nil (w : World) (B : Nat) : Sl w B (.slice none 0 0) [] := ⟨none,0,rfl,fun _ => rfl,by simp,fun h => absurd rfl h⟩

theorem below_grow {B : Nat} (w : World) (n : Nat) (os : Array Obj) (hB : B ≤ w.heap.size) : Below B w (Sort.grow (w.drewN n) os) := by
  refine ⟨rfl,rfl,rfl,by simp [Sort.grow,World.drewN],fun i hi => ?_⟩
  show (w.heap ++ os)[i]? = w.heap[i]?
  rw [Array.getElem?_append_left (by omega)]

def flat (zs : List Rn) : List Value := zs.flatMap Rn.enc
theorem flat_length (zs : List Rn) : (flat zs).length = zs.length * 3 := by
  induction zs with
  | nil => rfl
  | cons x l ih => simp only [flat,List.flatMap_cons,List.length_append] at *; rw [ih]; simp [Rn.enc]; omega
theorem flat_append (zs ys : List Rn) : flat (zs ++ ys) = flat zs ++ flat ys := by simp [flat]
theorem flat_get (zs : List Rn) (j i : Nat) (x : Rn) (h : zs[j]? = some x) (hi : i < 3) : (flat zs)[j * 3 + i]? = x.enc[i]? := by
  induction zs generalizing j with
  | nil => simp at h
  | cons y l ih =>
    simp only [flat,List.flatMap_cons]
    match j,h with
    | 0,h =>
      simp at h; subst h
      rw [List.getElem?_append_left (by simp [Rn.enc]; omega)]
      congr 1; omega
    | j + 1,h =>
      rw [List.getElem?_append_right (by simp [Rn.enc]; omega)]
      have := ih j (by simpa using h)
      rw [← this]
      simp only [flat]
      congr 1
      simp [Rn.enc]; omega
theorem flat_one_cell (zs : List Rn) : ∀ u ∈ flat zs,u.oneCell' = true := by
  intro u hu
  simp only [flat,List.mem_flatMap] at hu
  obtain ⟨x,_,hx⟩ := hu
  simp only [Rn.enc,List.mem_cons,List.not_mem_nil,or_false] at hx
  rcases hx with rfl | rfl | rfl <;> rfl
theorem flat_set_hi (zs : List Rn) (j : Nat) (x : Rn) (q : Int) (h : zs[j]? = some x) : (flat zs).set (j * 3 + 2) (.int .u32 q) = flat (zs.set j ⟨x.r,x.lo,q⟩) := by
  induction zs generalizing j with
  | nil => simp at h
  | cons y l ih =>
    match j,h with
    | 0,h =>
      simp at h; subst h
      simp [flat,Rn.enc]
    | j + 1,h =>
      have := ih j (by simpa using h)
      simp only [flat,List.flatMap_cons,List.set_cons_succ] at *
      rw [← this]
      simp only [Rn.enc]
      rw [show (j + 1) * 3 + 2 = (j * 3 + 2) + 1 + 1 + 1 by omega]
      rfl

def Own (w : World) (base : Nat) (v : Value) (zs : List Rn) : Prop := w.ownsRow base 67 3 v zs.length (flat zs)
theorem Own.nil (w : World) (base : Nat) : Own w base (.slice none 0 0) [] := w.ownsRow_nil base 67 3
theorem Own.alloc {w : World} {base : Nat} {v : Value} {zs : List Rn} (h : Own w base v zs) (o : Obj) : Own (w.alloc o) base v zs := World.ownsRow.alloc h o
theorem Own.mono {w : World} {base base' : Nat} {v : Value} {zs : List Rn} (h : Own w base v zs) (hb : base' ≤ base) : Own w base' v zs := by
  refine ⟨h.1,?_⟩
  rcases h.2 with hn | ⟨g,cap,cur,hv,hb',r⟩
  · exact .inl hn
  · exact .inr ⟨g,cap,cur,hv,by omega,r⟩
theorem Own.below {w w' : World} {base : Nat} {v : Value} {zs : List Rn} (h : Own w base v zs) (hb : Below w.heap.size w w') : Own w' base v zs := by
  refine ⟨h.1,?_⟩
  rcases h.2 with hn | ⟨g,cap,cur,hv,hb',hg,r⟩
  · exact .inl hn
  · exact .inr ⟨g,cap,cur,hv,hb',(hb.block g (Array.getElem?_eq_some_iff.1 hg).1).trans hg,r⟩
theorem Own.lt {w : World} {base : Nat} {v : Value} {zs : List Rn} (h : Own w base v zs) : ∀ k,v.ownBlock = some k → base ≤ k ∧ k < w.heap.size := World.ownsRow.lt h
theorem Own.form {w : World} {base : Nat} {v : Value} {zs : List Rn} (h : Own w base v zs) : ∃ A c,v = .slice A zs.length c ∧ (A = none → c = 0) ∧ (zs ≠ [] → ∃ g,A = some ⟨g,0,none⟩ ∧ base ≤ g ∧ g < w.heap.size) := by
  rcases h.2 with ⟨hv,hn⟩ | ⟨g,cap,cur,hv,hb',hg,r⟩
  · refine ⟨none,0,?_,fun _ => rfl,fun hne => ?_⟩
    · rw [hv,hn]
    · exact absurd (List.length_eq_zero_iff.1 hn) hne
  · exact ⟨_,cap,hv,(fun h => by simp at h),fun _ => ⟨g,rfl,hb',(Array.getElem?_eq_some_iff.1 hg).1⟩⟩
theorem Own.cell {w : World} {base g c n : Nat} {zs : List Rn} (h : Own w base (.slice (some ⟨g,0,none⟩) n c) zs) (hn : n = zs.length) {j : Nat} {x : Rn} (hj : zs[j]? = some x) : RnAt w g (j * 3) x := by
  have hl : j < zs.length := (List.getElem?_eq_some_iff.1 hj).1
  subst hn
  have hc := fun i (hi : i < 3) => (World.ownsRow.cellAt h (j * 3 + i) (by omega)).trans (flat_get zs j i x hj hi)
  exact ⟨by have := hc 0 (by omega); simpa [Rn.enc] using this,by have := hc 1 (by omega); simpa [Rn.enc] using this,by have := hc 2 (by omega); simpa [Rn.enc] using this⟩
theorem Own.sl {w : World} {base : Nat} {v : Value} {zs : List Rn} (h : Own w base v zs) (hok : ∀ x ∈ zs,x.ok) : Sl w w.heap.size v zs := by
  obtain ⟨A,c,rfl,hn,hA⟩ := h.form
  refine ⟨A,c,rfl,hn,hok,fun hne => ?_⟩
  obtain ⟨g,rfl,_,hlt⟩ := hA hne
  exact ⟨g,0,rfl,hlt,fun j x hj => by rw [Nat.zero_add]; exact h.cell rfl hj⟩
theorem Own.set {w : World} {base g c n : Nat} {zs : List Rn} (h : Own w base (.slice (some ⟨g,0,none⟩) n c) zs) (hn : n = zs.length) {j : Nat} {x : Rn} (hj : zs[j]? = some x) (q : Int) :
    Own (w.setCell ⟨g,j * 3 + 2,none⟩ (.int .u32 q)) base (.slice (some ⟨g,0,none⟩) n c) (zs.set j ⟨x.r,x.lo,q⟩) ∧ w.grownBy (w.setCell ⟨g,j * 3 + 2,none⟩ (.int .u32 q)) (some g) := by
  subst hn
  have := World.ownsRow.stored h (j * 3 + 2) (.int .u32 q)
  rw [flat_set_hi zs j x q hj] at this
  refine ⟨?_,this.2⟩
  have h1 := this.1
  unfold Own
  rw [List.length_set]
  exact h1
theorem Own.frozen {w : World} {base g c n : Nat} {zs : List Rn} (h : Own w base (.slice (some ⟨g,0,none⟩) n c) zs) (hn : n = zs.length) (j : Nat) : w.frozen? ⟨g,j,none⟩ = false := by
  subst hn
  exact World.ownsRow.frozenAt h j
end Go.Proofs.YtfjaeohfigcciabGreatDoor

namespace Go.Proofs.YtfjaeohfigcciabGreatDoor
open Go.RowKit Go.Sort

def okAt (zs : List Rn) (i : Nat) : Bool := rrB zs[i]! && (decide (i = 0) || apB zs[i - 1]! zs[i]!)
def rightB (zs : List Rn) : Bool := decide (zs.length ≤ 64) && (List.range zs.length).all (okAt zs)

theorem rightB_true {zs : List Rn} (h : zs.length ≤ 64) (ha : ∀ j,j < zs.length → okAt zs j = true) : rightB zs = true := by
  simp only [rightB,Bool.and_eq_true,decide_eq_true_eq,List.all_eq_true,List.mem_range]
  exact ⟨h,ha⟩
theorem rightB_false {zs : List Rn} {k : Nat} (hk : k < zs.length) (ha : okAt zs k = false) : rightB zs = false := by
  simp only [rightB,Bool.and_eq_false_iff,List.all_eq_false,List.mem_range]
  exact .inr ⟨k,hk,by simp [ha]⟩

theorem rightRun_grown (r lo hi : Int) (w : World) (n : Nat) (os : Array Obj) :
    Calls Tryz.prog 117 #[.agg #[.int .u8 r,.int .u32 lo,.int .u32 hi]] (grow (w.drewN n) os) fun e w' => e = .returned (.bool (rrB ⟨r,lo,hi⟩)) ∧ ∃ p : GrownBy,w' = grow (w.drewN p.n) p.os :=
  Calls.grown_of ((rightRun_any r lo hi _).mono fun _ _ ⟨he,hw⟩ => ⟨he,0,_,hw.trans (alloc_eq_grow _ _)⟩)
theorem apart_grown (r lo hi r' lo' hi' : Int) (w : World) (n : Nat) (os : Array Obj) (a1 : 0 ≤ hi) (a2 : hi ≤ 4294967295) (b1 : 0 ≤ lo') (b2 : lo' ≤ 4294967295) :
    Calls Tryz.prog 118 #[.agg #[.int .u8 r,.int .u32 lo,.int .u32 hi],.agg #[.int .u8 r',.int .u32 lo',.int .u32 hi']] (grow (w.drewN n) os) fun e w' => e = .returned (.bool (apB ⟨r,lo,hi⟩ ⟨r',lo',hi'⟩)) ∧ ∃ p : GrownBy,w' = grow (w.drewN p.n) p.os :=
  Calls.grown_of ((apart_any r lo hi r' lo' hi' _ a1 a2 b1 b2).mono fun _ _ ⟨he,hw⟩ => ⟨he,0,_,hw.trans ((alloc_eq_grow _ _).trans ((congrArg (fun u => grow u _) (alloc_eq_grow _ _)).trans (grow_grow _ _ _)))⟩)

theorem getBang_of {zs : List Rn} {k : Nat} {x : Rn} (h : zs[k]? = some x) : zs[k]! = x := by simp [List.getElem!_eq_getElem?_getD,h]

theorem new_run (wr : World) (x : Rn) (n : Nat) (os : Array Obj) : RnAt (grow ((wr.alloc (.cells #[.int .u8 x.r,.int .u32 x.lo,.int .u32 x.hi] 67)).drewN n) os) wr.heap.size 0 x := by
  refine ⟨cell_grown ?_ ?_ n os,cell_grown ?_ ?_ n os,cell_grown ?_ ?_ n os⟩ <;> simp
theorem old_run {B b o : Nat} {x : Rn} (wr : World) (ob : Obj) (n : Nat) (os : Array Obj) (h : RnAt wr b o x) (hb : b < B) (hB : B ≤ wr.heap.size) : RnAt (grow ((wr.alloc ob).drewN n) os) b o x :=
  (h.keep ((Below.refl B wr).alloc hB ob) hb).keep (below_grow (B := B) _ n os (by simp; omega)) hb

set_option maxHeartbeats 2000000 in
theorem Right_any (w : World) (v : Value) (zs : List Rn) (h : Sl w w.heap.size v zs) :
    Calls Tryz.prog 82 #[v] w fun e w' => e = .returned (.bool (rightB zs)) ∧ Below w.heap.size w w' := by
  obtain ⟨A,c,rfl,_,hok,hA⟩ := h
  by_cases h64 : 64 < zs.length
  · have e : rightB zs = false := by simp [rightB]; intro; omega
    rw [e]; clear e
    go_enter Tryz.func82,Tryz.ntmps82
    go_wp2
    go_ret
    exact ⟨rfl,Below.refl _ _⟩
  · have hm : Tryz.prog.follows .mixedOrders = true := by kernel_rfl
    have HA := Lib.hid hA; clear hA
    have HM := Lib.hid hm; clear hm
    have HK := Lib.hid hok; clear hok
    generalize hrb : rightB zs = rb
    have HR := Lib.hid hrb; clear hrb
    go_enter Tryz.func82,Tryz.ntmps82
    go_wp2
    go_loopw [10] (fun i wr => ∃ k : Nat,i = .int .i64 k ∧ k ≤ zs.length ∧ Hid (∀ j,j < k → okAt zs j = true) ∧ Below w.heap.size w wr) (fun i _ => zs.length - (intOf i).toNat)
    case atStart => exact ⟨0,rfl,by omega,Lib.hid (fun j hj => absurd hj (by omega)),Below.refl _ _⟩
    case round =>
      obtain ⟨k,rfl,hk,HO,hb⟩ := hrel
      by_cases hlt : k < zs.length
      · obtain ⟨b,off,rfl,hbw,hc⟩ := HA.out (by intro h; simp [h] at hlt)
        have hxk : zs[k]? = some zs[k] := List.getElem?_eq_getElem hlt
        generalize zs[k] = x at hxk
        have hxB := getBang_of hxk
        obtain ⟨⟨o1,o2⟩,⟨o3,o4⟩,o5,o6⟩ := HK.out x (List.mem_of_getElem? hxk)
        have hz := hb.size
        have hnew := new_run wr x
        have hal := fun (B : Nat) (hB : B ≤ wr.heap.size) => (Below.refl B wr).alloc hB (.cells #[.int .u8 x.r,.int .u32 x.lo,.int .u32 x.hi] 67)
        have hsz : wr.heap.size ≤ (wr.alloc (.cells #[.int .u8 x.r,.int .u32 x.lo,.int .u32 x.hi] 67)).heap.size := by simp
        have hold := fun (b o : Nat) (y : Rn) (n : Nat) (os : Array Obj) (h : RnAt wr b o y) (hb : b < w.heap.size) => old_run (B := w.heap.size) wr (.cells #[.int .u8 x.r,.int .u32 x.lo,.int .u32 x.hi] 67) n os h hb hz
        obtain ⟨c0,c1,c2⟩ := (hc k x hxk).keep hb hbw
        have HX := Lib.hid hxk; clear hxk
        have HB := Lib.hid hxB; clear hxB
        have HC := Lib.hid hc; clear hc
        have HN := Lib.hid hnew; clear hnew
        have HL := Lib.hid hal; clear hal
        have HD := Lib.hid hold; clear hold
        by_cases hx : rrB x = true
        · have r1 := fun (W : World) n os => rightRun_grown x.r x.lo x.hi W n os
          rw [show rrB ⟨x.r,x.lo,x.hi⟩ = true from hx] at r1
          have HX1 := Lib.hid hx; clear hx
          have R1 := Lib.hid r1; clear r1
          by_cases hk0 : 0 < k
          ·
            obtain ⟨j,rfl⟩ : ∃ j,k = j + 1 := ⟨k - 1,by omega⟩
            have hyk : zs[j]? = some zs[j] := List.getElem?_eq_getElem (by omega)
            generalize zs[j] = y at hyk
            have hyB := getBang_of hyk
            obtain ⟨⟨p1,p2⟩,⟨p3,p4⟩,p5,p6⟩ := HK.out y (List.mem_of_getElem? hyk)
            have hyat := (HC.out j y hyk).keep hb hbw
            have HY := Lib.hid hyk; clear hyk
            have HYB := Lib.hid hyB; clear hyB
            have HYA := Lib.hid hyat; clear hyat
            have r2 := fun (W : World) n os => apart_grown y.r y.lo y.hi x.r x.lo x.hi W n os p5 p6 o3 o4
            rw [show apB ⟨y.r,y.lo,y.hi⟩ ⟨x.r,x.lo,x.hi⟩ = apB y x from rfl] at r2
            by_cases hp : apB y x = true
            ·
              rw [hp] at r2
              have HP := Lib.hid hp; clear hp
              have R2 := Lib.hid r2; clear r2
              go_wp2_with fail
              generalize hwq : wr.alloc (.cells #[.int .u8 x.r,.int .u32 x.lo,.int .u32 x.hi] 67) = wq at HN HL HD hsz ⊢
              clear hwq
              have m0 := fun n os => (HN.out n os).1
              have m1 := fun n os => (HN.out n os).2.1
              have m2 := fun n os => (HN.out n os).2.2
              have hm : Tryz.prog.follows .mixedOrders = true := HM.out
              have y0 := fun n os => (HD.out _ _ _ n os HYA.out hbw).1
              have y1 := fun n os => (HD.out _ _ _ n os HYA.out hbw).2.1
              have y2 := fun n os => (HD.out _ _ _ n os HYA.out hbw).2.2
              have i2 : j < zs.length := by omega
              have i1 : IntKind.i64.wrap (j : Int) = (j : Int) := IntWalk.i64_in _ (by omega)
              refine wp_region_quiet_grown hm (by kernel_rfl) ?_
              repeat (any_goals (first | go_big_quiet_step (first | (go_at_call 117; exact R1.out _ _ _) | (go_at_call 118; exact R2.out _ _ _)) | quiet_step (first | (go_at_call 117; exact R1.out _ _ _) | (go_at_call 118; exact R2.out _ _ _))))
              refine wpQuiet_nil ?_
              intro _ hw'
              obtain ⟨⟨nq,osq⟩,hw''⟩ := hw'
              subst hw''
              clear i1
              have hbn : Below w.heap.size w (grow (wq.drewN nq) osq) := hb.trans ((HL.out _ hz).trans (below_grow wq nq osq (by omega)))
              have HBN := Lib.hid hbn; clear hbn
              clear HL HD HN
              go_wp2
              go_roundw
              case rel =>
                refine ⟨j + 1 + 1,by go_num,by omega,Lib.hid (fun i hi => ?_),HBN.out⟩
                rcases Nat.lt_or_ge i (j + 1) with h | h
                · exact HO.out i h
                · obtain rfl : i = j + 1 := by omega
                  simp [okAt,HB.out,HYB.out,HX1.out,HP.out]
              case measure => simp [intOf]; omega

            ·
              have hp : apB y x = false := by simpa using hp
              rw [hp] at r2
              have HP := Lib.hid hp; clear hp
              have R2 := Lib.hid r2; clear r2
              go_wp2_with fail
              generalize hwq : wr.alloc (.cells #[.int .u8 x.r,.int .u32 x.lo,.int .u32 x.hi] 67) = wq at HN HL HD hsz ⊢
              clear hwq
              have m0 := fun n os => (HN.out n os).1
              have m1 := fun n os => (HN.out n os).2.1
              have m2 := fun n os => (HN.out n os).2.2
              have hm : Tryz.prog.follows .mixedOrders = true := HM.out
              have y0 := fun n os => (HD.out _ _ _ n os HYA.out hbw).1
              have y1 := fun n os => (HD.out _ _ _ n os HYA.out hbw).2.1
              have y2 := fun n os => (HD.out _ _ _ n os HYA.out hbw).2.2
              have i2 : j < zs.length := by omega
              have i1 : IntKind.i64.wrap (j : Int) = (j : Int) := IntWalk.i64_in _ (by omega)
              refine wp_region_quiet_grown hm (by kernel_rfl) ?_
              repeat (any_goals (first | go_big_quiet_step (first | (go_at_call 117; exact R1.out _ _ _) | (go_at_call 118; exact R2.out _ _ _)) | quiet_step (first | (go_at_call 117; exact R1.out _ _ _) | (go_at_call 118; exact R2.out _ _ _))))
              refine wpQuiet_nil ?_
              intro _ hw'
              obtain ⟨⟨nq,osq⟩,hw''⟩ := hw'
              subst hw''
              clear i1
              have hbn : Below w.heap.size w (grow (wq.drewN nq) osq) := hb.trans ((HL.out _ hz).trans (below_grow wq nq osq (by omega)))
              have HBN := Lib.hid hbn; clear hbn
              clear HL HD HN
              go_wp2
              go_ret
              refine ⟨?_,HBN.out⟩
              rw [← HR.out,rightB_false (k := j + 1) hlt (by simp [okAt,HB.out,HYB.out,HX1.out,HP.out])]
              rfl

          · have hk1 : decide (0 < k) = false := by simp; omega
            have HK0 := Lib.hid hk0; clear hk0
            go_wp2_with fail
            generalize hwq : wr.alloc (.cells #[.int .u8 x.r,.int .u32 x.lo,.int .u32 x.hi] 67) = wq at HN HL HD hsz ⊢
            clear hwq
            have m0 := fun n os => (HN.out n os).1
            have m1 := fun n os => (HN.out n os).2.1
            have m2 := fun n os => (HN.out n os).2.2
            have hm : Tryz.prog.follows .mixedOrders = true := HM.out
            refine wp_region_quiet_grown hm (by kernel_rfl) ?_
            repeat (any_goals (first | go_big_quiet_step (first | (go_at_call 117; exact R1.out _ _ _)) | quiet_step (first | (go_at_call 117; exact R1.out _ _ _))))
            refine wpQuiet_nil ?_
            intro _ hw'
            obtain ⟨⟨nq,osq⟩,hw''⟩ := hw'
            subst hw''
            have hbn : Below w.heap.size w (grow (wq.drewN nq) osq) := hb.trans ((HL.out _ hz).trans (below_grow wq nq osq (by omega)))
            have HBN := Lib.hid hbn; clear hbn
            clear HL HD HN
            go_wp2
            go_roundw
            case rel =>
              refine ⟨k + 1,by go_num,by omega,Lib.hid (fun i hi => ?_),HBN.out⟩
              rcases Nat.lt_or_ge i (k) with h | h
              · exact HO.out i h
              · obtain rfl : i = k := by omega
                have := HK0.out
                simp [okAt,HB.out,HX1.out]
                omega
            case measure => simp [intOf]; omega
        · have hx : rrB x = false := by simpa using hx
          have r1 := fun (W : World) n os => rightRun_grown x.r x.lo x.hi W n os
          rw [show rrB ⟨x.r,x.lo,x.hi⟩ = false from hx] at r1
          have HX1 := Lib.hid hx; clear hx
          have R1 := Lib.hid r1; clear r1
          go_wp2_with fail
          generalize hwq : wr.alloc (.cells #[.int .u8 x.r,.int .u32 x.lo,.int .u32 x.hi] 67) = wq at HN HL HD hsz ⊢
          clear hwq
          have m0 := fun n os => (HN.out n os).1
          have m1 := fun n os => (HN.out n os).2.1
          have m2 := fun n os => (HN.out n os).2.2
          have hm : Tryz.prog.follows .mixedOrders = true := HM.out
          refine wp_region_quiet_grown hm (by kernel_rfl) ?_
          repeat (any_goals (first | go_big_quiet_step (first | (go_at_call 117; exact R1.out _ _ _)) | quiet_step (first | (go_at_call 117; exact R1.out _ _ _))))
          refine wpQuiet_nil ?_
          intro _ hw'
          obtain ⟨⟨nq,osq⟩,hw''⟩ := hw'
          subst hw''
          have hbn : Below w.heap.size w (grow (wq.drewN nq) osq) := hb.trans ((HL.out _ hz).trans (below_grow wq nq osq (by omega)))
          have HBN := Lib.hid hbn; clear hbn
          clear HL HD HN
          go_wp2
          go_ret
          refine ⟨?_,HBN.out⟩
          rw [← HR.out,rightB_false (k := k) hlt (by simp [okAt,HB.out,HX1.out])]
          rfl

      · go_wp2
        go_ret
        refine ⟨?_,hb⟩
        rw [← HR.out,rightB_true (by omega) (fun j hj => HO.out j (by omega))]
        rfl

end Go.Proofs.YtfjaeohfigcciabGreatDoor

namespace Go.Proofs.YtfjaeohfigcciabGreatDoor
open Go.RowKit
attribute [local go_sem ↓] Go.wp_at_zero Go.wp_at_succ

def orI (a b c : Int) : Int := if a = 0 then (if b = 0 then c else b) else a
theorem or_cmp (a b : Vr) : orI (icmpI a.stamp b.stamp) (icmpI a.rep b.rep) (icmpI a.seq b.seq) = cmpV a b := by
  simp only [orI,icmpI,cmpV,ltV,decide_eq_true_eq]
  repeat' split
  all_goals omega

theorem or_new (w : World) (a b c : Int) : Calls Tryz.prog 153 #[.slice (some ⟨w.heap.size,0,none⟩) 3 3] (w.alloc (.cells #[.int .i64 a,.int .i64 b,.int .i64 c] 3)).drew fun e w' => e = .returned (.int .i64 (orI a b c)) ∧ w' = (w.alloc (.cells #[.int .i64 a,.int .i64 b,.int .i64 c] 3)).drew :=
  cmpOr_any _ a b c _ (by simp) (by simp) (by simp)

set_option maxHeartbeats 2000000 in
theorem iCmp_any (r q t r' q' t' : Int) (w : World) :
    Calls Tryz.prog 146 #[.agg #[.int .u8 r,.int .u32 q,.int .u32 t],.agg #[.int .u8 r',.int .u32 q',.int .u32 t']] w fun e w' => e = .returned (.int .i64 (cmpV ⟨r,q,t⟩ ⟨r',q',t'⟩)) ∧ Below w.heap.size w w' := by
  have hO := or_cmp ⟨r,q,t⟩ ⟨r',q',t'⟩
  simp only at hO
  rw [← hO]; clear hO
  go_enter Tryz.func146,Tryz.ntmps146
  go_wp2_with fail
  generalize hwq : (w.alloc (.cells #[.int .u8 r,.int .u32 q,.int .u32 t] 60)).alloc (.cells #[.int .u8 r',.int .u32 q',.int .u32 t'] 60) = wq
  have c0 : wq.cell? ⟨w.heap.size,0,none⟩ = some (.int .u8 r) := by rw [← hwq]; simp
  have c1 : wq.cell? ⟨w.heap.size,1,none⟩ = some (.int .u32 q) := by rw [← hwq]; simp
  have c2 : wq.cell? ⟨w.heap.size,2,none⟩ = some (.int .u32 t) := by rw [← hwq]; simp
  have d0 : wq.cell? ⟨w.heap.size + 1,0,none⟩ = some (.int .u8 r') := by rw [← hwq]; simp
  have d1 : wq.cell? ⟨w.heap.size + 1,1,none⟩ = some (.int .u32 q') := by rw [← hwq]; simp
  have d2 : wq.cell? ⟨w.heap.size + 1,2,none⟩ = some (.int .u32 t') := by rw [← hwq]; simp
  have hb : Below w.heap.size w wq := by rw [← hwq]; exact al2 _ _ _
  clear hwq
  have HB := Lib.hid hb; clear hb
  go_region_held3 (fun w' => w'.cell? ⟨w.heap.size,0,none⟩ = some (.int .u8 r) ∧ w'.cell? ⟨w.heap.size,1,none⟩ = some (.int .u32 q) ∧ w'.cell? ⟨w.heap.size,2,none⟩ = some (.int .u32 t) ∧ w'.cell? ⟨w.heap.size + 1,0,none⟩ = some (.int .u8 r') ∧ w'.cell? ⟨w.heap.size + 1,1,none⟩ = some (.int .u32 q') ∧ w'.cell? ⟨w.heap.size + 1,2,none⟩ = some (.int .u32 t')) (first | go_keep | exact ⟨c0,c1,c2,d0,d1,d2⟩)
    (first | (go_at_call 137; refine (icmp8_any _ _ _).mono ?_; rintro e w' ⟨rfl,rfl⟩) | (go_at_call 138; refine (icmp32_any _ _ _).mono ?_; rintro e w' ⟨rfl,rfl⟩) | (go_at_call 153; refine (or_new _ _ _ _).mono ?_; rintro e w' ⟨rfl,rfl⟩))
  go_wp2
  go_ret
  exact ⟨rfl,(HB.out.alloc HB.out.size _).drew⟩

set_option maxHeartbeats 400000 in
theorem rLess_any (r q t r' q' t' : Int) (w : World) :
    Calls Tryz.prog 28 #[.agg #[.int .u8 r,.int .u32 q,.int .u32 t],.agg #[.int .u8 r',.int .u32 q',.int .u32 t']] w fun e w' => e = .returned (.bool (ltV ⟨r,q,t⟩ ⟨r',q',t'⟩)) ∧ Below w.heap.size w w' := by
  by_cases h1 : t = t'
  · subst h1
    by_cases h2 : r = r'
    · subst h2
      rw [show ltV ⟨r,q,t⟩ ⟨r,q',t⟩ = decide (q < q') by simp [ltV]]
      go_enter Tryz.func28,Tryz.ntmps28
      go_wp2
      go_ret
      exact ⟨rfl,al2 _ _ _⟩
    · have h2' : (r != r') = true := by simp [h2]
      rw [show ltV ⟨r,q,t⟩ ⟨r',q',t⟩ = decide (r < r') by simp [ltV,h2]]
      clear h2
      go_enter Tryz.func28,Tryz.ntmps28
      go_wp2
      go_ret
      exact ⟨rfl,al2 _ _ _⟩
  · have h1' : (t != t') = true := by simp [h1]
    rw [show ltV ⟨r,q,t⟩ ⟨r',q',t'⟩ = decide (t < t') by simp [ltV,h1]]
    clear h1
    go_enter Tryz.func28,Tryz.ntmps28
    go_wp2
    go_ret
    exact ⟨rfl,al2 _ _ _⟩

end Go.Proofs.YtfjaeohfigcciabGreatDoor

