/- Texts in one: Marks, Put, ToldMath. -/
import Derived.Test.YtfjaeohfigcciabGreatDoorQA02
set_option linter.all false
namespace Go.Proofs.YtfjaeohfigcciabGreatDoor
open Go.RowKit Go.Sort

def Sm (w : World) (B : Nat) (v : Value) (ms : List Int) : Prop :=
  ∃ A c,v = .slice A ms.length c ∧ ms.length ≤ c ∧ (A = none → c = 0) ∧ (∀ m ∈ ms,0 ≤ m ∧ m ≤ 4294967296) ∧
    (0 < c → ∃ b off,A = some ⟨b,off,none⟩ ∧ b < B ∧ ∀ j m,ms[j]? = some m → w.cell? ⟨b,off + j,none⟩ = some (.int .u64 m))
theorem Sm.below {w w' : World} {B : Nat} {v : Value} {ms : List Int} (h : Sm w B v ms) (hb : Below B w w') : Sm w' B v ms := by
  obtain ⟨A,c,hv,hc,hn,hok,hA⟩ := h
  refine ⟨A,c,hv,hc,hn,hok,fun hp => ?_⟩
  obtain ⟨b,off,rfl,hlt,hcell⟩ := hA hp
  exact ⟨b,off,rfl,hlt,fun j m hj => (hb.cell (p := ⟨b,off + j,none⟩) hlt).trans (hcell j m hj)⟩
theorem Sm.more {w : World} {B B' : Nat} {v : Value} {ms : List Int} (h : Sm w B v ms) (hB : B ≤ B') : Sm w B' v ms := by
  obtain ⟨A,c,hv,hc,hn,hok,hA⟩ := h
  refine ⟨A,c,hv,hc,hn,hok,fun hp => ?_⟩
  obtain ⟨b,off,rfl,hlt,hcell⟩ := hA hp
  exact ⟨b,off,rfl,by omega,hcell⟩
theorem Sm.nil (w : World) (B : Nat) : Sm w B (.slice none 0 0) [] := ⟨none,0,rfl,by simp,fun _ => rfl,by simp,fun h => absurd h (by omega)⟩

def OwnM (w : World) (base : Nat) (v : Value) (ms : List Int) : Prop := w.ownsRow base 130 1 v ms.length (ms.map (Value.int .u64))
theorem OwnM.nil (w : World) (base : Nat) : OwnM w base (.slice none 0 0) [] := w.ownsRow_nil base 130 1
theorem OwnM.lt {w : World} {base : Nat} {v : Value} {ms : List Int} (h : OwnM w base v ms) : ∀ k,v.ownBlock = some k → base ≤ k ∧ k < w.heap.size := World.ownsRow.lt h
theorem OwnM.alloc {w : World} {base : Nat} {v : Value} {ms : List Int} (h : OwnM w base v ms) (o : Obj) : OwnM (w.alloc o) base v ms := World.ownsRow.alloc h o
theorem OwnM.sm {w : World} {base : Nat} {v : Value} {ms : List Int} (h : OwnM w base v ms) (hok : ∀ m ∈ ms,0 ≤ m ∧ m ≤ 4294967296) : Sm w w.heap.size v ms := by
  have h0 := h
  rcases h.2 with ⟨hv,hn⟩ | ⟨g,cap,cur,hv,hb',hg,hnc,r⟩
  · have : ms = [] := List.length_eq_zero_iff.1 hn
    subst this
    rw [hv]
    exact Sm.nil _ _
  · refine ⟨_,cap,hv,hnc,(fun h => by simp at h),hok,fun _ => ⟨g,0,rfl,(Array.getElem?_eq_some_iff.1 hg).1,fun j m hj => ?_⟩⟩
    have hl : j < ms.length := (List.getElem?_eq_some_iff.1 hj).1
    subst hv
    have := World.ownsRow.cellAt h0 j (by omega)
    rw [Nat.zero_add,this,List.getElem?_map,hj]
    rfl

theorem infoM : (Tryz.prog.info? 130).map (fun i => (i.zero,i.size,i.bytes)) = some (some (.int .u64 0),1,8) := by kernel_rfl

theorem append_marks {ops : Array Oper} {rest : List Oper} {o : Oper} {a : Act} {w : World} {Q : Exit → Act → World → Prop} (hgd : o.guard = none) (s x : Operand)
    (ho : o.op = .call { callee := .builtin .append,args := #[s,x],argTypes := #[150,150] })
    (base : Nat) (v : Value) (ms : List Int) (hs : a.eval s = v) (hown : OwnM w base v ms) (B : Nat) (v2 : Value) (ns : List Int) (hx : a.eval x = v2) (hsl : Sm w B v2 ns)
    (hlen : ms.length + ns.length ≤ 10000) (hbase : base ≤ w.heap.size)
    (h : ∀ v' w',OwnM w' base v' (ms ++ ns) → w.grownBy w' v.ownBlock → wpList Tryz.prog ops Q rest (a.put o.dst v') w') : wpList Tryz.prog ops Q (o :: rest) a w := by
  obtain ⟨i0,hi,hz0,hz1,hz2⟩ := info_parts infoM
  obtain ⟨A,c,rfl,hc,hn,hok,hA⟩ := hsl
  rcases A with _ | ad
  · obtain rfl := hn rfl
    have hy : ns = [] := List.length_eq_zero_iff.1 (by omega)
    subst hy
    refine wpList_append_own_none hgd s x 150 ho base 130 i0 1 Tryz.underlying150 hi v ms.length _ hs hown hx ?_
    exact h v w (by simpa using hown) ⟨rfl,rfl,rfl,Nat.le_refl _,fun _ _ _ => rfl⟩
  · refine wpList_append_own w hgd s x 150 ho base 130 i0 _ 1 8 Tryz.underlying150 hi hz0 hz1 hz2 rfl (by decide) v ms.length _ hs hown ad ns.length c (ns.map (Value.int .u64)) hx (by simp) ?_ ?_ (by unfold maxLen; omega) (by omega) hbase ?_
    · intro j u hu
      have hjl : j < ns.length := by
        have := (List.getElem?_eq_some_iff.1 hu).1
        simpa using this
      obtain ⟨b,off,hbo,_,hcell⟩ := hA (by omega)
      cases hbo
      have e : ∀ m,(⟨b,off,none⟩ : Addr).add m = ⟨b,off + m,none⟩ := fun m => by unfold Addr.add; split <;> simp_all
      rw [e,hcell j _ (List.getElem?_eq_getElem hjl),← hu,List.getElem?_map,List.getElem?_eq_getElem hjl]
      rfl
    · intro u hu
      obtain ⟨m,_,rfl⟩ := List.mem_map.1 hu
      rfl
    · intro v' w' h1 h2 _
      refine h v' w' ?_ h2
      unfold OwnM
      rw [List.map_append,List.length_append]
      exact h1

def Strict (ms : List Int) : Prop := ms.Pairwise (· < ·)

def PutOut (ms out : List Int) (n : Int) : Prop := (Strict ms → Strict out) ∧ (∀ x,x ∈ out ↔ x = n ∨ x ∈ ms) ∧ out.length ≤ ms.length + 1
theorem put_same {ms : List Int} {n : Int} {k : Nat} (h : ms[k]? = some n) : PutOut ms ms n :=
  ⟨id,fun x => ⟨.inr,fun hx => hx.elim (fun e => e ▸ List.mem_of_getElem? h) id⟩,by omega⟩
theorem put_new {ms : List Int} {n : Int} {k : Nat} (hk : k ≤ ms.length) (hlo : ∀ j m,j < k → ms[j]? = some m → m < n) (hhi : ∀ m,ms[k]? = some m → n < m) : PutOut ms (ms.take k ++ [n] ++ ms.drop k) n := by
  refine ⟨fun hs => ?_,fun x => ?_,by simp; omega⟩
  · have hs' : (ms.take k ++ ms.drop k).Pairwise (· < ·) := by rw [List.take_append_drop]; exact hs
    obtain ⟨h1,h2,h3⟩ := List.pairwise_append.1 hs'
    have hl : ∀ a ∈ ms.take k,a < n := fun a ha => by
      obtain ⟨j,hj,rfl⟩ := List.mem_iff_getElem.1 ha
      have hj' : j < k := by simp at hj; omega
      have : j < ms.length := by simp at hj; omega
      rw [List.getElem_take]
      exact hlo j _ hj' (List.getElem?_eq_getElem this)
    have hr : ∀ b ∈ ms.drop k,n < b := fun b hb => by
      rcases Nat.lt_or_ge k ms.length with hlt | hge
      · have hd : ms.drop k = ms[k] :: ms.drop (k + 1) := List.drop_eq_getElem_cons hlt
        have hn := hhi _ (List.getElem?_eq_getElem hlt)
        rw [hd] at hb h2
        rcases List.mem_cons.1 hb with rfl | hb
        · exact hn
        · have := (List.pairwise_cons.1 h2).1 b hb
          omega
      · rw [List.drop_of_length_le hge] at hb; cases hb
    show List.Pairwise _ _
    rw [List.pairwise_append]
    refine ⟨List.pairwise_append.2 ⟨h1,by simp,fun a ha b hb => by simp at hb; subst hb; exact hl a ha⟩,h2,fun a ha b hb => ?_⟩
    rcases List.mem_append.1 ha with ha | ha
    · have := hl a ha; have := hr b hb; omega
    · simp at ha; subst ha; exact hr b hb
  · have : x ∈ ms ↔ x ∈ ms.take k ∨ x ∈ ms.drop k := by rw [← List.mem_append,List.take_append_drop]
    rw [this]
    simp only [List.mem_append,List.mem_singleton]
    constructor
    · rintro ((h | h) | h)
      · exact .inr (.inl h)
      · exact .inl h
      · exact .inr (.inr h)
    · rintro (h | h | h)
      · exact .inl (.inr h)
      · exact .inl (.inl h)
      · exact .inr h

def PutPost (w : World) (L : Nat) (ms : List Int) (n : Int) (e : Ending) (w' : World) : Prop := ∃ v out,e = .returned v ∧ PutOut ms out n ∧ (∀ m ∈ out,0 ≤ m ∧ m ≤ 4294967296) ∧ OwnM w' L v out ∧ Below w.heap.size w w'

theorem OwnM.mono {w : World} {base base' : Nat} {v : Value} {ms : List Int} (h : OwnM w base v ms) (hb : base' ≤ base) : OwnM w base' v ms := by
  refine ⟨h.1,?_⟩
  rcases h.2 with hn | ⟨g,cap,cur,hv,hb',r⟩
  · exact .inl hn
  · exact .inr ⟨g,cap,cur,hv,by omega,r⟩
theorem OwnM.below {w w' : World} {base : Nat} {v : Value} {ms : List Int} (h : OwnM w base v ms) (hb : Below w.heap.size w w') : OwnM w' base v ms := by
  refine ⟨h.1,?_⟩
  rcases h.2 with hn | ⟨g,cap,cur,hv,hb',hg,r⟩
  · exact .inl hn
  · exact .inr ⟨g,cap,cur,hv,hb',(hb.block g (Array.getElem?_eq_some_iff.1 hg).1).trans hg,r⟩
theorem OwnM.apart {w : World} {base L : Nat} {v s : Value} {ms : List Int} {zs : List Rn} (h : OwnM w L v ms) (hr : Own w base s zs) : v.ownBlock = none ∨ v.ownBlock ≠ s.ownBlock := by
  rcases h.2 with ⟨rfl,_⟩ | ⟨g,cap,cur,rfl,_,hg,_⟩
  · exact .inl rfl
  · right
    rcases hr.2 with ⟨rfl,_⟩ | ⟨g',cap',cur',rfl,_,hg',_⟩
    · simp [Value.ownBlock]
    · intro he
      have : g = g' := by simpa [Value.ownBlock] using he
      subst this
      rw [hg] at hg'
      simp at hg'
theorem OwnM.kept {w w' : World} {base L : Nat} {v s : Value} {ms : List Int} {zs : List Rn} (h : OwnM w L v ms) (hr : Own w base s zs) (hg : w.grownBy w' s.ownBlock) : OwnM w' L v ms :=
  World.ownsRow.kept h hg (h.apart hr)
end Go.Proofs.YtfjaeohfigcciabGreatDoor

namespace Go.Proofs.YtfjaeohfigcciabGreatDoor
open Go.RowKit Go.Sort

theorem grownM_below {B : Nat} {a w w' : World} {base : Nat} {v : Value} {ms : List Int} (h : Below B a w) (ho : OwnM w base v ms) (hg : w.grownBy w' v.ownBlock) (hB : B ≤ base) (hw : B ≤ w.heap.size) : Below B a w' :=
  h.grown hg hw (fun k hk => by have := (ho.lt k hk).1; omega)
theorem one_sm (w : World) (g : Nat) (n : Int) (hg : g = w.heap.size) (hn : 0 ≤ n ∧ n ≤ 4294967296) : Sm (w.alloc (.cells #[.int .u64 n] 130)) (g + 1) (.slice (some ⟨g,0,none⟩) 1 1) [n] := by
  subst hg
  refine ⟨_,1,rfl,by simp,(fun h => by simp at h),by simpa using hn,fun _ => ⟨w.heap.size,0,rfl,by omega,fun j m hj => ?_⟩⟩
  match j,hj with
  | 0,hj => simp at hj; subst hj; simp
  | j + 1,hj => simp at hj

theorem sm_take {w : World} {B : Nat} {A : Option Addr} {len c k : Nat} {ms : List Int} (h : Sm w B (.slice A len c) ms) (hk : k ≤ ms.length) : Sm w B (.slice A k c) (ms.take k) := by
  obtain ⟨A',c',hv,hc,hn,hok,hA⟩ := h
  cases hv
  refine ⟨A,c,by rw [List.length_take,Nat.min_eq_left hk],by rw [List.length_take]; omega,hn,fun m hm => hok m (List.mem_of_mem_take hm),fun hp => ?_⟩
  obtain ⟨b,off,rfl,hlt,hcell⟩ := hA hp
  refine ⟨b,off,rfl,hlt,fun j m hj => hcell j m ?_⟩
  rw [List.getElem?_take] at hj
  split at hj
  · exact hj
  · cases hj
theorem sm_drop {w : World} {B : Nat} {b off len c k : Nat} {ms : List Int} (h : Sm w B (.slice (some ⟨b,off,none⟩) len c) ms) (hk : k ≤ ms.length) : Sm w B (.slice (some ⟨b,off + k,none⟩) (len - k) (c - k)) (ms.drop k) := by
  obtain ⟨A',c',hv,hc,hn,hok,hA⟩ := h
  cases hv
  refine ⟨_,c - k,by rw [List.length_drop],by rw [List.length_drop]; omega,(fun h => by simp at h),fun m hm => hok m (List.mem_of_mem_drop hm),fun hp => ?_⟩
  obtain ⟨b',off',he,hlt,hcell⟩ := hA (by omega)
  cases he
  refine ⟨b,off + k,rfl,hlt,fun j m hj => ?_⟩
  rw [List.getElem?_drop] at hj
  have := hcell (k + j) m hj
  rw [← Nat.add_assoc] at this
  exact this

theorem sm_empty (w : World) (B : Nat) (A : Option Addr) (c : Nat) (hn : A = none → c = 0) (hA : 0 < c → ∃ b off,A = some ⟨b,off,none⟩ ∧ b < B) : Sm w B (.slice A 0 c) [] :=
  ⟨A,c,rfl,by simp,hn,by simp,fun hp => by
    obtain ⟨b,off,h1,h2⟩ := hA hp
    exact ⟨b,off,h1,h2,fun j m hj => by simp at hj⟩⟩

theorem sm_tail {w w2 : World} {B : Nat} {A : Option Addr} {c len k : Nat} {ms : List Int} (h : Sm w B (.slice A len c) ms) (hk : k = ms.length) : Sm w2 B (.slice (if c = k then A else Option.map (fun x => x.add k) A) (len - k) (c - k)) [] := by
  obtain ⟨A',c',hv,hc,hn,hok,hA⟩ := h
  cases hv
  subst hk
  rw [Nat.sub_self]
  refine sm_empty _ _ _ _ (fun h => ?_) (fun h => ?_)
  · by_cases hc' : c = ms.length
    · omega
    · rw [if_neg hc'] at h
      cases A with
      | none => have := hn rfl; omega
      | some ad => simp at h
  · obtain ⟨b,off,rfl,hlt,_⟩ := hA (by omega)
    rw [if_neg (by omega)]
    refine ⟨b,off + ms.length,?_,hlt⟩
    simp only [Option.map_some,Option.some.injEq]
    unfold Addr.add
    split <;> simp_all

set_option maxHeartbeats 2000000 in
set_option maxRecDepth 100000 in
theorem put_any (v : Value) (ms : List Int) (n : Int) (w : World) (L : Nat) (how : OwnM w L v ms) (hoks : ∀ m ∈ ms,0 ≤ m ∧ m ≤ 4294967296) (hL : L ≤ w.heap.size) (hz : ms.length ≤ 2000) (hn : 0 ≤ n ∧ n ≤ 4294967296) :
    Calls Tryz.prog 113 #[v,.int .u64 n] w (PutPost w L ms n) := by
  have h := how.sm hoks
  have HOW := Lib.hid how; clear how
  have H := Lib.hid h
  obtain ⟨A,c,rfl,hlc,hcz,hok,hA⟩ := h
  have HA := Lib.hid hA; clear hA
  have HK := Lib.hid hok; clear hok
  have HZ := Lib.hid hcz; clear hcz
  obtain ⟨n1,n2⟩ := hn
  go_enter Tryz.func113,Tryz.ntmps113
  go_wp2
  go_loop [5] (fun i => ∃ k : Nat,i = .int .i64 k ∧ k ≤ ms.length ∧ Hid (∀ (j : Nat) (m : Int),j < k → ms[j]? = some m → m < n)) (fun i => ms.length - (intOf i).toNat)
  case atStart => exact ⟨0,rfl,by omega,Lib.hid (fun j _ hj => absurd hj (by omega))⟩
  case round =>
    obtain ⟨k,rfl,hk,HO⟩ := hrel
    by_cases hlt : k < ms.length
    · obtain ⟨b,off,rfl,hbw,hc⟩ := HA.out (by omega)
      have hxk : ms[k]? = some ms[k] := List.getElem?_eq_getElem hlt
      generalize ms[k] = x at hxk
      obtain ⟨o1,o2⟩ := HK.out x (List.mem_of_getElem? hxk)
      have c0 := hc k x hxk
      have HC := Lib.hid hc; clear hc
      have HX := Lib.hid hxk; clear hxk
      by_cases q1 : x < n
      · go_wp2
        go_round
        case rel =>
          refine ⟨k + 1,by go_num,by omega,Lib.hid (fun j m hj hm => ?_)⟩
          rcases Nat.lt_or_ge j k with h | h
          · exact HO.out j m h hm
          · obtain rfl : j = k := by omega
            rw [HX.out] at hm; cases hm; exact q1
        case measure => simp [intOf]; omega
      · by_cases q2 : x = n
        · have q2' : (x == n) = true := by simp [q2]
          have HQ := Lib.hid q2; clear q2
          go_wp2
          go_ret
          exact ⟨_,ms,rfl,put_same (k := k) (HX.out.trans (by rw [HQ.out])),HK.out,HOW.out,Below.refl _ _⟩
        · have q2' : (x == n) = false := by simp [q2]
          have HP := Lib.hid (put_new hk HO.out (fun m hm => by rw [HX.out] at hm; cases hm; omega))
          clear q2
          go_upto_region 6 with fail
          go_cut [6] (fun s wx => OwnM wx w.heap.size s [] ∧ wx = w)
          case first =>
            go_wp2
            go_meet
            case rel => exact ⟨OwnM.nil _ _,rfl⟩
          case rest =>
            obtain ⟨ho,hw⟩ := hcut
            obtain rfl : w = wc := hw.symm
            have hck : k ≠ c := by omega
            have hlen := List.length_take_le k ms
            go_upto_region 8 with (at_builtin; (refine append_marks rfl _ _ rfl w.heap.size _ [] rfl ho _ _ (ms.take k) rfl (sm_take H.out hk) (by simp; omega) (Nat.le_refl _) ?_); intro v1 w1 ho1 hg1)
            have hb1 : Below w.heap.size w w1 := grownM_below (Below.refl _ _) ho hg1 (Nat.le_refl _) (Nat.le_refl _)
            have hz1 := hb1.size
            have HB1 := Lib.hid hb1; clear hb1
            go_upto_region 9 with (at_builtin; (refine append_marks rfl _ _ rfl w.heap.size _ _ rfl (ho1.alloc _) _ _ [n] rfl (one_sm _ _ n (by simp) ⟨n1,n2⟩) (by simp; omega) (by simp; omega) ?_); intro v2 w2 ho2 hg2)
            have hb2 : Below w.heap.size w w2 := grownM_below (HB1.out.alloc hz1 _) (ho1.alloc _) hg2 (Nat.le_refl _) (by simp; omega)
            have hz2 := hb2.size
            have HB2 := Lib.hid hb2; clear hb2
            go_wp2_with (at_builtin; (refine append_marks rfl _ _ rfl w.heap.size _ _ rfl ho2 _ _ (ms.drop k) rfl ((sm_drop H.out hk).below HB2.out) (by simp; omega) hz2 ?_); intro v3 w3 ho3 hg3)
            go_ret
            rw [List.nil_append] at ho3
            refine ⟨v3,_,rfl,HP.out,fun m hm => ?_,ho3.mono hL,grownM_below HB2.out ho2 hg3 (Nat.le_refl _) hz2⟩
            rcases (HP.out.2.1 m).1 hm with rfl | hm
            · exact ⟨n1,n2⟩
            · exact HK.out m hm
    · have HKL : Hid (k = ms.length) := Lib.hid (by omega)
      have HP := Lib.hid (put_new hk HO.out (fun m hm => by rw [List.getElem?_eq_none (by omega)] at hm; cases hm))
      have hlen := List.length_take_le k ms
      have hlt' : decide (k < ms.length) = false := by simp; omega
      go_upto_region 6 with fail
      go_cut [6] (fun s wx => OwnM wx w.heap.size s [] ∧ wx = w)
      case first =>
        go_wp2
        go_meet
        case rel => exact ⟨OwnM.nil _ _,rfl⟩
      case rest =>
        obtain ⟨ho,hw⟩ := hcut
        obtain rfl : w = wc := hw.symm
        go_upto_region 8 with (at_builtin; (refine append_marks rfl _ _ rfl w.heap.size _ [] rfl ho _ _ (ms.take k) rfl (sm_take H.out hk) (by simp; omega) (Nat.le_refl _) ?_); intro v1 w1 ho1 hg1)
        have hb1 : Below w.heap.size w w1 := grownM_below (Below.refl _ _) ho hg1 (Nat.le_refl _) (Nat.le_refl _)
        have hz1 := hb1.size
        have HB1 := Lib.hid hb1; clear hb1
        go_upto_region 9 with (at_builtin; (refine append_marks rfl _ _ rfl w.heap.size _ _ rfl (ho1.alloc _) _ _ [n] rfl (one_sm _ _ n (by simp) ⟨n1,n2⟩) (by simp; omega) (by simp; omega) ?_); intro v2 w2 ho2 hg2)
        have hb2 : Below w.heap.size w w2 := grownM_below (HB1.out.alloc hz1 _) (ho1.alloc _) hg2 (Nat.le_refl _) (by simp; omega)
        have hz2 := hb2.size
        have HB2 := Lib.hid hb2; clear hb2
        go_wp2_with (at_builtin; (refine append_marks rfl _ _ rfl w.heap.size _ _ rfl ho2 w.heap.size _ [] rfl (sm_tail H.out HKL.out) (by simp; omega) hz2 ?_); intro v3 w3 ho3 hg3)
        all_goals
          go_ret
          have hdr : ms.drop k = [] := List.drop_of_length_le (by omega)
          rw [List.nil_append] at ho3
          have ho4 : OwnM w3 L v3 (ms.take k ++ [n] ++ ms.drop k) := by rw [hdr]; exact ho3.mono hL
          refine ⟨v3,_,rfl,HP.out,fun m hm => ?_,ho4,grownM_below HB2.out ho2 hg3 (Nat.le_refl _) hz2⟩
          rcases (HP.out.2.1 m).1 hm with rfl | hm
          · exact ⟨n1,n2⟩
          · exact HK.out m hm
end Go.Proofs.YtfjaeohfigcciabGreatDoor

namespace Go.Proofs.YtfjaeohfigcciabGreatDoor

def inS (zs : List Rn) (p wo r n : Int) : Bool := covs zs r n && !((decide (p = r) && decide (0 < wo)) && decide (n = wo))
def IsMark (zs : List Rn) (p wo r x : Int) : Prop := (∃ y ∈ zs,y.r = r ∧ (x = y.lo ∨ x = y.hi + 1)) ∨ ((p = r ∧ 0 < wo) ∧ (x = wo ∨ x = wo + 1))
def Asc (ms : List Int) : Prop := ms.Pairwise (· < ·)

theorem inS_step {zs : List Rn} {p wo r n : Int} (h : inS zs p wo r n ≠ inS zs p wo r (n + 1)) : IsMark zs p wo r (n + 1) := by
  by_cases hw : (p = r ∧ 0 < wo) ∧ (n = wo ∨ n + 1 = wo)
  · exact .inr ⟨hw.1,by omega⟩
  · have e1 : ∀ m,(m = n ∨ m = n + 1) → inS zs p wo r m = covs zs r m := by
      intro m hm
      have : ((decide (p = r) && decide (0 < wo)) && decide (m = wo)) = false := by
        by_cases h1 : p = r ∧ 0 < wo
        · have : m ≠ wo := by rcases hm with rfl | rfl <;> (intro e; exact hw ⟨h1,by omega⟩)
          simp [this]
        · by_cases h2 : p = r
          · simp [h2]; intro h3; exact absurd ⟨h2,h3⟩ h1
          · simp [h2]
      simp [inS,this]
    rw [e1 n (.inl rfl),e1 (n + 1) (.inr rfl)] at h
    left
    by_cases hc : covs zs r n = true
    · rw [hc] at h
      obtain ⟨y,hy,h1,h2,h3⟩ := (covs_iff _ _ _).1 hc
      refine ⟨y,hy,h1,.inr ?_⟩
      rcases Int.lt_or_le n y.hi with h4 | h4
      · have : covs zs r (n + 1) = true := (covs_iff _ _ _).2 ⟨y,hy,h1,by omega,by omega⟩
        rw [this] at h; exact absurd rfl h
      · omega
    · have hc : covs zs r n = false := by simpa using hc
      rw [hc] at h
      have : covs zs r (n + 1) = true := by
        cases h' : covs zs r (n + 1)
        · rw [h'] at h; exact absurd rfl h
        · rfl
      obtain ⟨y,hy,h1,h2,h3⟩ := (covs_iff _ _ _).1 this
      refine ⟨y,hy,h1,.inl ?_⟩
      rcases Int.lt_or_le y.lo (n + 1) with h4 | h4
      · have : covs zs r n = true := (covs_iff _ _ _).2 ⟨y,hy,h1,by omega,by omega⟩
        rw [this] at hc; cases hc
      · omega
theorem inS_const {zs : List Rn} {p wo r a : Int} : ∀ d : Nat,(∀ x,a < x → x ≤ a + d → ¬ IsMark zs p wo r x) → inS zs p wo r (a + d) = inS zs p wo r a
  | 0,_ => by simp
  | d + 1,h => by
    have ih := inS_const d fun x h1 h2 => h x h1 (by omega)
    rw [← ih]
    by_cases he : inS zs p wo r (a + d) = inS zs p wo r (a + (d : Int) + 1)
    · rw [show a + ((d + 1 : Nat) : Int) = a + (d : Int) + 1 by omega]; exact he.symm
    · exact absurd (inS_step he) (h _ (by omega) (by omega))
theorem inS_between {zs : List Rn} {p wo r a b : Int} (hab : a ≤ b) (h : ∀ x,a < x → x ≤ b → ¬ IsMark zs p wo r x) : inS zs p wo r b = inS zs p wo r a := by
  have := inS_const (zs := zs) (p := p) (wo := wo) (r := r) (a := a) (b - a).toNat (fun x h1 h2 => h x h1 (by omega))
  rw [show a + ((b - a).toNat : Int) = b by omega] at this
  exact this

def under (n : Int) : Option Int → Prop
  | none => True
  | some b => n < b
instance (n : Int) (o : Option Int) : Decidable (under n o) := by cases o <;> (unfold under; infer_instance)

structure Marked (zs : List Rn) (p wo r : Int) (ms : List Int) : Prop where
  asc : Asc ms
  mem : ∀ x,x ∈ ms ↔ IsMark zs p wo r x

theorem Marked.const {zs : List Rn} {p wo r : Int} {ms : List Int} (h : Marked zs p wo r ms) {i : Nat} {m n : Int} (hm : ms[i]? = some m) (h1 : m ≤ n) (h2 : under n ms[i + 1]?) : inS zs p wo r n = inS zs p wo r m := by
  refine inS_between h1 fun x hx1 hx2 hx => ?_
  obtain ⟨j,hj,rfl⟩ := List.mem_iff_getElem.1 ((h.mem x).2 hx)
  obtain ⟨hi,rfl⟩ := List.getElem?_eq_some_iff.1 hm
  have ha := List.pairwise_iff_getElem.1 h.asc
  rcases Nat.lt_trichotomy i j with hij | rfl | hij
  · rcases Nat.lt_or_ge (i + 1) j with h3 | h3
    · have h4 := ha (i + 1) j (by omega) hj h3
      rw [List.getElem?_eq_getElem (by omega)] at h2
      have : n < ms[i + 1] := h2
      omega
    · obtain rfl : j = i + 1 := by omega
      rw [List.getElem?_eq_getElem hj] at h2
      have : n < ms[i + 1] := h2
      omega
  · omega
  · have := ha j i hj hi hij
    omega
theorem Marked.before {zs : List Rn} {p wo r : Int} {ms : List Int} (h : Marked zs p wo r ms) (hz : ∀ x ∈ zs,1 ≤ x.lo) {n : Int} (h2 : under n ms[0]?) : inS zs p wo r n = false := by
  rcases Int.lt_or_le n 1 with h0 | h0
  · have : covs zs r n = false := by
      rw [← Bool.not_eq_true,covs_iff]
      rintro ⟨y,hy,_,h3,_⟩
      have := hz y hy
      omega
    simp [inS,this]
  · have : inS zs p wo r n = inS zs p wo r 0 := by
      refine inS_between (by omega) fun x hx1 hx2 hx => ?_
      obtain ⟨j,hj,rfl⟩ := List.mem_iff_getElem.1 ((h.mem x).2 hx)
      have ha := List.pairwise_iff_getElem.1 h.asc
      rw [List.getElem?_eq_getElem (by omega)] at h2
      have h3 : n < ms[0] := h2
      rcases Nat.eq_zero_or_pos j with rfl | hj0
      · omega
      · have := ha 0 j (by omega) hj hj0
        omega
    rw [this]
    have : covs zs r 0 = false := by
      rw [← Bool.not_eq_true,covs_iff]
      rintro ⟨y,hy,_,h3,_⟩
      have := hz y hy
      omega
    simp [inS,this]
theorem Marked.next {zs : List Rn} {p wo r : Int} {ms : List Int} (h : Marked zs p wo r ms) {i : Nat} {m : Int} (hm : ms[i]? = some m) : under m ms[i + 1]? := by
  obtain ⟨hi,rfl⟩ := List.getElem?_eq_some_iff.1 hm
  rcases Nat.lt_or_ge (i + 1) ms.length with h1 | h1
  · rw [List.getElem?_eq_getElem h1]
    exact List.pairwise_iff_getElem.1 h.asc i (i + 1) hi h1 (by omega)
  · rw [List.getElem?_eq_none h1]; trivial

theorem under_trans {a b : Int} {o : Option Int} (h : a ≤ b) (hb : under b o) : under a o := by
  cases o with
  | none => trivial
  | some c => exact Int.lt_of_le_of_lt h hb

structure Shut (zs : List Rn) (p wo r : Int) (ms : List Int) (i : Nat) (Y : List Rn) : Prop where
  good : Good Y
  own : ∀ y ∈ Y,y.r = r
  far : ∀ y ∈ Y,under (y.hi + 1) ms[i]?
  tells : ∀ n,covs Y r n = (inS zs p wo r n && decide (under n ms[i]?))
structure Open (zs : List Rn) (p wo r : Int) (ms : List Int) (i : Nat) (Y : List Rn) (f : Int) : Prop where
  good : Good Y
  own : ∀ y ∈ Y,y.r = r
  far : ∀ y ∈ Y,y.hi + 1 < f
  pos : 1 ≤ f
  ahead : under f ms[i]?
  tells : ∀ n,covs Y r n = (inS zs p wo r n && decide (n < f))
  on : ∀ n,f ≤ n → under n ms[i]? → inS zs p wo r n = true

theorem Shut.start {zs : List Rn} {p wo r : Int} {ms : List Int} (h : Marked zs p wo r ms) (hz : ∀ x ∈ zs,1 ≤ x.lo) : Shut zs p wo r ms 0 [] := by
  refine ⟨⟨by simp,by simp⟩,by simp,by simp,fun n => ?_⟩
  by_cases hu : under n ms[0]?
  · rw [h.before hz hu]; rfl
  · simp [hu,covs]
theorem Shut.opens {zs : List Rn} {p wo r : Int} {ms : List Int} {i : Nat} {Y : List Rn} {m : Int} (h : Shut zs p wo r ms i Y) (hm : Marked zs p wo r ms) (hi : ms[i]? = some m) (hs : inS zs p wo r m = true) (hp : 1 ≤ m) : Open zs p wo r ms (i + 1) Y m := by
  obtain ⟨g1,g2,g3,g4⟩ := h
  rw [hi] at g3 g4
  exact ⟨g1,g2,g3,hp,hm.next hi,g4,fun n h1 h2 => by rw [hm.const hi h1 h2]; exact hs⟩
theorem Shut.stays {zs : List Rn} {p wo r : Int} {ms : List Int} {i : Nat} {Y : List Rn} {m : Int} (h : Shut zs p wo r ms i Y) (hm : Marked zs p wo r ms) (hi : ms[i]? = some m) (hs : inS zs p wo r m = false) : Shut zs p wo r ms (i + 1) Y := by
  obtain ⟨g1,g2,g3,g4⟩ := h
  rw [hi] at g3 g4
  refine ⟨g1,g2,fun y hy => under_trans (Int.le_of_lt (g3 y hy)) (hm.next hi),fun n => ?_⟩
  rw [g4]
  by_cases h1 : n < m
  · have h2 : under n ms[i + 1]? := under_trans (Int.le_of_lt h1) (hm.next hi)
    have h3 : under n (some m) := h1
    simp [h2,h3]
  · have h3 : ¬ under n (some m) := h1
    by_cases h2 : under n ms[i + 1]?
    · rw [hm.const hi (by omega) h2,hs]; simp
    · simp [h2,h3]
theorem Open.stays {zs : List Rn} {p wo r : Int} {ms : List Int} {i : Nat} {Y : List Rn} {f m : Int} (h : Open zs p wo r ms i Y f) (hm : Marked zs p wo r ms) (hi : ms[i]? = some m) (hs : inS zs p wo r m = true) : Open zs p wo r ms (i + 1) Y f := by
  obtain ⟨g1,g2,g3,g4,g5,g6,g7⟩ := h
  rw [hi] at g5 g7
  refine ⟨g1,g2,g3,g4,under_trans (Int.le_of_lt g5) (hm.next hi),g6,fun n h1 h2 => ?_⟩
  rcases Int.lt_or_le n m with h3 | h3
  · exact g7 n h1 h3
  · rw [hm.const hi h3 h2]; exact hs
theorem Open.shuts {zs : List Rn} {p wo r : Int} {ms : List Int} {i : Nat} {Y : List Rn} {f m : Int} (h : Open zs p wo r ms i Y f) (hm : Marked zs p wo r ms) (hi : ms[i]? = some m) (hs : inS zs p wo r m = false) (hr : r < 8) : Shut zs p wo r ms (i + 1) (Y ++ [⟨r,f,m - 1⟩]) := by
  obtain ⟨g1,g2,g3,g4,g5,g6,g7⟩ := h
  rw [hi] at g5 g7
  have hfm : f < m := g5
  refine ⟨⟨fun y hy => ?_,?_⟩,fun y hy => ?_,fun y hy => ?_,fun n => ?_⟩
  · rcases List.mem_append.1 hy with hy | hy
    · exact g1.1 y hy
    · simp at hy; subst hy; rw [rr_iff]; exact ⟨hr,g4,by simp only; omega⟩
  · rw [List.pairwise_append]
    refine ⟨g1.2,by simp,fun a ha b hb => ?_⟩
    simp at hb; subst hb
    rw [ap_iff]
    exact .inr ⟨g2 a ha,g3 a ha⟩
  · rcases List.mem_append.1 hy with hy | hy
    · exact g2 y hy
    · simp at hy; subst hy; rfl
  · rcases List.mem_append.1 hy with hy | hy
    · have := g3 y hy
      exact under_trans (show y.hi + 1 ≤ m by omega) (hm.next hi)
    · simp at hy; subst hy
      exact under_trans (show m - 1 + 1 ≤ m by omega) (hm.next hi)
  · rw [covs_append,g6]
    have e : covs [(⟨r,f,m - 1⟩ : Rn)] r n = (decide (f ≤ n) && decide (n < m)) := by
      rw [Bool.eq_iff_iff,covs_iff,Bool.and_eq_true,decide_eq_true_eq,decide_eq_true_eq]
      simp only [List.mem_singleton,exists_eq_left,true_and]
      omega
    rw [e]
    rcases Int.lt_or_le n f with h1 | h1
    · have h2 : under n ms[i + 1]? := under_trans (show n ≤ m by omega) (hm.next hi)
      have h3 : ¬ f ≤ n := by omega
      simp [h1,h2,h3]
    · have h3 : ¬ n < f := by omega
      rcases Int.lt_or_le n m with h4 | h4
      · have h2 : under n ms[i + 1]? := under_trans (show n ≤ m by omega) (hm.next hi)
        rw [g7 n h1 h4]
        simp [h1,h2,h3,h4]
      · have h5 : ¬ n < m := by omega
        by_cases h2 : under n ms[i + 1]?
        · rw [hm.const hi h4 h2,hs]; simp [h3,h5]
        · simp [h2,h3,h5]
theorem Open.never {zs : List Rn} {p wo r : Int} {ms : List Int} {Y : List Rn} {f : Int} (h : Open zs p wo r ms ms.length Y f) : False := by
  have hb : ∀ l : List Rn,∃ M : Int,∀ y ∈ l,y.hi < M := by
    intro l
    induction l with
    | nil => exact ⟨0,by simp⟩
    | cons x l ih =>
      obtain ⟨M,hM⟩ := ih
      refine ⟨max M (x.hi + 1),fun y hy => ?_⟩
      rcases List.mem_cons.1 hy with rfl | hy
      · omega
      · have := hM y hy; omega
  obtain ⟨M,hM⟩ := hb zs
  have := h.on (max M f) (by omega) (by rw [List.getElem?_eq_none (Nat.le_refl _)]; trivial)
  have hc : covs zs r (max M f) = true := by
    simp only [inS,Bool.and_eq_true] at this
    exact this.1
  obtain ⟨y,hy,_,_,h3⟩ := (covs_iff _ _ _).1 hc
  have := hM y hy
  omega
theorem Shut.done {zs : List Rn} {p wo r : Int} {ms : List Int} {Y : List Rn} (h : Shut zs p wo r ms ms.length Y) (n : Int) : covs Y r n = inS zs p wo r n := by
  rw [h.tells,List.getElem?_eq_none (Nat.le_refl _),decide_eq_true (show under n none from trivial),Bool.and_true]

structure Told (zs : List Rn) (p wo : Int) (r : Nat) (P : List Rn) : Prop where
  good : Good P
  low : ∀ y ∈ P,y.r < r
  tells : ∀ q n,covs P q n = (inS zs p wo q n && decide (q < r))
theorem Told.start {zs : List Rn} {p wo : Int} (hz : ∀ x ∈ zs,0 ≤ x.r) : Told zs p wo 0 [] := by
  refine ⟨⟨by simp,by simp⟩,by simp,fun q n => ?_⟩
  by_cases h : q < ((0 : Nat) : Int)
  · have : covs zs q n = false := by
      rw [← Bool.not_eq_true,covs_iff]
      rintro ⟨y,hy,h1,_⟩
      have := hz y hy
      omega
    simp only [inS,this,Bool.false_and]; rfl
  · simp only [h,decide_false,Bool.and_false]; rfl
theorem Told.step {zs : List Rn} {p wo : Int} {r : Nat} {P Y : List Rn} {ms : List Int} (h : Told zs p wo r P) (hs : Shut zs p wo r ms ms.length Y) : Told zs p wo (r + 1) (P ++ Y) := by
  refine ⟨⟨fun y hy => ?_,?_⟩,fun y hy => ?_,fun q n => ?_⟩
  · rcases List.mem_append.1 hy with hy | hy
    · exact h.good.1 y hy
    · exact hs.good.1 y hy
  · rw [List.pairwise_append]
    refine ⟨h.good.2,hs.good.2,fun a ha b hb => ?_⟩
    have h1 := h.low a ha
    have h2 := hs.own b hb
    rw [ap_iff]
    omega
  · rcases List.mem_append.1 hy with hy | hy
    · have := h.low y hy; omega
    · have := hs.own y hy; omega
  · rw [covs_append,h.tells]
    by_cases hq : q = r
    · subst hq
      rw [hs.done]
      have h1 : ¬ ((r : Int) < (r : Int)) := by omega
      have h2 : (r : Int) < ((r + 1 : Nat) : Int) := by omega
      simp only [h1,h2,decide_false,decide_true,Bool.and_false,Bool.false_or,Bool.and_true]
    · have h0 : covs Y q n = false := by
        rw [← Bool.not_eq_true,covs_iff]
        rintro ⟨y,hy,h1,_⟩
        have := hs.own y hy
        omega
      rw [h0,Bool.or_false]
      congr 1
      rw [decide_eq_decide]
      omega
theorem Told.all {zs : List Rn} {p wo : Int} {P : List Rn} (h : Told zs p wo 8 P) (hz : ∀ x ∈ zs,x.r < 8) (q n : Int) : covs P q n = inS zs p wo q n := by
  rw [h.tells]
  by_cases hq : q < ((8 : Nat) : Int)
  · simp only [hq,decide_true,Bool.and_true]
  · have : covs zs q n = false := by
      rw [← Bool.not_eq_true,covs_iff]
      rintro ⟨y,hy,h1,_⟩
      have := hz y hy
      omega
    simp [inS,this]
end Go.Proofs.YtfjaeohfigcciabGreatDoor

