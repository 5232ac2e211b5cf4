/- Texts in one: Refs, ITakes0. -/
import Derived.Test.YtfjaeohfigcciabGreatDoorQA42
import Derived.Test.YtfjaeohfigcciabGreatDoorQA23
import Derived.Test.YtfjaeohfigcciabGreatDoorQA02
import Derived.Test.YtfjaeohfigcciabGreatDoorQA04
import Derived.Test.YtfjaeohfigcciabGreatDoorQA14
set_option linter.all false
namespace Go.Proofs.YtfjaeohfigcciabGreatDoor
open Go.RowKit Go.Sort

theorem empty_own (w : World) (g : Nat) (hg : g = w.heap.size) (base : Nat) (hb : base ≤ g) : Own (w.alloc (.cells #[] 67)) base (.slice (some ⟨g,0,none⟩) 0 0) [] := by
  subst hg
  exact World.ownsRow_made (base := base) (e := 67) (size := 3) w #[] 0 hb (by unfold maxLen; omega) (by simp)

theorem inS_all (zs : List Rn) (q m : Int) : inS zs 0 0 q m = covs zs q m := by simp [inS]
theorem told_union {zs ys out : List Rn} (h1 : rightB zs = true) (h2 : rightB ys = true) (hg : Good out) (hc : ∀ q m,covs out q m = inS (zs ++ ys) 0 0 q m) : out = unionL zs ys :=
  (unionL_is h1 h2 hg fun p n => by rw [hc,inS_all,covs_append]).symm
theorem right_one {p n : Int} : rightB [⟨p,n,n⟩] = rrB ⟨p,n,n⟩ := by
  rw [Bool.eq_iff_iff,right_iff]
  simp [Good]
theorem RefPost.of_below {w0 w : World} {res : Except Int (List Rn)} {e : Ending} {w' : World} (h : RefPost w res e w') (hb : Below w0.heap.size w0 w) : RefPost w0 res e w' := by
  cases res with
  | ok l =>
    obtain ⟨v,he,hs,hb'⟩ := h
    exact ⟨v,he,hs,hb.trans (hb'.mono hb.size)⟩
  | error c => exact ⟨h.1,hb.trans (h.2.mono hb.size)⟩

set_option maxHeartbeats 2000000 in
set_option maxRecDepth 100000 in
theorem refUnion_any (va vb : Value) (zs ys : List Rn) (w : World) (ha : Sl w w.heap.size va zs) (hb : Sl w w.heap.size vb ys) (hz : zs.length ≤ 1000) (hy : ys.length ≤ 1000) :
    Calls Tryz.prog 41 #[va,vb] w (RefPost w (unionR zs ys)) := by
  have hr := refRight_any va zs w ha hz
  have HA := Lib.hid ha
  have HB := Lib.hid hb
  obtain ⟨A,c,rfl,_,_,_⟩ := ha
  obtain ⟨A',c',rfl,_,_,_⟩ := hb
  by_cases hx : rightB zs = true
  · rw [hx] at hr
    have HR := Lib.hid hr; clear hr
    have hq := fun w1 (hb1 : Below w.heap.size w w1) => refRight_any _ ys w1 ((HB.out.below hb1).more hb1.size) hy
    by_cases hyr : rightB ys = true
    · rw [hyr] at hq
      have HQ := Lib.hid hq; clear hq
      rw [union_of hx hyr]
      have hz64 := ((right_iff zs).1 hx).1
      have hy64 := ((right_iff ys).1 hyr).1
      have hrr : ∀ x ∈ zs ++ ys,rrB x = true := fun x hm => by
        rcases List.mem_append.1 hm with h | h
        · exact ((right_iff zs).1 hx).2.1 x h
        · exact ((right_iff ys).1 hyr).2.1 x h
      have hok : ∀ x ∈ zs ++ ys,x.ok := fun x hm => by
        obtain ⟨_,_,_,_,h1,_⟩ := HA.out
        obtain ⟨_,_,_,_,h2,_⟩ := HB.out
        rcases List.mem_append.1 hm with h | h
        · exact h1 x h
        · exact h2 x h
      have htu := fun out hg hc => told_union (out := out) hx hyr hg hc
      have ht := fun v3 w3 (hs3 : Sl w3 w3.heap.size v3 (zs ++ ys)) (hb3 : Below w.heap.size w w3) => (told_any v3 (zs ++ ys) 0 0 w3 hs3 (by rw [List.length_append]; omega) hrr (by decide) (by decide)).mono fun e w' ⟨out,hg,hc,hr⟩ => by
        rw [htu out hg hc] at hr
        exact hr.of_below hb3
      have HT := Lib.hid ht; clear ht htu hrr hx hyr
      have HOK := Lib.hid hok; clear hok
      change Hid (∀ v3 w3,Sl w3 w3.heap.size v3 (zs ++ ys) → Below w.heap.size w w3 → Calls _ _ _ _ (fun e w' => RefPost w (lim (unionL zs ys)) e w')) at HT
      generalize lim (unionL zs ys) = L at HT ⊢
      go_enter Tryz.func41,Tryz.ntmps41
      go_wp2_with fail
      refine (HR.out).mono ?_
      rintro e w1 ⟨rfl,hb1⟩
      have HB1 := Lib.hid hb1; clear hb1
      go_wp2_with fail
      refine (HQ.out w1 HB1.out).mono ?_
      rintro e w2 ⟨rfl,hb2⟩
      have HB2 := Lib.hid (HB1.out.trans (hb2.mono HB1.out.size)); clear hb2
      have hsz2 := HB2.out.size
      have hsz2' : w.heap.size ≤ (w2.alloc (.cells #[] 67)).heap.size := by simp; omega
      have HB2' := Lib.hid (HB2.out.alloc hsz2 (.cells #[] 67))
      have ho2 := empty_own w2 w2.heap.size rfl w.heap.size hsz2
      have tok1 : True := trivial
      go_wp2_with (first
        | (at_builtin; have _t := tok1; (refine append_runs rfl _ _ rfl w.heap.size _ [] rfl ho2 _ _ zs rfl (HA.out.below HB2'.out) (by simp; omega) hsz2' ?_); intro v3 w3 ho3 hg3; clear tok1; rw [List.nil_append] at ho3; have tok2 : True := trivial; have HB3 := Lib.hid (grown_below HB2'.out ho2 hg3 (Nat.le_refl _) hsz2'))
        | (at_builtin; have _t := tok2; (refine append_runs rfl _ _ rfl w.heap.size _ zs rfl ho3 _ _ ys rfl (HB.out.below HB3.out) (by omega) HB3.out.size ?_); intro v4 w4 ho4 hg4; clear tok2; have HB4 := Lib.hid (grown_below HB3.out ho3 hg4 (Nat.le_refl _) HB3.out.size)))
      refine (HT.out v4 w4 (ho4.sl HOK.out) HB4.out).mono ?_
      cases L with
      | ok l =>
        rintro e w9 ⟨v9,rfl,hv9,hb9⟩
        have H9 := Lib.hid hv9; clear hv9
        go_wp2_with fail
        go_ret2
        exact ⟨v9,rfl,H9.out,hb9⟩
      | error cc =>
        rintro e w9 ⟨rfl,hb9⟩
        go_wp2_with fail
        go_ret2
        exact ⟨rfl,hb9⟩
    · have hyr : rightB ys = false := by simpa using hyr
      rw [hyr] at hq
      have HQ := Lib.hid hq; clear hq
      have e : unionR zs ys = .error 9 := by rw [unionR,if_neg]; simp [hyr]
      rw [e]; clear e hx hyr
      go_enter Tryz.func41,Tryz.ntmps41
      go_wp2_with fail
      refine (HR.out).mono ?_
      rintro e w1 ⟨rfl,hb1⟩
      go_wp2_with fail
      refine (HQ.out w1 hb1).mono ?_
      rintro e w2 ⟨rfl,hb2⟩
      go_wp2_with fail
      go_ret2
      exact ⟨rfl,hb1.trans (hb2.mono hb1.size)⟩
  · have hx : rightB zs = false := by simpa using hx
    have e : unionR zs ys = .error 9 := by rw [unionR,if_neg]; simp [hx]
    rw [e]; clear e
    rw [hx] at hr
    have HR := Lib.hid hr; clear hr hx
    go_enter Tryz.func41,Tryz.ntmps41
    go_wp2_with fail
    refine (HR.out).mono ?_
    rintro e w1 ⟨rfl,hb1⟩
    go_wp2_with fail
    go_ret2
    exact ⟨rfl,hb1⟩

set_option maxHeartbeats 2000000 in
set_option maxRecDepth 100000 in
theorem refAdd_any (v : Value) (zs : List Rn) (p n : Int) (w : World) (hp : 0 ≤ p ∧ p ≤ 255) (hn : 0 ≤ n ∧ n ≤ 4294967295) (h : Sl w w.heap.size v zs) (hz : zs.length ≤ 1000) :
    Calls Tryz.prog 40 #[v,.int .u8 p,.int .u32 n] w (RefPost w (addR zs p n)) := by
  have hr := refRight_any v zs w h hz
  have HA := Lib.hid h
  obtain ⟨A,c,rfl,_,_,_⟩ := h
  by_cases hx : rightB zs = true
  · rw [hx] at hr
    have HR := Lib.hid hr; clear hr
    by_cases hp8 : p < 8
    · have g1 : decide (8 ≤ p) = false := by simp; omega
      by_cases hn0 : n = 0
      · have e : addR zs p n = .error 9 := by rw [addR,unionR,if_neg]; rw [right_one]; simp [rrB]; omega
        rw [e]; clear e
        have g2 : (n == 0) = true := by simp [hn0]
        clear hn0 hx
        go_enter Tryz.func40,Tryz.ntmps40
        go_wp2_with fail
        refine (HR.out).mono ?_
        rintro e w1 ⟨rfl,hb1⟩
        go_wp2_with fail
        go_ret2
        exact ⟨rfl,hb1⟩
      · have hyr : rightB [⟨p,n,n⟩] = true := by rw [right_one]; simp [rrB]; omega
        rw [addR,union_of hx hyr]
        have g2 : (n == 0) = false := by simp [hn0]
        have hz64 := ((right_iff zs).1 hx).1
        have hrr : ∀ x ∈ zs ++ [⟨p,n,n⟩],rrB x = true := fun x hm => by
          rcases List.mem_append.1 hm with h | h
          · exact ((right_iff zs).1 hx).2.1 x h
          · exact ((right_iff _).1 hyr).2.1 x h
        have hok1 : Rn.ok ⟨p,n,n⟩ := ⟨hp,hn,hn⟩
        have hok : ∀ x ∈ zs ++ [⟨p,n,n⟩],x.ok := fun x hm => by
          obtain ⟨_,_,_,_,h1,_⟩ := HA.out
          rcases List.mem_append.1 hm with h | h
          · exact h1 x h
          · simp at h; subst h; exact hok1
        have htu := fun out hg hc => told_union (out := out) hx hyr hg hc
        have ht := fun v3 w3 (hs3 : Sl w3 w3.heap.size v3 (zs ++ [⟨p,n,n⟩])) (hb3 : Below w.heap.size w w3) => (told_any v3 (zs ++ [⟨p,n,n⟩]) 0 0 w3 hs3 (by rw [List.length_append]; simp; omega) hrr (by decide) (by decide)).mono fun e w' ⟨out,hg,hc,hr⟩ => by
          rw [htu out hg hc] at hr
          exact hr.of_below hb3
        have HT := Lib.hid ht; clear ht htu hrr hx hyr hn0
        have HOK := Lib.hid hok; clear hok
        have HOK1 := Lib.hid hok1; clear hok1
        change Hid (∀ v3 w3,Sl w3 w3.heap.size v3 (zs ++ [⟨p,n,n⟩]) → Below w.heap.size w w3 → Calls _ _ _ _ (fun e w' => RefPost w (lim (unionL zs [⟨p,n,n⟩])) e w')) at HT
        generalize lim (unionL zs [⟨p,n,n⟩]) = L at HT ⊢
        clear hp hn
        go_enter Tryz.func40,Tryz.ntmps40
        go_wp2_with fail
        refine (HR.out).mono ?_
        rintro e w2 ⟨rfl,hb2⟩
        have HB2 := Lib.hid hb2; clear hb2
        have hsz2 := HB2.out.size
        have hsz2' : w.heap.size ≤ (w2.alloc (.cells #[] 67)).heap.size := by simp; omega
        have HB2' := Lib.hid (HB2.out.alloc hsz2 (.cells #[] 67))
        have ho2 := empty_own w2 w2.heap.size rfl w.heap.size hsz2
        have tok1 : True := trivial
        go_wp2_with (first
          | (at_builtin; have _t := tok1; (refine append_runs rfl _ _ rfl w.heap.size _ [] rfl ho2 _ _ zs rfl (HA.out.below HB2'.out) (by simp; omega) hsz2' ?_); intro v3 w3 ho3 hg3; clear tok1; rw [List.nil_append] at ho3; have tok2 : True := trivial; have HB3 := Lib.hid (grown_below HB2'.out ho2 hg3 (Nat.le_refl _) hsz2'); have hsz3 := HB3.out.size)
          | (at_builtin; have _t := tok2; (refine append_runs rfl _ _ rfl w.heap.size _ zs rfl (ho3.alloc _) _ _ [⟨p,n,n⟩] rfl (one_sl _ _ p n n (by simp) HOK1.out) (by simp; omega) (by simp; omega) ?_); intro v4 w4 ho4 hg4; clear tok2; have HB4 := Lib.hid (grown_below (HB3.out.alloc hsz3 _) (ho3.alloc _) hg4 (Nat.le_refl _) (by simp; omega))))
        refine (HT.out v4 w4 (ho4.sl HOK.out) HB4.out).mono ?_
        cases L with
        | ok l =>
          rintro e w9 ⟨v9,rfl,hv9,hb9⟩
          have H9 := Lib.hid hv9; clear hv9
          go_wp2_with fail
          go_ret2
          exact ⟨v9,rfl,H9.out,hb9⟩
        | error cc =>
          rintro e w9 ⟨rfl,hb9⟩
          go_wp2_with fail
          go_ret2
          exact ⟨rfl,hb9⟩
    · have e : addR zs p n = .error 9 := by rw [addR,unionR,if_neg]; rw [right_one]; simp [rrB]; omega
      rw [e]; clear e
      have g1 : decide (8 ≤ p) = true := by simp; omega
      clear hx
      go_enter Tryz.func40,Tryz.ntmps40
      go_wp2_with fail
      refine (HR.out).mono ?_
      rintro e w1 ⟨rfl,hb1⟩
      go_wp2_with fail
      go_ret2
      exact ⟨rfl,hb1⟩
  · have hx : rightB zs = false := by simpa using hx
    have e : addR zs p n = .error 9 := by rw [addR,unionR,if_neg]; simp [hx]
    rw [e]; clear e
    rw [hx] at hr
    have HR := Lib.hid hr; clear hr hx
    go_enter Tryz.func40,Tryz.ntmps40
    go_wp2_with fail
    refine (HR.out).mono ?_
    rintro e w1 ⟨rfl,hb1⟩
    go_wp2_with fail
    go_ret2
    exact ⟨rfl,hb1⟩

theorem RefPost.val {w : World} {res : Except Int (List Rn)} {e : Ending} {w' : World} (h : RefPost w res e w') : ∃ v,e = .returned (.tuple #[v,.int .i64 (match res with | .ok _ => 0 | .error c => c)]) ∧ Sl w' w'.heap.size v (match res with | .ok l => l | .error _ => []) ∧ Below w.heap.size w w' := by
  cases res with
  | ok l => exact h
  | error c => exact ⟨_,h.1,Sl.nil _ _,h.2⟩
end Go.Proofs.YtfjaeohfigcciabGreatDoor

namespace Go.Proofs.YtfjaeohfigcciabGreatDoor
open Go.RowKit

def outT (zs : List En) (e : En) (k : Nat) : List En := if (zs.take k).any (fun x => decide (e.id ≤ x.id)) = true then takeS (zs.take k) e else zs.take k
def putT (zs : List En) (e : En) (k : Nat) : Bool := (zs.take k).any (fun x => decide (e.id ≤ x.id))

theorem takeS_append_low {l : List En} {e : En} (r : List En) (h : ∀ x ∈ l,x.id < e.id) : takeS (l ++ r) e = l ++ takeS r e := by
  induction l with
  | nil => rfl
  | cons x l ih =>
    rw [List.cons_append,takeS,if_pos (h x (by simp)),ih (fun y hy => h y (by simp [hy]))]
    rfl
theorem takeS_append_high {l : List En} {e : En} (r : List En) (h : l.any (fun x => decide (e.id ≤ x.id)) = true) : takeS (l ++ r) e = takeS l e ++ r := by
  induction l with
  | nil => simp at h
  | cons x l ih =>
    rw [List.cons_append,takeS,takeS]
    by_cases hx : x.id < e.id
    · rw [if_pos hx,if_pos hx,ih (by
        simp only [List.any_cons,Bool.or_eq_true,decide_eq_true_eq] at h
        rcases h with h | h
        · omega
        · exact h)]
      rfl
    · rw [if_neg hx,if_neg hx]
      split <;> rfl
theorem put_false {l : List En} {e : En} (h : l.any (fun x => decide (e.id ≤ x.id)) = false) : ∀ x ∈ l,x.id < e.id := by
  intro x hx
  rw [List.any_eq_false] at h
  have := h x hx
  simp at this
  exact this
theorem outT_end (zs : List En) (e : En) : (if putT zs e zs.length = true then outT zs e zs.length else outT zs e zs.length ++ [e]) = takeS zs e := by
  unfold putT outT
  rw [List.take_length]
  split
  · rfl
  · next h =>
    have := takeS_append_low (e := e) [] (put_false (by simpa using h))
    rw [List.append_nil] at this
    rw [this]; rfl
theorem outT_step {zs : List En} {e x : En} {k : Nat} (hx : zs[k]? = some x) (hr : Rise zs) :
    (putT zs e k = true → putT zs e (k + 1) = true ∧ outT zs e (k + 1) = outT zs e k ++ [x] ∧ e.id < x.id) ∧
    (putT zs e k = false → (x.id < e.id → putT zs e (k + 1) = false ∧ outT zs e (k + 1) = outT zs e k ++ [x]) ∧
      (x.id = e.id → putT zs e (k + 1) = true ∧ outT zs e (k + 1) = outT zs e k ++ [if repB e x = true then e else x]) ∧
      (e.id < x.id → putT zs e (k + 1) = true ∧ outT zs e (k + 1) = outT zs e k ++ [e] ++ [x])) := by
  obtain ⟨hk,hxe⟩ := List.getElem?_eq_some_iff.1 hx
  have ht : zs.take (k + 1) = zs.take k ++ [x] := by rw [List.take_succ_eq_append_getElem hk,hxe]
  have hpk : putT zs e (k + 1) = (putT zs e k || decide (e.id ≤ x.id)) := by unfold putT; rw [ht]; simp
  refine ⟨fun hp => ?_,fun hp => ?_⟩
  · have hp' : (zs.take k).any (fun x => decide (e.id ≤ x.id)) = true := hp
    have hp1 : (zs.take (k + 1)).any (fun x => decide (e.id ≤ x.id)) = true := by rw [ht]; simp at hp' ⊢; exact .inl hp'
    refine ⟨by rw [hpk,hp]; rfl,?_,?_⟩
    · unfold outT
      rw [if_pos hp',if_pos hp1,ht,takeS_append_high _ hp']
    · rw [List.any_eq_true] at hp'
      obtain ⟨y,hy,hle⟩ := hp'
      obtain ⟨i,hi,rfl⟩ := List.mem_iff_getElem.1 hy
      rw [List.getElem_take] at hle
      rw [List.length_take] at hi
      have := List.pairwise_iff_getElem.1 hr i k (by omega) hk (by omega)
      rw [hxe] at this
      simp at hle
      omega
  · have hp' : (zs.take k).any (fun x => decide (e.id ≤ x.id)) = false := hp
    have hlow := put_false hp'
    have ho : outT zs e k = zs.take k := by unfold outT; rw [if_neg (by rw [hp']; simp)]
    refine ⟨fun h => ?_,fun h => ?_,fun h => ?_⟩
    · have hf : putT zs e (k + 1) = false := by rw [hpk,hp]; simp; omega
      refine ⟨hf,?_⟩
      rw [ho]
      unfold outT
      rw [if_neg (by show ¬ putT zs e (k + 1) = true; rw [hf]; simp),ht]
    · have hf : putT zs e (k + 1) = true := by rw [hpk,hp]; simp; omega
      refine ⟨hf,?_⟩
      rw [ho]
      unfold outT
      have hf' : (zs.take (k + 1)).any (fun x => decide (e.id ≤ x.id)) = true := hf
      rw [if_pos hf',ht,takeS_append_low _ hlow]
      simp only [takeS]
      rw [if_neg (by omega),if_pos h]
    · have hf : putT zs e (k + 1) = true := by rw [hpk,hp]; simp; omega
      refine ⟨hf,?_⟩
      rw [ho]
      unfold outT
      have hf' : (zs.take (k + 1)).any (fun x => decide (e.id ≤ x.id)) = true := hf
      rw [if_pos hf',ht,takeS_append_low _ hlow]
      simp only [takeS]
      rw [if_neg (by omega),if_neg (by omega)]
      simp
theorem outT_length (zs : List En) (e : En) (k : Nat) : (outT zs e k).length ≤ zs.length + 1 := by
  unfold outT
  have : (zs.take k).length ≤ zs.length := List.length_take_le' ..
  split
  · have := takeS_length (zs.take k) e; omega
  · omega
end Go.Proofs.YtfjaeohfigcciabGreatDoor

