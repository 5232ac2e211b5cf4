/- The contracts of know.inOrder, know.Union and know.Add. -/
import Derived.Test.YtfjaeohfigcciaaOrder
namespace Go.Proofs.Ytfjaeohfigcciaa
open Go.RowKit Go.Sort Go.Shelf

def leR (x y : Rn) : Bool := decide (¬ (y.r < x.r ∨ (y.r = x.r ∧ y.lo < x.lo)))
def unionL (zs ys : List Rn) : List Rn := joinL ((zs ++ ys).mergeSort leR)
def unionR (zs ys : List Rn) : Except Int (List Rn) := if rightB zs = true ∧ rightB ys = true then lim (unionL zs ys) else .error 9
def addR (zs : List Rn) (p n : Int) : Except Int (List Rn) := unionR zs [⟨p, n, n⟩]

theorem union_good {zs ys l : List Rn} (hz : rightB zs = true) (hy : rightB ys = true) (hp : l.Perm (zs ++ ys)) (ho : Ordered l) :
    Good (joinL l) ∧ ∀ p n, covs (joinL l) p n = (covs zs p n || covs ys p n) := by
  have hr : ∀ x ∈ l, rrB x = true := fun x hx => by
    rcases List.mem_append.1 (hp.mem_iff.1 hx) with h | h
    · exact ((right_iff zs).1 hz).2.1 x h
    · exact ((right_iff ys).1 hy).2.1 x h
  obtain ⟨h1, h2⟩ := joinL_good hr ho
  exact ⟨h1, fun p n => by rw [h2, covs_perm hp, covs_append]⟩
theorem mergeSort_ordered (l : List Rn) : Ordered (l.mergeSort leR) := by
  have := List.pairwise_mergeSort (le := leR) (fun a b c h1 h2 => by simp only [leR, decide_eq_true_eq] at *; omega) (fun a b => by simp only [leR, Bool.or_eq_true, decide_eq_true_eq]; omega) l
  exact this.imp fun h => by simpa only [leR, decide_eq_true_eq] using h
theorem unionL_good {zs ys : List Rn} (hz : rightB zs = true) (hy : rightB ys = true) : Good (unionL zs ys) ∧ ∀ p n, covs (unionL zs ys) p n = (covs zs p n || covs ys p n) :=
  union_good hz hy (List.mergeSort_perm _ _) (mergeSort_ordered _)
theorem unionL_of {zs ys l : List Rn} (hz : rightB zs = true) (hy : rightB ys = true) (hp : l.Perm (zs ++ ys)) (ho : Ordered l) : joinL l = unionL zs ys := by
  obtain ⟨a1, a2⟩ := union_good hz hy hp ho
  obtain ⟨b1, b2⟩ := unionL_good hz hy
  exact canon _ _ a1 b1 fun p n => by rw [a2, b2]

def InPost (w : World) (zs : List Rn) (e : Ending) (w' : World) : Prop := ∃ v l, e = .returned v ∧ l.Perm zs ∧ Ordered l ∧ Sl w' w'.heap.size v l ∧ Below w.heap.size w w'

set_option maxHeartbeats 1000000 in
theorem inOrder_any (va vb : Value) (zs ys : List Rn) (w : World) (ha : Sl w w.heap.size va zs) (hb : Sl w w.heap.size vb ys) (hz : zs.length ≤ 64) (hy : ys.length ≤ 64) :
    Calls Try.prog 34 #[va, vb] w (InPost w (zs ++ ys)) := by
  have hok : ∀ x ∈ zs ++ ys, x.ok := fun x hx => by
    obtain ⟨_, _, _, _, h1, _⟩ := ha
    obtain ⟨_, _, _, _, h2, _⟩ := hb
    rcases List.mem_append.1 hx with h | h
    · exact h1 x h
    · exact h2 x h
  have hcon := Concat_any va vb zs ys w.heap.size (w.alloc (.cells #[va, vb] 22)) (by simp) (by simp) (by simp) ((ha.alloc (Nat.le_refl _) _).more (by simp)) ((hb.alloc (Nat.le_refl _) _).more (by simp)) (by omega) (by omega)
  have hsz : w.heap.size ≤ (w.alloc (.cells #[va, vb] 22)).heap.size := by simp
  have hbl : Below w.heap.size w (w.alloc (.cells #[va, vb] 22)) := (Below.refl _ w).alloc (Nat.le_refl _) _
  have HC := Lib.hid hcon; clear hcon
  have HBL := Lib.hid hbl; clear hbl
  have HOK := Lib.hid hok; clear hok
  obtain ⟨A1, k1, rfl, _, _, _⟩ := ha
  obtain ⟨A2, k2, rfl, _, _, _⟩ := hb
  go_enter Try.func34, Try.ntmps34
  go_wp2_with fail
  refine (HC.out).mono ?_
  rintro e w2 ⟨v5, rfl, ho, hb2⟩
  have hs := Sort_any v5 (zs ++ ys) w2 _ ho HOK.out (by simp; omega) hb2.size
  have HS := Lib.hid hs; clear hs ho
  have HB2 := Lib.hid hb2; clear hb2
  go_wp2_with fail
  refine (HS.out).mono ?_
  rintro e w3 ⟨rfl, l, hp, hor, hsl, hb3⟩
  have HP := Lib.hid hp; clear hp
  have HR := Lib.hid hor; clear hor
  have HL := Lib.hid hsl; clear hsl
  have HB3 := Lib.hid hb3; clear hb3
  go_wp2
  go_ret
  exact ⟨v5, l, rfl, HP.out, HR.out, HL.out, HBL.out.trans ((HB2.out.trans HB3.out).mono hsz)⟩

set_option maxHeartbeats 1000000 in
theorem Union_wrong1 (va vb : Value) (zs : List Rn) (w : World) (ha : Sl w w.heap.size va zs) (hx : rightB zs = false) :
    Calls Try.prog 10 #[va, vb] w (ResPost w (.error 9)) := by
  have hr := Right_any w va zs ha
  rw [hx] at hr
  have HR := Lib.hid hr; clear hr hx
  go_enter Try.func10, Try.ntmps10
  go_wp2_with fail
  refine (HR.out).mono ?_
  rintro e w1 ⟨rfl, hb1⟩
  go_wp2_with fail
  go_ret2
  exact ⟨rfl, hb1⟩

set_option maxHeartbeats 1000000 in
theorem Union_wrong2 (va vb : Value) (zs ys : List Rn) (w : World) (ha : Sl w w.heap.size va zs) (hb : Sl w w.heap.size vb ys) (hx : rightB zs = true) (hy : rightB ys = false) :
    Calls Try.prog 10 #[va, vb] w (ResPost w (.error 9)) := by
  have hr := Right_any w va zs ha
  rw [hx] at hr
  have HR := Lib.hid hr; clear hr hx
  have hq := fun w1 (hb1 : Below w.heap.size w w1) => Right_any w1 vb ys ((hb.below hb1).more hb1.size)
  rw [hy] at hq
  have HQ := Lib.hid hq; clear hq hy
  go_enter Try.func10, Try.ntmps10
  go_wp2_with fail
  refine (HR.out).mono ?_
  rintro e w1 ⟨rfl, hb1⟩
  go_wp2_with fail
  refine (HQ.out w1 hb1).mono ?_
  rintro e w2 ⟨rfl, hb2⟩
  go_wp2_with fail
  go_ret2
  exact ⟨rfl, hb1.trans (hb2.mono hb1.size)⟩

set_option maxHeartbeats 1000000 in
theorem Union_right (va vb : Value) (zs ys : List Rn) (w : World) (ha : Sl w w.heap.size va zs) (hb : Sl w w.heap.size vb ys) (hx : rightB zs = true) (hy : rightB ys = true) :
    Calls Try.prog 10 #[va, vb] w (ResPost w (lim (unionL zs ys))) := by
  have hz64 := ((right_iff zs).1 hx).1
  have hy64 := ((right_iff ys).1 hy).1
  have hun := fun l hp ho => unionL_of (l := l) hx hy hp ho
  have hr := Right_any w va zs ha
  rw [hx] at hr
  have HR := Lib.hid hr; clear hr hx
  have hq := fun w1 (hb1 : Below w.heap.size w w1) => Right_any w1 vb ys ((hb.below hb1).more hb1.size)
  rw [hy] at hq
  have HQ := Lib.hid hq; clear hq hy
  have hin := fun w1 (hb1 : Below w.heap.size w w1) => inOrder_any va vb zs ys w1 ((ha.below hb1).more hb1.size) ((hb.below hb1).more hb1.size) hz64 hy64
  have HI := Lib.hid hin; clear hin
  have HU := Lib.hid hun; clear hun
  generalize hL : lim (unionL zs ys) = L
  have HL := Lib.hid hL; clear hL
  go_enter Try.func10, Try.ntmps10
  go_wp2_with fail
  refine (HR.out).mono ?_
  rintro e w1 ⟨rfl, hb1⟩
  go_wp2_with fail
  refine (HQ.out w1 hb1).mono ?_
  rintro e w2 ⟨rfl, hb2⟩
  have hb12 := hb1.trans (hb2.mono hb1.size)
  have HB12 := Lib.hid hb12; clear hb12 hb1 hb2
  go_wp2_with fail
  refine (HI.out w2 HB12.out).mono ?_
  rintro e w3 ⟨v3, l, rfl, hp, ho, hsl, hb3⟩
  have hll : l.length ≤ 128 := by rw [hp.length_eq]; simp; omega
  have hokl : ∀ x ∈ l, x.ok := by obtain ⟨_, _, _, _, h1, _⟩ := hsl; exact h1
  have hj := joined_any v3 l w3 (by omega) hsl
  rw [HU.out l hp ho] at hj
  have hju := joinL_ok hokl
  have hjl := joinL_len hokl
  rw [HU.out l hp ho] at hju hjl
  have HJ := Lib.hid hj; clear hj
  have HJU := Lib.hid hju; clear hju
  have hb13 := HB12.out.trans (hb3.mono HB12.out.size)
  have HB13 := Lib.hid hb13; clear hb13 hb3
  clear hp ho hsl hokl
  go_wp2_with fail
  refine (HJ.out).mono ?_
  rintro e w4 ⟨v4, rfl, ho4, hb4⟩
  have hb14 := HB13.out.trans (hb4.mono HB13.out.size)
  have hw := within_any v4 _ w4 w _ ho4 HJU.out (by omega) hb14
  rw [HL.out] at hw
  have HW := Lib.hid hw; clear hw ho4 hb4 hb14
  go_wp2_with fail
  refine (HW.out).mono ?_
  cases L with
  | ok l =>
    rintro e w9 ⟨v9, rfl, hv9, hb9⟩
    have H9 := Lib.hid hv9; clear hv9
    go_wp2_with fail
    go_ret2
    exact ⟨v9, rfl, H9.out, hb9⟩
  | error cc =>
    rintro e w9 ⟨rfl, hb9⟩
    go_wp2_with fail
    go_ret2
    exact ⟨rfl, hb9⟩

theorem Union_any (va vb : Value) (zs ys : List Rn) (w : World) (ha : Sl w w.heap.size va zs) (hb : Sl w w.heap.size vb ys) :
    Calls Try.prog 10 #[va, vb] w (ResPost w (unionR zs ys)) := by
  unfold unionR
  by_cases hx : rightB zs = true
  · by_cases hy : rightB ys = true
    · rw [if_pos ⟨hx, hy⟩]; exact Union_right va vb zs ys w ha hb hx hy
    · rw [if_neg (fun h => hy h.2)]; exact Union_wrong2 va vb zs ys w ha hb hx (by simpa using hy)
  · rw [if_neg (fun h => hx h.1)]; exact Union_wrong1 va vb zs w ha (by simpa using hx)

theorem ResPost.of_below {w0 w : World} {res : Except Int (List Rn)} {e : Ending} {w' : World} (h : ResPost w res e w') (hb : Below w0.heap.size w0 w) : ResPost w0 res e w' := by
  cases res with
  | ok l =>
    obtain ⟨v, he, hs, hb'⟩ := h
    exact ⟨v, he, hs, hb.trans (hb'.mono hb.size)⟩
  | error c => exact ⟨h.1, hb.trans (h.2.mono hb.size)⟩

set_option maxHeartbeats 1000000 in
theorem Add_any (v : Value) (zs : List Rn) (p n : Int) (w : World) (hp : 0 ≤ p ∧ p ≤ 255) (hn : 0 ≤ n ∧ n ≤ 4294967295) (h : Sl w w.heap.size v zs) :
    Calls Try.prog 8 #[v, .int .u8 p, .int .u32 n] w (ResPost w (addR zs p n)) := by
  have hbl : Below w.heap.size w (w.alloc (.cells #[.int .u8 p, .int .u32 n, .int .u32 n] 55)) := (Below.refl _ w).alloc (Nat.le_refl _) _
  have hu := (Union_any v (.slice (some ⟨w.heap.size, 0, none⟩) 1 1) zs [⟨p, n, n⟩] (w.alloc (.cells #[.int .u8 p, .int .u32 n, .int .u32 n] 55))
    ((h.below hbl).more (by simp)) ((one_sl w w.heap.size p n n rfl ⟨hp, hn, hn⟩).more (by simp))).mono fun e w' hr => hr.of_below hbl
  have HU := Lib.hid hu; clear hu hbl
  change Hid (Calls _ _ _ _ (fun e w' => ResPost w (addR zs p n) e w')) at HU
  generalize addR zs p n = L at HU ⊢
  obtain ⟨A, c, rfl, _, _, _⟩ := h
  go_enter Try.func8, Try.ntmps8
  go_wp2_with fail
  refine (HU.out).mono ?_
  cases L with
  | ok l =>
    rintro e w9 ⟨v9, rfl, hv9, hb9⟩
    have H9 := Lib.hid hv9; clear hv9
    go_wp2_with fail
    go_ret2
    exact ⟨v9, rfl, H9.out, hb9⟩
  | error cc =>
    rintro e w9 ⟨rfl, hb9⟩
    go_wp2_with fail
    go_ret2
    exact ⟨rfl, hb9⟩
end Go.Proofs.Ytfjaeohfigcciaa

