/- The contracts of the reference's Add, Drop and Union: they tell what the program's own tell. -/
import Derived.Test.YtfjaeohfigcciaaDoorTold
import Derived.Test.YtfjaeohfigcciaaDoorLawMath
namespace Go.Proofs.YtfjaeohfigcciaaDoor
open Go.RowKit Go.Sort

theorem empty_own (w : World) (g : Nat) (hg : g = w.heap.size) (base : Nat) (hb : base ≤ g) : Own (w.alloc (.cells #[] 51)) base (.slice (some ⟨g, 0, none⟩) 0 0) [] := by
  subst hg
  exact World.ownsRow_made (base := base) (e := 51) (size := 3) w #[] 0 hb (by unfold maxLen; omega) (by simp)

theorem inS_all (zs : List Rn) (q m : Int) : inS zs 0 0 q m = covs zs q m := by simp [inS]
theorem told_union {zs ys out : List Rn} (h1 : rightB zs = true) (h2 : rightB ys = true) (hg : Good out) (hc : ∀ q m, covs out q m = inS (zs ++ ys) 0 0 q m) : out = unionL zs ys :=
  (unionL_is h1 h2 hg fun p n => by rw [hc, inS_all, covs_append]).symm
theorem told_drop {zs out : List Rn} {p n : Int} (h1 : rightB zs = true) (hn : 0 < n) (hg : Good out) (hc : ∀ q m, covs out q m = inS zs p n q m) : out = dropL zs p n := by
  obtain ⟨g1, g2⟩ := dropL_good (p := p) (n := n) ((right_iff zs).1 h1).2
  refine canon _ _ hg g1 fun q m => ?_
  rw [hc, g2, inS]
  congr 2
  by_cases h : p = q
  · subst h; simp [hn]
  · have h' : ¬ q = p := fun e => h e.symm
    simp [h, h']
theorem right_one {p n : Int} : rightB [⟨p, n, n⟩] = rrB ⟨p, n, n⟩ := by
  rw [Bool.eq_iff_iff, right_iff]
  simp [Good]
theorem RefPost.of_below {w0 w : World} {res : Except Int (List Rn)} {e : Ending} {w' : World} (h : RefPost w res e w') (hb : Below w0.heap.size w0 w) : RefPost w0 res e w' := by
  cases res with
  | ok l =>
    obtain ⟨v, he, hs, hb'⟩ := h
    exact ⟨v, he, hs, hb.trans (hb'.mono hb.size)⟩
  | error c => exact ⟨h.1, hb.trans (h.2.mono hb.size)⟩

set_option maxHeartbeats 2000000 in
set_option maxRecDepth 100000 in
theorem refDrop_any (v : Value) (zs : List Rn) (p n : Int) (w : World) (hp : 0 ≤ p ∧ p ≤ 255) (hn : 0 ≤ n ∧ n ≤ 4294967295) (h : Sl w w.heap.size v zs) (hz : zs.length ≤ 1000) :
    Calls Tryd.prog 11 #[v, .int .u8 p, .int .u32 n] w (RefPost w (dropR zs p n)) := by
  have hr := refRight_any v zs w h hz
  have H := Lib.hid h
  obtain ⟨A, c, rfl, _, _, _⟩ := h
  by_cases hx : rightB zs = true
  · rw [hx] at hr
    have HR := Lib.hid hr; clear hr
    by_cases hp8 : p < 8
    · have g1 : decide (8 ≤ p) = false := by simp; omega
      by_cases hn0 : n = 0
      · have e : dropR zs p n = .error 9 := by rw [dropR, if_neg]; simp [rrB]; omega
        rw [e]; clear e
        have g2 : (n == 0) = true := by simp [hn0]
        clear hn0 hx
        go_enter Tryd.func11, Tryd.ntmps11
        go_wp2_with fail
        refine (HR.out).mono ?_
        rintro e w1 ⟨rfl, hb1⟩
        go_wp2_with fail
        go_ret2
        exact ⟨rfl, hb1⟩
      · have e : dropR zs p n = lim (dropL zs p n) := by rw [dropR, if_pos]; simp [rrB, hx]; omega
        rw [e]; clear e
        have g2 : (n == 0) = false := by simp [hn0]
        have hrr := ((right_iff zs).1 hx).2.1
        have h64 := ((right_iff zs).1 hx).1
        have htd := fun out hg hc => told_drop (out := out) (p := p) hx (show 0 < n by omega) hg hc
        have ht := fun w1 (hb1 : Below w.heap.size w w1) => (told_any _ zs p n w1 ((H.out.below hb1).more hb1.size) (by omega) hrr hp hn).mono fun e w' ⟨out, hg, hc, hr⟩ => by
          rw [htd out hg hc] at hr
          exact hr.of_below hb1
        have HT := Lib.hid ht; clear ht htd hrr hn0 hx
        change Hid (∀ w1, Below w.heap.size w w1 → Calls _ _ _ _ (fun e w' => RefPost w (lim (dropL zs p n)) e w')) at HT
        generalize lim (dropL zs p n) = L at HT ⊢
        go_enter Tryd.func11, Tryd.ntmps11
        go_wp2_with fail
        refine (HR.out).mono ?_
        rintro e w1 ⟨rfl, hb1⟩
        go_wp2_with fail
        refine (HT.out w1 hb1).mono ?_
        cases L with
        | ok l =>
          rintro e w9 ⟨v9, rfl, hv9, hb9⟩
          have H9 := Lib.hid hv9; clear hv9
          go_wp2_with fail
          go_ret2
          exact ⟨v9, rfl, H9.out, hb9⟩
        | error cc =>
          rintro e w9 ⟨rfl, hb9⟩
          go_wp2_with fail
          go_ret2
          exact ⟨rfl, hb9⟩
    · have e : dropR zs p n = .error 9 := by rw [dropR, if_neg]; simp [rrB]; omega
      rw [e]; clear e
      have g1 : decide (8 ≤ p) = true := by simp; omega
      clear hx
      go_enter Tryd.func11, Tryd.ntmps11
      go_wp2_with fail
      refine (HR.out).mono ?_
      rintro e w1 ⟨rfl, hb1⟩
      go_wp2_with fail
      go_ret2
      exact ⟨rfl, hb1⟩
  · have hx : rightB zs = false := by simpa using hx
    have e : dropR zs p n = .error 9 := by rw [dropR, if_neg]; simp [hx]
    rw [e]; clear e
    rw [hx] at hr
    have HR := Lib.hid hr; clear hr hx
    go_enter Tryd.func11, Tryd.ntmps11
    go_wp2_with fail
    refine (HR.out).mono ?_
    rintro e w1 ⟨rfl, hb1⟩
    go_wp2_with fail
    go_ret2
    exact ⟨rfl, hb1⟩

set_option maxHeartbeats 2000000 in
set_option maxRecDepth 100000 in
theorem refUnion_any (va vb : Value) (zs ys : List Rn) (w : World) (ha : Sl w w.heap.size va zs) (hb : Sl w w.heap.size vb ys) (hz : zs.length ≤ 1000) (hy : ys.length ≤ 1000) :
    Calls Tryd.prog 19 #[va, vb] w (RefPost w (unionR zs ys)) := by
  have hr := refRight_any va zs w ha hz
  have HA := Lib.hid ha
  have HB := Lib.hid hb
  obtain ⟨A, c, rfl, _, _, _⟩ := ha
  obtain ⟨A', c', rfl, _, _, _⟩ := hb
  by_cases hx : rightB zs = true
  · rw [hx] at hr
    have HR := Lib.hid hr; clear hr
    have hq := fun w1 (hb1 : Below w.heap.size w w1) => refRight_any _ ys w1 ((HB.out.below hb1).more hb1.size) hy
    by_cases hyr : rightB ys = true
    · rw [hyr] at hq
      have HQ := Lib.hid hq; clear hq
      rw [union_of hx hyr]
      have hz64 := ((right_iff zs).1 hx).1
      have hy64 := ((right_iff ys).1 hyr).1
      have hrr : ∀ x ∈ zs ++ ys, rrB x = true := fun x hm => by
        rcases List.mem_append.1 hm with h | h
        · exact ((right_iff zs).1 hx).2.1 x h
        · exact ((right_iff ys).1 hyr).2.1 x h
      have hok : ∀ x ∈ zs ++ ys, x.ok := fun x hm => by
        obtain ⟨_, _, _, _, h1, _⟩ := HA.out
        obtain ⟨_, _, _, _, h2, _⟩ := HB.out
        rcases List.mem_append.1 hm with h | h
        · exact h1 x h
        · exact h2 x h
      have htu := fun out hg hc => told_union (out := out) hx hyr hg hc
      have ht := fun v3 w3 (hs3 : Sl w3 w3.heap.size v3 (zs ++ ys)) (hb3 : Below w.heap.size w w3) => (told_any v3 (zs ++ ys) 0 0 w3 hs3 (by rw [List.length_append]; omega) hrr (by decide) (by decide)).mono fun e w' ⟨out, hg, hc, hr⟩ => by
        rw [htu out hg hc] at hr
        exact hr.of_below hb3
      have HT := Lib.hid ht; clear ht htu hrr hx hyr
      have HOK := Lib.hid hok; clear hok
      change Hid (∀ v3 w3, Sl w3 w3.heap.size v3 (zs ++ ys) → Below w.heap.size w w3 → Calls _ _ _ _ (fun e w' => RefPost w (lim (unionL zs ys)) e w')) at HT
      generalize lim (unionL zs ys) = L at HT ⊢
      go_enter Tryd.func19, Tryd.ntmps19
      go_wp2_with fail
      refine (HR.out).mono ?_
      rintro e w1 ⟨rfl, hb1⟩
      have HB1 := Lib.hid hb1; clear hb1
      go_wp2_with fail
      refine (HQ.out w1 HB1.out).mono ?_
      rintro e w2 ⟨rfl, hb2⟩
      have HB2 := Lib.hid (HB1.out.trans (hb2.mono HB1.out.size)); clear hb2
      have hsz2 := HB2.out.size
      have hsz2' : w.heap.size ≤ (w2.alloc (.cells #[] 51)).heap.size := by simp; omega
      have HB2' := Lib.hid (HB2.out.alloc hsz2 (.cells #[] 51))
      have ho2 := empty_own w2 w2.heap.size rfl w.heap.size hsz2
      have tok1 : True := trivial
      go_wp2_with (first
        | (at_builtin; have _t := tok1; (refine append_runs rfl _ _ rfl w.heap.size _ [] rfl ho2 _ _ zs rfl (HA.out.below HB2'.out) (by simp; omega) hsz2' ?_); intro v3 w3 ho3 hg3; clear tok1; rw [List.nil_append] at ho3; have tok2 : True := trivial; have HB3 := Lib.hid (grown_below HB2'.out ho2 hg3 (Nat.le_refl _) hsz2'))
        | (at_builtin; have _t := tok2; (refine append_runs rfl _ _ rfl w.heap.size _ zs rfl ho3 _ _ ys rfl (HB.out.below HB3.out) (by omega) HB3.out.size ?_); intro v4 w4 ho4 hg4; clear tok2; have HB4 := Lib.hid (grown_below HB3.out ho3 hg4 (Nat.le_refl _) HB3.out.size)))
      refine (HT.out v4 w4 (ho4.sl HOK.out) HB4.out).mono ?_
      cases L with
      | ok l =>
        rintro e w9 ⟨v9, rfl, hv9, hb9⟩
        have H9 := Lib.hid hv9; clear hv9
        go_wp2_with fail
        go_ret2
        exact ⟨v9, rfl, H9.out, hb9⟩
      | error cc =>
        rintro e w9 ⟨rfl, hb9⟩
        go_wp2_with fail
        go_ret2
        exact ⟨rfl, hb9⟩
    · have hyr : rightB ys = false := by simpa using hyr
      rw [hyr] at hq
      have HQ := Lib.hid hq; clear hq
      have e : unionR zs ys = .error 9 := by rw [unionR, if_neg]; simp [hyr]
      rw [e]; clear e hx hyr
      go_enter Tryd.func19, Tryd.ntmps19
      go_wp2_with fail
      refine (HR.out).mono ?_
      rintro e w1 ⟨rfl, hb1⟩
      go_wp2_with fail
      refine (HQ.out w1 hb1).mono ?_
      rintro e w2 ⟨rfl, hb2⟩
      go_wp2_with fail
      go_ret2
      exact ⟨rfl, hb1.trans (hb2.mono hb1.size)⟩
  · have hx : rightB zs = false := by simpa using hx
    have e : unionR zs ys = .error 9 := by rw [unionR, if_neg]; simp [hx]
    rw [e]; clear e
    rw [hx] at hr
    have HR := Lib.hid hr; clear hr hx
    go_enter Tryd.func19, Tryd.ntmps19
    go_wp2_with fail
    refine (HR.out).mono ?_
    rintro e w1 ⟨rfl, hb1⟩
    go_wp2_with fail
    go_ret2
    exact ⟨rfl, hb1⟩

set_option maxHeartbeats 2000000 in
set_option maxRecDepth 100000 in
theorem refAdd_any (v : Value) (zs : List Rn) (p n : Int) (w : World) (hp : 0 ≤ p ∧ p ≤ 255) (hn : 0 ≤ n ∧ n ≤ 4294967295) (h : Sl w w.heap.size v zs) (hz : zs.length ≤ 1000) :
    Calls Tryd.prog 10 #[v, .int .u8 p, .int .u32 n] w (RefPost w (addR zs p n)) := by
  have hr := refRight_any v zs w h hz
  have HA := Lib.hid h
  obtain ⟨A, c, rfl, _, _, _⟩ := h
  by_cases hx : rightB zs = true
  · rw [hx] at hr
    have HR := Lib.hid hr; clear hr
    by_cases hp8 : p < 8
    · have g1 : decide (8 ≤ p) = false := by simp; omega
      by_cases hn0 : n = 0
      · have e : addR zs p n = .error 9 := by rw [addR, unionR, if_neg]; rw [right_one]; simp [rrB]; omega
        rw [e]; clear e
        have g2 : (n == 0) = true := by simp [hn0]
        clear hn0 hx
        go_enter Tryd.func10, Tryd.ntmps10
        go_wp2_with fail
        refine (HR.out).mono ?_
        rintro e w1 ⟨rfl, hb1⟩
        go_wp2_with fail
        go_ret2
        exact ⟨rfl, hb1⟩
      · have hyr : rightB [⟨p, n, n⟩] = true := by rw [right_one]; simp [rrB]; omega
        rw [addR, union_of hx hyr]
        have g2 : (n == 0) = false := by simp [hn0]
        have hz64 := ((right_iff zs).1 hx).1
        have hrr : ∀ x ∈ zs ++ [⟨p, n, n⟩], rrB x = true := fun x hm => by
          rcases List.mem_append.1 hm with h | h
          · exact ((right_iff zs).1 hx).2.1 x h
          · exact ((right_iff _).1 hyr).2.1 x h
        have hok1 : Rn.ok ⟨p, n, n⟩ := ⟨hp, hn, hn⟩
        have hok : ∀ x ∈ zs ++ [⟨p, n, n⟩], x.ok := fun x hm => by
          obtain ⟨_, _, _, _, h1, _⟩ := HA.out
          rcases List.mem_append.1 hm with h | h
          · exact h1 x h
          · simp at h; subst h; exact hok1
        have htu := fun out hg hc => told_union (out := out) hx hyr hg hc
        have ht := fun v3 w3 (hs3 : Sl w3 w3.heap.size v3 (zs ++ [⟨p, n, n⟩])) (hb3 : Below w.heap.size w w3) => (told_any v3 (zs ++ [⟨p, n, n⟩]) 0 0 w3 hs3 (by rw [List.length_append]; simp; omega) hrr (by decide) (by decide)).mono fun e w' ⟨out, hg, hc, hr⟩ => by
          rw [htu out hg hc] at hr
          exact hr.of_below hb3
        have HT := Lib.hid ht; clear ht htu hrr hx hyr hn0
        have HOK := Lib.hid hok; clear hok
        have HOK1 := Lib.hid hok1; clear hok1
        change Hid (∀ v3 w3, Sl w3 w3.heap.size v3 (zs ++ [⟨p, n, n⟩]) → Below w.heap.size w w3 → Calls _ _ _ _ (fun e w' => RefPost w (lim (unionL zs [⟨p, n, n⟩])) e w')) at HT
        generalize lim (unionL zs [⟨p, n, n⟩]) = L at HT ⊢
        clear hp hn
        go_enter Tryd.func10, Tryd.ntmps10
        go_wp2_with fail
        refine (HR.out).mono ?_
        rintro e w2 ⟨rfl, hb2⟩
        have HB2 := Lib.hid hb2; clear hb2
        have hsz2 := HB2.out.size
        have hsz2' : w.heap.size ≤ (w2.alloc (.cells #[] 51)).heap.size := by simp; omega
        have HB2' := Lib.hid (HB2.out.alloc hsz2 (.cells #[] 51))
        have ho2 := empty_own w2 w2.heap.size rfl w.heap.size hsz2
        have tok1 : True := trivial
        go_wp2_with (first
          | (at_builtin; have _t := tok1; (refine append_runs rfl _ _ rfl w.heap.size _ [] rfl ho2 _ _ zs rfl (HA.out.below HB2'.out) (by simp; omega) hsz2' ?_); intro v3 w3 ho3 hg3; clear tok1; rw [List.nil_append] at ho3; have tok2 : True := trivial; have HB3 := Lib.hid (grown_below HB2'.out ho2 hg3 (Nat.le_refl _) hsz2'); have hsz3 := HB3.out.size)
          | (at_builtin; have _t := tok2; (refine append_runs rfl _ _ rfl w.heap.size _ zs rfl (ho3.alloc _) _ _ [⟨p, n, n⟩] rfl (one_sl _ _ p n n (by simp) HOK1.out) (by simp; omega) (by simp; omega) ?_); intro v4 w4 ho4 hg4; clear tok2; have HB4 := Lib.hid (grown_below (HB3.out.alloc hsz3 _) (ho3.alloc _) hg4 (Nat.le_refl _) (by simp; omega))))
        refine (HT.out v4 w4 (ho4.sl HOK.out) HB4.out).mono ?_
        cases L with
        | ok l =>
          rintro e w9 ⟨v9, rfl, hv9, hb9⟩
          have H9 := Lib.hid hv9; clear hv9
          go_wp2_with fail
          go_ret2
          exact ⟨v9, rfl, H9.out, hb9⟩
        | error cc =>
          rintro e w9 ⟨rfl, hb9⟩
          go_wp2_with fail
          go_ret2
          exact ⟨rfl, hb9⟩
    · have e : addR zs p n = .error 9 := by rw [addR, unionR, if_neg]; rw [right_one]; simp [rrB]; omega
      rw [e]; clear e
      have g1 : decide (8 ≤ p) = true := by simp; omega
      clear hx
      go_enter Tryd.func10, Tryd.ntmps10
      go_wp2_with fail
      refine (HR.out).mono ?_
      rintro e w1 ⟨rfl, hb1⟩
      go_wp2_with fail
      go_ret2
      exact ⟨rfl, hb1⟩
  · have hx : rightB zs = false := by simpa using hx
    have e : addR zs p n = .error 9 := by rw [addR, unionR, if_neg]; simp [hx]
    rw [e]; clear e
    rw [hx] at hr
    have HR := Lib.hid hr; clear hr hx
    go_enter Tryd.func10, Tryd.ntmps10
    go_wp2_with fail
    refine (HR.out).mono ?_
    rintro e w1 ⟨rfl, hb1⟩
    go_wp2_with fail
    go_ret2
    exact ⟨rfl, hb1⟩

/-- the two values that came back of the reference -/
theorem RefPost.val {w : World} {res : Except Int (List Rn)} {e : Ending} {w' : World} (h : RefPost w res e w') : ∃ v, e = .returned (.tuple #[v, .int .i64 (match res with | .ok _ => 0 | .error c => c)]) ∧ Sl w' w'.heap.size v (match res with | .ok l => l | .error _ => []) ∧ Below w.heap.size w w' := by
  cases res with
  | ok l => exact h
  | error c => exact ⟨_, h.1, Sl.nil _ _, h.2⟩
end Go.Proofs.YtfjaeohfigcciaaDoor

