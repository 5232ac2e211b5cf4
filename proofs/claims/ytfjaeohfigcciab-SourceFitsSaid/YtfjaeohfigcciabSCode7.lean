/- Source's three contracts, in the law's words: Answer, Due, and awake. -/
import Derived.Test.YtfjaeohfigcciabSCode6b
import Derived.Test.YtfjaeohfigcciabSCode6c
namespace Go.Proofs.Ytfjaeohfigcciab
open Go.RowKit

theorem sAnswer_any (v u : Value) (r : Rp) (p : Nt) (w : World) (hv : RpV w w.heap.size v r) (hu : NtV w w.heap.size u p) (h1 : r.know.length ≤ 1000) (h2 : r.held.length ≤ 1000) (h3 : r.ses.offer.length ≤ 1000) :
    Calls Try.prog 7 #[v, u] w (AnsPost w (answerR r p)) := by
  have hd := due_refuse r p
  cases hq : refuseR r p with
  | some c =>
    rw [hq] at hd
    have e : answerR r p = .error c := by unfold answerR; rw [hd]
    rw [e]
    exact sAnswer_refused v u r p w hv hu h1 h2 h3 c hq
  | none =>
    rw [hq] at hd
    by_cases hc : p.cur = 0
    · have e : answerR r p = match offerR p.flt r.held r.know with | .ok o => .ok (answerN r p (dueL r.held p.know p.cur) o) | .error c => .error c := by
        unfold answerR
        rw [hd]
        simp only
        rw [if_pos hc]
        rfl
      rw [e]
      exact sAnswer_first v u r p w hv hu h1 h2 h3 hq hc
    · have e : answerR r p = .ok (answerN r p (dueL r.held p.know p.cur) []) := by
        unfold answerR
        rw [hd]
        simp only
        rw [if_neg hc]
      rw [e]
      exact sAnswer_later v u r p w hv hu h1 h2 h3 hq hc
theorem answer_said : AnswerSaid 7 := fun v u r p w hv hu hs _ => sAnswer_any v u r p w hv hu (Nat.le_trans hs.1 (by decide)) (Nat.le_trans hs.2.1 (by decide)) (Nat.le_trans hs.2.2 (by decide))
theorem due_said : DueSaid 8 := fun v u r p w hv hu hs _ => sDue_any v u r p w hv hu (Nat.le_trans hs.1 (by decide)) (Nat.le_trans hs.2.1 (by decide)) (Nat.le_trans hs.2.2 (by decide))

def rA : Rp := ⟨1, 255, 0, 1, [⟨1, 1, 1⟩], [⟨3, 1, 1, 1, 1, 1, 9⟩], ⟨false, 0, 0, 0, 0, [], 0⟩⟩
def pA (f : Int) : Nt := ⟨1, 2, 1, 1, 0, f, [], 0, [], 0, false, []⟩
def nA (e : En) : Nt := ⟨2, 1, 2, 1, 0, 0, [], 0, [e], 4, true, [⟨1, 1, 1⟩]⟩
theorem answer_A2 : answerR rA (pA 2) = .ok (nA ⟨3, 1, 1, 1, 1, 1, 9⟩) := by kernel_rfl
theorem answer_A1 : answerR rA (pA 1) = .ok (nA ⟨3, 1, 1, 1, 2, 1, 0⟩) := by kernel_rfl
theorem rA_ok : rA.ok := by unfold rA Rp.ok Ss.ok; simp [Rn.ok, En.ok, Vr.ok, En.ver]
theorem pA_v (w : World) (f : Int) (hf : 0 ≤ f ∧ f ≤ 255) : NtV w w.heap.size (.agg #[.int .i64 1, .int .u8 2, .int .u8 1, .int .u32 1, .int .u8 0, .int .u8 f, .slice none 0 0, .int .u32 0, .slice none 0 0, .int .u8 0, .bool false, .slice none 0 0]) (pA f) := ⟨.slice none 0 0, .slice none 0 0, .slice none 0 0, rfl, Sl.nil _ _, ESl.nil _ _, Sl.nil _ _, by unfold pA Nt.ok; simp; exact hf⟩

set_option maxHeartbeats 16000000 in
set_option maxRecDepth 100000 in
theorem awake_said : AwakeSaid 4 := by
  intro w
  have hv0 : RpV ((((w.alloc (.cells #[.int .u8 3, .int .u8 1, .int .u32 1, .int .u32 1, .int .i64 1, .int .u8 1, .int .u32 9] 43)).alloc (.cells #[.int .u8 1, .int .u32 1, .int .u32 1] 49)).alloc (.cells #[.int .u8 3, .int .u8 1, .int .u32 1, .int .u32 1, .int .i64 1, .int .u8 1, .int .u32 9] 43)).alloc (.cells #[.int .u8 1, .int .u8 255, .int .u32 0, .int .u32 1, .slice (some ⟨w.heap.size + 1, 0, none⟩) 1 1, .slice (some ⟨w.heap.size + 1 + 1, 0, none⟩) 1 1, .bool false, .int .u32 0, .int .u8 0, .int .u8 0, .int .u32 0, .slice none 0 0, .int .u32 0] 28)) ((((w.alloc (.cells #[.int .u8 3, .int .u8 1, .int .u32 1, .int .u32 1, .int .i64 1, .int .u8 1, .int .u32 9] 43)).alloc (.cells #[.int .u8 1, .int .u32 1, .int .u32 1] 49)).alloc (.cells #[.int .u8 3, .int .u8 1, .int .u32 1, .int .u32 1, .int .i64 1, .int .u8 1, .int .u32 9] 43)).alloc (.cells #[.int .u8 1, .int .u8 255, .int .u32 0, .int .u32 1, .slice (some ⟨w.heap.size + 1, 0, none⟩) 1 1, .slice (some ⟨w.heap.size + 1 + 1, 0, none⟩) 1 1, .bool false, .int .u32 0, .int .u8 0, .int .u8 0, .int .u32 0, .slice none 0 0, .int .u32 0] 28)).heap.size (.agg #[.int .u8 1, .int .u8 255, .int .u32 0, .int .u32 1, .slice (some ⟨w.heap.size + 1, 0, none⟩) 1 1, .slice (some ⟨w.heap.size + 1 + 1, 0, none⟩) 1 1, .bool false, .int .u32 0, .int .u8 0, .int .u8 0, .int .u32 0, .slice none 0 0, .int .u32 0]) rA := by
    have b1 : Below w.heap.size w (w.alloc (.cells #[.int .u8 3, .int .u8 1, .int .u32 1, .int .u32 1, .int .i64 1, .int .u8 1, .int .u32 9] 43)) := al1 _ _
    refine ⟨.slice (some ⟨w.heap.size + 1, 0, none⟩) 1 1, .slice (some ⟨w.heap.size + 1 + 1, 0, none⟩) 1 1, .slice none 0 0, rfl, ?_, ?_, Sl.nil _ _, rA_ok⟩
    · have h := one_sl (w.alloc (.cells #[.int .u8 3, .int .u8 1, .int .u32 1, .int .u32 1, .int .i64 1, .int .u8 1, .int .u32 9] 43)) (w.heap.size + 1) 1 1 1 (by simp) (by simp [Rn.ok])
      exact (((h.alloc (by simp) _).alloc (by simp) _).more (by simp))
    · have h := one_esl' ((w.alloc (.cells #[.int .u8 3, .int .u8 1, .int .u32 1, .int .u32 1, .int .i64 1, .int .u8 1, .int .u32 9] 43)).alloc (.cells #[.int .u8 1, .int .u32 1, .int .u32 1] 49)) (w.heap.size + 1 + 1) 3 1 1 1 1 1 9 (by simp) (by simp [En.ok, Vr.ok, En.ver])
      exact ((h.below ((Below.refl _ _).alloc (by simp) _)).more (by simp))
  have HV := Lib.hid hv0
  have BE := Lib.hid ((((Blk.new w #[.int .u8 3, .int .u8 1, .int .u32 1, .int .u32 1, .int .i64 1, .int .u8 1, .int .u32 9] 43).alloc (.cells #[.int .u8 1, .int .u32 1, .int .u32 1] 49)).alloc (.cells #[.int .u8 3, .int .u8 1, .int .u32 1, .int .u32 1, .int .i64 1, .int .u8 1, .int .u32 9] 43)).alloc (.cells #[.int .u8 1, .int .u8 255, .int .u32 0, .int .u32 1, .slice (some ⟨w.heap.size + 1, 0, none⟩) 1 1, .slice (some ⟨w.heap.size + 1 + 1, 0, none⟩) 1 1, .bool false, .int .u32 0, .int .u8 0, .int .u8 0, .int .u32 0, .slice none 0 0, .int .u32 0] 28))
  have hsz : ((((w.alloc (.cells #[.int .u8 3, .int .u8 1, .int .u32 1, .int .u32 1, .int .i64 1, .int .u8 1, .int .u32 9] 43)).alloc (.cells #[.int .u8 1, .int .u32 1, .int .u32 1] 49)).alloc (.cells #[.int .u8 3, .int .u8 1, .int .u32 1, .int .u32 1, .int .i64 1, .int .u8 1, .int .u32 9] 43))).heap.size = w.heap.size + 1 + 1 + 1 := by simp
  have BR := Lib.hid (show Blk ((((w.alloc (.cells #[.int .u8 3, .int .u8 1, .int .u32 1, .int .u32 1, .int .i64 1, .int .u8 1, .int .u32 9] 43)).alloc (.cells #[.int .u8 1, .int .u32 1, .int .u32 1] 49)).alloc (.cells #[.int .u8 3, .int .u8 1, .int .u32 1, .int .u32 1, .int .i64 1, .int .u8 1, .int .u32 9] 43)).alloc (.cells #[.int .u8 1, .int .u8 255, .int .u32 0, .int .u32 1, .slice (some ⟨w.heap.size + 1, 0, none⟩) 1 1, .slice (some ⟨w.heap.size + 1 + 1, 0, none⟩) 1 1, .bool false, .int .u32 0, .int .u8 0, .int .u8 0, .int .u32 0, .slice none 0 0, .int .u32 0] 28)) (w.heap.size + 1 + 1 + 1) #[.int .u8 1, .int .u8 255, .int .u32 0, .int .u32 1, .slice (some ⟨w.heap.size + 1, 0, none⟩) 1 1, .slice (some ⟨w.heap.size + 1 + 1, 0, none⟩) 1 1, .bool false, .int .u32 0, .int .u8 0, .int .u8 0, .int .u32 0, .slice none 0 0, .int .u32 0] 28 by have h := Blk.new ((((w.alloc (.cells #[.int .u8 3, .int .u8 1, .int .u32 1, .int .u32 1, .int .i64 1, .int .u8 1, .int .u32 9] 43)).alloc (.cells #[.int .u8 1, .int .u32 1, .int .u32 1] 49)).alloc (.cells #[.int .u8 3, .int .u8 1, .int .u32 1, .int .u32 1, .int .i64 1, .int .u8 1, .int .u32 9] 43))) #[.int .u8 1, .int .u8 255, .int .u32 0, .int .u32 1, .slice (some ⟨w.heap.size + 1, 0, none⟩) 1 1, .slice (some ⟨w.heap.size + 1 + 1, 0, none⟩) 1 1, .bool false, .int .u32 0, .int .u8 0, .int .u8 0, .int .u32 0, .slice none 0 0, .int .u32 0] 28; rw [hsz] at h; exact h)
  have HB := Lib.hid (al4 w (.cells #[.int .u8 3, .int .u8 1, .int .u32 1, .int .u32 1, .int .i64 1, .int .u8 1, .int .u32 9] 43) (.cells #[.int .u8 1, .int .u32 1, .int .u32 1] 49) (.cells #[.int .u8 3, .int .u8 1, .int .u32 1, .int .u32 1, .int .i64 1, .int .u8 1, .int .u32 9] 43) (.cells #[.int .u8 1, .int .u8 255, .int .u32 0, .int .u32 1, .slice (some ⟨w.heap.size + 1, 0, none⟩) 1 1, .slice (some ⟨w.heap.size + 1 + 1, 0, none⟩) 1 1, .bool false, .int .u32 0, .int .u8 0, .int .u8 0, .int .u32 0, .slice none 0 0, .int .u32 0] 28))
  have A2 := Lib.hid (fun w1 (hb : Below ((((w.alloc (.cells #[.int .u8 3, .int .u8 1, .int .u32 1, .int .u32 1, .int .i64 1, .int .u8 1, .int .u32 9] 43)).alloc (.cells #[.int .u8 1, .int .u32 1, .int .u32 1] 49)).alloc (.cells #[.int .u8 3, .int .u8 1, .int .u32 1, .int .u32 1, .int .i64 1, .int .u8 1, .int .u32 9] 43)).alloc (.cells #[.int .u8 1, .int .u8 255, .int .u32 0, .int .u32 1, .slice (some ⟨w.heap.size + 1, 0, none⟩) 1 1, .slice (some ⟨w.heap.size + 1 + 1, 0, none⟩) 1 1, .bool false, .int .u32 0, .int .u8 0, .int .u8 0, .int .u32 0, .slice none 0 0, .int .u32 0] 28)).heap.size ((((w.alloc (.cells #[.int .u8 3, .int .u8 1, .int .u32 1, .int .u32 1, .int .i64 1, .int .u8 1, .int .u32 9] 43)).alloc (.cells #[.int .u8 1, .int .u32 1, .int .u32 1] 49)).alloc (.cells #[.int .u8 3, .int .u8 1, .int .u32 1, .int .u32 1, .int .i64 1, .int .u8 1, .int .u32 9] 43)).alloc (.cells #[.int .u8 1, .int .u8 255, .int .u32 0, .int .u32 1, .slice (some ⟨w.heap.size + 1, 0, none⟩) 1 1, .slice (some ⟨w.heap.size + 1 + 1, 0, none⟩) 1 1, .bool false, .int .u32 0, .int .u8 0, .int .u8 0, .int .u32 0, .slice none 0 0, .int .u32 0] 28)) w1) => by have := sAnswer_any _ _ rA (pA 2) w1 (hv0.later hb) (pA_v w1 2 (by decide)) (by decide) (by decide) (by decide); rw [answer_A2] at this; exact this)
  have A1 := Lib.hid (fun w1 (hb : Below ((((w.alloc (.cells #[.int .u8 3, .int .u8 1, .int .u32 1, .int .u32 1, .int .i64 1, .int .u8 1, .int .u32 9] 43)).alloc (.cells #[.int .u8 1, .int .u32 1, .int .u32 1] 49)).alloc (.cells #[.int .u8 3, .int .u8 1, .int .u32 1, .int .u32 1, .int .i64 1, .int .u8 1, .int .u32 9] 43)).alloc (.cells #[.int .u8 1, .int .u8 255, .int .u32 0, .int .u32 1, .slice (some ⟨w.heap.size + 1, 0, none⟩) 1 1, .slice (some ⟨w.heap.size + 1 + 1, 0, none⟩) 1 1, .bool false, .int .u32 0, .int .u8 0, .int .u8 0, .int .u32 0, .slice none 0 0, .int .u32 0] 28)).heap.size ((((w.alloc (.cells #[.int .u8 3, .int .u8 1, .int .u32 1, .int .u32 1, .int .i64 1, .int .u8 1, .int .u32 9] 43)).alloc (.cells #[.int .u8 1, .int .u32 1, .int .u32 1] 49)).alloc (.cells #[.int .u8 3, .int .u8 1, .int .u32 1, .int .u32 1, .int .i64 1, .int .u8 1, .int .u32 9] 43)).alloc (.cells #[.int .u8 1, .int .u8 255, .int .u32 0, .int .u32 1, .slice (some ⟨w.heap.size + 1, 0, none⟩) 1 1, .slice (some ⟨w.heap.size + 1 + 1, 0, none⟩) 1 1, .bool false, .int .u32 0, .int .u8 0, .int .u8 0, .int .u32 0, .slice none 0 0, .int .u32 0] 28)) w1) => by have := sAnswer_any _ _ rA (pA 1) w1 (hv0.later hb) (pA_v w1 1 (by decide)) (by decide) (by decide) (by decide); rw [answer_A1] at this; exact this)
  clear hv0 hsz
  go_enter Try.func4, Try.ntmps4
  go_wp2_with fail
  generalize (((w.alloc (.cells #[.int .u8 3, .int .u8 1, .int .u32 1, .int .u32 1, .int .i64 1, .int .u8 1, .int .u32 9] 43)).alloc (.cells #[.int .u8 1, .int .u32 1, .int .u32 1] 49)).alloc (.cells #[.int .u8 3, .int .u8 1, .int .u32 1, .int .u32 1, .int .i64 1, .int .u8 1, .int .u32 9] 43)).alloc (.cells #[.int .u8 1, .int .u8 255, .int .u32 0, .int .u32 1, .slice (some ⟨w.heap.size + 1, 0, none⟩) 1 1, .slice (some ⟨w.heap.size + 1 + 1, 0, none⟩) 1 1, .bool false, .int .u32 0, .int .u8 0, .int .u8 0, .int .u32 0, .slice none 0 0, .int .u32 0] 28) = wz at BE BR HB A1 A2 HV ⊢
  have HZ := Lib.hid (Below.refl wz.heap.size wz)
  refine (A2.out wz HZ.out).mono ?_
  rintro e w1 ⟨v1, rfl, hn1, hb⟩
  obtain ⟨vk1, ve1, vo1, rfl, hk1, he1, ho1, _⟩ := hn1
  have HE1 := Lib.hid he1
  obtain ⟨K1, k1, rfl, _⟩ := hk1
  obtain ⟨X1, c1, rfl, _, _, hX1⟩ := he1
  obtain ⟨b1, o1, rfl, hb1, hc1⟩ := hX1 (by simp [nA])
  obtain ⟨O1, d1, rfl, _⟩ := ho1
  have XE1 := Lib.hid (show EnAt w1 b1 o1 ⟨3, 1, 1, 1, 1, 1, 9⟩ by simpa using hc1 0 _ rfl)
  clear hc1 HE1
  have BE := Lib.hid (BE.out.keep hb)
  have BR := Lib.hid (BR.out.keep hb)
  have HB := Lib.hid (HB.out.trans (hb.mono HB.out.size))
  have HZ := Lib.hid (HZ.out.trans (hb.mono HZ.out.size)); clear hb
  unfold Nt.cells nA
  simp only [List.length_nil, List.length_cons, Nat.zero_add]
  have r0 := BR.out.cell 0 (.int .u8 1) rfl
  have r1 := BR.out.cell 1 (.int .u8 255) rfl
  have r2 := BR.out.cell 2 (.int .u32 0) rfl
  have r3 := BR.out.cell 3 (.int .u32 1) rfl
  have r4 := BR.out.cell 4 (.slice (some ⟨w.heap.size + 1, 0, none⟩) 1 1) rfl
  have r5 := BR.out.cell 5 (.slice (some ⟨w.heap.size + 1 + 1, 0, none⟩) 1 1) rfl
  have r6 := BR.out.cell 6 (.bool false) rfl
  have r7 := BR.out.cell 7 (.int .u32 0) rfl
  have r8 := BR.out.cell 8 (.int .u8 0) rfl
  have r9 := BR.out.cell 9 (.int .u8 0) rfl
  have r10 := BR.out.cell 10 (.int .u32 0) rfl
  have r11 := BR.out.cell 11 (.slice none 0 0) rfl
  have r12 := BR.out.cell 12 (.int .u32 0) rfl
  have lr := BR.out.lt
  go_wp2_with fail
  have hb := al1 w1 (.cells #[.int .i64 2, .int .u8 1, .int .u8 2, .int .u32 1, .int .u8 0, .int .u8 0, .slice K1 0 k1, .int .u32 0, .slice (some ⟨b1, o1, none⟩) 1 c1, .int .u8 4, .bool true, .slice O1 1 d1] 30)
  have BN1 := Lib.hid (Blk.new w1 #[.int .i64 2, .int .u8 1, .int .u8 2, .int .u32 1, .int .u8 0, .int .u8 0, .slice K1 0 k1, .int .u32 0, .slice (some ⟨b1, o1, none⟩) 1 c1, .int .u8 4, .bool true, .slice O1 1 d1] 30)
  have l1 : w.heap.size < w1.heap.size := BE.out.lt
  have BE := Lib.hid (BE.out.keep hb)
  have BR := Lib.hid (BR.out.keep hb)
  have XE1 := Lib.hid (XE1.out.keep hb hb1)
  have hb1 : b1 < (w1.alloc (.cells #[.int .i64 2, .int .u8 1, .int .u8 2, .int .u32 1, .int .u8 0, .int .u8 0, .slice K1 0 k1, .int .u32 0, .slice (some ⟨b1, o1, none⟩) 1 c1, .int .u8 4, .bool true, .slice O1 1 d1] 30)).heap.size := Nat.lt_of_lt_of_le hb1 hb.size
  have HB := Lib.hid (HB.out.trans (hb.mono HB.out.size))
  have HZ := Lib.hid (HZ.out.trans (hb.mono HZ.out.size)); clear hb
  clear r0 r1 r2 r3 r4 r5 r6 r7 r8 r9 r10 r11 r12 lr
  generalize hw2 : w1.alloc (.cells #[.int .i64 2, .int .u8 1, .int .u8 2, .int .u32 1, .int .u8 0, .int .u8 0, .slice K1 0 k1, .int .u32 0, .slice (some ⟨b1, o1, none⟩) 1 c1, .int .u8 4, .bool true, .slice O1 1 d1] 30) = w2 at BN1 BE BR XE1 hb1 HB HZ ⊢
  generalize w1.heap.size = g1 at BN1 l1 ⊢
  clear hw2
  refine (A1.out w2 HZ.out).mono ?_
  rintro e w3 ⟨v3, rfl, hn3, hb⟩
  obtain ⟨vk3, ve3, vo3, rfl, hk3, he3, ho3, _⟩ := hn3
  obtain ⟨K3, k3, rfl, _⟩ := hk3
  obtain ⟨X3, c3, rfl, _, _, hX3⟩ := he3
  obtain ⟨b3, o3, rfl, hb3, hc3⟩ := hX3 (by simp [nA])
  obtain ⟨O3, d3, rfl, _⟩ := ho3
  have XE3 := Lib.hid (show EnAt w3 b3 o3 ⟨3, 1, 1, 1, 2, 1, 0⟩ by simpa using hc3 0 _ rfl)
  clear hc3
  have BE := Lib.hid (BE.out.keep hb)
  have BN1 := Lib.hid (BN1.out.keep hb)
  have XE1 := Lib.hid (XE1.out.keep hb hb1)
  have hb1 : b1 < w3.heap.size := Nat.lt_of_lt_of_le hb1 hb.size
  have HB := Lib.hid (HB.out.trans (hb.mono HB.out.size)); clear hb
  unfold Nt.cells nA
  simp only [List.length_nil, List.length_cons, Nat.zero_add]
  have hm : Try.prog.follows .mixedOrders = true := by kernel_rfl
  go_wp2_with fail
  have hb := al1 w3 (.cells #[.int .i64 2, .int .u8 1, .int .u8 2, .int .u32 1, .int .u8 0, .int .u8 0, .slice K3 0 k3, .int .u32 0, .slice (some ⟨b3, o3, none⟩) 1 c3, .int .u8 4, .bool true, .slice O3 1 d3] 30)
  have BN3 := Lib.hid (Blk.new w3 #[.int .i64 2, .int .u8 1, .int .u8 2, .int .u32 1, .int .u8 0, .int .u8 0, .slice K3 0 k3, .int .u32 0, .slice (some ⟨b3, o3, none⟩) 1 c3, .int .u8 4, .bool true, .slice O3 1 d3] 30)
  have BE := Lib.hid (BE.out.keep hb)
  have BN1 := Lib.hid (BN1.out.keep hb)
  have XE1 := Lib.hid (XE1.out.keep hb hb1)
  have XE3 := Lib.hid (XE3.out.keep hb hb3)
  have hb1 : b1 < (w3.alloc (.cells #[.int .i64 2, .int .u8 1, .int .u8 2, .int .u32 1, .int .u8 0, .int .u8 0, .slice K3 0 k3, .int .u32 0, .slice (some ⟨b3, o3, none⟩) 1 c3, .int .u8 4, .bool true, .slice O3 1 d3] 30)).heap.size := Nat.lt_of_lt_of_le hb1 hb.size
  have hb3 : b3 < (w3.alloc (.cells #[.int .i64 2, .int .u8 1, .int .u8 2, .int .u32 1, .int .u8 0, .int .u8 0, .slice K3 0 k3, .int .u32 0, .slice (some ⟨b3, o3, none⟩) 1 c3, .int .u8 4, .bool true, .slice O3 1 d3] 30)).heap.size := Nat.lt_of_lt_of_le hb3 hb.size
  have HB := Lib.hid (HB.out.trans (hb.mono HB.out.size)); clear hb
  generalize hw4 : w3.alloc (.cells #[.int .i64 2, .int .u8 1, .int .u8 2, .int .u32 1, .int .u8 0, .int .u8 0, .slice K3 0 k3, .int .u32 0, .slice (some ⟨b3, o3, none⟩) 1 c3, .int .u8 4, .bool true, .slice O3 1 d3] 30) = w4 at BN1 BN3 BE XE1 XE3 hb1 hb3 HB ⊢
  generalize w3.heap.size = g3 at BN3 ⊢
  clear hw4
  have n8 := fun p : Later w4 => (BN1.out.keep p.bel).cell 8 (.slice (some ⟨b1, o1, none⟩) 1 c1) rfl
  have n10 := fun p : Later w4 => (BN1.out.keep p.bel).cell 10 (.bool true) rfl
  have n11 := fun p : Later w4 => (BN1.out.keep p.bel).cell 11 (.slice O1 1 d1) rfl
  have m8 := fun p : Later w4 => (BN3.out.keep p.bel).cell 8 (.slice (some ⟨b3, o3, none⟩) 1 c3) rfl
  have e0 := fun p : Later w4 => (BE.out.keep p.bel).cell 0 (.int .u8 3) rfl
  have e1 := fun p : Later w4 => (BE.out.keep p.bel).cell 1 (.int .u8 1) rfl
  have e2 := fun p : Later w4 => (BE.out.keep p.bel).cell 2 (.int .u32 1) rfl
  have e3 := fun p : Later w4 => (BE.out.keep p.bel).cell 3 (.int .u32 1) rfl
  have e4 := fun p : Later w4 => (BE.out.keep p.bel).cell 4 (.int .i64 1) rfl
  have e5 := fun p : Later w4 => (BE.out.keep p.bel).cell 5 (.int .u8 1) rfl
  have e6 := fun p : Later w4 => (BE.out.keep p.bel).cell 6 (.int .u32 9) rfl
  have x0 := fun p : Later w4 => (XE1.out.keep p.bel hb1).all.1
  have x1 := fun p : Later w4 => (XE1.out.keep p.bel hb1).all.2.1
  have x2 := fun p : Later w4 => (XE1.out.keep p.bel hb1).all.2.2.1
  have x3 := fun p : Later w4 => (XE1.out.keep p.bel hb1).all.2.2.2.1
  have x4 := fun p : Later w4 => (XE1.out.keep p.bel hb1).all.2.2.2.2.1
  have x5 := fun p : Later w4 => (XE1.out.keep p.bel hb1).all.2.2.2.2.2.1
  have x6 := fun p : Later w4 => (XE1.out.keep p.bel hb1).all.2.2.2.2.2.2
  have y4 := fun p : Later w4 => (XE3.out.keep p.bel hb3).all.2.2.2.2.1
  have y6 := fun p : Later w4 => (XE3.out.keep p.bel hb3).all.2.2.2.2.2.2
  refine wp_region_later hm (by kernel_rfl) ?_
  repeat (any_goals (first | go_big_quiet_step (fail) | quiet_step (fail)))
  refine wpQuiet_nil ?_
  intro wp hw'
  obtain ⟨lp, hlp⟩ := hw'
  have hbp := lp.bel
  rw [← hlp] at hbp
  clear hlp lp
  go_wp2_with fail
  go_ret
  exact ⟨rfl, HB.out.trans (hbp.mono HB.out.size)⟩
end Go.Proofs.Ytfjaeohfigcciab

