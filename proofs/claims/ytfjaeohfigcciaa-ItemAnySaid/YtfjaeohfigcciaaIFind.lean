/- The contracts of item.Find, and of the reference's Find: the first entry of an ID. -/
import Derived.Test.YtfjaeohfigcciaaIFade
namespace Go.Proofs.Ytfjaeohfigcciaa
open Go.RowKit

def findE : List En → Int → En × Bool
  | [], _ => (⟨0, 0, 0, 0, 0, 0, 0⟩, false)
  | x :: r, id => if x.id = id then (x, true) else findE r id

theorem findE_at (id : Int) (x : En) (hx : x.id = id) : ∀ (zs : List En) (k : Nat), zs[k]? = some x → (∀ j, j < k → zs[j]!.id ≠ id) → findE zs id = (x, true)
  | [], k, h, _ => by simp at h
  | y :: r, 0, h, _ => by
    simp at h
    subst h
    simp [findE, hx]
  | y :: r, k + 1, h, hn => by
    have h0 : y.id ≠ id := by simpa using hn 0 (by omega)
    rw [findE, if_neg h0]
    exact findE_at id x hx r k (by simpa using h) (fun j hj => by simpa using hn (j + 1) (by omega))
theorem findE_none (id : Int) : ∀ (zs : List En), (∀ j, j < zs.length → zs[j]!.id ≠ id) → findE zs id = (⟨0, 0, 0, 0, 0, 0, 0⟩, false)
  | [], _ => rfl
  | y :: r, hn => by
    have h0 : y.id ≠ id := by simpa using hn 0 (by simp)
    rw [findE, if_neg h0]
    exact findE_none id r (fun j hj => by simpa using hn (j + 1) (by simpa using hj))

theorem putEn_at {w : World} {g : Nat} {z : En} (h : EnAt w g 0 z) (x : En) : EnAt (putEn w g 0 x) g 0 x := by
  show EnAt (w.setCells g 0 x.enc) g 0 x
  intro i u hu
  have hi : i < x.enc.length := (List.getElem?_eq_some_iff.1 hu).1
  rw [World.cell?_setCells_in g x.enc 0 w (fun j hj => by rw [h j _ (List.getElem?_eq_getElem (by rw [enc_length] at hj ⊢; exact hj))]; rfl) i hi, ← List.getElem?_eq_getElem hi]
  exact hu
theorem putEn_size (w : World) (g o : Nat) (x : En) : (putEn w g o x).heap.size = w.heap.size := by simp [putEn, World.setCell]
theorem putEn_below {B : Nat} {a w : World} (h : Below B a w) {g : Nat} (hg : B ≤ g) (o : Nat) (x : En) : Below B a (putEn w g o x) :=
  ((((((h.setCell (p := ⟨g, _, none⟩) hg _).setCell (p := ⟨g, _, none⟩) hg _).setCell (p := ⟨g, _, none⟩) hg _).setCell (p := ⟨g, _, none⟩) hg _).setCell (p := ⟨g, _, none⟩) hg _).setCell (p := ⟨g, _, none⟩) hg _).setCell (p := ⟨g, _, none⟩) hg _

theorem iFind_ret (W : World) (x : En) (t : Bool) (b : Nat) (a : Act) (post : Ending → World → Prop) (hp : a.tmps[4]?.getD undef = .pointer (some ⟨b, 0, none⟩)) (h5 : a.tmps[5]?.getD undef = .bool t) (hd : a.defers = []) (h : EnAt W b 0 x) (hpost : post (.returned (.tuple #[x.agg, .bool t])) W) :
    bodyPost Try.prog Try.f22 post Exit.ret a W := by
  obtain ⟨c0, c1, c2, c3, c4, c5, c6⟩ := h.all0
  exact bodyPost_ret (v := .tuple #[x.agg, .bool t]) (by simp [results, Try.results22, go_sem, En.agg, hp, h5, c0, c1, c2, c3, c4, c5, c6]) hd hpost

set_option maxHeartbeats 2000000 in
theorem iFind_any (w : World) (v : Value) (zs : List En) (id : Int) (h : ESl w w.heap.size v zs) (hl : zs.length ≤ 9223372036854775807) :
    Calls Try.prog 22 #[v, .int .u8 id] w fun e w' => e = .returned (.tuple #[(findE zs id).1.agg, .bool (findE zs id).2]) ∧ Below w.heap.size w w' := by
  obtain ⟨A, c, rfl, _, hok, hA⟩ := h
  have HA := Lib.hid hA; clear hA
  clear hok
  obtain ⟨F, hF⟩ : ∃ F, findE zs id = F := ⟨_, rfl⟩
  rw [hF]
  have HF := Lib.hid hF; clear hF
  have HZ := Lib.hid (new_entry w ⟨0, 0, 0, 0, 0, 0, 0⟩ 37)
  have HZB := Lib.hid (al1 w (.cells #[.int .u8 0, .int .u8 0, .int .u32 0, .int .u32 0, .int .i64 0, .int .u8 0, .int .u32 0] 37))
  have HZF : Hid (∀ j, (w.alloc (.cells #[.int .u8 0, .int .u8 0, .int .u32 0, .int .u32 0, .int .i64 0, .int .u8 0, .int .u32 0] 37)).frozen? ⟨w.heap.size, j, none⟩ = false) := Lib.hid (fun j => frozen_of_row _ _ j _ _ (heap_alloc_new w _))
  have hwz : w.heap.size < (w.alloc (.cells #[.int .u8 0, .int .u8 0, .int .u32 0, .int .u32 0, .int .i64 0, .int .u8 0, .int .u32 0] 37)).heap.size := by simp
  go_enter Try.func22, Try.ntmps22
  go_wp2_with fail
  generalize w.alloc (.cells #[.int .u8 0, .int .u8 0, .int .u32 0, .int .u32 0, .int .i64 0, .int .u8 0, .int .u32 0] 37) = wz at HZ HZB HZF hwz ⊢
  go_loopw [10] (fun i wr => ∃ k : Nat, i = .int .i64 k ∧ k ≤ zs.length ∧ Hid (∀ j, j < k → zs[j]!.id ≠ id) ∧ Below wz.heap.size wz wr) (fun i _ => zs.length - (intOf i).toNat)
  case atStart => exact ⟨0, rfl, by omega, Lib.hid (fun j hj => absurd hj (by omega)), Below.refl _ _⟩
  case round =>
    obtain ⟨k, rfl, hk, HO, hb⟩ := hrel
    have hz := hb.size
    have HBB := Lib.hid hb
    have HZ1 := Lib.hid (HZ.out.keep hb hwz)
    have HZF1 := Lib.hid (fun j => (hb.frozen (p := ⟨w.heap.size, j, none⟩) hwz).trans (HZF.out j))
    obtain ⟨z0, z1, z2, z3, z4, z5, z6⟩ := HZ1.out.all0
    have hf := HZF1.out
    have hlt2 : w.heap.size < wr.heap.size := by omega
    have hne : w.heap.size ≠ wr.heap.size := by omega
    have hne' : wr.heap.size ≠ w.heap.size := by omega
    by_cases hlt : k < zs.length
    · obtain ⟨b, off, rfl, hbw, hc⟩ := HA.out (by intro h; simp [h] at hlt)
      have hxk : zs[k]? = some zs[k] := List.getElem?_eq_getElem hlt
      generalize zs[k] = x at hxk
      have HB := Lib.hid (egetBang_of hxk)
      obtain ⟨c0, c1, c2, c3, c4, c5, c6⟩ := (((hc k x hxk).keep HZB.out hbw).keep hb (by omega)).all
      have HX := Lib.hid hxk; clear hxk hc hb
      by_cases hid : x.id = id
      · have hid' : (x.id == id) = true := by simp [hid]
        have HID := Lib.hid hid; clear hid
        have key := (putEn_at HZ1.out x).keep ((Below.refl _ _).alloc (Nat.le_refl _) (.cells #[.int .u8 x.id, .int .u8 x.rep, .int .u32 x.seq, .int .u32 x.stamp, .int .i64 x.kind, .int .u8 x.cls, .int .u32 x.val] 37)) (by rw [putEn_size]; exact hlt2)
        have keyB := (putEn_below (HZB.out.trans (HBB.out.mono (by omega))) (Nat.le_refl w.heap.size) 0 x).alloc (by rw [putEn_size]; omega) (.cells #[.int .u8 x.id, .int .u8 x.rep, .int .u32 x.seq, .int .u32 x.stamp, .int .i64 x.kind, .int .u8 x.cls, .int .u32 x.val] 37)
        have KEY := Lib.hid key; clear key
        have KEYB := Lib.hid keyB; clear keyB
        go_wp2
        have key := KEY.out
        have keyB := KEYB.out
        have hFF : F = (x, true) := by rw [← HF.out]; exact findE_at id x HID.out zs k HX.out HO.out
        refine iFind_ret _ x true w.heap.size _ _ rfl rfl rfl (key : EnAt _ _ 0 x) ⟨by rw [hFF], ?_⟩
        exact keyB
      · have hid' : (x.id == id) = false := by simp [hid]
        have HID := Lib.hid hid; clear hid
        clear hf z0 z1 z2 z3 z4 z5 z6
        go_wp2
        go_roundw
        case rel =>
          refine ⟨k + 1, by go_num, by omega, Lib.hid (fun j hj => ?_), HBB.out.alloc hz _⟩
          rcases Nat.lt_or_ge j k with h | h
          · exact HO.out j h
          · obtain rfl : j = k := by omega
            rw [HB.out]; exact HID.out
        case measure => simp [intOf]; omega
    · clear hb
      go_wp2
      have hFF : F = (⟨0, 0, 0, 0, 0, 0, 0⟩, false) := by rw [← HF.out]; exact findE_none id zs (fun j hj => HO.out j (by omega))
      refine iFind_ret _ ⟨0, 0, 0, 0, 0, 0, 0⟩ false w.heap.size _ _ rfl rfl rfl (putEn_at HZ1.out ⟨0, 0, 0, 0, 0, 0, 0⟩) ⟨by rw [hFF], ?_⟩
      exact putEn_below (HZB.out.trans (HBB.out.mono (by omega))) (Nat.le_refl w.heap.size) 0 ⟨0, 0, 0, 0, 0, 0, 0⟩
theorem rFind_ret (W : World) (x : En) (t : Bool) (b : Nat) (a : Act) (post : Ending → World → Prop) (hp : a.tmps[4]?.getD undef = .pointer (some ⟨b, 0, none⟩)) (h5 : a.tmps[5]?.getD undef = .bool t) (hd : a.defers = []) (h : EnAt W b 0 x) (hpost : post (.returned (.tuple #[x.agg, .bool t])) W) :
    bodyPost Try.prog Try.f23 post Exit.ret a W := by
  obtain ⟨c0, c1, c2, c3, c4, c5, c6⟩ := h.all0
  exact bodyPost_ret (v := .tuple #[x.agg, .bool t]) (by simp [results, Try.results23, go_sem, En.agg, hp, h5, c0, c1, c2, c3, c4, c5, c6]) hd hpost

set_option maxHeartbeats 2000000 in
theorem rFind_any (w : World) (v : Value) (zs : List En) (id : Int) (h : ESl w w.heap.size v zs) (hl : zs.length ≤ 9223372036854775807) :
    Calls Try.prog 23 #[v, .int .u8 id] w fun e w' => e = .returned (.tuple #[(findE zs id).1.agg, .bool (findE zs id).2]) ∧ Below w.heap.size w w' := by
  obtain ⟨A, c, rfl, _, hok, hA⟩ := h
  have HA := Lib.hid hA; clear hA
  clear hok
  obtain ⟨F, hF⟩ : ∃ F, findE zs id = F := ⟨_, rfl⟩
  rw [hF]
  have HF := Lib.hid hF; clear hF
  have HZ := Lib.hid (new_entry w ⟨0, 0, 0, 0, 0, 0, 0⟩ 37)
  have HZB := Lib.hid (al1 w (.cells #[.int .u8 0, .int .u8 0, .int .u32 0, .int .u32 0, .int .i64 0, .int .u8 0, .int .u32 0] 37))
  have HZF : Hid (∀ j, (w.alloc (.cells #[.int .u8 0, .int .u8 0, .int .u32 0, .int .u32 0, .int .i64 0, .int .u8 0, .int .u32 0] 37)).frozen? ⟨w.heap.size, j, none⟩ = false) := Lib.hid (fun j => frozen_of_row _ _ j _ _ (heap_alloc_new w _))
  have hwz : w.heap.size < (w.alloc (.cells #[.int .u8 0, .int .u8 0, .int .u32 0, .int .u32 0, .int .i64 0, .int .u8 0, .int .u32 0] 37)).heap.size := by simp
  go_enter Try.func23, Try.ntmps23
  go_wp2_with fail
  generalize w.alloc (.cells #[.int .u8 0, .int .u8 0, .int .u32 0, .int .u32 0, .int .i64 0, .int .u8 0, .int .u32 0] 37) = wz at HZ HZB HZF hwz ⊢
  go_loopw [6] (fun i wr => ∃ k : Nat, i = .int .i64 k ∧ k ≤ zs.length ∧ Hid (∀ j, j < k → zs[j]!.id ≠ id) ∧ Below wz.heap.size wz wr) (fun i _ => zs.length - (intOf i).toNat)
  case atStart => exact ⟨0, rfl, by omega, Lib.hid (fun j hj => absurd hj (by omega)), Below.refl _ _⟩
  case round =>
    obtain ⟨k, rfl, hk, HO, hb⟩ := hrel
    have hz := hb.size
    have HBB := Lib.hid hb
    have HZ1 := Lib.hid (HZ.out.keep hb hwz)
    have HZF1 := Lib.hid (fun j => (hb.frozen (p := ⟨w.heap.size, j, none⟩) hwz).trans (HZF.out j))
    obtain ⟨z0, z1, z2, z3, z4, z5, z6⟩ := HZ1.out.all0
    have hf := HZF1.out
    have hlt2 : w.heap.size < wr.heap.size := by omega
    have hne : w.heap.size ≠ wr.heap.size := by omega
    have hne' : wr.heap.size ≠ w.heap.size := by omega
    by_cases hlt : k < zs.length
    · obtain ⟨b, off, rfl, hbw, hc⟩ := HA.out (by intro h; simp [h] at hlt)
      have hxk : zs[k]? = some zs[k] := List.getElem?_eq_getElem hlt
      generalize zs[k] = x at hxk
      have HB := Lib.hid (egetBang_of hxk)
      obtain ⟨c0, c1, c2, c3, c4, c5, c6⟩ := (((hc k x hxk).keep HZB.out hbw).keep hb (by omega)).all
      have HX := Lib.hid hxk; clear hxk hc hb
      by_cases hid : x.id = id
      · have hid' : (x.id == id) = true := by simp [hid]
        have HID := Lib.hid hid; clear hid
        have key := putEn_at HZ1.out x
        have keyB := putEn_below (HZB.out.trans (HBB.out.mono (by omega))) (Nat.le_refl w.heap.size) 0 x
        have KEY := Lib.hid key; clear key
        have KEYB := Lib.hid keyB; clear keyB
        go_wp2
        have key := KEY.out
        have keyB := KEYB.out
        have hFF : F = (x, true) := by rw [← HF.out]; exact findE_at id x HID.out zs k HX.out HO.out
        refine rFind_ret _ x true w.heap.size _ _ rfl rfl rfl (key : EnAt _ _ 0 x) ⟨by rw [hFF], ?_⟩
        exact keyB
      · have hid' : (x.id == id) = false := by simp [hid]
        have HID := Lib.hid hid; clear hid
        clear hf z0 z1 z2 z3 z4 z5 z6
        go_wp2
        go_roundw
        case rel =>
          refine ⟨k + 1, by go_num, by omega, Lib.hid (fun j hj => ?_), HBB.out⟩
          rcases Nat.lt_or_ge j k with h | h
          · exact HO.out j h
          · obtain rfl : j = k := by omega
            rw [HB.out]; exact HID.out
        case measure => simp [intOf]; omega
    · clear hb
      go_wp2
      have hFF : F = (⟨0, 0, 0, 0, 0, 0, 0⟩, false) := by rw [← HF.out]; exact findE_none id zs (fun j hj => HO.out j (by omega))
      refine rFind_ret _ ⟨0, 0, 0, 0, 0, 0, 0⟩ false w.heap.size _ _ rfl rfl rfl (putEn_at HZ1.out ⟨0, 0, 0, 0, 0, 0, 0⟩) ⟨by rw [hFF], ?_⟩
      exact putEn_below (HZB.out.trans (HBB.out.mono (by omega))) (Nat.le_refl w.heap.size) 0 ⟨0, 0, 0, 0, 0, 0, 0⟩
end Go.Proofs.Ytfjaeohfigcciaa
