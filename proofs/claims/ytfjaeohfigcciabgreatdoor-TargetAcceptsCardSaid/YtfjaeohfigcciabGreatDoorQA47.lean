/- Texts in one: PRefF. -/
import Derived.Test.YtfjaeohfigcciabGreatDoorQA45
set_option linter.all false
namespace Go.Proofs.YtfjaeohfigcciabGreatDoor
open Go.RowKit

set_option maxHeartbeats 16000000 in
set_option maxRecDepth 100000 in
theorem take_rest1 {r : Rp} {n : Nt} {lr ln : Ls} {w wr : World} {u0 u1 u6 u7 u8 u9 u10 u11 u12 u13 u14 u15 u16 u17 u18 u19 u20 u21 u22 u23 u24 u25 u26 u27 u28 u29 u30 u31 u32 u33 u34 u35 u36 u37 u38 u39 u40 u41 u42 u43 u44 u45 u46 u47 u48 u49 u50 u51 u52 u53 u54 u55 u56 u57 u58 u59 u60 u61 u62 u63 u64 u65 u66 u67 u68 u69 u70 u71 u72 u73 u74 u75 u76 u77 u78 u79 u80 u81 u82 u83 u84 u85 u86 u87 u88 u89 u90 u91 u92 u93 u94 u95 u96 u97 u98 u99 u100 u101 u102 u103 u104 u105 u106 u107 u108 u109 u110 u111 u112 u113 u114 u115 u116 u117 u118 u119 u120 u121 u122 u123 u124 u125 u126 u127 u128 u129 u130 u131 u132 u133 u134 u135 u136 u137 u138 u139 u140 u141 u142 u143 u144 u145 u146 u147 u148 u149 u150 u151 u152 u153 u154 u155 u156 u157 u158 u159 u160 u161 u162 u163 u164 u165 u166 u167 u168 u169 u170 u171 u172 u173 u174 u175 u176 u177 u178 u179 u180 u181 u182 u183 u184 u185 u186 u187 u188 u189 u190 u191 u192 u193 u194 u195 u196 u197 u198 u199 u200 u201 u202 u203 u204 u205 u206 u207 u208 u209 u210 u211 u212 u213 u214 u215 u216 u217 u218 u219 u220 u221 u222 u223 u224 u225 u226 u227 u228 u229 u230 u231 u232 u233 u234 u235 u236 u237 u238 u239 u240 u241 u242 u243 u244 u245 u246 u247 u248 u249 u250 u251 u252 u253 u254 u255 u256 u257 u258 u259 u260 u261 u262 u263 u264 u265 u266 u267 u268 u269 u270 u271 u272 u273 u274 u275 u276 u277 u278 u279 u280 u281 u282 u283 u284 u285 u286 u287 u288 u289 u290 u291 u292 u293 u294 u295 u296 u297 u298 u299 u300 u301 u302 u303 u304 u305 u306 u307 u308 u309 u310 u311 u312 u313 u314 u315 u316 u317 u318 u319 u320 u321 u322 u323 u324 u325 u326 u327 u328 u329 u330 u331 u332 u333 u334 u335 u336 u337 u338 : Value} (hv : RpV w w.heap.size (.agg (repR r lr)) r) (hv2 : NtV w w.heap.size (.agg (noteR n ln)) n) (hbr : Below w.heap.size w wr)
    (b1 : Blk wr w.heap.size #[.int .u8 r.rep,.int .u8 r.flt,.int .u32 r.epoch,.int .u32 r.seq,.slice lr.a r.know.length lr.i,.slice lr.b r.held.length lr.j,.bool true,.int .u32 r.ses.num,.int .u8 r.ses.src,.int .u8 r.ses.cur,.int .u32 r.ses.epoch,.slice lr.c r.ses.offer.length lr.k,.int .u32 r.ses.last] 28) (b2 : Blk wr (w.heap.size + 1) #[.int .i64 n.kind,.int .u8 n.src,.int .u8 n.dst,.int .u32 n.num,.int .u8 n.cur,.int .u8 n.flt,.slice ln.a n.know.length ln.i,.int .u32 n.epoch,.slice ln.b n.ents.length ln.j,.int .u8 n.next,.bool n.done,.slice ln.c n.offer.length ln.k] 30) (e3 : Blk wr (w.heap.size + 1 + 1) #[.int .u8 0,.int .u8 0,.int .u32 0,.int .u32 0,.slice none 0 0,.slice none 0 0,.bool false,.int .u32 0,.int .u8 0,.int .u8 0,.int .u32 0,.slice none 0 0,.int .u32 0] 28) (e4 : Blk wr (w.heap.size + 1 + 1 + 1) #[.int .i64 0,.int .u8 0,.int .u8 0,.int .u32 0,.int .u8 0,.int .u8 0,.slice none 0 0,.int .u32 0,.slice none 0 0,.int .u8 0,.bool false,.slice none 0 0] 30)
    (h2 : r.held.length ≤ 1000) (h3 : r.ses.offer.length ≤ 1000) (g2 : n.ents.length ≤ 1000) (g3 : n.offer.length ≤ 1000) (hon : r.ses.on = true) (hri : rightB r.know = true) (hrise : Rise r.held) (hcur : 0 < n.cur) :
    takeRest.wp Tryz.prog (bodyPost Tryz.prog Tryz.f10 (AccPost w (takeP r n))) { tmps := #[u0,u1,.pointer (some ⟨w.heap.size,0,none⟩),.pointer (some ⟨w.heap.size + 1,0,none⟩),.pointer (some ⟨w.heap.size + 1 + 1,0,none⟩),.pointer (some ⟨w.heap.size + 1 + 1 + 1,0,none⟩),u6,u7,u8,u9,u10,u11,u12,u13,u14,u15,u16,u17,u18,u19,u20,u21,u22,u23,u24,u25,u26,u27,u28,u29,u30,u31,u32,u33,u34,u35,u36,u37,u38,u39,u40,u41,u42,u43,u44,u45,u46,u47,u48,u49,u50,u51,u52,u53,u54,u55,u56,u57,u58,u59,u60,u61,u62,u63,u64,u65,u66,u67,u68,u69,u70,u71,u72,u73,u74,u75,u76,u77,u78,u79,u80,u81,u82,u83,u84,u85,u86,u87,u88,u89,u90,u91,u92,u93,u94,u95,u96,u97,u98,u99,u100,u101,u102,u103,u104,u105,u106,u107,u108,u109,u110,u111,u112,u113,u114,u115,u116,u117,u118,u119,u120,u121,u122,u123,u124,u125,u126,u127,u128,u129,u130,u131,u132,u133,u134,u135,u136,u137,u138,u139,u140,u141,u142,u143,u144,u145,u146,u147,u148,u149,u150,u151,u152,u153,u154,u155,u156,u157,u158,u159,u160,u161,u162,u163,u164,u165,u166,u167,u168,u169,u170,u171,u172,u173,u174,u175,u176,u177,u178,u179,u180,u181,u182,u183,u184,u185,u186,u187,u188,u189,u190,u191,u192,u193,u194,u195,u196,u197,u198,u199,u200,u201,u202,u203,u204,u205,u206,u207,u208,u209,u210,u211,u212,u213,u214,u215,u216,u217,u218,u219,u220,u221,u222,u223,u224,u225,u226,u227,u228,u229,u230,u231,u232,u233,u234,u235,u236,u237,u238,u239,u240,u241,u242,u243,u244,u245,u246,u247,u248,u249,u250,u251,u252,u253,u254,u255,u256,u257,u258,u259,u260,u261,u262,u263,u264,u265,u266,u267,u268,u269,u270,u271,u272,u273,u274,u275,u276,u277,u278,u279,u280,u281,u282,u283,u284,u285,u286,u287,u288,u289,u290,u291,u292,u293,u294,u295,u296,u297,u298,u299,u300,u301,u302,u303,u304,u305,u306,u307,u308,u309,u310,u311,u312,u313,u314,u315,u316,u317,u318,u319,u320,u321,u322,u323,u324,u325,u326,u327,u328,u329,u330,u331,u332,u333,u334,u335,u336,u337,u338],defers := [] } wr := by
  have HON := Lib.hid hon
  have HC1 := Lib.hid hcur
  have HLO := Lib.hid h3
  have G2 := Lib.hid g2
  have G3 := Lib.hid g3
  have HHL := Lib.hid h2
  have HNX := Lib.hid (show 0 ≤ n.next ∧ n.next ≤ 255 from hv2.nok_.2.2.2.2.2.2.2.2.2.1)
  have HEP := Lib.hid (show 0 ≤ r.ses.epoch ∧ r.ses.epoch ≤ 4294967295 from hv.rok_.2.2.2.2.2.2.2.2.2.1)
  have HRI := Lib.hid (And.intro hri hrise)
  have HNO := Lib.hid (show ∀ x ∈ n.ents,x.ok from hv2.entsOk)
  have HFL := Lib.hid (show 0 ≤ r.flt ∧ r.flt ≤ 255 from hv.fltOk)
  have HV1 := Lib.hid hv
  have HV2 := Lib.hid hv2
  have HBR := Lib.hid hbr
  have HM := Lib.hid (by kernel_rfl : Tryz.prog.follows .mixedOrders = true)
  have HES := Lib.hid (hv2.entsSl.later hbr)
  have HOS := Lib.hid (hv2.offSl.later hbr)
  have HRV := Lib.hid (hv.later hbr)
  have B1 := Lib.hid b1
  have B2 := Lib.hid b2
  have E3 := Lib.hid e3
  have E4 := Lib.hid e4
  have l1 : w.heap.size < wr.heap.size := b1.lt
  have l2 : w.heap.size + 1 < wr.heap.size := b2.lt
  have c0 := b1.cell 0 (.int .u8 r.rep) rfl
  have c1 := b1.cell 1 (.int .u8 r.flt) rfl
  have c2 := b1.cell 2 (.int .u32 r.epoch) rfl
  have c3 := b1.cell 3 (.int .u32 r.seq) rfl
  have c4 := b1.cell 4 (.slice lr.a r.know.length lr.i) rfl
  have c5 := b1.cell 5 (.slice lr.b r.held.length lr.j) rfl
  have c6 := b1.cell 6 (.bool true) rfl
  have c7 := b1.cell 7 (.int .u32 r.ses.num) rfl
  have c8 := b1.cell 8 (.int .u8 r.ses.src) rfl
  have c9 := b1.cell 9 (.int .u8 r.ses.cur) rfl
  have c10 := b1.cell 10 (.int .u32 r.ses.epoch) rfl
  have c11 := b1.cell 11 (.slice lr.c r.ses.offer.length lr.k) rfl
  have c12 := b1.cell 12 (.int .u32 r.ses.last) rfl
  clear hv hv2 hbr b1 b2 e3 e4 hon hcur h2 h3 g2 g3 hri hrise
  unfold takeRest
  rw [snd9 (f := Tryz.f10) rfl]
  go_wp2_with fail
  have BO := Lib.hid (Blk.new wr #[.int .u8 r.rep,.int .u8 r.flt,.int .u32 r.epoch,.int .u32 r.seq,.slice lr.a r.know.length lr.i,.slice lr.b r.held.length lr.j,.bool true,.int .u32 r.ses.num,.int .u8 r.ses.src,.int .u8 r.ses.cur,.int .u32 r.ses.epoch,.slice lr.c r.ses.offer.length lr.k,.int .u32 r.ses.last] 28)
  have hbo := al1 wr (.cells #[.int .u8 r.rep,.int .u8 r.flt,.int .u32 r.epoch,.int .u32 r.seq,.slice lr.a r.know.length lr.i,.slice lr.b r.held.length lr.j,.bool true,.int .u32 r.ses.num,.int .u8 r.ses.src,.int .u8 r.ses.cur,.int .u32 r.ses.epoch,.slice lr.c r.ses.offer.length lr.k,.int .u32 r.ses.last] 28)
  have TK := Lib.hid (show TkAt wr (wr.alloc (.cells #[.int .u8 r.rep,.int .u8 r.flt,.int .u32 r.epoch,.int .u32 r.seq,.slice lr.a r.know.length lr.i,.slice lr.b r.held.length lr.j,.bool true,.int .u32 r.ses.num,.int .u8 r.ses.src,.int .u8 r.ses.cur,.int .u32 r.ses.epoch,.slice lr.c r.ses.offer.length lr.k,.int .u32 r.ses.last] 28)) wr.heap.size r n lr 0 r.know r.held lr.a lr.b lr.i lr.j from
    ⟨rfl,BO.out,(HRV.out.later hbo).knowSl,(HRV.out.later hbo).held_,hbo,Nat.le_refl _,HRI.out.1,HRI.out.2,Nat.le_refl _⟩)
  generalize wr.alloc (.cells #[.int .u8 r.rep,.int .u8 r.flt,.int .u32 r.epoch,.int .u32 r.seq,.slice lr.a r.know.length lr.i,.slice lr.b r.held.length lr.j,.bool true,.int .u32 r.ses.num,.int .u8 r.ses.src,.int .u8 r.ses.cur,.int .u32 r.ses.epoch,.slice lr.c r.ses.offer.length lr.k,.int .u32 r.ses.last] 28) = wo at TK BO hbo ⊢
  generalize hgg : wr.heap.size = g at TK BO l1 l2 ⊢
  have HGG := Lib.hid hgg; clear hgg
  clear BO hbo l1 l2
  clear c0 c1 c2 c3 c4 c5 c6 c7 c8 c9 c10 c11 c12
  go_loopw [16] (fun i wl => ∃ (k : Nat) (ks : List Rn) (hs : List En) (A1 A2 : Option Addr) (c1 c2 : Nat),i = .int .i64 k ∧ k ≤ n.ents.length ∧ TkAt wr wl g r n lr k ks hs A1 A2 c1 c2) (fun i _ => n.ents.length - (intOf i).toNat)
  case atStart => exact ⟨0,r.know,r.held,lr.a,lr.b,lr.i,lr.j,rfl,Nat.zero_le _,TK.out⟩
  case round =>
    rename World => wl
    obtain ⟨k,ks,hs,A1,A2,c1,c2,rfl,hk,T⟩ := hrel
    have HT := Lib.hid T; clear T
    have g2 := G2.out
    have b8 := (B2.out.keep HT.out.bel).cell 8 (.slice ln.b n.ents.length ln.j) rfl
    have l2 : w.heap.size + 1 < wl.heap.size := (B2.out.keep HT.out.bel).lt
    by_cases hlt : k < n.ents.length
    · skip
      obtain ⟨x,hxk⟩ : ∃ x,n.ents[k]? = some x := ⟨_,List.getElem?_eq_getElem hlt⟩
      obtain ⟨be,oe,hA,hbe,hec⟩ := HES.out.at_ hxk
      have XE := Lib.hid (hec.keep HT.out.bel hbe)
      have HX := Lib.hid hxk
      have HXO := Lib.hid (HNO.out x (List.mem_of_getElem? hxk))
      have l3 : be < wl.heap.size := Nat.lt_of_lt_of_le hbe HT.out.bel.size
      rw [hA] at b8
      obtain ⟨x0,x1,x2,x3,x4,x5,x6⟩ := XE.out.all
      clear hxk hec hA
      have RI := Lib.hid (fun w1 => rIn_any x r.flt w1 HXO.out HFL.out)
      have FA := Lib.hid (fun w1 => rFade_any x w1)
      have BE := Lib.hid (Blk.new wl #[.int .u8 x.id,.int .u8 x.rep,.int .u32 x.seq,.int .u32 x.stamp,.int .i64 x.kind,.int .u8 x.cls,.int .u32 x.val] 62)
      have BW := Lib.hid (al1 wl (.cells #[.int .u8 x.id,.int .u8 x.rep,.int .u32 x.seq,.int .u32 x.stamp,.int .i64 x.kind,.int .u8 x.cls,.int .u32 x.val] 62))
      have HNE := Lib.hid (show wl.heap.size ≠ g by have := HT.out.box.lt; omega)
      have b1 := (B1.out.keep HT.out.bel).cell 1 (.int .u8 r.flt) rfl
      have lb := (B1.out.keep HT.out.bel).lt
      have hlen : hs.length ≤ 9000 := by have h1 := HT.out.len; have h2 := HHL.out; omega
      have hks : ks.length ≤ 1000 := by have h1 := HT.out.right; simp only [rightB,Bool.and_eq_true,decide_eq_true_eq] at h1; omega
      have TAK := Lib.hid (fun (y : En) (hy : y.ok) w1 v (h : ESl w1 w1.heap.size v hs) => rTake_any v hs y w1 h hlen hy HT.out.rise)
      have ADK := Lib.hid (fun (y : En) (hy : y.ok) w1 v (h : Sl w1 w1.heap.size v ks) => refAdd_any v ks y.rep y.seq w1 hy.2.1.1 hy.2.1.2.1 h hks)
      clear hlen hks
      obtain ⟨q2,hq2⟩ : ∃ q : Bool,(x.kind == 2) = q := ⟨_,rfl⟩
      have HQ2 := Lib.hid hq2
      cases q2
      · skip
        obtain ⟨q1,hq1⟩ : ∃ q : Bool,(x.kind == 1) = q := ⟨_,rfl⟩
        have HQ1 := Lib.hid hq1
        cases q1
        · skip
          have HYE := Lib.hid (show fitE r.flt x = x from fit_keep (.inl (by have := HQ1.out; simpa using this)))
          have HYR := Lib.hid (show x.rep = x.rep ∧ x.seq = x.seq from ⟨rfl,rfl⟩)
          have TA := Lib.hid (TAK.out x HXO.out)
          have AD := Lib.hid (ADK.out x HXO.out)
          simp only [En.agg] at TA
          have BO := Lib.hid (HT.out.box.keep BW.out)
          have KS := Lib.hid ((HT.out.kn.below BW.out).more BW.out.size)
          have HS := Lib.hid ((HT.out.hd.below BW.out).more BW.out.size)
          have BEL := Lib.hid (HT.out.bel.trans (BW.out.mono HT.out.bel.size))
          have o5 := BO.out.cell 5 (.slice A2 hs.length c2) rfl
          have lg := BO.out.lt
          go_wp2_with fail
          clear b1 lb b8 l2 l3 x0 x1 x2 x3 x4 x5 x6 o5 lg
          generalize wl.alloc (.cells #[.int .u8 x.id,.int .u8 x.rep,.int .u32 x.seq,.int .u32 x.stamp,.int .i64 x.kind,.int .u8 x.cls,.int .u32 x.val] 62) = we at BE BW BO KS HS BEL ⊢
          generalize wl.heap.size = ge at BE HNE ⊢
          refine (TA.out we _ HS.out).mono ?_
          rintro e w5 ⟨v5,rfl,hv5,hb⟩
          have HS5 := Lib.hid hv5
          obtain ⟨A5,c5,rfl,_⟩ := hv5
          have BE := Lib.hid (BE.out.keep hb)
          have BO := Lib.hid (BO.out.keep hb)
          have KS := Lib.hid (KS.out.later hb)
          have BEL := Lib.hid (BEL.out.trans (hb.mono BEL.out.size)); clear hb
          have e1 := BE.out.cell 1 (.int .u8 x.rep) rfl
          have e2 := BE.out.cell 2 (.int .u32 x.seq) rfl
          have o4 := BO.out.cell 4 (.slice A1 ks.length c1) rfl
          have o5 := BO.out.cell 5 (.slice A2 hs.length c2) rfl
          have f5 := BO.out.free 5
          have lg := BO.out.lt
          have le := BE.out.lt
          have hne := HNE.out
          have BO6 := Lib.hid (show Blk (w5.setCell ⟨g,5,none⟩ (.slice A5 (takeS hs x).length c5)) g #[.int .u8 r.rep,.int .u8 r.flt,.int .u32 r.epoch,.int .u32 r.seq,.slice A1 ks.length c1,.slice A5 (takeS hs x).length c5,.bool true,.int .u32 r.ses.num,.int .u8 r.ses.src,.int .u8 r.ses.cur,.int .u32 r.ses.epoch,.slice lr.c r.ses.offer.length lr.k,.int .u32 r.ses.last] 28 from BO.out.put 5 (.slice A5 (takeS hs x).length c5))
          have KS6 := Lib.hid (show Sl (w5.setCell ⟨g,5,none⟩ (.slice A5 (takeS hs x).length c5)) (w5.setCell ⟨g,5,none⟩ (.slice A5 (takeS hs x).length c5)).heap.size (.slice A1 ks.length c1) ks from (KS.out.cell_ (arow BO.out) (by decide)).more (by simp))
          have HS6 := Lib.hid (show ESl (w5.setCell ⟨g,5,none⟩ (.slice A5 (takeS hs x).length c5)) (w5.setCell ⟨g,5,none⟩ (.slice A5 (takeS hs x).length c5)).heap.size (.slice A5 (takeS hs x).length c5) (takeS hs x) from (HS5.out.cell_ (arow BO.out)).more (by simp))
          have BEL6 := Lib.hid (BEL.out.setCell (p := ⟨g,5,none⟩) HT.out.far (.slice A5 (takeS hs x).length c5))
          go_wp2_with fail
          clear e1 e2 o4 o5 f5 lg le hne
          generalize w5.setCell ⟨g,5,none⟩ (.slice A5 (takeS hs x).length c5) = w6 at BO6 KS6 HS6 BEL6 ⊢
          refine (AD.out w6 _ KS6.out).mono ?_
          cases hD : addR ks x.rep x.seq with
          | error c =>
            have HD := Lib.hid hD; clear hD
            have HC0 := err_pos_add HD.out
            rintro e w7 ⟨rfl,hb⟩
            have BEL := Lib.hid (BEL6.out.trans (hb.mono BEL6.out.size)); clear hb
            have E3 := Lib.hid (E3.out.keep BEL.out)
            have E4 := Lib.hid (E4.out.keep BEL.out)
            have HBE := Lib.hid (HBR.out.trans (BEL.out.mono HBR.out.size))
            go_wp2_with (first
              | (refine wpList_store_row rfl _ _ _ rfl (w.heap.size + 1 + 1) #[.int .u8 0,.int .u8 0,.int .u32 0,.int .u32 0,.slice none 0 0,.slice none 0 0,.bool false,.int .u32 0,.int .u8 0,.int .u8 0,.int .u32 0,.slice none 0 0,.int .u32 0] rfl rfl 28 _ E3.out.at_ rep_size rfl (by simp [Value.oneCell']) ?_)
              | (refine wpList_store_row rfl _ _ _ rfl (w.heap.size + 1 + 1 + 1) #[.int .i64 0,.int .u8 0,.int .u8 0,.int .u32 0,.int .u8 0,.int .u8 0,.slice none 0 0,.int .u32 0,.slice none 0 0,.int .u8 0,.bool false,.slice none 0 0] rfl rfl 30 _ (E4.out.other (by omega) _).at_ note_size rfl (by simp [Value.oneCell']) ?_))
            refine bodyPost_ret (v := .tuple #[.agg #[.int .u8 0,.int .u8 0,.int .u32 0,.int .u32 0,.slice none 0 0,.slice none 0 0,.bool false,.int .u32 0,.int .u8 0,.int .u8 0,.int .u32 0,.slice none 0 0,.int .u32 0],.agg #[.int .i64 0,.int .u8 0,.int .u8 0,.int .u32 0,.int .u8 0,.int .u8 0,.slice none 0 0,.int .u32 0,.slice none 0 0,.int .u8 0,.bool false,.slice none 0 0],.bool false,.int .i64 c]) (results_two_rows2 Tryz.results10 _ _ (w.heap.size + 1 + 1) (w.heap.size + 1 + 1 + 1) 28 30 #[.int .u8 0,.int .u8 0,.int .u32 0,.int .u32 0,.slice none 0 0,.slice none 0 0,.bool false,.int .u32 0,.int .u8 0,.int .u8 0,.int .u32 0,.slice none 0 0,.int .u32 0] #[.int .i64 0,.int .u8 0,.int .u8 0,.int .u32 0,.int .u8 0,.int .u8 0,.slice none 0 0,.int .u32 0,.slice none 0 0,.int .u8 0,.bool false,.slice none 0 0] (0,0) (0,0) _ _ rfl rfl ((E3.out.row _).other (by omega) _).at_ ((E4.out.other (by omega) _).row _).at_ Tryz.underlying28 Tryz.underlying30 rfl rfl rep_size note_size) rfl ?_
            have hfin := below_setRow (below_setRow HBE.out (Nat.le_trans (Nat.le_succ w.heap.size) (Nat.le_succ _)) #[.int .u8 0,.int .u8 0,.int .u32 0,.int .u32 0,.slice none 0 0,.slice none 0 0,.bool false,.int .u32 0,.int .u8 0,.int .u8 0,.int .u32 0,.slice none 0 0,.int .u32 0]) (Nat.le_trans (Nat.le_trans (Nat.le_succ w.heap.size) (Nat.le_succ _)) (Nat.le_succ _)) #[.int .i64 0,.int .u8 0,.int .u8 0,.int .u32 0,.int .u8 0,.int .u8 0,.slice none 0 0,.int .u32 0,.slice none 0 0,.int .u8 0,.bool false,.slice none 0 0]
            have hall : takeP r n = noAcc c := by
              have ha : addR ks x.rep x.seq = .error c := HD.out
              unfold takeP
              rw [takes_fail HT.out.eq HX.out (fun h => absurd h.1 (by have := HQ2.out; simpa using this)) ha]
            rw [hall]
            exact ⟨_,_,rfl,zeroP_v _ _,zero_v _ _,hfin⟩
          | ok k' =>
            have HD := Lib.hid hD; clear hD
            rintro e w7 ⟨v7,rfl,hv7,hb⟩
            have KS7 := Lib.hid hv7
            obtain ⟨A7,c7,rfl,_⟩ := hv7
            have BO7 := Lib.hid (BO6.out.keep hb)
            have HS7 := Lib.hid (HS6.out.later hb)
            have BEL7 := Lib.hid (BEL6.out.trans (hb.mono BEL6.out.size)); clear hb
            have o4 := BO7.out.cell 4 (.slice A1 ks.length c1) rfl
            have f4 := BO7.out.free 4
            have BO8 := Lib.hid (show Blk (w7.setCell ⟨g,4,none⟩ (.slice A7 k'.length c7)) g #[.int .u8 r.rep,.int .u8 r.flt,.int .u32 r.epoch,.int .u32 r.seq,.slice A7 k'.length c7,.slice A5 (takeS hs x).length c5,.bool true,.int .u32 r.ses.num,.int .u8 r.ses.src,.int .u8 r.ses.cur,.int .u32 r.ses.epoch,.slice lr.c r.ses.offer.length lr.k,.int .u32 r.ses.last] 28 from BO7.out.put 4 (.slice A7 k'.length c7))
            have KS8 := Lib.hid (show Sl (w7.setCell ⟨g,4,none⟩ (.slice A7 k'.length c7)) (w7.setCell ⟨g,4,none⟩ (.slice A7 k'.length c7)).heap.size (.slice A7 k'.length c7) k' from (KS7.out.cell_ (arow BO7.out) (by decide)).more (by simp))
            have HS8 := Lib.hid (show ESl (w7.setCell ⟨g,4,none⟩ (.slice A7 k'.length c7)) (w7.setCell ⟨g,4,none⟩ (.slice A7 k'.length c7)).heap.size (.slice A5 (takeS hs x).length c5) (takeS hs x) from (HS7.out.cell_ (arow BO7.out)).more (by simp))
            have BEL8 := Lib.hid (BEL7.out.setCell (p := ⟨g,4,none⟩) HT.out.far (.slice A7 k'.length c7))
            go_wp2_with fail
            go_roundw
            case rel =>
              have htl : (takeS hs x).length ≤ r.held.length + (k + 1) := by have h1 := takeS_length hs x; have h2 := HT.out.len; omega
              have ha : addR ks x.rep x.seq = .ok k' := HD.out
              exact ⟨k + 1,k',takeS hs x,A7,A5,c7,c5,by go_num,by omega,⟨by rw [takes_add HT.out.eq HX.out (fun h => absurd h.1 (by have := HQ2.out; simpa using this)) ha,HYE.out],BO8.out,KS8.out,HS8.out,BEL8.out,HT.out.far,add_right ha,takeS_rise x HT.out.rise,htl⟩⟩
            case measure => simp [intOf]; omega
        · skip
          simp only [En.agg] at RI
          go_wp2_with fail
          clear b1 lb b8 l2 l3 x0 x1 x2 x3 x4 x5 x6
          generalize wl.alloc (.cells #[.int .u8 x.id,.int .u8 x.rep,.int .u32 x.seq,.int .u32 x.stamp,.int .i64 x.kind,.int .u8 x.cls,.int .u32 x.val] 62) = we at BE BW ⊢
          generalize hge : wl.heap.size = ge at BE HNE ⊢
          have HGE := Lib.hid hge; clear hge
          refine (RI.out we).mono ?_
          rintro e w4 ⟨rfl,hb⟩
          have BE := Lib.hid (BE.out.keep hb)
          have BW := Lib.hid (BW.out.trans (hb.mono BW.out.size)); clear hb
          obtain ⟨i,hi⟩ : ∃ q : Bool,inB x r.flt = q := ⟨_,rfl⟩
          have HI := Lib.hid hi
          rw [hi]
          clear hi
          cases i
          · skip
            have e0 := BE.out.cell 0 (.int .u8 x.id) rfl
            have e1 := BE.out.cell 1 (.int .u8 x.rep) rfl
            have e2 := BE.out.cell 2 (.int .u32 x.seq) rfl
            have e3 := BE.out.cell 3 (.int .u32 x.stamp) rfl
            have e4 := BE.out.cell 4 (.int .i64 x.kind) rfl
            have e5 := BE.out.cell 5 (.int .u8 x.cls) rfl
            have e6 := BE.out.cell 6 (.int .u32 x.val) rfl
            have hyf := fit_fade HI.out
            have HYE := Lib.hid (show fitE r.flt x = fadeE x from hyf)
            have HYR := Lib.hid (show (fadeE x).rep = x.rep ∧ (fadeE x).seq = x.seq from ⟨(fade_same x).2.1,(fade_same x).2.2.1⟩)
            have TA := Lib.hid (TAK.out (fadeE x) (fade_ok HXO.out))
            have AD := Lib.hid (ADK.out (fadeE x) (fade_ok HXO.out))
            clear hyf
            generalize fadeE x = y at FA HYE HYR TA AD
            simp only [En.agg] at FA TA
            go_wp2_with fail
            refine (FA.out w4).mono ?_
            rintro e w5 ⟨rfl,hb⟩
            clear e0 e1 e2 e3 e4 e5 e6
            have BE := Lib.hid (BE.out.keep hb)
            have BW := Lib.hid (BW.out.trans (hb.mono BW.out.size)); clear hb
            have BE5 := Lib.hid BE.out
            have BE := Lib.hid (show Blk (w5.setRow ge #[.int .u8 y.id,.int .u8 y.rep,.int .u32 y.seq,.int .u32 y.stamp,.int .i64 y.kind,.int .u8 y.cls,.int .u32 y.val]) ge #[.int .u8 y.id,.int .u8 y.rep,.int .u32 y.seq,.int .u32 y.stamp,.int .i64 y.kind,.int .u8 y.cls,.int .u32 y.val] 62 from BE5.out.row #[.int .u8 y.id,.int .u8 y.rep,.int .u32 y.seq,.int .u32 y.stamp,.int .i64 y.kind,.int .u8 y.cls,.int .u32 y.val])
            have BW := Lib.hid (show Below wl.heap.size wl (w5.setRow ge #[.int .u8 y.id,.int .u8 y.rep,.int .u32 y.seq,.int .u32 y.stamp,.int .i64 y.kind,.int .u8 y.cls,.int .u32 y.val]) from below_setRow BW.out (Nat.le_of_eq HGE.out) #[.int .u8 y.id,.int .u8 y.rep,.int .u32 y.seq,.int .u32 y.stamp,.int .i64 y.kind,.int .u8 y.cls,.int .u32 y.val])
            have BO := Lib.hid (HT.out.box.keep BW.out)
            have KS := Lib.hid ((HT.out.kn.below BW.out).more BW.out.size)
            have HS := Lib.hid ((HT.out.hd.below BW.out).more BW.out.size)
            have BEL := Lib.hid (HT.out.bel.trans (BW.out.mono HT.out.bel.size))
            have e0 := BE.out.cell 0 (.int .u8 y.id) rfl
            have e1 := BE.out.cell 1 (.int .u8 y.rep) rfl
            have e2 := BE.out.cell 2 (.int .u32 y.seq) rfl
            have e3 := BE.out.cell 3 (.int .u32 y.stamp) rfl
            have e4 := BE.out.cell 4 (.int .i64 y.kind) rfl
            have e5 := BE.out.cell 5 (.int .u8 y.cls) rfl
            have e6 := BE.out.cell 6 (.int .u32 y.val) rfl
            have o5 := BO.out.cell 5 (.slice A2 hs.length c2) rfl
            go_wp2_with (refine wpList_store_row rfl _ _ _ rfl ge #[.int .u8 y.id,.int .u8 y.rep,.int .u32 y.seq,.int .u32 y.stamp,.int .i64 y.kind,.int .u8 y.cls,.int .u32 y.val] rfl rfl 62 _ BE5.out.at_ entSz rfl (by simp [Value.oneCell']) ?_)
            clear e0 e1 e2 e3 e4 e5 e6
            clear o5
            generalize w5.setRow ge #[.int .u8 y.id,.int .u8 y.rep,.int .u32 y.seq,.int .u32 y.stamp,.int .i64 y.kind,.int .u8 y.cls,.int .u32 y.val] = w6 at BE BW BO KS HS BEL ⊢
            refine (TA.out w6 _ HS.out).mono ?_
            rintro e w7 ⟨v5,rfl,hv5,hb⟩
            have HS5 := Lib.hid hv5
            obtain ⟨A5,c5,rfl,_⟩ := hv5
            have BE := Lib.hid (BE.out.keep hb)
            have BO := Lib.hid (BO.out.keep hb)
            have KS := Lib.hid (KS.out.later hb)
            have BEL := Lib.hid (BEL.out.trans (hb.mono BEL.out.size)); clear hb
            have e1 := BE.out.cell 1 (.int .u8 y.rep) rfl
            have e2 := BE.out.cell 2 (.int .u32 y.seq) rfl
            have o4 := BO.out.cell 4 (.slice A1 ks.length c1) rfl
            have o5 := BO.out.cell 5 (.slice A2 hs.length c2) rfl
            have f5 := BO.out.free 5
            have lg := BO.out.lt
            have le := BE.out.lt
            have hne := HNE.out
            have BO6 := Lib.hid (show Blk (w7.setCell ⟨g,5,none⟩ (.slice A5 (takeS hs y).length c5)) g #[.int .u8 r.rep,.int .u8 r.flt,.int .u32 r.epoch,.int .u32 r.seq,.slice A1 ks.length c1,.slice A5 (takeS hs y).length c5,.bool true,.int .u32 r.ses.num,.int .u8 r.ses.src,.int .u8 r.ses.cur,.int .u32 r.ses.epoch,.slice lr.c r.ses.offer.length lr.k,.int .u32 r.ses.last] 28 from BO.out.put 5 (.slice A5 (takeS hs y).length c5))
            have KS6 := Lib.hid (show Sl (w7.setCell ⟨g,5,none⟩ (.slice A5 (takeS hs y).length c5)) (w7.setCell ⟨g,5,none⟩ (.slice A5 (takeS hs y).length c5)).heap.size (.slice A1 ks.length c1) ks from (KS.out.cell_ (arow BO.out) (by decide)).more (by simp))
            have HS6 := Lib.hid (show ESl (w7.setCell ⟨g,5,none⟩ (.slice A5 (takeS hs y).length c5)) (w7.setCell ⟨g,5,none⟩ (.slice A5 (takeS hs y).length c5)).heap.size (.slice A5 (takeS hs y).length c5) (takeS hs y) from (HS5.out.cell_ (arow BO.out)).more (by simp))
            have BEL6 := Lib.hid (BEL.out.setCell (p := ⟨g,5,none⟩) HT.out.far (.slice A5 (takeS hs y).length c5))
            go_wp2_with fail
            clear e1 e2 o4 o5 f5 lg le hne
            generalize w7.setCell ⟨g,5,none⟩ (.slice A5 (takeS hs y).length c5) = w8 at BO6 KS6 HS6 BEL6 ⊢
            refine (AD.out w8 _ KS6.out).mono ?_
            cases hD : addR ks y.rep y.seq with
            | error c =>
              have HD := Lib.hid hD; clear hD
              have HC0 := err_pos_add HD.out
              rintro e w9 ⟨rfl,hb⟩
              have BEL := Lib.hid (BEL6.out.trans (hb.mono BEL6.out.size)); clear hb
              have E3 := Lib.hid (E3.out.keep BEL.out)
              have E4 := Lib.hid (E4.out.keep BEL.out)
              have HBE := Lib.hid (HBR.out.trans (BEL.out.mono HBR.out.size))
              go_wp2_with (first
                | (refine wpList_store_row rfl _ _ _ rfl (w.heap.size + 1 + 1) #[.int .u8 0,.int .u8 0,.int .u32 0,.int .u32 0,.slice none 0 0,.slice none 0 0,.bool false,.int .u32 0,.int .u8 0,.int .u8 0,.int .u32 0,.slice none 0 0,.int .u32 0] rfl rfl 28 _ E3.out.at_ rep_size rfl (by simp [Value.oneCell']) ?_)
                | (refine wpList_store_row rfl _ _ _ rfl (w.heap.size + 1 + 1 + 1) #[.int .i64 0,.int .u8 0,.int .u8 0,.int .u32 0,.int .u8 0,.int .u8 0,.slice none 0 0,.int .u32 0,.slice none 0 0,.int .u8 0,.bool false,.slice none 0 0] rfl rfl 30 _ (E4.out.other (by omega) _).at_ note_size rfl (by simp [Value.oneCell']) ?_))
              refine bodyPost_ret (v := .tuple #[.agg #[.int .u8 0,.int .u8 0,.int .u32 0,.int .u32 0,.slice none 0 0,.slice none 0 0,.bool false,.int .u32 0,.int .u8 0,.int .u8 0,.int .u32 0,.slice none 0 0,.int .u32 0],.agg #[.int .i64 0,.int .u8 0,.int .u8 0,.int .u32 0,.int .u8 0,.int .u8 0,.slice none 0 0,.int .u32 0,.slice none 0 0,.int .u8 0,.bool false,.slice none 0 0],.bool false,.int .i64 c]) (results_two_rows2 Tryz.results10 _ _ (w.heap.size + 1 + 1) (w.heap.size + 1 + 1 + 1) 28 30 #[.int .u8 0,.int .u8 0,.int .u32 0,.int .u32 0,.slice none 0 0,.slice none 0 0,.bool false,.int .u32 0,.int .u8 0,.int .u8 0,.int .u32 0,.slice none 0 0,.int .u32 0] #[.int .i64 0,.int .u8 0,.int .u8 0,.int .u32 0,.int .u8 0,.int .u8 0,.slice none 0 0,.int .u32 0,.slice none 0 0,.int .u8 0,.bool false,.slice none 0 0] (0,0) (0,0) _ _ rfl rfl ((E3.out.row _).other (by omega) _).at_ ((E4.out.other (by omega) _).row _).at_ Tryz.underlying28 Tryz.underlying30 rfl rfl rep_size note_size) rfl ?_
              have hfin := below_setRow (below_setRow HBE.out (Nat.le_trans (Nat.le_succ w.heap.size) (Nat.le_succ _)) #[.int .u8 0,.int .u8 0,.int .u32 0,.int .u32 0,.slice none 0 0,.slice none 0 0,.bool false,.int .u32 0,.int .u8 0,.int .u8 0,.int .u32 0,.slice none 0 0,.int .u32 0]) (Nat.le_trans (Nat.le_trans (Nat.le_succ w.heap.size) (Nat.le_succ _)) (Nat.le_succ _)) #[.int .i64 0,.int .u8 0,.int .u8 0,.int .u32 0,.int .u8 0,.int .u8 0,.slice none 0 0,.int .u32 0,.slice none 0 0,.int .u8 0,.bool false,.slice none 0 0]
              have hall : takeP r n = noAcc c := by
                have ha : addR ks x.rep x.seq = .error c := by have := HD.out; rw [HYR.out.1,HYR.out.2] at this; exact this
                unfold takeP
                rw [takes_fail HT.out.eq HX.out (fun h => absurd h.1 (by have := HQ2.out; simpa using this)) ha]
              rw [hall]
              exact ⟨_,_,rfl,zeroP_v _ _,zero_v _ _,hfin⟩
            | ok k' =>
              have HD := Lib.hid hD; clear hD
              rintro e w9 ⟨v7,rfl,hv7,hb⟩
              have KS7 := Lib.hid hv7
              obtain ⟨A7,c7,rfl,_⟩ := hv7
              have BO7 := Lib.hid (BO6.out.keep hb)
              have HS7 := Lib.hid (HS6.out.later hb)
              have BEL7 := Lib.hid (BEL6.out.trans (hb.mono BEL6.out.size)); clear hb
              have o4 := BO7.out.cell 4 (.slice A1 ks.length c1) rfl
              have f4 := BO7.out.free 4
              have BO8 := Lib.hid (show Blk (w9.setCell ⟨g,4,none⟩ (.slice A7 k'.length c7)) g #[.int .u8 r.rep,.int .u8 r.flt,.int .u32 r.epoch,.int .u32 r.seq,.slice A7 k'.length c7,.slice A5 (takeS hs y).length c5,.bool true,.int .u32 r.ses.num,.int .u8 r.ses.src,.int .u8 r.ses.cur,.int .u32 r.ses.epoch,.slice lr.c r.ses.offer.length lr.k,.int .u32 r.ses.last] 28 from BO7.out.put 4 (.slice A7 k'.length c7))
              have KS8 := Lib.hid (show Sl (w9.setCell ⟨g,4,none⟩ (.slice A7 k'.length c7)) (w9.setCell ⟨g,4,none⟩ (.slice A7 k'.length c7)).heap.size (.slice A7 k'.length c7) k' from (KS7.out.cell_ (arow BO7.out) (by decide)).more (by simp))
              have HS8 := Lib.hid (show ESl (w9.setCell ⟨g,4,none⟩ (.slice A7 k'.length c7)) (w9.setCell ⟨g,4,none⟩ (.slice A7 k'.length c7)).heap.size (.slice A5 (takeS hs y).length c5) (takeS hs y) from (HS7.out.cell_ (arow BO7.out)).more (by simp))
              have BEL8 := Lib.hid (BEL7.out.setCell (p := ⟨g,4,none⟩) HT.out.far (.slice A7 k'.length c7))
              go_wp2_with fail
              go_roundw
              case rel =>
                have htl : (takeS hs y).length ≤ r.held.length + (k + 1) := by have h1 := takeS_length hs y; have h2 := HT.out.len; omega
                have ha : addR ks x.rep x.seq = .ok k' := by have := HD.out; rw [HYR.out.1,HYR.out.2] at this; exact this
                exact ⟨k + 1,k',takeS hs y,A7,A5,c7,c5,by go_num,by omega,⟨by rw [takes_add HT.out.eq HX.out (fun h => absurd h.1 (by have := HQ2.out; simpa using this)) ha,HYE.out],BO8.out,KS8.out,HS8.out,BEL8.out,HT.out.far,add_right ha,takeS_rise y HT.out.rise,htl⟩⟩
              case measure => simp [intOf]; omega
          · skip
            have HYE := Lib.hid (show fitE r.flt x = x from fit_keep (.inr HI.out))
            have HYR := Lib.hid (show x.rep = x.rep ∧ x.seq = x.seq from ⟨rfl,rfl⟩)
            have TA := Lib.hid (TAK.out x HXO.out)
            have AD := Lib.hid (ADK.out x HXO.out)
            simp only [En.agg] at TA
            have BO := Lib.hid (HT.out.box.keep BW.out)
            have KS := Lib.hid ((HT.out.kn.below BW.out).more BW.out.size)
            have HS := Lib.hid ((HT.out.hd.below BW.out).more BW.out.size)
            have BEL := Lib.hid (HT.out.bel.trans (BW.out.mono HT.out.bel.size))
            have e0 := BE.out.cell 0 (.int .u8 x.id) rfl
            have e1 := BE.out.cell 1 (.int .u8 x.rep) rfl
            have e2 := BE.out.cell 2 (.int .u32 x.seq) rfl
            have e3 := BE.out.cell 3 (.int .u32 x.stamp) rfl
            have e4 := BE.out.cell 4 (.int .i64 x.kind) rfl
            have e5 := BE.out.cell 5 (.int .u8 x.cls) rfl
            have e6 := BE.out.cell 6 (.int .u32 x.val) rfl
            have o5 := BO.out.cell 5 (.slice A2 hs.length c2) rfl
            have lg := BO.out.lt
            have le := BE.out.lt
            go_wp2_with fail
            refine (TA.out w4 _ HS.out).mono ?_
            rintro e w5 ⟨v5,rfl,hv5,hb⟩
            have HS5 := Lib.hid hv5
            obtain ⟨A5,c5,rfl,_⟩ := hv5
            clear e0 e1 e2 e3 e4 e5 e6
            clear o5 lg le
            have BE := Lib.hid (BE.out.keep hb)
            have BO := Lib.hid (BO.out.keep hb)
            have KS := Lib.hid (KS.out.later hb)
            have BEL := Lib.hid (BEL.out.trans (hb.mono BEL.out.size)); clear hb
            have e1 := BE.out.cell 1 (.int .u8 x.rep) rfl
            have e2 := BE.out.cell 2 (.int .u32 x.seq) rfl
            have o4 := BO.out.cell 4 (.slice A1 ks.length c1) rfl
            have o5 := BO.out.cell 5 (.slice A2 hs.length c2) rfl
            have f5 := BO.out.free 5
            have lg := BO.out.lt
            have le := BE.out.lt
            have hne := HNE.out
            have BO6 := Lib.hid (show Blk (w5.setCell ⟨g,5,none⟩ (.slice A5 (takeS hs x).length c5)) g #[.int .u8 r.rep,.int .u8 r.flt,.int .u32 r.epoch,.int .u32 r.seq,.slice A1 ks.length c1,.slice A5 (takeS hs x).length c5,.bool true,.int .u32 r.ses.num,.int .u8 r.ses.src,.int .u8 r.ses.cur,.int .u32 r.ses.epoch,.slice lr.c r.ses.offer.length lr.k,.int .u32 r.ses.last] 28 from BO.out.put 5 (.slice A5 (takeS hs x).length c5))
            have KS6 := Lib.hid (show Sl (w5.setCell ⟨g,5,none⟩ (.slice A5 (takeS hs x).length c5)) (w5.setCell ⟨g,5,none⟩ (.slice A5 (takeS hs x).length c5)).heap.size (.slice A1 ks.length c1) ks from (KS.out.cell_ (arow BO.out) (by decide)).more (by simp))
            have HS6 := Lib.hid (show ESl (w5.setCell ⟨g,5,none⟩ (.slice A5 (takeS hs x).length c5)) (w5.setCell ⟨g,5,none⟩ (.slice A5 (takeS hs x).length c5)).heap.size (.slice A5 (takeS hs x).length c5) (takeS hs x) from (HS5.out.cell_ (arow BO.out)).more (by simp))
            have BEL6 := Lib.hid (BEL.out.setCell (p := ⟨g,5,none⟩) HT.out.far (.slice A5 (takeS hs x).length c5))
            go_wp2_with fail
            clear e1 e2 o4 o5 f5 lg le hne
            generalize w5.setCell ⟨g,5,none⟩ (.slice A5 (takeS hs x).length c5) = w6 at BO6 KS6 HS6 BEL6 ⊢
            refine (AD.out w6 _ KS6.out).mono ?_
            cases hD : addR ks x.rep x.seq with
            | error c =>
              have HD := Lib.hid hD; clear hD
              have HC0 := err_pos_add HD.out
              rintro e w7 ⟨rfl,hb⟩
              have BEL := Lib.hid (BEL6.out.trans (hb.mono BEL6.out.size)); clear hb
              have E3 := Lib.hid (E3.out.keep BEL.out)
              have E4 := Lib.hid (E4.out.keep BEL.out)
              have HBE := Lib.hid (HBR.out.trans (BEL.out.mono HBR.out.size))
              go_wp2_with (first
                | (refine wpList_store_row rfl _ _ _ rfl (w.heap.size + 1 + 1) #[.int .u8 0,.int .u8 0,.int .u32 0,.int .u32 0,.slice none 0 0,.slice none 0 0,.bool false,.int .u32 0,.int .u8 0,.int .u8 0,.int .u32 0,.slice none 0 0,.int .u32 0] rfl rfl 28 _ E3.out.at_ rep_size rfl (by simp [Value.oneCell']) ?_)
                | (refine wpList_store_row rfl _ _ _ rfl (w.heap.size + 1 + 1 + 1) #[.int .i64 0,.int .u8 0,.int .u8 0,.int .u32 0,.int .u8 0,.int .u8 0,.slice none 0 0,.int .u32 0,.slice none 0 0,.int .u8 0,.bool false,.slice none 0 0] rfl rfl 30 _ (E4.out.other (by omega) _).at_ note_size rfl (by simp [Value.oneCell']) ?_))
              refine bodyPost_ret (v := .tuple #[.agg #[.int .u8 0,.int .u8 0,.int .u32 0,.int .u32 0,.slice none 0 0,.slice none 0 0,.bool false,.int .u32 0,.int .u8 0,.int .u8 0,.int .u32 0,.slice none 0 0,.int .u32 0],.agg #[.int .i64 0,.int .u8 0,.int .u8 0,.int .u32 0,.int .u8 0,.int .u8 0,.slice none 0 0,.int .u32 0,.slice none 0 0,.int .u8 0,.bool false,.slice none 0 0],.bool false,.int .i64 c]) (results_two_rows2 Tryz.results10 _ _ (w.heap.size + 1 + 1) (w.heap.size + 1 + 1 + 1) 28 30 #[.int .u8 0,.int .u8 0,.int .u32 0,.int .u32 0,.slice none 0 0,.slice none 0 0,.bool false,.int .u32 0,.int .u8 0,.int .u8 0,.int .u32 0,.slice none 0 0,.int .u32 0] #[.int .i64 0,.int .u8 0,.int .u8 0,.int .u32 0,.int .u8 0,.int .u8 0,.slice none 0 0,.int .u32 0,.slice none 0 0,.int .u8 0,.bool false,.slice none 0 0] (0,0) (0,0) _ _ rfl rfl ((E3.out.row _).other (by omega) _).at_ ((E4.out.other (by omega) _).row _).at_ Tryz.underlying28 Tryz.underlying30 rfl rfl rep_size note_size) rfl ?_
              have hfin := below_setRow (below_setRow HBE.out (Nat.le_trans (Nat.le_succ w.heap.size) (Nat.le_succ _)) #[.int .u8 0,.int .u8 0,.int .u32 0,.int .u32 0,.slice none 0 0,.slice none 0 0,.bool false,.int .u32 0,.int .u8 0,.int .u8 0,.int .u32 0,.slice none 0 0,.int .u32 0]) (Nat.le_trans (Nat.le_trans (Nat.le_succ w.heap.size) (Nat.le_succ _)) (Nat.le_succ _)) #[.int .i64 0,.int .u8 0,.int .u8 0,.int .u32 0,.int .u8 0,.int .u8 0,.slice none 0 0,.int .u32 0,.slice none 0 0,.int .u8 0,.bool false,.slice none 0 0]
              have hall : takeP r n = noAcc c := by
                have ha : addR ks x.rep x.seq = .error c := HD.out
                unfold takeP
                rw [takes_fail HT.out.eq HX.out (fun h => absurd h.1 (by have := HQ2.out; simpa using this)) ha]
              rw [hall]
              exact ⟨_,_,rfl,zeroP_v _ _,zero_v _ _,hfin⟩
            | ok k' =>
              have HD := Lib.hid hD; clear hD
              rintro e w7 ⟨v7,rfl,hv7,hb⟩
              have KS7 := Lib.hid hv7
              obtain ⟨A7,c7,rfl,_⟩ := hv7
              have BO7 := Lib.hid (BO6.out.keep hb)
              have HS7 := Lib.hid (HS6.out.later hb)
              have BEL7 := Lib.hid (BEL6.out.trans (hb.mono BEL6.out.size)); clear hb
              have o4 := BO7.out.cell 4 (.slice A1 ks.length c1) rfl
              have f4 := BO7.out.free 4
              have BO8 := Lib.hid (show Blk (w7.setCell ⟨g,4,none⟩ (.slice A7 k'.length c7)) g #[.int .u8 r.rep,.int .u8 r.flt,.int .u32 r.epoch,.int .u32 r.seq,.slice A7 k'.length c7,.slice A5 (takeS hs x).length c5,.bool true,.int .u32 r.ses.num,.int .u8 r.ses.src,.int .u8 r.ses.cur,.int .u32 r.ses.epoch,.slice lr.c r.ses.offer.length lr.k,.int .u32 r.ses.last] 28 from BO7.out.put 4 (.slice A7 k'.length c7))
              have KS8 := Lib.hid (show Sl (w7.setCell ⟨g,4,none⟩ (.slice A7 k'.length c7)) (w7.setCell ⟨g,4,none⟩ (.slice A7 k'.length c7)).heap.size (.slice A7 k'.length c7) k' from (KS7.out.cell_ (arow BO7.out) (by decide)).more (by simp))
              have HS8 := Lib.hid (show ESl (w7.setCell ⟨g,4,none⟩ (.slice A7 k'.length c7)) (w7.setCell ⟨g,4,none⟩ (.slice A7 k'.length c7)).heap.size (.slice A5 (takeS hs x).length c5) (takeS hs x) from (HS7.out.cell_ (arow BO7.out)).more (by simp))
              have BEL8 := Lib.hid (BEL7.out.setCell (p := ⟨g,4,none⟩) HT.out.far (.slice A7 k'.length c7))
              go_wp2_with fail
              go_roundw
              case rel =>
                have htl : (takeS hs x).length ≤ r.held.length + (k + 1) := by have h1 := takeS_length hs x; have h2 := HT.out.len; omega
                have ha : addR ks x.rep x.seq = .ok k' := HD.out
                exact ⟨k + 1,k',takeS hs x,A7,A5,c7,c5,by go_num,by omega,⟨by rw [takes_add HT.out.eq HX.out (fun h => absurd h.1 (by have := HQ2.out; simpa using this)) ha,HYE.out],BO8.out,KS8.out,HS8.out,BEL8.out,HT.out.far,add_right ha,takeS_rise x HT.out.rise,htl⟩⟩
              case measure => simp [intOf]; omega
      · skip
        have hk1 : (x.kind == 1) = false := by have := HQ2.out; simp at this ⊢; omega
        simp only [En.agg] at RI
        go_wp2_with fail
        clear b1 lb b8 l2 l3 x0 x1 x2 x3 x4 x5 x6
        generalize wl.alloc (.cells #[.int .u8 x.id,.int .u8 x.rep,.int .u32 x.seq,.int .u32 x.stamp,.int .i64 x.kind,.int .u8 x.cls,.int .u32 x.val] 62) = we at BE BW ⊢
        generalize hge : wl.heap.size = ge at BE HNE ⊢
        have HGE := Lib.hid hge; clear hge
        refine (RI.out we).mono ?_
        rintro e w4 ⟨rfl,hb⟩
        have BE := Lib.hid (BE.out.keep hb)
        have BW := Lib.hid (BW.out.trans (hb.mono BW.out.size)); clear hb
        obtain ⟨i,hi⟩ : ∃ q : Bool,inB x r.flt = q := ⟨_,rfl⟩
        have HI := Lib.hid hi
        rw [hi]
        clear hi
        cases i
        · skip
          have HYE := Lib.hid (show fitE r.flt x = x from fit_keep (.inl (by have := HQ2.out; simp at this; omega)))
          have HYR := Lib.hid (show x.rep = x.rep ∧ x.seq = x.seq from ⟨rfl,rfl⟩)
          have TA := Lib.hid (TAK.out x HXO.out)
          have AD := Lib.hid (ADK.out x HXO.out)
          simp only [En.agg] at TA
          have BO := Lib.hid (HT.out.box.keep BW.out)
          have KS := Lib.hid ((HT.out.kn.below BW.out).more BW.out.size)
          have HS := Lib.hid ((HT.out.hd.below BW.out).more BW.out.size)
          have BEL := Lib.hid (HT.out.bel.trans (BW.out.mono HT.out.bel.size))
          have e0 := BE.out.cell 0 (.int .u8 x.id) rfl
          have e1 := BE.out.cell 1 (.int .u8 x.rep) rfl
          have e2 := BE.out.cell 2 (.int .u32 x.seq) rfl
          have e3 := BE.out.cell 3 (.int .u32 x.stamp) rfl
          have e4 := BE.out.cell 4 (.int .i64 x.kind) rfl
          have e5 := BE.out.cell 5 (.int .u8 x.cls) rfl
          have e6 := BE.out.cell 6 (.int .u32 x.val) rfl
          have o5 := BO.out.cell 5 (.slice A2 hs.length c2) rfl
          have lg := BO.out.lt
          have le := BE.out.lt
          go_wp2_with fail
          refine (TA.out w4 _ HS.out).mono ?_
          rintro e w5 ⟨v5,rfl,hv5,hb⟩
          have HS5 := Lib.hid hv5
          obtain ⟨A5,c5,rfl,_⟩ := hv5
          clear e0 e1 e2 e3 e4 e5 e6
          clear o5 lg le
          have BE := Lib.hid (BE.out.keep hb)
          have BO := Lib.hid (BO.out.keep hb)
          have KS := Lib.hid (KS.out.later hb)
          have BEL := Lib.hid (BEL.out.trans (hb.mono BEL.out.size)); clear hb
          have e1 := BE.out.cell 1 (.int .u8 x.rep) rfl
          have e2 := BE.out.cell 2 (.int .u32 x.seq) rfl
          have o4 := BO.out.cell 4 (.slice A1 ks.length c1) rfl
          have o5 := BO.out.cell 5 (.slice A2 hs.length c2) rfl
          have f5 := BO.out.free 5
          have lg := BO.out.lt
          have le := BE.out.lt
          have hne := HNE.out
          have BO6 := Lib.hid (show Blk (w5.setCell ⟨g,5,none⟩ (.slice A5 (takeS hs x).length c5)) g #[.int .u8 r.rep,.int .u8 r.flt,.int .u32 r.epoch,.int .u32 r.seq,.slice A1 ks.length c1,.slice A5 (takeS hs x).length c5,.bool true,.int .u32 r.ses.num,.int .u8 r.ses.src,.int .u8 r.ses.cur,.int .u32 r.ses.epoch,.slice lr.c r.ses.offer.length lr.k,.int .u32 r.ses.last] 28 from BO.out.put 5 (.slice A5 (takeS hs x).length c5))
          have KS6 := Lib.hid (show Sl (w5.setCell ⟨g,5,none⟩ (.slice A5 (takeS hs x).length c5)) (w5.setCell ⟨g,5,none⟩ (.slice A5 (takeS hs x).length c5)).heap.size (.slice A1 ks.length c1) ks from (KS.out.cell_ (arow BO.out) (by decide)).more (by simp))
          have HS6 := Lib.hid (show ESl (w5.setCell ⟨g,5,none⟩ (.slice A5 (takeS hs x).length c5)) (w5.setCell ⟨g,5,none⟩ (.slice A5 (takeS hs x).length c5)).heap.size (.slice A5 (takeS hs x).length c5) (takeS hs x) from (HS5.out.cell_ (arow BO.out)).more (by simp))
          have BEL6 := Lib.hid (BEL.out.setCell (p := ⟨g,5,none⟩) HT.out.far (.slice A5 (takeS hs x).length c5))
          go_wp2_with fail
          clear e1 e2 o4 o5 f5 lg le hne
          generalize w5.setCell ⟨g,5,none⟩ (.slice A5 (takeS hs x).length c5) = w6 at BO6 KS6 HS6 BEL6 ⊢
          refine (AD.out w6 _ KS6.out).mono ?_
          cases hD : addR ks x.rep x.seq with
          | error c =>
            have HD := Lib.hid hD; clear hD
            have HC0 := err_pos_add HD.out
            rintro e w7 ⟨rfl,hb⟩
            have BEL := Lib.hid (BEL6.out.trans (hb.mono BEL6.out.size)); clear hb
            have E3 := Lib.hid (E3.out.keep BEL.out)
            have E4 := Lib.hid (E4.out.keep BEL.out)
            have HBE := Lib.hid (HBR.out.trans (BEL.out.mono HBR.out.size))
            go_wp2_with (first
              | (refine wpList_store_row rfl _ _ _ rfl (w.heap.size + 1 + 1) #[.int .u8 0,.int .u8 0,.int .u32 0,.int .u32 0,.slice none 0 0,.slice none 0 0,.bool false,.int .u32 0,.int .u8 0,.int .u8 0,.int .u32 0,.slice none 0 0,.int .u32 0] rfl rfl 28 _ E3.out.at_ rep_size rfl (by simp [Value.oneCell']) ?_)
              | (refine wpList_store_row rfl _ _ _ rfl (w.heap.size + 1 + 1 + 1) #[.int .i64 0,.int .u8 0,.int .u8 0,.int .u32 0,.int .u8 0,.int .u8 0,.slice none 0 0,.int .u32 0,.slice none 0 0,.int .u8 0,.bool false,.slice none 0 0] rfl rfl 30 _ (E4.out.other (by omega) _).at_ note_size rfl (by simp [Value.oneCell']) ?_))
            refine bodyPost_ret (v := .tuple #[.agg #[.int .u8 0,.int .u8 0,.int .u32 0,.int .u32 0,.slice none 0 0,.slice none 0 0,.bool false,.int .u32 0,.int .u8 0,.int .u8 0,.int .u32 0,.slice none 0 0,.int .u32 0],.agg #[.int .i64 0,.int .u8 0,.int .u8 0,.int .u32 0,.int .u8 0,.int .u8 0,.slice none 0 0,.int .u32 0,.slice none 0 0,.int .u8 0,.bool false,.slice none 0 0],.bool false,.int .i64 c]) (results_two_rows2 Tryz.results10 _ _ (w.heap.size + 1 + 1) (w.heap.size + 1 + 1 + 1) 28 30 #[.int .u8 0,.int .u8 0,.int .u32 0,.int .u32 0,.slice none 0 0,.slice none 0 0,.bool false,.int .u32 0,.int .u8 0,.int .u8 0,.int .u32 0,.slice none 0 0,.int .u32 0] #[.int .i64 0,.int .u8 0,.int .u8 0,.int .u32 0,.int .u8 0,.int .u8 0,.slice none 0 0,.int .u32 0,.slice none 0 0,.int .u8 0,.bool false,.slice none 0 0] (0,0) (0,0) _ _ rfl rfl ((E3.out.row _).other (by omega) _).at_ ((E4.out.other (by omega) _).row _).at_ Tryz.underlying28 Tryz.underlying30 rfl rfl rep_size note_size) rfl ?_
            have hfin := below_setRow (below_setRow HBE.out (Nat.le_trans (Nat.le_succ w.heap.size) (Nat.le_succ _)) #[.int .u8 0,.int .u8 0,.int .u32 0,.int .u32 0,.slice none 0 0,.slice none 0 0,.bool false,.int .u32 0,.int .u8 0,.int .u8 0,.int .u32 0,.slice none 0 0,.int .u32 0]) (Nat.le_trans (Nat.le_trans (Nat.le_succ w.heap.size) (Nat.le_succ _)) (Nat.le_succ _)) #[.int .i64 0,.int .u8 0,.int .u8 0,.int .u32 0,.int .u8 0,.int .u8 0,.slice none 0 0,.int .u32 0,.slice none 0 0,.int .u8 0,.bool false,.slice none 0 0]
            have hall : takeP r n = noAcc c := by
              have ha : addR ks x.rep x.seq = .error c := HD.out
              unfold takeP
              rw [takes_fail HT.out.eq HX.out (fun h => absurd h.2 (by rw [HI.out]; decide)) ha]
            rw [hall]
            exact ⟨_,_,rfl,zeroP_v _ _,zero_v _ _,hfin⟩
          | ok k' =>
            have HD := Lib.hid hD; clear hD
            rintro e w7 ⟨v7,rfl,hv7,hb⟩
            have KS7 := Lib.hid hv7
            obtain ⟨A7,c7,rfl,_⟩ := hv7
            have BO7 := Lib.hid (BO6.out.keep hb)
            have HS7 := Lib.hid (HS6.out.later hb)
            have BEL7 := Lib.hid (BEL6.out.trans (hb.mono BEL6.out.size)); clear hb
            have o4 := BO7.out.cell 4 (.slice A1 ks.length c1) rfl
            have f4 := BO7.out.free 4
            have BO8 := Lib.hid (show Blk (w7.setCell ⟨g,4,none⟩ (.slice A7 k'.length c7)) g #[.int .u8 r.rep,.int .u8 r.flt,.int .u32 r.epoch,.int .u32 r.seq,.slice A7 k'.length c7,.slice A5 (takeS hs x).length c5,.bool true,.int .u32 r.ses.num,.int .u8 r.ses.src,.int .u8 r.ses.cur,.int .u32 r.ses.epoch,.slice lr.c r.ses.offer.length lr.k,.int .u32 r.ses.last] 28 from BO7.out.put 4 (.slice A7 k'.length c7))
            have KS8 := Lib.hid (show Sl (w7.setCell ⟨g,4,none⟩ (.slice A7 k'.length c7)) (w7.setCell ⟨g,4,none⟩ (.slice A7 k'.length c7)).heap.size (.slice A7 k'.length c7) k' from (KS7.out.cell_ (arow BO7.out) (by decide)).more (by simp))
            have HS8 := Lib.hid (show ESl (w7.setCell ⟨g,4,none⟩ (.slice A7 k'.length c7)) (w7.setCell ⟨g,4,none⟩ (.slice A7 k'.length c7)).heap.size (.slice A5 (takeS hs x).length c5) (takeS hs x) from (HS7.out.cell_ (arow BO7.out)).more (by simp))
            have BEL8 := Lib.hid (BEL7.out.setCell (p := ⟨g,4,none⟩) HT.out.far (.slice A7 k'.length c7))
            go_wp2_with fail
            go_roundw
            case rel =>
              have htl : (takeS hs x).length ≤ r.held.length + (k + 1) := by have h1 := takeS_length hs x; have h2 := HT.out.len; omega
              have ha : addR ks x.rep x.seq = .ok k' := HD.out
              exact ⟨k + 1,k',takeS hs x,A7,A5,c7,c5,by go_num,by omega,⟨by rw [takes_add HT.out.eq HX.out (fun h => absurd h.2 (by rw [HI.out]; decide)) ha,HYE.out],BO8.out,KS8.out,HS8.out,BEL8.out,HT.out.far,add_right ha,takeS_rise x HT.out.rise,htl⟩⟩
            case measure => simp [intOf]; omega
        · skip
          have HYE := Lib.hid (show fitE r.flt x = x from fit_keep (.inl (by have := HQ2.out; simp at this; omega)))
          have HYR := Lib.hid (show x.rep = x.rep ∧ x.seq = x.seq from ⟨rfl,rfl⟩)
          have TA := Lib.hid (TAK.out x HXO.out)
          have AD := Lib.hid (ADK.out x HXO.out)
          simp only [En.agg] at TA
          have BO := Lib.hid (HT.out.box.keep BW.out)
          have KS := Lib.hid ((HT.out.kn.below BW.out).more BW.out.size)
          have HS := Lib.hid ((HT.out.hd.below BW.out).more BW.out.size)
          have BEL := Lib.hid (HT.out.bel.trans (BW.out.mono HT.out.bel.size))
          have e0 := BE.out.cell 0 (.int .u8 x.id) rfl
          have e1 := BE.out.cell 1 (.int .u8 x.rep) rfl
          have e2 := BE.out.cell 2 (.int .u32 x.seq) rfl
          have e3 := BE.out.cell 3 (.int .u32 x.stamp) rfl
          have e4 := BE.out.cell 4 (.int .i64 x.kind) rfl
          have e5 := BE.out.cell 5 (.int .u8 x.cls) rfl
          have e6 := BE.out.cell 6 (.int .u32 x.val) rfl
          have o5 := BO.out.cell 5 (.slice A2 hs.length c2) rfl
          have lg := BO.out.lt
          have le := BE.out.lt
          go_wp2_with fail
          refine (TA.out w4 _ HS.out).mono ?_
          rintro e w5 ⟨v5,rfl,hv5,hb⟩
          have HS5 := Lib.hid hv5
          obtain ⟨A5,c5,rfl,_⟩ := hv5
          clear e0 e1 e2 e3 e4 e5 e6
          clear o5 lg le
          have BE := Lib.hid (BE.out.keep hb)
          have BO := Lib.hid (BO.out.keep hb)
          have KS := Lib.hid (KS.out.later hb)
          have BEL := Lib.hid (BEL.out.trans (hb.mono BEL.out.size)); clear hb
          have e1 := BE.out.cell 1 (.int .u8 x.rep) rfl
          have e2 := BE.out.cell 2 (.int .u32 x.seq) rfl
          have o4 := BO.out.cell 4 (.slice A1 ks.length c1) rfl
          have o5 := BO.out.cell 5 (.slice A2 hs.length c2) rfl
          have f5 := BO.out.free 5
          have lg := BO.out.lt
          have le := BE.out.lt
          have hne := HNE.out
          have BO6 := Lib.hid (show Blk (w5.setCell ⟨g,5,none⟩ (.slice A5 (takeS hs x).length c5)) g #[.int .u8 r.rep,.int .u8 r.flt,.int .u32 r.epoch,.int .u32 r.seq,.slice A1 ks.length c1,.slice A5 (takeS hs x).length c5,.bool true,.int .u32 r.ses.num,.int .u8 r.ses.src,.int .u8 r.ses.cur,.int .u32 r.ses.epoch,.slice lr.c r.ses.offer.length lr.k,.int .u32 r.ses.last] 28 from BO.out.put 5 (.slice A5 (takeS hs x).length c5))
          have KS6 := Lib.hid (show Sl (w5.setCell ⟨g,5,none⟩ (.slice A5 (takeS hs x).length c5)) (w5.setCell ⟨g,5,none⟩ (.slice A5 (takeS hs x).length c5)).heap.size (.slice A1 ks.length c1) ks from (KS.out.cell_ (arow BO.out) (by decide)).more (by simp))
          have HS6 := Lib.hid (show ESl (w5.setCell ⟨g,5,none⟩ (.slice A5 (takeS hs x).length c5)) (w5.setCell ⟨g,5,none⟩ (.slice A5 (takeS hs x).length c5)).heap.size (.slice A5 (takeS hs x).length c5) (takeS hs x) from (HS5.out.cell_ (arow BO.out)).more (by simp))
          have BEL6 := Lib.hid (BEL.out.setCell (p := ⟨g,5,none⟩) HT.out.far (.slice A5 (takeS hs x).length c5))
          go_wp2_with fail
          go_roundw
          case rel =>
            have htl : (takeS hs x).length ≤ r.held.length + (k + 1) := by have h1 := takeS_length hs x; have h2 := HT.out.len; omega
            exact ⟨k + 1,ks,takeS hs x,A1,A5,c1,c5,by go_num,by omega,⟨by rw [takes_skip HT.out.eq HX.out ⟨by have := HQ2.out; simpa using this,HI.out⟩,HYE.out],BO6.out,KS6.out,HS6.out,BEL6.out,HT.out.far,HT.out.right,takeS_rise x HT.out.rise,htl⟩⟩
          case measure => simp [intOf]; omega
    · skip
      have hkk : k = n.ents.length := by omega
      have HTE := Lib.hid (show takesR r.flt n.ents r.know r.held = .ok (ks,hs) by have := HT.out.eq; rw [hkk,List.take_length] at this; exact this)
      have BEL := Lib.hid HT.out.bel
      have BO := Lib.hid HT.out.box
      have hks : ks.length ≤ 1000 := by have h1 := HT.out.right; simp only [rightB,Bool.and_eq_true,decide_eq_true_eq] at h1; omega
      have OFS := Lib.hid (HRV.out.offSl.later BEL.out)
      have hof : r.ses.offer.length ≤ 1000 := HLO.out
      have HRO := Lib.hid HRV.out.rok_
      have HOF0 := Lib.hid (fun W' (hb : Below w.heap.size w W') => (HV1.out.offSl.below hb).more hb.size)
      have b4 := (B2.out.keep BEL.out).cell 4 (.int .u8 n.cur) rfl
      have b7 := (B2.out.keep BEL.out).cell 7 (.int .u32 n.epoch) rfl
      have b9 := (B2.out.keep BEL.out).cell 9 (.int .u8 n.next) rfl
      have b10 := (B2.out.keep BEL.out).cell 10 (.bool n.done) rfl
      have b11 := (B2.out.keep BEL.out).cell 11 (.slice ln.c n.offer.length ln.k) rfl
      have lg := BO.out.lt
      have hne1 : w.heap.size + 1 ≠ g := by have h1 := B2.out.lt; have h2 := HGG.out; omega
      have hm2 := HGG.out
      have o0 := BO.out.cell 0 (.int .u8 r.rep) rfl
      have o1 := BO.out.cell 1 (.int .u8 r.flt) rfl
      have o2 := BO.out.cell 2 (.int .u32 r.epoch) rfl
      have o3 := BO.out.cell 3 (.int .u32 r.seq) rfl
      have o4 := BO.out.cell 4 (.slice A1 ks.length c1) rfl
      have o5 := BO.out.cell 5 (.slice A2 hs.length c2) rfl
      have o6 := BO.out.cell 6 (.bool true) rfl
      have o7 := BO.out.cell 7 (.int .u32 r.ses.num) rfl
      have o8 := BO.out.cell 8 (.int .u8 r.ses.src) rfl
      have o9 := BO.out.cell 9 (.int .u8 r.ses.cur) rfl
      have o10 := BO.out.cell 10 (.int .u32 r.ses.epoch) rfl
      have o11 := BO.out.cell 11 (.slice lr.c r.ses.offer.length lr.k) rfl
      have o12 := BO.out.cell 12 (.int .u32 r.ses.last) rfl
      have f9 := BO.out.free 9
      have f10 := BO.out.free 10
      have f11 := BO.out.free 11
      have hcz : (n.cur == 0) = false := by have := HC1.out; simp; omega
      obtain ⟨qd,hqd⟩ : ∃ q : Bool,n.done = q := ⟨_,rfl⟩
      have HQD := Lib.hid hqd
      rw [hqd] at b10
      clear hqd hm2
      cases qd
      · skip
        have KSt := Lib.hid HT.out.kn
        have HSt := Lib.hid HT.out.hd
        have BOt := Lib.hid BO.out
        have BELt := Lib.hid BEL.out
        have KSt := Lib.hid (show Sl (wl.setCell ⟨g,9,none⟩ (.int .u8 n.next)) (wl.setCell ⟨g,9,none⟩ (.int .u8 n.next)).heap.size (.slice A1 ks.length c1) ks from (KSt.out.cell_ (arow BOt.out) (by decide)).more (by simp))
        have HSt := Lib.hid (show ESl (wl.setCell ⟨g,9,none⟩ (.int .u8 n.next)) (wl.setCell ⟨g,9,none⟩ (.int .u8 n.next)).heap.size (.slice A2 hs.length c2) hs from (HSt.out.cell_ (arow BOt.out)).more (by simp))
        have BELt := Lib.hid (show Below wr.heap.size wr (wl.setCell ⟨g,9,none⟩ (.int .u8 n.next)) from BELt.out.setCell (p := ⟨g,9,none⟩) HT.out.far _)
        have BOt := Lib.hid (show Blk (wl.setCell ⟨g,9,none⟩ (.int .u8 n.next)) g #[.int .u8 r.rep,.int .u8 r.flt,.int .u32 r.epoch,.int .u32 r.seq,.slice A1 ks.length c1,.slice A2 hs.length c2,.bool true,.int .u32 r.ses.num,.int .u8 r.ses.src,.int .u8 n.next,.int .u32 r.ses.epoch,.slice lr.c r.ses.offer.length lr.k,.int .u32 r.ses.last] 28 from BOt.out.put 9 (.int .u8 n.next))
        go_wp2_with fail
        clear b4 b7 b9 b10 b11 lg f9 f10 f11 hcz hks hof
        clear o0 o1 o2 o3 o4 o5 o6 o7 o8 o9 o10 o11 o12
        have OFt := Lib.hid (HRV.out.offSl.later BELt.out)
        generalize (wl.setCell ⟨g,9,none⟩ (.int .u8 n.next)) = we at KSt HSt BELt BOt OFt ⊢
        have hm : Tryz.prog.follows .mixedOrders = true := HM.out
        have PV := Lib.hid (fun W => q7Pull_val ⟨r.rep,r.flt,r.epoch,r.seq,ks,hs,⟨true,r.ses.num,r.ses.src,n.next,r.ses.epoch,r.ses.offer,r.ses.last⟩⟩ A1 A2 lr.c c1 c2 lr.k W)
        unfold Rp.cells at PV
        simp only at PV
        have p0 := fun p : Later we => (BOt.out.keep p.bel).cell 0 (.int .u8 r.rep) rfl
        have p1 := fun p : Later we => (BOt.out.keep p.bel).cell 1 (.int .u8 r.flt) rfl
        have p2 := fun p : Later we => (BOt.out.keep p.bel).cell 2 (.int .u32 r.epoch) rfl
        have p3 := fun p : Later we => (BOt.out.keep p.bel).cell 3 (.int .u32 r.seq) rfl
        have p4 := fun p : Later we => (BOt.out.keep p.bel).cell 4 (.slice A1 ks.length c1) rfl
        have p5 := fun p : Later we => (BOt.out.keep p.bel).cell 5 (.slice A2 hs.length c2) rfl
        have p6 := fun p : Later we => (BOt.out.keep p.bel).cell 6 (.bool true) rfl
        have p7 := fun p : Later we => (BOt.out.keep p.bel).cell 7 (.int .u32 r.ses.num) rfl
        have p8 := fun p : Later we => (BOt.out.keep p.bel).cell 8 (.int .u8 r.ses.src) rfl
        have p9 := fun p : Later we => (BOt.out.keep p.bel).cell 9 (.int .u8 n.next) rfl
        have p10 := fun p : Later we => (BOt.out.keep p.bel).cell 10 (.int .u32 r.ses.epoch) rfl
        have p11 := fun p : Later we => (BOt.out.keep p.bel).cell 11 (.slice lr.c r.ses.offer.length lr.k) rfl
        have p12 := fun p : Later we => (BOt.out.keep p.bel).cell 12 (.int .u32 r.ses.last) rfl
        refine wp_region_later_tail 3 hm (by kernel_rfl) ?_
        simp only [List.take_succ_cons,List.take_zero,List.drop_succ_cons,List.drop_zero]
        repeat (any_goals (first | go_big_quiet_step (first | (go_at_call 21; exact Calls.later (PV.out _))) | quiet_step (first | (go_at_call 21; exact Calls.later (PV.out _)))))
        refine wpQuiet_nil ?_
        intro wp hw'
        obtain ⟨lp,hlp⟩ := hw'
        have hbp := lp.bel
        rw [← hlp] at hbp
        clear p0 p1 p2 p3 p4 p5 p6 p7 p8 p9 p10 p11 p12
        clear hlp lp
        have KSf := Lib.hid (KSt.out.later hbp)
        have HSf := Lib.hid (HSt.out.later hbp)
        have OFf := Lib.hid (OFt.out.later hbp)
        have BELf := Lib.hid (BELt.out.trans (hbp.mono BELt.out.size)); clear hbp
        have E3 := Lib.hid (E3.out.keep BELf.out)
        have E4 := Lib.hid (E4.out.keep BELf.out)
        have HBE := Lib.hid (HBR.out.trans (BELf.out.mono HBR.out.size))
        go_wp2_with (first
          | (refine wpList_store_row rfl _ _ _ rfl (w.heap.size + 1 + 1) #[.int .u8 r.rep,.int .u8 r.flt,.int .u32 r.epoch,.int .u32 r.seq,.slice A1 ks.length c1,.slice A2 hs.length c2,.bool true,.int .u32 r.ses.num,.int .u8 r.ses.src,.int .u8 n.next,.int .u32 r.ses.epoch,.slice lr.c r.ses.offer.length lr.k,.int .u32 r.ses.last] rfl rfl 28 _ E3.out.at_ rep_size rfl (by simp [Value.oneCell']) ?_)
          | (refine wpList_store_row rfl _ _ _ rfl (w.heap.size + 1 + 1 + 1) #[.int .i64 1,.int .u8 r.rep,.int .u8 r.ses.src,.int .u32 r.ses.num,.int .u8 n.next,.int .u8 r.flt,.slice A1 ks.length c1,.int .u32 0,.slice none 0 0,.int .u8 0,.bool false,.slice none 0 0] rfl rfl 30 _ (E4.out.other (by omega) _).at_ note_size rfl (by simp [Value.oneCell']) ?_))
        refine bodyPost_ret (v := .tuple #[.agg #[.int .u8 r.rep,.int .u8 r.flt,.int .u32 r.epoch,.int .u32 r.seq,.slice A1 ks.length c1,.slice A2 hs.length c2,.bool true,.int .u32 r.ses.num,.int .u8 r.ses.src,.int .u8 n.next,.int .u32 r.ses.epoch,.slice lr.c r.ses.offer.length lr.k,.int .u32 r.ses.last],.agg #[.int .i64 1,.int .u8 r.rep,.int .u8 r.ses.src,.int .u32 r.ses.num,.int .u8 n.next,.int .u8 r.flt,.slice A1 ks.length c1,.int .u32 0,.slice none 0 0,.int .u8 0,.bool false,.slice none 0 0],.bool true,.int .i64 0]) (results_two_rows2 Tryz.results10 _ _ (w.heap.size + 1 + 1) (w.heap.size + 1 + 1 + 1) 28 30 #[.int .u8 r.rep,.int .u8 r.flt,.int .u32 r.epoch,.int .u32 r.seq,.slice A1 ks.length c1,.slice A2 hs.length c2,.bool true,.int .u32 r.ses.num,.int .u8 r.ses.src,.int .u8 n.next,.int .u32 r.ses.epoch,.slice lr.c r.ses.offer.length lr.k,.int .u32 r.ses.last] #[.int .i64 1,.int .u8 r.rep,.int .u8 r.ses.src,.int .u32 r.ses.num,.int .u8 n.next,.int .u8 r.flt,.slice A1 ks.length c1,.int .u32 0,.slice none 0 0,.int .u8 0,.bool false,.slice none 0 0] (0,0) (0,0) _ _ rfl rfl ((E3.out.row _).other (by omega) _).at_ ((E4.out.other (by omega) _).row _).at_ Tryz.underlying28 Tryz.underlying30 rfl rfl rep_size note_size) rfl ?_
        have hfin := below_setRow (below_setRow HBE.out (Nat.le_trans (Nat.le_succ w.heap.size) (Nat.le_succ _)) #[.int .u8 r.rep,.int .u8 r.flt,.int .u32 r.epoch,.int .u32 r.seq,.slice A1 ks.length c1,.slice A2 hs.length c2,.bool true,.int .u32 r.ses.num,.int .u8 r.ses.src,.int .u8 n.next,.int .u32 r.ses.epoch,.slice lr.c r.ses.offer.length lr.k,.int .u32 r.ses.last]) (Nat.le_trans (Nat.le_trans (Nat.le_succ w.heap.size) (Nat.le_succ _)) (Nat.le_succ _)) #[.int .i64 1,.int .u8 r.rep,.int .u8 r.ses.src,.int .u32 r.ses.num,.int .u8 n.next,.int .u8 r.flt,.slice A1 ks.length c1,.int .u32 0,.slice none 0 0,.int .u8 0,.bool false,.slice none 0 0]
        have hall : takeP r n = ⟨⟨r.rep,r.flt,r.epoch,r.seq,ks,hs,⟨true,r.ses.num,r.ses.src,n.next,r.ses.epoch,r.ses.offer,r.ses.last⟩⟩,pullP ⟨r.rep,r.flt,r.epoch,r.seq,ks,hs,⟨true,r.ses.num,r.ses.src,n.next,r.ses.epoch,r.ses.offer,r.ses.last⟩⟩,true,0⟩ := by
          unfold takeP
          rw [HTE.out]
          simp only [endR,HQD.out,afterP,moveP,if_neg (Int.ne_of_gt HC1.out),HON.out,Bool.false_eq_true,if_false]
        rw [hall]
        have hrm : (⟨r.rep,r.flt,r.epoch,r.seq,ks,hs,⟨true,r.ses.num,r.ses.src,n.next,r.ses.epoch,r.ses.offer,r.ses.last⟩⟩ : Rp).ok := more_ok HRO.out HSf.out.okAll_ KSf.out.okAll_ OFf.out.okAll_ HEP.out HNX.out
        have hk9 := ((KSf.out.zrep HT.out.right E3.out #[.int .u8 r.rep,.int .u8 r.flt,.int .u32 r.epoch,.int .u32 r.seq,.slice A1 ks.length c1,.slice A2 hs.length c2,.bool true,.int .u32 r.ses.num,.int .u8 r.ses.src,.int .u8 n.next,.int .u32 r.ses.epoch,.slice lr.c r.ses.offer.length lr.k,.int .u32 r.ses.last]).note (zrowN (E4.out.other (by omega) #[.int .u8 r.rep,.int .u8 r.flt,.int .u32 r.epoch,.int .u32 r.seq,.slice A1 ks.length c1,.slice A2 hs.length c2,.bool true,.int .u32 r.ses.num,.int .u8 r.ses.src,.int .u8 n.next,.int .u32 r.ses.epoch,.slice lr.c r.ses.offer.length lr.k,.int .u32 r.ses.last])) #[.int .i64 1,.int .u8 r.rep,.int .u8 r.ses.src,.int .u32 r.ses.num,.int .u8 n.next,.int .u8 r.flt,.slice A1 ks.length c1,.int .u32 0,.slice none 0 0,.int .u8 0,.bool false,.slice none 0 0]).more (B' := ((wp.setRow (w.heap.size + 1 + 1) #[.int .u8 r.rep,.int .u8 r.flt,.int .u32 r.epoch,.int .u32 r.seq,.slice A1 ks.length c1,.slice A2 hs.length c2,.bool true,.int .u32 r.ses.num,.int .u8 r.ses.src,.int .u8 n.next,.int .u32 r.ses.epoch,.slice lr.c r.ses.offer.length lr.k,.int .u32 r.ses.last]).setRow (w.heap.size + 1 + 1 + 1) #[.int .i64 1,.int .u8 r.rep,.int .u8 r.ses.src,.int .u32 r.ses.num,.int .u8 n.next,.int .u8 r.flt,.slice A1 ks.length c1,.int .u32 0,.slice none 0 0,.int .u8 0,.bool false,.slice none 0 0]).heap.size) (by simp [World.setRow])
        have hh9 := ((HSf.out.rep (zrowP E3.out) #[.int .u8 r.rep,.int .u8 r.flt,.int .u32 r.epoch,.int .u32 r.seq,.slice A1 ks.length c1,.slice A2 hs.length c2,.bool true,.int .u32 r.ses.num,.int .u8 r.ses.src,.int .u8 n.next,.int .u32 r.ses.epoch,.slice lr.c r.ses.offer.length lr.k,.int .u32 r.ses.last]).note (zrowN (E4.out.other (by omega) #[.int .u8 r.rep,.int .u8 r.flt,.int .u32 r.epoch,.int .u32 r.seq,.slice A1 ks.length c1,.slice A2 hs.length c2,.bool true,.int .u32 r.ses.num,.int .u8 r.ses.src,.int .u8 n.next,.int .u32 r.ses.epoch,.slice lr.c r.ses.offer.length lr.k,.int .u32 r.ses.last])) #[.int .i64 1,.int .u8 r.rep,.int .u8 r.ses.src,.int .u32 r.ses.num,.int .u8 n.next,.int .u8 r.flt,.slice A1 ks.length c1,.int .u32 0,.slice none 0 0,.int .u8 0,.bool false,.slice none 0 0]).more (B' := ((wp.setRow (w.heap.size + 1 + 1) #[.int .u8 r.rep,.int .u8 r.flt,.int .u32 r.epoch,.int .u32 r.seq,.slice A1 ks.length c1,.slice A2 hs.length c2,.bool true,.int .u32 r.ses.num,.int .u8 r.ses.src,.int .u8 n.next,.int .u32 r.ses.epoch,.slice lr.c r.ses.offer.length lr.k,.int .u32 r.ses.last]).setRow (w.heap.size + 1 + 1 + 1) #[.int .i64 1,.int .u8 r.rep,.int .u8 r.ses.src,.int .u32 r.ses.num,.int .u8 n.next,.int .u8 r.flt,.slice A1 ks.length c1,.int .u32 0,.slice none 0 0,.int .u8 0,.bool false,.slice none 0 0]).heap.size) (by simp [World.setRow])
        have ho9 := HOF0.out _ hfin
        refine ⟨_,_,rfl,⟨_,_,_,rfl,hk9,hh9,ho9,hrm⟩,⟨_,_,_,rfl,hk9,ESl.nil _ _,Sl.nil _ _,pull_ok hrm⟩,hfin⟩
      · skip
        have KSt := Lib.hid HT.out.kn
        have HSt := Lib.hid HT.out.hd
        have BOt := Lib.hid BO.out
        have BELt := Lib.hid BEL.out
        go_wp2_with fail
        clear b4 b7 b9 b10 b11 lg f9 f10 f11 hcz
        clear o0 o1 o2 o3 o4 o5 o6 o7 o8 o9 o10 o11 o12
        have OFt := Lib.hid (HRV.out.offSl.later BELt.out)
        refine (refUnion_any _ _ ks r.ses.offer wl KSt.out OFt.out hks hof).mono ?_
        clear hks hof
        cases hD : unionR ks r.ses.offer with
        | error c =>
          have HD := Lib.hid hD; clear hD
          have HC0 := err_pos HD.out
          rintro e w7 ⟨rfl,hb⟩
          have BEL := Lib.hid (BELt.out.trans (hb.mono BELt.out.size)); clear hb
          have E3 := Lib.hid (E3.out.keep BEL.out)
          have E4 := Lib.hid (E4.out.keep BEL.out)
          have HBE := Lib.hid (HBR.out.trans (BEL.out.mono HBR.out.size))
          go_wp2_with (first
            | (refine wpList_store_row rfl _ _ _ rfl (w.heap.size + 1 + 1) #[.int .u8 0,.int .u8 0,.int .u32 0,.int .u32 0,.slice none 0 0,.slice none 0 0,.bool false,.int .u32 0,.int .u8 0,.int .u8 0,.int .u32 0,.slice none 0 0,.int .u32 0] rfl rfl 28 _ E3.out.at_ rep_size rfl (by simp [Value.oneCell']) ?_)
            | (refine wpList_store_row rfl _ _ _ rfl (w.heap.size + 1 + 1 + 1) #[.int .i64 0,.int .u8 0,.int .u8 0,.int .u32 0,.int .u8 0,.int .u8 0,.slice none 0 0,.int .u32 0,.slice none 0 0,.int .u8 0,.bool false,.slice none 0 0] rfl rfl 30 _ (E4.out.other (by omega) _).at_ note_size rfl (by simp [Value.oneCell']) ?_))
          refine bodyPost_ret (v := .tuple #[.agg #[.int .u8 0,.int .u8 0,.int .u32 0,.int .u32 0,.slice none 0 0,.slice none 0 0,.bool false,.int .u32 0,.int .u8 0,.int .u8 0,.int .u32 0,.slice none 0 0,.int .u32 0],.agg #[.int .i64 0,.int .u8 0,.int .u8 0,.int .u32 0,.int .u8 0,.int .u8 0,.slice none 0 0,.int .u32 0,.slice none 0 0,.int .u8 0,.bool false,.slice none 0 0],.bool false,.int .i64 c]) (results_two_rows2 Tryz.results10 _ _ (w.heap.size + 1 + 1) (w.heap.size + 1 + 1 + 1) 28 30 #[.int .u8 0,.int .u8 0,.int .u32 0,.int .u32 0,.slice none 0 0,.slice none 0 0,.bool false,.int .u32 0,.int .u8 0,.int .u8 0,.int .u32 0,.slice none 0 0,.int .u32 0] #[.int .i64 0,.int .u8 0,.int .u8 0,.int .u32 0,.int .u8 0,.int .u8 0,.slice none 0 0,.int .u32 0,.slice none 0 0,.int .u8 0,.bool false,.slice none 0 0] (0,0) (0,0) _ _ rfl rfl ((E3.out.row _).other (by omega) _).at_ ((E4.out.other (by omega) _).row _).at_ Tryz.underlying28 Tryz.underlying30 rfl rfl rep_size note_size) rfl ?_
          have hfin := below_setRow (below_setRow HBE.out (Nat.le_trans (Nat.le_succ w.heap.size) (Nat.le_succ _)) #[.int .u8 0,.int .u8 0,.int .u32 0,.int .u32 0,.slice none 0 0,.slice none 0 0,.bool false,.int .u32 0,.int .u8 0,.int .u8 0,.int .u32 0,.slice none 0 0,.int .u32 0]) (Nat.le_trans (Nat.le_trans (Nat.le_succ w.heap.size) (Nat.le_succ _)) (Nat.le_succ _)) #[.int .i64 0,.int .u8 0,.int .u8 0,.int .u32 0,.int .u8 0,.int .u8 0,.slice none 0 0,.int .u32 0,.slice none 0 0,.int .u8 0,.bool false,.slice none 0 0]
          have hall : takeP r n = noAcc c := by
            unfold takeP
            rw [HTE.out]
            simp only [endR,HQD.out,afterP,if_neg (Int.ne_of_gt HC1.out)]
            rw [HD.out]
            try rfl
          rw [hall]
          exact ⟨_,_,rfl,zeroP_v _ _,zero_v _ _,hfin⟩
        | ok l =>
          have HD := Lib.hid hD; clear hD
          rintro e w7 ⟨v7,rfl,hv7,hb⟩
          have KS7 := Lib.hid hv7
          obtain ⟨A7,c7,rfl,_⟩ := hv7
          have BO7 := Lib.hid (BOt.out.keep hb)
          have HS7 := Lib.hid (HSt.out.later hb)
          have BEL7 := Lib.hid (BELt.out.trans (hb.mono BELt.out.size)); clear hb
          have o0 := BO7.out.cell 0 (.int .u8 r.rep) rfl
          have o1 := BO7.out.cell 1 (.int .u8 r.flt) rfl
          have o2 := BO7.out.cell 2 (.int .u32 r.epoch) rfl
          have o3 := BO7.out.cell 3 (.int .u32 r.seq) rfl
          have o4 := BO7.out.cell 4 (.slice A1 ks.length c1) rfl
          have o5 := BO7.out.cell 5 (.slice A2 hs.length c2) rfl
          have o6 := BO7.out.cell 6 (.bool true) rfl
          have o7 := BO7.out.cell 7 (.int .u32 r.ses.num) rfl
          have o8 := BO7.out.cell 8 (.int .u8 r.ses.src) rfl
          have o9 := BO7.out.cell 9 (.int .u8 r.ses.cur) rfl
          have o10 := BO7.out.cell 10 (.int .u32 r.ses.epoch) rfl
          have o11 := BO7.out.cell 11 (.slice lr.c r.ses.offer.length lr.k) rfl
          have o12 := BO7.out.cell 12 (.int .u32 r.ses.last) rfl
          have f4 := BO7.out.free 4
          have BO8 := Lib.hid (show Blk (w7.setCell ⟨g,4,none⟩ (.slice A7 l.length c7)) g #[.int .u8 r.rep,.int .u8 r.flt,.int .u32 r.epoch,.int .u32 r.seq,.slice A7 l.length c7,.slice A2 hs.length c2,.bool true,.int .u32 r.ses.num,.int .u8 r.ses.src,.int .u8 r.ses.cur,.int .u32 r.ses.epoch,.slice lr.c r.ses.offer.length lr.k,.int .u32 r.ses.last] 28 from BO7.out.put 4 (.slice A7 l.length c7))
          have KS8 := Lib.hid (show Sl (w7.setCell ⟨g,4,none⟩ (.slice A7 l.length c7)) (w7.setCell ⟨g,4,none⟩ (.slice A7 l.length c7)).heap.size (.slice A7 l.length c7) l from (KS7.out.cell_ (arow BO7.out) (by decide)).more (by simp))
          have HS8 := Lib.hid (show ESl (w7.setCell ⟨g,4,none⟩ (.slice A7 l.length c7)) (w7.setCell ⟨g,4,none⟩ (.slice A7 l.length c7)).heap.size (.slice A2 hs.length c2) hs from (HS7.out.cell_ (arow BO7.out)).more (by simp))
          have BEL8 := Lib.hid (show Below wr.heap.size wr (w7.setCell ⟨g,4,none⟩ (.slice A7 l.length c7)) from BEL7.out.setCell (p := ⟨g,4,none⟩) HT.out.far _)
          have OV := Lib.hid (fun W => q7Off_val ⟨r.rep,r.flt,r.epoch,r.seq,l,hs,⟨true,r.ses.num,r.ses.src,r.ses.cur,r.ses.epoch,r.ses.offer,r.ses.last⟩⟩ A7 A2 lr.c c7 c2 lr.k W)
          unfold Rp.cells at OV
          simp only at OV
          go_wp2_with fail
          clear f4
          clear o0 o1 o2 o3 o4 o5 o6 o7 o8 o9 o10 o11 o12
          generalize (w7.setCell ⟨g,4,none⟩ (.slice A7 l.length c7)) = w8 at BO8 KS8 HS8 BEL8 ⊢
          refine (OV.out w8).mono ?_
          rintro e w9 ⟨rfl,hb⟩
          have KS9 := Lib.hid (KS8.out.later hb)
          have HS9 := Lib.hid (HS8.out.later hb)
          have BEL9 := Lib.hid (BEL8.out.trans (hb.mono BEL8.out.size)); clear hb
          have E3 := Lib.hid (E3.out.keep BEL9.out)
          have E4 := Lib.hid (E4.out.keep BEL9.out)
          have HBE := Lib.hid (HBR.out.trans (BEL9.out.mono HBR.out.size))
          go_wp2_with (first
            | (refine wpList_store_row rfl _ _ _ rfl (w.heap.size + 1 + 1) #[.int .u8 r.rep,.int .u8 r.flt,.int .u32 r.epoch,.int .u32 r.seq,.slice A7 l.length c7,.slice A2 hs.length c2,.bool false,.int .u32 0,.int .u8 0,.int .u8 0,.int .u32 0,.slice none 0 0,.int .u32 r.ses.last] rfl rfl 28 _ E3.out.at_ rep_size rfl (by simp [Value.oneCell']) ?_)
            | (refine wpList_store_row rfl _ _ _ rfl (w.heap.size + 1 + 1 + 1) #[.int .i64 0,.int .u8 0,.int .u8 0,.int .u32 0,.int .u8 0,.int .u8 0,.slice none 0 0,.int .u32 0,.slice none 0 0,.int .u8 0,.bool false,.slice none 0 0] rfl rfl 30 _ (E4.out.other (by omega) _).at_ note_size rfl (by simp [Value.oneCell']) ?_))
          refine bodyPost_ret (v := .tuple #[.agg #[.int .u8 r.rep,.int .u8 r.flt,.int .u32 r.epoch,.int .u32 r.seq,.slice A7 l.length c7,.slice A2 hs.length c2,.bool false,.int .u32 0,.int .u8 0,.int .u8 0,.int .u32 0,.slice none 0 0,.int .u32 r.ses.last],.agg #[.int .i64 0,.int .u8 0,.int .u8 0,.int .u32 0,.int .u8 0,.int .u8 0,.slice none 0 0,.int .u32 0,.slice none 0 0,.int .u8 0,.bool false,.slice none 0 0],.bool false,.int .i64 0]) (results_two_rows2 Tryz.results10 _ _ (w.heap.size + 1 + 1) (w.heap.size + 1 + 1 + 1) 28 30 #[.int .u8 r.rep,.int .u8 r.flt,.int .u32 r.epoch,.int .u32 r.seq,.slice A7 l.length c7,.slice A2 hs.length c2,.bool false,.int .u32 0,.int .u8 0,.int .u8 0,.int .u32 0,.slice none 0 0,.int .u32 r.ses.last] #[.int .i64 0,.int .u8 0,.int .u8 0,.int .u32 0,.int .u8 0,.int .u8 0,.slice none 0 0,.int .u32 0,.slice none 0 0,.int .u8 0,.bool false,.slice none 0 0] (0,0) (0,0) _ _ rfl rfl ((E3.out.row _).other (by omega) _).at_ ((E4.out.other (by omega) _).row _).at_ Tryz.underlying28 Tryz.underlying30 rfl rfl rep_size note_size) rfl ?_
          have hfin := below_setRow (below_setRow HBE.out (Nat.le_trans (Nat.le_succ w.heap.size) (Nat.le_succ _)) #[.int .u8 r.rep,.int .u8 r.flt,.int .u32 r.epoch,.int .u32 r.seq,.slice A7 l.length c7,.slice A2 hs.length c2,.bool false,.int .u32 0,.int .u8 0,.int .u8 0,.int .u32 0,.slice none 0 0,.int .u32 r.ses.last]) (Nat.le_trans (Nat.le_trans (Nat.le_succ w.heap.size) (Nat.le_succ _)) (Nat.le_succ _)) #[.int .i64 0,.int .u8 0,.int .u8 0,.int .u32 0,.int .u8 0,.int .u8 0,.slice none 0 0,.int .u32 0,.slice none 0 0,.int .u8 0,.bool false,.slice none 0 0]
          have hall : takeP r n = ⟨offP (withP r l hs),zeroN,false,0⟩ := by
            unfold takeP
            rw [HTE.out]
            simp only [endR,HQD.out,afterP,if_neg (Int.ne_of_gt HC1.out)]
            rw [HD.out]
            try rfl
          rw [hall]
          have hk9 := ((KS9.out.zrep (union_told HD.out).2.2.1 E3.out #[.int .u8 r.rep,.int .u8 r.flt,.int .u32 r.epoch,.int .u32 r.seq,.slice A7 l.length c7,.slice A2 hs.length c2,.bool false,.int .u32 0,.int .u8 0,.int .u8 0,.int .u32 0,.slice none 0 0,.int .u32 r.ses.last]).note (zrowN (E4.out.other (by omega) #[.int .u8 r.rep,.int .u8 r.flt,.int .u32 r.epoch,.int .u32 r.seq,.slice A7 l.length c7,.slice A2 hs.length c2,.bool false,.int .u32 0,.int .u8 0,.int .u8 0,.int .u32 0,.slice none 0 0,.int .u32 r.ses.last])) #[.int .i64 0,.int .u8 0,.int .u8 0,.int .u32 0,.int .u8 0,.int .u8 0,.slice none 0 0,.int .u32 0,.slice none 0 0,.int .u8 0,.bool false,.slice none 0 0]).more (B' := ((w9.setRow (w.heap.size + 1 + 1) #[.int .u8 r.rep,.int .u8 r.flt,.int .u32 r.epoch,.int .u32 r.seq,.slice A7 l.length c7,.slice A2 hs.length c2,.bool false,.int .u32 0,.int .u8 0,.int .u8 0,.int .u32 0,.slice none 0 0,.int .u32 r.ses.last]).setRow (w.heap.size + 1 + 1 + 1) #[.int .i64 0,.int .u8 0,.int .u8 0,.int .u32 0,.int .u8 0,.int .u8 0,.slice none 0 0,.int .u32 0,.slice none 0 0,.int .u8 0,.bool false,.slice none 0 0]).heap.size) (by simp [World.setRow])
          have hh9 := ((HS9.out.rep (zrowP E3.out) #[.int .u8 r.rep,.int .u8 r.flt,.int .u32 r.epoch,.int .u32 r.seq,.slice A7 l.length c7,.slice A2 hs.length c2,.bool false,.int .u32 0,.int .u8 0,.int .u8 0,.int .u32 0,.slice none 0 0,.int .u32 r.ses.last]).note (zrowN (E4.out.other (by omega) #[.int .u8 r.rep,.int .u8 r.flt,.int .u32 r.epoch,.int .u32 r.seq,.slice A7 l.length c7,.slice A2 hs.length c2,.bool false,.int .u32 0,.int .u8 0,.int .u8 0,.int .u32 0,.slice none 0 0,.int .u32 r.ses.last])) #[.int .i64 0,.int .u8 0,.int .u8 0,.int .u32 0,.int .u8 0,.int .u8 0,.slice none 0 0,.int .u32 0,.slice none 0 0,.int .u8 0,.bool false,.slice none 0 0]).more (B' := ((w9.setRow (w.heap.size + 1 + 1) #[.int .u8 r.rep,.int .u8 r.flt,.int .u32 r.epoch,.int .u32 r.seq,.slice A7 l.length c7,.slice A2 hs.length c2,.bool false,.int .u32 0,.int .u8 0,.int .u8 0,.int .u32 0,.slice none 0 0,.int .u32 r.ses.last]).setRow (w.heap.size + 1 + 1 + 1) #[.int .i64 0,.int .u8 0,.int .u8 0,.int .u32 0,.int .u8 0,.int .u8 0,.slice none 0 0,.int .u32 0,.slice none 0 0,.int .u8 0,.bool false,.slice none 0 0]).heap.size) (by simp [World.setRow])
          exact ⟨_,_,rfl,⟨_,_,_,rfl,hk9,hh9,Sl.nil _ _,outP_ok HRO.out KS9.out.okAll_ HS9.out.okAll_⟩,zero_v _ _,hfin⟩
end Go.Proofs.YtfjaeohfigcciabGreatDoor

