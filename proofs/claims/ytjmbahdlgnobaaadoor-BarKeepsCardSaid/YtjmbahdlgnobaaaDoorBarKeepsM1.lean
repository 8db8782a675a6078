/- BarKeeps: a pick of a mutator: how far it is when it steps. -/
import Derived.Test.YtjmbahdlgnobaaaDoorBarKeepsI
import Derived.Test.YtjmbahdlgnobaaaDoorM4
import Derived.Test.YtjmbahdlgnobaaaDoorBarKeepsA
import Derived.Test.YtjmbahdlgnobaaaDoorShutPure
import Derived.Test.YtjmbahdlgnobaaaDoorBytes
import Derived.Test.YtjmbahdlgnobaaaDoorHandNew
import Derived.Deep.CutRange
import Derived.Deep.CutBlock
namespace Go.Proofs.YtjmbahdlgnobaaaDoor
open Go Go.RowKit
set_option maxRecDepth 100000
attribute [local go_sem ↓] Go.wp_at_zero Go.wp_at_succ

set_option maxHeartbeats 12800000 in
theorem bk_m1 {w V : World} {H A G R S T B X k q : Nat} {ln kd rs : Nat → Int} {s : Dy} {l j xc m xa p : Int} {fd : Bool} {tl cy : Int} {L Q lx : Int} (hm : q < k) (hqI : (q : Int) < (k : Int)) (hq0 : (0 : Int) ≤ (q : Int)) (hlx : goL1 (goL0 L) = lx) (hkd : L = 0 ∨ Q = 11) (hap : ¬ (⟨H, A, G, R, S, B, T⟩ : BkB).is X ∧ w.heap.size ≤ X) (hnr : ¬ (L = 24 ∧ 0 < rs q)) (HRS : Hid (∀ j, 0 ≤ rs j ∧ rs j ≤ 3)) (HQ0 : Hid (BkW w V ⟨H, A, G, R, S, B, T⟩ k ln kd rs s ⟨l, j, xc, m, xa, p, fd, tl, cy⟩)) (HM0 : Hid (Mut13 V X L 0 0 Q 0 0 0 0 0 0 0 0 0)) {x0 x1 x2 x3 x4 x5 x6 x7 x8 x9 x10 x12 x13 x14 x16 x17 x18 x19 x21 x22 x23 x24 x25 x26 x27 x28 x29 x30 x31 x32 x33 x34 x35 x36 x37 x38 x39 x40 x41 x42 x43 x44 x45 x46 x47 x48 x49 x50 x51 x52 x53 x54 x55 x56 x57 x58 x59 x60 x61 x62 x63 x64 x65 x66 x67 x68 x69 x70 x71 x72 x73 x74 x75 x76 x77 x78 x79 x80 x81 x82 x83 x84 x85 x86 x87 x88 x89 x90 x91 x92 x93 x94 x95 x96 x97 x98 x99 x100 x101 x102 x103 x104 x105 x106 x107 x108 x109 x110 x111 x112 x113 x114 x115 x116 x117 x118 x119 x120 x121 x122 x123 x124 x125 x126 x127 x128 x129 x130 x131 x132 x133 x134 x135 x136 x137 x138 x139 x140 x141 x142 x143 x144 x145 x146 x147 x148 x149 x150 x151 x152 x153 x154 x155 x156 x157 x158 x159 x160 x161 x162 x163 x164 x165 x166 x167 x168 x169 x170 x171 x172 x173 x174 x175 x176 x177 x178 x179 x180 x181 x182 x183 x184 x185 x186 x187 x188 x189 x190 x191 x192 x193 x194 x195 x196 x197 x198 x199 x200 x201 x202 x203 x204 x205 x206 x207 x208 x209 x210 x211 x212 x213 x214 : Value} {J K' : Act → World → Prop} {Q' : Exit → Act → World → Prop} (hJ : ∀ (a' : Act) (w' : World), (∃ u58 u59 u60 u61 u62 u63 u64 u65 u66 u67 u68 u69 u70 u71 u72 u73 u74 u75 u76 u77 u78 u79 u80 u81 u82 u83 u84 u85 u86 u87 u88 u89 u90 u91 u92 u93 u94 u95 u96 u97 u98 u99 u100 u101 u102 u103 u104 u105 u106 u107 u108 u109 u110 u111 u112 u113 u114 u115 u116 u117 u118 u119 u120 u121 u122 u123 u124 u125 u126 u127 u128 u129 u130 u131 u132 u133 u134 u135 u136 u137 u138 u139 u140 u141 u142 u143 u144 u145 u146 u147 u148 u149 u150 u151 u152 u153 u154 u155 u156 u157 u158 u159 u160 u161 u162 u163 u164 u165 u166 u167 u168 u169 u170 u171 u172 u173 u174 u175 u176 u177 u178 u179 u180 u181 u182 u183 u184 u185 u186 u187 u188 u189 u190 u191 u192 u193 u194 u195 u196 u197 u198 u199 u200 u201 u202 u203 u204 u205 u206 u207 u208 u209 u210 u211 u212 u213 u214 : Value, (Hid (BkW w w' ⟨H, A, G, R, S, B, T⟩ k ln kd rs s ⟨l, j, xc, m, xa, p, fd, tl, cy⟩) ∧ Hid (MuAt w' X (mL lx))) ∧ a' = (⟨List.toArray (x0 :: x1 :: x2 :: x3 :: x4 :: x5 :: x6 :: x7 :: x8 :: x9 :: x10 :: (.slice (some ⟨S, 0, none⟩) k k) :: x12 :: x13 :: x14 :: (.int .i64 (q : Int)) :: x16 :: x17 :: x18 :: x19 :: (.pointer (some ⟨X, 0, none⟩)) :: x21 :: x22 :: x23 :: x24 :: x25 :: x26 :: x27 :: x28 :: x29 :: x30 :: x31 :: x32 :: x33 :: x34 :: x35 :: x36 :: x37 :: x38 :: x39 :: x40 :: x41 :: x42 :: x43 :: x44 :: x45 :: x46 :: x47 :: x48 :: x49 :: x50 :: x51 :: x52 :: x53 :: x54 :: x55 :: x56 :: x57 :: u58 :: u59 :: u60 :: u61 :: u62 :: u63 :: u64 :: u65 :: u66 :: u67 :: u68 :: u69 :: u70 :: u71 :: u72 :: u73 :: u74 :: u75 :: u76 :: u77 :: u78 :: u79 :: u80 :: u81 :: u82 :: u83 :: u84 :: u85 :: u86 :: u87 :: u88 :: u89 :: u90 :: u91 :: u92 :: u93 :: u94 :: u95 :: u96 :: u97 :: u98 :: u99 :: u100 :: u101 :: u102 :: u103 :: u104 :: u105 :: u106 :: u107 :: u108 :: u109 :: u110 :: u111 :: u112 :: u113 :: u114 :: u115 :: u116 :: u117 :: u118 :: u119 :: u120 :: u121 :: u122 :: u123 :: u124 :: u125 :: u126 :: u127 :: u128 :: u129 :: u130 :: u131 :: u132 :: u133 :: u134 :: u135 :: u136 :: u137 :: u138 :: u139 :: u140 :: u141 :: u142 :: u143 :: u144 :: u145 :: u146 :: u147 :: u148 :: u149 :: u150 :: u151 :: u152 :: u153 :: u154 :: u155 :: u156 :: u157 :: u158 :: u159 :: u160 :: u161 :: u162 :: u163 :: u164 :: u165 :: u166 :: u167 :: u168 :: u169 :: u170 :: u171 :: u172 :: u173 :: u174 :: u175 :: u176 :: u177 :: u178 :: u179 :: u180 :: u181 :: u182 :: u183 :: u184 :: u185 :: u186 :: u187 :: u188 :: u189 :: u190 :: u191 :: u192 :: u193 :: u194 :: u195 :: u196 :: u197 :: u198 :: u199 :: u200 :: u201 :: u202 :: u203 :: u204 :: u205 :: u206 :: u207 :: u208 :: u209 :: u210 :: u211 :: u212 :: u213 :: u214 :: []), []⟩ : Act)) → J a' w') (hK' : ∀ (a' : Act) (w' : World), Met J a' w' → K' a' w') :
    Code.wp Tryd.prog bkBlk (Exit.then K' Q') ⟨List.toArray (x0 :: x1 :: x2 :: x3 :: x4 :: x5 :: x6 :: x7 :: x8 :: x9 :: x10 :: (.slice (some ⟨S, 0, none⟩) k k) :: x12 :: x13 :: x14 :: (.int .i64 (q : Int)) :: x16 :: x17 :: x18 :: x19 :: (.pointer (some ⟨X, 0, none⟩)) :: x21 :: x22 :: x23 :: x24 :: x25 :: x26 :: x27 :: x28 :: x29 :: x30 :: x31 :: x32 :: x33 :: x34 :: x35 :: x36 :: x37 :: x38 :: x39 :: x40 :: x41 :: x42 :: x43 :: x44 :: x45 :: x46 :: x47 :: x48 :: x49 :: x50 :: x51 :: x52 :: x53 :: x54 :: x55 :: x56 :: x57 :: x58 :: x59 :: x60 :: x61 :: x62 :: x63 :: x64 :: x65 :: x66 :: x67 :: x68 :: x69 :: x70 :: x71 :: x72 :: x73 :: x74 :: x75 :: x76 :: x77 :: x78 :: x79 :: x80 :: x81 :: x82 :: x83 :: x84 :: x85 :: x86 :: x87 :: x88 :: x89 :: x90 :: x91 :: x92 :: x93 :: x94 :: x95 :: x96 :: x97 :: x98 :: x99 :: x100 :: x101 :: x102 :: x103 :: x104 :: x105 :: x106 :: x107 :: x108 :: x109 :: x110 :: x111 :: x112 :: x113 :: x114 :: x115 :: x116 :: x117 :: x118 :: x119 :: x120 :: x121 :: x122 :: x123 :: x124 :: x125 :: x126 :: x127 :: x128 :: x129 :: x130 :: x131 :: x132 :: x133 :: x134 :: x135 :: x136 :: x137 :: x138 :: x139 :: x140 :: x141 :: x142 :: x143 :: x144 :: x145 :: x146 :: x147 :: x148 :: x149 :: x150 :: x151 :: x152 :: x153 :: x154 :: x155 :: x156 :: x157 :: x158 :: x159 :: x160 :: x161 :: x162 :: x163 :: x164 :: x165 :: x166 :: x167 :: x168 :: x169 :: x170 :: x171 :: x172 :: x173 :: x174 :: x175 :: x176 :: x177 :: x178 :: x179 :: x180 :: x181 :: x182 :: x183 :: x184 :: x185 :: x186 :: x187 :: x188 :: x189 :: x190 :: x191 :: x192 :: x193 :: x194 :: x195 :: x196 :: x197 :: x198 :: x199 :: x200 :: x201 :: x202 :: x203 :: x204 :: x205 :: x206 :: x207 :: x208 :: x209 :: x210 :: x211 :: x212 :: x213 :: x214 :: []), []⟩ V := by
  have HBG := Lib.hid (gBegin_c 11 0 0 0)
  unfold bkBlk
  conv => arg 2; whnf
  by_cases hl : L = 0
  · subst hl
    obtain ⟨a0, a1, a2, a3, a4, a5, a6, a7, a8, a9, a10, a11, a12, af⟩ := HM0.out.cells
    go_wp2_with fail
    refine (HBG.out _).mono ?_
    rintro e V0 ⟨rfl, hb0⟩
    have HQ1 := Lib.hid (HQ0.out.below hb0)
    have HMa := Lib.hid (HM0.out.below hb0)
    clear hb0 HBG HM0 HQ0 a0 a1 a2 a3 a4 a5 a6 a7 a8 a9 a10 a11 a12 af
    obtain rfl : 1 = lx := hlx
    have HQ2 : Hid (BkW w _ ⟨H, A, G, R, S, B, T⟩ k ln kd rs s ⟨l, j, xc, m, xa, p, fd, tl, cy⟩) := Lib.hid (HQ1.out.other (fun j => j = X) (Sav.put13 (S := fun j => j = X) (Sav.of (Below.refl _ V0)) (.inl rfl) 1 0 0 11 0 0 0 0 0 0 0 0 0) (fun j hj e => hap.1 (e ▸ hj)) (fun j e => by have := hap.2; omega))
    have HM1 := Lib.hid (HMa.out.put 1 0 0 11 0 0 0 0 0 0 0 0 0)
    obtain ⟨b0, b1, b2, b3, b4, b5, b6, b7, b8, b9, b10, b11, b12, bf⟩ := HMa.out.cells
    clear HMa HQ1
    go_wp2_with fail
    go_meet
    case rel => exact ⟨HQ2, HM1⟩
  have hl0 : (L == 0) = false := by simpa using hl
  have hg0 : goL0 L = L := if_neg hl
  rw [hg0] at hlx
  rcases hkd with h | hkd
  · exact absurd h hl
  subst hkd
  obtain ⟨a0, a1, a2, a3, a4, a5, a6, a7, a8, a9, a10, a11, a12, af⟩ := HM0.out.cells
  by_cases h24 : L = 24
  · subst h24
    obtain rfl : 90 = lx := hlx
    have cr := HQ0.out.rest.cell hm
    have crf := HQ0.out.rest.frozen q
    dsimp only at cr crf
    have hrq := HRS.out q
    by_cases hr0 : 0 < rs q
    · exact absurd ⟨rfl, hr0⟩ hnr
    · have d0 : decide (0 < rs q) = false := decide_eq_false hr0
      have HQ2 : Hid (BkW w _ ⟨H, A, G, R, S, B, T⟩ k ln kd rs s ⟨l, j, xc, m, xa, p, fd, tl, cy⟩) := Lib.hid (HQ0.out.other (fun j => j = X) (Sav.set (S := fun j => j = X) (Sav.of (Below.refl _ V)) (p := ⟨X, 0, none⟩) (.inl rfl) (.int .i64 90)) (fun j hj e => hap.1 (e ▸ hj)) (fun j e => by have := hap.2; omega))
      have HM2 := Lib.hid (HM0.out.setL 90)
      generalize rs q = rq at cr d0
      clear HBG hr0 hrq
      go_wp2_with fail
      go_meet
      case rel => exact ⟨HQ2, HM2⟩
  have hl1 : (L == 24) = false := by simpa using h24
  have hg1 : L = lx := by rw [← hlx]; exact (if_neg h24).symm
  subst hg1
  clear HBG
  go_wp2_with fail
  go_meet
  case rel => exact ⟨HQ0, HM0⟩
end Go.Proofs.YtjmbahdlgnobaaaDoor
