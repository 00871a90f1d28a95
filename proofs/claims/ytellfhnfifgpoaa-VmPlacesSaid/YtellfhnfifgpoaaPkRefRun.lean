/-
  DERIVED. THE WALK of the document's Run (azulejoref07.Run). · The document's Run, of a program that Check allows.
-/
import Derived.Test.YtellfhnfifgpoaaPkRndA
import Derived.Test.YtellfhnfifgpoaaPkRndB
import Derived.Test.YtellfhnfifgpoaaPkRnd0
import Derived.Test.YtellfhnfifgpoaaPkRndC
import Derived.Test.YtellfhnfifgpoaaPkRndD
import Derived.Test.YtellfhnfifgpoaaPkRndE
namespace Go.Proofs.Ytellfhnfifgpoaa
open Go.RowKit
set_option linter.unusedVariables false

/-- what a call of the document's Run comes to -/
def RunC (vp : Value) (base sb : Nat) (p : List In) (i tp : Nat) : Prop := ∀ (s : St) (w : World), OwnR w base vp p → StAt w sb s → RB s.rs → 0 ≤ s.steps → (run p i tp s).steps ≤ 1000000000 →
  Calls Try.prog 14 #[vp, .pointer (some ⟨sb, 0, none⟩), .int .i64 (i : Int), .int .i64 (tp : Int)] w fun e w' => e = .returned (.tuple #[]) ∧ StAt w' sb (run p i tp s) ∧ Calm [sb] w w'
set_option maxRecDepth 100000 in
set_option maxHeartbeats 4000000 in
theorem rrun_gen (vp : Value) (base sb : Nat) (p : List In) (i tp : Nat) (hsd : ∀ x ∈ p, Sound x) (hlen : p.length ≤ 1000) (htp : tp ≤ p.length) (hi0 : i ≤ 2000) (hg : Good p i tp) (hsb : ∀ k, vp.ownBlock = some k → k ≠ sb)
    (IH : Flat p i tp ∨ ∀ i' tp', Flat p i' tp' → tp' ≤ p.length → i' ≤ 2000 → RunC vp base sb p i' tp') : RunC vp base sb p i tp := by
  intro s w hP hS hrb hst0 hst
  obtain ⟨ao, c, rfl, -, -⟩ := hP.slice
  have htpI : (tp : Int) ≤ 1000 := by omega
  have HST := Lib.hid hst
  have HIH := Lib.hid IH
  have HG := Lib.hid hg
  have HSD := Lib.hid hsd
  have HSB := Lib.hid hsb
  clear hst IH hg hsd hsb
  have HP := Lib.hid hP
  clear hP
  go_enter Try.func14, Try.ntmps14
  go_wp2_with fail
  go_loopg [8] (tp + 1 - i) (fun m iv wr => ∃ (j : Nat) (t : St), tp + 1 - j ≤ m ∧ i ≤ j ∧ j ≤ 34000 ∧ iv = .int .i64 (j : Int) ∧ StAt wr sb t ∧ RB t.rs ∧ 0 ≤ t.steps ∧ Calm [sb] w wr ∧ run p j tp t = run p i tp s)
  case atStart => exact ⟨i, s, by omega, by omega, by omega, rfl, hS, hrb, hst0, Calm.refl _ _, rfl⟩
  case round =>
    clear hS hrb hst0
    obtain ⟨j, t, hjm, hij, hj0, rfl, S1, rb1, st1, K1, hrun⟩ := hrel
    have HRUN := Lib.hid hrun
    have HS1 := Lib.hid S1
    have HK1 := Lib.hid K1
    have co := S1.over
    clear hrun S1 K1
    by_cases h1 : tp ≤ j
    · have he := Lib.hid (show run p i tp s = t by rw [← HRUN.out]; exact run_end (.inl h1))
      have hjI : ¬ (j : Int) < (tp : Int) := by omega
      go_wp2
      exact bodyPost_end (v := .tuple #[]) (by simp [results, Try.results14]) rfl ⟨rfl, by rw [he.out]; exact HS1.out, HK1.out⟩
    · have hj : j < tp := by omega
      have hjI : (j : Int) < (tp : Int) := by omega
      cases hov : t.over
      · rw [hov] at co
        have hjl : j < p.length := by omega
        have P1 := HP.out.calm HK1.out (fun k hk => by simpa using HSB.out k hk)
        obtain ⟨g, x, rfl, -, hx, d0, d1, d2, d3, d4⟩ := P1.nth j hjl
        have hSd := HSD.out _ (List.mem_of_getElem? hx)
        obtain ⟨hxo, s1, s2, s3, s4, s5, s6, s7⟩ := hSd
        obtain ⟨op, dst', a', b', imm⟩ := x
        have hxk := Lib.hid hxo
        unfold In.ok at hxo
        dsimp only at d0 d1 d2 d3 d4 hxo s1 s2 s3 s4 s5 s6 s7
        obtain ⟨dst, rfl⟩ : ∃ n : Nat, dst' = n := ⟨dst'.toNat, by omega⟩
        obtain ⟨a, rfl⟩ : ∃ n : Nat, a' = n := ⟨a'.toNat, by omega⟩
        obtain ⟨b, rfl⟩ : ∃ n : Nat, b' = n := ⟨b'.toNat, by omega⟩
        have HX := Lib.hid hx
        have hgj := Lib.hid (HG.out.mono hij)
        have hstT := Lib.hid (show (run p j tp t).steps ≤ 1000000000 by rw [HRUN.out]; exact HST.out)
        have hst9 := Int.le_trans (run_up p j tp t) hstT.out
        have hdst : dst ≤ 11 := by omega
        have ha : a ≤ 11 := by omega
        clear hx P1
        go_upto_block 1 with fail
        by_cases h12 : op = 12
        · subst h12
          have hgl := hgj.out j _ (Nat.le_refl _) hj HX.out rfl
          dsimp only at hgl
          rw [Int.toNat_natCast] at hgl
          have hloop := run_atLoop hgj.out hj hov HX.out rfl
          dsimp only at hloop
          rw [Int.toNat_natCast] at hloop
          have HL := Lib.hid hloop
          have HGL := Lib.hid hgl
          clear hloop hgl
          refine rr_body12 _ _ _ _ _ _ _ _ _ _ _ _ _ _ _ _ _ _ _ _ _ _ _ _ _ _ _ _ _ _ _ _ _ _ _ _ _ _ _ _ _ _ _ _ _ _ _ _ _ _ _ _ _ _ _ _ _ _ _ _ _ _ _ _ _ _ _ _ _ _ _ _ _ _ _ _ _ _ _ _ _ _ _ _ _ _ _ _ _ _ _ _ _ _ _ _ _ _ _ _ _ _ _ _ _ _ _ _ _ _ _ _ _ _ _ _ _ _ _ _ _ _ _ _ _ _ _ _ _ _ _ _ _ _ _ _ _ _ _ _ _ _ _ _ _ _ _ _ _ _ _ _ _ _ _ _ _ _ _ _ _ _ _ _ _ _ _ _ _ _ _ _ _ _ _ _ _ _ _ _ _ _ _ _ _ _ _ _ _ _ _ _ _ _ _ _ _ _ _ _ _ _ _ _ _ _ _ _ _ _ _ _ _ _ _ _ _ _ _ _ _ _ _ _ _ _ _ _ g p.length c sb dst a b imm j hjl (by omega) hxo.2.2.2.2 hdst ha wr t HS1.out rb1 ⟨st1, hst9⟩ d0 d1 d2 d3 d4 (by omega) (by omega) (run p (j + 1) (j + 1 + b)) (fun s hs => run_rbs (fun x hx => (HSD.out x hx).1) _ _ hs) (fun s => run_up _ _ _ s) ?_ ?_ ?_
          · refine Int.le_trans (run_up p (j + 1 + b) tp _) ?_
            rw [← HL.out]
            exact hstT.out
          · intro s' w' Ss rbs sts Ks bnd
            rcases HIH.out with hf | hf
            · exact absurd rfl (hf j _ hij hj HX.out)
            · have hc := hf (j + 1) (j + 1 + b) HGL.out.2 (by have := HGL.out.1; omega) (by omega) s' w' (HP.out.calm (HK1.out.trans Ks) (fun k hk => by simpa using HSB.out k hk)) Ss rbs sts bnd
              have e1 : ((j + 1 : Nat) : Int) = (j : Int) + 1 := by omega
              have e2 : ((j + 1 + b : Nat) : Int) = (j : Int) + 1 + (b : Int) := by omega
              rw [e1, e2] at hc
              exact hc
          · intro q0 q1 q2 q3 q4 q5 q6 q7 q8 q9 q10 q11 q12 q13 q14 q15 q16 q17 q18 q19 q20 q21 q22 q23 q24 q25 q26 q27 q28 q29 q30 q31 q32 q33 q34 q35 q36 q37 q38 q39 q40 q41 q42 q43 q44 q45 q46 q47 q48 q49 q50 q51 q52 q53 q54 q55 q56 q57 q58 q59 q60 q61 q62 q63 q64 q65 q66 q67 q68 q69 q70 q71 q72 q73 q74 q75 q76 q77 q78 q79 q80 q81 q82 q83 q84 q85 q86 q87 q88 q89 q90 q91 q92 q93 q94 q95 q96 q97 q98 q99 q100 q101 q102 q103 q104 q105 q106 q107 q108 q109 q110 q111 q112 q113 q114 q115 q116 q117 q118 q119 q120 q121 q122 q123 q124 q125 q126 q127 q128 q129 q130 q131 q132 q133 q134 q135 q136 q137 q138 q139 q140 q141 q142 q143 q144 q145 q146 q147 q148 q149 q150 q151 q152 q153 q154 q155 q156 q157 q158 q159 q160 q161 q162 q163 q164 q165 q166 q167 q168 q169 q170 q171 q172 q173 q174 q175 q176 q177 q178 q179 q180 q181 q182 q183 q184 q185 q186 q187 q188 q189 q190 q191 q192 q193 q194 q195 q196 q197 q198 q199 q200 q201 q202 q203 q204 q205 q206 q207 q208 q209 q210 wx nx u hu
            obtain ⟨⟨rfl, rfl⟩, Su, Ku⟩ := hu
            have HSu := Lib.hid Su
            have HKu := Lib.hid (HK1.out.trans Ku)
            have hle := HGL.out.1
            clear Su Ku d0 d1 d2 d3 d4
            go_wp2
            go_roundg (gk - 1)
            case measure => omega
            case rel => exact ⟨j + 1 + b, _, by omega, by omega, by omega, by push_cast; rfl, HSu.out, iter_rb (fun s hs => run_rbs (fun x hx => (HSD.out x hx).1) _ _ hs) _ _ rb1, Int.le_trans (by show 0 ≤ t.steps + 1; omega) (iter_up (fun s => run_up _ _ _ s) _ t.tick), HKu.out, by rw [← HRUN.out]; exact HL.out.symm⟩
        · by_cases hA : op = 1 ∨ op = 2 ∨ op = 8 ∨ op = 9 ∨ op = 10 ∨ op = 14
          · refine rr_bodyA _ _ _ _ _ _ _ _ _ _ _ _ _ _ _ _ _ _ _ _ _ _ _ _ _ _ _ _ _ _ _ _ _ _ _ _ _ _ _ _ _ _ _ _ _ _ _ _ _ _ _ _ _ _ _ _ _ _ _ _ _ _ _ _ _ _ _ _ _ _ _ _ _ _ _ _ _ _ _ _ _ _ _ _ _ _ _ _ _ _ _ _ _ _ _ _ _ _ _ _ _ _ _ _ _ _ _ _ _ _ _ _ _ _ _ _ _ _ _ _ _ _ _ _ _ _ _ _ _ _ _ _ _ _ _ _ _ _ _ _ _ _ _ _ _ _ _ _ _ _ _ _ _ _ _ _ _ _ _ _ _ _ _ _ _ _ _ _ _ _ _ _ _ _ _ _ _ _ _ _ _ _ _ _ _ _ _ _ _ _ _ _ _ _ _ _ _ _ _ _ _ _ _ _ _ _ _ _ _ _ _ _ _ _ _ _ _ _ _ _ _ _ _ _ _ _ _ _ g p.length c sb op dst a b imm j hjl (by omega) hxo.2.2.2.2 hdst ha wr t HS1.out rb1 ⟨st1, hst9⟩ d0 d1 d2 d3 d4 (by omega) hA (by omega) ?_
            intro q0 q1 q2 q3 q4 q5 q6 q7 q8 q9 q10 q11 q12 q13 q14 q15 q16 q17 q18 q19 q20 q21 q22 q23 q24 q25 q26 q27 q28 q29 q30 q31 q32 q33 q34 q35 q36 q37 q38 q39 q40 q41 q42 q43 q44 q45 q46 q47 q48 q49 q50 q51 q52 q53 q54 q55 q56 q57 q58 q59 q60 q61 q62 q63 q64 q65 q66 q67 q68 q69 q70 q71 q72 q73 q74 q75 q76 q77 q78 q79 q80 q81 q82 q83 q84 q85 q86 q87 q88 q89 q90 q91 q92 q93 q94 q95 q96 q97 q98 q99 q100 q101 q102 q103 q104 q105 q106 q107 q108 q109 q110 q111 q112 q113 q114 q115 q116 q117 q118 q119 q120 q121 q122 q123 q124 q125 q126 q127 q128 q129 q130 q131 q132 q133 q134 q135 q136 q137 q138 q139 q140 q141 q142 q143 q144 q145 q146 q147 q148 q149 q150 q151 q152 q153 q154 q155 q156 q157 q158 q159 q160 q161 q162 q163 q164 q165 q166 q167 q168 q169 q170 q171 q172 q173 q174 q175 q176 q177 q178 q179 q180 q181 q182 q183 q184 q185 q186 q187 q188 q189 q190 q191 q192 q193 q194 q195 q196 q197 q198 q199 q200 q201 q202 q203 q204 q205 q206 q207 q208 q209 q210 wx nx u hu
            obtain ⟨⟨hn, rfl, rfl⟩, Su, Ku⟩ := hu
            have HSu := Lib.hid Su
            have HKu := Lib.hid (HK1.out.trans Ku)
            clear Su Ku d0 d1 d2 d3 d4
            go_wp2
            go_roundg (gk - 1)
            case measure => omega
            case rel => exact ⟨j + 1, _, by omega, by omega, by omega, by push_cast; rfl, HSu.out, exec_rb hxk.out rb1, by rw [exec_steps]; omega, HKu.out, by rw [← HRUN.out]; exact (run_atStep hgj.out hj hov HX.out (by simp only; omega) (by simpa using hn)).symm⟩
          · by_cases hB : 3 ≤ op ∧ op ≤ 7
            · refine rr_bodyB _ _ _ _ _ _ _ _ _ _ _ _ _ _ _ _ _ _ _ _ _ _ _ _ _ _ _ _ _ _ _ _ _ _ _ _ _ _ _ _ _ _ _ _ _ _ _ _ _ _ _ _ _ _ _ _ _ _ _ _ _ _ _ _ _ _ _ _ _ _ _ _ _ _ _ _ _ _ _ _ _ _ _ _ _ _ _ _ _ _ _ _ _ _ _ _ _ _ _ _ _ _ _ _ _ _ _ _ _ _ _ _ _ _ _ _ _ _ _ _ _ _ _ _ _ _ _ _ _ _ _ _ _ _ _ _ _ _ _ _ _ _ _ _ _ _ _ _ _ _ _ _ _ _ _ _ _ _ _ _ _ _ _ _ _ _ _ _ _ _ _ _ _ _ _ _ _ _ _ _ _ _ _ _ _ _ _ _ _ _ _ _ _ _ _ _ _ _ _ _ _ _ _ _ _ _ _ _ _ _ _ _ _ _ _ _ _ _ _ _ _ _ _ _ _ _ _ _ g p.length c sb op dst a b imm j hjl (by omega) hxo.2.2.2.2 hdst ha wr t HS1.out rb1 ⟨st1, hst9⟩ d0 d1 d2 d3 d4 (by omega) hB ?_
              intro q0 q1 q2 q3 q4 q5 q6 q7 q8 q9 q10 q11 q12 q13 q14 q15 q16 q17 q18 q19 q20 q21 q22 q23 q24 q25 q26 q27 q28 q29 q30 q31 q32 q33 q34 q35 q36 q37 q38 q39 q40 q41 q42 q43 q44 q45 q46 q47 q48 q49 q50 q51 q52 q53 q54 q55 q56 q57 q58 q59 q60 q61 q62 q63 q64 q65 q66 q67 q68 q69 q70 q71 q72 q73 q74 q75 q76 q77 q78 q79 q80 q81 q82 q83 q84 q85 q86 q87 q88 q89 q90 q91 q92 q93 q94 q95 q96 q97 q98 q99 q100 q101 q102 q103 q104 q105 q106 q107 q108 q109 q110 q111 q112 q113 q114 q115 q116 q117 q118 q119 q120 q121 q122 q123 q124 q125 q126 q127 q128 q129 q130 q131 q132 q133 q134 q135 q136 q137 q138 q139 q140 q141 q142 q143 q144 q145 q146 q147 q148 q149 q150 q151 q152 q153 q154 q155 q156 q157 q158 q159 q160 q161 q162 q163 q164 q165 q166 q167 q168 q169 q170 q171 q172 q173 q174 q175 q176 q177 q178 q179 q180 q181 q182 q183 q184 q185 q186 q187 q188 q189 q190 q191 q192 q193 q194 q195 q196 q197 q198 q199 q200 q201 q202 q203 q204 q205 q206 q207 q208 q209 q210 wx nx u hu
              obtain ⟨⟨hn, rfl, rfl⟩, Su, Ku⟩ := hu
              have HSu := Lib.hid Su
              have HKu := Lib.hid (HK1.out.trans Ku)
              clear Su Ku d0 d1 d2 d3 d4
              go_wp2
              go_roundg (gk - 1)
              case measure => omega
              case rel => exact ⟨j + 1, _, by omega, by omega, by omega, by push_cast; rfl, HSu.out, exec_rb hxk.out rb1, by rw [exec_steps]; omega, HKu.out, by rw [← HRUN.out]; exact (run_atStep hgj.out hj hov HX.out (by simp only; omega) (by simpa using hn)).symm⟩
            · have hC : op = 0 ∨ op = 11 ∨ op = 13 := by omega
              rcases hC with rfl | rfl | rfl
              · refine rr_body0 _ _ _ _ _ _ _ _ _ _ _ _ _ _ _ _ _ _ _ _ _ _ _ _ _ _ _ _ _ _ _ _ _ _ _ _ _ _ _ _ _ _ _ _ _ _ _ _ _ _ _ _ _ _ _ _ _ _ _ _ _ _ _ _ _ _ _ _ _ _ _ _ _ _ _ _ _ _ _ _ _ _ _ _ _ _ _ _ _ _ _ _ _ _ _ _ _ _ _ _ _ _ _ _ _ _ _ _ _ _ _ _ _ _ _ _ _ _ _ _ _ _ _ _ _ _ _ _ _ _ _ _ _ _ _ _ _ _ _ _ _ _ _ _ _ _ _ _ _ _ _ _ _ _ _ _ _ _ _ _ _ _ _ _ _ _ _ _ _ _ _ _ _ _ _ _ _ _ _ _ _ _ _ _ _ _ _ _ _ _ _ _ _ _ _ _ _ _ _ _ _ _ _ _ _ _ _ _ _ _ _ _ _ _ _ _ _ _ _ _ _ _ _ _ _ _ _ _ g p.length c sb dst a b imm j hjl (by omega) hxo.2.2.2.2 hdst ha wr t HS1.out rb1 ⟨st1, hst9⟩ d0 d1 d2 d3 d4 (by omega) ?_
                intro q0 q1 q2 q3 q4 q5 q6 q7 q8 q9 q10 q11 q12 q13 q14 q15 q16 q17 q18 q19 q20 q21 q22 q23 q24 q25 q26 q27 q28 q29 q30 q31 q32 q33 q34 q35 q36 q37 q38 q39 q40 q41 q42 q43 q44 q45 q46 q47 q48 q49 q50 q51 q52 q53 q54 q55 q56 q57 q58 q59 q60 q61 q62 q63 q64 q65 q66 q67 q68 q69 q70 q71 q72 q73 q74 q75 q76 q77 q78 q79 q80 q81 q82 q83 q84 q85 q86 q87 q88 q89 q90 q91 q92 q93 q94 q95 q96 q97 q98 q99 q100 q101 q102 q103 q104 q105 q106 q107 q108 q109 q110 q111 q112 q113 q114 q115 q116 q117 q118 q119 q120 q121 q122 q123 q124 q125 q126 q127 q128 q129 q130 q131 q132 q133 q134 q135 q136 q137 q138 q139 q140 q141 q142 q143 q144 q145 q146 q147 q148 q149 q150 q151 q152 q153 q154 q155 q156 q157 q158 q159 q160 q161 q162 q163 q164 q165 q166 q167 q168 q169 q170 q171 q172 q173 q174 q175 q176 q177 q178 q179 q180 q181 q182 q183 q184 q185 q186 q187 q188 q189 q190 q191 q192 q193 q194 q195 q196 q197 q198 q199 q200 q201 q202 q203 q204 q205 q206 q207 q208 q209 q210 wx nx u hu
                obtain ⟨⟨hn, rfl, rfl⟩, Su, Ku⟩ := hu
                have HSu := Lib.hid Su
                have HKu := Lib.hid (HK1.out.trans Ku)
                clear Su Ku d0 d1 d2 d3 d4
                go_wp2
                go_roundg (gk - 1)
                case measure => omega
                case rel => exact ⟨j + 1, _, by omega, by omega, by omega, by push_cast; rfl, HSu.out, exec_rb hxk.out rb1, by rw [exec_steps]; omega, HKu.out, by rw [← HRUN.out]; exact (run_atStep hgj.out hj hov HX.out (by simp only; omega) (by simp)).symm⟩
              · refine rr_body11 _ _ _ _ _ _ _ _ _ _ _ _ _ _ _ _ _ _ _ _ _ _ _ _ _ _ _ _ _ _ _ _ _ _ _ _ _ _ _ _ _ _ _ _ _ _ _ _ _ _ _ _ _ _ _ _ _ _ _ _ _ _ _ _ _ _ _ _ _ _ _ _ _ _ _ _ _ _ _ _ _ _ _ _ _ _ _ _ _ _ _ _ _ _ _ _ _ _ _ _ _ _ _ _ _ _ _ _ _ _ _ _ _ _ _ _ _ _ _ _ _ _ _ _ _ _ _ _ _ _ _ _ _ _ _ _ _ _ _ _ _ _ _ _ _ _ _ _ _ _ _ _ _ _ _ _ _ _ _ _ _ _ _ _ _ _ _ _ _ _ _ _ _ _ _ _ _ _ _ _ _ _ _ _ _ _ _ _ _ _ _ _ _ _ _ _ _ _ _ _ _ _ _ _ _ _ _ _ _ _ _ _ _ _ _ _ _ _ _ _ _ _ _ _ _ _ _ _ g p.length c sb dst a b imm j hjl (by omega) hxo.2.2.2.2 hdst ha wr t HS1.out rb1 ⟨st1, hst9⟩ d0 d1 d2 d3 d4 (by omega) (by omega) ?_
                intro q0 q1 q2 q3 q4 q5 q6 q7 q8 q9 q10 q11 q12 q13 q14 q15 q16 q17 q18 q19 q20 q21 q22 q23 q24 q25 q26 q27 q28 q29 q30 q31 q32 q33 q34 q35 q36 q37 q38 q39 q40 q41 q42 q43 q44 q45 q46 q47 q48 q49 q50 q51 q52 q53 q54 q55 q56 q57 q58 q59 q60 q61 q62 q63 q64 q65 q66 q67 q68 q69 q70 q71 q72 q73 q74 q75 q76 q77 q78 q79 q80 q81 q82 q83 q84 q85 q86 q87 q88 q89 q90 q91 q92 q93 q94 q95 q96 q97 q98 q99 q100 q101 q102 q103 q104 q105 q106 q107 q108 q109 q110 q111 q112 q113 q114 q115 q116 q117 q118 q119 q120 q121 q122 q123 q124 q125 q126 q127 q128 q129 q130 q131 q132 q133 q134 q135 q136 q137 q138 q139 q140 q141 q142 q143 q144 q145 q146 q147 q148 q149 q150 q151 q152 q153 q154 q155 q156 q157 q158 q159 q160 q161 q162 q163 q164 q165 q166 q167 q168 q169 q170 q171 q172 q173 q174 q175 q176 q177 q178 q179 q180 q181 q182 q183 q184 q185 q186 q187 q188 q189 q190 q191 q192 q193 q194 q195 q196 q197 q198 q199 q200 q201 q202 q203 q204 q205 q206 q207 q208 q209 q210 wx nx u hu
                obtain ⟨hw, Su, Ku⟩ := hu
                have HSu := Lib.hid Su
                have HKu := Lib.hid (HK1.out.trans Ku)
                have HW := Lib.hid hw
                have hnx : j + 1 ≤ nx ∧ nx ≤ j + 1 + 32767 := by
                  rcases hw with ⟨-, -, rfl⟩ | ⟨-, -, rfl⟩
                  · omega
                  · omega
                have hru := Lib.hid (show run p nx tp u = run p i tp s by
                  rw [← HRUN.out]
                  rcases hw with ⟨h1, rfl, rfl⟩ | ⟨h1, rfl, rfl⟩
                  · have := run_atSkip hgj.out hj hov HX.out rfl (by simpa using h1.2)
                    simpa using this.symm
                  · exact (run_atStep hgj.out hj hov HX.out (by simp) (by simpa using h1)).symm)
                have hrb : RB u.rs := by
                  rcases hw with ⟨-, rfl, -⟩ | ⟨-, rfl, -⟩
                  · exact rb1
                  · exact exec_rb hxk.out rb1
                have hsu : 0 ≤ u.steps := by
                  rcases hw with ⟨-, rfl, -⟩ | ⟨-, rfl, -⟩
                  · show 0 ≤ t.steps + 1
                    omega
                  · rw [exec_steps]; omega
                clear Su Ku d0 d1 d2 d3 d4 hw
                go_wp2
                go_roundg (gk - 1)
                case measure => omega
                case rel => exact ⟨nx, u, by omega, by omega, by omega, rfl, HSu.out, hrb, hsu, HKu.out, hru.out⟩
              · refine rr_body13 _ _ _ _ _ _ _ _ _ _ _ _ _ _ _ _ _ _ _ _ _ _ _ _ _ _ _ _ _ _ _ _ _ _ _ _ _ _ _ _ _ _ _ _ _ _ _ _ _ _ _ _ _ _ _ _ _ _ _ _ _ _ _ _ _ _ _ _ _ _ _ _ _ _ _ _ _ _ _ _ _ _ _ _ _ _ _ _ _ _ _ _ _ _ _ _ _ _ _ _ _ _ _ _ _ _ _ _ _ _ _ _ _ _ _ _ _ _ _ _ _ _ _ _ _ _ _ _ _ _ _ _ _ _ _ _ _ _ _ _ _ _ _ _ _ _ _ _ _ _ _ _ _ _ _ _ _ _ _ _ _ _ _ _ _ _ _ _ _ _ _ _ _ _ _ _ _ _ _ _ _ _ _ _ _ _ _ _ _ _ _ _ _ _ _ _ _ _ _ _ _ _ _ _ _ _ _ _ _ _ _ _ _ _ _ _ _ _ _ _ _ _ _ _ _ _ _ _ g p.length c sb dst a b imm j hjl (by omega) hxo.2.2.2.2 hdst ha wr t HS1.out rb1 ⟨st1, hst9⟩ d0 d1 d2 d3 d4 (by omega) ?_
                intro q0 q1 q2 q3 q4 q5 q6 q7 q8 q9 q10 q11 q12 q13 q14 q15 q16 q17 q18 q19 q20 q21 q22 q23 q24 q25 q26 q27 q28 q29 q30 q31 q32 q33 q34 q35 q36 q37 q38 q39 q40 q41 q42 q43 q44 q45 q46 q47 q48 q49 q50 q51 q52 q53 q54 q55 q56 q57 q58 q59 q60 q61 q62 q63 q64 q65 q66 q67 q68 q69 q70 q71 q72 q73 q74 q75 q76 q77 q78 q79 q80 q81 q82 q83 q84 q85 q86 q87 q88 q89 q90 q91 q92 q93 q94 q95 q96 q97 q98 q99 q100 q101 q102 q103 q104 q105 q106 q107 q108 q109 q110 q111 q112 q113 q114 q115 q116 q117 q118 q119 q120 q121 q122 q123 q124 q125 q126 q127 q128 q129 q130 q131 q132 q133 q134 q135 q136 q137 q138 q139 q140 q141 q142 q143 q144 q145 q146 q147 q148 q149 q150 q151 q152 q153 q154 q155 q156 q157 q158 q159 q160 q161 q162 q163 q164 q165 q166 q167 q168 q169 q170 q171 q172 q173 q174 q175 q176 q177 q178 q179 q180 q181 q182 q183 q184 q185 q186 q187 q188 q189 q190 q191 q192 q193 q194 q195 q196 q197 q198 q199 q200 q201 q202 q203 q204 q205 q206 q207 q208 q209 q210 wx nx u hu
                obtain ⟨⟨hn, rfl, rfl⟩, Su, Ku⟩ := hu
                have HSu := Lib.hid Su
                have HKu := Lib.hid (HK1.out.trans Ku)
                clear Su Ku d0 d1 d2 d3 d4
                go_wp2
                go_roundg (gk - 1)
                case measure => omega
                case rel => exact ⟨j + 1, _, by omega, by omega, by omega, by push_cast; rfl, HSu.out, exec_rb hxk.out rb1, by rw [exec_steps]; omega, HKu.out, by rw [← HRUN.out]; exact (run_atStep hgj.out hj hov HX.out (by simp only; omega) (by simp)).symm⟩
      · have he := Lib.hid (show run p i tp s = t by rw [← HRUN.out]; exact run_end (.inr hov))
        rw [hov] at co
        go_wp2
        exact bodyPost_end (v := .tuple #[]) (by simp [results, Try.results14]) rfl ⟨rfl, by rw [he.out]; exact HS1.out, HK1.out⟩
/-- the document's Run, of a program that may be -/
theorem rrun_any (vp : Value) (base sb : Nat) (p : List In) (hsd : ∀ x ∈ p, Sound x) (hlen : p.length ≤ 1000) (hg : Good p 0 p.length) (hsb : ∀ k, vp.ownBlock = some k → k ≠ sb) : RunC vp base sb p 0 p.length :=
  rrun_gen vp base sb p 0 p.length hsd hlen (Nat.le_refl _) (by omega) hg hsb (.inr fun i' tp' hf htp hi => rrun_gen vp base sb p i' tp' hsd hlen htp hi hf.good hsb (.inl hf))
end Go.Proofs.Ytellfhnfifgpoaa

namespace Go.Proofs.Ytellfhnfifgpoaa
open Go.RowKit
set_option linter.unusedVariables false
/-- a program that Check allows: what the document's Run comes to -/
theorem rrun_valid {d : Bool} (vp : Value) (base sb : Nat) (p : List In) (hok : ∀ x ∈ p, x.ok) (hc : chk d p = 0) (hsb : ∀ k, vp.ownBlock = some k → k ≠ sb) (s : St) (w : World) (hP : OwnR w base vp p) (hS : StAt w sb s) (hrb : RB s.rs) (h0 : 0 ≤ s.steps) (h1 : s.steps ≤ 1000000) :
    Calls Try.prog 14 #[vp, .pointer (some ⟨sb, 0, none⟩), .int .i64 0, .int .i64 (p.length : Int)] w fun e w' => e = .returned (.tuple #[]) ∧ StAt w' sb (run p 0 p.length s) ∧ Calm [sb] w w' := by
  obtain ⟨hl, ha, hf⟩ := chk_zero hc
  have hb := run_fuel_bound hok ha (p.length - 0) s
  have := rrun_any vp base sb p (sound_of hok ha) (by omega) (good_of hok ha) hsb s w hP hS hrb h0 (by unfold run; omega)
  simpa using this
end Go.Proofs.Ytellfhnfifgpoaa

