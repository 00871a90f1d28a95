/-
  DERIVED. Regions 26 and 28 of the law StateAny, walked apart (made by mkstany.py).
-/
import Derived.Test.YtokekfjbliojhaaPkSm
namespace Go.Proofs.Ytokekfjbliojhaa
open Go.RowKit
set_option linter.unusedVariables false
set_option maxRecDepth 100000 in
set_option maxHeartbeats 4000000 in
theorem stany_r26 (f0 f1 f2 f3 f4 f5 f6 f7 f8 f10 f11 f12 f13 f14 f15 f16 f17 f18 f19 f20 f21 f22 f23 f24 f25 f26 f27 f28 f29 f30 f31 f32 f33 f34 f35 f36 f37 f38 f39 f40 f41 f42 f43 f44 f45 f46 f47 f48 f49 f50 f51 f52 f53 f54 f55 f56 f57 f58 f59 f60 f61 f62 f63 f64 f65 f66 f67 f68 f69 f70 f71 f72 f73 f74 f75 f76 f77 f78 f79 f80 f81 f82 f83 f84 f85 f86 f87 f88 f89 f90 f91 f92 f93 f94 f95 f96 f97 f98 f99 f100 f101 f102 f103 f104 f105 f106 f107 f108 f109 f110 f111 f112 f113 f114 f115 f116 f117 f118 f119 f120 f121 f122 f123 f124 f125 f126 f127 f128 f129 f130 f131 f132 f133 f134 f135 f136 f137 f138 f139 f140 f141 f142 f143 f144 f145 f146 f147 f148 f149 f150 f151 f152 f153 f154 f155 f156 f157 : Value) (b9 : Nat) (s : Stt) (w : World) (hB : Blk w b9 s.v 38) {Q : Exit → Act → World → Prop}
    (hQ : ∀ (c83 c84 c85 c86 c87 c88 c89 c90 c91 c92 c93 c94 c95 c96 c97 c98 c99 c100 c101 c102 c103 c104 c105 c106 c107 c108 c109 c110 c111 c112 c113 c114 c115 c116 c117 c118 c119 c120 : Value) (b : Bool), b = (!s.def) → Q .normal ⟨(f0 :: f1 :: f2 :: f3 :: f4 :: f5 :: f6 :: f7 :: f8 :: Value.pointer (some ⟨b9, 0, none⟩) :: f10 :: f11 :: f12 :: f13 :: f14 :: f15 :: f16 :: f17 :: f18 :: f19 :: f20 :: f21 :: f22 :: f23 :: f24 :: f25 :: f26 :: f27 :: f28 :: f29 :: f30 :: f31 :: f32 :: f33 :: f34 :: f35 :: f36 :: f37 :: f38 :: f39 :: f40 :: f41 :: f42 :: f43 :: f44 :: f45 :: f46 :: f47 :: f48 :: f49 :: f50 :: f51 :: f52 :: f53 :: f54 :: f55 :: f56 :: f57 :: f58 :: f59 :: f60 :: f61 :: f62 :: f63 :: f64 :: f65 :: f66 :: f67 :: f68 :: f69 :: f70 :: f71 :: f72 :: f73 :: f74 :: f75 :: f76 :: f77 :: f78 :: f79 :: f80 :: f81 :: Value.bool b :: c83 :: c84 :: c85 :: c86 :: c87 :: c88 :: c89 :: c90 :: c91 :: c92 :: c93 :: c94 :: c95 :: c96 :: c97 :: c98 :: c99 :: c100 :: c101 :: c102 :: c103 :: c104 :: c105 :: c106 :: c107 :: c108 :: c109 :: c110 :: c111 :: c112 :: c113 :: c114 :: c115 :: c116 :: c117 :: c118 :: c119 :: c120 :: f121 :: f122 :: f123 :: f124 :: f125 :: f126 :: f127 :: f128 :: f129 :: f130 :: f131 :: f132 :: f133 :: f134 :: f135 :: f136 :: f137 :: f138 :: f139 :: f140 :: f141 :: f142 :: f143 :: f144 :: f145 :: f146 :: f147 :: f148 :: f149 :: f150 :: f151 :: f152 :: f153 :: f154 :: f155 :: f156 :: f157 :: List.nil).toArray, []⟩ w) : Code.wp Try.prog (regionOf Try.f5 26) Q ⟨(f0 :: f1 :: f2 :: f3 :: f4 :: f5 :: f6 :: f7 :: f8 :: Value.pointer (some ⟨b9, 0, none⟩) :: f10 :: f11 :: f12 :: f13 :: f14 :: f15 :: f16 :: f17 :: f18 :: f19 :: f20 :: f21 :: f22 :: f23 :: f24 :: f25 :: f26 :: f27 :: f28 :: f29 :: f30 :: f31 :: f32 :: f33 :: f34 :: f35 :: f36 :: f37 :: f38 :: f39 :: f40 :: f41 :: f42 :: f43 :: f44 :: f45 :: f46 :: f47 :: f48 :: f49 :: f50 :: f51 :: f52 :: f53 :: f54 :: f55 :: f56 :: f57 :: f58 :: f59 :: f60 :: f61 :: f62 :: f63 :: f64 :: f65 :: f66 :: f67 :: f68 :: f69 :: f70 :: f71 :: f72 :: f73 :: f74 :: f75 :: f76 :: f77 :: f78 :: f79 :: f80 :: f81 :: f82 :: f83 :: f84 :: f85 :: f86 :: f87 :: f88 :: f89 :: f90 :: f91 :: f92 :: f93 :: f94 :: f95 :: f96 :: f97 :: f98 :: f99 :: f100 :: f101 :: f102 :: f103 :: f104 :: f105 :: f106 :: f107 :: f108 :: f109 :: f110 :: f111 :: f112 :: f113 :: f114 :: f115 :: f116 :: f117 :: f118 :: f119 :: f120 :: f121 :: f122 :: f123 :: f124 :: f125 :: f126 :: f127 :: f128 :: f129 :: f130 :: f131 :: f132 :: f133 :: f134 :: f135 :: f136 :: f137 :: f138 :: f139 :: f140 :: f141 :: f142 :: f143 :: f144 :: f145 :: f146 :: f147 :: f148 :: f149 :: f150 :: f151 :: f152 :: f153 :: f154 :: f155 :: f156 :: f157 :: List.nil).toArray, []⟩ w := by
  have HQ := Lib.hid hQ
  clear hQ
  change Code.wp Try.prog (Code.region _ _ false) _ _ _
  obtain ⟨dep, wr, ste, ref, msk, fai, hid, pas, ble, cha, cul, x0, y0, x1, y1⟩ := s
  unfold Stt.def at HQ
  dsimp only at HQ
  have cB := hB.cell
  by_cases g0 : 7 < dep
  · go_wp2
    exact HQ.out _ _ _ _ _ _ _ _ _ _ _ _ _ _ _ _ _ _ _ _ _ _ _ _ _ _ _ _ _ _ _ _ _ _ _ _ _ _ true (by simp <;> omega)
  · skip
    by_cases g1 : 7 < ste
    · go_wp2
      exact HQ.out _ _ _ _ _ _ _ _ _ _ _ _ _ _ _ _ _ _ _ _ _ _ _ _ _ _ _ _ _ _ _ _ _ _ _ _ _ _ true (by simp <;> omega)
    · skip
      by_cases g2 : 5 < fai
      · go_wp2
        exact HQ.out _ _ _ _ _ _ _ _ _ _ _ _ _ _ _ _ _ _ _ _ _ _ _ _ _ _ _ _ _ _ _ _ _ _ _ _ _ _ true (by simp <;> omega)
      · skip
        by_cases g3 : 5 < hid
        · go_wp2
          exact HQ.out _ _ _ _ _ _ _ _ _ _ _ _ _ _ _ _ _ _ _ _ _ _ _ _ _ _ _ _ _ _ _ _ _ _ _ _ _ _ true (by simp <;> omega)
        · skip
          by_cases g4 : 5 < pas
          · go_wp2
            exact HQ.out _ _ _ _ _ _ _ _ _ _ _ _ _ _ _ _ _ _ _ _ _ _ _ _ _ _ _ _ _ _ _ _ _ _ _ _ _ _ true (by simp <;> omega)
          · skip
            by_cases g5 : 3 < ble
            · go_wp2
              exact HQ.out _ _ _ _ _ _ _ _ _ _ _ _ _ _ _ _ _ _ _ _ _ _ _ _ _ _ _ _ _ _ _ _ _ _ _ _ _ _ true (by simp <;> omega)
            · skip
              by_cases g6 : 2 < cul
              · go_wp2
                exact HQ.out _ _ _ _ _ _ _ _ _ _ _ _ _ _ _ _ _ _ _ _ _ _ _ _ _ _ _ _ _ _ _ _ _ _ _ _ _ _ true (by simp <;> omega)
              · skip
                by_cases g7 : 15 < cha
                · go_wp2
                  exact HQ.out _ _ _ _ _ _ _ _ _ _ _ _ _ _ _ _ _ _ _ _ _ _ _ _ _ _ _ _ _ _ _ _ _ _ _ _ _ _ true (by simp <;> omega)
                · go_wp2
                  exact HQ.out _ _ _ _ _ _ _ _ _ _ _ _ _ _ _ _ _ _ _ _ _ _ _ _ _ _ _ _ _ _ _ _ _ _ _ _ _ _ false (by simp <;> omega)
set_option maxRecDepth 100000 in
set_option maxHeartbeats 4000000 in
theorem stany_r28 (f0 f1 f2 f3 f4 f5 f6 f7 f8 f9 f10 f11 f12 f13 f14 f15 f16 f17 f18 f20 f21 f22 f23 f24 f25 f26 f27 f28 f29 f30 f31 f32 f33 f34 f35 f36 f37 f38 f39 f40 f41 f42 f43 f44 f45 f46 f47 f48 f49 f50 f51 f52 f53 f54 f55 f56 f57 f58 f59 f60 f61 f62 f63 f64 f65 f66 f67 f68 f69 f70 f71 f72 f73 f74 f75 f76 f77 f78 f79 f80 f81 f82 f83 f84 f85 f86 f87 f88 f89 f90 f91 f92 f93 f94 f95 f96 f97 f98 f99 f100 f101 f102 f103 f104 f105 f106 f107 f108 f109 f110 f111 f112 f113 f114 f115 f116 f117 f118 f119 f120 f121 f122 f123 f124 f125 f126 f127 f128 f129 f130 f131 f132 f133 f134 f135 f136 f137 f138 f139 f140 f141 f142 f143 f144 f145 f146 f147 f148 f149 f150 f151 f152 f153 f154 f155 f156 f157 : Value) (b19 : Nat) (x0 y0 x1 y1 : Int) (w : World) (hB : Blk w b19 #[.int .i64 x0, .int .i64 y0, .int .i64 x1, .int .i64 y1] 36) {Q : Exit → Act → World → Prop}
    (hQ : ∀ (c122 c123 c124 c125 c126 c127 c128 c129 c130 c131 c132 c133 c134 c135 c136 c137 c138 c139 c140 c141 c142 c143 c144 c145 c146 c147 c148 c149 c150 c151 c152 c153 : Value) (b : Bool), b = (!(spansB x0 x1 && spansB y0 y1)) → Q .normal ⟨(f0 :: f1 :: f2 :: f3 :: f4 :: f5 :: f6 :: f7 :: f8 :: f9 :: f10 :: f11 :: f12 :: f13 :: f14 :: f15 :: f16 :: f17 :: f18 :: Value.pointer (some ⟨b19, 0, none⟩) :: f20 :: f21 :: f22 :: f23 :: f24 :: f25 :: f26 :: f27 :: f28 :: f29 :: f30 :: f31 :: f32 :: f33 :: f34 :: f35 :: f36 :: f37 :: f38 :: f39 :: f40 :: f41 :: f42 :: f43 :: f44 :: f45 :: f46 :: f47 :: f48 :: f49 :: f50 :: f51 :: f52 :: f53 :: f54 :: f55 :: f56 :: f57 :: f58 :: f59 :: f60 :: f61 :: f62 :: f63 :: f64 :: f65 :: f66 :: f67 :: f68 :: f69 :: f70 :: f71 :: f72 :: f73 :: f74 :: f75 :: f76 :: f77 :: f78 :: f79 :: f80 :: f81 :: f82 :: f83 :: f84 :: f85 :: f86 :: f87 :: f88 :: f89 :: f90 :: f91 :: f92 :: f93 :: f94 :: f95 :: f96 :: f97 :: f98 :: f99 :: f100 :: f101 :: f102 :: f103 :: f104 :: f105 :: f106 :: f107 :: f108 :: f109 :: f110 :: f111 :: f112 :: f113 :: f114 :: f115 :: f116 :: f117 :: f118 :: f119 :: f120 :: Value.bool b :: c122 :: c123 :: c124 :: c125 :: c126 :: c127 :: c128 :: c129 :: c130 :: c131 :: c132 :: c133 :: c134 :: c135 :: c136 :: c137 :: c138 :: c139 :: c140 :: c141 :: c142 :: c143 :: c144 :: c145 :: c146 :: c147 :: c148 :: c149 :: c150 :: c151 :: c152 :: c153 :: f154 :: f155 :: f156 :: f157 :: List.nil).toArray, []⟩ w) : Code.wp Try.prog (regionOf Try.f5 28) Q ⟨(f0 :: f1 :: f2 :: f3 :: f4 :: f5 :: f6 :: f7 :: f8 :: f9 :: f10 :: f11 :: f12 :: f13 :: f14 :: f15 :: f16 :: f17 :: f18 :: Value.pointer (some ⟨b19, 0, none⟩) :: f20 :: f21 :: f22 :: f23 :: f24 :: f25 :: f26 :: f27 :: f28 :: f29 :: f30 :: f31 :: f32 :: f33 :: f34 :: f35 :: f36 :: f37 :: f38 :: f39 :: f40 :: f41 :: f42 :: f43 :: f44 :: f45 :: f46 :: f47 :: f48 :: f49 :: f50 :: f51 :: f52 :: f53 :: f54 :: f55 :: f56 :: f57 :: f58 :: f59 :: f60 :: f61 :: f62 :: f63 :: f64 :: f65 :: f66 :: f67 :: f68 :: f69 :: f70 :: f71 :: f72 :: f73 :: f74 :: f75 :: f76 :: f77 :: f78 :: f79 :: f80 :: f81 :: f82 :: f83 :: f84 :: f85 :: f86 :: f87 :: f88 :: f89 :: f90 :: f91 :: f92 :: f93 :: f94 :: f95 :: f96 :: f97 :: f98 :: f99 :: f100 :: f101 :: f102 :: f103 :: f104 :: f105 :: f106 :: f107 :: f108 :: f109 :: f110 :: f111 :: f112 :: f113 :: f114 :: f115 :: f116 :: f117 :: f118 :: f119 :: f120 :: f121 :: f122 :: f123 :: f124 :: f125 :: f126 :: f127 :: f128 :: f129 :: f130 :: f131 :: f132 :: f133 :: f134 :: f135 :: f136 :: f137 :: f138 :: f139 :: f140 :: f141 :: f142 :: f143 :: f144 :: f145 :: f146 :: f147 :: f148 :: f149 :: f150 :: f151 :: f152 :: f153 :: f154 :: f155 :: f156 :: f157 :: List.nil).toArray, []⟩ w := by
  have HQ := Lib.hid hQ
  clear hQ
  change Code.wp Try.prog (Code.region _ _ false) _ _ _
  unfold spansB at HQ
  have cB := hB.cell
  by_cases g0 : x0 < 0
  · go_wp2
    exact HQ.out _ _ _ _ _ _ _ _ _ _ _ _ _ _ _ _ _ _ _ _ _ _ _ _ _ _ _ _ _ _ _ _ true (by simp <;> omega)
  · skip
    by_cases g1 : x1 < x0
    · go_wp2
      exact HQ.out _ _ _ _ _ _ _ _ _ _ _ _ _ _ _ _ _ _ _ _ _ _ _ _ _ _ _ _ _ _ _ _ true (by simp <;> omega)
    · skip
      by_cases g2 : 64 < x1
      · go_wp2
        exact HQ.out _ _ _ _ _ _ _ _ _ _ _ _ _ _ _ _ _ _ _ _ _ _ _ _ _ _ _ _ _ _ _ _ true (by simp <;> omega)
      · skip
        by_cases g3 : y0 < 0
        · go_wp2
          exact HQ.out _ _ _ _ _ _ _ _ _ _ _ _ _ _ _ _ _ _ _ _ _ _ _ _ _ _ _ _ _ _ _ _ true (by simp <;> omega)
        · skip
          by_cases g4 : y1 < y0
          · go_wp2
            exact HQ.out _ _ _ _ _ _ _ _ _ _ _ _ _ _ _ _ _ _ _ _ _ _ _ _ _ _ _ _ _ _ _ _ true (by simp <;> omega)
          · skip
            by_cases g5 : 64 < y1
            · go_wp2
              exact HQ.out _ _ _ _ _ _ _ _ _ _ _ _ _ _ _ _ _ _ _ _ _ _ _ _ _ _ _ _ _ _ _ _ true (by simp <;> omega)
            · go_wp2
              exact HQ.out _ _ _ _ _ _ _ _ _ _ _ _ _ _ _ _ _ _ _ _ _ _ _ _ _ _ _ _ _ _ _ _ false (by simp <;> omega)
end Go.Proofs.Ytokekfjbliojhaa

