/-
  DERIVED. THE WALK of the document's own sum (layer 5).
-/
import Derived.Test.YtjghfknpgnecgaaAppendZeros
namespace Go.Proofs.Ytjghfknpgnecgaa
open Go.RowKit
set_option linter.unusedVariables false

theorem bit_of (y : Int) (j : Nat) (hy : 0 ≤ y ∧ y ≤ 255) : y / 2 ^ j % 2 = b2i (y.toNat.testBit j) := by
  obtain ⟨d, rfl⟩ : ∃ d : Nat, y = d := ⟨y.toNat, by omega⟩
  rw [Int.toNat_natCast, Nat.testBit_eq_decide_div_mod_eq]
  have e : (d : Int) / 2 ^ j % 2 = ((d / 2 ^ j % 2 : Nat) : Int) := by
    rw [Int.natCast_emod, Int.natCast_ediv, Int.natCast_pow]
    rfl
  rw [e]
  by_cases h : d / 2 ^ j % 2 = 1
  · simp [h, b2i]
  · have h0 : d / 2 ^ j % 2 = 0 := by omega
    simp [h0, b2i]
theorem bit_tmod (y : Int) (j : Nat) (hy : 0 ≤ y ∧ y ≤ 255) : (y / 2 ^ j).tmod 2 = b2i (y.toNat.testBit j) := by
  rw [Int.tmod_eq_emod_of_nonneg (Int.ediv_nonneg hy.1 (Int.pow_nonneg (by omega))), bit_of y j hy]
theorem bitsOf_take (k n j : Nat) (h : j < k) : (bitsOf k n).take (j + 1) = (bitsOf k n).take j ++ [n.testBit (k - 1 - j)] := by
  rw [List.take_add_one, bitsOf_get k n j h]
  rfl
theorem bitsB_take (b : List Int) (i : Nat) (y : Int) (h : b[i]? = some y) : bitsB (b.take (i + 1)) = bitsB (b.take i) ++ bitsOf 8 y.toNat := by
  rw [List.take_add_one, h, bitsB_append]
  rfl

theorem Own.at {w : World} {base g c n : Nat} {L : List Int} (h : Own w base (.slice (some ⟨g, 0, none⟩) n c) L) (hn : n = L.length) {j : Nat} {y : Int} (hj : L[j]? = some y) : w.cell? ⟨g, j, none⟩ = some (.int .u8 y) := by
  subst hn
  exact h.cell j y hj
theorem Own.thaw {w : World} {base g c n : Nat} {L : List Int} (h : Own w base (.slice (some ⟨g, 0, none⟩) n c) L) (hn : n = L.length) (j : Nat) : w.frozen? ⟨g, j, none⟩ = false := by
  subst hn
  exact World.ownsRow.frozenAt h j
theorem Own.put {w : World} {base g c n : Nat} {L : List Int} (h : Own w base (.slice (some ⟨g, 0, none⟩) n c) L) (hn : n = L.length) (j : Nat) (y : Int) : Own (w.setCell ⟨g, j, none⟩ (.int .u8 y)) base (.slice (some ⟨g, 0, none⟩) n c) (L.set j y) := by
  subst hn
  have := (World.ownsRow.stored h j (.int .u8 y)).1
  unfold Own
  rw [List.length_set, show bytesV (L.set j y) = (bytesV L).set j (.int .u8 y) by unfold bytesV; rw [List.map_set]]
  exact this

def termC : Array Value := #[.int .i64 0, .int .i64 6, .int .i64 9, .int .i64 10, .int .i64 16, .int .i64 20, .int .i64 21, .int .i64 22, .int .i64 24, .int .i64 25, .int .i64 27, .int .i64 28, .int .i64 30, .int .i64 31, .int .i64 32]
theorem termC_get (k : Nat) (hk : k < 15) : termC[k]? = some (.int .i64 (term k)) := by
  match k, hk with
  | 0, _ => rfl
  | 1, _ => rfl
  | 2, _ => rfl
  | 3, _ => rfl
  | 4, _ => rfl
  | 5, _ => rfl
  | 6, _ => rfl
  | 7, _ => rfl
  | 8, _ => rfl
  | 9, _ => rfl
  | 10, _ => rfl
  | 11, _ => rfl
  | 12, _ => rfl
  | 13, _ => rfl
  | 14, _ => rfl
/-- where the division stands -/
structure Divs (b : List Int) (i : Nat) (L : List Bool) : Prop where
  len : L.length = 8 * b.length + 32
  reg : crcReg 0#32 L = crcIt 32 (crcReg ones (bitsB b))
  low : ∀ j, j < i → L.getD j false = false
theorem Divs.next {b : List Int} {i : Nat} {L : List Bool} (h : Divs b i L) (h0 : L.getD i false = false) : Divs b (i + 1) L :=
  ⟨h.len, h.reg, fun j hj => by
    by_cases e : j = i
    · rw [e, h0]
    · exact h.low j (by omega)⟩
theorem Divs.step {b : List Int} {i : Nat} {L : List Bool} (h : Divs b i L) (hi : i < 8 * b.length) (h1 : L.getD i false = true) : Divs b (i + 1) (flips L i 15) := by
  obtain ⟨a1, a2, a3⟩ := flips_all L i (by rw [h.len]; omega) h1 h.low
  exact ⟨a1.trans h.len, a2.trans h.reg, a3⟩

set_option maxHeartbeats 4000000 in
set_option maxRecDepth 100000 in
theorem rsum_any (w : World) (v : Value) (b : List Int) (h : Arr w .u8 v b) (hlen : b.length ≤ 200) :
    Calls Try.prog 8 #[v] w fun e w' => e = .returned (.int .u32 (bN (crcSum b))) ∧ Ext w w' := by
  have hb := h.bd
  have k0 := h
  obtain ⟨⟨ao, c, rfl, h1, h2, h3⟩, h4', h5⟩ := h
  clear h2 h3 h5 h4'
  have HB := Lib.hid hb
  clear hb
  go_enter Try.func8, Try.ntmps8
  go_wp2
  go_loopg [3, 4] b.length (fun gk lv iv wr => ∃ i : Nat, i + gk = b.length ∧ iv = .int .i64 i ∧ Own wr w.heap.size lv (bitV (bitsB (b.take i))) ∧ Ext w wr)
  case atStart => exact ⟨0, by omega, rfl, Own.nil _ _, Ext.refl _⟩
  case round =>
    obtain ⟨i, hik, rfl, oL, e1⟩ := hrel
    by_cases hi : i < b.length
    · obtain ⟨g, off, y, rfl, hy, hyb, hcell⟩ := k0.nth i hi
      go_wp2
      go_loopg [3, 5] 8 (fun gk2 lv kv wr => ∃ j : Nat, j + gk2 = 8 ∧ kv = .int .i64 (7 - (j : Int)) ∧ Own wr w.heap.size lv (bitV (bitsB (b.take i) ++ (bitsOf 8 y.toNat).take j)) ∧ Ext w wr)
      case atStart => exact ⟨0, by omega, rfl, by simpa using oL, e1⟩
      case round =>
        obtain ⟨j, hjk, rfl, oM, e2⟩ := hrel
        have hlb : (bitV (bitsB (b.take i) ++ (bitsOf 8 y.toNat).take j)).length = 8 * i + j := by
          rw [bitV_length, List.length_append, bitsB_length, List.length_take, List.length_take, bitsOf_length]
          omega
        clear oL e1
        by_cases hj : j < 8
        · have hbit := bit_tmod y (7 - j) hyb
          have ht := bitsOf_take 8 y.toNat j hj
          have hc2 := e2.old hcell
          obtain ⟨ao3, c3, rfl, -, -⟩ := oM.slice
          have z2 := e2.size
          have hsh : ((7 : Int) - (j : Int)).toNat = 7 - j := by omega
          have hO := oM.alloc (.cells #[.int .u8 (b2i (y.toNat.testBit (7 - j)))] 5)
          have hown : ∀ k, (Value.slice ao3 (bitV (bitsB (b.take i) ++ (bitsOf 8 y.toNat).take j)).length c3).ownBlock = some k → w.heap.size ≤ k := fun k hk => (oM.lt k hk).1
          generalize hLs : bitV (bitsB (b.take i) ++ (bitsOf 8 y.toNat).take j) = Ls at *
          have HL := Lib.hid hLs
          have HT := Lib.hid ht
          have hlm : Ls.length ≤ 2000 := by omega
          have HN := Lib.hid hlb
          clear hLs ht oM hlb
          go_wp2_with (at_builtin; refine wpList_append_byte rfl _ _ rfl w.heap.size _ Ls rfl hO wr.heap.size 1 (b2i (y.toNat.testBit (7 - j))) rfl (by simp [go_sem]) (by omega) (by simp; omega) ?_)
          intro v4 w4 o4 hc4 hk4
          have e4 : Ext w w4 := Ext.calm_trans (e2.alloc _ _) hc4 (fun g' hg' => hown g' (Option.mem_toList.1 hg'))
          go_wp2
          go_roundg (gk - 1)
          case measure => omega
          case rel =>
            refine ⟨j + 1, by omega, by congr 1; omega, ?_, e4⟩
            rw [HT.out, ← List.append_assoc, bitV_append, HL.out]
            exact o4
        · obtain rfl : j = 8 := by omega
          have ht : (bitsOf 8 y.toNat).take 8 = bitsOf 8 y.toNat := List.take_of_length_le (by rw [bitsOf_length]; omega)
          rw [ht, ← bitsB_take b i y hy] at oM
          clear hlb
          go_wp2
          go_roundg (b.length - (i + 1))
          case measure => omega
          case rel => exact ⟨i + 1, by omega, rfl, oM, e2⟩
    · obtain rfl : i = b.length := by omega
      rw [List.take_length] at oL
      obtain ⟨ao3, c3, rfl, -, -⟩ := oL.slice
      have z1 := e1.size
      have hown : ∀ k, (Value.slice ao3 (bitV (bitsB b)).length c3).ownBlock = some k → w.heap.size ≤ k := fun k hk => (oL.lt k hk).1
      have hlb : (bitV (bitsB b)).length = 8 * b.length := by rw [bitV_length, bitsB_length]
      have hlm : (bitV (bitsB b)).length ≤ 2000 := by omega
      clear hlb
      go_wp2_with (at_builtin; refine wpList_append_zeros rfl _ _ rfl w.heap.size _ (bitV (bitsB b)) rfl oL 32 rfl (by omega) (by omega) (by omega) ?_)
      intro v5 w5 o5 hc5 hk5
      have e5 : Ext w w5 := Ext.calm_trans e1 hc5 (fun g' hg' => hown g' (Option.mem_toList.1 hg'))
      have o5 : Own w5 w.heap.size v5 (bitV (bitsB b ++ List.replicate 32 false)) := by
        rw [bitV_append, bitV_zeros]
        exact o5
      have hN : (bitsB b ++ List.replicate 32 false).length = 8 * b.length + 32 := by rw [List.length_append, bitsB_length, List.length_replicate]
      have hreg := start_reg (bitsB b)
      generalize hL0 : bitsB b ++ List.replicate 32 false = L0 at *
      clear hL0 oL e1 hown hk5 hc5 hlm
      obtain ⟨ao5, c5, rfl, hn5, ha5⟩ := o5.slice
      obtain ⟨g5, rfl⟩ : ∃ g, ao5 = some ⟨g, 0, none⟩ := by
        cases ao5 with
        | none => have := congrArg List.length (hn5 rfl).1; rw [bitV_length, hN] at this; simp at this
        | some ad => exact ⟨ad.block, by rw [← ha5 ad rfl]⟩
      have hg5 := (o5.lt g5 rfl).1
      have hVL : (bitV L0).length = 8 * b.length + 32 := by rw [bitV_length, hN]
      rw [hVL] at o5 ⊢
      clear hVL
      clear hn5 ha5
      have HR := Lib.hid hreg
      have HN := Lib.hid hN
      clear hreg hN
      go_wp2
      go_loopg [6] 32 (fun gk3 iv wr => ∃ t : Nat, t + gk3 = 32 ∧ iv = .int .i64 t ∧ Own wr w.heap.size (.slice (some ⟨g5, 0, none⟩) (8 * b.length + 32) c5) (bitV (firsts L0 t)) ∧ Ext w wr)
      case atStart => exact ⟨0, by omega, rfl, by simpa [firsts] using o5, e5⟩
      case round =>
        obtain ⟨t, htk, rfl, o6, e6⟩ := hrel
        clear o5 e5
        by_cases ht : t < 32
        · have hFl : (firsts L0 t).length = 8 * b.length + 32 := by rw [firsts_length, HN.out]
          have hVl : 8 * b.length + 32 = (bitV (firsts L0 t)).length := by rw [bitV_length, hFl]
          have hcell := o6.at hVl (bitV_get (firsts L0 t) t (by omega))
          have hfr := o6.thaw hVl t
          have hbd := b2i_bd ((firsts L0 t).getD t false)
          have hnot := b2i_not ((firsts L0 t).getD t false)
          have hput := o6.put hVl t (b2i (!(firsts L0 t).getD t false))
          rw [bitV_set, firsts_set L0 t (by rw [HN.out]; omega)] at hput
          have HP := Lib.hid hput
          clear hput hVl hFl
          generalize (firsts L0 t).getD t false = bb at *
          go_wp2
          go_roundg (32 - (t + 1))
          case measure => omega
          case rel => exact ⟨t + 1, by omega, rfl, HP.out, e6.setCell hg5 _⟩
        · obtain rfl : t = 32 := by omega
          have hD : Divs b 0 (firsts L0 32) := ⟨by rw [firsts_length, HN.out], HR.out, fun j hj => by omega⟩
          have hgt := (o6.lt g5 rfl).2
          have oT := o6.alloc (.cells termC 3)
          have BT := Blk.new wr termC 3
          have eT := e6.alloc termC 3
          unfold termC at oT BT eT
          go_wp2
          generalize hg7 : wr.heap.size = g7 at *
          clear o6 e6 hg7
          go_loopg [8] (8 * b.length) (fun gk4 iv wq => ∃ (i : Nat) (L : List Bool), i + gk4 = 8 * b.length ∧ iv = .int .i64 i ∧ Divs b i L ∧ Own wq w.heap.size (.slice (some ⟨g5, 0, none⟩) (8 * b.length + 32) c5) (bitV L) ∧ Blk wq g7 termC 3 ∧ Ext w wq)
          case atStart => exact ⟨0, _, by omega, rfl, hD, oT, BT, eT⟩
          case round =>
            obtain ⟨i, L, hik4, rfl, hDi, o8, B8, e8⟩ := hrel
            clear oT BT eT hD
            have hLl := hDi.len
            by_cases hi8 : i < 8 * b.length
            · have hVl : 8 * b.length + 32 = (bitV L).length := by rw [bitV_length, hLl]
              have hcell := o8.at hVl (bitV_get L i (by omega))
              have hbd := b2i_bd (L.getD i false)
              cases hbit : L.getD i false
              · rw [hbit, show b2i false = 0 from rfl] at hcell
                clear hVl hbd
                go_wp2
                go_roundg (8 * b.length - (i + 1))
                case measure => omega
                case rel => exact ⟨i + 1, L, by omega, rfl, hDi.next hbit, o8, B8, e8⟩
              · rw [hbit, show b2i true = 1 from rfl] at hcell
                have HDn := Lib.hid (hDi.step hi8 hbit)
                clear hVl hbd
                go_wp2
                go_loopg [9] 15 (fun gk5 kv wq => ∃ k : Nat, k + gk5 = 15 ∧ kv = .int .i64 k ∧ Own wq w.heap.size (.slice (some ⟨g5, 0, none⟩) (8 * b.length + 32) c5) (bitV (flips L i k)) ∧ Blk wq g7 termC 3 ∧ Ext w wq)
                case atStart => exact ⟨0, by omega, rfl, o8, B8, e8⟩
                case round =>
                  obtain ⟨k, hk5, rfl, o9, B9, e9⟩ := hrel
                  clear o8 B8 e8 hcell
                  by_cases hk : k < 15
                  · have ht := term_le k hk
                    have hFl : (flips L i k).length = 8 * b.length + 32 := by rw [flips_length, hLl]
                    have hVl : (bitV (flips L i k)).length = 8 * b.length + 32 := by rw [bitV_length, hFl]
                    have hcT := (B9.cell k).trans (termC_get k hk)
                    have hcB := o9.at hVl.symm (bitV_get (flips L i k) (i + term k) (by omega))
                    have hbd := b2i_bd ((flips L i k).getD (i + term k) false)
                    have hnot := b2i_not ((flips L i k).getD (i + term k) false)
                    have hset := bitV_set (flips L i k) (i + term k) (!(flips L i k).getD (i + term k) false)
                    have hfl : (flips L i k).set (i + term k) (!(flips L i k).getD (i + term k) false) = flips L i (k + 1) := rfl
                    rw [hfl] at hset
                    rw [← hVl] at o9
                    obtain ⟨cur, B, hcur, c1, c2, c3', -⟩ := o9.blk
                    rw [hVl] at c1
                    have HC := Lib.hid hcur
                    have HS := Lib.hid hset
                    have HV := Lib.hid hVl
                    clear hcur hset hVl hFl hfl
                    generalize hbb : (flips L i k).getD (i + term k) false = bb at *
                    generalize hQ : term k = tk at *
                    have hqc : i + tk < cur.size := by omega
                    obtain ⟨p, hp⟩ : ∃ p, i + tk = p := ⟨_, rfl⟩
                    have hadd : (i : Int) + (tk : Int) = (p : Int) := by omega
                    rw [hp] at hqc hcB HS
                    have hpl : p < 8 * b.length + 32 := by omega
                    have HA := Lib.hid hadd
                    clear hp hadd hbb hQ
                    go_wp2
                    apply wp_region_vars_early 6 [false, false, false, false, false, false, false, false, false, false, false, false, false, false, false, false, false, false, true] [g5] [⟨none, 0, g5, some 18, 5, cur, (cur.toList.set p (.int .u8 (b2i (!bb)))).toArray⟩] _ (by kernel_rfl) (by kernel_rfl) (by kernel_rfl) (by kernel_rfl) (by kernel_rfl)
                    case H =>
                      intro x' hx
                      have hne : Nonempty (Wx x') := ⟨⟨x', Ext.refl x'⟩⟩
                      have r0 := fun (y' : Wx x') => (hx.trans y'.ext).old hcT
                      have r1 := fun (y' : Wx x') => (hx.trans y'.ext).old hcB
                      have hadd := HA.out
                      simp only [eraseM]
                      repeat (go_big_quiet_step (fail))
                      exact wpQuiet_nil rfl
                    case hok =>
                      simp only [List.forall_mem_cons, List.not_mem_nil, false_implies, implies_true, and_true]
                      exact tgt_row (n := b2i (!bb)) (by simp) B rfl rfl rfl rfl rfl rfl hqc
                    case hdis =>
                      intro k k' t t' hk hk' hne _ _
                      rcases k with _ | k <;> rcases k' with _ | k' <;> simp at hk hk' hne
                    rintro w10 ff hw ⟨q0, q1, d0, -, -⟩
                    have q0' : ff 0 = g5 := q0
                    have B1 : Blk w10 g5 (cur.toList.set p (.int .u8 (b2i (!bb)))).toArray 5 := q0' ▸ d0
                    have e10 := Ext.calm_trans e9 hw (by simp; omega)
                    have BT := B9.calm hw (by simp; omega)
                    simp only [pairs, putAll, Option.isSome_none, Bool.false_eq_true, if_false]
                    clear hw q0 q0' q1 d0 e9 B B9
                    go_wp2
                    go_roundg (15 - (k + 1))
                    case measure => omega
                    case rel =>
                      have oN := Own.mk (base := w.heap.size) B1 (L := (bitV (flips L i k)).set p (b2i (!bb))) (by simpa using take_set_bytes HC.out p (b2i (!bb))) (by rw [List.length_set, HV.out]; exact c1) c2 (by simpa using c3') hg5
                      rw [List.length_set, HV.out, HS.out] at oN
                      exact ⟨k + 1, by omega, rfl, oN, BT, e10⟩
                  · obtain rfl : k = 15 := by omega
                    go_wp2
                    go_roundg (8 * b.length - (i + 1))
                    case measure => omega
                    case rel => exact ⟨i + 1, _, by omega, rfl, HDn.out, o9, B9, e9⟩
            · obtain rfl : i = 8 * b.length := by omega
              have hend := end_reg L (8 * b.length) (crcReg ones (bitsB b)) hLl hDi.low hDi.reg
              have hRl : (L.drop (8 * b.length)).length = 32 := by rw [List.length_drop, hLl]; omega
              have hVl : 8 * b.length + 32 = (bitV L).length := by rw [bitV_length, hLl]
              have hcl : ∀ t, t < 32 → wr.cell? ⟨g5, 8 * b.length + t, none⟩ = some (.int .u8 (b2i ((L.drop (8 * b.length)).getD t false))) := fun t ht => by
                rw [o8.at hVl (bitV_get L (8 * b.length + t) (by omega))]
                simp [List.getD]
              have HE := Lib.hid hend
              have HC := Lib.hid hcl
              generalize L.drop (8 * b.length) = R at *
              clear hend hcl hVl o8 B8 hDi hLl
              go_wp2
              go_loopg [10, 11] 32 (fun gk6 nv iv wq => ∃ t : Nat, t + gk6 = 32 ∧ iv = .int .i64 (8 * b.length + t : Nat) ∧ nv = .int .u32 (numB ((R.map (!·)).take t) : Nat) ∧ wr = wq)
              case atStart => exact ⟨0, by omega, by simp, by simp [numB], rfl⟩
              case round =>
                obtain ⟨t, ht6, rfl, rfl, rfl⟩ := hrel
                by_cases ht : t < 32
                · have hcell := HC.out t ht
                  have hlt := numB_lt (R.map (!·)) t
                  have hpw : 2 ^ t ≤ 2 ^ 31 := Nat.pow_le_pow_right (by omega) (by omega)
                  have hsn : numB ((R.map (!·)).take (t + 1)) = numB ((R.map (!·)).take t) * 2 + (b2i (!R.getD t false)).toNat := by
                    rw [List.take_add_one, List.getElem?_map, List.getElem?_eq_getElem (by omega), Option.map_some, show ∀ x : Bool, (some x).toList = [x] from fun _ => rfl, numB_snoc]
                    simp [List.getD, hRl, ht]
                  have hnot := b2i_not (R.getD t false)
                  have hbd := b2i_bd (R.getD t false)
                  have hbd2 := b2i_bd (!R.getD t false)
                  have hl31 : numB ((R.map (!·)).take t) < 2147483648 := by omega
                  generalize R.getD t false = bb at *
                  have HS := Lib.hid hsn
                  clear hlt hpw hsn
                  generalize numB ((R.map (!·)).take t) = nn at *
                  go_wp2
                  go_roundg (32 - (t + 1))
                  case measure => omega
                  case rel => exact ⟨t + 1, by omega, by congr 1, by rw [HS.out]; congr 1; omega, rfl⟩
                · obtain rfl : t = 32 := by omega
                  have hE := HE.out
                  rw [List.take_of_length_le (by rw [List.length_map, hRl]; omega)]
                  clear HC HE
                  go_wp2
                  go_ret
                  exact ⟨by rw [hE]; rfl, e8⟩
end Go.Proofs.Ytjghfknpgnecgaa
