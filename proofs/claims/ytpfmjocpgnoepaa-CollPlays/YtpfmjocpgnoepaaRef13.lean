/- Layer 13: the document's batch: turned into the program's and back, One, Lead, at, few, Same. Written by wip/tools/gen_ref13.py. -/
import Derived.Test.YtpfmjocpgnoepaaBatAdd
import Derived.Test.YtpfmjocpgnoepaaLater
import Derived.Test.YtpfmjocpgnoepaaSame
namespace Go.Proofs.Ytpfmjocpgnoepaa
set_option linter.unusedVariables false
open Go.ChangeShapes Go.WideShapes Go.ChangeAt Go.RowKit

theorem undR : ∃ fs, Try.prog.underlying 25 = some (.struct fs) := ⟨_, Try.underlying25⟩
theorem loadR {w : World} {g : Nat} {A M : Option Addr} {n c m d : Nat} (h : w.heap[g]? = some (bobj 25 A n c M m d)) : (loadVar 25 ⟨g, 0, none⟩).run Try.prog w = .ok (batV A n c M m d) w := by
  obtain ⟨fs, hu⟩ := undR
  exact run_load_agg w _ g [.slice A n c, .slice M m d] _ h hu rfl (by kernel_rfl)
theorem sizeR : (Try.prog.info? 25).map (·.size) = some 2 := by kernel_rfl
theorem sizeBB : (Try.prog.info? 34).map (·.size) = some 2 := by kernel_rfl
theorem onesBB (A M : Option Addr) (n c m d : Nat) : Ones [.slice A n c, .slice M m d] := by intro v hv; simp at hv; rcases hv with rfl | rfl <;> rfl
theorem tMR : SlT Try.prog prec 23 61 := slT_of (z := .agg #[.int .i64 0, .int .i64 0]) (n := 2) (by_ := 16) (by kernel_rfl) (by kernel_rfl) rfl (by decide) rfl
/-- Three new blocks. -/
theorem three_new (w : World) (o1 o2 o3 : Obj) : ∃ W, ((w.alloc o1).alloc o2).alloc o3 = W ∧ Below w.heap.size w W ∧ W.heap[w.heap.size]? = some o1 ∧ W.heap[w.heap.size + 1]? = some o2 ∧ W.heap[w.heap.size + 1 + 1]? = some o3 ∧ W.heap.size = w.heap.size + 3 := by
  obtain ⟨V, h, hb, h1, h2, hs⟩ := two_new w o1 o2
  refine ⟨_, rfl, ?_, ?_, ?_, ?_, ?_⟩
  · rw [h]; exact hb.alloc hb.size o3
  · rw [h]; exact kb_alloc h1 o3
  · rw [h]; exact kb_alloc h2 o3
  · rw [h]
    have := heap_alloc_at V o3
    rwa [hs] at this
  · rw [h]; simp [hs]

set_option maxRecDepth 100000 in
set_option maxHeartbeats 4000000 in
theorem real13_any (A : Option Addr) (n c : Nat) (M : Option Addr) (m d : Nat) (zs : List Int) (ms : List P2) (w : World) (h : Bat w A n c M m d zs ms) (hm : m ≤ 1000) :
    Calls Try.prog 37 #[batV A n c M m d] w fun r w' => ∃ M' d', r = .returned (batV A n c M' m d') ∧ Bat w' A n c M' m d' zs ms ∧ Below w.heap.size w w' := by
  obtain ⟨W, hW, bW, k1, k2, k3, sW⟩ := three_new w (bobj 34 A n c M m d) (bobj 25 none 0 0 none 0 0) (bobj 25 A n c none 0 0)
  have HW := Lib.hid hW
  have BW := Lib.hid bW
  have K1 := Lib.hid k1
  have K2 := Lib.hid k2
  have K3 := Lib.hid k3
  have SW := Lib.hid sW
  have HB := Lib.hid h
  have MLn := Lib.hid h.mlen
  obtain ⟨x0, x1⟩ := bobj_cells (heap_alloc_at w (bobj 34 A n c M m d))
  have x0' : ((w.alloc (bobj 34 A n c M m d)).alloc (bobj 25 none 0 0 none 0 0)).cell? ⟨w.heap.size, 0, none⟩ = some (.slice A n c) := cell_alloc x0 _
  clear hW bW k1 k2 k3 sW h x0 x1
  go_enter Try.func37, Try.ntmps37
  go_wp2
  rw [HW.out]
  clear HW x0'
  go_loopg [4] m (fun q v4 wr => ∃ (i : Nat) (v : Value), i + q = m ∧ v4 = .int .i64 i ∧ wr.heap[w.heap.size + 1 + 1]? = some (.cells #[.slice A n c, v] 25) ∧ OwnR prec wr (w.heap.size + 3) 61 v (ms.take i) ∧ Below (w.heap.size + 1 + 1) W wr)
  case atStart => exact ⟨0, .slice none 0 0, by omega, rfl, K3.out, OwnR.nil _ _ _, Below.refl _ _⟩
  case round =>
    obtain ⟨i, v, hq, rfl, hk, hown, hl⟩ := hrel
    obtain ⟨N, e, f, rfl, rn, hne, hef, _⟩ := hown.row'
    have he : e ≤ i := by have h1 := hne.out; rw [List.length_take] at h1; omega
    have G := Lib.hid hq
    have K := Lib.hid hk
    have O := Lib.hid hown
    have L := Lib.hid hl
    have hsz : w.heap.size + 3 ≤ wr.heap.size := by have := hl.size; rw [SW.out] at this; exact this
    have hk1 : wr.heap[w.heap.size]? = some (bobj 34 A n c M m d) := (hl.block _ (by omega)).trans K1.out
    obtain ⟨y0, y1⟩ := bobj_cells hk1
    obtain ⟨z0, z1⟩ := bobj_cells hk
    have lw : Below w.heap.size w wr := BW.out.trans (hl.mono (by omega))
    have LW := Lib.hid lw
    have BR := Lib.hid (HB.out.below lw)
    clear hq hk hown hl rn hne hef
    by_cases hin : i < m
    · have hi1 : (i : Int) < m := by omega
      obtain ⟨mb, mo, x, rfl, hx, q0, q1⟩ := BR.out.mr.pair_at hin
      have hlt := HB.out.mr.lt rfl (by omega)
      have HX := Lib.hid hx
      have z1' : (wr.drew.alloc (.cells #[.int .i64 x.a, .int .i64 x.b] 61)).cell? ⟨w.heap.size + 1 + 1, 1, none⟩ = some (.slice N e f) := cell_alloc z1 _
      have z1e : (wr.alloc (.cells #[.int .i64 x.a, .int .i64 x.b] 61)).drew.cell? ⟨w.heap.size + 1 + 1, 1, none⟩ = some (.slice N e f) := cell_alloc z1 _
      have z1d : wr.drew.cell? ⟨w.heap.size + 1 + 1, 1, none⟩ = some (.slice N e f) := z1
      have hd0 : Below (w.heap.size + 3) wr wr.drew := (ali_below (drew_ali _)).mono hsz
      have hd1 : Below (w.heap.size + 3) wr (wr.drew.alloc (.cells #[.int .i64 x.a, .int .i64 x.b] 61)) := hd0.alloc hsz _
      have D0 : Hid (Below (w.heap.size + 1) wr wr.drew) := Lib.hid (hd0.mono (by omega))
      have D1 : Hid (Below (w.heap.size + 1) wr (wr.drew.alloc (.cells #[.int .i64 x.a, .int .i64 x.b] 61))) := Lib.hid (hd1.mono (by omega))
      have D2 : Hid (Below (w.heap.size + 1) wr (wr.alloc (.cells #[.int .i64 x.a, .int .i64 x.b] 61)).drew) := Lib.hid (hd1.mono (by omega))
      have hs : ∀ wx, Below (w.heap.size + 1) wr wx → wx.cell? ⟨w.heap.size, 1, none⟩ = some (.slice (some ⟨mb, mo, none⟩) m d) ∧ wx.cell? ⟨mb, mo + i * 2, none⟩ = some (.int .i64 x.a) ∧ wx.cell? ⟨mb, mo + i * 2 + 1, none⟩ = some (.int .i64 x.b) :=
        fun wx hb => ⟨(World.cell?_of_block (hb.block _ (by show w.heap.size < _; omega))).trans y1, (World.cell?_of_block (hb.block _ (by show mb < _; omega))).trans q0, (World.cell?_of_block (hb.block _ (by show mb < _; omega))).trans q1⟩
      have HS := Lib.hid hs
      have DZ : Hid (w.heap.size + 3 ≤ (wr.drew.alloc (.cells #[.int .i64 x.a, .int .i64 x.b] 61)).heap.size) := Lib.hid (Nat.le_trans hsz hd1.size)
      have O1 : Hid (OwnR prec (wr.drew.alloc (.cells #[.int .i64 x.a, .int .i64 x.b] 61)) (w.heap.size + 3) 61 (.slice N e f) (ms.take i)) := Lib.hid ((O.out.ali (drew_ali _)).alloc _)
      have S1 := Lib.hid (RowR.one (R := prec) wr.drew x 61 (cs := #[.int .i64 x.a, .int .i64 x.b]) rfl)
      have hln : (ms.take i).length + 1 ≤ 1048576 := by rw [List.length_take]; omega
      have LN := Lib.hid hln
      have fin : ∀ w6 v6, OwnR prec w6 (w.heap.size + 3) 61 v6 (ms.take i ++ [x]) → (wr.drew.alloc (.cells #[.int .i64 x.a, .int .i64 x.b] 61)).grownBy w6 (Value.slice N e f).ownBlock → w6.heap[w.heap.size + 1 + 1]? = some (.cells #[.slice A n c, .slice N e f] 25) ∧ OwnR prec (w6.setCell ⟨w.heap.size + 1 + 1, 1, none⟩ v6) (w.heap.size + 3) 61 v6 (ms.take (i + 1)) ∧ Below (w.heap.size + 1 + 1) W (w6.setCell ⟨w.heap.size + 1 + 1, 1, none⟩ v6) ∧ Below (w.heap.size + 1) wr w6 ∧ Below (w.heap.size + 1) wr (w6.setCell ⟨w.heap.size + 1 + 1, 1, none⟩ v6) := fun w6 v6 own6 gr6 => by
        have t6 : Below (w.heap.size + 3) wr w6 := hd1.trans (grown_low gr6 DZ.out (fun b hb => O1.out.low b hb))
        have k6 := (t6.block (w.heap.size + 1 + 1) (by omega)).trans K.out
        have f7 := (Frm.refl (· = w.heap.size + 1 + 1) w6).set (p := ⟨w.heap.size + 1 + 1, 1, none⟩) rfl v6
        refine ⟨k6, ?_, (L.out.trans (t6.mono (by omega))).trans (f7.below (by have := L.out.size; have := t6.size; have := SW.out; omega) (fun j hj e => by omega)), t6.mono (by omega), (t6.mono (by omega)).trans (f7.below (by have := t6.size; omega) (fun j hj e => by omega))⟩
        rw [take_more HX.out]
        exact own6.frm f7 (fun j e cs hc => by rw [show j = w.heap.size + 1 + 1 from e, k6] at hc; cases hc)
      have FIN := Lib.hid fin
      clear hx hln hsz y0 z0 hk1 lw he hd1 hd0 fin hs q0 q1
      go_wp2
      clear BW K2 K3 SW MLn O L LW hin K1 HB BR hlt HX K y1
      refine wp_region_held_drew (S := fun wx => wx.cell? ⟨w.heap.size, 1, none⟩ = some (.slice (some ⟨mb, mo, none⟩) m d) ∧ wx.cell? ⟨mb, mo + i * 2, none⟩ = some (.int .i64 x.a) ∧ wx.cell? ⟨mb, mo + i * 2 + 1, none⟩ = some (.int .i64 x.b)) (by kernel_rfl) (HS.out _ D0.out) (fun hHeld => ?_)
      refine wpAnyH_take (i := 0) (v := ?_) rfl (by kernel_rfl) (by kernel_rfl) (by kernel_rfl) (fun _ _ _ h => h) (Or.inl ⟨by rfl, ?_⟩) (by assumption) ?_
      rotate_left
      focus (intro w hSw; (try dsimp only at hSw); go_simp; try (with_reducible rfl))
      go_frame
      refine wpAnyH_take (i := 2) (v := ?_) rfl (by kernel_rfl) (by kernel_rfl) (by kernel_rfl) (fun _ _ _ h => h) (Or.inl ⟨by rfl, ?_⟩) (by assumption) ?_
      rotate_left
      focus (intro w hSw; (try dsimp only at hSw); go_simp; try (with_reducible rfl))
      go_frame
      refine wpAnyH_take (i := 3) (v := ?_) rfl (by kernel_rfl) (by kernel_rfl) (by kernel_rfl) (fun _ _ _ h => h) (Or.inl ⟨by rfl, ?_⟩) (by assumption) ?_
      rotate_left
      focus (intro w hSw; (try dsimp only at hSw); go_simp; try (with_reducible rfl))
      go_frame
      refine wpAnyH_take (i := 4) (v := ?_) rfl (by kernel_rfl) (by kernel_rfl) (by kernel_rfl) (fun _ _ _ h => h) (Or.inl ⟨by rfl, ?_⟩) (by assumption) ?_
      rotate_left
      focus (intro w hSw; (try dsimp only at hSw); go_simp; try (with_reducible rfl))
      go_frame
      refine wpAnyH_take (i := 5) (v := ?_) rfl (by kernel_rfl) (by kernel_rfl) (by kernel_rfl) (fun _ _ _ h => h) (Or.inl ⟨by rfl, ?_⟩) (by assumption) ?_
      rotate_left
      focus (intro w hSw; (try dsimp only at hSw); go_simp; try (with_reducible rfl))
      go_frame
      refine wpAnyH_take (i := 6) (v := ?_) rfl (by kernel_rfl) (by kernel_rfl) (by kernel_rfl) (fun _ _ _ h => h) (Or.inl ⟨by rfl, ?_⟩) (by assumption) ?_
      rotate_left
      focus (intro w hSw; (try dsimp only at hSw); go_simp; try (with_reducible rfl))
      go_frame
      refine wpAnyH_take (i := 7) (v := ?_) rfl (by kernel_rfl) (by kernel_rfl) (by kernel_rfl) (fun _ _ _ h => h) (Or.inl ⟨by rfl, ?_⟩) (by assumption) ?_
      rotate_left
      focus (intro w hSw; (try dsimp only at hSw); go_simp; try (with_reducible rfl))
      go_frame
      refine wpAnyH_take (i := 8) (v := ?_) rfl (by kernel_rfl) (by kernel_rfl) (by kernel_rfl) (fun _ _ _ h => h) (Or.inl ⟨by rfl, ?_⟩) (by assumption) ?_
      rotate_left
      focus (intro w hSw; (try dsimp only at hSw); go_simp; try (with_reducible rfl))
      go_frame
      refine wpAnyH_take (i := 9) (v := ?_) rfl (by kernel_rfl) (by kernel_rfl) (by kernel_rfl) (fun _ _ _ h => h) (Or.inl ⟨by rfl, ?_⟩) (by assumption) ?_
      rotate_left
      focus (intro w hSw; (try dsimp only at hSw); go_simp; try (with_reducible rfl))
      go_frame
      refine wpAnyH_take (i := 10) (v := ?_) rfl (by kernel_rfl) (by kernel_rfl) (by kernel_rfl) (fun _ _ _ h => h) (Or.inl ⟨by rfl, ?_⟩) (by assumption) ?_
      rotate_left
      focus (intro w hSw; (try dsimp only at hSw); go_simp; try (with_reducible rfl))
      go_frame
      refine wpAnyH_take (i := 11) (v := ?_) rfl (by kernel_rfl) (by kernel_rfl) (by kernel_rfl) (fun _ _ _ h => h) (Or.inl ⟨by rfl, ?_⟩) (by assumption) ?_
      rotate_left
      focus (intro w hSw; (try dsimp only at hSw); go_simp; try (with_reducible rfl))
      go_frame
      refine wpAnyH_take (i := 12) (v := ?_) rfl (by kernel_rfl) (by kernel_rfl) (by kernel_rfl) (fun _ _ _ h => h) (Or.inl ⟨by rfl, ?_⟩) (by assumption) ?_
      rotate_left
      focus (intro w hSw; (try dsimp only at hSw); go_simp; try (with_reducible rfl))
      go_frame
      refine wpAnyH_take (i := 13) (v := ?_) rfl (by kernel_rfl) (by kernel_rfl) (by kernel_rfl) (fun _ _ _ h => h) (Or.inl ⟨by rfl, ?_⟩) (by assumption) ?_
      rotate_left
      focus (intro w hSw; (try dsimp only at hSw); go_simp; try (with_reducible rfl))
      go_frame
      refine wpAnyH_take (i := 14) (v := ?_) rfl (by kernel_rfl) (by kernel_rfl) (by kernel_rfl) (fun _ _ _ h => h) (Or.inl ⟨by rfl, ?_⟩) (by assumption) ?_
      rotate_left
      focus (intro w hSw; (try dsimp only at hSw); go_simp; try (with_reducible rfl))
      go_frame
      refine wpAnyH_ready (rs := [1, 15]) (by kernel_rfl) (by simp) ?_
      refine AllReadyH.cons rfl (fun K hK => ?_) (AllReadyH.cons rfl (fun K hK => ?_) AllReadyH.nil)
      · go_simp
        refine hK.out _ _ (HS.out _ D0.out) (fun hHeld => ?_)
        clear hK K
        refine wpAnyH_ready (rs := [15]) (by kernel_rfl) (by simp) ?_
        refine AllReadyH.cons rfl (fun K hK => ?_) AllReadyH.nil
        go_simp
        refine hK.out _ _ (HS.out _ D2.out) (fun hHeld => ?_)
        clear hK K
        refine wpAnyH_ready (rs := [16]) (by kernel_rfl) (by simp) ?_
        refine AllReadyH.cons rfl (fun K hK => ?_) AllReadyH.nil
        refine appS_step tMR (base := w.heap.size + 3) rfl (.tmp 16) (.tmp 30) rfl rfl rfl O1.out S1.out LN.out DZ.out ?_
        intro v6 w6 own6 gr6 _
        obtain ⟨k6, o6, l6, t6, t7⟩ := FIN.out w6 v6 own6 gr6
        obtain ⟨N6, e6, f6', hv6, _, _, _, _⟩ := own6.row'
        subst hv6
        clear own6 gr6
        have z6 : w6.cell? ⟨w.heap.size + 1 + 1, 1, none⟩ = some (.slice N e f) := by rw [cell_of k6]; rfl
        have f6 := frozen_of k6 1
        have K6 := Lib.hid k6
        have O6 := Lib.hid o6
        have L6 := Lib.hid l6
        have T7 := Lib.hid t7
        refine hK.out _ _ (HS.out _ t6) (fun hHeld => ?_)
        clear hK K k6 o6 l6 t6 t7
        go_frame
        refine wpAnyH_take (i := 17) (v := ?_) rfl (by kernel_rfl) (by kernel_rfl) (by kernel_rfl) (fun _ _ _ h => h) (Or.inl ⟨by rfl, ?_⟩) (by assumption) ?_
        rotate_left
        focus (intro w hSw; (try dsimp only at hSw); go_simp; try (with_reducible rfl))
        go_frame
        refine wpAnyH_ready (rs := [18]) (by kernel_rfl) (by simp) ?_
        refine AllReadyH.cons rfl (fun K hK => ?_) AllReadyH.nil
        go_simp
        refine hK.out _ _ (HS.out _ T7.out) (fun hHeld => ?_)
        clear hK K
        refine wpAnyH_done (by kernel_rfl) ?_ _
        go_wp2
        go_roundg (m - (i + 1))
        case measure => have := G.out; omega
        case rel =>
          refine ⟨i + 1, .slice N6 e6 f6', by omega, by simp, ?_, O6.out, L6.out⟩
          rw [heap_set_same K6.out]; rfl
      · go_simp
        refine hK.out _ _ (HS.out _ D2.out) (fun hHeld => ?_)
        clear hK K
        refine wpAnyH_ready (rs := [1]) (by kernel_rfl) (by simp) ?_
        refine AllReadyH.cons rfl (fun K hK => ?_) AllReadyH.nil
        go_simp
        refine hK.out _ _ (HS.out _ D2.out) (fun hHeld => ?_)
        clear hK K
        refine wpAnyH_ready (rs := [16]) (by kernel_rfl) (by simp) ?_
        refine AllReadyH.cons rfl (fun K hK => ?_) AllReadyH.nil
        refine appS_step tMR (base := w.heap.size + 3) rfl (.tmp 16) (.tmp 30) rfl rfl rfl O1.out S1.out LN.out DZ.out ?_
        intro v6 w6 own6 gr6 _
        obtain ⟨k6, o6, l6, t6, t7⟩ := FIN.out w6 v6 own6 gr6
        obtain ⟨N6, e6, f6', hv6, _, _, _, _⟩ := own6.row'
        subst hv6
        clear own6 gr6
        have z6 : w6.cell? ⟨w.heap.size + 1 + 1, 1, none⟩ = some (.slice N e f) := by rw [cell_of k6]; rfl
        have f6 := frozen_of k6 1
        have K6 := Lib.hid k6
        have O6 := Lib.hid o6
        have L6 := Lib.hid l6
        have T7 := Lib.hid t7
        refine hK.out _ _ (HS.out _ t6) (fun hHeld => ?_)
        clear hK K k6 o6 l6 t6 t7
        go_frame
        refine wpAnyH_take (i := 17) (v := ?_) rfl (by kernel_rfl) (by kernel_rfl) (by kernel_rfl) (fun _ _ _ h => h) (Or.inl ⟨by rfl, ?_⟩) (by assumption) ?_
        rotate_left
        focus (intro w hSw; (try dsimp only at hSw); go_simp; try (with_reducible rfl))
        go_frame
        refine wpAnyH_ready (rs := [18]) (by kernel_rfl) (by simp) ?_
        refine AllReadyH.cons rfl (fun K hK => ?_) AllReadyH.nil
        go_simp
        refine hK.out _ _ (HS.out _ T7.out) (fun hHeld => ?_)
        clear hK K
        refine wpAnyH_done (by kernel_rfl) ?_ _
        go_wp2
        go_roundg (m - (i + 1))
        case measure => have := G.out; omega
        case rel =>
          refine ⟨i + 1, .slice N6 e6 f6', by omega, by simp, ?_, O6.out, L6.out⟩
          rw [heap_set_same K6.out]; rfl
    · have hi1 : ¬ (i : Int) < m := by omega
      have hin' : i = m := by have := G.out; omega
      subst hin'
      have K2' : Hid (wr.heap[w.heap.size + 1]? = some (bobj 25 none 0 0 none 0 0)) := Lib.hid ((L.out.block _ (by omega)).trans K2.out)
      have ez := O.out.1
      clear hsz hk1 lw he hin
      go_wp2_with (first
        | (refine wpList_store_agg rfl 25 _ _ rfl (w.heap.size + 1) [.slice none 0 0, .slice none 0 0] [.slice A n c, .slice N e f] rfl rfl ?hz rfl sizeR (onesBB _ _ _ _ _ _) ?_; (case hz => exact K2'.out); intro w7 k7 f7 _;
           have K7 := Lib.hid k7; have F7 := Lib.hid f7; clear k7 f7))
      have hei : e = i := by have h1 := O.out.row.1.1; rw [List.length_take, MLn.out] at h1; omega
      subst hei
      have ho := O.out.row
      rw [List.take_of_length_le (by rw [MLn.out]; omega)] at ho
      refine bodyPost_ret (v := batV A n c N e f) (results_agg Try.results37 rfl (loadR K7.out)) rfl ?_
      exact ⟨_, _, rfl, ⟨BR.out.ar.stayI F7.out K2'.out, ho.1.stayP F7.out K2'.out, BR.out.nc, ho.2.1, BR.out.fits⟩, LW.out.trans (F7.out.below LW.out.size (fun j hj e => by omega))⟩

set_option maxRecDepth 100000 in
set_option maxHeartbeats 4000000 in
theorem made_any (A : Option Addr) (n c : Nat) (M : Option Addr) (m d : Nat) (zs : List Int) (ms : List P2) (w : World) (h : Bat w A n c M m d zs ms) (hm : m ≤ 1000) :
    Calls Try.prog 32 #[batV A n c M m d] w fun r w' => ∃ M' d', r = .returned (batV A n c M' m d') ∧ Bat w' A n c M' m d' zs ms ∧ Below w.heap.size w w' := by
  obtain ⟨W, hW, bW, k1, k2, k3, sW⟩ := three_new w (bobj 25 A n c M m d) (bobj 34 none 0 0 none 0 0) (bobj 34 A n c none 0 0)
  have HW := Lib.hid hW
  have BW := Lib.hid bW
  have K1 := Lib.hid k1
  have K2 := Lib.hid k2
  have K3 := Lib.hid k3
  have SW := Lib.hid sW
  have HB := Lib.hid h
  have MLn := Lib.hid h.mlen
  obtain ⟨x0, x1⟩ := bobj_cells (heap_alloc_at w (bobj 25 A n c M m d))
  have x0' : ((w.alloc (bobj 25 A n c M m d)).alloc (bobj 34 none 0 0 none 0 0)).cell? ⟨w.heap.size, 0, none⟩ = some (.slice A n c) := cell_alloc x0 _
  clear hW bW k1 k2 k3 sW h x0 x1
  go_enter Try.func32, Try.ntmps32
  go_wp2
  rw [HW.out]
  clear HW x0'
  go_loopg [4] m (fun q v4 wr => ∃ (i : Nat) (v : Value), i + q = m ∧ v4 = .int .i64 i ∧ wr.heap[w.heap.size + 1 + 1]? = some (.cells #[.slice A n c, v] 34) ∧ OwnR prec wr (w.heap.size + 3) 105 v (ms.take i) ∧ Below (w.heap.size + 1 + 1) W wr)
  case atStart => exact ⟨0, .slice none 0 0, by omega, rfl, K3.out, OwnR.nil _ _ _, Below.refl _ _⟩
  case round =>
    obtain ⟨i, v, hq, rfl, hk, hown, hl⟩ := hrel
    obtain ⟨N, e, f, rfl, rn, hne, hef, _⟩ := hown.row'
    have he : e ≤ i := by have h1 := hne.out; rw [List.length_take] at h1; omega
    have G := Lib.hid hq
    have K := Lib.hid hk
    have O := Lib.hid hown
    have L := Lib.hid hl
    have hsz : w.heap.size + 3 ≤ wr.heap.size := by have := hl.size; rw [SW.out] at this; exact this
    have hk1 : wr.heap[w.heap.size]? = some (bobj 25 A n c M m d) := (hl.block _ (by omega)).trans K1.out
    obtain ⟨y0, y1⟩ := bobj_cells hk1
    obtain ⟨z0, z1⟩ := bobj_cells hk
    have lw : Below w.heap.size w wr := BW.out.trans (hl.mono (by omega))
    have LW := Lib.hid lw
    have BR := Lib.hid (HB.out.below lw)
    clear hq hk hown hl rn hne hef
    by_cases hin : i < m
    · have hi1 : (i : Int) < m := by omega
      obtain ⟨mb, mo, x, rfl, hx, q0, q1⟩ := BR.out.mr.pair_at hin
      have hlt := HB.out.mr.lt rfl (by omega)
      have HX := Lib.hid hx
      have z1' : (wr.drew.alloc (.cells #[.int .i64 x.a, .int .i64 x.b] 105)).cell? ⟨w.heap.size + 1 + 1, 1, none⟩ = some (.slice N e f) := cell_alloc z1 _
      have z1e : (wr.alloc (.cells #[.int .i64 x.a, .int .i64 x.b] 105)).drew.cell? ⟨w.heap.size + 1 + 1, 1, none⟩ = some (.slice N e f) := cell_alloc z1 _
      have z1d : wr.drew.cell? ⟨w.heap.size + 1 + 1, 1, none⟩ = some (.slice N e f) := z1
      have hd0 : Below (w.heap.size + 3) wr wr.drew := (ali_below (drew_ali _)).mono hsz
      have hd1 : Below (w.heap.size + 3) wr (wr.drew.alloc (.cells #[.int .i64 x.a, .int .i64 x.b] 105)) := hd0.alloc hsz _
      have D0 : Hid (Below (w.heap.size + 1) wr wr.drew) := Lib.hid (hd0.mono (by omega))
      have D1 : Hid (Below (w.heap.size + 1) wr (wr.drew.alloc (.cells #[.int .i64 x.a, .int .i64 x.b] 105))) := Lib.hid (hd1.mono (by omega))
      have D2 : Hid (Below (w.heap.size + 1) wr (wr.alloc (.cells #[.int .i64 x.a, .int .i64 x.b] 105)).drew) := Lib.hid (hd1.mono (by omega))
      have hs : ∀ wx, Below (w.heap.size + 1) wr wx → wx.cell? ⟨w.heap.size, 1, none⟩ = some (.slice (some ⟨mb, mo, none⟩) m d) ∧ wx.cell? ⟨mb, mo + i * 2, none⟩ = some (.int .i64 x.a) ∧ wx.cell? ⟨mb, mo + i * 2 + 1, none⟩ = some (.int .i64 x.b) :=
        fun wx hb => ⟨(World.cell?_of_block (hb.block _ (by show w.heap.size < _; omega))).trans y1, (World.cell?_of_block (hb.block _ (by show mb < _; omega))).trans q0, (World.cell?_of_block (hb.block _ (by show mb < _; omega))).trans q1⟩
      have HS := Lib.hid hs
      have DZ : Hid (w.heap.size + 3 ≤ (wr.drew.alloc (.cells #[.int .i64 x.a, .int .i64 x.b] 105)).heap.size) := Lib.hid (Nat.le_trans hsz hd1.size)
      have O1 : Hid (OwnR prec (wr.drew.alloc (.cells #[.int .i64 x.a, .int .i64 x.b] 105)) (w.heap.size + 3) 105 (.slice N e f) (ms.take i)) := Lib.hid ((O.out.ali (drew_ali _)).alloc _)
      have S1 := Lib.hid (RowR.one (R := prec) wr.drew x 105 (cs := #[.int .i64 x.a, .int .i64 x.b]) rfl)
      have hln : (ms.take i).length + 1 ≤ 1048576 := by rw [List.length_take]; omega
      have LN := Lib.hid hln
      have fin : ∀ w6 v6, OwnR prec w6 (w.heap.size + 3) 105 v6 (ms.take i ++ [x]) → (wr.drew.alloc (.cells #[.int .i64 x.a, .int .i64 x.b] 105)).grownBy w6 (Value.slice N e f).ownBlock → w6.heap[w.heap.size + 1 + 1]? = some (.cells #[.slice A n c, .slice N e f] 34) ∧ OwnR prec (w6.setCell ⟨w.heap.size + 1 + 1, 1, none⟩ v6) (w.heap.size + 3) 105 v6 (ms.take (i + 1)) ∧ Below (w.heap.size + 1 + 1) W (w6.setCell ⟨w.heap.size + 1 + 1, 1, none⟩ v6) ∧ Below (w.heap.size + 1) wr w6 ∧ Below (w.heap.size + 1) wr (w6.setCell ⟨w.heap.size + 1 + 1, 1, none⟩ v6) := fun w6 v6 own6 gr6 => by
        have t6 : Below (w.heap.size + 3) wr w6 := hd1.trans (grown_low gr6 DZ.out (fun b hb => O1.out.low b hb))
        have k6 := (t6.block (w.heap.size + 1 + 1) (by omega)).trans K.out
        have f7 := (Frm.refl (· = w.heap.size + 1 + 1) w6).set (p := ⟨w.heap.size + 1 + 1, 1, none⟩) rfl v6
        refine ⟨k6, ?_, (L.out.trans (t6.mono (by omega))).trans (f7.below (by have := L.out.size; have := t6.size; have := SW.out; omega) (fun j hj e => by omega)), t6.mono (by omega), (t6.mono (by omega)).trans (f7.below (by have := t6.size; omega) (fun j hj e => by omega))⟩
        rw [take_more HX.out]
        exact own6.frm f7 (fun j e cs hc => by rw [show j = w.heap.size + 1 + 1 from e, k6] at hc; cases hc)
      have FIN := Lib.hid fin
      clear hx hln hsz y0 z0 hk1 lw he hd1 hd0 fin hs q0 q1
      go_wp2
      clear BW K2 K3 SW MLn O L LW hin K1 HB BR hlt HX K y1
      refine wp_region_held_drew (S := fun wx => wx.cell? ⟨w.heap.size, 1, none⟩ = some (.slice (some ⟨mb, mo, none⟩) m d) ∧ wx.cell? ⟨mb, mo + i * 2, none⟩ = some (.int .i64 x.a) ∧ wx.cell? ⟨mb, mo + i * 2 + 1, none⟩ = some (.int .i64 x.b)) (by kernel_rfl) (HS.out _ D0.out) (fun hHeld => ?_)
      refine wpAnyH_take (i := 0) (v := ?_) rfl (by kernel_rfl) (by kernel_rfl) (by kernel_rfl) (fun _ _ _ h => h) (Or.inl ⟨by rfl, ?_⟩) (by assumption) ?_
      rotate_left
      focus (intro w hSw; (try dsimp only at hSw); go_simp; try (with_reducible rfl))
      go_frame
      refine wpAnyH_take (i := 2) (v := ?_) rfl (by kernel_rfl) (by kernel_rfl) (by kernel_rfl) (fun _ _ _ h => h) (Or.inl ⟨by rfl, ?_⟩) (by assumption) ?_
      rotate_left
      focus (intro w hSw; (try dsimp only at hSw); go_simp; try (with_reducible rfl))
      go_frame
      refine wpAnyH_take (i := 3) (v := ?_) rfl (by kernel_rfl) (by kernel_rfl) (by kernel_rfl) (fun _ _ _ h => h) (Or.inl ⟨by rfl, ?_⟩) (by assumption) ?_
      rotate_left
      focus (intro w hSw; (try dsimp only at hSw); go_simp; try (with_reducible rfl))
      go_frame
      refine wpAnyH_take (i := 4) (v := ?_) rfl (by kernel_rfl) (by kernel_rfl) (by kernel_rfl) (fun _ _ _ h => h) (Or.inl ⟨by rfl, ?_⟩) (by assumption) ?_
      rotate_left
      focus (intro w hSw; (try dsimp only at hSw); go_simp; try (with_reducible rfl))
      go_frame
      refine wpAnyH_take (i := 5) (v := ?_) rfl (by kernel_rfl) (by kernel_rfl) (by kernel_rfl) (fun _ _ _ h => h) (Or.inl ⟨by rfl, ?_⟩) (by assumption) ?_
      rotate_left
      focus (intro w hSw; (try dsimp only at hSw); go_simp; try (with_reducible rfl))
      go_frame
      refine wpAnyH_take (i := 6) (v := ?_) rfl (by kernel_rfl) (by kernel_rfl) (by kernel_rfl) (fun _ _ _ h => h) (Or.inl ⟨by rfl, ?_⟩) (by assumption) ?_
      rotate_left
      focus (intro w hSw; (try dsimp only at hSw); go_simp; try (with_reducible rfl))
      go_frame
      refine wpAnyH_take (i := 7) (v := ?_) rfl (by kernel_rfl) (by kernel_rfl) (by kernel_rfl) (fun _ _ _ h => h) (Or.inl ⟨by rfl, ?_⟩) (by assumption) ?_
      rotate_left
      focus (intro w hSw; (try dsimp only at hSw); go_simp; try (with_reducible rfl))
      go_frame
      refine wpAnyH_take (i := 8) (v := ?_) rfl (by kernel_rfl) (by kernel_rfl) (by kernel_rfl) (fun _ _ _ h => h) (Or.inl ⟨by rfl, ?_⟩) (by assumption) ?_
      rotate_left
      focus (intro w hSw; (try dsimp only at hSw); go_simp; try (with_reducible rfl))
      go_frame
      refine wpAnyH_take (i := 9) (v := ?_) rfl (by kernel_rfl) (by kernel_rfl) (by kernel_rfl) (fun _ _ _ h => h) (Or.inl ⟨by rfl, ?_⟩) (by assumption) ?_
      rotate_left
      focus (intro w hSw; (try dsimp only at hSw); go_simp; try (with_reducible rfl))
      go_frame
      refine wpAnyH_take (i := 10) (v := ?_) rfl (by kernel_rfl) (by kernel_rfl) (by kernel_rfl) (fun _ _ _ h => h) (Or.inl ⟨by rfl, ?_⟩) (by assumption) ?_
      rotate_left
      focus (intro w hSw; (try dsimp only at hSw); go_simp; try (with_reducible rfl))
      go_frame
      refine wpAnyH_take (i := 11) (v := ?_) rfl (by kernel_rfl) (by kernel_rfl) (by kernel_rfl) (fun _ _ _ h => h) (Or.inl ⟨by rfl, ?_⟩) (by assumption) ?_
      rotate_left
      focus (intro w hSw; (try dsimp only at hSw); go_simp; try (with_reducible rfl))
      go_frame
      refine wpAnyH_take (i := 12) (v := ?_) rfl (by kernel_rfl) (by kernel_rfl) (by kernel_rfl) (fun _ _ _ h => h) (Or.inl ⟨by rfl, ?_⟩) (by assumption) ?_
      rotate_left
      focus (intro w hSw; (try dsimp only at hSw); go_simp; try (with_reducible rfl))
      go_frame
      refine wpAnyH_take (i := 13) (v := ?_) rfl (by kernel_rfl) (by kernel_rfl) (by kernel_rfl) (fun _ _ _ h => h) (Or.inl ⟨by rfl, ?_⟩) (by assumption) ?_
      rotate_left
      focus (intro w hSw; (try dsimp only at hSw); go_simp; try (with_reducible rfl))
      go_frame
      refine wpAnyH_take (i := 14) (v := ?_) rfl (by kernel_rfl) (by kernel_rfl) (by kernel_rfl) (fun _ _ _ h => h) (Or.inl ⟨by rfl, ?_⟩) (by assumption) ?_
      rotate_left
      focus (intro w hSw; (try dsimp only at hSw); go_simp; try (with_reducible rfl))
      go_frame
      refine wpAnyH_ready (rs := [1, 15]) (by kernel_rfl) (by simp) ?_
      refine AllReadyH.cons rfl (fun K hK => ?_) (AllReadyH.cons rfl (fun K hK => ?_) AllReadyH.nil)
      · go_simp
        refine hK.out _ _ (HS.out _ D0.out) (fun hHeld => ?_)
        clear hK K
        refine wpAnyH_ready (rs := [15]) (by kernel_rfl) (by simp) ?_
        refine AllReadyH.cons rfl (fun K hK => ?_) AllReadyH.nil
        go_simp
        refine hK.out _ _ (HS.out _ D2.out) (fun hHeld => ?_)
        clear hK K
        refine wpAnyH_ready (rs := [16]) (by kernel_rfl) (by simp) ?_
        refine AllReadyH.cons rfl (fun K hK => ?_) AllReadyH.nil
        refine appS_step tM (base := w.heap.size + 3) rfl (.tmp 16) (.tmp 30) rfl rfl rfl O1.out S1.out LN.out DZ.out ?_
        intro v6 w6 own6 gr6 _
        obtain ⟨k6, o6, l6, t6, t7⟩ := FIN.out w6 v6 own6 gr6
        obtain ⟨N6, e6, f6', hv6, _, _, _, _⟩ := own6.row'
        subst hv6
        clear own6 gr6
        have z6 : w6.cell? ⟨w.heap.size + 1 + 1, 1, none⟩ = some (.slice N e f) := by rw [cell_of k6]; rfl
        have f6 := frozen_of k6 1
        have K6 := Lib.hid k6
        have O6 := Lib.hid o6
        have L6 := Lib.hid l6
        have T7 := Lib.hid t7
        refine hK.out _ _ (HS.out _ t6) (fun hHeld => ?_)
        clear hK K k6 o6 l6 t6 t7
        go_frame
        refine wpAnyH_take (i := 17) (v := ?_) rfl (by kernel_rfl) (by kernel_rfl) (by kernel_rfl) (fun _ _ _ h => h) (Or.inl ⟨by rfl, ?_⟩) (by assumption) ?_
        rotate_left
        focus (intro w hSw; (try dsimp only at hSw); go_simp; try (with_reducible rfl))
        go_frame
        refine wpAnyH_ready (rs := [18]) (by kernel_rfl) (by simp) ?_
        refine AllReadyH.cons rfl (fun K hK => ?_) AllReadyH.nil
        go_simp
        refine hK.out _ _ (HS.out _ T7.out) (fun hHeld => ?_)
        clear hK K
        refine wpAnyH_done (by kernel_rfl) ?_ _
        go_wp2
        go_roundg (m - (i + 1))
        case measure => have := G.out; omega
        case rel =>
          refine ⟨i + 1, .slice N6 e6 f6', by omega, by simp, ?_, O6.out, L6.out⟩
          rw [heap_set_same K6.out]; rfl
      · go_simp
        refine hK.out _ _ (HS.out _ D2.out) (fun hHeld => ?_)
        clear hK K
        refine wpAnyH_ready (rs := [1]) (by kernel_rfl) (by simp) ?_
        refine AllReadyH.cons rfl (fun K hK => ?_) AllReadyH.nil
        go_simp
        refine hK.out _ _ (HS.out _ D2.out) (fun hHeld => ?_)
        clear hK K
        refine wpAnyH_ready (rs := [16]) (by kernel_rfl) (by simp) ?_
        refine AllReadyH.cons rfl (fun K hK => ?_) AllReadyH.nil
        refine appS_step tM (base := w.heap.size + 3) rfl (.tmp 16) (.tmp 30) rfl rfl rfl O1.out S1.out LN.out DZ.out ?_
        intro v6 w6 own6 gr6 _
        obtain ⟨k6, o6, l6, t6, t7⟩ := FIN.out w6 v6 own6 gr6
        obtain ⟨N6, e6, f6', hv6, _, _, _, _⟩ := own6.row'
        subst hv6
        clear own6 gr6
        have z6 : w6.cell? ⟨w.heap.size + 1 + 1, 1, none⟩ = some (.slice N e f) := by rw [cell_of k6]; rfl
        have f6 := frozen_of k6 1
        have K6 := Lib.hid k6
        have O6 := Lib.hid o6
        have L6 := Lib.hid l6
        have T7 := Lib.hid t7
        refine hK.out _ _ (HS.out _ t6) (fun hHeld => ?_)
        clear hK K k6 o6 l6 t6 t7
        go_frame
        refine wpAnyH_take (i := 17) (v := ?_) rfl (by kernel_rfl) (by kernel_rfl) (by kernel_rfl) (fun _ _ _ h => h) (Or.inl ⟨by rfl, ?_⟩) (by assumption) ?_
        rotate_left
        focus (intro w hSw; (try dsimp only at hSw); go_simp; try (with_reducible rfl))
        go_frame
        refine wpAnyH_ready (rs := [18]) (by kernel_rfl) (by simp) ?_
        refine AllReadyH.cons rfl (fun K hK => ?_) AllReadyH.nil
        go_simp
        refine hK.out _ _ (HS.out _ T7.out) (fun hHeld => ?_)
        clear hK K
        refine wpAnyH_done (by kernel_rfl) ?_ _
        go_wp2
        go_roundg (m - (i + 1))
        case measure => have := G.out; omega
        case rel =>
          refine ⟨i + 1, .slice N6 e6 f6', by omega, by simp, ?_, O6.out, L6.out⟩
          rw [heap_set_same K6.out]; rfl
    · have hi1 : ¬ (i : Int) < m := by omega
      have hin' : i = m := by have := G.out; omega
      subst hin'
      have K2' : Hid (wr.heap[w.heap.size + 1]? = some (bobj 34 none 0 0 none 0 0)) := Lib.hid ((L.out.block _ (by omega)).trans K2.out)
      have ez := O.out.1
      clear hsz hk1 lw he hin
      go_wp2_with (first
        | (refine wpList_store_agg rfl 34 _ _ rfl (w.heap.size + 1) [.slice none 0 0, .slice none 0 0] [.slice A n c, .slice N e f] rfl rfl ?hz rfl sizeBB (onesBB _ _ _ _ _ _) ?_; (case hz => exact K2'.out); intro w7 k7 f7 _;
           have K7 := Lib.hid k7; have F7 := Lib.hid f7; clear k7 f7))
      have hei : e = i := by have h1 := O.out.row.1.1; rw [List.length_take, MLn.out] at h1; omega
      subst hei
      have ho := O.out.row
      rw [List.take_of_length_le (by rw [MLn.out]; omega)] at ho
      refine bodyPost_ret (v := batV A n c N e f) (results_agg Try.results32 rfl (loadB K7.out)) rfl ?_
      exact ⟨_, _, rfl, ⟨BR.out.ar.stayI F7.out K2'.out, ho.1.stayP F7.out K2'.out, BR.out.nc, ho.2.1, BR.out.fits⟩, LW.out.trans (F7.out.below LW.out.size (fun j hj e => by omega))⟩
end Go.Proofs.Ytpfmjocpgnoepaa
