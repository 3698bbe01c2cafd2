/- Layer 7's walk of a hist and the document's beside each other. -/
import Derived.Test.YtpheifdneafkhaaRef07b
import Derived.Deep.RegionHeld3
namespace Go.Proofs.Ytpheifdneafkhaa
set_option linter.unusedVariables false
open Go.ChangeShapes Go.WideShapes Go.ChangeAt Go.RowKit

theorem size49 : (Try.prog.info? 49).map (·.size) = some 4 := by kernel_rfl
theorem alloc49 (w : World) : (Instr.alloc 49 true (.tuple #[])).run Try.prog w = .ok (.pointer (some ⟨w.heap.size, 0, none⟩)) (w.alloc (sobj 0 0 0 (.slice none 0 0))) := by kernel_rfl
section
variable {ops : Array Oper} {rest : List Oper} {o : Oper} {a : Act} {w : World} {Q : Exit → Act → World → Prop}
theorem wpList_load_sobj (hg : o.guard = none) (x : Operand) (ho : o.op = .load 49 x) (g : Nat) (hx : a.eval x = .pointer (some ⟨g, 0, none⟩)) (B W N : Int) (v : Value) (hb : w.heap[g]? = some (sobj B W N v))
    (h : wpList Try.prog ops Q rest (a.put o.dst (.agg (rhist B W N v))) w) : wpList Try.prog ops Q (o :: rest) a w :=
  wpList_load_mid hg 49 x ho g 0 hx [.int .i64 B, .int .u64 W, .int .u64 N, v] _ (sobj_range hb) Try.underlying49 rfl size49 h
theorem wpList_store_sobj (hg : o.guard = none) (x y : Operand) (ho : o.op = .store 49 x y) (g : Nat) (B W N B' W' N' : Int) (v v' : Value) (hx : a.eval x = .pointer (some ⟨g, 0, none⟩)) (hy : a.eval y = .agg (rhist B' W' N' v')) (h1 : v'.oneCell' = true) (hb : w.heap[g]? = some (sobj B W N v))
    (h : ∀ w', w'.heap[g]? = some (sobj B' W' N' v') → Frm (· = g) w w' → w'.heap.size = w.heap.size → wpList Try.prog ops Q rest (a.put o.dst undef) w') : wpList Try.prog ops Q (o :: rest) a w :=
  wpList_store_mid hg 49 x y ho g 0 (rhist B' W' N' v') hx hy (sobj_there hb) size49 (by simp [Value.oneCell'] at h1 ⊢; exact h1)
    (h _ (sobj_puts hb) (frm_setCells (F := (· = g)) (b := g) rfl _ _ _ _ (Frm.refl _ _)) (size_setCells _ _ _ _))
theorem wpList_alloc_sobj (hg : o.guard = none) (ho : o.op = .alloc 49) (g : Nat) (hG : w.heap.size = g)
    (h : ∀ w', w'.heap[g]? = some (sobj 0 0 0 (.slice none 0 0)) → Below g w w' → w'.heap.size = g + 1 → wpList Try.prog ops Q rest (a.put o.dst (.pointer (some ⟨g, 0, none⟩))) w') : wpList Try.prog ops Q (o :: rest) a w := by
  subst hG
  refine wpList_plain hg fun K' hK' => ?_
  unfold Oper.wp
  simp [execOp, ho, alloc49, Result.andThen]
  exact hK' _ _ (h _ (heap_alloc_at w _) (below_alloc w _) (by simp))
end
/-- A note's cells. -/
theorem note_at {w : World} {a : Option Addr} {len cap : Nat} {D : List (List Value)} (h : SliceIn w [.int .u64, .int .u64] 16 a len cap D) {i : Nat} (hi : i < len) :
    ∃ blk off x y, a = some ⟨blk, off, none⟩ ∧ w.cell? ⟨blk, off + i * 2, none⟩ = some (.int .u64 x) ∧ w.cell? ⟨blk, off + i * 2 + 1, none⟩ = some (.int .u64 y) ∧ (0 ≤ x ∧ x ≤ 18446744073709551615) ∧ (0 ≤ y ∧ y ≤ 18446744073709551615) := by
  obtain ⟨h1, h2, _, _, _, h6⟩ := h
  rcases h6 with h6 | ⟨blk, off, ha, _, hc⟩
  · omega
  · have hr : D[i]? = some (D[i]'(by omega)) := List.getElem?_eq_getElem (by omega)
    have hf := h2 _ (List.getElem_mem (by omega) : D[i]'(by omega) ∈ D)
    generalize D[i]'(by omega) = row at hr hf
    cases row with
    | nil => exact hf.elim
    | cons c0 row =>
      cases row with
      | nil => exact hf.2.elim
      | cons c1 row =>
        obtain ⟨⟨x, rfl, hx⟩, ⟨y, rfl, hy⟩, _⟩ := hf
        refine ⟨blk, off, x, y, ha, ?_, ?_, wf_u64 hx, wf_u64 hy⟩
        · simpa [Nat.add_assoc] using hc i 0 _ _ hr rfl
        · simpa [Nat.add_assoc] using hc i 1 _ _ hr rfl
/-- A hist and the document's, with the same notes, beside each other. -/
structure SyH (w0 w : World) (b gx B W N t : Nat) (A : Option Addr) (n c : Nat) (V : List (Int × Int)) : Prop where
  own : OwH w0 w b B W t (lof V)
  ref : w.heap[gx]? = some (sobj B W N (.slice A n c))
  row : OnesR w w0.heap.size (.slice A n c) V
  newx : w0.heap.size ≤ gx
  tq : t = N / W
  bd : ∀ e ∈ V, (0 ≤ e.1 ∧ e.1 ≤ (t : Int)) ∧ 0 ≤ e.2 ∧ e.2 ≤ 18446744073709551615
theorem OnesR.off {w w' : World} {base : Nat} {v : Value} {V : List (Int × Int)} (h : OnesR w base v V) {g : Nat} {cs : Array Value} {ty : TypeId} {f : Nat × Nat} (hg : w.heap[g]? = some (.cells cs ty f)) (ht : ty ≠ 65) (hf : Frm (· = g) w w') : OnesR w' base v V :=
  h.frm hf (fun j hj cs' hc => by
    subst hj
    rw [hg] at hc
    injection hc with hc
    injection hc with _ hc
    exact ht hc)
theorem SyH.ali {w0 w w' : World} {b gx B W N t : Nat} {A : Option Addr} {n c : Nat} {V : List (Int × Int)} (h : SyH w0 w b gx B W N t A n c V) (ha : Ali w w') : SyH w0 w' b gx B W N t A n c V :=
  ⟨h.own.ali ha, by rw [ha.heap]; exact h.ref, h.row.ali ha, h.newx, h.tq, h.bd⟩
theorem SyH.below {w0 w w' : World} {b gx B W N t : Nat} {A : Option Addr} {n c : Nat} {V : List (Int × Int)} (h : SyH w0 w b gx B W N t A n c V) (hb : Below w.heap.size w w') : SyH w0 w' b gx B W N t A n c V :=
  ⟨h.own.below hb, kb_below h.ref hb, h.row.below hb, h.newx, h.tq, h.bd⟩
/-- The hist alone has been told something. -/
theorem SyH.onB {w0 w w' : World} {b gx B W N t : Nat} {A : Option Addr} {n c : Nat} {V : List (Int × Int)} (h : SyH w0 w b gx B W N t A n c V) (hf : Frm (· = b) w w') (ho : OwH w0 w' b B W t (lof V)) : SyH w0 w' b gx B W N t A n c V := by
  obtain ⟨Z, hb, _⟩ := h.own.his.blk
  exact ⟨ho, h.own.his.kept hf h.ref (by decide), h.row.off hb (by decide) hf, h.newx, h.tq, h.bd⟩

set_option maxRecDepth 100000 in
set_option maxHeartbeats 2000000 in
theorem tells_no (B W percent : Int) (a : Option Addr) (len cap : Nat) (w : World) (h : ¬ (1 ≤ B ∧ B ≤ 8 ∧ 1 ≤ W ∧ W ≤ 1099511627776)) :
    Calls Try.prog 9 #[.int .i64 B, .int .u64 W, .slice a len cap, .int .i64 percent] w fun r w' => r = .returned (.bool true) ∧ Below w.heap.size w w' := by
  have hm := may_any B W
  rw [decide_eq_false h] at hm
  have HM := Lib.hid hm
  have HH := Lib.hid h
  clear hm h
  go_enter Try.func9, Try.ntmps9
  go_wp2_with fail
  refine (awake_any _).mono ?_
  rintro r wa ⟨rfl, hba⟩
  have HA := Lib.hid hba
  clear hba
  go_wp2_with fail
  refine (hnew_bad B W wa HH.out).mono ?_
  rintro r wb ⟨rfl, rfl⟩
  go_wp2_with fail
  refine (HM.out wb).mono ?_
  rintro r wc ⟨rfl, rfl⟩
  go_wp2
  go_ret
  exact ⟨rfl, HA.out⟩

theorem lof_snoc (V : List (Int × Int)) (t k : Nat) (y : Int) (hk : lenS y = k) : lof (V ++ [((t : Int), y)]) = lof V ++ [(t, k)] := by
  unfold lof
  rw [List.map_append]
  simp [hk]

set_option maxRecDepth 100000 in
set_option maxHeartbeats 4000000 in
theorem tells_yes (B W : Nat) (percent : Int) (a : Option Addr) (len cap : Nat) (D : List (List Value)) (w : World) (h1 : 1 ≤ B) (h8 : B ≤ 8) (hW : 1 ≤ W) (hW' : W ≤ 1099511627776) (hsl : SliceIn w [.int .u64, .int .u64] 16 a len cap D) (hp : -9223372036854775808 ≤ percent) (hp' : percent ≤ 9223372036854775807) :
    Calls Try.prog 9 #[.int .i64 B, .int .u64 W, .slice a len cap, .int .i64 percent] w fun r w' => r = .returned (.bool true) ∧ Below w.heap.size w w' := by
  have hm := may_any B W
  rw [decide_eq_true (by omega)] at hm
  have HM := Lib.hid hm
  have HSL := Lib.hid hsl
  have hlm : len ≤ maxLen := Nat.le_trans hsl.2.2.1 hsl.2.2.2.2.1
  unfold maxLen at hlm
  clear hm hsl
  go_enter Try.func9, Try.ntmps9
  go_wp2_with fail
  refine (awake_any _).mono ?_
  rintro r wa ⟨rfl, hba⟩
  have HA := Lib.hid hba
  clear hba
  go_wp2_with fail
  refine (oh_new w wa B W h1 h8 hW hW' HA.out).mono ?_
  rintro r w1 ⟨rfl, o1, _⟩
  have O1 := Lib.hid o1
  clear o1
  generalize wa.heap.size = b at *
  go_wp2_with fail
  refine (HM.out w1).mono ?_
  rintro r wc ⟨rfl, rfl⟩
  obtain ⟨gx, hgx⟩ : ∃ gx, w1.heap.size = gx := ⟨_, rfl⟩
  have HGX := Lib.hid hgx
  clear hgx
  go_wp2_with (first
    | (refine wpList_store_sobj rfl (.tmp 11) (.tmp 35) rfl gx 0 0 0 B W 0 (.slice none 0 0) (.slice none 0 0) rfl rfl rfl K2 ?_; rintro w3 K3 F3 S3)
    | (refine wpList_alloc_sobj rfl rfl gx HGX.out ?_; rintro w2 K2 B2 S2))
  have hb13 : Below w1.heap.size w1 w3 := by rw [HGX.out]; exact B2.trans (F3.below (by omega) (fun j hj e => by omega))
  have SY0 : Hid (SyH w w3 b gx B W 0 0 none 0 0 []) := Lib.hid ⟨O1.out.below hb13, K3, OwnR.nil _ _ _, by rw [← HGX.out]; exact O1.out.low.size, by simp, by simp⟩
  clear hb13 K2 B2 S2 K3 F3 S3
  go_loopg [12, 13] len (fun k v12 v13 wr => ∃ (i N t : Nat) (A : Option Addr) (n c : Nat) (V : List (Int × Int)), i + k = len ∧ i ≤ 100 ∧ v13 = .int .i64 i ∧ v12 = .int .u64 N ∧ N ≤ 18446744073709551615 ∧ V.length = i ∧ SyH w wr b gx B W N t A n c V)
  case atStart => exact ⟨0, 0, 0, none, 0, 0, [], by omega, by omega, rfl, rfl, by omega, rfl, SY0.out⟩
  case round =>
    obtain ⟨i, N, t, A, n, c, V, hi, hi1, rfl, rfl, hN, hVl, hsy⟩ := hrel
    have HI := Lib.hid hi
    have HVL := Lib.hid hVl
    have SY := Lib.hid hsy
    by_cases hlt : i < len ∧ i < 100
    · obtain ⟨hlt, hlt1⟩ := hlt
      have hlt' : (i : Int) < len := by omega
      have hlt1' : (i : Int) < 100 := by omega
      obtain ⟨blk, off, x0, y, rfl, p0, p1, bx, bY⟩ := note_at HSL.out hlt
      have q0 := cell_later hsy.own.low p0
      have q1 := cell_later hsy.own.low p1
      have P1 := Lib.hid p1
      clear p0 p1
      obtain ⟨x, rfl⟩ : ∃ x : Nat, x0 = x := ⟨x0.toNat, by omega⟩
      obtain ⟨e, he⟩ : ∃ e : Nat, 18446744073709551615 - N = e := ⟨_, rfl⟩
      have hei : (18446744073709551615 : Int) - (N : Int) = (e : Int) := by omega
      obtain ⟨dd, hdd⟩ : ∃ dd : Nat, (if e < x then e else x) = dd := ⟨_, rfl⟩
      have hmn : (if e < x then (e : Int) else (x : Int)) = (dd : Int) := by rw [← hdd]; split <;> rfl
      have hmn' : (if x < e then (x : Int) else (e : Int)) = (dd : Int) := by rw [← hdd]; split <;> split <;> omega
      have hde : dd ≤ e := by rw [← hdd]; split <;> omega
      obtain ⟨N', hN'⟩ : ∃ N' : Nat, N + dd = N' := ⟨_, rfl⟩
      have hNi : (N : Int) + (dd : Int) = (N' : Int) := by omega
      have hNb : N' ≤ 18446744073709551615 := by omega
      obtain ⟨k, hk⟩ : ∃ k : Nat, lenS y = k := ⟨(lenS y).toNat, by have := lenS_bd bY.1 bY.2; omega⟩
      obtain ⟨t', ht'⟩ : ∃ t' : Nat, N' / W = t' := ⟨_, rfl⟩
      have htt : t ≤ t' := by rw [hsy.tq, ← ht']; exact Nat.div_le_div_right (by omega)
      have hmt : max (N' / W) t = t' := by rw [ht']; omega
      have hls := lof_snoc V t' k y hk
      have HK := Lib.hid hk
      have HT := Lib.hid ht'
      have HMT := Lib.hid hmt
      have HTT := Lib.hid htt
      have HLS := Lib.hid hls
      have HNN : Hid (max N N' = N') := Lib.hid (by omega)
      clear hi hVl hsy he hdd hk ht' hmt hls hN' htt
      go_wp2_with fail
      refine (oh_add w b B W t N' k y (lof V) wr t' (lof V ++ [(t', k)]) SY.out.own hNb bY.1 bY.2 HK.out HMT.out rfl (by rw [lof_len, HVL.out]; omega)).mono ?_
      rintro r w2 ⟨rfl, f2, o2⟩
      have kx : w2.heap[gx]? = some (sobj B W N (.slice A n c)) := SY.out.own.his.kept f2 SY.out.ref (by decide)
      have row2 : OnesR w2 w.heap.size (.slice A n c) V := by
        obtain ⟨Z, hb, _⟩ := SY.out.own.his.blk
        exact SY.out.row.off hb (by decide) f2
      have O2 := Lib.hid o2
      generalize hwd : w2.drew = wd
      have ha : Ali w2 wd := by rw [← hwd]; exact drew_ali _
      have q1d : wd.cell? ⟨blk, off + i * 2 + 1, none⟩ = some (.int .u64 y) := cell_later (o2.ali ha).low P1.out
      have kxd : wd.heap[gx]? = some (sobj B W N (.slice A n c)) := by rw [ha.heap]; exact kx
      have rowd : OnesR wd w.heap.size (.slice A n c) V := row2.ali ha
      have OD := Lib.hid (o2.ali ha)
      have KXD := Lib.hid kxd
      have ROWD := Lib.hid rowd
      have HWD := Lib.hid hwd
      obtain ⟨c0, c1, c2, c3⟩ := scells kxd
      clear f2 o2 kx row2 kxd rowd ha hwd q0 q1
      go_wp2
      refine region_tail 7 (by kernel_rfl) (by kernel_rfl) ?_
      simp only [List.take_succ_cons, List.take_zero, List.drop_succ_cons, List.drop_zero]
      rw [HWD.out]
      repeat still_step
      refine wpStill_nil ?_
      clear c0 c1 c2 c3 q1d
      go_wp2_with fail
      have hn100 : n ≤ 1000 := by have := ROWD.out.row.1.1; have := HVL.out; omega
      refine (radd07 B W N N' y A n c V wd ROWD.out.row.1 hn100 hW hN hNb bY.1 bY.2).mono ?_
      rintro r w3 ⟨v, rfl, row3, hb3⟩
      rw [HNN.out, HT.out] at row3
      rw [HNN.out]
      obtain ⟨A', n', c', rfl, _, hl3, _, _⟩ := row3.row'
      have kx3 := kb_below KXD.out hb3
      have row3' : OnesR w3 w.heap.size (.slice A' n' c') (V ++ [((t' : Int), y)]) := row3.mono OD.out.low.size
      have O3 := Lib.hid (OD.out.below hb3)
      have KX3 := Lib.hid kx3
      have ROW3 := Lib.hid row3'
      clear row3 hb3 kx3 row3' hl3
      go_wp2_with (first
        | (refine wpList_load_sobj rfl (.tmp 11) rfl gx rfl B W N' (.slice A' n' c') K4 ?_)
        | (refine wpList_store_sobj rfl (.tmp 11) (.tmp 71) rfl gx B W N B W N' (.slice A n c) (.slice A' n' c') rfl rfl rfl KX3.out ?_; rintro w4 K4 F4 S4))
      have hgb : gx ≠ b := O3.out.his.other KX3.out (by decide)
      have hsy4 : SyH w w4 b gx B W N' t' A' n' c' (V ++ [((t' : Int), y)]) := by
        refine ⟨?_, K4, ROW3.out.off KX3.out (by decide) F4, SY.out.newx, HT.out.symm, fun e he => ?_⟩
        · rw [HLS.out]
          exact O3.out.beside F4 SY.out.newx hgb.symm
        · rcases List.mem_append.1 he with he | he
          · have := SY.out.bd e he
            have := HTT.out
            omega
          · rw [List.mem_singleton] at he
            subst he
            exact ⟨⟨by omega, Int.le_refl _⟩, bY.1, bY.2⟩
      have hV'l : (V ++ [((t' : Int), y)]).length = i + 1 := by rw [List.length_append, HVL.out]; rfl
      generalize V ++ [((t' : Int), y)] = V' at *
      have HV'L := Lib.hid hV'l
      have SY4 := Lib.hid hsy4
      have hn' : n' ≤ 1000 := by have := hsy4.row.row.1.1; omega
      clear K4 F4 S4 hsy4 hV'l KX3 ROW3 O3 OD KXD ROWD HLS hn100
      refine (rall07 B W N' N' t' A' n' c' V' w4 SY4.out.row.row.1 hn' h8 hW hNb hNb (by rw [Nat.max_self]; exact HT.out) SY4.out.bd).mono ?_
      rintro r w5 ⟨rfl, hb5⟩
      rw [Nat.max_self]
      have SY5 := Lib.hid (SY4.out.below hb5)
      have hlof : (lof V').length ≤ 1000 := by rw [lof_len, HV'L.out]; omega
      obtain ⟨K, hK⟩ : ∃ K, told t' B (lof V') = K := ⟨_, rfl⟩
      have hKl : K.length ≤ 1000 := by rw [← hK]; exact Nat.le_trans (told_len _ _ _) hlof
      have hCok := cntL_ok K hKl
      rw [hK]
      have HKK := Lib.hid hK
      have HLOF := Lib.hid hlof
      obtain ⟨g, hG⟩ : ∃ g, w5.heap.size = g := ⟨_, rfl⟩
      have HG := Lib.hid hG
      obtain ⟨X, hX⟩ : ∃ X, pctX (cntL K) (clampP percent) = X := ⟨_, rfl⟩
      obtain ⟨Y, hY⟩ : ∃ Y, pctB (cntL K) (clampP percent) = Y := ⟨_, rfl⟩
      have hrp := rpct_any (cntL K) percent
      rw [hX, hY] at hrp
      have HX := Lib.hid hX
      have HY := Lib.hid hY
      have HRP := Lib.hid hrp
      have HCOK := Lib.hid hCok
      obtain ⟨C, hC⟩ : ∃ C, cntL K = C := ⟨_, rfl⟩
      rw [hC] at HX HY HRP HCOK ⊢
      have HC := Lib.hid hC
      clear hb5 hK hlof hKl hCok hG hX hY hrp hC
      go_wp2_with (first
        | (refine wpList_store_sobj rfl (.tmp 11) (.tmp 78) rfl gx B W N' B W N' (.slice A' n' c') (.slice A' n' c') rfl rfl rfl S9.out.ref ?_; rintro wa K10 F10 Z10)
        | (refine wpList_load_sobj rfl (.tmp 14) rfl g rfl B W N' (.slice A' n' c') K9g.out ?_)
        | (refine wpList_store_arr rfl 42 (.tmp 15) (.tmp 77) rfl (g + 1) z65 C rfl rfl K8a.out (by rw [z65_len, HCOK.out.1]) (size65 HCOK.out.1) ?_
           rintro w9 K9 F9 Z9
           have K9c := Lib.hid K9
           have K9g : Hid (w9.heap[g]? = some (sobj B W N' (.slice A' n' c'))) := Lib.hid (by rw [F9.block g (heap_lt K8g.out) (by omega)]; exact K8g.out)
           have B9 : Hid (Below g w5 w9) := Lib.hid (B8.out.trans (F9.below (by have := heap_lt K8g.out; omega) (fun j hj e => by omega)))
           have S9 := Lib.hid (SY5.out.below (by rw [HG.out]; exact B9.out))
           clear K9 F9 Z9)
        | (refine wpList_store_sobj rfl (.tmp 14) (.tmp 76) rfl g 0 0 0 B W N' (.slice none 0 0) (.slice A' n' c') rfl rfl rfl K7g.out ?_
           rintro w8 K8 F8 Z8
           have K8g := Lib.hid K8
           have K8a : Hid (w8.heap[g + 1]? = some (aobj 42 z65)) := Lib.hid (by rw [F8.block (g + 1) (heap_lt K7a.out) (by omega)]; exact K7a.out)
           have B8 : Hid (Below g w5 w8) := Lib.hid (B7.out.trans (F8.below (by have := heap_lt K7g.out; omega) (fun j hj e => by omega)))
           clear K8 F8 Z8)
        | (refine wpList_alloc_arr rfl 42 rfl (g + 1) S6 z65 (alloc65 _) ?_
           rintro w7 K7 Z7 S7
           have K7a := Lib.hid K7
           have K7g := Lib.hid (kb_below K6 (by rw [S6]; exact Z7))
           have B7 : Hid (Below g w5 w7) := Lib.hid (B6.trans (Z7.mono (by omega)))
           clear K7 Z7 S7 K6 B6 S6)
        | (refine wpList_alloc_sobj rfl rfl g HG.out ?_; rintro w6 K6 B6 S6))
      have hsy10 : SyH w wa b gx B W N' t' A' n' c' V' := ⟨S9.out.own.beside F10 S9.out.newx hgb.symm, K10, S9.out.row.off S9.out.ref (by decide) F10, S9.out.newx, S9.out.tq, S9.out.bd⟩
      have hgg : g + 1 ≠ gx := by have h1 := heap_lt SY5.out.ref; rw [HG.out] at h1; omega
      have hc10 : wa.heap[g + 1]? = some (aobj 42 C) := by rw [F10.block (g + 1) (heap_lt K9c.out) hgg]; exact K9c.out
      have SY10 := Lib.hid hsy10
      have C10 := Lib.hid hc10
      clear K10 F10 Z10 hsy10 hgg hc10
      have M0 : Hid (max (N' / W) t' = t') := Lib.hid (by rw [HT.out, Nat.max_self])
      refine (oh_pct w b B W t' N' percent (lof V') wa t' K X Y SY10.out.own hNb hp hp' M0.out HKK.out HLOF.out (by rw [HC.out]; exact HX.out) (by rw [HC.out]; exact HY.out)).mono ?_
      rintro r wb ⟨rfl, f11, o11⟩
      have SY11 := Lib.hid (SY10.out.onB f11 o11)
      have C11 : Hid (wb.heap[g + 1]? = some (aobj 42 C)) := Lib.hid (SY10.out.own.his.kept f11 C10.out (by decide))
      clear f11 o11
      go_wp2_with (refine wpList_load_arr rfl 42 (.tmp 15) rfl (g + 1) rfl C C11.out 65 22 und65 (size65 HCOK.out.1) ?_)
      refine (HRP.out wb HCOK.out hp hp').mono ?_
      rintro r wc ⟨rfl, hb12⟩
      have hsy12 := SY11.out.below hb12
      have hc12 := kb_below C11.out hb12
      have SY12 := Lib.hid hsy12
      have C12 := Lib.hid hc12
      clear hb12 hsy12 hc12
      obtain ⟨cs, hcs⟩ : ∃ cs, C.map (Value.int .u64) = cs := ⟨_, rfl⟩
      have hsame : ∀ v, (Op.equalIn 10000 42 (.agg (arrU C)) (.agg cs.toArray)).run Try.prog v = .ok true v := fun v => by rw [← hcs]; exact same65 HCOK.out v
      have hu65 := und65
      have hi65 : (Try.prog.info? 42).map (·.size) = some cs.length := by rw [← hcs, List.length_map]; exact size65 HCOK.out.1
      have HCS := Lib.hid hcs
      clear hcs
      go_wp2
      go_region_held3 (fun v => v.rangeAt (g + 1) 0 cs)
        (first
          | (rw [← HCS.out]; exact aobj_range (show (World.drew wc).heap[g + 1]? = some (aobj 42 C) from C12.out))
          | (rw [← HCS.out]; exact aobj_range C12.out)
          | (rw [← HCS.out]; exact aobj_range c13))
        (first
          | (go_at_call 18
             refine (oh_all w b B W t' N' (lof V') _ t' K (SY12.out.ali (drew_ali _)).own hNb M0.out HKK.out HLOF.out).mono ?_
             rintro r wd2 ⟨rfl, f13, o13⟩
             have sy13 := (SY12.out.ali (drew_ali _)).onB f13 o13
             have c13 : wd2.heap[g + 1]? = some (aobj 42 C) := (SY12.out.ali (drew_ali _)).own.his.kept f13 (show (World.drew wc).heap[g + 1]? = some (aobj 42 C) from C12.out) (by decide)
             rw [HC.out]))
      have SY13 := Lib.hid sy13
      clear sy13 c13 f13 o13
      go_wp2
      go_roundg (len - (i + 1))
      case measure => have := HI.out; omega
      case rel => exact ⟨i + 1, N', t', A', n', c', V', by omega, by omega, by simp, rfl, hNb, HV'L.out, SY13.out⟩
    · clear hi hVl hsy
      by_cases h2 : i < len
      · have h2' : (i : Int) < len := by omega
        have h3' : ¬ (i : Int) < 100 := by omega
        clear hlt
        go_wp2
        go_ret
        exact ⟨rfl, SY.out.own.low⟩
      · have h2' : ¬ (i : Int) < len := by omega
        clear hlt
        go_wp2
        go_ret
        exact ⟨rfl, SY.out.own.low⟩
end Go.Proofs.Ytpheifdneafkhaa
