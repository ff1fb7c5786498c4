import Derived.Test.YtlgojnodhbmlkaaGreatDoorMExMaL
import Derived.Test.YtlgojnodhbmlkaaGreatDoorMExMaH
import Derived.Test.YtlgojnodhbmlkaaGreatDoorMExGd0
import Derived.Test.YtlgojnodhbmlkaaGreatDoorMExFt1
namespace Go.Proofs.YtlgojnodhbmlkaaGreatDoor
open Go.RowKit
attribute [local go_sem] Oper.semAt_some
namespace Ex

/-- The error of Match, Longest, Live. -/
def errP {n : Nat} (p : PatN (n + 1)) (len : Nat) : Int := if checkP p = 0 ∧ 262144 < len then 2 else checkP p
/-- Bytes that can be read. -/
def ByR (w : World) (v : Value) (bs : List Int) : Prop := ∃ a cap, v = .slice a bs.length cap ∧ bs.length ≤ cap ∧ (bs = [] ∨ ∃ c o, a = some ⟨c, o, none⟩ ∧ c < w.heap.size ∧ ∀ (i : Nat) (x : Int), bs[i]? = some x → w.cell? ⟨c, o + i, none⟩ = some (.int .u8 x))
theorem ByR.keep {w w' : World} {v : Value} {bs : List Int} (h : ByR w v bs) (hk : Kept w w') : ByR w' v bs := by
  obtain ⟨a, cap, e, h1, h2⟩ := h
  refine ⟨a, cap, e, h1, ?_⟩
  rcases h2 with h2 | ⟨c, o, h3, h4, h5⟩
  · exact .inl h2
  · exact .inr ⟨c, o, h3, Nat.lt_of_lt_of_le h4 hk.size, fun i x hi => grown_cell hk (h5 i x hi)⟩
theorem ByR.run {w : World} {v : Value} {bs : List Int} (h : ByR w v bs) (hl : bs.length ≤ 262144) : BytesIn (fun c => c < w.heap.size) w v bs := by
  obtain ⟨a, cap, e, h1, h2⟩ := h
  exact ⟨a, cap, e, h1, hl, h2⟩
theorem err_ok {n : Nat} {p : PatN (n + 1)} {len : Nat} (h : errP p len = 0) : checkP p = 0 ∧ len ≤ 262144 := by
  unfold errP at h
  split at h
  · omega
  · rename_i h2
    exact ⟨h, by omega⟩
theorem pl_max {l : List Nat} (h : l.Pairwise (· < ·)) {k : Nat} (hk : l[l.length - 1]? = some k) {j : Nat} (hj : j ∈ l) : j ≤ k := by
  obtain ⟨i, hi, e⟩ := List.mem_iff_getElem.1 hj
  obtain ⟨h1, h2⟩ := List.getElem?_eq_some_iff.1 hk
  by_cases e2 : i = l.length - 1
  · subst e2
    omega
  · have := List.pairwise_iff_getElem.1 h i (l.length - 1) hi h1 (by omega)
    omega
theorem ends_front {L : List Int → Prop} {bs : List Int} {k : Nat} : EndS L bs 0 k ↔ k ≤ bs.length ∧ L (bs.take k) := by
  unfold EndS
  rw [seg_whole]
  simp
theorem pl_none {L : List Int → Prop} {bs : List Int} (h : Pl (EndS L bs 0) []) : BestK L bs (-1) (bs.length + 1) ∧ ¬ L bs := by
  have h1 : ∀ k, ¬ EndS L bs 0 k := fun k hk => by have := (h.2 k).2 hk; simp at this
  refine ⟨.inl ⟨rfl, fun j hj hL => h1 j (ends_front.2 ⟨by omega, hL⟩)⟩, fun hL => h1 bs.length (ends_front.2 ⟨Nat.le_refl _, by rw [List.take_length]; exact hL⟩)⟩
theorem pl_last {L : List Int → Prop} {bs : List Int} {l : List Nat} {k : Nat} (h : Pl (EndS L bs 0) l) (hk : l[l.length - 1]? = some k) : BestK L bs (k : Int) (bs.length + 1) ∧ (k = bs.length ↔ L bs) ∧ k ≤ bs.length := by
  have hm := ends_front.1 ((h.2 k).1 (List.mem_of_getElem? hk))
  refine ⟨.inr ⟨k, by omega, rfl, hm.2, fun j h1 h2 hL => ?_⟩, ⟨fun e => ?_, fun hL => ?_⟩, hm.1⟩
  · have := pl_max h.1 hk ((h.2 j).2 (ends_front.2 ⟨by omega, hL⟩))
    omega
  · have := hm.2
    rw [e, List.take_length] at this
    exact this
  · have := pl_max h.1 hk ((h.2 bs.length).2 (ends_front.2 ⟨Nat.le_refl _, by rw [List.take_length]; exact hL⟩))
    omega
theorem kept_asked {w w1 w2 : World} {R : Nat → Nat} (h : Kept w w1) (hR : ∀ d, d < w.heap.size → R d = 0) (hk : RK R w1 w2) : Kept w w2 :=
  ⟨hk.1.trans h.1, hk.2.1.trans h.2.1, hk.2.2.1.trans h.2.2.1, Nat.le_trans h.size hk.size, fun d hd => (hk.same (Nat.lt_of_lt_of_le hd h.size) (.inl (hR d hd))).trans (h.2.2.2.2 d hd)⟩
set_option linter.unusedSimpArgs false in
set_option maxRecDepth 100000 in
set_option maxHeartbeats 4000000 in
theorem rchecked_is (n : Nat) (p : PatN (n + 1)) (vk : Value) (w : World) (hk : KidsAt (fun d => d < w.heap.size) w n (kids p) vk) (b : Option Addr) (len cap : Nat) (hlen : len ≤ 200000000000000) (er : Int) (her : errP p len = er) :
    Calls Tryz.prog 18 #[valOf p vk, .slice b len cap] w fun e w' => e = .returned (.int .i64 er) ∧ Kept w w' := by
  have HK := hide1 hk
  obtain ⟨ak, ck, rfl⟩ := hk.form
  obtain ⟨z, hz⟩ : ∃ z, checkP p = z := ⟨_, rfl⟩
  have HZ := hide1 hz
  have HER : Hid ((if z = 0 ∧ 262144 < len then 2 else z) = er) := by rw [← hz]; exact her
  rw [valOf_eq]
  clear hk hz her
  go_enter Tryz.func18, Tryz.ntmps18
  by_cases h0 : z = 0
  · have e0 : (z == 0) = true := by simpa using h0
    by_cases h1 : (262144 : Int) < (len : Int)
    · have HE2 : Hid (er = 2) := by have h := HER.out; rw [if_pos ⟨h0, by omega⟩] at h; exact h.symm
      clear h0
      go_wp2_with (go_at_call 29; refine (rCheck_is (fun d => d < w.heap.size) n p _ _ (HK.out.kept ((Kept.refl w).alloc _ _))).mono ?_; rintro e w6 ⟨rfl, hk6⟩; rw [HZ.out]; have HK6 := hide1 (gtrans ((Kept.refl w).alloc _ _) hk6); clear hk6)
      go_ret
      exact ⟨(by rw [HE2.out]; rfl), HK6.out⟩
    · have HE2 : Hid (er = z) := by have h := HER.out; rw [if_neg (by omega)] at h; exact h.symm
      clear h0
      go_wp2_with (go_at_call 29; refine (rCheck_is (fun d => d < w.heap.size) n p _ _ (HK.out.kept ((Kept.refl w).alloc _ _))).mono ?_; rintro e w6 ⟨rfl, hk6⟩; rw [HZ.out]; have HK6 := hide1 (gtrans ((Kept.refl w).alloc _ _) hk6); clear hk6)
      go_ret
      exact ⟨(by rw [HE2.out]; rfl), HK6.out⟩
  · have e0 : (z == 0) = false := by simpa using h0
    have HE2 : Hid (er = z) := by have h := HER.out; rw [if_neg (by omega)] at h; exact h.symm
    clear h0
    go_wp2_with (go_at_call 29; refine (rCheck_is (fun d => d < w.heap.size) n p _ _ (HK.out.kept ((Kept.refl w).alloc _ _))).mono ?_; rintro e w6 ⟨rfl, hk6⟩; rw [HZ.out]; have HK6 := hide1 (gtrans ((Kept.refl w).alloc _ _) hk6); clear hk6)
    go_ret
    exact ⟨(by rw [HE2.out]; rfl), HK6.out⟩
/-- What the document's three answer. -/
def MaG {n : Nat} (p : PatN (n + 1)) (bs : List Int) (w : World) (e : Ending) (w' : World) : Prop := ∃ m : Bool, e = .returned (.tuple #[.bool m, .int .i64 (errP p bs.length)]) ∧ Hid (m = true ↔ errP p bs.length = 0 ∧ LangN n p bs) ∧ Hid (Kept w w')
def LoG {n : Nat} (p : PatN (n + 1)) (bs : List Int) (w : World) (e : Ending) (w' : World) : Prop := ∃ l : Int, e = .returned (.tuple #[.int .i64 l, .int .i64 (errP p bs.length)]) ∧ Hid ((errP p bs.length = 0 → BestK (LangN n p) bs l (bs.length + 1)) ∧ (¬ errP p bs.length = 0 → l = 0)) ∧ Hid (Kept w w')
def LiG {n : Nat} (p : PatN (n + 1)) (bs : List Int) (w : World) (e : Ending) (w' : World) : Prop := ∃ m : Bool, e = .returned (.tuple #[.bool m, .int .i64 (errP p bs.length)]) ∧ Hid (m = true ↔ errP p bs.length = 0 ∧ LiveL (LangN n p) bs) ∧ Hid (Kept w w')
set_option linter.unusedSimpArgs false in
set_option maxRecDepth 100000 in
set_option maxHeartbeats 4000000 in
theorem rMatch_is (n : Nat) (p : PatN (n + 1)) (hC : AddC n p) (vk : Value) (w : World) (hk : KidsAt (fun d => d < w.heap.size) w n (kids p) vk) (b : Option Addr) (len cap : Nat) (bs : List Int) (hn : bs.length = len) (hlen : len ≤ 200000000000000) (hb : ByR w (.slice b len cap) bs) (hB : ∀ x ∈ bs, 0 ≤ x ∧ x ≤ 255) :
    Calls Tryz.prog 9 #[valOf p vk, .slice b len cap] w fun e w' => MaG p bs w e w' := by
  have HC := hide1 hC
  have HK := hide1 hk
  have HB := hide1 hb
  have HN := hide1 hn
  have HBB := hide1 hB
  obtain ⟨ak, ck, rfl⟩ := hk.form
  obtain ⟨er, her⟩ : ∃ er, errP p len = er := ⟨_, rfl⟩
  have HER := hide1 her
  have glen : (len : Int) ≤ 200000000000000 := by omega
  have HLEN := hide1 hlen
  rw [valOf_eq]
  clear hC hk hb hn hB her hlen
  go_enter Tryz.func9, Tryz.ntmps9
  have HBX := hide1 (BoxAt.new w (.int .i64 (kind p)) (.int .i64 (from_ p)) (.int .i64 (to_ p)) (.int .i64 (min_ p)) (.int .i64 (max_ p)) (.slice ak (kids p).length ck))
  have HK1 : Hid (Kept w (w.alloc (.cells #[.int .i64 (kind p), .int .i64 (from_ p), .int .i64 (to_ p), .int .i64 (min_ p), .int .i64 (max_ p), .slice ak (kids p).length ck] 24))) := (Kept.refl w).alloc _ _
  go_upto_region 1 with fail
  obtain ⟨w1, hw1⟩ : ∃ w1, w.alloc (.cells #[.int .i64 (kind p), .int .i64 (from_ p), .int .i64 (to_ p), .int .i64 (min_ p), .int .i64 (max_ p), .slice ak (kids p).length ck] 24) = w1 := ⟨_, rfl⟩
  rw [hw1] at HBX HK1 ⊢
  obtain ⟨gx, hgx⟩ : ∃ gx, w.heap.size = gx := ⟨_, rfl⟩
  rw [hgx] at HBX ⊢
  clear hw1 hgx
  obtain ⟨⟨x0, x1, x2, x3, x4, x5⟩, _⟩ := HBX.out.facts
  have HKK1 : Hid (KidsAt (fun d => d < w1.heap.size) w1 n (kids p) (.slice ak (kids p).length ck)) := KidsAt.mono (HK1.out.holds _) (fun d hd => Nat.lt_of_lt_of_le hd HK1.out.size) _ _ _ HK.out
  go_upto_region 2 with (go_at_call 18; refine (rchecked_is n p _ w1 HKK1.out b len cap HLEN.out er HER.out).mono ?_; rintro e w2 ⟨rfl, hk2⟩; have HK2 := hide1 (gtrans HK1.out hk2); have HBX2 := hide1 (HBX.out.keep hk2); have HKK2 : Hid (KidsAt (fun d => d < w2.heap.size) w2 n (kids p) (.slice ak (kids p).length ck)) := KidsAt.mono (hk2.holds _) (fun d hd => Nat.lt_of_lt_of_le hd hk2.size) _ _ _ HKK1.out; have HB2 := hide1 (HB.out.keep HK2.out); clear hk2)
  clear x0 x1 x2 x3 x4 x5
  obtain ⟨⟨x0, x1, x2, x3, x4, x5⟩, _⟩ := HBX2.out.facts
  by_cases h0 : er = 0
  · have e0 : (er != 0) = false := by simp [h0]
    have hok := err_ok (HER.out.trans h0)
    have HCH := hide1 hok.1
    have HL := hide1 hok.2
    have HE0 : Hid (errP p bs.length = 0) := by rw [HN.out, HER.out]; exact h0
    have HRUN : Hid (BytesIn (fun c => c < w2.heap.size) w2 (.slice b len cap) bs) := HB2.out.run (by rw [HN.out]; exact hok.2)
    have HSZ := hide1 (check_bounds hok.1).1
    obtain ⟨hsys, hl0, hpos⟩ := sys_p (check_right hok.1) (check_bounds hok.1).1
    have HSYS := hide1 hsys
    have HL0 := hide1 hl0
    have HPOS := hide1 hpos
    have gl2 : (len : Int) ≤ 262144 := by have := hok.2; omega
    subst h0
    clear hok hsys hl0 hpos
    go_upto_region 5 with (first
      | (go_at_call 20; refine (ends_all w3.heap.size (fun _ _ => none) nb bs (NDp n p) (LSp n p) HSYS.out HBB.out (NDp n p).length 0 (by omega) HPOS.out R3 w3 0 (Nat.zero_le _) HQ3.out).mono ?_; rintro e w4 ⟨R4, v4, l4, rfl, HQ4, HV4, HP4, HRK4, HRX4⟩; obtain ⟨a4, c4, e4, q1, q2⟩ := HV4.out.form; subst e4; obtain ⟨n4, hn4⟩ : ∃ n4, l4.length = n4 := ⟨_, rfl⟩; have HN4 := hide1 hn4; rw [hn4] at q1 q2 HV4 ⊢; have HK4 := hide1 (gtrans HK2.out (kept_asked HK3.out HR3.out HRK4.out)); clear hn4)
      | (go_at_call 19; refine (net_is n p HC.out HSZ.out _ w2 HKK2.out b len cap bs HN.out HRUN.out).mono ?_; rintro e w3 ⟨nb, R3, rfl, HQ3, HR3, HK3⟩))
    have HP5 : Hid (Pl (EndS (LangN n p) bs 0) l4) := by have h := HP4.out; rw [HL0.out] at h; exact h
    by_cases h4 : n4 = 0
    · have HL4 : Hid (l4 = []) := List.length_eq_zero_iff.1 (by rw [HN4.out]; exact h4)
      have b4 : decide ((0 : Int) < (n4 : Int)) = false := by simp [h4]
      have HPN := hide1 (pl_none (by have h := HP5.out; rw [HL4.out] at h; exact h))
      subst h4
      go_wp2_with fail
      go_ret2
      exact ⟨false, (by rw [HE0.out]; rfl), ⟨fun e => absurd e (by simp), fun h => absurd h.2 HPN.out.2⟩, HK4⟩
    · obtain ⟨k, hk⟩ : ∃ k, l4[l4.length - 1]? = some k := ⟨_, List.getElem?_eq_getElem (by have := HN4.out; omega)⟩
      have b4 : decide ((0 : Int) < (n4 : Int)) = true := by simp; omega
      have HPL := hide1 (pl_last HP5.out hk)
      obtain ⟨cc, oo, e4, hc⟩ := HV4.out.cell hk
      subst e4
      obtain ⟨m4, hm4⟩ : ∃ m4, n4 = m4 + 1 := ⟨n4 - 1, by omega⟩
      rw [HN4.out] at hc
      subst hm4
      have hc : w4.cell? ⟨cc, oo + m4, none⟩ = some (.int .i64 (k : Int)) := by simpa using hc
      have g5 : ((m4 + 1 : Nat) : Int) - 1 = (m4 : Int) := by omega
      have g6 : (m4 : Int) < (c4 : Int) := by omega
      have g7 : (0 : Int) < (m4 : Int) + 1 := by omega
      have gk : (k : Int) ≤ (len : Int) := by have h := HPL.out.2.2; rw [HN.out] at h; omega
      clear hk
      by_cases hkl : (k : Int) = (len : Int)
      · have bk : ((k : Int) == (len : Int)) = true := by simpa using hkl
        have HKL : Hid (k = bs.length) := by rw [HN.out]; show _ = _; omega
        clear hkl
        go_wp2_with fail
        go_ret2
        exact ⟨true, (by rw [HE0.out]; rfl), ⟨fun _ => ⟨HE0.out, HPL.out.2.1.1 HKL.out⟩, fun _ => rfl⟩, HK4⟩
      · have bk : ((k : Int) == (len : Int)) = false := by simpa using hkl
        have HKL : Hid (¬ k = bs.length) := by rw [HN.out]; show ¬ _; omega
        clear hkl
        go_wp2_with fail
        go_ret2
        exact ⟨false, (by rw [HE0.out]; rfl), ⟨fun e => absurd e (by simp), fun h => absurd (HPL.out.2.1.2 h.2) HKL.out⟩, HK4⟩
  · have e0 : (er != 0) = true := by simpa using h0
    have HE0 : Hid (¬ errP p bs.length = 0) := by rw [HN.out, HER.out]; exact h0
    have HER2 : Hid (er = errP p bs.length) := by rw [HN.out]; exact HER.out.symm
    clear h0
    go_wp2_with fail
    go_ret2
    exact ⟨false, (by rw [← HER2.out]; rfl), ⟨fun e => absurd e (by simp), fun h => absurd h.1 HE0.out⟩, HK2⟩
set_option linter.unusedSimpArgs false in
set_option maxRecDepth 100000 in
set_option maxHeartbeats 4000000 in
theorem rLongest_is (n : Nat) (p : PatN (n + 1)) (hC : AddC n p) (vk : Value) (w : World) (hk : KidsAt (fun d => d < w.heap.size) w n (kids p) vk) (b : Option Addr) (len cap : Nat) (bs : List Int) (hn : bs.length = len) (hlen : len ≤ 200000000000000) (hb : ByR w (.slice b len cap) bs) (hB : ∀ x ∈ bs, 0 ≤ x ∧ x ≤ 255) :
    Calls Tryz.prog 10 #[valOf p vk, .slice b len cap] w fun e w' => LoG p bs w e w' := by
  have HC := hide1 hC
  have HK := hide1 hk
  have HB := hide1 hb
  have HN := hide1 hn
  have HBB := hide1 hB
  obtain ⟨ak, ck, rfl⟩ := hk.form
  obtain ⟨er, her⟩ : ∃ er, errP p len = er := ⟨_, rfl⟩
  have HER := hide1 her
  have glen : (len : Int) ≤ 200000000000000 := by omega
  have HLEN := hide1 hlen
  rw [valOf_eq]
  clear hC hk hb hn hB her hlen
  go_enter Tryz.func10, Tryz.ntmps10
  have HBX := hide1 (BoxAt.new w (.int .i64 (kind p)) (.int .i64 (from_ p)) (.int .i64 (to_ p)) (.int .i64 (min_ p)) (.int .i64 (max_ p)) (.slice ak (kids p).length ck))
  have HK1 : Hid (Kept w (w.alloc (.cells #[.int .i64 (kind p), .int .i64 (from_ p), .int .i64 (to_ p), .int .i64 (min_ p), .int .i64 (max_ p), .slice ak (kids p).length ck] 24))) := (Kept.refl w).alloc _ _
  go_upto_region 1 with fail
  obtain ⟨w1, hw1⟩ : ∃ w1, w.alloc (.cells #[.int .i64 (kind p), .int .i64 (from_ p), .int .i64 (to_ p), .int .i64 (min_ p), .int .i64 (max_ p), .slice ak (kids p).length ck] 24) = w1 := ⟨_, rfl⟩
  rw [hw1] at HBX HK1 ⊢
  obtain ⟨gx, hgx⟩ : ∃ gx, w.heap.size = gx := ⟨_, rfl⟩
  rw [hgx] at HBX ⊢
  clear hw1 hgx
  obtain ⟨⟨x0, x1, x2, x3, x4, x5⟩, _⟩ := HBX.out.facts
  have HKK1 : Hid (KidsAt (fun d => d < w1.heap.size) w1 n (kids p) (.slice ak (kids p).length ck)) := KidsAt.mono (HK1.out.holds _) (fun d hd => Nat.lt_of_lt_of_le hd HK1.out.size) _ _ _ HK.out
  go_upto_region 2 with (go_at_call 18; refine (rchecked_is n p _ w1 HKK1.out b len cap HLEN.out er HER.out).mono ?_; rintro e w2 ⟨rfl, hk2⟩; have HK2 := hide1 (gtrans HK1.out hk2); have HBX2 := hide1 (HBX.out.keep hk2); have HKK2 : Hid (KidsAt (fun d => d < w2.heap.size) w2 n (kids p) (.slice ak (kids p).length ck)) := KidsAt.mono (hk2.holds _) (fun d hd => Nat.lt_of_lt_of_le hd hk2.size) _ _ _ HKK1.out; have HB2 := hide1 (HB.out.keep HK2.out); clear hk2)
  clear x0 x1 x2 x3 x4 x5
  obtain ⟨⟨x0, x1, x2, x3, x4, x5⟩, _⟩ := HBX2.out.facts
  by_cases h0 : er = 0
  · have e0 : (er != 0) = false := by simp [h0]
    have hok := err_ok (HER.out.trans h0)
    have HCH := hide1 hok.1
    have HL := hide1 hok.2
    have HE0 : Hid (errP p bs.length = 0) := by rw [HN.out, HER.out]; exact h0
    have HRUN : Hid (BytesIn (fun c => c < w2.heap.size) w2 (.slice b len cap) bs) := HB2.out.run (by rw [HN.out]; exact hok.2)
    have HSZ := hide1 (check_bounds hok.1).1
    obtain ⟨hsys, hl0, hpos⟩ := sys_p (check_right hok.1) (check_bounds hok.1).1
    have HSYS := hide1 hsys
    have HL0 := hide1 hl0
    have HPOS := hide1 hpos
    have gl2 : (len : Int) ≤ 262144 := by have := hok.2; omega
    subst h0
    clear hok hsys hl0 hpos
    go_upto_region 5 with (first
      | (go_at_call 20; refine (ends_all w3.heap.size (fun _ _ => none) nb bs (NDp n p) (LSp n p) HSYS.out HBB.out (NDp n p).length 0 (by omega) HPOS.out R3 w3 0 (Nat.zero_le _) HQ3.out).mono ?_; rintro e w4 ⟨R4, v4, l4, rfl, HQ4, HV4, HP4, HRK4, HRX4⟩; obtain ⟨a4, c4, e4, q1, q2⟩ := HV4.out.form; subst e4; obtain ⟨n4, hn4⟩ : ∃ n4, l4.length = n4 := ⟨_, rfl⟩; have HN4 := hide1 hn4; rw [hn4] at q1 q2 HV4 ⊢; have HK4 := hide1 (gtrans HK2.out (kept_asked HK3.out HR3.out HRK4.out)); clear hn4)
      | (go_at_call 19; refine (net_is n p HC.out HSZ.out _ w2 HKK2.out b len cap bs HN.out HRUN.out).mono ?_; rintro e w3 ⟨nb, R3, rfl, HQ3, HR3, HK3⟩))
    have HP5 : Hid (Pl (EndS (LangN n p) bs 0) l4) := by have h := HP4.out; rw [HL0.out] at h; exact h
    by_cases h4 : n4 = 0
    · have HL4 : Hid (l4 = []) := List.length_eq_zero_iff.1 (by rw [HN4.out]; exact h4)
      have b4 : decide ((0 : Int) < (n4 : Int)) = false := by simp [h4]
      have HPN := hide1 (pl_none (by have h := HP5.out; rw [HL4.out] at h; exact h))
      subst h4
      go_wp2_with fail
      go_ret2
      exact ⟨-1, (by rw [HE0.out]; rfl), ⟨fun _ => HPN.out.1, fun h => absurd HE0.out h⟩, HK4⟩
    · obtain ⟨k, hk⟩ : ∃ k, l4[l4.length - 1]? = some k := ⟨_, List.getElem?_eq_getElem (by have := HN4.out; omega)⟩
      have b4 : decide ((0 : Int) < (n4 : Int)) = true := by simp; omega
      have HPL := hide1 (pl_last HP5.out hk)
      obtain ⟨cc, oo, e4, hc⟩ := HV4.out.cell hk
      subst e4
      obtain ⟨m4, hm4⟩ : ∃ m4, n4 = m4 + 1 := ⟨n4 - 1, by omega⟩
      rw [HN4.out] at hc
      subst hm4
      have hc : w4.cell? ⟨cc, oo + m4, none⟩ = some (.int .i64 (k : Int)) := by simpa using hc
      have g5 : ((m4 + 1 : Nat) : Int) - 1 = (m4 : Int) := by omega
      have g6 : (m4 : Int) < (c4 : Int) := by omega
      have g7 : (0 : Int) < (m4 : Int) + 1 := by omega
      have gk : (k : Int) ≤ (len : Int) := by have h := HPL.out.2.2; rw [HN.out] at h; omega
      clear hk
      go_wp2_with fail
      go_ret2
      exact ⟨(k : Int), (by rw [HE0.out]; rfl), ⟨fun _ => HPL.out.1, fun h => absurd HE0.out h⟩, HK4⟩
  · have e0 : (er != 0) = true := by simpa using h0
    have HE0 : Hid (¬ errP p bs.length = 0) := by rw [HN.out, HER.out]; exact h0
    have HER2 : Hid (er = errP p bs.length) := by rw [HN.out]; exact HER.out.symm
    clear h0
    go_wp2_with fail
    go_ret2
    exact ⟨0, (by rw [← HER2.out]; rfl), ⟨fun h => absurd h HE0.out, fun _ => rfl⟩, HK2⟩
set_option linter.unusedSimpArgs false in
set_option maxRecDepth 100000 in
set_option maxHeartbeats 4000000 in
theorem rLive_is (n : Nat) (p : PatN (n + 1)) (hC : AddC n p) (vk : Value) (w : World) (hk : KidsAt (fun d => d < w.heap.size) w n (kids p) vk) (b : Option Addr) (len cap : Nat) (bs : List Int) (hn : bs.length = len) (hlen : len ≤ 200000000000000) (hb : ByR w (.slice b len cap) bs) (hB : ∀ x ∈ bs, 0 ≤ x ∧ x ≤ 255) :
    Calls Tryz.prog 11 #[valOf p vk, .slice b len cap] w fun e w' => LiG p bs w e w' := by
  have HC := hide1 hC
  have HK := hide1 hk
  have HB := hide1 hb
  have HN := hide1 hn
  have HBB := hide1 hB
  obtain ⟨ak, ck, rfl⟩ := hk.form
  obtain ⟨er, her⟩ : ∃ er, errP p len = er := ⟨_, rfl⟩
  have HER := hide1 her
  have glen : (len : Int) ≤ 200000000000000 := by omega
  have HLEN := hide1 hlen
  rw [valOf_eq]
  clear hC hk hb hn hB her hlen
  go_enter Tryz.func11, Tryz.ntmps11
  have HBX := hide1 (BoxAt.new w (.int .i64 (kind p)) (.int .i64 (from_ p)) (.int .i64 (to_ p)) (.int .i64 (min_ p)) (.int .i64 (max_ p)) (.slice ak (kids p).length ck))
  have HK1 : Hid (Kept w (w.alloc (.cells #[.int .i64 (kind p), .int .i64 (from_ p), .int .i64 (to_ p), .int .i64 (min_ p), .int .i64 (max_ p), .slice ak (kids p).length ck] 24))) := (Kept.refl w).alloc _ _
  go_upto_region 1 with fail
  obtain ⟨w1, hw1⟩ : ∃ w1, w.alloc (.cells #[.int .i64 (kind p), .int .i64 (from_ p), .int .i64 (to_ p), .int .i64 (min_ p), .int .i64 (max_ p), .slice ak (kids p).length ck] 24) = w1 := ⟨_, rfl⟩
  rw [hw1] at HBX HK1 ⊢
  obtain ⟨gx, hgx⟩ : ∃ gx, w.heap.size = gx := ⟨_, rfl⟩
  rw [hgx] at HBX ⊢
  clear hw1 hgx
  obtain ⟨⟨x0, x1, x2, x3, x4, x5⟩, _⟩ := HBX.out.facts
  have HKK1 : Hid (KidsAt (fun d => d < w1.heap.size) w1 n (kids p) (.slice ak (kids p).length ck)) := KidsAt.mono (HK1.out.holds _) (fun d hd => Nat.lt_of_lt_of_le hd HK1.out.size) _ _ _ HK.out
  go_upto_region 2 with (go_at_call 18; refine (rchecked_is n p _ w1 HKK1.out b len cap HLEN.out er HER.out).mono ?_; rintro e w2 ⟨rfl, hk2⟩; have HK2 := hide1 (gtrans HK1.out hk2); have HBX2 := hide1 (HBX.out.keep hk2); have HKK2 : Hid (KidsAt (fun d => d < w2.heap.size) w2 n (kids p) (.slice ak (kids p).length ck)) := KidsAt.mono (hk2.holds _) (fun d hd => Nat.lt_of_lt_of_le hd hk2.size) _ _ _ HKK1.out; have HB2 := hide1 (HB.out.keep HK2.out); clear hk2)
  clear x0 x1 x2 x3 x4 x5
  obtain ⟨⟨x0, x1, x2, x3, x4, x5⟩, _⟩ := HBX2.out.facts
  by_cases h0 : er = 0
  · have e0 : (er != 0) = false := by simp [h0]
    have hok := err_ok (HER.out.trans h0)
    have HCH := hide1 hok.1
    have HL := hide1 hok.2
    have HE0 : Hid (errP p bs.length = 0) := by rw [HN.out, HER.out]; exact h0
    have HRUN : Hid (BytesIn (fun c => c < w2.heap.size) w2 (.slice b len cap) bs) := HB2.out.run (by rw [HN.out]; exact hok.2)
    have HSZ := hide1 (check_bounds hok.1).1
    obtain ⟨hsys, hl0, hpos⟩ := sys_p (check_right hok.1) (check_bounds hok.1).1
    have HSYS := hide1 hsys
    have HL0 := hide1 hl0
    have HPOS := hide1 hpos
    have gl2 : (len : Int) ≤ 262144 := by have := hok.2; omega
    subst h0
    clear hok hsys hl0 hpos
    go_wp2_with (first
      | (go_at_call 21; refine (live_all w3.heap.size nb bs (NDp n p) (LSp n p) HSYS.out HBB.out (NDp n p).length 0 (fun _ _ => none) (by omega) HPOS.out (fun _ _ _ => rfl) R3 w3 0 (Nat.zero_le _) HQ3.out).mono ?_; rintro e w4 ⟨R4, m4, rfl, HM4, HQ4, HRK4, HRX4⟩; have HK4 := hide1 (gtrans HK2.out (kept_asked HK3.out HR3.out HRK4.out)))
      | (go_at_call 19; refine (net_is n p HC.out HSZ.out _ w2 HKK2.out b len cap bs HN.out HRUN.out).mono ?_; rintro e w3 ⟨nb, R3, rfl, HQ3, HR3, HK3⟩))
    go_ret2
    refine ⟨m4, (by rw [HE0.out]; rfl), HM4.out.trans ?_, HK4⟩
    rw [HL0.out]
    exact ⟨fun h => ⟨HE0.out, by simpa [LiveS] using h⟩, fun h => by simpa [LiveS] using h.2⟩
  · have e0 : (er != 0) = true := by simpa using h0
    have HE0 : Hid (¬ errP p bs.length = 0) := by rw [HN.out, HER.out]; exact h0
    have HER2 : Hid (er = errP p bs.length) := by rw [HN.out]; exact HER.out.symm
    clear h0
    go_wp2_with fail
    go_ret2
    exact ⟨false, (by rw [← HER2.out]; rfl), ⟨fun e => absurd e (by simp), fun h => absurd h.1 HE0.out⟩, HK2⟩

end Ex
end Go.Proofs.YtlgojnodhbmlkaaGreatDoor
namespace Go.Proofs.YtlgojnodhbmlkaaGreatDoor
open Go.RowKit
attribute [local go_sem] Oper.semAt_some
namespace Ex

set_option linter.unusedSimpArgs false in
set_option maxRecDepth 100000 in
set_option maxHeartbeats 4000000 in
theorem run_long (n : Nat) (p : PatN (n + 1)) (hck : checkP p = 0) (S : Nat → Prop) (vk : Value) (w : World) (hk : KidsAt S w n (kids p) vk) (hS : ∀ d, S d → d < w.heap.size) (b : Option Addr) (cap len : Nat) (hl : 262144 < len) (hl2 : len ≤ 200000000000000) :
    Calls Tryz.prog 17 #[valOf p vk, .slice b len cap] w fun e w' => e = .returned (.tuple #[.int .i64 0, .int .i64 0, .int .i64 2]) ∧ Kept w w' := by
  have HCH := hide1 hck
  have HK := hide1 hk
  have HS := hide1 hS
  obtain ⟨ak, ck', rfl⟩ := hk.form
  have g1 : (262144 : Int) < (len : Int) := by omega
  have g2 : (len : Int) ≤ 200000000000000 := by omega
  rw [valOf_eq]
  clear hck hk hS hl hl2
  go_enter Tryz.func17, Tryz.ntmps17
  go_wp2_with (go_at_call 26; refine (Check_is S n p _ _ (HK.out.kept ((Kept.refl w).alloc _ _)) (fun b hb => Nat.lt_of_lt_of_le (HS.out b hb) ((Kept.refl w).alloc _ _).size)).mono ?_; rintro e w6 ⟨rfl, hk6⟩; rw [HCH.out]; have HK6 := hide1 (gtrans ((Kept.refl w).alloc _ _) hk6); clear hk6)
  go_ret3
  exact ⟨rfl, HK6.out⟩
theorem run_err (n : Nat) (p : PatN (n + 1)) (S : Nat → Prop) (ak : Option Addr) (ck : Nat) (w : World) (hk : KidsAt S w n (kids p) (.slice ak (kids p).length ck)) (hS : ∀ d, S d → d < w.heap.size) (b : Option Addr) (cap len : Nat) (hl2 : len ≤ 200000000000000) (er : Int) (her : errP p len = er) (h0 : ¬ er = 0) :
    Calls Tryz.prog 17 #[.agg #[.int .i64 (kind p), .int .i64 (from_ p), .int .i64 (to_ p), .int .i64 (min_ p), .int .i64 (max_ p), .slice ak (kids p).length ck], .slice b len cap] w fun e w' => e = .returned (.tuple #[.int .i64 0, .int .i64 0, .int .i64 er]) ∧ Kept w w' := by
  by_cases hc : checkP p = 0
  · have hl : 262144 < len := by
      unfold errP at her
      split at her
      · rename_i h; exact h.2
      · omega
    have e : er = 2 := by unfold errP at her; rw [if_pos ⟨hc, hl⟩] at her; exact her.symm
    subst e
    exact run_long n p hc S _ w hk hS b cap len hl hl2
  · have e : er = checkP p := by unfold errP at her; rw [if_neg (by omega)] at her; exact her.symm
    subst e
    exact run_bad n p _ rfl hc S _ w hk hS b cap len
theorem err_short {n : Nat} {p : PatN (n + 1)} {len : Nat} (h : len ≤ 262144) : errP p len = checkP p := by
  unfold errP
  rw [if_neg (by omega)]
set_option linter.unusedSimpArgs false in
set_option maxRecDepth 100000 in
set_option maxHeartbeats 4000000 in
theorem Match_bad (n : Nat) (p : PatN (n + 1)) (S : Nat → Prop) (vk : Value) (w : World) (hk : KidsAt S w n (kids p) vk) (hS : ∀ d, S d → d < w.heap.size) (b : Option Addr) (cap len : Nat) (hl2 : len ≤ 200000000000000) (er : Int) (her : errP p len = er) (h0 : ¬ er = 0) :
    Calls Tryz.prog 6 #[valOf p vk, .slice b len cap] w fun e w' => e = .returned (.tuple #[.bool false, .int .i64 er]) ∧ Kept w w' := by
  have HK := hide1 hk
  have HS := hide1 hS
  have HL := hide1 hl2
  have HE := hide1 her
  have H0 := hide1 h0
  have ez : (er == 0) = false := by simpa using h0
  obtain ⟨ak, ck, rfl⟩ := hk.form
  rw [valOf_eq]
  clear hk hS her h0 hl2
  go_enter Tryz.func6, Tryz.ntmps6
  go_wp2_with (go_at_call 17; refine (run_err n p S ak ck _ (HK.out.kept ((Kept.refl w).alloc _ _)) (fun d hd => Nat.lt_of_lt_of_le (HS.out d hd) ((Kept.refl w).alloc _ _).size) b cap len HL.out er HE.out H0.out).mono ?_; rintro e w6 ⟨rfl, hk6⟩; have HK6 := hide1 (gtrans ((Kept.refl w).alloc _ _) hk6); clear hk6)
  go_ret2
  exact ⟨rfl, HK6.out⟩
set_option linter.unusedSimpArgs false in
set_option maxRecDepth 100000 in
set_option maxHeartbeats 4000000 in
theorem Longest_bad (n : Nat) (p : PatN (n + 1)) (S : Nat → Prop) (vk : Value) (w : World) (hk : KidsAt S w n (kids p) vk) (hS : ∀ d, S d → d < w.heap.size) (b : Option Addr) (cap len : Nat) (hl2 : len ≤ 200000000000000) (er : Int) (her : errP p len = er) (h0 : ¬ er = 0) :
    Calls Tryz.prog 7 #[valOf p vk, .slice b len cap] w fun e w' => e = .returned (.tuple #[.int .i64 0, .int .i64 er]) ∧ Kept w w' := by
  have HK := hide1 hk
  have HS := hide1 hS
  have HL := hide1 hl2
  have HE := hide1 her
  have H0 := hide1 h0
  have ez : (er == 0) = false := by simpa using h0
  obtain ⟨ak, ck, rfl⟩ := hk.form
  rw [valOf_eq]
  clear hk hS her h0 hl2
  go_enter Tryz.func7, Tryz.ntmps7
  go_wp2_with (go_at_call 17; refine (run_err n p S ak ck _ (HK.out.kept ((Kept.refl w).alloc _ _)) (fun d hd => Nat.lt_of_lt_of_le (HS.out d hd) ((Kept.refl w).alloc _ _).size) b cap len HL.out er HE.out H0.out).mono ?_; rintro e w6 ⟨rfl, hk6⟩; have HK6 := hide1 (gtrans ((Kept.refl w).alloc _ _) hk6); clear hk6)
  go_ret2
  exact ⟨rfl, HK6.out⟩
set_option linter.unusedSimpArgs false in
set_option maxRecDepth 100000 in
set_option maxHeartbeats 4000000 in
theorem Live_bad (n : Nat) (p : PatN (n + 1)) (S : Nat → Prop) (vk : Value) (w : World) (hk : KidsAt S w n (kids p) vk) (hS : ∀ d, S d → d < w.heap.size) (b : Option Addr) (cap len : Nat) (hl2 : len ≤ 200000000000000) (er : Int) (her : errP p len = er) (h0 : ¬ er = 0) :
    Calls Tryz.prog 8 #[valOf p vk, .slice b len cap] w fun e w' => e = .returned (.tuple #[.bool false, .int .i64 er]) ∧ Kept w w' := by
  have HK := hide1 hk
  have HS := hide1 hS
  have HL := hide1 hl2
  have HE := hide1 her
  have H0 := hide1 h0
  have ez : (er == 0) = false := by simpa using h0
  obtain ⟨ak, ck, rfl⟩ := hk.form
  rw [valOf_eq]
  clear hk hS her h0 hl2
  go_enter Tryz.func8, Tryz.ntmps8
  go_wp2_with (go_at_call 17; refine (run_err n p S ak ck _ (HK.out.kept ((Kept.refl w).alloc _ _)) (fun d hd => Nat.lt_of_lt_of_le (HS.out d hd) ((Kept.refl w).alloc _ _).size) b cap len HL.out er HE.out H0.out).mono ?_; rintro e w6 ⟨rfl, hk6⟩; have HK6 := hide1 (gtrans ((Kept.refl w).alloc _ _) hk6); clear hk6)
  go_ret2
  exact ⟨rfl, HK6.out⟩
theorem oMatch_is (n : Nat) (p : PatN (n + 1)) (vk : Value) (w : World) (hk : KidsAt (fun d => d < w.heap.size) w n (kids p) vk) (hT : TabAt w) (b : Option Addr) (len cap : Nat) (bs : List Int) (hn : bs.length = len) (hlen : len ≤ 200000000000000) (hb : ByR w (.slice b len cap) bs) :
    Calls Tryz.prog 6 #[valOf p vk, .slice b len cap] w fun e w' => MaG p bs w e w' := by
  by_cases hl : bs.length ≤ 262144
  · refine (Match_is n p (fun d => d < w.heap.size) vk w hk (fun _ h => h) hT b cap len bs hn (hb.run hl) hl).mono ?_
    rintro e w' ⟨rfl, hk'⟩
    have e := err_short (p := p) hl
    refine ⟨matchP p bs, by rw [e], ?_, hk'⟩
    rw [e]
    by_cases hc : checkP p = 0
    · rw [match_iff hc]
      exact ⟨fun h => ⟨hc, h⟩, fun h => h.2⟩
    · constructor
      · intro h
        unfold matchP at h
        rw [Bool.and_eq_true, beq_iff_eq] at h
        exact absurd h.1 hc
      · intro h; exact absurd h.1 hc
  · have h0 : ¬ errP p bs.length = 0 := fun h => by have := (err_ok h).2; omega
    subst hn
    refine (Match_bad n p (fun d => d < w.heap.size) vk w hk (fun _ h => h) b cap bs.length hlen _ rfl h0).mono ?_
    rintro e w' ⟨rfl, hk'⟩
    exact ⟨false, rfl, ⟨fun e => absurd e (by simp), fun h => absurd h.1 h0⟩, hk'⟩
theorem oLongest_is (n : Nat) (p : PatN (n + 1)) (vk : Value) (w : World) (hk : KidsAt (fun d => d < w.heap.size) w n (kids p) vk) (hT : TabAt w) (b : Option Addr) (len cap : Nat) (bs : List Int) (hn : bs.length = len) (hlen : len ≤ 200000000000000) (hb : ByR w (.slice b len cap) bs) :
    Calls Tryz.prog 7 #[valOf p vk, .slice b len cap] w fun e w' => LoG p bs w e w' := by
  by_cases hl : bs.length ≤ 262144
  · refine (Longest_is n p (fun d => d < w.heap.size) vk w hk (fun _ h => h) hT b cap len bs hn (hb.run hl) hl).mono ?_
    rintro e w' ⟨rfl, hk'⟩
    have e := err_short (p := p) hl
    refine ⟨runL p bs, by rw [e], ⟨fun h => ?_, fun h => ?_⟩, hk'⟩
    · rw [e] at h
      obtain ⟨_, _, _, _, _, h5⟩ := runP_spec h bs
      unfold runL
      rw [if_pos h]
      exact h5
    · rw [e] at h
      unfold runL
      rw [if_neg h]
  · have h0 : ¬ errP p bs.length = 0 := fun h => by have := (err_ok h).2; omega
    subst hn
    refine (Longest_bad n p (fun d => d < w.heap.size) vk w hk (fun _ h => h) b cap bs.length hlen _ rfl h0).mono ?_
    rintro e w' ⟨rfl, hk'⟩
    exact ⟨0, rfl, ⟨fun h => absurd h h0, fun _ => rfl⟩, hk'⟩
theorem oLive_is (n : Nat) (p : PatN (n + 1)) (vk : Value) (w : World) (hk : KidsAt (fun d => d < w.heap.size) w n (kids p) vk) (hT : TabAt w) (b : Option Addr) (len cap : Nat) (bs : List Int) (hn : bs.length = len) (hlen : len ≤ 200000000000000) (hb : ByR w (.slice b len cap) bs) :
    Calls Tryz.prog 8 #[valOf p vk, .slice b len cap] w fun e w' => LiG p bs w e w' := by
  by_cases hl : bs.length ≤ 262144
  · refine (Live_is n p (fun d => d < w.heap.size) vk w hk (fun _ h => h) hT b cap len bs hn (hb.run hl) hl).mono ?_
    rintro e w' ⟨rfl, hk'⟩
    have e := err_short (p := p) hl
    refine ⟨liveP p bs, by rw [e], ?_, hk'⟩
    rw [e]
    by_cases hc : checkP p = 0
    · rw [live_iff hc]
      exact ⟨fun h => ⟨hc, h⟩, fun h => h.2⟩
    · constructor
      · intro h
        unfold liveP at h
        rw [Bool.and_eq_true, beq_iff_eq] at h
        exact absurd h.1 hc
      · intro h; exact absurd h.1 hc
  · have h0 : ¬ errP p bs.length = 0 := fun h => by have := (err_ok h).2; omega
    subst hn
    refine (Live_bad n p (fun d => d < w.heap.size) vk w hk (fun _ h => h) b cap bs.length hlen _ rfl h0).mono ?_
    rintro e w' ⟨rfl, hk'⟩
    exact ⟨false, rfl, ⟨fun e => absurd e (by simp), fun h => absurd h.1 h0⟩, hk'⟩

theorem run_make8L (n : Nat) (hn : n ≤ 281474976710656) (w : World) : (Instr.makeSlice 27 (.int .i64 (n : Int)) (.int .i64 (n : Int))).run Tryz.prog w = .ok (.slice (some ⟨w.heap.size, 0, none⟩) n n) (w.alloc (.cells (byteV (List.replicate n 0)).toArray 5)) := by
  obtain ⟨i0, hi, hz0, hz1, hz2⟩ := info_parts u8_info
  rw [run_make (P := Tryz.prog) w 27 5 i0 _ Tryz.underlying27 hi hz0 .i64 .i64 n n (by omega) (Int.le_refl _) (by rw [hz2]; omega) (by omega)]
  rw [hz1]
  have e : madeCells (Value.int .u8 0).cells ((n : Int).toNat * 1) = (byteV (List.replicate n 0)).toArray := by
    unfold madeCells byteV
    apply Array.ext_getElem?
    intro i
    simp only [Int.toNat_natCast, Nat.mul_one, Array.getElem?_map, List.getElem?_toArray, List.getElem?_map, List.getElem?_replicate]
    by_cases h : i < n
    · simp [h, Value.cells, Nat.mod_one]
    · simp [h]
  rw [e]
  simp
theorem FillAt.keep {w w' : World} {g : Nat} {cs : List Int} (h : FillAt w g cs) (hk : Kept w w') : FillAt w' g cs := (hk.2.2.2.2 g h.lt).trans h
theorem FillAt.asBy {w : World} {g n : Nat} {bs ys : List Int} (h : FillAt w g (bs ++ ys)) (hn : bs.length = n) (c : Nat) (hc : n ≤ c) : ByR w (.slice (some ⟨g, 0, none⟩) n c) bs := by
  subst hn
  refine ⟨_, c, rfl, hc, .inr ⟨g, 0, rfl, h.lt, fun i x hi => ?_⟩⟩
  rw [Nat.zero_add]
  refine h.cell ?_
  rw [List.getElem?_append_left (List.getElem?_eq_some_iff.1 hi).1]
  exact hi
/-- What Hand answers. -/
def HandM (n : Nat) (bs : List Int) (w : World) (e : Ending) (w' : World) : Prop := ∃ g, e = .returned (.slice (some ⟨g, 0, none⟩) n (n + 2)) ∧ Hid (FillAt w' g (bs ++ [171, 205])) ∧ Hid (Kept w w')
theorem hand_end {cs bs : List Int} {n : Nat} (hn : bs.length = n) (hc : cs.length = n + 2) (h : ∀ k, k < n → cs[k]? = bs[k]?) : (cs.set n 171).set (n + 1) 205 = bs ++ [171, 205] := by
  apply List.ext_getElem?
  intro k
  by_cases h1 : k < n
  · rw [List.getElem?_set_ne (by omega), List.getElem?_set_ne (by omega), h k h1, List.getElem?_append_left (by omega)]
  · by_cases h2 : k = n
    · subst h2
      rw [List.getElem?_set_ne (by omega), List.getElem?_set_self (by omega), List.getElem?_append_right (by omega), hn, Nat.sub_self]
      rfl
    · by_cases h3 : k = n + 1
      · subst h3
        rw [List.getElem?_set_self (by rw [List.length_set]; omega), List.getElem?_append_right (by omega), hn, show n + 1 - n = 1 by omega]
        rfl
      · rw [List.getElem?_eq_none (by rw [List.length_set, List.length_set]; omega), List.getElem?_eq_none (by rw [List.length_append]; simp; omega)]
set_option linter.unusedSimpArgs false in
set_option maxRecDepth 100000 in
set_option maxHeartbeats 1000000 in
theorem HandM_is (a : Option Addr) (n cap : Nat) (bs : List Int) (w : World) (hn : bs.length = n) (hb : ByR w (.slice a n cap) bs) (hl : n ≤ 200000000000000) :
    Calls Tryz.prog 5 #[.slice a n cap] w fun e w' => HandM n bs w e w' := by
  have HN := hide1 hn
  obtain ⟨a', cap', ev, hc1, hb⟩ := hb
  rw [hn] at ev hc1
  simp only [Value.slice.injEq] at ev
  obtain ⟨rfl, _, rfl⟩ := ev
  have HB := hide1 hb
  have gl : (n : Int) ≤ 200000000000000 := by omega
  have gc : (n : Int) ≤ (cap : Int) := by omega
  have hmk := run_make8L (n + 2) (by omega)
  have e2 : ((n + 2 : Nat) : Int) = (n : Int) + 2 := by omega
  rw [e2] at hmk
  have HF0 : Hid (FillAt (w.alloc (.cells (byteV (List.replicate (n + 2) 0)).toArray 5)) w.heap.size (List.replicate (n + 2) 0)) := heap_alloc_new w _
  clear hb hn hc1 e2
  go_enter Tryz.func5, Tryz.ntmps5
  go_wp2_with fail
  go_loopw [4] (HandL bs n w) (fun i _ => n - (intOf i).toNat)
  case atStart => exact ⟨0, _, rfl, Nat.zero_le _, HF0, (show _ = _ by simp), fun k hk => by omega, (Kept.refl w).alloc _ _⟩
  case round =>
    obtain ⟨j, cs, rfl, hj, HF, HCL, HEQ, HKr⟩ := hrel
    by_cases hlt : (j : Int) < (n : Int)
    · obtain ⟨x, hx⟩ : ∃ x, bs[j]? = some x := ⟨_, List.getElem?_eq_getElem (by have := HN.out; omega)⟩
      rcases HB.out with h0 | ⟨c, o, rfl, hSc, hcells⟩
      · rw [h0] at hx; simp at hx
      have hcx := grown_cell HKr.out (hcells j x hx)
      obtain ⟨y, hy⟩ : ∃ y, cs[j]? = some y := ⟨_, List.getElem?_eq_getElem (by have := HCL.out; omega)⟩
      have hold := HF.out.cell hy
      have hfz := HF.out.free j
      have HX := hide1 hx
      clear hy hx hcells
      go_wp2_with fail
      go_roundw
      case rel =>
        refine ⟨j + 1, cs.set j x, by go_num, by omega, HF.out.put, (show _ = _ by rw [List.length_set]; exact HCL.out), fun k hk => ?_, (HKr.out.set (Nat.le_refl _))⟩
        by_cases e : j = k
        · subst e
          rw [List.getElem?_set_self (by have := HCL.out; omega), HX.out]
        · rw [List.getElem?_set_ne e]
          exact HEQ.out k (by omega)
      case measure => simp [intOf]; omega
    · obtain rfl : j = n := by omega
      obtain ⟨y, hy⟩ : ∃ y, cs[j]? = some y := ⟨_, List.getElem?_eq_getElem (by have := HCL.out; omega)⟩
      obtain ⟨z, hz⟩ : ∃ z, cs[j + 1]? = some z := ⟨_, List.getElem?_eq_getElem (by have := HCL.out; omega)⟩
      have hold := HF.out.cell hy
      have hfz := HF.out.free j
      have hold2 := (HF.out.put (k := j) (x := 171)).cell (i := j + 1) (x := z) (by rw [List.getElem?_set_ne (by omega)]; exact hz)
      have hfz2 := (HF.out.put (k := j) (x := 171)).free (j + 1)
      clear hy hz
      go_wp2_with fail
      go_ret
      have hF := (HF.out.put (k := j) (x := 171)).put (k := j + 1) (x := 205)
      rw [hand_end HN.out HCL.out HEQ.out] at hF
      exact ⟨w.heap.size, rfl, hF, (((HKr.out.set (Nat.le_refl _))).set (Nat.le_refl _))⟩
theorem conv_by {w : World} {a : Option Addr} {n cap : Nat} {bs : List Int} (h : ByR w (.slice a n cap) bs) (hn : bs.length = n) : (convert 27 9 (.slice a n cap)).run Tryz.prog w = .ok (.string (strOf bs)) w := by
  subst hn
  rw [run_convert_bytes_string w 27 9 5 a bs.length cap Tryz.underlying27 Tryz.underlying5 Tryz.underlying9]
  obtain ⟨a', c', e, _, h⟩ := h
  simp only [Value.slice.injEq] at e
  obtain ⟨rfl, _, rfl⟩ := e
  rcases h with rfl | ⟨g, o, rfl, _, hc⟩
  · cases a <;> rfl
  · refine run_bytesToString w ⟨g, o, none⟩ bs.length cap bs ?_
    have := run_loadCells_list (P := Tryz.prog) w ⟨g, o, none⟩ (byteV bs) (fun j u hj => by
      simp only [byteV, List.getElem?_map] at hj
      obtain ⟨y, hy, rfl⟩ := Option.map_eq_some_iff.1 hj
      rw [Addr.add_lit]
      exact hc j y hy)
    rw [byteV_len] at this
    exact this
set_option linter.unusedSimpArgs false in
set_option maxRecDepth 100000 in
set_option maxHeartbeats 4000000 in
theorem Back_is (a : Option Addr) (n cap g : Nat) (bs : List Int) (w : World) (hn : bs.length = n) (hb : ByR w (.slice a n cap) bs) (hf : FillAt w g (bs ++ [171, 205])) (hl : n ≤ 200000000000000) :
    Calls Tryz.prog 12 #[.slice (some ⟨g, 0, none⟩) n (n + 2), .slice a n cap] w fun e w' => e = .returned (.bool true) ∧ Kept w w' := by
  have c1 := conv_by hb hn
  have c2 := conv_by (hf.asBy hn (n + 2) (by omega)) hn
  obtain ⟨T, hT⟩ : ∃ T, strOf bs = T := ⟨_, rfl⟩
  rw [hT] at c1 c2
  have x1 := hf.cell (i := n) (x := 171) (by rw [List.getElem?_append_right (by omega), hn, Nat.sub_self]; rfl)
  have x2 := hf.cell (i := n + 1) (x := 205) (by rw [List.getElem?_append_right (by omega), hn, show n + 1 - n = 1 by omega]; rfl)
  have gl : (n : Int) ≤ 200000000000000 := by omega
  have e2 : ((n + 2 : Nat) : Int) = (n : Int) + 2 := by omega
  have g1 : (n : Int) < (n : Int) + 2 := by omega
  have g2 : (n : Int) + 1 < (n : Int) + 2 := by omega
  clear hb hf hn hl hT
  go_enter Tryz.func12, Tryz.ntmps12
  go_wp2_with fail
  go_ret
  exact ⟨by rfl, Kept.refl w⟩

end Ex
end Go.Proofs.YtlgojnodhbmlkaaGreatDoor
