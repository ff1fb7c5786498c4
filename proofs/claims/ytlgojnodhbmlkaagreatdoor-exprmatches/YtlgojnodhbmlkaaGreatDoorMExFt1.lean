import Derived.Test.YtlgojnodhbmlkaaGreatDoorMExRn1
import Derived.Test.YtlgojnodhbmlkaaGreatDoorMExSe7
import Derived.Test.YtlgojnodhbmlkaaGreatDoorMExBase
import Derived.Test.YtlgojnodhbmlkaaGreatDoorMExLook
import Derived.OpenShut
namespace Go.Proofs.YtlgojnodhbmlkaaGreatDoor
open Go.RowKit
attribute [local go_sem] Oper.semAt_some
namespace Ex

/-- What run tells. -/
def runL {n : Nat} (p : PatN (n + 1)) (bs : List Int) : Int := if checkP p = 0 then (runP n p bs).1 else 0
def runR {n : Nat} (p : PatN (n + 1)) (bs : List Int) : Int := if checkP p = 0 then (runP n p bs).2 else 0
set_option linter.unusedSimpArgs false in
set_option maxRecDepth 100000 in
set_option maxHeartbeats 4000000 in
theorem run_bad (n : Nat) (p : PatN (n + 1)) (ck : Int) (hck : checkP p = ck) (hch : ¬ ck = 0) (S : Nat → Prop) (vk : Value) (w : World) (hk : KidsAt S w n (kids p) vk) (hS : ∀ d, S d → d < w.heap.size) (b : Option Addr) (cap len : Nat) :
    Calls Tryz.prog 17 #[valOf p vk, .slice b len cap] w fun e w' => e = .returned (.tuple #[.int .i64 0, .int .i64 0, .int .i64 ck]) ∧ Kept w w' := by
  have HCH := hide1 hck
  have HK := hide1 hk
  have HS := hide1 hS
  have ec : (ck == 0) = false := by simpa using hch
  obtain ⟨ak, ck', rfl⟩ := hk.form
  rw [valOf_eq]
  clear hck hk hS hch
  go_enter Tryz.func17, Tryz.ntmps17
  go_wp2_with (go_at_call 26; refine (Check_is S n p _ _ (HK.out.kept ((Kept.refl w).alloc _ _)) (fun b hb => Nat.lt_of_lt_of_le (HS.out b hb) ((Kept.refl w).alloc _ _).size)).mono ?_; rintro e w6 ⟨rfl, hk6⟩; rw [HCH.out]; have HK6 := hide1 (gtrans ((Kept.refl w).alloc _ _) hk6); clear hk6)
  go_ret3
  exact ⟨rfl, HK6.out⟩
theorem run_all (n : Nat) (p : PatN (n + 1)) (S : Nat → Prop) (vk : Value) (w : World) (hk : KidsAt S w n (kids p) vk) (hS : ∀ d, S d → d < w.heap.size) (hT : TabAt w) (b : Option Addr) (cap : Nat) (bs : List Int) (hb : BytesIn (fun c => c < w.heap.size) w (.slice b bs.length cap) bs) (hbl : bs.length ≤ 262144) :
    Calls Tryz.prog 17 #[valOf p vk, .slice b bs.length cap] w fun e w' => e = .returned (.tuple #[.int .i64 (runL p bs), .int .i64 (runR p bs), .int .i64 (checkP p)]) ∧ Kept w w' := by
  by_cases hch : checkP p = 0
  · obtain ⟨h1, h2, h3, h4, h5, h6, h7, _⟩ := net_all hch
    have hr := net_runs hch
    have := run_g n p hch (thinW n p) h1 (layV (thinW n p).1 (thinW n p).2) (lay_all _ _ h2).1 (netP n p).1 (netP n p).2 rfl h7 ⟨⟨by omega, hr.forks⟩, hr.len, hr.takers⟩ (by omega) hr.start hr.places S vk w hk hS hT b cap bs hb hbl
    unfold runL runR
    rw [if_pos hch, if_pos hch, hch]
    exact this
  · unfold runL runR
    rw [if_neg hch, if_neg hch]
    exact run_bad n p _ rfl hch S vk w hk hS b cap bs.length
theorem run_at (n : Nat) (p : PatN (n + 1)) (S : Nat → Prop) (ak : Option Addr) (ck : Nat) (w : World) (hk : KidsAt S w n (kids p) (.slice ak (kids p).length ck)) (hS : ∀ d, S d → d < w.heap.size) (hT : TabAt w) (b : Option Addr) (cap len : Nat) (bs : List Int) (hn : bs.length = len) (hb : BytesIn (fun c => c < w.heap.size) w (.slice b len cap) bs) (hbl : bs.length ≤ 262144) (x y z : Int) (hx : runL p bs = x) (hy : runR p bs = y) (hz : checkP p = z) :
    Calls Tryz.prog 17 #[.agg #[.int .i64 (kind p), .int .i64 (from_ p), .int .i64 (to_ p), .int .i64 (min_ p), .int .i64 (max_ p), .slice ak (kids p).length ck], .slice b len cap] w fun e w' => e = .returned (.tuple #[.int .i64 x, .int .i64 y, .int .i64 z]) ∧ Kept w w' := by
  subst hx hy hz hn
  exact run_all n p S _ w hk hS hT b cap bs hb hbl
set_option linter.unusedSimpArgs false in
set_option maxRecDepth 100000 in
set_option maxHeartbeats 4000000 in
theorem Longest_is (n : Nat) (p : PatN (n + 1)) (S : Nat → Prop) (vk : Value) (w : World) (hk : KidsAt S w n (kids p) vk) (hS : ∀ d, S d → d < w.heap.size) (hT : TabAt w) (b : Option Addr) (cap len : Nat) (bs : List Int) (hn : bs.length = len) (hb : BytesIn (fun c => c < w.heap.size) w (.slice b len cap) bs) (hbl : bs.length ≤ 262144) :
    Calls Tryz.prog 7 #[valOf p vk, .slice b len cap] w fun e w' => e = .returned (.tuple #[.int .i64 (runL p bs), .int .i64 (checkP p)]) ∧ Kept w w' := by
  have HK := hide1 hk
  have HS := hide1 hS
  have HT := hide1 hT
  have HB := hide1 hb
  have HN := hide1 hn
  have HL := hide1 hbl
  obtain ⟨ak, ck, rfl⟩ := hk.form
  obtain ⟨x, hx⟩ : ∃ x, runL p bs = x := ⟨_, rfl⟩
  obtain ⟨y, hy⟩ : ∃ y, runR p bs = y := ⟨_, rfl⟩
  obtain ⟨z, hz⟩ : ∃ z, checkP p = z := ⟨_, rfl⟩
  rw [hx, hz, valOf_eq]
  have HX := hide1 hx
  have HY := hide1 hy
  have HZ := hide1 hz
  clear hk hS hT hb hn hbl hx hy hz
  go_enter Tryz.func7, Tryz.ntmps7
  go_wp2_with (go_at_call 17; refine (run_at n p S ak ck _ (HK.out.kept ((Kept.refl w).alloc _ _)) (fun d hd => Nat.lt_of_lt_of_le (HS.out d hd) ((Kept.refl w).alloc _ _).size) (HT.out.keep ((Kept.refl w).alloc _ _)) b cap len bs HN.out (HB.out.keepS ((Kept.refl w).alloc _ _) (fun c hc => Nat.lt_of_lt_of_le hc ((Kept.refl w).alloc _ _).size)) HL.out x y z HX.out HY.out HZ.out).mono ?_; rintro e w6 ⟨rfl, hk6⟩; have HK6 := hide1 (gtrans ((Kept.refl w).alloc _ _) hk6); clear hk6)
  go_ret2
  exact ⟨rfl, HK6.out⟩
/-- Match and Live, as they answer. -/
def matchP {n : Nat} (p : PatN (n + 1)) (bs : List Int) : Bool := checkP p == 0 && runL p bs == (bs.length : Int)
def liveP {n : Nat} (p : PatN (n + 1)) (bs : List Int) : Bool := checkP p == 0 && runR p bs == (bs.length : Int)
set_option linter.unusedSimpArgs false in
set_option maxRecDepth 100000 in
set_option maxHeartbeats 4000000 in
theorem Match_is (n : Nat) (p : PatN (n + 1)) (S : Nat → Prop) (vk : Value) (w : World) (hk : KidsAt S w n (kids p) vk) (hS : ∀ d, S d → d < w.heap.size) (hT : TabAt w) (b : Option Addr) (cap len : Nat) (bs : List Int) (hn : bs.length = len) (hb : BytesIn (fun c => c < w.heap.size) w (.slice b len cap) bs) (hbl : bs.length ≤ 262144) :
    Calls Tryz.prog 6 #[valOf p vk, .slice b len cap] w fun e w' => e = .returned (.tuple #[.bool (matchP p bs), .int .i64 (checkP p)]) ∧ Kept w w' := by
  have HK := hide1 hk
  have HS := hide1 hS
  have HT := hide1 hT
  have HB := hide1 hb
  have HN := hide1 hn
  have HL := hide1 hbl
  obtain ⟨ak, ck, rfl⟩ := hk.form
  have HM : Hid (matchP p bs = (checkP p == 0 && runL p bs == (bs.length : Int))) := rfl
  obtain ⟨x, hx⟩ : ∃ x, runL p bs = x := ⟨_, rfl⟩
  obtain ⟨y, hy⟩ : ∃ y, runR p bs = y := ⟨_, rfl⟩
  obtain ⟨z, hz⟩ : ∃ z, checkP p = z := ⟨_, rfl⟩
  rw [hx, hz, hn] at HM
  rw [hz, valOf_eq]
  have HX := hide1 hx
  have HY := hide1 hy
  have HZ := hide1 hz
  clear hk hS hT hb hn hbl hx hy hz
  go_enter Tryz.func6, Tryz.ntmps6
  by_cases hz0 : z = 0
  · have ez : (z == 0) = true := by simpa using hz0
    have HE := hide1 ez
    clear hz0
    go_wp2_with (go_at_call 17; refine (run_at n p S ak ck _ (HK.out.kept ((Kept.refl w).alloc _ _)) (fun d hd => Nat.lt_of_lt_of_le (HS.out d hd) ((Kept.refl w).alloc _ _).size) (HT.out.keep ((Kept.refl w).alloc _ _)) b cap len bs HN.out (HB.out.keepS ((Kept.refl w).alloc _ _) (fun c hc => Nat.lt_of_lt_of_le hc ((Kept.refl w).alloc _ _).size)) HL.out x y z HX.out HY.out HZ.out).mono ?_; rintro e w6 ⟨rfl, hk6⟩; have HK6 := hide1 (gtrans ((Kept.refl w).alloc _ _) hk6); clear hk6)
    go_ret2
    exact ⟨by rw [HM.out, HE.out]; rfl, HK6.out⟩
  · have ez : (z == 0) = false := by simpa using hz0
    have HE := hide1 ez
    clear hz0
    go_wp2_with (go_at_call 17; refine (run_at n p S ak ck _ (HK.out.kept ((Kept.refl w).alloc _ _)) (fun d hd => Nat.lt_of_lt_of_le (HS.out d hd) ((Kept.refl w).alloc _ _).size) (HT.out.keep ((Kept.refl w).alloc _ _)) b cap len bs HN.out (HB.out.keepS ((Kept.refl w).alloc _ _) (fun c hc => Nat.lt_of_lt_of_le hc ((Kept.refl w).alloc _ _).size)) HL.out x y z HX.out HY.out HZ.out).mono ?_; rintro e w6 ⟨rfl, hk6⟩; have HK6 := hide1 (gtrans ((Kept.refl w).alloc _ _) hk6); clear hk6)
    go_ret2
    exact ⟨by rw [HM.out, HE.out]; rfl, HK6.out⟩
set_option linter.unusedSimpArgs false in
set_option maxRecDepth 100000 in
set_option maxHeartbeats 4000000 in
theorem Live_is (n : Nat) (p : PatN (n + 1)) (S : Nat → Prop) (vk : Value) (w : World) (hk : KidsAt S w n (kids p) vk) (hS : ∀ d, S d → d < w.heap.size) (hT : TabAt w) (b : Option Addr) (cap len : Nat) (bs : List Int) (hn : bs.length = len) (hb : BytesIn (fun c => c < w.heap.size) w (.slice b len cap) bs) (hbl : bs.length ≤ 262144) :
    Calls Tryz.prog 8 #[valOf p vk, .slice b len cap] w fun e w' => e = .returned (.tuple #[.bool (liveP p bs), .int .i64 (checkP p)]) ∧ Kept w w' := by
  have HK := hide1 hk
  have HS := hide1 hS
  have HT := hide1 hT
  have HB := hide1 hb
  have HN := hide1 hn
  have HL := hide1 hbl
  obtain ⟨ak, ck, rfl⟩ := hk.form
  have HM : Hid (liveP p bs = (checkP p == 0 && runR p bs == (bs.length : Int))) := rfl
  obtain ⟨x, hx⟩ : ∃ x, runL p bs = x := ⟨_, rfl⟩
  obtain ⟨y, hy⟩ : ∃ y, runR p bs = y := ⟨_, rfl⟩
  obtain ⟨z, hz⟩ : ∃ z, checkP p = z := ⟨_, rfl⟩
  rw [hy, hz, hn] at HM
  rw [hz, valOf_eq]
  have HX := hide1 hx
  have HY := hide1 hy
  have HZ := hide1 hz
  clear hk hS hT hb hn hbl hx hy hz
  go_enter Tryz.func8, Tryz.ntmps8
  by_cases hz0 : z = 0
  · have ez : (z == 0) = true := by simpa using hz0
    have HE := hide1 ez
    clear hz0
    go_wp2_with (go_at_call 17; refine (run_at n p S ak ck _ (HK.out.kept ((Kept.refl w).alloc _ _)) (fun d hd => Nat.lt_of_lt_of_le (HS.out d hd) ((Kept.refl w).alloc _ _).size) (HT.out.keep ((Kept.refl w).alloc _ _)) b cap len bs HN.out (HB.out.keepS ((Kept.refl w).alloc _ _) (fun c hc => Nat.lt_of_lt_of_le hc ((Kept.refl w).alloc _ _).size)) HL.out x y z HX.out HY.out HZ.out).mono ?_; rintro e w6 ⟨rfl, hk6⟩; have HK6 := hide1 (gtrans ((Kept.refl w).alloc _ _) hk6); clear hk6)
    go_ret2
    exact ⟨by rw [HM.out, HE.out]; rfl, HK6.out⟩
  · have ez : (z == 0) = false := by simpa using hz0
    have HE := hide1 ez
    clear hz0
    go_wp2_with (go_at_call 17; refine (run_at n p S ak ck _ (HK.out.kept ((Kept.refl w).alloc _ _)) (fun d hd => Nat.lt_of_lt_of_le (HS.out d hd) ((Kept.refl w).alloc _ _).size) (HT.out.keep ((Kept.refl w).alloc _ _)) b cap len bs HN.out (HB.out.keepS ((Kept.refl w).alloc _ _) (fun c hc => Nat.lt_of_lt_of_le hc ((Kept.refl w).alloc _ _).size)) HL.out x y z HX.out HY.out HZ.out).mono ?_; rintro e w6 ⟨rfl, hk6⟩; have HK6 := hide1 (gtrans ((Kept.refl w).alloc _ _) hk6); clear hk6)
    go_ret2
    exact ⟨by rw [HM.out, HE.out]; rfl, HK6.out⟩

end Ex
end Go.Proofs.YtlgojnodhbmlkaaGreatDoor
namespace Go.Proofs.YtlgojnodhbmlkaaGreatDoor
open Go.RowKit
namespace Ex

theorem bestK_one {L : List Int → Prop} {bs : List Int} {l l' : Int} {k : Nat} (h : BestK L bs l k) (h' : BestK L bs l' k) : l = l' := by
  rcases h with ⟨e1, e2⟩ | ⟨m, m1, m2, m3, m4⟩
  · rcases h' with ⟨f1, _⟩ | ⟨m', n1, _, n3, _⟩
    · rw [e1, f1]
    · exact absurd n3 (e2 m' n1)
  · rcases h' with ⟨_, f2⟩ | ⟨m', n1, n2, n3, n4⟩
    · exact absurd m3 (f2 m m1)
    · by_cases h1 : m < m'
      · exact absurd n3 (m4 m' h1 n1)
      · by_cases h2 : m' < m
        · exact absurd m3 (n4 m h2 m1)
        · have : m = m' := by omega
          rw [m2, n2, this]
theorem match_iff {n : Nat} {p : PatN (n + 1)} (hch : checkP p = 0) (bs : List Int) : matchP p bs = true ↔ LangN n p bs := by
  unfold matchP runL
  rw [if_pos hch, hch]
  have := run_match hch bs
  rw [← this]
  simp
theorem live_iff {n : Nat} {p : PatN (n + 1)} (hch : checkP p = 0) (bs : List Int) : liveP p bs = true ↔ LiveL (LangN n p) bs := by
  unfold liveP runR
  rw [if_pos hch, hch]
  have := run_live hch bs
  rw [← this]
  simp
theorem live_of_match {L : List Int → Prop} {u : List Int} (h : L u) : LiveL L u := ⟨[], by rw [List.append_nil]; exact h⟩
theorem live_take {L : List Int → Prop} {bs : List Int} {i j : Nat} (hij : i ≤ j) (h : LiveL L (bs.take j)) : LiveL L (bs.take i) := by
  obtain ⟨v, hv⟩ := h
  refine ⟨(bs.take j).drop i ++ v, ?_⟩
  have e : bs.take i = (bs.take j).take i := by rw [List.take_take, Nat.min_eq_left hij]
  rw [e, ← List.append_assoc, List.take_append_drop]
  exact hv
theorem BytesIn.front {S : Nat → Prop} {w : World} {a : Option Addr} {n cap : Nat} {bs : List Int} (h : BytesIn S w (.slice a n cap) bs) (hn : bs.length = n) (j : Nat) (hj : j ≤ n) : BytesIn S w (.slice a j cap) (bs.take j) ∧ (bs.take j).length = j := by
  have hl : (bs.take j).length = j := by rw [List.length_take]; omega
  refine ⟨?_, hl⟩
  obtain ⟨a', c', e, h1, h2, h3⟩ := h
  simp only [Value.slice.injEq] at e
  obtain ⟨rfl, _, rfl⟩ := e
  refine ⟨a, cap, by rw [hl], by omega, by omega, ?_⟩
  rcases h3 with h3 | ⟨c, o, h4, h5, h6⟩
  · left; rw [h3]; simp
  · refine .inr ⟨c, o, h4, h5, fun i x hi => h6 i x ?_⟩
    rw [List.getElem?_take] at hi
    split at hi
    · exact hi
    · cases hi
theorem bytes_nil (S : Nat → Prop) (w : World) : BytesIn S w (.slice none 0 0) [] := ⟨none, 0, rfl, Nat.le_refl _, Nat.zero_le _, .inl rfl⟩
theorem conv_bytes {S : Nat → Prop} {w : World} {a : Option Addr} {n cap : Nat} {bs : List Int} (h : BytesIn S w (.slice a n cap) bs) (hn : bs.length = n) : (convert 27 9 (.slice a n cap)).run Tryz.prog w = .ok (.string (strOf bs)) w := by
  subst hn
  rw [run_convert_bytes_string w 27 9 5 a bs.length cap Tryz.underlying27 Tryz.underlying5 Tryz.underlying9]
  obtain ⟨a', c', e, _, _, h⟩ := h
  simp only [Value.slice.injEq] at e
  obtain ⟨rfl, _, rfl⟩ := e
  rcases h with rfl | ⟨g, o, rfl, _, hc⟩
  · cases a <;> rfl
  · refine run_bytesToString w ⟨g, o, none⟩ bs.length cap bs ?_
    have := run_loadCells_list (P := Tryz.prog) w ⟨g, o, none⟩ (byteV bs) (fun j u hj => by
      simp only [byteV, List.getElem?_map] at hj
      obtain ⟨y, hy, rfl⟩ := Option.map_eq_some_iff.1 hj
      rw [Addr.add_lit]
      exact hc j y hy)
    rw [byteV_len] at this
    exact this

end Ex
end Go.Proofs.YtlgojnodhbmlkaaGreatDoor
namespace Go.Proofs.YtlgojnodhbmlkaaGreatDoor
open Go.RowKit
attribute [local go_sem] Oper.semAt_some
namespace Ex

/-- A row of bytes that is filled by index. -/
def FillAt (w : World) (g : Nat) (cs : List Int) : Prop := w.heap[g]? = some (.cells (byteV cs).toArray 5 (0, 0))
theorem FillAt.cell {w : World} {g i : Nat} {x : Int} {cs : List Int} (h : FillAt w g cs) (hi : cs[i]? = some x) : w.cell? ⟨g, i, none⟩ = some (.int .u8 x) := by
  unfold FillAt at h
  simp [World.cell?, h, byteV, hi]
theorem FillAt.free {w : World} {g : Nat} {cs : List Int} (i : Nat) (h : FillAt w g cs) : w.frozen? ⟨g, i, none⟩ = false := by
  unfold FillAt at h
  simp [World.frozen?, h]
theorem FillAt.lt {w : World} {g : Nat} {cs : List Int} (h : FillAt w g cs) : g < w.heap.size := (Array.getElem?_eq_some_iff.1 h).1
theorem FillAt.put {w : World} {g k : Nat} {x : Int} {cs : List Int} (h : FillAt w g cs) : FillAt (w.setCell ⟨g, k, none⟩ (.int .u8 x)) g (cs.set k x) := by
  unfold FillAt at h ⊢
  have hl : g < w.heap.size := (Array.getElem?_eq_some_iff.1 h).1
  have he : w.heap[g] = Obj.cells (byteV cs).toArray 5 (0, 0) := by rw [Array.getElem?_eq_getElem hl] at h; exact Option.some.inj h
  have e : (byteV (cs.set k x)).toArray = (byteV cs).toArray.setIfInBounds k (.int .u8 x) := by
    unfold byteV
    rw [List.map_set]
    simp
  rw [e]
  simp [World.setCell, Array.getElem_modify, hl, he]
theorem run_make8 (n : Nat) (hn : n ≤ 300000) (w : World) : (Instr.makeSlice 27 (.int .i64 (n : Int)) (.int .i64 (n : Int))).run Tryz.prog w = .ok (.slice (some ⟨w.heap.size, 0, none⟩) n n) (w.alloc (.cells (byteV (List.replicate n 0)).toArray 5)) := by
  obtain ⟨i0, hi, hz0, hz1, hz2⟩ := info_parts u8_info
  rw [run_make (P := Tryz.prog) w 27 5 i0 _ Tryz.underlying27 hi hz0 .i64 .i64 n n (by omega) (Int.le_refl _) (by rw [hz2]; omega) (by omega)]
  rw [hz1]
  have e : madeCells (Value.int .u8 0).cells ((n : Int).toNat * 1) = (byteV (List.replicate n 0)).toArray := by
    unfold madeCells byteV
    apply Array.ext_getElem?
    intro i
    simp only [Int.toNat_natCast, Nat.mul_one, Array.getElem?_map, List.getElem?_toArray, List.getElem?_map, List.getElem?_replicate]
    by_cases h : i < n
    · simp [h, Value.cells, Nat.mod_one]
    · simp [h]
  rw [e]
  simp
/-- What Hand answers. -/
def HandG (g n : Nat) (bs : List Int) (e : Ending) (w' : World) : Prop := ∃ v c', v = .slice (some ⟨g, 0, none⟩) n c' ∧ e = .returned v ∧ BytesIn (fun d => d < w'.heap.size) w' v bs
/-- The loop of Hand. -/
def HandL (bs : List Int) (n : Nat) (w : World) (vi : Value) (wr : World) : Prop :=
  ∃ (j : Nat) (cs : List Int), vi = .int .i64 (j : Int) ∧ j ≤ n ∧ Hid (FillAt wr w.heap.size cs) ∧ Hid (cs.length = n + 2) ∧ Hid (∀ k, k < j → cs[k]? = bs[k]?) ∧ Hid (Kept w wr)
set_option linter.unusedSimpArgs false in
set_option maxRecDepth 100000 in
set_option maxHeartbeats 1000000 in
theorem Hand_is (S : Nat → Prop) (a : Option Addr) (n cap : Nat) (bs : List Int) (w : World) (hn : bs.length = n) (hb : BytesIn S w (.slice a n cap) bs) (hl : n ≤ 1000) :
    Calls Tryz.prog 5 #[.slice a n cap] w fun e w' => HandG w.heap.size n bs e w' ∧ Kept w w' := by
  have HN := hide1 hn
  obtain ⟨a', cap', ev, hc1, _, hb⟩ := hb
  rw [hn] at ev hc1
  simp only [Value.slice.injEq] at ev
  obtain ⟨rfl, _, rfl⟩ := ev
  have HB := hide1 hb
  have gl : (n : Int) ≤ 1000 := by omega
  have gc : (n : Int) ≤ (cap : Int) := by omega
  have hmk := run_make8 (n + 2) (by omega)
  have e2 : ((n + 2 : Nat) : Int) = (n : Int) + 2 := by omega
  rw [e2] at hmk
  have HF0 : Hid (FillAt (w.alloc (.cells (byteV (List.replicate (n + 2) 0)).toArray 5)) w.heap.size (List.replicate (n + 2) 0)) := heap_alloc_new w _
  clear hb hn hc1 e2
  go_enter Tryz.func5, Tryz.ntmps5
  go_wp2_with fail
  go_loopw [4] (HandL bs n w) (fun i _ => n - (intOf i).toNat)
  case atStart => exact ⟨0, _, rfl, Nat.zero_le _, HF0, (show _ = _ by simp), fun k hk => by omega, (Kept.refl w).alloc _ _⟩
  case round =>
    obtain ⟨j, cs, rfl, hj, HF, HCL, HEQ, HKr⟩ := hrel
    by_cases hlt : (j : Int) < (n : Int)
    · obtain ⟨x, hx⟩ : ∃ x, bs[j]? = some x := ⟨_, List.getElem?_eq_getElem (by have := HN.out; omega)⟩
      rcases HB.out with h0 | ⟨c, o, rfl, hSc, hcells⟩
      · rw [h0] at hx; simp at hx
      have hcx := grown_cell HKr.out (hcells j x hx)
      obtain ⟨y, hy⟩ : ∃ y, cs[j]? = some y := ⟨_, List.getElem?_eq_getElem (by have := HCL.out; omega)⟩
      have hold := HF.out.cell hy
      have hfz := HF.out.free j
      have HX := hide1 hx
      clear hy hx hcells
      go_wp2_with fail
      go_roundw
      case rel =>
        refine ⟨j + 1, cs.set j x, by go_num, by omega, HF.out.put, (show _ = _ by rw [List.length_set]; exact HCL.out), fun k hk => ?_, (HKr.out.set (Nat.le_refl _))⟩
        by_cases e : j = k
        · subst e
          rw [List.getElem?_set_self (by have := HCL.out; omega), HX.out]
        · rw [List.getElem?_set_ne e]
          exact HEQ.out k (by omega)
      case measure => simp [intOf]; omega
    · obtain rfl : j = n := by omega
      obtain ⟨y, hy⟩ : ∃ y, cs[j]? = some y := ⟨_, List.getElem?_eq_getElem (by have := HCL.out; omega)⟩
      obtain ⟨z, hz⟩ : ∃ z, cs[j + 1]? = some z := ⟨_, List.getElem?_eq_getElem (by have := HCL.out; omega)⟩
      have hold := HF.out.cell hy
      have hfz := HF.out.free j
      have hold2 := (HF.out.put (k := j) (x := 171)).cell (i := j + 1) (x := z) (by rw [List.getElem?_set_ne (by omega)]; exact hz)
      have hfz2 := (HF.out.put (k := j) (x := 171)).free (j + 1)
      clear hy hz
      go_wp2_with fail
      go_ret
      have hF := (HF.out.put (k := j) (x := 171)).put (k := j + 1) (x := 205)
      refine ⟨⟨_, _, rfl, rfl, some ⟨w.heap.size, 0, none⟩, _, by rw [HN.out], by have := HN.out; omega, by have := HN.out; omega, .inr ⟨w.heap.size, 0, rfl, hF.lt, fun i x hx => ?_⟩⟩, (((HKr.out.set (Nat.le_refl _))).set (Nat.le_refl _))⟩
      have hi : i < j := by have := (List.getElem?_eq_some_iff.1 hx).1; have := HN.out; omega
      rw [Nat.zero_add]
      refine hF.cell ?_
      rw [List.getElem?_set_ne (by omega), List.getElem?_set_ne (by omega), HEQ.out i hi]
      exact hx

end Ex
end Go.Proofs.YtlgojnodhbmlkaaGreatDoor
namespace Go.Proofs.YtlgojnodhbmlkaaGreatDoor
open Go.RowKit Go.ChangeShapes Go.WideShapes Go.ChangeAt
namespace Ex

/-- A row of bytes that came in. -/
def BytesArg (w : World) (v : Value) (bs : List Int) : Prop :=
  ∃ a cap, v = .slice a bs.length cap ∧ bs.length ≤ cap ∧ bs.length ≤ 200000000000000 ∧ (∀ x ∈ bs, IsB x) ∧
    (bs = [] ∨ ∃ c o, a = some ⟨c, o, none⟩ ∧ c < w.heap.size ∧ ∀ (i : Nat) (x : Int), bs[i]? = some x → w.cell? ⟨c, o + i, none⟩ = some (.int .u8 x))
section
variable {H : Type} {enc : TypeId × Value → H}
theorem u8_size : Tryz.prog.cellsOf 5 = 1 := by kernel_rfl
theorem u8_bytes : Tryz.prog.bytesOf 5 = 1 := by kernel_rfl
set_option maxRecDepth 100000 in
theorem bytes_of {W : World} {a : Option Addr} {len cap : Nat} {d : DataW H} {p : List MemPlace} (h : DataW.Trod enc Tryz.prog W 0 (fun _ => true) true 27 (.slice a len cap) d p) (hz : ∀ n ∈ d.weights Tryz.prog 27, n ≤ reachBytes) :
    ∃ bs, BytesArg W (.slice a len cap) bs := by
  obtain ⟨fuel, hf⟩ := h
  rcases Go.Deep.open_slice1 Tryz.underlying27 u8_size hf with ⟨hcs, _⟩ | ⟨x, l, c, m, n, V, D, Pl, hcs, _, hl, hm, hmm, hd, hV⟩
  · simp [Value.cells] at hcs
    obtain ⟨rfl, rfl, rfl⟩ := hcs
    exact ⟨[], _, _, rfl, by simp, by simp, fun T h => by simp at h, .inl rfl⟩
  · simp [Value.cells] at hcs
    obtain ⟨rfl, rfl, rfl⟩ := hcs
    have hlm : len ≤ m := by rw [hmm]; split <;> omega
    simp only [Prod.mk.injEq] at hd
    obtain ⟨rfl, _⟩ := hd
    have hw0 := hz _ (by simp only [DataW.weights, Tryz.underlying27]; exact List.mem_cons_self)
    rw [u8_bytes] at hw0
    simp only [List.length_map, List.length_range] at hw0
    have hlb : len ≤ 200000000000000 := by unfold reachBytes at hw0; omega
    have hone : ∀ i, i < len → ∃ x : Int, V i = .int .u8 x ∧ IsB x := by
      intro i hi
      obtain ⟨_, h2⟩ := hV i (by omega)
      obtain ⟨x, e1, _, e3⟩ := DataW.trod_int Tryz.underlying5 h2
      simp only [List.cons.injEq, and_true] at e1
      refine ⟨x, e1, ?_⟩
      have hb := bounds_u8 e3
      unfold IsB
      omega
    obtain ⟨Q, hQ⟩ := Go.Deep.choose_lt hone
    refine ⟨(List.range len).map Q, some x, cap, ?_, ?_, ?_, ?_, ?_⟩
    · rw [List.length_map, List.length_range]
    · rw [List.length_map, List.length_range]; exact hl
    · rw [List.length_map, List.length_range]; exact hlb
    · intro T hT
      obtain ⟨i, hi, rfl⟩ := List.mem_map.1 hT
      exact (hQ i (List.mem_range.1 hi)).2
    · by_cases h0 : len = 0
      · left
        subst h0
        rfl
      · right
        obtain ⟨c1, o1, t1⟩ := x
        have k0 := (hV 0 (by omega)).1
        have hspot : t1 = none := by simpa [Addr.add] using World.cell?_spot k0
        subst hspot
        refine ⟨c1, o1, rfl, World.block_lt_of_cell? W _ k0, fun i T hT => ?_⟩
        rw [List.getElem?_map] at hT
        obtain ⟨i', hi', rfl⟩ := Option.map_eq_some_iff.1 hT
        obtain ⟨hi, he⟩ := List.getElem?_eq_some_iff.1 hi'
        rw [List.length_range] at hi
        rw [List.getElem_range] at he
        subst he
        have k1 := (hV i (by omega)).1
        rw [(hQ i hi).1] at k1
        simp only [Addr.add_mid] at k1
        exact k1
end

end Ex
end Go.Proofs.YtlgojnodhbmlkaaGreatDoor
