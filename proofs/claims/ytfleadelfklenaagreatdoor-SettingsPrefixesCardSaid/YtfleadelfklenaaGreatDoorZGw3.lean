import Derived.Test.YtfleadelfklenaaGreatDoorZGw2
import Derived.Lib.AppendStr
section
namespace Go.VD
set_option linter.unusedVariables false
set_option linter.unusedSimpArgs false
section
variable {P : Program} {T : Tbl} (hT : TblOk P T) {ρ : Nat → Nat × Nat} {S : Nat → Prop} {w w' : World} {H : Heap}
theorem RdL.map2 {E : Ctx} {α : Type} (f : α → D) (g : α → Value) : ∀ (l : List α), (∀ x ∈ l, (g x).oneCell' = true ∧ Rd E (f x) (g x)) → RdL E (l.map f) (l.map g)
  | [], _ => by simp [RdL]
  | x :: l, h => by
    simp only [List.map_cons, RdL]
    exact ⟨_, _, rfl, (h x (by simp)).1, (h x (by simp)).2, RdL.map2 f g l fun y hy => h y (by simp [hy])⟩
theorem makeD_rd {E : Ctx} {t : TypeId} {ti : TI} (ht : TiOk P t ti) {z : Value} (hz : z.cells.toList = ti.zero) (n : Nat) : RdL E (makeD ti.zero n) (madeCells z.cells (n * ti.size)).toList := by
  have hlen := ht.len
  have hsz : z.cells.size = ti.size := by rw [← Array.length_toList, hz, hlen]
  have gen : RdL E ((List.range (n * ti.zero.length)).map fun i => D.v (ti.zero.getD (i % ti.zero.length) undef)) (madeCells z.cells (n * ti.size)).toList := by
    rw [hlen]
    have e : (madeCells z.cells (n * ti.size)).toList = (List.range (n * ti.size)).map fun i => ti.zero.getD (i % ti.size) undef := by
      simp only [madeCells, Array.toList_map, Array.toList_range, hsz]
      apply List.map_congr_left
      intro i hi
      have hpos : 0 < ti.size := by
        rcases Nat.eq_zero_or_pos ti.size with h0 | h0
        · rw [h0] at hi; simp at hi
        · exact h0
      have hlt : i % ti.size < z.cells.size := by rw [hsz]; exact Nat.mod_lt _ hpos
      rw [getElem!_pos z.cells _ hlt, List.getD_eq_getElem?_getD, ← hz, Array.getElem?_toList, Array.getElem?_eq_getElem hlt]
      rfl
    rw [e]
    refine RdL.map2 _ _ _ fun i hi => ⟨?_, by simp [Rd]⟩
    have hpos : 0 < ti.size := by
      rcases Nat.eq_zero_or_pos ti.size with h0 | h0
      · rw [h0] at hi; simp at hi
      · exact h0
    have hlt : i % ti.size < ti.zero.length := by rw [hlen]; exact Nat.mod_lt _ hpos
    rw [List.getD_eq_getElem?_getD, List.getElem?_eq_getElem hlt]
    exact ht.one _ (List.getElem_mem hlt)
  unfold makeD
  split
  · rename_i z0 hz0
    have hs1 : ti.size = 1 := by rw [← hlen, hz0]; rfl
    have hc : z.cells = #[z0] := by rw [← Array.toList_inj, hz, hz0]
    rw [hs1, Nat.mul_one, hc, toList_madeCells_one]
    exact RdL.replicate _ _ (ht.one z0 (by rw [hz0]; simp)) (by simp [Rd]) n
  · exact gen
theorem srcD_spec {es : Nat} (hes : 0 < es) {dx : Option D} {m : Nat} {news : List D} {c : Prop} (h : srcD H es dx = some (m, news, c)) (hc : c) (hS : St ρ S w H) {x : Value} (hx : ∀ d, dx = some d → Rd (ctx ρ S w H) d x) :
    news.length = m * es ∧ ∃ B c', x = .slice B m c' ∧ ∃ us : List Value, RdL (ctx ρ S w H) news us ∧ (0 < m → ∃ ad : Addr, B = some ad ∧ ∀ j u, us[j]? = some u → w.cell? (ad.add j) = some u) := by
  unfold srcD at h
  split at h
  · rename_i n ys
    injection h with h; injection h with h1 h2; injection h2 with h2 h3
    subst h1; subst h2; subst h3
    have hr := hx _ rfl
    simp only [Rd] at hr
    obtain ⟨hnl, A, cp, rfl, h1, h2, h3⟩ := hr
    refine ⟨by simp; omega, A, cp, rfl, ?_⟩
    rcases Nat.eq_zero_or_pos n with h0 | h0
    · subst h0; exact ⟨[], by simp [RdL], fun h => absurd h (by omega)⟩
    · obtain ⟨ad, rfl, hs, ha⟩ := h3 h0
      obtain ⟨us, hu1, hu2⟩ := RdAt.list _ _ _ (ha.take (n * es))
      exact ⟨us, hu1, fun _ => ⟨ad, rfl, fun j u hj => by have := hu2 j u hj; rw [Nat.zero_add] at this; exact this⟩⟩
  · rename_i b off n cp
    split at h
    · rename_i blk hb
      injection h with h; injection h with h1 h2; injection h2 with h2 h3
      subst h1; subst h2; subst h3
      have hit := blkAt_ty hb; have hb := blkAt_some hb
      have hr := hx _ rfl
      have : ∃ A c, x = .slice A n c ∧ n ≤ c ∧ (0 < c → A = some ⟨(ρ b).1, off, none⟩) := by
        cases cp <;> simp only [Rd] at hr
        · obtain ⟨_, h1, _, A, h, h2⟩ := hr; exact ⟨A, _, h, h1, h2⟩
        · obtain ⟨_, A, c, h, h1, _, _, h2⟩ := hr; exact ⟨A, c, h, h1, h2⟩
      obtain ⟨A, c, rfl, hnc, hA⟩ := this
      refine ⟨by simp; omega, A, c, rfl, ?_⟩
      rcases Nat.eq_zero_or_pos n with h0 | h0
      · subst h0; exact ⟨[], by simp [RdL], fun h => absurd h (by omega)⟩
      · have hA := hA (by omega)
        subst hA
        have hpos : 0 < n * es := Nat.mul_pos h0 hes
        have hz : (ρ b).2 ≠ 0 := fun hz => by have := hS.none b blk hb hz; rw [this] at hc; simp at hc; omega
        obtain ⟨cur, hk⟩ := hS.blk b blk hb (by omega)
        refine ⟨((cur.toList.take blk.cs.length).drop off).take (n * es), (hk.pre.drop off).take _, fun _ => ⟨_, rfl, fun j u hj => ?_⟩⟩
        have hh := hk.heap.cells hit
        simp only [ctx] at hh
        have hadd : (⟨(ρ b).1, off, none⟩ : Addr).add j = ⟨(ρ b).1, off + j, none⟩ := by unfold Addr.add; split <;> simp_all
        rw [hadd, cell_of_row w (ρ b).1 _ cur blk.ty (0, 0) hh]
        rw [List.getElem?_take] at hj
        split at hj
        · rw [List.getElem?_drop, List.getElem?_take] at hj
          split at hj
          · simpa using hj
          · cases hj
        · cases hj
    · cases h
  · rename_i A cp
    injection h with h; injection h with h1 h2; injection h2 with h2 h3
    subst h1; subst h2; subst h3
    have hr := hx _ rfl
    simp only [Rd] at hr
    exact ⟨by simp, A, cp, hr, [], by simp [RdL], fun h => absurd h (by omega)⟩
  · cases h
omit hT in
theorem run_bytes_loop : ∀ (us : List Value) (s : ByteArray), (∀ u ∈ us, ∃ n, u = .int .u8 n) →
    (forIn (m := Sem) us s fun c s => (match c with
      | .int .u8 n => do pure (ForInStep.yield (s.push (UInt8.ofNat n.toNat)))
      | _ => do
        stuck "bytesToString: byte expected"
        pure (ForInStep.yield s))).run P w = .ok (us.foldl (fun s u => match u with | .int _ n => s.push (UInt8.ofNat n.toNat) | _ => s) s) w
  | [], s, _ => by simp
  | u :: us, s, h => by
    obtain ⟨n, rfl⟩ := h u (by simp)
    simp only [List.forIn_cons, Sem.run_bind, Sem.run_pure, Result.andThen_ok, List.foldl_cons]
    exact run_bytes_loop us _ fun u hu => h u (by simp [hu])
omit hT in
theorem run_bytes (ad : Addr) (us : List Value) (c : Nat) (hc : ∀ i v, us[i]? = some v → w.cell? (ad.add i) = some v) (h : ∀ u ∈ us, ∃ n, u = .int .u8 n) :
    (Conv.bytesToString (.slice (some ad) us.length c)).run P w = .ok (.string (us.foldl (fun s u => match u with | .int _ n => s.push (UInt8.ofNat n.toNat) | _ => s) ByteArray.empty)) w := by
  simp only [Conv.bytesToString, Sem.run_bind, run_loadCells_list w ad us hc, Result.andThen_ok]
  have := run_bytes_loop (P := P) (w := w) us ByteArray.empty h
  rw [← Array.forIn_toList]
  exact congrArg (fun r => r.andThen fun a w' => Sem.run P (pure (Value.string a)) w') this
omit hT in
theorem bytes_of {E : Ctx} : ∀ (ds : List D) (us : List Value) (s : ByteArray), RdL E ds us → AllU8 ds → (∀ u ∈ us, ∃ n, u = .int .u8 n) ∧
    (us.foldl (fun s u => match u with | .int _ n => s.push (UInt8.ofNat n.toNat) | _ => s) s).data = s.data ++ (ds.map fun d => UInt8.ofNat (cellInt d).toNat).toArray
  | [], us, s, hr, _ => by simp only [RdL] at hr; subst hr; simp
  | d :: ds, us, s, hr, ha => by
    simp only [RdL] at hr
    obtain ⟨u, r, rfl, _, hd, hr⟩ := hr
    have h0 : d = .v (.int .u8 (cellInt d)) := ha d (by simp)
    rw [h0] at hd
    simp only [Rd] at hd
    subst hd
    obtain ⟨h1, h2⟩ := bytes_of ds r (s.push (UInt8.ofNat (cellInt d).toNat)) hr fun e he => ha e (by simp [he])
    refine ⟨fun u hu => ?_, ?_⟩
    · rcases List.mem_cons.1 hu with rfl | hu
      · exact ⟨_, rfl⟩
      · exact h1 u hu
    · simp only [List.foldl_cons]
      rw [h2]
      apply Array.toList_inj.1
      simp [ByteArray.push]
include hT in
theorem bytes_sound {s d : TypeId} {dx : Option D} {out : HOut} (h : bytesH T H (T s) (T d) dx = some out) (hc : out.c) (hS : St ρ S w H) {x : Value} (hx : ∀ d', dx = some d' → Rd (ctx ρ S w H) d' x) :
    out.H = H ∧ ∃ v, (convert s d x).run P w = .ok v w ∧ Rd (ctx ρ S w H) out.d v := by
  unfold bytesH at h
  split at h
  · rename_i e _ _ _ _ _ _ hs hd
    split at h
    · rename_i hte
      split at h
      · rename_i m news c hsrc
        injection h with h; subst h
        refine ⟨rfl, ?_⟩
        obtain ⟨hnews, B, c', rfl, us, hus, haddr⟩ := srcD_spec (by decide) hsrc hc.1 hS hx
        have hcv : ∀ y, (convert s d (.slice B m c')).run P w = .ok y w ↔ (Conv.bytesToString (.slice B m c')).run P w = .ok y w := by
          intro y
          have e1 := (hT.ok s _ hs).slice rfl
          have e2 := (hT.ok d _ hd).str rfl
          have e3 := (hT.ok e _ hte).int rfl
          simp [convert, run_underlying e1, run_underlying e2, run_underlying e3]
        have hl : us.length = m := by rw [hus.length, hnews]; simp
        obtain ⟨h1, h2⟩ := bytes_of news us ByteArray.empty hus hc.2
        cases B with
        | none =>
          have hm : m = 0 := by
            rcases Nat.eq_zero_or_pos m with h | h
            · exact h
            · obtain ⟨ad, h, _⟩ := haddr h; cases h
          subst hm
          refine ⟨.string .empty, (hcv _).2 (by simp [Conv.bytesToString]), ?_⟩
          have : news = [] := List.eq_nil_of_length_eq_zero (by simpa using hnews)
          subst this
          simp only [Rd]; rfl
        | some ad =>
          have hcell : ∀ i v, us[i]? = some v → w.cell? (ad.add i) = some v := by
            intro i v hi
            have h0 : 0 < m := by
              rcases Nat.eq_zero_or_pos m with h | h
              · rw [h] at hl; have := List.eq_nil_of_length_eq_zero hl; subst this; simp at hi
              · exact h
            obtain ⟨ad', e, h⟩ := haddr h0
            injection e with e; subst e
            exact h i v hi
          have := run_bytes (P := P) ad us c' hcell h1
          rw [hl] at this
          refine ⟨_, (hcv _).2 this, ?_⟩
          simp only [Rd]
          congr 1
          have e : ∀ (a b : ByteArray), a.data = b.data → a = b := fun a b h => by cases a; cases b; simp_all
          apply e
          rw [h2]
          simp [strOf]
      · cases h
    · cases h
  · cases h
theorem St.renew {H0 : Heap} {blk : Blk} {id : Nat} {cur : Array Value} (hS : St ρ S w H) (hty : blk.ty ≠ itTy) (hd : Drops H H0) (hid : w.heap.size ≤ id ∨ Live ρ H id) (hnl : ¬ Live ρ H0 id)
    (hsize : w.heap.size ≤ w'.heap.size) (hheap : ∀ k, k < w.heap.size → k ≠ id → w'.heap[k]? = w.heap[k]?) (hos : w'.os = w.os) (htape : w'.tape = w.tape) (hout : w'.output = w.output)
    (hh : w'.heap[id]? = some (.cells cur blk.ty (0, 0))) (hp : RdL (ctx ρ S w H) blk.cs (cur.toList.take blk.cs.length)) (hf : blk.full = true → blk.cs.length = cur.size) (hpos : 0 < cur.size) :
    St (ext ρ H.length (id, cur.size)) S w' (H0 ++ [some blk]) ∧ (ctx ρ S w H).le (ctx (ext ρ H.length (id, cur.size)) S w' (H0 ++ [some blk])) := by
  have hlen := hd.1
  have hnS : ∀ k, Fix (ctx ρ S w H) k → k ≠ id := fun k hk e => by
    subst e
    rcases hid with h | h
    · have hk1 : k < w.heap.size := hk.1; omega
    · exact hk.2 h
  have hle : (ctx ρ S w H).le (ctx (ext ρ H.length (id, cur.size)) S w' (H0 ++ [some blk])) :=
    ⟨by simp [hlen], fun b hb => ext_lt ρ _ hb, fun _ h => h, fun k h => hheap k (hS.sub k h).1 (hnS k (hS.sub k h)), fun _ h => .inl h, fun k hk => ⟨Nat.lt_of_lt_of_le hk.1 hsize, fun ⟨b, bl, hb, hz, e⟩ => by
      dsimp only at hb hz e
      rcases getElem?_snoc_cases hb with ⟨hlt, hb⟩ | ⟨rfl, hx⟩
      · rw [hlen] at hlt
        rw [ext_lt ρ _ hlt] at e hz; exact hk.2 ⟨b, bl, hd.2 b bl hb, hz, e⟩
      · rw [hlen, ext_same] at e; exact hnS k hk e.symm⟩, fun k hk => hheap k hk.1 (hnS k hk), hsize, hos, htape, hout⟩
  refine ⟨⟨fun k hk => hle.fix k (hS.sub k hk), fun b bl hb hz => ?_, fun b bl hb hz => ?_, fun b b' bl bl' hb hb' hz hz' e => ?_, hS.glob.mono (fun _ h => h) hle.keep⟩, hle⟩
  · rcases getElem?_snoc_cases hb with ⟨hlt, hb⟩ | ⟨rfl, hx⟩
    · rw [hlen] at hlt; rw [ext_lt ρ _ hlt] at hz; exact hS.none b bl (hd.2 b bl hb) hz
    · rw [hlen, ext_same] at hz; simp only at hz; omega
  · rcases getElem?_snoc_cases hb with ⟨hlt, hb⟩ | ⟨rfl, hx⟩
    · rw [hlen] at hlt
      rw [ext_lt ρ _ hlt] at hz ⊢
      obtain ⟨c, hc⟩ := hS.blk b bl (hd.2 b bl hb) hz
      refine ⟨c, hc.heap.of (hheap _ hc.lt (fun e => hnl ⟨b, bl, hb, hz, e⟩)), hc.size, hc.pre.mono hle _ _, hc.full⟩
    · injection hx with hx; subst hx
      rw [hlen, ext_same]
      exact ⟨cur, .inl ⟨hty, hh⟩, fun _ => rfl, hp.mono hle _ _, hf⟩
  · rcases getElem?_snoc_cases hb with ⟨hlt, hb⟩ | ⟨rfl, hx⟩ <;> rcases getElem?_snoc_cases hb' with ⟨hlt', hb'⟩ | ⟨rfl, hx'⟩
    · rw [hlen] at hlt hlt'
      rw [ext_lt ρ _ hlt] at e hz; rw [ext_lt ρ _ hlt'] at e hz'; exact hS.inj b b' bl bl' (hd.2 _ _ hb) (hd.2 _ _ hb') hz hz' e
    · rw [hlen] at hlt
      rw [ext_lt ρ _ hlt] at e hz; rw [hlen, ext_same] at e
      exact absurd ⟨b, bl, hb, hz, e⟩ hnl
    · rw [hlen] at hlt'
      rw [ext_lt ρ _ hlt'] at e hz'; rw [hlen, ext_same] at e
      exact absurd ⟨b', bl', hb', hz', e.symm⟩ hnl
    · rfl
theorem run_append_zero {t ty e : TypeId} {te : TI} (ht : P.underlying t = some (.slice e)) (he : TiOk P e te) (A B : Option Addr) (n c c' : Nat) (hnc : n ≤ c) :
    (Builtin.append_ #[t, t] ty #[.slice A n c, .slice B 0 c']).run P w = .ok (.slice A n c) w := by
  cases B <;> cases A <;> simp [Builtin.append_, run_underlying ht, he.run_size, Builtin.lenOf, Builtin.firstCells, hnc, storeCells, loadCells, loadCellsFrom]
theorem run_append_cap0 {t ty e : TypeId} {te : TI} (ht : P.underlying t = some (.slice e)) (he : TiOk P e te) (A B : Option Addr) (m c' : Nat) (hm : 0 < m) (hbytes : m * te.bytes ≤ 140737488355328) (h63 : m ≤ maxLen) :
    (Builtin.append_ #[t, t] ty #[.slice A 0 0, .slice B m c']).run P w = (Builtin.append_ #[t, t] ty #[.slice none 0 0, .slice B m c']).run P w := by
  obtain ⟨i, z, hi, hinfo, h1, h2, h3, h4⟩ := he.run_info w
  have hn : ¬ m ≤ 0 := by omega
  have hcap : Builtin.nextslicecap m 0 = m := by simp [Builtin.nextslicecap]; omega
  have hbig : ¬ (281474976710656 < m * i.bytes) := by rw [h2]; omega
  cases A with
  | none => rfl
  | some a => simp [Builtin.append_, run_underlying ht, sizeOf, typeInfo, hinfo, Builtin.lenOf, Builtin.firstCells, hn, Nat.pos_iff_ne_zero.1 hm, hcap, hbig, loadCells, loadCellsFrom]
theorem run_appendS_zero {t u ty e : TypeId} {te : TI} (ht : P.underlying t = some (.slice e)) (hu : P.underlying u = some .string) (he : TiOk P e te) (A : Option Addr) (n c : Nat) (s : ByteArray) (h0 : s.size = 0) (hnc : n ≤ c) :
    (Builtin.append_ #[t, u] ty #[.slice A n c, .string s]).run P w = .ok (.slice A n c) w := by
  have hf := Lib.run_firstCells_string (P := P) w te.size s
  have hn : Lib.strCells s = [] := List.eq_nil_of_length_eq_zero (by rw [Lib.strCells_length]; exact h0)
  rw [hn, h0] at hf
  cases A <;> simp [Builtin.append_, run_underlying ht, run_underlying hu, he.run_size, Builtin.lenOf, h0, hnc, hf, storeCells]
theorem run_appendS_cap0 {t u ty e : TypeId} {te : TI} (ht : P.underlying t = some (.slice e)) (hu : P.underlying u = some .string) (he : TiOk P e te) (A : Option Addr) (s : ByteArray) (hm : 0 < s.size) (hbytes : s.size * te.bytes ≤ 140737488355328) (h63 : s.size ≤ maxLen) :
    (Builtin.append_ #[t, u] ty #[.slice A 0 0, .string s]).run P w = (Builtin.append_ #[t, u] ty #[.slice none 0 0, .string s]).run P w := by
  obtain ⟨i, z, hi, hinfo, h1, h2, h3, h4⟩ := he.run_info w
  have hn : ¬ s.size ≤ 0 := by omega
  have hcap : Builtin.nextslicecap s.size 0 = s.size := nextslicecap_zero hm
  have hbig : ¬ (281474976710656 < s.size * i.bytes) := by rw [h2]; omega
  cases A with
  | none => rfl
  | some a => simp [Builtin.append_, run_underlying ht, run_underlying hu, sizeOf, typeInfo, hinfo, Builtin.lenOf, Builtin.firstCells, hn, Nat.pos_iff_ne_zero.1 hm, hcap, hbig, loadCells, loadCellsFrom]
theorem strD_rd {E : Ctx} (s : ByteArray) : RdL E (strD s) (Lib.strCells s) := by
  unfold strD Lib.strCells
  exact RdL.map2 _ _ _ fun b _ => ⟨rfl, by simp [Rd]⟩
theorem strD_length (s : ByteArray) : (strD s).length = s.size := by
  unfold strD; rw [List.length_map, Array.length_toList]; rfl
theorem appendS_sound {b n es : Nat} {t t' ty e : TypeId} {te : TI} {blk : Blk} {s : ByteArray} {out : HOut} (hT : TblOk P T) (ht : P.underlying t = some (.slice e)) (hTe : T e = some te) (hb : blkAt H b = some blk) (h : appendS T H b n es t' e te blk s = some out) (hc : out.c) (hS : St ρ S w H)
    {v : Value} (hr : Rd (ctx ρ S w H) (.sl b 0 n (.toEnd es)) v) :
    ∃ v' w' ρ', (Builtin.append_ #[t, t'] ty #[v, .string s]).run P w = .ok v' w' ∧ St ρ' S w' out.H ∧ (ctx ρ S w H).le (ctx ρ' S w' out.H) ∧ Rd (ctx ρ' S w' out.H) out.d v' := by
  unfold appendS at h
  split at h
  · rename_i hTs
    split at h
    · injection h with h; subst h
      rename_i zz
      obtain ⟨rfl, hty, hnl, hmax, hbytes⟩ := hc
      have hu := (hT.ok t' _ hTs).str rfl
      have he := hT.ok e _ hTe
      have hit := blkAt_ty hb; have hb := blkAt_some hb
      simp only [Rd] at hr
      obtain ⟨hbN, A, cp, rfl, hncp, hcpm, hcap, hA⟩ := hr
      rw [Nat.zero_add, Nat.mul_one] at hcap
      have hdrop : Drops H (H.set b none) := Drops.set H b
      have hlenS : (H.set b none).length = H.length := by simp
      obtain ⟨i, z, hi, hinfo, e1, e2, e3, e4⟩ := he.run_info w
      have hzs : z.cells.size = 1 := by rw [← Array.length_toList, e4]; exact he.len
      have hsmall : n + s.size ≤ 9223372036854775807 := by simp only [maxLen] at hmax; omega
      rcases Nat.eq_zero_or_pos s.size with hm | hm
      · have hn0 : strD s = [] := List.eq_nil_of_length_eq_zero (by rw [strD_length]; exact hm)
        have hrun := run_appendS_zero (P := P) (w := w) (ty := ty) ht hu he A n cp s hm hncp
        rcases Nat.eq_zero_or_pos cp with hcp | hcp
        · subst hcp
          have hn : n = 0 := by omega
          subst hn
          obtain ⟨h1, h2⟩ := (hS.drops hdrop).empty (ty := e) (full := false) (Grow.refl w)
          rw [hlenS] at h1 h2
          refine ⟨_, _, ext ρ H.length (0, 0), hrun, by simpa [hn0] using h1, by simpa [hn0] using hdrop.le.trans h2, ?_⟩
          simp only [Rd, hm]
          refine ⟨by simp, A, 0, rfl, Nat.le_refl _, by omega, ?_, fun h => absurd h (by omega)⟩
          simp [ext_same]
        · have hz : 0 < (ρ b).2 := by omega
          obtain ⟨cur, hk⟩ := hS.blk b blk hb hz
          have hA := hA hcp
          subst hA
          have hnlive : ¬ Live ρ (H.set b none) (ρ b).1 := fun ⟨b', bl', hb', hz', e'⟩ => by
            by_cases hbb : b = b'
            · subst hbb; rw [List.getElem?_set_self (List.getElem?_eq_some_iff.1 hb).1] at hb'; cases hb'
            · exact hbb (hS.inj b b' _ _ hb (hdrop.2 _ _ hb') hz hz' e'.symm)
          have hh := hk.heap.cells hit
          simp only [ctx] at hh
          obtain ⟨h1, h2⟩ := hS.renew (H0 := H.set b none) (blk := ⟨e, blk.cs.take n ++ strD s, false⟩) (id := (ρ b).1) (cur := cur) (w' := w) he.ne hdrop (.inr ⟨b, blk, hb, hz, rfl⟩) hnlive (Nat.le_refl _) (fun _ _ _ => rfl) rfl rfl rfl
            (by rw [hh, hty]) (by
              have e1 := hk.pre.take n
              rw [List.take_take] at e1
              simp only [hn0, List.append_nil, List.length_take]
              exact e1) (fun h => by cases h) (by rw [hk.size hit]; exact hz)
          refine ⟨_, _, _, hrun, h1, h2, ?_⟩
          simp only [Rd, hm]
          refine ⟨by simp, _, cp, rfl, by omega, hcpm, ?_, fun _ => ?_⟩
          · simp only [ext_same, Nat.zero_add, Nat.mul_one]; rw [hcap, hk.size hit]
          · simp only [ctx, ext_same]
      · -- a new row for all
        have grown : ∀ (olds : List Value) (old : Nat), olds.length = n → RdL (ctx ρ S w H) (blk.cs.take n) olds → old < n + s.size →
            (Builtin.append_ #[t, t'] ty #[.slice A n cp, .string s]).run P w = .ok (.slice (some ⟨w.heap.size, 0, none⟩) (n + s.size) (grownCap w (n + s.size) old e))
              (w.drew.alloc (.cells (olds.toArray ++ (Lib.strCells s).toArray ++ Builtin.zeroCells z.cells (grownCap w (n + s.size) old e - (n + s.size))) e)) →
            ∃ v' w' ρ', (Builtin.append_ #[t, t'] ty #[.slice A n cp, .string s]).run P w = .ok v' w' ∧ St ρ' S w' (H.set b none ++ [some ⟨e, blk.cs.take n ++ strD s, false⟩]) ∧
              (ctx ρ S w H).le (ctx ρ' S w' (H.set b none ++ [some ⟨e, blk.cs.take n ++ strD s, false⟩])) ∧ Rd (ctx ρ' S w' (H.set b none ++ [some ⟨e, blk.cs.take n ++ strD s, false⟩])) (.sl H.length 0 (n + s.size) (.toEnd 1)) v' := by
          intro olds old hol hor hlt hrun
          have hge := grownCap_ge w (n + s.size) old e
          have hcm : grownCap w (n + s.size) old e ≤ maxLen := grownCap_le_maxLen w (n + s.size) old e hmax
          have hsz : (olds.toArray ++ (Lib.strCells s).toArray ++ Builtin.zeroCells z.cells (grownCap w (n + s.size) old e - (n + s.size))).size = grownCap w (n + s.size) old e := by
            simp only [Array.size_append, List.size_toArray, size_zeroCells, hzs, hol, Lib.strCells_length]; omega
          obtain ⟨h1, h2⟩ := hS.renew (H0 := H.set b none) (blk := ⟨e, blk.cs.take n ++ strD s, false⟩) (id := w.heap.size)
            (cur := olds.toArray ++ (Lib.strCells s).toArray ++ Builtin.zeroCells z.cells (grownCap w (n + s.size) old e - (n + s.size)))
            (w' := w.drew.alloc (.cells (olds.toArray ++ (Lib.strCells s).toArray ++ Builtin.zeroCells z.cells (grownCap w (n + s.size) old e - (n + s.size))) e)) he.ne hdrop (.inl (Nat.le_refl _)) (fun hl => by
              have := (hS.drops hdrop).lt hl; omega) (by simp) (fun k hk _ => heap_alloc_old w.drew _ (show k < w.drew.heap.size from hk)) rfl rfl rfl (heap_alloc_new w.drew _) (by
              have e5 : (blk.cs.take n ++ strD s).length = (olds ++ Lib.strCells s).length := by
                rw [List.length_append, List.length_append, hol, strD_length, Lib.strCells_length, List.length_take, Nat.min_eq_left hnl]
              simp only [Array.toList_append]
              rw [e5, List.take_left]
              exact RdL.append _ _ _ _ hor (strD_rd s)) (fun h => by cases h) (by rw [hsz]; omega)
          refine ⟨_, _, _, hrun, h1, h2, ?_⟩
          simp only [Rd]
          refine ⟨by simp, _, _, rfl, hge, hcm, ?_, fun _ => ?_⟩
          · simp only [ctx, ext_same, Nat.zero_add, Nat.mul_one, hsz]
          · simp only [ctx, ext_same]
        rcases Nat.eq_zero_or_pos cp with hcp | hcp
        · subst hcp
          have hn : n = 0 := by omega
          subst hn
          have h0 := run_appendS_cap0 (P := P) (w := w) (ty := ty) ht hu he A s hm (by simpa using hbytes) (by simpa using hmax)
          have hr := run_append_nil_string (P := P) w t t' ty e i z ht hu hinfo e3 s hm (by omega) (by rw [e2]; simp only [Nat.mul_one]; omega)
          have e1' : (s.data.map fun b => Value.int .u8 b.toNat) = (Lib.strCells s).toArray := by
            apply Array.ext'; simp [Lib.strCells]
          rw [e1'] at hr
          refine grown [] 0 rfl (by simp [RdL]) (by omega) ?_
          rw [h0, hr]; simp
        · have hz : 0 < (ρ b).2 := by omega
          obtain ⟨cur, hk⟩ := hS.blk b blk hb hz
          have hA := hA hcp
          subst hA
          have hh := hk.heap.cells hit
          simp only [ctx] at hh
          have hks := hk.size hit
          have hcells : RdL (ctx ρ S w H) (blk.cs.take n) (cur.toList.take n) := by
            have e1 := hk.pre.take n
            rwa [List.take_take, Nat.min_eq_left hnl] at e1
          have hol : (cur.toList.take n).length = n := by rw [List.length_take, Array.length_toList]; omega
          by_cases hroom : n + s.size ≤ cp
          · have hrun := Lib.run_append_room_string (P := P) w t t' ty e i ht hu hinfo e1 (ρ b).1 n cp cur (by rw [hh, hty]) s hroom (by omega)
            have hnlive : ¬ Live ρ (H.set b none) (ρ b).1 := fun ⟨b', bl', hb', hz', e'⟩ => by
              by_cases hbb : b = b'
              · subst hbb; rw [List.getElem?_set_self (List.getElem?_eq_some_iff.1 hb).1] at hb'; cases hb'
              · exact hbb (hS.inj b b' _ _ hb (hdrop.2 _ _ hb') hz hz' e'.symm)
            have hsz : (cur.toList.take n ++ Lib.strCells s ++ cur.toList.drop (n + s.size)).toArray.size = cur.size := by
              simp only [List.size_toArray, List.length_append, List.length_take, List.length_drop, Array.length_toList, Lib.strCells_length]; omega
            obtain ⟨h1, h2⟩ := hS.renew (H0 := H.set b none) (blk := ⟨e, blk.cs.take n ++ strD s, false⟩) (id := (ρ b).1) (cur := (cur.toList.take n ++ Lib.strCells s ++ cur.toList.drop (n + s.size)).toArray)
              (w' := w.setRow (ρ b).1 (cur.toList.take n ++ Lib.strCells s ++ cur.toList.drop (n + s.size)).toArray) he.ne hdrop (.inr ⟨b, blk, hb, hz, rfl⟩) hnlive (by simp) (fun k _ hk => setRow_other w _ k _ hk) rfl rfl rfl
              (setRow_heap w (ρ b).1 cur _ e (0, 0) (by rw [hh, hty])) (by
                have e5 : (blk.cs.take n ++ strD s).length = (cur.toList.take n ++ Lib.strCells s).length := by
                  rw [List.length_append, List.length_append, hol, strD_length, Lib.strCells_length, List.length_take, Nat.min_eq_left hnl]
                rw [List.toList_toArray, e5, List.take_left]
                exact RdL.append _ _ _ _ hcells (strD_rd s)) (fun h => by cases h) (by rw [hsz, hks]; exact hz)
            refine ⟨_, _, _, hrun, h1, h2, ?_⟩
            simp only [Rd]
            refine ⟨by simp, _, cp, rfl, hroom, hcpm, ?_, fun _ => ?_⟩
            · simp only [ctx, ext_same, Nat.zero_add, Nat.mul_one, hsz]; rw [hcap, hks]
            · simp only [ctx, ext_same]
          · have hrow : ∀ j v, (cur.toList.take n)[j]? = some v → w.cell? ((⟨(ρ b).1, 0, none⟩ : Addr).add j) = some v := by
              intro j v hj
              have hadd : (⟨(ρ b).1, 0, none⟩ : Addr).add j = ⟨(ρ b).1, j, none⟩ := by unfold Addr.add; split <;> simp_all
              rw [hadd, cell_of_row w (ρ b).1 j cur blk.ty (0, 0) hh]
              rw [List.getElem?_take] at hj
              split at hj
              · simpa using hj
              · cases hj
            have hr := Lib.run_append_grow_string (P := P) w t t' ty e i z ht hu hinfo e3 ⟨(ρ b).1, 0, none⟩ n cp (cur.toList.take n) (by rw [e1, Nat.mul_one]; exact hol) hrow s (by omega) (by omega) (by rw [e2]; exact growslice_fits (need := n + s.size) (old := cp) (bytes := 1) (by omega) (by omega))
            exact grown _ cp hol hcells (by omega) hr
    · cases h
  · cases h
include hT
theorem append_sound {t t' ty : TypeId} {src : Option D} {ds : Option D} {out : HOut} (h : appendH T H (some t) (some t') (T t) src ds = some out) (hc : out.c) (hS : St ρ S w H)
    {s x : Value} (hs : ∀ d, ds = some d → Rd (ctx ρ S w H) d s) (hx : ∀ d, src = some d → Rd (ctx ρ S w H) d x) :
    ∃ v w' ρ', (Builtin.append_ #[t, t'] ty #[s, x]).run P w = .ok v w' ∧ St ρ' S w' out.H ∧ (ctx ρ S w H).le (ctx ρ' S w' out.H) ∧ Rd (ctx ρ' S w' out.H) out.d v := by
  unfold appendH at h
  split at h
  · rename_i b n es
    split at h
    · rename_i t0 t0' e _ _ _ he0 he0' hte
      injection he0 with he0; subst he0
      injection he0' with he0'; subst he0'
      split at h
      · rename_i te blk hTe hb
        split at h
        · rename_i m news c hsrc
          injection h with h; subst h
          obtain ⟨hc0, rfl, rfl, hty, hnl, hpos, hmax, hbytes⟩ := hc
          have hit := blkAt_ty hb; have hb := blkAt_some hb
          have hu := (hT.ok t _ hte).slice rfl
          have he := hT.ok e te hTe
          obtain ⟨hnews, B, c', rfl, us, hus, haddr⟩ := srcD_spec hpos hsrc hc0 hS hx
          have hr := hs _ rfl
          simp only [Rd] at hr
          obtain ⟨hbN, A, cp, rfl, hncp, hcpm, hcap, hA⟩ := hr
          rw [Nat.zero_add] at hcap
          have hdrop : Drops H (H.set b none) := Drops.set H b
          have hlenS : (H.set b none).length = H.length := by simp
          have hNb : H.length < (H.set b none ++ [some (⟨e, blk.cs.take (n * te.size) ++ news, false⟩ : Blk)]).length := by simp
          rcases Nat.eq_zero_or_pos m with hm | hm
          · -- nothing is added
            subst hm
            have hn0 : news = [] := List.eq_nil_of_length_eq_zero (by rw [hnews]; simp)
            subst hn0
            have hrun := run_append_zero (P := P) (w := w) (ty := ty) hu he A B n cp c' hncp
            rcases Nat.eq_zero_or_pos cp with hcp | hcp
            · subst hcp
              have hn : n = 0 := by omega
              subst hn
              obtain ⟨h1, h2⟩ := (hS.drops hdrop).empty (ty := e) (full := false) (Grow.refl w)
              rw [hlenS] at h1 h2
              refine ⟨_, _, ext ρ H.length (0, 0), hrun, by simpa using h1, by simpa using hdrop.le.trans h2, ?_⟩
              simp only [Rd]
              refine ⟨by simp, A, 0, rfl, Nat.le_refl _, by omega, ?_, fun h => absurd h (by omega)⟩
              simp [ext_same]
            · have hz : 0 < (ρ b).2 := by
                have : 0 < cp * te.size := Nat.mul_pos hcp hpos
                omega
              obtain ⟨cur, hk⟩ := hS.blk b blk hb hz
              have hA := hA hcp
              subst hA
              have hnlive : ¬ Live ρ (H.set b none) (ρ b).1 := fun ⟨b', bl', hb', hz', e'⟩ => by
                by_cases hbb : b = b'
                · subst hbb; rw [List.getElem?_set_self (List.getElem?_eq_some_iff.1 hb).1] at hb'; cases hb'
                · exact hbb (hS.inj b b' _ _ hb (hdrop.2 _ _ hb') hz hz' e'.symm)
              have hh := hk.heap.cells hit
              simp only [ctx] at hh
              have hpl := hk.pre.length
              obtain ⟨h1, h2⟩ := hS.renew (H0 := H.set b none) (blk := ⟨e, blk.cs.take (n * te.size) ++ [], false⟩) (id := (ρ b).1) (cur := cur) (w' := w) he.ne hdrop (.inr ⟨b, blk, hb, hz, rfl⟩) hnlive (Nat.le_refl _) (fun _ _ _ => rfl) rfl rfl rfl
                (by rw [hh, hty]) (by
                  simp only [List.append_nil, List.length_take]
                  have e1 := hk.pre.take (n * te.size)
                  rw [List.take_take] at e1
                  rw [show min (n * te.size) blk.cs.length = n * te.size by omega] at e1 ⊢
                  exact e1) (fun h => by cases h) (by rw [hk.size hit]; exact hz)
              refine ⟨_, _, _, hrun, h1, h2, ?_⟩
              simp only [Rd]
              refine ⟨by simp, _, cp, rfl, hncp, hcpm, ?_, fun _ => ?_⟩
              · simp only [ext_same, Nat.zero_add]; rw [hcap, hk.size hit]
              · simp only [ctx, ext_same]
          · obtain ⟨ad, rfl, hcells⟩ := haddr hm
            obtain ⟨i, z, hi, hinfo, e1, e2, e3, e4⟩ := he.run_info w
            have hzs : z.cells.size = te.size := by rw [← Array.length_toList, e4, he.len]
            have husl : us.length = m * te.size := by rw [hus.length, hnews]
            rcases Nat.eq_zero_or_pos cp with hcp | hcp
            · subst hcp
              have hn : n = 0 := by omega
              subst hn
              rw [Nat.zero_add] at hbytes hmax
              have hown : w.ownsRow 0 e te.size (.slice none 0 0) 0 [] := World.ownsRow_nil w 0 e te.size
              obtain ⟨v', w', hrun, ho, hg, hv, hob⟩ := run_append_own_at (P := P) w 0 t ty e i z te.size te.bytes hu hinfo e3 e1 e2 hzs hpos _ 0 [] hown ad m c' us husl hcells hus.one (by omega) (by rw [Nat.zero_add]; exact hbytes) (Nat.zero_le _)
              rw [← run_append_cap0 (w := w) (ty := ty) hu he A (some ad) m c' hm hbytes hmax] at hrun
              rw [Nat.zero_add, List.nil_append] at ho
              obtain ⟨hol, ⟨rfl, h0⟩ | ⟨g, cap, cur, rfl, _, hh, hmc, hcm, hcs, htk⟩⟩ := ho
              · omega
              · have hgid : g = w.heap.size := by simpa [Value.ownBlock] using hob
                subst hgid
                obtain ⟨h1, h2⟩ := hS.renew (H0 := H.set b none) (blk := ⟨e, blk.cs.take (0 * te.size) ++ news, false⟩) (id := w.heap.size) (cur := cur) (w' := w') he.ne hdrop (.inl (Nat.le_refl _)) (fun hl => by
                    have := (hS.drops hdrop).lt hl; omega) hg.size (fun k hk _ => hg.block k hk (by simp [Value.ownBlock])) hg.os hg.tape hg.output hh (by
                  simp only [Nat.zero_mul, List.take_zero, List.nil_append, hnews, htk]; exact hus) (fun h => by cases h) (by rw [hcs]; exact Nat.mul_pos (by omega) hpos)
                refine ⟨_, _, _, hrun, h1, h2, ?_⟩
                simp only [Rd]
                refine ⟨by simp, _, cap, by rw [Nat.zero_add], by omega, hcm, ?_, fun _ => ?_⟩
                · simp only [ctx, ext_same, Nat.zero_add, hcs]
                · simp only [ctx, ext_same]
            · have hz : 0 < (ρ b).2 := by
                have : 0 < cp * te.size := Nat.mul_pos hcp hpos
                omega
              obtain ⟨cur, hk⟩ := hS.blk b blk hb hz
              have hA := hA hcp
              subst hA
              have hh := hk.heap.cells hit
              simp only [ctx] at hh hcap
              have hnlive : ¬ Live ρ (H.set b none) (ρ b).1 := fun ⟨b', bl', hb', hz', e'⟩ => by
                by_cases hbb : b = b'
                · subst hbb; rw [List.getElem?_set_self (List.getElem?_eq_some_iff.1 hb).1] at hb'; cases hb'
                · exact hbb (hS.inj b b' _ _ hb (hdrop.2 _ _ hb') hz hz' e'.symm)
              have hpl := hk.pre.length
              have hmul : n * te.size ≤ cp * te.size := Nat.mul_le_mul_right _ hncp
              have hown : w.ownsRow 0 e te.size (.slice (some ⟨(ρ b).1, 0, none⟩) n cp) n (cur.toList.take (n * te.size)) :=
                ⟨by have := hk.size hit; simp; omega, .inr ⟨(ρ b).1, cp, cur, rfl, Nat.zero_le _, by rw [hh, hty], hncp, hcpm, by rw [hk.size hit, hcap], rfl⟩⟩
              obtain ⟨v', w', hrun, ho, hg, hv, hob⟩ := run_append_own_at (P := P) w 0 t ty e i z te.size te.bytes hu hinfo e3 e1 e2 hzs hpos _ n _ hown ad m c' us husl hcells hus.one hmax hbytes (Nat.zero_le _)
              obtain ⟨hol, ⟨rfl, h0⟩ | ⟨g, cap, cur', rfl, _, hh', hmc, hcm, hcs, htk⟩⟩ := ho
              · omega
              · have hgid : g = (ρ b).1 ∨ g = w.heap.size := by simpa [Value.ownBlock] using hob
                have hlive : w.heap.size ≤ g ∨ Live ρ H g := by
                  rcases hgid with rfl | rfl
                  · exact .inr ⟨b, blk, hb, hz, rfl⟩
                  · exact .inl (Nat.le_refl _)
                have hnl2 : ¬ Live ρ (H.set b none) g := by
                  rcases hgid with rfl | rfl
                  · exact hnlive
                  · intro hl; have := (hS.drops hdrop).lt hl; omega
                have hcells' : RdL (ctx ρ S w H) (blk.cs.take (n * te.size) ++ news) (cur'.toList.take (blk.cs.take (n * te.size) ++ news).length) := by
                  have e5 : (blk.cs.take (n * te.size) ++ news).length = (n + m) * te.size := by
                    rw [List.length_append, hnews, Nat.add_mul]; simp; omega
                  rw [e5, htk]
                  refine RdL.append _ _ _ _ ?_ hus
                  have e1 := hk.pre.take (n * te.size)
                  rw [List.take_take, show min (n * te.size) blk.cs.length = n * te.size by omega] at e1
                  exact e1
                rcases hgid with rfl | hgid
                · obtain ⟨h1, h2⟩ := hS.renew (H0 := H.set b none) (blk := ⟨e, blk.cs.take (n * te.size) ++ news, false⟩) (id := (ρ b).1) (cur := cur') (w' := w') he.ne hdrop hlive hnl2 hg.size
                    (fun k hk hne => hg.block k hk (by simp [Value.ownBlock]; exact hne)) hg.os hg.tape hg.output hh' hcells' (fun h => by cases h) (by rw [hcs]; exact Nat.mul_pos (by omega) hpos)
                  refine ⟨_, _, _, hrun, h1, h2, ?_⟩
                  simp only [Rd]
                  refine ⟨by simp, _, cap, rfl, by omega, hcm, ?_, fun _ => ?_⟩
                  · simp only [ctx, ext_same, Nat.zero_add, hcs]
                  · simp only [ctx, ext_same]
                · -- a new row; the old one may have been written beyond its length: it is given up
                  subst hgid
                  have hdl : (ctx ρ S w H).le (ctx (ext ρ H.length (w.heap.size, cur'.size)) S w' (H.set b none ++ [some ⟨e, blk.cs.take (n * te.size) ++ news, false⟩])) :=
                    ⟨by simp, fun b hb => ext_lt ρ _ hb, fun _ h => h, fun k hk' => hg.block k (hS.sub k hk').1 (by simp [Value.ownBlock]; intro e'; exact (hS.sub k hk').2 ⟨b, blk, hb, hz, e'.symm⟩), fun _ h => .inl h, fun k hk => ⟨Nat.lt_of_lt_of_le hk.1 hg.size, fun ⟨b', bl, hb', hz', e'⟩ => by
                      dsimp only at hb' hz' e'
                      rcases getElem?_snoc_cases hb' with ⟨hlt, hb'⟩ | ⟨rfl, hx'⟩
                      · rw [hlenS] at hlt
                        rw [ext_lt ρ _ hlt] at e' hz'; exact hk.2 ⟨b', bl, hdrop.2 _ _ hb', hz', e'⟩
                      · rw [hlenS, ext_same] at e'; have hk1 : k < w.heap.size := hk.1; simp only at e'; omega⟩,
                      fun k hk' => hg.block k hk'.1 (by simp [Value.ownBlock]; intro e'; exact hk'.2 ⟨b, blk, hb, hz, e'.symm⟩), hg.size, hg.os, hg.tape, hg.output⟩
                  refine ⟨_, _, ext ρ H.length (w.heap.size, cur'.size), hrun, ?_, hdl, ?_⟩
                  · refine ⟨fun k hk => hdl.fix k (hS.sub k hk), fun b' bl hb' hz' => ?_, fun b' bl hb' hz' => ?_, fun b' b'' bl bl' hb' hb'' hz' hz'' e' => ?_, hS.glob.mono (fun _ h => h) hdl.keep⟩
                    · rcases getElem?_snoc_cases hb' with ⟨hlt, hb'⟩ | ⟨rfl, hx'⟩
                      · rw [hlenS] at hlt; rw [ext_lt ρ _ hlt] at hz'; exact hS.none b' bl (hdrop.2 _ _ hb') hz'
                      · rw [hlenS, ext_same] at hz'; simp only at hz'; rw [hcs] at hz'
                        have : 0 < cap * te.size := Nat.mul_pos (by omega) hpos
                        omega
                    · rcases getElem?_snoc_cases hb' with ⟨hlt, hb'⟩ | ⟨rfl, hx'⟩
                      · rw [hlenS] at hlt
                        rw [ext_lt ρ _ hlt] at hz' ⊢
                        obtain ⟨cu, hcu⟩ := hS.blk b' bl (hdrop.2 _ _ hb') hz'
                        exact ⟨cu, hcu.heap.of (hg.block _ hcu.lt (by simp [Value.ownBlock]; intro e'; exact hnlive ⟨b', bl, hb', hz', e'⟩)), hcu.size, hcu.pre.mono hdl _ _, hcu.full⟩
                      · injection hx' with hx'; subst hx'
                        rw [hlenS, ext_same]
                        exact ⟨cur', .inl ⟨he.ne, hh'⟩, fun _ => rfl, hcells'.mono hdl _ _, fun h => by cases h⟩
                    · rcases getElem?_snoc_cases hb' with ⟨hlt, hb'⟩ | ⟨rfl, hx'⟩ <;> rcases getElem?_snoc_cases hb'' with ⟨hlt', hb''⟩ | ⟨rfl, hx''⟩
                      · rw [hlenS] at hlt hlt'
                        rw [ext_lt ρ _ hlt] at e' hz'; rw [ext_lt ρ _ hlt'] at e' hz''; exact hS.inj b' b'' bl bl' (hdrop.2 _ _ hb') (hdrop.2 _ _ hb'') hz' hz'' e'
                      · rw [hlenS] at hlt
                        rw [ext_lt ρ _ hlt] at e' hz'; rw [hlenS, ext_same] at e'
                        exact absurd ⟨b', bl, hb', hz', e'⟩ hnl2
                      · rw [hlenS] at hlt'
                        rw [ext_lt ρ _ hlt'] at e' hz''; rw [hlenS, ext_same] at e'
                        exact absurd ⟨b'', bl', hb'', hz'', e'.symm⟩ hnl2
                      · rfl
                  · simp only [Rd]
                    refine ⟨by simp, _, cap, rfl, by omega, hcm, ?_, fun _ => ?_⟩
                    · simp only [ctx, ext_same, Nat.zero_add, hcs]
                    · simp only [ctx, ext_same]
        · unfold srcStr at h
          split at h
          · rename_i s0
            have hx0 := hx _ rfl
            simp only [Rd] at hx0
            subst hx0
            exact appendS_sound hT ((hT.ok t _ hte).slice rfl) hTe hb h hc hS (hs _ rfl)
          · cases h
      · cases h
    · cases h
  · split at h
    · rename_i t0 t0' e _ _ _ he0 he0' hte
      injection he0 with he0; subst he0
      injection he0' with he0'; subst he0'
      split at h
      · rename_i te hTe
        split at h
        · rename_i m news c hsrc
          injection h with h; subst h
          obtain ⟨hc0, rfl, hpos, hmax, hbytes⟩ := hc
          have hu := (hT.ok t _ hte).slice rfl
          have he := hT.ok e te hTe
          obtain ⟨hnews, B, c', rfl, us, hus, haddr⟩ := srcD_spec hpos hsrc hc0 hS hx
          have hr := hs _ rfl
          simp only [Rd] at hr
          subst hr
          rcases Nat.eq_zero_or_pos m with hm | hm
          · subst hm
            have hn0 : news = [] := List.eq_nil_of_length_eq_zero (by rw [hnews]; simp)
            subst hn0
            have hrun := run_append_zero (P := P) (w := w) (ty := ty) hu he none B 0 0 c' (Nat.le_refl _)
            obtain ⟨h1, h2⟩ := hS.empty (ty := e) (full := false) (Grow.refl w)
            refine ⟨_, _, ext ρ H.length (0, 0), hrun, h1, h2, ?_⟩
            simp only [Rd]
            refine ⟨by simp, none, 0, rfl, Nat.le_refl _, Nat.zero_le _, ?_, fun h => absurd h (by omega)⟩
            simp [ext_same]
          · obtain ⟨ad, rfl, hcells⟩ := haddr hm
            obtain ⟨i, z, hi, hinfo, e1, e2, e3, e4⟩ := he.run_info w
            have hzs : z.cells.size = te.size := by rw [← Array.length_toList, e4, he.len]
            have husl : us.length = m * te.size := by rw [hus.length, hnews]
            have hown : w.ownsRow 0 e te.size (.slice none 0 0) 0 [] := World.ownsRow_nil w 0 e te.size
            obtain ⟨v', w', hrun, ho, hg, hv, hob⟩ := run_append_own_at (P := P) w 0 t ty e i z te.size te.bytes hu hinfo e3 e1 e2 hzs hpos _ 0 [] hown ad m c' us husl hcells hus.one (by omega) (by rw [Nat.zero_add]; exact hbytes) (Nat.zero_le _)
            rw [Nat.zero_add, List.nil_append] at ho
            obtain ⟨hol, ⟨rfl, h0⟩ | ⟨g, cap, cur, rfl, _, hh, hmc, hcm, hcs, htk⟩⟩ := ho
            · omega
            · have hgid : g = w.heap.size := by simpa [Value.ownBlock] using hob
              subst hgid
              obtain ⟨h1, h2⟩ := hS.renew (H0 := H) (blk := ⟨e, news, false⟩) (id := w.heap.size) (cur := cur) (w' := w') he.ne (Drops.refl H) (.inl (Nat.le_refl _)) (fun hl => by
                  have := hS.lt hl; omega) hg.size (fun k hk _ => hg.block k hk (by simp [Value.ownBlock])) hg.os hg.tape hg.output hh (by
                simp only [hnews, htk]; exact hus) (fun h => by cases h) (by rw [hcs]; exact Nat.mul_pos (by omega) hpos)
              refine ⟨_, _, _, hrun, h1, h2, ?_⟩
              simp only [Rd]
              refine ⟨by simp, _, cap, rfl, by omega, hcm, ?_, fun _ => ?_⟩
              · simp only [ctx, ext_same, Nat.zero_add, hcs]
              · simp only [ctx, ext_same]
        · cases h
      · cases h
    · cases h
  · cases h
end
end Go.VD
end
