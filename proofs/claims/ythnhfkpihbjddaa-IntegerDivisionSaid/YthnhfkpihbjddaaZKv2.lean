import Derived.Test.YthnhfkpihbjddaaZKv1
import Derived.KernelRfl
import Derived.StillTail
section
namespace Go.VD
set_option linter.unusedVariables false
set_option linter.unusedSimpArgs false
section
variable {P : Program} {T : Tbl} (hT : TblOk P T) {ρ : Nat → Nat × Nat} {S : Nat → Prop} {w w' : World} {H : Heap}
theorem RdL.map2 {E : Ctx} {α : Type} (f : α → D) (g : α → Value) : ∀ (l : List α), (∀ x ∈ l, (g x).oneCell' = true ∧ Rd E (f x) (g x)) → RdL E (l.map f) (l.map g)
  | [], _ => by simp [RdL]
  | x :: l, h => by
    simp only [List.map_cons, RdL]
    exact ⟨_, _, rfl, (h x (by simp)).1, (h x (by simp)).2, RdL.map2 f g l fun y hy => h y (by simp [hy])⟩
theorem makeD_rd {E : Ctx} {t : TypeId} {ti : TI} (ht : TiOk P t ti) {z : Value} (hz : z.cells.toList = ti.zero) (n : Nat) : RdL E (makeD ti.zero n) (madeCells z.cells (n * ti.size)).toList := by
  have hlen := ht.len
  have hsz : z.cells.size = ti.size := by rw [← Array.length_toList, hz, hlen]
  have gen : RdL E ((List.range (n * ti.zero.length)).map fun i => D.v (ti.zero.getD (i % ti.zero.length) undef)) (madeCells z.cells (n * ti.size)).toList := by
    rw [hlen]
    have e : (madeCells z.cells (n * ti.size)).toList = (List.range (n * ti.size)).map fun i => ti.zero.getD (i % ti.size) undef := by
      simp only [madeCells, Array.toList_map, Array.toList_range, hsz]
      apply List.map_congr_left
      intro i hi
      have hpos : 0 < ti.size := by
        rcases Nat.eq_zero_or_pos ti.size with h0 | h0
        · rw [h0] at hi; simp at hi
        · exact h0
      have hlt : i % ti.size < z.cells.size := by rw [hsz]; exact Nat.mod_lt _ hpos
      rw [getElem!_pos z.cells _ hlt, List.getD_eq_getElem?_getD, ← hz, Array.getElem?_toList, Array.getElem?_eq_getElem hlt]
      rfl
    rw [e]
    refine RdL.map2 _ _ _ fun i hi => ⟨?_, by simp [Rd]⟩
    have hpos : 0 < ti.size := by
      rcases Nat.eq_zero_or_pos ti.size with h0 | h0
      · rw [h0] at hi; simp at hi
      · exact h0
    have hlt : i % ti.size < ti.zero.length := by rw [hlen]; exact Nat.mod_lt _ hpos
    rw [List.getD_eq_getElem?_getD, List.getElem?_eq_getElem hlt]
    exact ht.one _ (List.getElem_mem hlt)
  unfold makeD
  split
  · rename_i z0 hz0
    have hs1 : ti.size = 1 := by rw [← hlen, hz0]; rfl
    have hc : z.cells = #[z0] := by rw [← Array.toList_inj, hz, hz0]
    rw [hs1, Nat.mul_one, hc, toList_madeCells_one]
    exact RdL.replicate _ _ (ht.one z0 (by rw [hz0]; simp)) (by simp [Rd]) n
  · exact gen
theorem makeD_length (zero : List Value) (n : Nat) : (makeD zero n).length = n * zero.length := by
  unfold makeD; split <;> simp
theorem srcD_spec {es : Nat} (hes : 0 < es) {dx : Option D} {m : Nat} {news : List D} {c : Prop} (h : srcD H es dx = some (m, news, c)) (hc : c) (hS : St ρ S w H) {x : Value} (hx : ∀ d, dx = some d → Rd (ctx ρ S w H) d x) :
    news.length = m * es ∧ ∃ B c', x = .slice B m c' ∧ ∃ us : List Value, RdL (ctx ρ S w H) news us ∧ (0 < m → ∃ ad : Addr, B = some ad ∧ ∀ j u, us[j]? = some u → w.cell? (ad.add j) = some u) := by
  unfold srcD at h
  split at h
  · rename_i n ys
    injection h with h; injection h with h1 h2; injection h2 with h2 h3
    subst h1; subst h2; subst h3
    have hr := hx _ rfl
    simp only [Rd] at hr
    obtain ⟨hnl, A, cp, rfl, h1, h2, h3⟩ := hr
    refine ⟨by simp; omega, A, cp, rfl, ?_⟩
    rcases Nat.eq_zero_or_pos n with h0 | h0
    · subst h0; exact ⟨[], by simp [RdL], fun h => absurd h (by omega)⟩
    · obtain ⟨ad, rfl, hs, ha⟩ := h3 h0
      obtain ⟨us, hu1, hu2⟩ := RdAt.list _ _ _ (ha.take (n * es))
      exact ⟨us, hu1, fun _ => ⟨ad, rfl, fun j u hj => by have := hu2 j u hj; rw [Nat.zero_add] at this; exact this⟩⟩
  · rename_i b off n cp
    split at h
    · rename_i blk hb
      injection h with h; injection h with h1 h2; injection h2 with h2 h3
      subst h1; subst h2; subst h3
      have hb := blkAt_some hb
      have hr := hx _ rfl
      have : ∃ A c, x = .slice A n c ∧ n ≤ c ∧ (0 < c → A = some ⟨(ρ b).1, off, none⟩) := by
        cases cp <;> simp only [Rd] at hr
        · obtain ⟨_, h1, _, A, h, h2⟩ := hr; exact ⟨A, _, h, h1, h2⟩
        · obtain ⟨_, A, c, h, h1, _, _, h2⟩ := hr; exact ⟨A, c, h, h1, h2⟩
      obtain ⟨A, c, rfl, hnc, hA⟩ := this
      refine ⟨by simp; omega, A, c, rfl, ?_⟩
      rcases Nat.eq_zero_or_pos n with h0 | h0
      · subst h0; exact ⟨[], by simp [RdL], fun h => absurd h (by omega)⟩
      · have hA := hA (by omega)
        subst hA
        have hpos : 0 < n * es := Nat.mul_pos h0 hes
        have hz : (ρ b).2 ≠ 0 := fun hz => by have := hS.none b blk hb hz; rw [this] at hc; simp at hc; omega
        obtain ⟨cur, hk⟩ := hS.blk b blk hb (by omega)
        refine ⟨((cur.toList.take blk.cs.length).drop off).take (n * es), (hk.pre.drop off).take _, fun _ => ⟨_, rfl, fun j u hj => ?_⟩⟩
        have hh := hk.heap
        simp only [ctx] at hh
        have hadd : (⟨(ρ b).1, off, none⟩ : Addr).add j = ⟨(ρ b).1, off + j, none⟩ := by unfold Addr.add; split <;> simp_all
        rw [hadd, cell_of_row w (ρ b).1 _ cur blk.ty (0, 0) hh]
        rw [List.getElem?_take] at hj
        split at hj
        · rw [List.getElem?_drop, List.getElem?_take] at hj
          split at hj
          · simpa using hj
          · cases hj
        · cases hj
    · cases h
  · rename_i A cp
    injection h with h; injection h with h1 h2; injection h2 with h2 h3
    subst h1; subst h2; subst h3
    have hr := hx _ rfl
    simp only [Rd] at hr
    exact ⟨by simp, A, cp, hr, [], by simp [RdL], fun h => absurd h (by omega)⟩
  · cases h
omit hT in
theorem run_bytes_loop : ∀ (us : List Value) (s : ByteArray), (∀ u ∈ us, ∃ n, u = .int .u8 n) →
    (forIn (m := Sem) us s fun c s => (match c with
      | .int .u8 n => do pure (ForInStep.yield (s.push (UInt8.ofNat n.toNat)))
      | _ => do
        stuck "bytesToString: byte expected"
        pure (ForInStep.yield s))).run P w = .ok (us.foldl (fun s u => match u with | .int _ n => s.push (UInt8.ofNat n.toNat) | _ => s) s) w
  | [], s, _ => by simp
  | u :: us, s, h => by
    obtain ⟨n, rfl⟩ := h u (by simp)
    simp only [List.forIn_cons, Sem.run_bind, Sem.run_pure, Result.andThen_ok, List.foldl_cons]
    exact run_bytes_loop us _ fun u hu => h u (by simp [hu])
omit hT in
theorem run_bytes (ad : Addr) (us : List Value) (c : Nat) (hc : ∀ i v, us[i]? = some v → w.cell? (ad.add i) = some v) (h : ∀ u ∈ us, ∃ n, u = .int .u8 n) :
    (Conv.bytesToString (.slice (some ad) us.length c)).run P w = .ok (.string (us.foldl (fun s u => match u with | .int _ n => s.push (UInt8.ofNat n.toNat) | _ => s) ByteArray.empty)) w := by
  simp only [Conv.bytesToString, Sem.run_bind, run_loadCells_list w ad us hc, Result.andThen_ok]
  have := run_bytes_loop (P := P) (w := w) us ByteArray.empty h
  rw [← Array.forIn_toList]
  exact congrArg (fun r => r.andThen fun a w' => Sem.run P (pure (Value.string a)) w') this
omit hT in
theorem bytes_of {E : Ctx} : ∀ (ds : List D) (us : List Value) (s : ByteArray), RdL E ds us → AllU8 ds → (∀ u ∈ us, ∃ n, u = .int .u8 n) ∧
    (us.foldl (fun s u => match u with | .int _ n => s.push (UInt8.ofNat n.toNat) | _ => s) s).data = s.data ++ (ds.map fun d => UInt8.ofNat (cellInt d).toNat).toArray
  | [], us, s, hr, _ => by simp only [RdL] at hr; subst hr; simp
  | d :: ds, us, s, hr, ha => by
    simp only [RdL] at hr
    obtain ⟨u, r, rfl, _, hd, hr⟩ := hr
    have h0 : d = .v (.int .u8 (cellInt d)) := ha d (by simp)
    rw [h0] at hd
    simp only [Rd] at hd
    subst hd
    obtain ⟨h1, h2⟩ := bytes_of ds r (s.push (UInt8.ofNat (cellInt d).toNat)) hr fun e he => ha e (by simp [he])
    refine ⟨fun u hu => ?_, ?_⟩
    · rcases List.mem_cons.1 hu with rfl | hu
      · exact ⟨_, rfl⟩
      · exact h1 u hu
    · simp only [List.foldl_cons]
      rw [h2]
      apply Array.toList_inj.1
      simp [ByteArray.push]
include hT in
theorem bytes_sound {s d : TypeId} {dx : Option D} {out : HOut} (h : bytesH T H (T s) (T d) dx = some out) (hc : out.c) (hS : St ρ S w H) {x : Value} (hx : ∀ d', dx = some d' → Rd (ctx ρ S w H) d' x) :
    out.H = H ∧ ∃ v, (convert s d x).run P w = .ok v w ∧ Rd (ctx ρ S w H) out.d v := by
  unfold bytesH at h
  split at h
  · rename_i e _ _ _ _ _ _ hs hd
    split at h
    · rename_i hte
      split at h
      · rename_i m news c hsrc
        injection h with h; subst h
        refine ⟨rfl, ?_⟩
        obtain ⟨hnews, B, c', rfl, us, hus, haddr⟩ := srcD_spec (by decide) hsrc hc.1 hS hx
        have hcv : ∀ y, (convert s d (.slice B m c')).run P w = .ok y w ↔ (Conv.bytesToString (.slice B m c')).run P w = .ok y w := by
          intro y
          have e1 := (hT.ok s _ hs).slice rfl
          have e2 := (hT.ok d _ hd).str rfl
          have e3 := (hT.ok e _ hte).int rfl
          simp [convert, run_underlying e1, run_underlying e2, run_underlying e3]
        have hl : us.length = m := by rw [hus.length, hnews]; simp
        obtain ⟨h1, h2⟩ := bytes_of news us ByteArray.empty hus hc.2
        cases B with
        | none =>
          have hm : m = 0 := by
            rcases Nat.eq_zero_or_pos m with h | h
            · exact h
            · obtain ⟨ad, h, _⟩ := haddr h; cases h
          subst hm
          refine ⟨.string .empty, (hcv _).2 (by simp [Conv.bytesToString]), ?_⟩
          have : news = [] := List.eq_nil_of_length_eq_zero (by simpa using hnews)
          subst this
          simp only [Rd]; rfl
        | some ad =>
          have hcell : ∀ i v, us[i]? = some v → w.cell? (ad.add i) = some v := by
            intro i v hi
            have h0 : 0 < m := by
              rcases Nat.eq_zero_or_pos m with h | h
              · rw [h] at hl; have := List.eq_nil_of_length_eq_zero hl; subst this; simp at hi
              · exact h
            obtain ⟨ad', e, h⟩ := haddr h0
            injection e with e; subst e
            exact h i v hi
          have := run_bytes (P := P) ad us c' hcell h1
          rw [hl] at this
          refine ⟨_, (hcv _).2 this, ?_⟩
          simp only [Rd]
          congr 1
          have e : ∀ (a b : ByteArray), a.data = b.data → a = b := fun a b h => by cases a; cases b; simp_all
          apply e
          rw [h2]
          simp [strOf]
      · cases h
    · cases h
  · cases h
theorem St.renew {H0 : Heap} {blk : Blk} {id : Nat} {cur : Array Value} (hS : St ρ S w H) (hd : Drops H H0) (hid : w.heap.size ≤ id ∨ Live ρ H id) (hnl : ¬ Live ρ H0 id)
    (hsize : w.heap.size ≤ w'.heap.size) (hheap : ∀ k, k < w.heap.size → k ≠ id → w'.heap[k]? = w.heap[k]?) (hos : w'.os = w.os) (htape : w'.tape = w.tape) (hout : w'.output = w.output)
    (hh : w'.heap[id]? = some (.cells cur blk.ty (0, 0))) (hp : RdL (ctx ρ S w H) blk.cs (cur.toList.take blk.cs.length)) (hf : blk.full = true → blk.cs.length = cur.size) (hpos : 0 < cur.size) :
    St (ext ρ H.length (id, cur.size)) S w' (H0 ++ [some blk]) ∧ (ctx ρ S w H).le (ctx (ext ρ H.length (id, cur.size)) S w' (H0 ++ [some blk])) := by
  have hlen := hd.1
  have hnS : ∀ k, Fix (ctx ρ S w H) k → k ≠ id := fun k hk e => by
    subst e
    rcases hid with h | h
    · have hk1 : k < w.heap.size := hk.1; omega
    · exact hk.2 h
  have hle : (ctx ρ S w H).le (ctx (ext ρ H.length (id, cur.size)) S w' (H0 ++ [some blk])) :=
    ⟨by simp [hlen], fun b hb => ext_lt ρ _ hb, fun _ h => h, fun k h => hheap k (hS.sub k h).1 (hnS k (hS.sub k h)), fun _ h => .inl h, fun k hk => ⟨Nat.lt_of_lt_of_le hk.1 hsize, fun ⟨b, bl, hb, hz, e⟩ => by
      dsimp only at hb hz e
      rcases getElem?_snoc_cases hb with ⟨hlt, hb⟩ | ⟨rfl, hx⟩
      · rw [hlen] at hlt
        rw [ext_lt ρ _ hlt] at e hz; exact hk.2 ⟨b, bl, hd.2 b bl hb, hz, e⟩
      · rw [hlen, ext_same] at e; exact hnS k hk e.symm⟩, fun k hk => hheap k hk.1 (hnS k hk), hsize, hos, htape, hout⟩
  refine ⟨⟨fun k hk => hle.fix k (hS.sub k hk), fun b bl hb hz => ?_, fun b bl hb hz => ?_, fun b b' bl bl' hb hb' hz hz' e => ?_, hS.glob.mono (fun _ h => h) hle.keep⟩, hle⟩
  · rcases getElem?_snoc_cases hb with ⟨hlt, hb⟩ | ⟨rfl, hx⟩
    · rw [hlen] at hlt; rw [ext_lt ρ _ hlt] at hz; exact hS.none b bl (hd.2 b bl hb) hz
    · rw [hlen, ext_same] at hz; simp only at hz; omega
  · rcases getElem?_snoc_cases hb with ⟨hlt, hb⟩ | ⟨rfl, hx⟩
    · rw [hlen] at hlt
      rw [ext_lt ρ _ hlt] at hz ⊢
      obtain ⟨c, hc⟩ := hS.blk b bl (hd.2 b bl hb) hz
      refine ⟨c, (hheap _ hc.lt (fun e => hnl ⟨b, bl, hb, hz, e⟩)).trans hc.heap, hc.size, hc.pre.mono hle _ _, hc.full⟩
    · injection hx with hx; subst hx
      rw [hlen, ext_same]
      exact ⟨cur, hh, rfl, hp.mono hle _ _, hf⟩
  · rcases getElem?_snoc_cases hb with ⟨hlt, hb⟩ | ⟨rfl, hx⟩ <;> rcases getElem?_snoc_cases hb' with ⟨hlt', hb'⟩ | ⟨rfl, hx'⟩
    · rw [hlen] at hlt hlt'
      rw [ext_lt ρ _ hlt] at e hz; rw [ext_lt ρ _ hlt'] at e hz'; exact hS.inj b b' bl bl' (hd.2 _ _ hb) (hd.2 _ _ hb') hz hz' e
    · rw [hlen] at hlt
      rw [ext_lt ρ _ hlt] at e hz; rw [hlen, ext_same] at e
      exact absurd ⟨b, bl, hb, hz, e⟩ hnl
    · rw [hlen] at hlt'
      rw [ext_lt ρ _ hlt'] at e hz'; rw [hlen, ext_same] at e
      exact absurd ⟨b', bl', hb', hz', e.symm⟩ hnl
    · rfl
theorem run_append_zero {t ty e : TypeId} {te : TI} (ht : P.underlying t = some (.slice e)) (he : TiOk P e te) (A B : Option Addr) (n c c' : Nat) (hnc : n ≤ c) :
    (Builtin.append_ #[t, t] ty #[.slice A n c, .slice B 0 c']).run P w = .ok (.slice A n c) w := by
  cases B <;> cases A <;> simp [Builtin.append_, run_underlying ht, he.run_size, Builtin.lenOf, Builtin.firstCells, hnc, storeCells, loadCells, loadCellsFrom]
theorem run_append_cap0 {t ty e : TypeId} {te : TI} (ht : P.underlying t = some (.slice e)) (he : TiOk P e te) (A B : Option Addr) (m c' : Nat) (hm : 0 < m) (hbytes : m * te.bytes ≤ 140737488355328) (h63 : m ≤ maxLen) :
    (Builtin.append_ #[t, t] ty #[.slice A 0 0, .slice B m c']).run P w = (Builtin.append_ #[t, t] ty #[.slice none 0 0, .slice B m c']).run P w := by
  obtain ⟨i, z, hi, hinfo, h1, h2, h3, h4⟩ := he.run_info w
  have hn : ¬ m ≤ 0 := by omega
  have hcap : Builtin.nextslicecap m 0 = m := by simp [Builtin.nextslicecap]; omega
  have hbig : ¬ (281474976710656 < m * i.bytes) := by rw [h2]; omega
  cases A with
  | none => rfl
  | some a => simp [Builtin.append_, run_underlying ht, sizeOf, typeInfo, hinfo, Builtin.lenOf, Builtin.firstCells, hn, Nat.pos_iff_ne_zero.1 hm, hcap, hbig, loadCells, loadCellsFrom]
include hT
theorem append_sound {t t' ty : TypeId} {src : Option D} {ds : Option D} {out : HOut} (h : appendH T H (some t) (some t') (T t) src ds = some out) (hc : out.c) (hS : St ρ S w H)
    {s x : Value} (hs : ∀ d, ds = some d → Rd (ctx ρ S w H) d s) (hx : ∀ d, src = some d → Rd (ctx ρ S w H) d x) :
    ∃ v w' ρ', (Builtin.append_ #[t, t'] ty #[s, x]).run P w = .ok v w' ∧ St ρ' S w' out.H ∧ (ctx ρ S w H).le (ctx ρ' S w' out.H) ∧ Rd (ctx ρ' S w' out.H) out.d v := by
  unfold appendH at h
  split at h
  · rename_i b n es
    split at h
    · rename_i t0 t0' e _ _ _ he0 he0' hte
      injection he0 with he0; subst he0
      injection he0' with he0'; subst he0'
      split at h
      · rename_i te blk hTe hb
        split at h
        · rename_i m news c hsrc
          injection h with h; subst h
          obtain ⟨hc0, rfl, rfl, hty, hnl, hpos, hmax, hbytes⟩ := hc
          have hb := blkAt_some hb
          have hu := (hT.ok t _ hte).slice rfl
          have he := hT.ok e te hTe
          obtain ⟨hnews, B, c', rfl, us, hus, haddr⟩ := srcD_spec hpos hsrc hc0 hS hx
          have hr := hs _ rfl
          simp only [Rd] at hr
          obtain ⟨hbN, A, cp, rfl, hncp, hcpm, hcap, hA⟩ := hr
          rw [Nat.zero_add] at hcap
          have hdrop : Drops H (H.set b none) := Drops.set H b
          have hlenS : (H.set b none).length = H.length := by simp
          have hNb : H.length < (H.set b none ++ [some (⟨e, blk.cs.take (n * te.size) ++ news, false⟩ : Blk)]).length := by simp
          rcases Nat.eq_zero_or_pos m with hm | hm
          · -- nothing is added
            subst hm
            have hn0 : news = [] := List.eq_nil_of_length_eq_zero (by rw [hnews]; simp)
            subst hn0
            have hrun := run_append_zero (P := P) (w := w) (ty := ty) hu he A B n cp c' hncp
            rcases Nat.eq_zero_or_pos cp with hcp | hcp
            · subst hcp
              have hn : n = 0 := by omega
              subst hn
              obtain ⟨h1, h2⟩ := (hS.drops hdrop).empty (ty := e) (full := false) (Grow.refl w)
              rw [hlenS] at h1 h2
              refine ⟨_, _, ext ρ H.length (0, 0), hrun, by simpa using h1, by simpa using hdrop.le.trans h2, ?_⟩
              simp only [Rd]
              refine ⟨by simp, A, 0, rfl, Nat.le_refl _, by omega, ?_, fun h => absurd h (by omega)⟩
              simp [ext_same]
            · have hz : 0 < (ρ b).2 := by
                have : 0 < cp * te.size := Nat.mul_pos hcp hpos
                omega
              obtain ⟨cur, hk⟩ := hS.blk b blk hb hz
              have hA := hA hcp
              subst hA
              have hnlive : ¬ Live ρ (H.set b none) (ρ b).1 := fun ⟨b', bl', hb', hz', e'⟩ => by
                by_cases hbb : b = b'
                · subst hbb; rw [List.getElem?_set_self (List.getElem?_eq_some_iff.1 hb).1] at hb'; cases hb'
                · exact hbb (hS.inj b b' _ _ hb (hdrop.2 _ _ hb') hz hz' e'.symm)
              have hh := hk.heap
              simp only [ctx] at hh
              have hpl := hk.pre.length
              obtain ⟨h1, h2⟩ := hS.renew (H0 := H.set b none) (blk := ⟨e, blk.cs.take (n * te.size) ++ [], false⟩) (id := (ρ b).1) (cur := cur) (w' := w) hdrop (.inr ⟨b, blk, hb, hz, rfl⟩) hnlive (Nat.le_refl _) (fun _ _ _ => rfl) rfl rfl rfl
                (by rw [hh, hty]) (by
                  simp only [List.append_nil, List.length_take]
                  have e1 := hk.pre.take (n * te.size)
                  rw [List.take_take] at e1
                  rw [show min (n * te.size) blk.cs.length = n * te.size by omega] at e1 ⊢
                  exact e1) (fun h => by cases h) (by rw [hk.size]; exact hz)
              refine ⟨_, _, _, hrun, h1, h2, ?_⟩
              simp only [Rd]
              refine ⟨by simp, _, cp, rfl, hncp, hcpm, ?_, fun _ => ?_⟩
              · simp only [ext_same, Nat.zero_add]; rw [hcap, hk.size]
              · simp only [ctx, ext_same]
          · obtain ⟨ad, rfl, hcells⟩ := haddr hm
            obtain ⟨i, z, hi, hinfo, e1, e2, e3, e4⟩ := he.run_info w
            have hzs : z.cells.size = te.size := by rw [← Array.length_toList, e4, he.len]
            have husl : us.length = m * te.size := by rw [hus.length, hnews]
            rcases Nat.eq_zero_or_pos cp with hcp | hcp
            · subst hcp
              have hn : n = 0 := by omega
              subst hn
              rw [Nat.zero_add] at hbytes hmax
              have hown : w.ownsRow 0 e te.size (.slice none 0 0) 0 [] := World.ownsRow_nil w 0 e te.size
              obtain ⟨v', w', hrun, ho, hg, hv, hob⟩ := run_append_own_at (P := P) w 0 t ty e i z te.size te.bytes hu hinfo e3 e1 e2 hzs hpos _ 0 [] hown ad m c' us husl hcells hus.one (by omega) (by rw [Nat.zero_add]; exact hbytes) (Nat.zero_le _)
              rw [← run_append_cap0 (w := w) (ty := ty) hu he A (some ad) m c' hm hbytes hmax] at hrun
              rw [Nat.zero_add, List.nil_append] at ho
              obtain ⟨hol, ⟨rfl, h0⟩ | ⟨g, cap, cur, rfl, _, hh, hmc, hcm, hcs, htk⟩⟩ := ho
              · omega
              · have hgid : g = w.heap.size := by simpa [Value.ownBlock] using hob
                subst hgid
                obtain ⟨h1, h2⟩ := hS.renew (H0 := H.set b none) (blk := ⟨e, blk.cs.take (0 * te.size) ++ news, false⟩) (id := w.heap.size) (cur := cur) (w' := w') hdrop (.inl (Nat.le_refl _)) (fun hl => by
                    have := (hS.drops hdrop).lt hl; omega) hg.size (fun k hk _ => hg.block k hk (by simp [Value.ownBlock])) hg.os hg.tape hg.output hh (by
                  simp only [Nat.zero_mul, List.take_zero, List.nil_append, hnews, htk]; exact hus) (fun h => by cases h) (by rw [hcs]; exact Nat.mul_pos (by omega) hpos)
                refine ⟨_, _, _, hrun, h1, h2, ?_⟩
                simp only [Rd]
                refine ⟨by simp, _, cap, by rw [Nat.zero_add], by omega, hcm, ?_, fun _ => ?_⟩
                · simp only [ctx, ext_same, Nat.zero_add, hcs]
                · simp only [ctx, ext_same]
            · have hz : 0 < (ρ b).2 := by
                have : 0 < cp * te.size := Nat.mul_pos hcp hpos
                omega
              obtain ⟨cur, hk⟩ := hS.blk b blk hb hz
              have hA := hA hcp
              subst hA
              have hh := hk.heap
              simp only [ctx] at hh hcap
              have hnlive : ¬ Live ρ (H.set b none) (ρ b).1 := fun ⟨b', bl', hb', hz', e'⟩ => by
                by_cases hbb : b = b'
                · subst hbb; rw [List.getElem?_set_self (List.getElem?_eq_some_iff.1 hb).1] at hb'; cases hb'
                · exact hbb (hS.inj b b' _ _ hb (hdrop.2 _ _ hb') hz hz' e'.symm)
              have hpl := hk.pre.length
              have hmul : n * te.size ≤ cp * te.size := Nat.mul_le_mul_right _ hncp
              have hown : w.ownsRow 0 e te.size (.slice (some ⟨(ρ b).1, 0, none⟩) n cp) n (cur.toList.take (n * te.size)) :=
                ⟨by have := hk.size; simp; omega, .inr ⟨(ρ b).1, cp, cur, rfl, Nat.zero_le _, by rw [hh, hty], hncp, hcpm, by rw [hk.size, hcap], rfl⟩⟩
              obtain ⟨v', w', hrun, ho, hg, hv, hob⟩ := run_append_own_at (P := P) w 0 t ty e i z te.size te.bytes hu hinfo e3 e1 e2 hzs hpos _ n _ hown ad m c' us husl hcells hus.one hmax hbytes (Nat.zero_le _)
              obtain ⟨hol, ⟨rfl, h0⟩ | ⟨g, cap, cur', rfl, _, hh', hmc, hcm, hcs, htk⟩⟩ := ho
              · omega
              · have hgid : g = (ρ b).1 ∨ g = w.heap.size := by simpa [Value.ownBlock] using hob
                have hlive : w.heap.size ≤ g ∨ Live ρ H g := by
                  rcases hgid with rfl | rfl
                  · exact .inr ⟨b, blk, hb, hz, rfl⟩
                  · exact .inl (Nat.le_refl _)
                have hnl2 : ¬ Live ρ (H.set b none) g := by
                  rcases hgid with rfl | rfl
                  · exact hnlive
                  · intro hl; have := (hS.drops hdrop).lt hl; omega
                have hcells' : RdL (ctx ρ S w H) (blk.cs.take (n * te.size) ++ news) (cur'.toList.take (blk.cs.take (n * te.size) ++ news).length) := by
                  have e5 : (blk.cs.take (n * te.size) ++ news).length = (n + m) * te.size := by
                    rw [List.length_append, hnews, Nat.add_mul]; simp; omega
                  rw [e5, htk]
                  refine RdL.append _ _ _ _ ?_ hus
                  have e1 := hk.pre.take (n * te.size)
                  rw [List.take_take, show min (n * te.size) blk.cs.length = n * te.size by omega] at e1
                  exact e1
                rcases hgid with rfl | hgid
                · obtain ⟨h1, h2⟩ := hS.renew (H0 := H.set b none) (blk := ⟨e, blk.cs.take (n * te.size) ++ news, false⟩) (id := (ρ b).1) (cur := cur') (w' := w') hdrop hlive hnl2 hg.size
                    (fun k hk hne => hg.block k hk (by simp [Value.ownBlock]; exact hne)) hg.os hg.tape hg.output hh' hcells' (fun h => by cases h) (by rw [hcs]; exact Nat.mul_pos (by omega) hpos)
                  refine ⟨_, _, _, hrun, h1, h2, ?_⟩
                  simp only [Rd]
                  refine ⟨by simp, _, cap, rfl, by omega, hcm, ?_, fun _ => ?_⟩
                  · simp only [ctx, ext_same, Nat.zero_add, hcs]
                  · simp only [ctx, ext_same]
                · -- a new row; the old one may have been written beyond its length: it is given up
                  subst hgid
                  have hdl : (ctx ρ S w H).le (ctx (ext ρ H.length (w.heap.size, cur'.size)) S w' (H.set b none ++ [some ⟨e, blk.cs.take (n * te.size) ++ news, false⟩])) :=
                    ⟨by simp, fun b hb => ext_lt ρ _ hb, fun _ h => h, fun k hk' => hg.block k (hS.sub k hk').1 (by simp [Value.ownBlock]; intro e'; exact (hS.sub k hk').2 ⟨b, blk, hb, hz, e'.symm⟩), fun _ h => .inl h, fun k hk => ⟨Nat.lt_of_lt_of_le hk.1 hg.size, fun ⟨b', bl, hb', hz', e'⟩ => by
                      dsimp only at hb' hz' e'
                      rcases getElem?_snoc_cases hb' with ⟨hlt, hb'⟩ | ⟨rfl, hx'⟩
                      · rw [hlenS] at hlt
                        rw [ext_lt ρ _ hlt] at e' hz'; exact hk.2 ⟨b', bl, hdrop.2 _ _ hb', hz', e'⟩
                      · rw [hlenS, ext_same] at e'; have hk1 : k < w.heap.size := hk.1; simp only at e'; omega⟩,
                      fun k hk' => hg.block k hk'.1 (by simp [Value.ownBlock]; intro e'; exact hk'.2 ⟨b, blk, hb, hz, e'.symm⟩), hg.size, hg.os, hg.tape, hg.output⟩
                  refine ⟨_, _, ext ρ H.length (w.heap.size, cur'.size), hrun, ?_, hdl, ?_⟩
                  · refine ⟨fun k hk => hdl.fix k (hS.sub k hk), fun b' bl hb' hz' => ?_, fun b' bl hb' hz' => ?_, fun b' b'' bl bl' hb' hb'' hz' hz'' e' => ?_, hS.glob.mono (fun _ h => h) hdl.keep⟩
                    · rcases getElem?_snoc_cases hb' with ⟨hlt, hb'⟩ | ⟨rfl, hx'⟩
                      · rw [hlenS] at hlt; rw [ext_lt ρ _ hlt] at hz'; exact hS.none b' bl (hdrop.2 _ _ hb') hz'
                      · rw [hlenS, ext_same] at hz'; simp only at hz'; rw [hcs] at hz'
                        have : 0 < cap * te.size := Nat.mul_pos (by omega) hpos
                        omega
                    · rcases getElem?_snoc_cases hb' with ⟨hlt, hb'⟩ | ⟨rfl, hx'⟩
                      · rw [hlenS] at hlt
                        rw [ext_lt ρ _ hlt] at hz' ⊢
                        obtain ⟨cu, hcu⟩ := hS.blk b' bl (hdrop.2 _ _ hb') hz'
                        exact ⟨cu, (hg.block _ hcu.lt (by simp [Value.ownBlock]; intro e'; exact hnlive ⟨b', bl, hb', hz', e'⟩)).trans hcu.heap, hcu.size, hcu.pre.mono hdl _ _, hcu.full⟩
                      · injection hx' with hx'; subst hx'
                        rw [hlenS, ext_same]
                        exact ⟨cur', hh', rfl, hcells'.mono hdl _ _, fun h => by cases h⟩
                    · rcases getElem?_snoc_cases hb' with ⟨hlt, hb'⟩ | ⟨rfl, hx'⟩ <;> rcases getElem?_snoc_cases hb'' with ⟨hlt', hb''⟩ | ⟨rfl, hx''⟩
                      · rw [hlenS] at hlt hlt'
                        rw [ext_lt ρ _ hlt] at e' hz'; rw [ext_lt ρ _ hlt'] at e' hz''; exact hS.inj b' b'' bl bl' (hdrop.2 _ _ hb') (hdrop.2 _ _ hb'') hz' hz'' e'
                      · rw [hlenS] at hlt
                        rw [ext_lt ρ _ hlt] at e' hz'; rw [hlenS, ext_same] at e'
                        exact absurd ⟨b', bl, hb', hz', e'⟩ hnl2
                      · rw [hlenS] at hlt'
                        rw [ext_lt ρ _ hlt'] at e' hz''; rw [hlenS, ext_same] at e'
                        exact absurd ⟨b'', bl', hb'', hz'', e'.symm⟩ hnl2
                      · rfl
                  · simp only [Rd]
                    refine ⟨by simp, _, cap, rfl, by omega, hcm, ?_, fun _ => ?_⟩
                    · simp only [ctx, ext_same, Nat.zero_add, hcs]
                    · simp only [ctx, ext_same]
        · cases h
      · cases h
    · cases h
  · split at h
    · rename_i t0 t0' e _ _ _ he0 he0' hte
      injection he0 with he0; subst he0
      injection he0' with he0'; subst he0'
      split at h
      · rename_i te hTe
        split at h
        · rename_i m news c hsrc
          injection h with h; subst h
          obtain ⟨hc0, rfl, hpos, hmax, hbytes⟩ := hc
          have hu := (hT.ok t _ hte).slice rfl
          have he := hT.ok e te hTe
          obtain ⟨hnews, B, c', rfl, us, hus, haddr⟩ := srcD_spec hpos hsrc hc0 hS hx
          have hr := hs _ rfl
          simp only [Rd] at hr
          subst hr
          rcases Nat.eq_zero_or_pos m with hm | hm
          · subst hm
            have hn0 : news = [] := List.eq_nil_of_length_eq_zero (by rw [hnews]; simp)
            subst hn0
            have hrun := run_append_zero (P := P) (w := w) (ty := ty) hu he none B 0 0 c' (Nat.le_refl _)
            obtain ⟨h1, h2⟩ := hS.empty (ty := e) (full := false) (Grow.refl w)
            refine ⟨_, _, ext ρ H.length (0, 0), hrun, h1, h2, ?_⟩
            simp only [Rd]
            refine ⟨by simp, none, 0, rfl, Nat.le_refl _, Nat.zero_le _, ?_, fun h => absurd h (by omega)⟩
            simp [ext_same]
          · obtain ⟨ad, rfl, hcells⟩ := haddr hm
            obtain ⟨i, z, hi, hinfo, e1, e2, e3, e4⟩ := he.run_info w
            have hzs : z.cells.size = te.size := by rw [← Array.length_toList, e4, he.len]
            have husl : us.length = m * te.size := by rw [hus.length, hnews]
            have hown : w.ownsRow 0 e te.size (.slice none 0 0) 0 [] := World.ownsRow_nil w 0 e te.size
            obtain ⟨v', w', hrun, ho, hg, hv, hob⟩ := run_append_own_at (P := P) w 0 t ty e i z te.size te.bytes hu hinfo e3 e1 e2 hzs hpos _ 0 [] hown ad m c' us husl hcells hus.one (by omega) (by rw [Nat.zero_add]; exact hbytes) (Nat.zero_le _)
            rw [Nat.zero_add, List.nil_append] at ho
            obtain ⟨hol, ⟨rfl, h0⟩ | ⟨g, cap, cur, rfl, _, hh, hmc, hcm, hcs, htk⟩⟩ := ho
            · omega
            · have hgid : g = w.heap.size := by simpa [Value.ownBlock] using hob
              subst hgid
              obtain ⟨h1, h2⟩ := hS.renew (H0 := H) (blk := ⟨e, news, false⟩) (id := w.heap.size) (cur := cur) (w' := w') (Drops.refl H) (.inl (Nat.le_refl _)) (fun hl => by
                  have := hS.lt hl; omega) hg.size (fun k hk _ => hg.block k hk (by simp [Value.ownBlock])) hg.os hg.tape hg.output hh (by
                simp only [hnews, htk]; exact hus) (fun h => by cases h) (by rw [hcs]; exact Nat.mul_pos (by omega) hpos)
              refine ⟨_, _, _, hrun, h1, h2, ?_⟩
              simp only [Rd]
              refine ⟨by simp, _, cap, rfl, by omega, hcm, ?_, fun _ => ?_⟩
              · simp only [ctx, ext_same, Nat.zero_add, hcs]
              · simp only [ctx, ext_same]
        · cases h
      · cases h
    · cases h
  · cases h
end
end Go.VD
end
section
namespace Go.VD
set_option linter.unusedVariables false
set_option linter.unusedSimpArgs false
section
variable {P : Program} {T : Tbl} (hT : TblOk P T) {ρ : Nat → Nat × Nat} {S : Nat → Prop} {w : World} {H : Heap}
include hT
theorem opH_sound {o : Oper} {env : Env} {a : Act} {out : HOut} (h : opH T env H o.op = some out) (hc : out.c) (hS : St ρ S w H) (hg : ∀ x d, opnd env x = some d → Rd (ctx ρ S w H) d (a.eval x)) :
    Gives P o a ρ S w H out.H out.d := by
  obtain ⟨dst, op, ty, pos, after, guard⟩ := o
  simp only at h
  cases op
  case convert s d x =>
    obtain ⟨e, v, h1, h2⟩ := bytes_sound hT h hc hS (fun d' e => hg x d' e)
    rw [e]
    exact ⟨v, w, ρ, .inl (by simp [execOp, h1]), hS, Ctx.le.refl _, h2⟩
  case box elem x =>
    simp only [opH, boxH] at h
    split at h
    · rename_i cs hcs
      injection h with h; subst h
      cases hx : opnd env x with
      | none => simp [hx] at hcs
      | some dx =>
        simp only [hx, Option.bind_some] at hcs
        have hl := cellsD_rd hcs (hg x dx hx)
        obtain ⟨ρ', h1, h2, h3⟩ := new_block (ty := elem) hS hl
        exact ⟨_, _, ρ', .inl (by simp [execOp, Instr.box, newVar, newRow]), h1, h2, rd_ptr (by simp) h3⟩
    · cases h
  case alloc elem =>
    simp only [opH] at h
    split at h
    · rename_i ti hti
      injection h with h; subst h
      obtain ⟨z, hz1, hz2⟩ := (hT.ok elem ti hti).run_zero
      have hl : RdL (ctx ρ S w H) (ti.zero.map .v) z.cells.toList := by
        rw [hz1]; exact RdL.scalars _ _ (by rw [List.all_eq_true]; exact (hT.ok elem ti hti).one)
      obtain ⟨ρ', h1, h2, h3⟩ := new_block (ty := elem) hS hl
      refine ⟨.pointer (some ⟨w.heap.size, 0, none⟩), _, ρ', .inl ?_, h1, h2, rd_ptr (by simp) h3⟩
      simp [execOp, Instr.alloc, hz2, newVar, newRow]
    · cases h
  case load t x =>
    simp only [opH, loadH] at h
    split at h
    · rename_i b off hx
      split at h
      · rename_i blk ti hb ht
        injection h with h; subst h
        have hr := hg x _ hx
        simp only [Rd] at hr
        obtain ⟨v, h1, h2⟩ := load_blk (P := P) hS (blkAt_some hb) (hT.ok t ti ht) hc
        refine ⟨v, w, ρ, .inl ?_, hS, Ctx.le.refl _, h2⟩
        simp [execOp, Instr.loadAt, hr.2, Instr.sureAddr, h1]
      · cases h
    · cases h
  case store t x y =>
    simp only [opH, storeH] at h
    split at h
    · rename_i b off hx
      split at h
      · rename_i blk ti ys hb ht hys
        injection h with h; subst h
        cases hy : opnd env y with
        | none => simp [hy] at hys
        | some dy =>
          simp only [hy, Option.bind_some] at hys
          have hl := cellsD_rd hys (hg y dy hy)
          have hr := hg x _ hx
          simp only [Rd, ctx] at hr
          obtain ⟨w', h1, h2, h3⟩ := store_blk (P := P) hS (blkAt_some hb) (hT.ok t ti ht) hl hc.1 hc.2
          refine ⟨undef, w', ρ, .inr ⟨?_, rfl⟩, h2, h3, by simp [Rd]⟩
          simp [execOp, Instr.storeAt, hr.2, Instr.sureAddr, h1]
      · cases h
    · cases h
  case makeSlice t l c =>
    simp only [opH, makeH] at h
    split at h
    · rename_i k n k' m hl hcap
      split at h
      · rename_i e _ _ _ ht
        split at h
        · rename_i ti hte
          injection h with h; subst h
          obtain ⟨h0, hnm, hb, h63⟩ := hc
          have hl' := hg l _ hl
          have hc' := hg c _ hcap
          simp only [Rd] at hl' hc'
          obtain ⟨i, z, hi, hinfo, e1, e2, e3, e4⟩ := (hT.ok e ti hte).run_info w
          have hrun := run_make (P := P) w t e i z ((hT.ok t _ ht).slice rfl) hinfo e3 k k' n m h0 hnm (by rw [e2]; exact hb) h63
          rw [e1] at hrun
          have hl : RdL (ctx ρ S w H) (makeD ti.zero m.toNat) (madeCells z.cells (m.toNat * ti.size)).toList := makeD_rd (hT.ok e ti hte) e4 _
          obtain ⟨ρ', h1, h2, h3⟩ := new_block (ty := e) hS hl
          refine ⟨.slice (some ⟨w.heap.size, 0, none⟩) n.toNat m.toNat, _, ρ', .inl ?_, h1, h2, ?_⟩
          · simp only [execOp, hl', hc', Sem.run_bind, hrun, Result.andThen_ok, Sem.run_pure]
          · simp only [Rd]
            refine ⟨by simp, _, m.toNat, rfl, by omega, by simp only [maxLen]; omega, ?_, fun _ => ?_⟩
            · simp [h3, size_madeCells]
            · simp [h3]
        · cases h
      · cases h
    · cases h
  case buildSlice t len parts =>
    simp only [opH, buildSliceH] at h
    split at h
    · rename_i e _ _ _ ht
      split at h
      · rename_i ti hte
        split at h
        · rename_i cs hcs
          injection h with h; subst h
          obtain ⟨z, hz1, hz2⟩ := (hT.ok e ti hte).run_zero
          have hl0 : RdL (ctx ρ S w H) (makeD ti.zero len) (madeCells z.cells (len * ti.size)).toList := makeD_rd (hT.ok e ti hte) hz1 _
          obtain ⟨ws, h1, h2⟩ := fill_sound (E := ctx ρ S w H) hg parts.toList _ _ _ hcs hl0
          have hlen : ws.size = len * ti.size := by
            have h3 := h2.length
            have h4 := hl0.length
            have h5 : cs.length = (makeD ti.zero len).length := by
              have : ∀ (ps : List (Nat × Operand)) (l : List D) (out : List D), fillD (fun i => some (i * ti.size, ti.size)) env l ps = some out → out.length = l.length := by
                intro ps
                induction ps with
                | nil => intro l out h; simp only [fillD] at h; injection h with h; subst h; rfl
                | cons p ps ih =>
                  intro l out h
                  obtain ⟨i, x⟩ := p
                  simp only [fillD] at h
                  split at h
                  · split at h
                    · rw [ih _ _ h, setAll_length]
                    · cases h
                  · cases h
              exact this _ _ _ hcs
            simp only [Array.length_toList, size_madeCells] at h3 h4
            omega
          obtain ⟨ρ', h3, h4, h5⟩ := new_block (ty := e) hS h2
          refine ⟨.slice (some ⟨w.heap.size, 0, none⟩) len len, _, ρ', .inl ?_, h3, h4, ?_⟩
          · have hbig : ¬ (16777216 < len * ti.size) := by have : len * ti.size ≤ 16777216 := hc.1; omega
            have hparts : (parts.map fun (p : Nat × Operand) => (p.1, a.eval p.2)).toList = parts.toList.map fun p => (p.1, a.eval p.2) := by simp
            by_cases h0 : len * ti.size = 0
            · have hm : madeCells z.cells (len * ti.size) = #[] := by rw [h0]; simp [madeCells, Array.range_zero']
              rw [hm] at h1
              simp only [execOp, Instr.buildSlice, Sem.run_bind, run_underlying ((hT.ok t _ ht).slice rfl), Result.andThen_ok, (hT.ok e ti hte).run_size]
              rw [if_neg (by simpa using hbig)]
              simp only [h0, if_true, Sem.run_bind, Sem.run_pure, Result.andThen_ok, Array.range_zero', Array.map_empty]
              rw [hparts, h1]
              simp [newRow]
            · simp only [execOp, Instr.buildSlice, Sem.run_bind, run_underlying ((hT.ok t _ ht).slice rfl), Result.andThen_ok, (hT.ok e ti hte).run_size]
              rw [if_neg (by simpa using hbig)]
              simp only [h0, if_false, Sem.run_bind, Sem.run_pure, Result.andThen_ok, hz2]
              have hm : Array.map (fun x => z.cells[x % z.cells.size]!) (Array.range (len * ti.size)) = madeCells z.cells (len * ti.size) := rfl
              rw [hm, hparts, h1]
              simp [newRow]
          · simp only [Rd]
            refine ⟨by simp, _, len, rfl, Nat.le_refl _, ?_, ?_, fun _ => ?_⟩
            · exact hc.2
            · simp [h5, hlen]
            · simp [h5]
        · cases h
      · cases h
    · cases h
  case call cl =>
    obtain ⟨callee, args, argTypes⟩ := cl
    cases callee with
    | value f => simp [opH] at h
    | invoke r m => simp [opH] at h
    | builtin b =>
      cases b
      case append =>
        simp only [opH] at h
        split at h
        · rename_i s x hargs
          have e1 : args = #[s, x] := by rw [← Array.toList_inj, hargs]
          subst e1
          obtain ⟨ts⟩ := argTypes
          have hts : ∃ t t', ts[0]? = some t ∧ ts[1]? = some t' := by
            simp only [appendH] at h
            cases h0 : ts[0]? with
            | none => split at h <;> simp [h0] at h
            | some t =>
              cases h1 : ts[1]? with
              | none => split at h <;> simp [h0, h1] at h
              | some t' => exact ⟨t, t', rfl, rfl⟩
          obtain ⟨t, t', h0, h1⟩ := hts
          simp only [h0, h1, Option.bind_some] at h
          obtain ⟨v, w', ρ', hrun, hS', hle, hrd⟩ := append_sound (ty := ty) hT h hc hS (fun d e => hg s d e) (fun d e => hg x d e)
          refine ⟨v, w', ρ', .inl ?_, hS', hle, hrd⟩
          have hbi : ∀ (ts' : Array TypeId), ts'[0]? = some t → ts'[1]? = some t' → (Builtin.append_ ts' ty #[a.eval s, a.eval x]).run P w = (Builtin.append_ #[t, t'] ty #[a.eval s, a.eval x]).run P w := by
            intro ts' q0 q1
            simp only [Builtin.append_, q0, q1]
            rfl
          simp only [execOp, resolve, invoke, builtin, Sem.run_bind, Sem.run_pure, Result.andThen_ok, List.map_toArray, List.map_cons, List.map_nil]
          rw [hbi _ (by simpa using h0) (by simpa using h1), hrun]
          rfl
        · cases h
      all_goals (simp [opH] at h)
  all_goals (simp [opH] at h)
end
theorem opH_congr {T : Tbl} {env env' : Env} {H : Heap} {op : Op} (h : ∀ t ∈ opSlots op, env.lookup t = env'.lookup t) : opH T env H op = opH T env' H op := by
  have hx := get_of_lookup h
  cases op
  case box elem x => simp only [opH, hx x (by simp [Op.operands])]
  case convert s d x => simp only [opH, hx x (by simp [Op.operands])]
  case load t x => simp only [opH, hx x (by simp [Op.operands])]
  case store t x y => simp only [opH, hx x (by simp [Op.operands]), hx y (by simp [Op.operands])]
  case makeSlice t l c => simp only [opH, hx l (by simp [Op.operands]), hx c (by simp [Op.operands])]
  case buildSlice t len parts =>
    have : ∀ p ∈ parts.toList, opnd env p.2 = opnd env' p.2 := fun p hp => hx p.2 (by simp only [Op.operands, List.toList_toArray, List.mem_map]; exact ⟨p, hp, rfl⟩)
    simp only [opH, buildSliceH, fillD_congr parts.toList _ this]
  case call c =>
    obtain ⟨callee, args, ts⟩ := c
    cases callee with
    | value f => rfl
    | invoke r m => rfl
    | builtin b =>
      have : ∀ x ∈ args.toList, opnd env x = opnd env' x := fun x hm => hx x (by simpa [Op.operands, Call.operands] using hm)
      cases b <;> simp only [opH]
      generalize args.toList = l at this ⊢
      split
      · rename_i s x
        rw [this s (by simp), this x (by simp)]
      · rfl
  all_goals rfl
end Go.VD
end
section
namespace Go.VD
set_option linter.unusedVariables false
set_option linter.unusedSimpArgs false
theorem Rd.move {ρ ρ' : Nat → Nat × Nat} {S : Nat → Prop} {w : World} {H H' : Heap} {d : D} {u : Value} (hn : Nameless d) (h : Rd (ctx ρ S w H) d u) : Rd (ctx ρ' S w H') d u :=
  Rd.nameless (E := ctx ρ S w H) (E' := ctx ρ' S w H') (fun _ h => h) (fun _ _ => rfl) d u hn h
theorem RdT.move {ρ ρ' : Nat → Nat × Nat} {S : Nat → Prop} {w : World} {H H' : Heap} {ds : List D} {us : List Value} (hn : NamelessL ds) (h : RdT (ctx ρ S w H) ds us) : RdT (ctx ρ' S w H') ds us :=
  RdT.nameless (E := ctx ρ S w H) (E' := ctx ρ' S w H') (fun _ h => h) (fun _ _ => rfl) ds us hn h
theorem Rd.moveS {ρ ρ' : Nat → Nat × Nat} {S S' : Nat → Prop} {w : World} {H H' : Heap} {d : D} {u : Value} (hs : ∀ k, S k → S' k) (hn : Nameless d) (h : Rd (ctx ρ S w H) d u) : Rd (ctx ρ' S' w H') d u :=
  Rd.nameless (E := ctx ρ S w H) (E' := ctx ρ' S' w H') hs (fun _ _ => rfl) d u hn h
def Callable (P : Program) (f : FuncId) : Prop := ∃ fn, P.funcs[f]? = some fn ∧ fn.body.isNone = false ∧ (fn.name == "runtime.NumGoroutine") = false
def CallJ (P : Program) (f : FuncId) (ds : List D) (H : Heap) (d : D) (H' : Heap) : Prop :=
  Callable P f ∧ ∀ ρ S w vals, St ρ S w H → RdT (ctx ρ S w H) ds vals →
    Calls P f vals.toArray w fun e w' => ∃ v ρ' S', e = .returned v ∧ St ρ' S' w' H' ∧ (ctx ρ S w H).le (ctx ρ' S' w' H') ∧ Rd (ctx ρ' S' w' H') d v
structure PureJ (P : Program) (f : FuncId) (ds : List D) (d : D) : Prop where
  callable : Callable P f
  args : NamelessL ds
  res : Nameless d
  call : ∀ (S : Nat → Prop) (w : World) (vals : List Value), (∀ k, S k → k < w.heap.size) → GOK S w → RdT (ctx (fun _ => (0, 0)) S w []) ds vals →
    Calls P f vals.toArray w fun e w' => ∃ v S', e = .returned v ∧ Grow w w' ∧ (∀ k, S k → S' k) ∧ (∀ k, S' k → S k ∨ w.heap.size ≤ k) ∧ (∀ k, S' k → k < w'.heap.size) ∧ Rd (ctx (fun _ => (0, 0)) S' w' []) d v
theorem PureJ.callJ {P : Program} {f : FuncId} {ds : List D} {d : D} (h : PureJ P f ds d) (H : Heap) : CallJ P f ds H d H := by
  refine ⟨h.callable, fun ρ S w vals hS hv => ?_⟩
  have hsub : ∀ k, S k → k < w.heap.size := fun k hk => (hS.sub k hk).1
  refine (h.call S w vals hsub hS.glob (RdT.move h.args hv)).mono fun e w' ⟨v, S', he, hg, h1, h2, h3, h4⟩ => ?_
  have hfix : ∀ k, S' k → Fix (ctx ρ S' w' H) k := fun k hk => ⟨h3 k hk, fun hl => by
    rcases h2 k hk with h | h
    · exact (hS.sub k h).2 hl
    · have := hS.lt hl; omega⟩
  have hle : (ctx ρ S w H).le (ctx ρ S' w' H) :=
    ⟨Nat.le_refl _, fun _ _ => rfl, h1, fun k hk => hg.heap k (hsub k hk), fun k hk => (h2 k hk).imp id .inr, fun k hk => ⟨Nat.lt_of_lt_of_le hk.1 hg.size, hk.2⟩, fun k hk => hg.heap k hk.1, hg.size, hg.os, hg.tape, hg.output⟩
  refine ⟨v, ρ, S', he, ⟨hfix, hS.none, fun b blk hb hz => ?_, hS.inj, hS.glob.mono h1 hle.keep⟩, hle, Rd.move h.res h4⟩
  obtain ⟨cur, hc⟩ := hS.blk b blk hb hz
  exact ⟨cur, (hg.heap _ hc.lt).trans hc.heap, hc.size, hc.pre.mono hle _ _, hc.full⟩
theorem PureJ.of_nil {P : Program} {f : FuncId} {ds : List D} {d : D} (h1 : NamelessL ds) (h2 : Nameless d) (h : CallJ P f ds [] d []) : PureJ P f ds d := by
  refine ⟨h.1, h1, h2, fun S w vals hsub hG hv => ?_⟩
  refine (h.2 _ S w vals (St.nil _ hsub hG) hv).mono fun e w' ⟨v, ρ', S', he, hS, hle, hd⟩ => ?_
  have nl : ∀ ρ k, ¬ Live ρ [] k := fun ρ k ⟨b, blk, hb, _⟩ => by simp at hb
  exact ⟨v, S', he, ⟨hle.size, fun k hk => hle.heap k ⟨hk, nl _ k⟩, hle.os, hle.tape, hle.output⟩, hle.S, fun k hk => (hle.new k hk).imp id fun h => h.resolve_left (nl _ k),
    fun k hk => (hS.sub k hk).1, Rd.move h2 hd⟩
theorem run_callFunc {P : Program} {f : FuncId} (h : Callable P f) (args : Array Value) (w : World) : (callFunc f args).run P w = .ok (.enter f args) w := by
  obtain ⟨fn, h1, h2, h3⟩ := h
  simp only [callFunc, Sem.run_bind, run_program, Result.andThen_ok, h1, h2, h3, Bool.false_eq_true, if_false, Sem.run_pure]
def Step (P : Program) (o : Oper) (env : Env) (H : Heap) (d : D) (H' : Heap) : Prop :=
  ∀ ρ S w a, St ρ S w H → (∀ t ∈ opSlots o.op, ∀ d, env.lookup t = some d → Rd (ctx ρ S w H) d (a.tmps.getD t undef)) →
    ∀ next Q, (∀ v ρ' S' w', St ρ' S' w' H' → (ctx ρ S w H).le (ctx ρ' S' w' H') → Rd (ctx ρ' S' w' H') d v → next (a.put o.dst v) w') → o.wp P a w next Q
def StepP (P : Program) (o : Oper) (env : Env) (d : D) : Prop := ∀ H, Step P o env H d H
theorem wp_of_run {P : Program} {o : Oper} {a : Act} {w w' : World} {v : Value} {next : Act → World → Prop} {Q : Exit → Act → World → Prop} (h : RunsTo P o a w v w') (hn : next (a.put o.dst v) w') : o.wp P a w next Q := by
  unfold Oper.wp
  rcases h with h | ⟨h, rfl⟩
  · rw [h]; exact hn
  · rw [h]; exact hn
def envOn (l : List Nat) (env : Env) : Env := env.filter fun p => l.contains p.1
theorem lookup_filter {p : Nat → Bool} : ∀ (env : Env) (t : Nat), (env.filter fun q => p q.1).lookup t = if p t then env.lookup t else none
  | [], t => by simp
  | (k, d) :: env, t => by
    have ih := lookup_filter (p := p) env t
    rw [List.filter_cons]
    by_cases hk : p k = true
    · simp only [hk, if_true, List.lookup_cons, ih]
      by_cases ht : t = k
      · subst ht; simp [hk]
      · have : (t == k) = false := by simpa using ht
        simp [this]
    · simp only [hk, List.lookup_cons]
      by_cases ht : t = k
      · subst ht; simp [hk, ih]
      · have : (t == k) = false := by simpa using ht
        simp [this, ih]
theorem lookup_envOn {l : List Nat} {env : Env} {t : Nat} (h : t ∈ l) : (envOn l env).lookup t = env.lookup t := by
  unfold envOn
  rw [lookup_filter (p := fun k => l.contains k)]
  simp [h]
theorem envOn_rd {E : Ctx} {l : List Nat} {env : Env} {a : Act} (h : ∀ t ∈ l, ∀ d, env.lookup t = some d → Rd E d (a.tmps.getD t undef)) : ∀ t d, (envOn l env).lookup t = some d → Rd E d (a.tmps.getD t undef) := by
  intro t d ht
  unfold envOn at ht
  rw [lookup_filter (p := fun k => l.contains k)] at ht
  split at ht
  · rename_i hm
    exact h t (by simpa using hm) d ht
  · cases ht
theorem getAll_of {env : Env} {xs : List Operand} {ds : List D} : getAll env xs = some ds → ∀ x ∈ xs, ∃ d, opnd env x = some d := by
  induction xs generalizing ds with
  | nil => intro _ x hx; cases hx
  | cons y ys ih =>
    intro h x hx
    simp only [getAll] at h
    split at h
    · rename_i d ds' h1 h2
      rcases List.mem_cons.1 hx with rfl | hx
      · exact ⟨d, h1⟩
      · exact ih h2 x hx
    · cases h
section
variable {P : Program} {T : Tbl} (hT : TblOk P T)
include hT
theorem stepP_of_opP {o : Oper} {env : Env} {d : D} {c : Prop} (h : opP T env o.op = some (d, c)) (hc : c) : StepP P o env d := by
  intro H ρ S w a hS hr next Q hn
  have h' : opP T (envOn (opSlots o.op) env) o.op = some (d, c) := by rw [← h]; exact opP_congr fun t ht => lookup_envOn ht
  obtain ⟨v, hv, hd⟩ := opP_sound (E := ctx ρ S w H) hT (get_rd hS.glob (envOn_rd hr)) h' hc
  exact wp_of_run (.inl hv) (hn v ρ S w hS (Ctx.le.refl _) hd)
theorem step_of_opH {o : Oper} {env : Env} {H : Heap} {out : HOut} (h : opH T env H o.op = some out) (hc : out.c) : Step P o env H out.d out.H := by
  intro ρ S w a hS hr next Q hn
  have h' : opH T (envOn (opSlots o.op) env) H o.op = some out := by rw [← h]; exact opH_congr fun t ht => lookup_envOn ht
  obtain ⟨v, w', ρ', hrun, h1, h2, h3⟩ := opH_sound hT h' hc hS (get_rd hS.glob (envOn_rd hr))
  exact wp_of_run hrun (hn v ρ' S w' h1 h2 h3)
end
theorem RdT.append {E : Ctx} : ∀ (ds : List D) (us : List Value) (ds' : List D) (us' : List Value), RdT E ds us → RdT E ds' us' → RdT E (ds ++ ds') (us ++ us')
  | [], us, ds', us', hr, hr' => by simp only [RdT] at hr; subst hr; simpa using hr'
  | d :: ds, us, ds', us', hr, hr' => by
    simp only [RdT] at hr
    obtain ⟨u, r, e, hd, hr⟩ := hr
    subst e
    simp only [List.cons_append, RdT]
    exact ⟨u, r ++ us', rfl, hd, RdT.append ds r ds' us' hr hr'⟩
theorem step_of_call {P : Program} {o : Oper} {env : Env} {H H' : Heap} {f : Operand} {args : Array Operand} {ts : Array TypeId} {g : FuncId} {k : Nat} {caps ds : List D} {d : D} (ho : o.op = .call { callee := .value f, args, argTypes := ts })
    (hf : opnd env f = some (.fn g k caps)) (ha : getAll env args.toList = some ds) (hj : CallJ P g (argsOf k caps ds) H d H') : Step P o env H d H' := by
  intro ρ S w a hS hr next Q hn
  have hslots : opSlots o.op = (#[f] ++ args).toList.filterMap fun | .tmp t => some t | _ => none := by rw [ho]; rfl
  have hg : ∀ x d, opnd (envOn (opSlots o.op) env) x = some d → Rd (ctx ρ S w H) d (a.eval x) := get_rd hS.glob (envOn_rd hr)
  have hcong : ∀ x ∈ (#[f] ++ args).toList, opnd (envOn (opSlots o.op) env) x = opnd env x := fun x hx => by
    refine get_of_lookup (op := o.op) (fun t ht => lookup_envOn ht) x ?_
    rw [ho]; simpa [Op.operands, Call.operands] using hx
  have hf' := hg f _ ((hcong f (by simp)).trans hf)
  have ha' : getAll (envOn (opSlots o.op) env) args.toList = some ds := by
    rw [← ha]; exact getAll_congr _ fun x hx => hcong x (by simp; exact .inr (by simpa using hx))
  have hds := getAll_rd (E := ctx ρ S w H) hg _ _ ha'
  simp only [Rd] at hf'
  obtain ⟨fs, us, hus, hk, hcaps⟩ := hf'
  have hall := RdT.argsOf hk hcaps hds
  have hrun : (execOp a.eval o).run P w = .ok (.enter g (fs.toList ++ ((args.toList.map a.eval) ++ us.toList)).toArray) w := by
    simp only [execOp, ho, resolve, hus, Deferred.ofValue, Sem.run_bind, Sem.run_pure, Result.andThen_ok, invoke]
    rw [run_callFunc hj.1]
    congr 2
    apply Array.toList_inj.1
    simp
  unfold Oper.wp
  rw [hrun]
  refine (hj.2 ρ S w _ hS hall).mono fun e w' ⟨v, ρ', S', he, h1, h2, h3⟩ => ?_
  subst he
  exact hn v ρ' S' w' h1 h2 h3
end Go.VD
end
section
namespace Go.VD
set_option linter.unusedVariables false
set_option linter.unusedSimpArgs false
def bindD (dst : Option Nat) (d : D) (env : Env) : Env := match dst with
  | none => env
  | some t => (t, d) :: env
def gslot (ops : Array Oper) (j : Nat) : Option Nat := (ops[j]?).bind (·.dst)
def Wt : Tch → Nat → Prop
  | .wr c, b => c = b
  | .mk n, b => n ≤ b
  | .al, _ => True
  | _, _ => False
def Rt : Tch → Nat → Prop
  | .rd c, b => c = b
  | .wr c, b => c = b
  | .ra, _ => True
  | .al, _ => True
  | _, _ => False
def Lw : Tch → Prop
  | .mk _ => True
  | .al => True
  | _ => False
def Rl : Tch → Prop
  | .mk _ => True
  | .ra => True
  | .al => True
  | _ => False
def clash : Tch → Tch → Bool
  | .no, _ => false
  | _, .no => false
  | .rd _, .rd _ => false
  | .rd _, .ra => false
  | .ra, .rd _ => false
  | .ra, .ra => false
  | .rd b, .wr c => b == c
  | .wr b, .rd c => b == c
  | .wr b, .wr c => b == c
  | .rd b, .mk n => decide (n ≤ b)
  | .mk n, .rd b => decide (n ≤ b)
  | .wr b, .mk n => decide (n ≤ b)
  | .mk n, .wr b => decide (n ≤ b)
  | _, _ => true
theorem clash_wr {t u : Tch} {b : Nat} (h : Wt t b) (k : Rt u b) : clash t u = true := by
  cases t <;> cases u <;> simp_all [Wt, Rt, clash]
theorem clash_rw {t u : Tch} {b : Nat} (h : Rt t b) (k : Wt u b) : clash t u = true := by
  cases t <;> cases u <;> simp_all [Wt, Rt, clash]
theorem clash_ww {t u : Tch} {b : Nat} (h : Wt t b) (k : Wt u b) : clash t u = true := by
  cases t <;> cases u <;> simp_all [Wt, clash]
theorem clash_lr {t u : Tch} (h : Lw t) (k : Rl u) : clash t u = true := by
  cases t <;> cases u <;> simp_all [Lw, Rl, clash]
theorem clash_rl {t u : Tch} (h : Rl t) (k : Lw u) : clash t u = true := by
  cases t <;> cases u <;> simp_all [Lw, Rl, clash]
theorem clash_ll {t u : Tch} (h : Lw t) (k : Lw u) : clash t u = true := by
  cases t <;> cases u <;> simp_all [Lw, clash]
structure StepF (P : Program) (o : Oper) (env : Env) (t : Tch) (d : D) (H H' : Heap) : Prop where
  run : ∀ H1 : Heap, (∀ b, Rt t b → H1[b]? = H[b]?) → (Rl t → H1.length = H.length) → ∃ H1' : Heap, Step P o env H1 d H1' ∧ (∀ b, Wt t b → H1'[b]? = H'[b]?) ∧ (∀ b, ¬ Wt t b → H1'[b]? = H1[b]?) ∧ (Lw t → H1'.length = H'.length) ∧ (¬ Lw t → H1'.length = H1.length)
  keep : ∀ b, ¬ Wt t b → H'[b]? = H[b]?
  len : ¬ Lw t → H'.length = H.length
section
variable {P : Program} {o : Oper} {env : Env} {d : D} {H H' : Heap}
theorem StepF.of_no (h : StepP P o env d) : StepF P o env .no d H H := ⟨fun H1 _ _ => ⟨H1, h H1, fun b hb => hb.elim, fun b _ => rfl, fun hl => hl.elim, fun _ => rfl⟩, fun b _ => rfl, fun _ => rfl⟩
theorem StepF.of_rd {b : Nat} (h : ∀ H1 : Heap, H1[b]? = H[b]? → Step P o env H1 d H1) : StepF P o env (.rd b) d H H := ⟨fun H1 h1 _ => ⟨H1, h H1 (h1 b rfl), fun b hb => hb.elim, fun b _ => rfl, fun hl => hl.elim, fun _ => rfl⟩, fun b _ => rfl, fun _ => rfl⟩
theorem StepF.of_wr {b : Nat} {y : Option Blk} (h : ∀ H1 : Heap, H1[b]? = H[b]? → Step P o env H1 d (H1.set b y)) : StepF P o env (.wr b) d H (H.set b y) := by
  refine ⟨fun H1 h1 _ => ⟨H1.set b y, h H1 (h1 b rfl), fun c hc => ?_, fun c hc => ?_, fun hl => hl.elim, fun _ => by simp⟩, fun c hc => ?_, fun _ => by simp⟩
  · have hc : b = c := hc
    subst hc
    have := h1 b rfl
    rw [List.getElem?_set_self', List.getElem?_set_self', this]
  · rw [List.getElem?_set_ne (fun e => hc e)]
  · rw [List.getElem?_set_ne (fun e => hc e)]
theorem StepF.of_mk {L : Heap} (h : ∀ H1 : Heap, H1.length = H.length → Step P o env H1 d (H1 ++ L)) : StepF P o env (.mk H.length) d H (H ++ L) := by
  refine ⟨fun H1 _ h2 => ?_, fun c hc => ?_, fun hl => absurd trivial hl⟩
  · have h2 := h2 trivial
    refine ⟨H1 ++ L, h H1 h2, fun c hc => ?_, fun c hc => ?_, fun _ => by simp [h2], fun hl => absurd trivial hl⟩
    · have hc : H.length ≤ c := hc
      rw [List.getElem?_append_right (by omega), List.getElem?_append_right (by omega), h2]
    · have hc : ¬ H.length ≤ c := hc
      rw [List.getElem?_append_left (by omega)]
  · have hc : ¬ H.length ≤ c := hc
    rw [List.getElem?_append_left (by omega)]
theorem StepF.of_ra (h : Step P o env H d H) : StepF P o env .ra d H H := ⟨fun H1 h1 _ => by
  have : H1 = H := List.ext_getElem? fun b => h1 b trivial
  subst this
  exact ⟨H1, h, fun b hb => hb.elim, fun b _ => rfl, fun hl => hl.elim, fun _ => rfl⟩, fun b _ => rfl, fun _ => rfl⟩
theorem StepF.of_al (h : Step P o env H d H') : StepF P o env .al d H H' := ⟨fun H1 h1 _ => by
  have : H1 = H := List.ext_getElem? fun b => h1 b trivial
  subst this
  exact ⟨H', h, fun b _ => rfl, fun b hb => absurd trivial hb, fun _ => rfl, fun hl => absurd trivial hl⟩, fun b hb => absurd trivial hb, fun hl => absurd trivial hl⟩
theorem StepF.here {t : Tch} (h : StepF P o env t d H H') : Step P o env H d H' := by
  obtain ⟨H1', h1, h2, h3, _, _⟩ := h.run H (fun _ _ => rfl) (fun _ => rfl)
  have : H1' = H' := List.ext_getElem? fun b => by
    by_cases hb : Wt t b
    · exact h2 b hb
    · rw [h3 b hb, h.keep b hb]
  rw [← this]; exact h1
theorem StepF.congr {t : Tch} {env' : Env} (h : StepF P o env t d H H') (e : ∀ t, env.lookup t = env'.lookup t) : StepF P o env' t d H H' :=
  ⟨fun H1 h1 h2 => by
    obtain ⟨H1', g1, g2⟩ := h.run H1 h1 h2
    exact ⟨H1', fun ρ S w a hS hr => g1 ρ S w a hS fun t ht d' hl => hr t ht d' (by rw [← e]; exact hl), g2⟩, h.keep, h.len⟩
end
def StepAt (P : Program) (nt : Nat) (ops : Array Oper) (o : Oper) (env : Env) (H : Heap) (t : Tch) (env' : Env) (H' : Heap) : Prop :=
  (∀ s, o.dst = some s → s < nt) ∧
  ((∃ j want s, o.guard = some (j, want) ∧ gslot ops j = some s ∧ (env.lookup s = some (.v (.bool (!want))) ∨ env.lookup s = some (.v undef)) ∧ t = .no ∧ H' = H ∧ ∀ s, env'.lookup s = (bindD o.dst (.v undef) env).lookup s) ∨
   ((∀ j want, o.guard = some (j, want) → ∃ s, gslot ops j = some s ∧ env.lookup s = some (.v (.bool want))) ∧
    ∃ d, (∀ s, env'.lookup s = (bindD o.dst d env).lookup s) ∧ StepF P o env t d H H'))
structure Inv (nt : Nat) (ρ : Nat → Nat × Nat) (S : Nat → Prop) (w : World) (H : Heap) (env : Env) (a : Act) : Prop where
  st : St ρ S w H
  env : ∀ t d, env.lookup t = some d → Rd (ctx ρ S w H) d (a.tmps.getD t undef)
  size : a.tmps.size = nt
  defers : a.defers = []
theorem getD_put {a : Act} {dst : Option Tmp} {v : Value} {t : Nat} (h : dst ≠ some t) : (a.put dst v).tmps.getD t undef = a.tmps.getD t undef := by
  cases dst with
  | none => rfl
  | some s =>
    have hs : s ≠ t := fun e => h (by rw [e])
    simp only [Act.put, Array.getD_eq_getD_getElem?, Array.getElem?_setIfInBounds]
    rw [if_neg hs]
theorem getD_put_same {a : Act} {v : Value} {t : Nat} (h : t < a.tmps.size) : (a.put (some t) v).tmps.getD t undef = v := by
  simp [Act.put, Array.getD_eq_getD_getElem?, h]
theorem size_put {a : Act} {dst : Option Tmp} {v : Value} : (a.put dst v).tmps.size = a.tmps.size := by cases dst <;> simp [Act.put]
theorem defers_put {a : Act} {dst : Option Tmp} {v : Value} : (a.put dst v).defers = a.defers := by cases dst <;> rfl
theorem lookup_bindD {dst : Option Nat} {d : D} {env : Env} {s : Nat} : (bindD dst d env).lookup s = if dst = some s then some d else env.lookup s := by
  cases dst with
  | none => simp [bindD]
  | some t =>
    simp only [bindD, List.lookup_cons]
    by_cases h : s = t
    · subst h; simp
    · have h1 : (s == t) = false := by simpa using h
      have h2 : ¬ t = s := fun e => h e.symm
      simp [h1, h2]
theorem yielded_of {ops : Array Oper} {tmps : Array Value} {j s : Nat} {b : Bool} (hs : gslot ops j = some s) (hlt : s < tmps.size) (hv : tmps.getD s undef = .bool b) : yielded ops tmps j = some b := by
  unfold gslot at hs
  have : tmps[s]? = some (.bool b) := by
    rw [Array.getD_eq_getD_getElem?, Array.getElem?_eq_getElem hlt] at hv
    rw [Array.getElem?_eq_getElem hlt]
    simpa using hv
  simp [yielded, hs, this]
theorem unwanted_of {ops : Array Oper} {a : Act} {o : Oper} {j s : Nat} {want : Bool} {E : Ctx} {env : Env} (hgu : o.guard = some (j, want)) (hs : gslot ops j = some s) (hlt : s < a.tmps.size)
    (hl : env.lookup s = some (.v (.bool (!want))) ∨ env.lookup s = some (.v undef)) (hrd : ∀ d, env.lookup s = some d → Rd E d (a.tmps.getD s undef)) : Region.wanted o (yielded ops a.tmps) = false := by
  rcases hl with hl | hl
  · have hv := hrd _ hl
    simp only [Rd] at hv
    have hy := yielded_of hs hlt hv
    simp only [Region.wanted, hgu, hy]; cases want <;> rfl
  · have hv := hrd _ hl
    simp only [Rd] at hv
    have : yielded ops a.tmps j = none := by
      unfold gslot at hs
      have h1 : a.tmps[s]? = some undef := by
        rw [Array.getD_eq_getD_getElem?, Array.getElem?_eq_getElem hlt] at hv
        rw [Array.getElem?_eq_getElem hlt]
        simpa using hv
      simp [yielded, hs, h1, undef]
    simp [Region.wanted, hgu, this]
section
variable {P : Program} {nt : Nat} {ops : Array Oper}
theorem seq_sound {Q : Exit → Act → World → Prop} : ∀ (l : List Oper) (envs : Nat → Env) (Hs : Nat → Heap) (ts : Nat → Tch),
    (∀ j s, gslot ops j = some s → s < nt) → (∀ k o, l[k]? = some o → StepAt P nt ops o (envs k) (Hs k) (ts k) (envs (k + 1)) (Hs (k + 1))) →
    ∀ ρ S w a, Inv nt ρ S w (Hs 0) (envs 0) a → (∀ ρ' S' w' a', Inv nt ρ' S' w' (Hs l.length) (envs l.length) a' → (ctx ρ S w (Hs 0)).le (ctx ρ' S' w' (Hs l.length)) → Q .normal a' w') → wpList P ops Q l a w
  | [], envs, Hs, ts, hg, hs, ρ, S, w, a, hi, hq => hq ρ S w a hi (Ctx.le.refl _)
  | o :: l, envs, Hs, ts, hg, hs, ρ, S, w, a, hi, hq => by
    obtain ⟨hdst, hstep⟩ := hs 0 o (by simp)
    have ih := seq_sound (Q := Q) l (fun k => envs (k + 1)) (fun k => Hs (k + 1)) (fun k => ts (k + 1)) hg (fun k o' hk => hs (k + 1) o' (by simpa using hk))
    rcases hstep with ⟨j, want, s, hgu, hsl, hlk, _, hH, henv⟩ | ⟨hwant, d, henv, hrun⟩
    · have hw : Region.wanted o (yielded ops a.tmps) = false := unwanted_of hgu hsl (by rw [hi.size]; exact hg _ _ hsl) hlk (fun d hd => hi.env s d hd)
      simp only [wpList, hw, Bool.false_eq_true, if_false]
      refine ih ρ S w _ ⟨by rw [Nat.zero_add, hH]; exact hi.st, fun t d ht => ?_, by rw [size_put]; exact hi.size, by rw [defers_put]; exact hi.defers⟩ (fun ρ' S' w' a' h1 h2 => hq ρ' S' w' a' h1 (by rw [Nat.zero_add, hH] at h2; exact h2))
      rw [Nat.zero_add] at ht
      rw [henv, lookup_bindD] at ht
      rw [Nat.zero_add, hH]
      split at ht
      · rename_i hd
        injection ht with ht; subst ht
        rw [hd, getD_put_same (by rw [hi.size]; exact hdst _ hd)]; simp [Rd]
      · rename_i hd
        rw [getD_put hd]; exact hi.env t d ht
    · have hw : Region.wanted o (yielded ops a.tmps) = true := by
        cases hgu : o.guard with
        | none => simp [Region.wanted, hgu]
        | some p =>
          obtain ⟨j, want⟩ := p
          obtain ⟨s, hsl, hlk⟩ := hwant j want hgu
          have hv := hi.env s _ hlk
          simp only [Rd] at hv
          have hy := yielded_of hsl (by rw [hi.size]; exact hg _ _ hsl) hv
          simp [Region.wanted, hgu, hy]
      simp only [wpList, hw, if_true]
      refine .inl ?_
      have hst : Step P o (envs 0) (Hs 0) d (Hs 1) := hrun.here
      refine hst ρ S w a hi.st (fun t _ d' ht => hi.env t d' ht) _ _ fun v ρ' S' w' h1 h2 h3 => ?_
      refine ih ρ' S' w' _ ⟨by rw [Nat.zero_add]; exact h1, fun t d' ht => ?_, by rw [size_put]; exact hi.size, by rw [defers_put]; exact hi.defers⟩ (fun ρ'' S'' w'' a' h4 h5 => hq ρ'' S'' w'' a' h4 (h2.trans (by rw [Nat.zero_add] at h5; exact h5)))
      rw [Nat.zero_add] at ht
      rw [henv, lookup_bindD] at ht
      rw [Nat.zero_add]
      split at ht
      · rename_i hd
        injection ht with ht; subst ht
        rw [hd, getD_put_same (by rw [hi.size]; exact hdst _ hd)]; exact h3
      · rename_i hd
        rw [getD_put hd]; exact (hi.env t d' ht).mono h2 _ _
def slotsOf (ops : Array Oper) (o : Oper) : List Nat := opSlots o.op ++ (match o.guard with | some (j, _) => (gslot ops j).toList | none => [])
def directL (o : Oper) : List Nat := (o.after.toList.filter (Region.binds .any ·)).map (·.on)
def dd : List Nat → List Nat
  | [] => []
  | x :: xs => if (dd xs).contains x then dd xs else x :: dd xs
theorem mem_dd {x : Nat} : ∀ {l : List Nat}, x ∈ dd l → x ∈ l
  | [], h => h
  | y :: l, h => by
    simp only [dd] at h
    split at h
    · exact List.mem_cons_of_mem _ (mem_dd h)
    · rcases List.mem_cons.1 h with h | h
      · exact h ▸ List.mem_cons_self
      · exact List.mem_cons_of_mem _ (mem_dd h)
def predsL : List Oper → List (List Nat) → List (List Nat)
  | [], acc => acc
  | o :: r, acc => predsL r (acc ++ [dd ((directL o).flatMap fun i => i :: acc.getD i [])])
def slotClash (ops : Array Oper) (ok oj : Oper) : Bool :=
  (match ok.dst with | some t => (slotsOf ops oj).contains t | none => false) || (match oj.dst with | some t => (slotsOf ops ok).contains t | none => false)
def sameDst (ok oj : Oper) : Bool := match ok.dst, oj.dst with
  | some s, some t => s == t
  | _, _ => false
def regOk (ops : Array Oper) (ts : List Tch) : Bool :=
  let pr := predsL ops.toList []
  (List.range ops.size).all fun j => match ops[j]? with
    | none => true
    | some oj => (directL oj).all (· < j) && (List.range j).all fun k => match ops[k]? with
      | none => true
      | some ok => (!slotClash ops ok oj || (directL oj).contains k) && !sameDst ok oj && ((pr.getD j []).contains k || !clash (ts.getD k .no) (ts.getD j .no))
def Closed (ops : Array Oper) (listed : Array Bool) : Prop := ∀ j o, ops[j]? = some o → listed.getD j false = true → ∀ i ∈ directL o, listed.getD i false = true
theorem predsL_good : ∀ (l : List Oper) (acc : List (List Nat)), (∀ (i : Nat) (o : Oper), l[i]? = some o → ops[acc.length + i]? = some o) →
    (∀ (i : Nat) (p : List Nat), acc[i]? = some p → ∀ k ∈ p, ∀ listed, Closed ops listed → (∀ (o : Oper), ops[i]? = some o → ∀ e ∈ directL o, listed.getD e false = true) → listed.getD k false = true) →
    ∀ (i : Nat) (p : List Nat), (predsL l acc)[i]? = some p → ∀ k ∈ p, ∀ listed, Closed ops listed → (∀ (o : Oper), ops[i]? = some o → ∀ e ∈ directL o, listed.getD e false = true) → listed.getD k false = true
  | [], acc, _, h => h
  | o :: r, acc, hl, h => by
    refine predsL_good r _ (fun i o' hi => ?_) ?_
    · have := hl (i + 1) o' (by simpa using hi)
      simp only [List.length_append, List.length_singleton]
      rwa [Nat.add_assoc, Nat.add_comm 1 i]
    · intro i p hp k hk listed hc hd
      rcases getElem?_snoc_cases hp with ⟨_, hp⟩ | ⟨rfl, hpe⟩
      · exact h i p hp k hk listed hc hd
      · rw [← hpe] at hk
        have h0 : ops[acc.length]? = some o := by have := hl 0 o (by simp); simpa using this
        have hk := mem_dd hk
        obtain ⟨e, he, hk⟩ := List.mem_flatMap.1 hk
        have hle := hd o h0 e he
        rcases List.mem_cons.1 hk with rfl | hk
        · exact hle
        · rw [List.getD_eq_getElem?_getD] at hk
          cases hacc : acc[e]? with
          | none => simp [hacc] at hk
          | some q =>
            simp only [hacc, Option.getD_some] at hk
            exact h e q hacc k hk listed hc fun oe hoe => hc e oe hoe hle
theorem mem_directL {o : Oper} {k : Nat} : k ∈ directL o ↔ ∃ e ∈ o.after, Region.binds .any e = true ∧ e.on = k := by
  simp only [directL, List.mem_map, List.mem_filter, Array.mem_toList_iff]
  constructor
  · rintro ⟨e, ⟨h1, h2⟩, h3⟩; exact ⟨e, h1, h2, h3⟩
  · rintro ⟨e, h1, h2, h3⟩; exact ⟨e, ⟨h1, h2⟩, h3⟩
end
end Go.VD
end
