import Derived.Test.YtfleadelfklenaaGreatDoorZGw16
section
namespace Go.Proofs.YtfleadelfklenaaGreatDoor
open Go.VD
set_option linter.unusedVariables false
set_option linter.unusedSimpArgs false
set_option maxRecDepth 100000
structure Rch where
  on : Bool
  fw : Bool
  x : Int
  r : Int
  l : Int
  d : Int
  deriving DecidableEq
structure Elm where
  on : Bool
  p : Int
  d : Int
  deriving DecidableEq
structure Rul where
  n : ByteArray
  t : ByteArray
structure Dst where
  n : ByteArray
  sg : List ByteArray
structure Pub where
  s : ByteArray
  f : Int
  m : Int
structure Sbs where
  l : ByteArray
  d : ByteArray
  s : ByteArray
  g : ByteArray
structure Rly where
  n : ByteArray
  kind : Int
  bay : Int
  z0 : Rch
  z1 : Rch
  z2 : Rch
  mn : Int
  kre : Int
  kim : Int
  sch : Int
  wt : Int
  gd : Int
  df : Elm
  iv : Elm
  fl : Elm
  sh : Int
  dd : Int
  rc : Int
  un : Elm
  ov : Elm
  dm : Int
  nu : Int
  de : Int
  hm : Int
  ru : List Rul
  se : List Dst
  pu : List Pub
  su : List Sbs
instance : Inhabited Rch := ⟨⟨false, false, 0, 0, 0, 0⟩⟩
instance : Inhabited Elm := ⟨⟨false, 0, 0⟩⟩
instance : Inhabited Rul := ⟨⟨.empty, .empty⟩⟩
instance : Inhabited Dst := ⟨⟨.empty, []⟩⟩
instance : Inhabited Pub := ⟨⟨.empty, 0, 0⟩⟩
instance : Inhabited Sbs := ⟨⟨.empty, .empty, .empty, .empty⟩⟩
instance : Inhabited Rly := ⟨⟨.empty, 0, 0, default, default, default, 0, 0, 0, 0, 0, 0, default, default, default, 0, 0, 0, default, default, 0, 0, 0, 0, [], [], [], []⟩⟩
abbrev d_b (b : Bool) : D := .v (.bool b)
def d_rch (z : Rch) : List D := [d_b z.on, d_b z.fw, d_i z.x, d_i z.r, d_i z.l, d_i z.d]
def d_elm (e : Elm) : List D := [d_b e.on, d_i e.p, d_i e.d]
def d_rul (x : Rul) : List D := [d_s x.n, d_s x.t]
def d_dst (x : Dst) : List D := [d_s x.n, .ro x.sg.length (busesD x.sg)]
def d_pub (x : Pub) : List D := [d_s x.s, d_i x.f, d_i x.m]
def d_sbs (x : Sbs) : List D := [d_s x.l, d_s x.d, d_s x.s, d_s x.g]
def rulesD : List Rul → List D
  | [] => []
  | x :: r => d_rul x ++ rulesD r
def setsD : List Dst → List D
  | [] => []
  | x :: r => d_dst x ++ setsD r
def pubsD : List Pub → List D
  | [] => []
  | x :: r => d_pub x ++ pubsD r
def subsD : List Sbs → List D
  | [] => []
  | x :: r => d_sbs x ++ subsD r
def d_rly (r : Rly) : List D := [d_s r.n, d_i r.kind, d_i r.bay, d_b r.z0.on, d_b r.z0.fw, d_i r.z0.x, d_i r.z0.r, d_i r.z0.l, d_i r.z0.d, d_b r.z1.on, d_b r.z1.fw, d_i r.z1.x, d_i r.z1.r, d_i r.z1.l, d_i r.z1.d, d_b r.z2.on, d_b r.z2.fw, d_i r.z2.x, d_i r.z2.r, d_i r.z2.l, d_i r.z2.d, d_i r.mn, d_i r.kre, d_i r.kim, d_i r.sch, d_i r.wt, d_i r.gd, d_b r.df.on, d_i r.df.p, d_i r.df.d, d_b r.iv.on, d_i r.iv.p, d_i r.iv.d, d_b r.fl.on, d_i r.fl.p, d_i r.fl.d, d_i r.sh, d_i r.dd, d_i r.rc, d_b r.un.on, d_i r.un.p, d_i r.un.d, d_b r.ov.on, d_i r.ov.p, d_i r.ov.d, d_i r.dm, d_i r.nu, d_i r.de, d_i r.hm, .ro r.ru.length (rulesD r.ru), .ro r.se.length (setsD r.se), .ro r.pu.length (pubsD r.pu), .ro r.su.length (subsD r.su)]
def rlysD : List Rly → List D
  | [] => []
  | x :: r => d_rly x ++ rlysD r
theorem rulesD_length : ∀ l : List Rul, (rulesD l).length = 2 * l.length
  | [] => rfl
  | x :: r => by simp only [rulesD, d_rul, List.length_append, List.length_cons, List.length_nil, rulesD_length r]; omega
theorem setsD_length : ∀ l : List Dst, (setsD l).length = 2 * l.length
  | [] => rfl
  | x :: r => by simp only [setsD, d_dst, List.length_append, List.length_cons, List.length_nil, setsD_length r]; omega
theorem pubsD_length : ∀ l : List Pub, (pubsD l).length = 3 * l.length
  | [] => rfl
  | x :: r => by simp only [pubsD, d_pub, List.length_append, List.length_cons, List.length_nil, pubsD_length r]; omega
theorem subsD_length : ∀ l : List Sbs, (subsD l).length = 4 * l.length
  | [] => rfl
  | x :: r => by simp only [subsD, d_sbs, List.length_append, List.length_cons, List.length_nil, subsD_length r]; omega
theorem rlysD_length : ∀ l : List Rly, (rlysD l).length = 53 * l.length
  | [] => rfl
  | x :: r => by simp only [rlysD, d_rly, List.length_append, List.length_cons, List.length_nil, rlysD_length r]; omega
theorem rulesD_get : ∀ (l : List Rul) (i : Nat), i < l.length → (rulesD l).getD (i * 2) default = d_s (l.getD i default).n ∧ (rulesD l).getD (i * 2 + 1) default = d_s (l.getD i default).t
  | [], i, h => by simp at h
  | x :: r, 0, h => by
    refine ⟨rfl, rfl⟩
  | x :: r, i + 1, h => by
    have := rulesD_get r i (by simpa using h)
    rw [show (i + 1) * 2 = i * 2 + 1 + 1 by omega]
    simp only [rulesD, d_rul, List.cons_append, List.nil_append, List.getD_cons_succ]
    exact this
theorem setsD_get : ∀ (l : List Dst) (i : Nat), i < l.length → (setsD l).getD (i * 2) default = d_s (l.getD i default).n ∧ (setsD l).getD (i * 2 + 1) default = .ro (l.getD i default).sg.length (busesD (l.getD i default).sg)
  | [], i, h => by simp at h
  | x :: r, 0, h => by
    refine ⟨rfl, rfl⟩
  | x :: r, i + 1, h => by
    have := setsD_get r i (by simpa using h)
    rw [show (i + 1) * 2 = i * 2 + 1 + 1 by omega]
    simp only [setsD, d_dst, List.cons_append, List.nil_append, List.getD_cons_succ]
    exact this
theorem pubsD_get : ∀ (l : List Pub) (i : Nat), i < l.length → (pubsD l).getD (i * 3) default = d_s (l.getD i default).s ∧ (pubsD l).getD (i * 3 + 1) default = d_i (l.getD i default).f ∧ (pubsD l).getD (i * 3 + 2) default = d_i (l.getD i default).m
  | [], i, h => by simp at h
  | x :: r, 0, h => by
    refine ⟨rfl, rfl, rfl⟩
  | x :: r, i + 1, h => by
    have := pubsD_get r i (by simpa using h)
    rw [show (i + 1) * 3 = i * 3 + 1 + 1 + 1 by omega]
    simp only [pubsD, d_pub, List.cons_append, List.nil_append, List.getD_cons_succ]
    exact this
theorem subsD_get : ∀ (l : List Sbs) (i : Nat), i < l.length → (subsD l).getD (i * 4) default = d_s (l.getD i default).l ∧ (subsD l).getD (i * 4 + 1) default = d_s (l.getD i default).d ∧ (subsD l).getD (i * 4 + 2) default = d_s (l.getD i default).s ∧ (subsD l).getD (i * 4 + 3) default = d_s (l.getD i default).g
  | [], i, h => by simp at h
  | x :: r, 0, h => by
    refine ⟨rfl, rfl, rfl, rfl⟩
  | x :: r, i + 1, h => by
    have := subsD_get r i (by simpa using h)
    rw [show (i + 1) * 4 = i * 4 + 1 + 1 + 1 + 1 by omega]
    simp only [subsD, d_sbs, List.cons_append, List.nil_append, List.getD_cons_succ]
    exact this
theorem app_getD {α : Type} (a b : List α) (j : Nat) (d : α) (h : j < a.length) : (a ++ b).getD j d = a.getD j d := by
  simp only [List.getD_eq_getElem?_getD]; rw [List.getElem?_append_left h]
theorem app_getD_r {α : Type} (a b : List α) (j : Nat) (d : α) : (a ++ b).getD (a.length + j) d = b.getD j d := by
  simp only [List.getD_eq_getElem?_getD]; rw [List.getElem?_append_right (by omega), Nat.add_sub_cancel_left]
theorem d_rly_length (r : Rly) : (d_rly r).length = 53 := rfl
theorem rlysD_at : ∀ (l : List Rly) (i : Nat), i < l.length → ∀ j, j < 53 → (rlysD l).getD (i * 53 + j) default = (d_rly (l.getD i default)).getD j default
  | [], i, h => by simp at h
  | x :: r, 0, h => fun j hj => by
    simp only [rlysD, Nat.zero_mul, Nat.zero_add, List.getD_cons_zero]
    exact app_getD _ _ _ _ (by rw [d_rly_length]; exact hj)
  | x :: r, i + 1, h => fun j hj => by
    have := rlysD_at r i (by simpa using h) j hj
    rw [show (i + 1) * 53 + j = (d_rly x).length + (i * 53 + j) by rw [d_rly_length]; omega]
    simp only [rlysD, List.getD_cons_succ]
    rw [app_getD_r]; exact this
theorem rlysD_get (l : List Rly) (i : Nat) (h : i < l.length) : (rlysD l).getD (i * 53) default = d_s (l.getD i default).n ∧ (rlysD l).getD (i * 53 + 1) default = d_i (l.getD i default).kind ∧ (rlysD l).getD (i * 53 + 2) default = d_i (l.getD i default).bay ∧ (rlysD l).getD (i * 53 + 3) default = d_b (l.getD i default).z0.on ∧ (rlysD l).getD (i * 53 + 4) default = d_b (l.getD i default).z0.fw ∧ (rlysD l).getD (i * 53 + 5) default = d_i (l.getD i default).z0.x ∧ (rlysD l).getD (i * 53 + 6) default = d_i (l.getD i default).z0.r ∧ (rlysD l).getD (i * 53 + 7) default = d_i (l.getD i default).z0.l ∧ (rlysD l).getD (i * 53 + 8) default = d_i (l.getD i default).z0.d ∧ (rlysD l).getD (i * 53 + 9) default = d_b (l.getD i default).z1.on ∧ (rlysD l).getD (i * 53 + 10) default = d_b (l.getD i default).z1.fw ∧ (rlysD l).getD (i * 53 + 11) default = d_i (l.getD i default).z1.x ∧ (rlysD l).getD (i * 53 + 12) default = d_i (l.getD i default).z1.r ∧ (rlysD l).getD (i * 53 + 13) default = d_i (l.getD i default).z1.l ∧ (rlysD l).getD (i * 53 + 14) default = d_i (l.getD i default).z1.d ∧ (rlysD l).getD (i * 53 + 15) default = d_b (l.getD i default).z2.on ∧ (rlysD l).getD (i * 53 + 16) default = d_b (l.getD i default).z2.fw ∧ (rlysD l).getD (i * 53 + 17) default = d_i (l.getD i default).z2.x ∧ (rlysD l).getD (i * 53 + 18) default = d_i (l.getD i default).z2.r ∧ (rlysD l).getD (i * 53 + 19) default = d_i (l.getD i default).z2.l ∧ (rlysD l).getD (i * 53 + 20) default = d_i (l.getD i default).z2.d ∧ (rlysD l).getD (i * 53 + 21) default = d_i (l.getD i default).mn ∧ (rlysD l).getD (i * 53 + 22) default = d_i (l.getD i default).kre ∧ (rlysD l).getD (i * 53 + 23) default = d_i (l.getD i default).kim ∧ (rlysD l).getD (i * 53 + 24) default = d_i (l.getD i default).sch ∧ (rlysD l).getD (i * 53 + 25) default = d_i (l.getD i default).wt ∧ (rlysD l).getD (i * 53 + 26) default = d_i (l.getD i default).gd ∧ (rlysD l).getD (i * 53 + 27) default = d_b (l.getD i default).df.on ∧ (rlysD l).getD (i * 53 + 28) default = d_i (l.getD i default).df.p ∧ (rlysD l).getD (i * 53 + 29) default = d_i (l.getD i default).df.d ∧ (rlysD l).getD (i * 53 + 30) default = d_b (l.getD i default).iv.on ∧ (rlysD l).getD (i * 53 + 31) default = d_i (l.getD i default).iv.p ∧ (rlysD l).getD (i * 53 + 32) default = d_i (l.getD i default).iv.d ∧ (rlysD l).getD (i * 53 + 33) default = d_b (l.getD i default).fl.on ∧ (rlysD l).getD (i * 53 + 34) default = d_i (l.getD i default).fl.p ∧ (rlysD l).getD (i * 53 + 35) default = d_i (l.getD i default).fl.d ∧ (rlysD l).getD (i * 53 + 36) default = d_i (l.getD i default).sh ∧ (rlysD l).getD (i * 53 + 37) default = d_i (l.getD i default).dd ∧ (rlysD l).getD (i * 53 + 38) default = d_i (l.getD i default).rc ∧ (rlysD l).getD (i * 53 + 39) default = d_b (l.getD i default).un.on ∧ (rlysD l).getD (i * 53 + 40) default = d_i (l.getD i default).un.p ∧ (rlysD l).getD (i * 53 + 41) default = d_i (l.getD i default).un.d ∧ (rlysD l).getD (i * 53 + 42) default = d_b (l.getD i default).ov.on ∧ (rlysD l).getD (i * 53 + 43) default = d_i (l.getD i default).ov.p ∧ (rlysD l).getD (i * 53 + 44) default = d_i (l.getD i default).ov.d ∧ (rlysD l).getD (i * 53 + 45) default = d_i (l.getD i default).dm ∧ (rlysD l).getD (i * 53 + 46) default = d_i (l.getD i default).nu ∧ (rlysD l).getD (i * 53 + 47) default = d_i (l.getD i default).de ∧ (rlysD l).getD (i * 53 + 48) default = d_i (l.getD i default).hm ∧ (rlysD l).getD (i * 53 + 49) default = .ro (l.getD i default).ru.length (rulesD (l.getD i default).ru) ∧ (rlysD l).getD (i * 53 + 50) default = .ro (l.getD i default).se.length (setsD (l.getD i default).se) ∧ (rlysD l).getD (i * 53 + 51) default = .ro (l.getD i default).pu.length (pubsD (l.getD i default).pu) ∧ (rlysD l).getD (i * 53 + 52) default = .ro (l.getD i default).su.length (subsD (l.getD i default).su) := by
  have k := rlysD_at l i h
  refine ⟨k 0 (by decide), k 1 (by decide), k 2 (by decide), k 3 (by decide), k 4 (by decide), k 5 (by decide), k 6 (by decide), k 7 (by decide), k 8 (by decide), k 9 (by decide), k 10 (by decide), k 11 (by decide), k 12 (by decide), k 13 (by decide), k 14 (by decide), k 15 (by decide), k 16 (by decide), k 17 (by decide), k 18 (by decide), k 19 (by decide), k 20 (by decide), k 21 (by decide), k 22 (by decide), k 23 (by decide), k 24 (by decide), k 25 (by decide), k 26 (by decide), k 27 (by decide), k 28 (by decide), k 29 (by decide), k 30 (by decide), k 31 (by decide), k 32 (by decide), k 33 (by decide), k 34 (by decide), k 35 (by decide), k 36 (by decide), k 37 (by decide), k 38 (by decide), k 39 (by decide), k 40 (by decide), k 41 (by decide), k 42 (by decide), k 43 (by decide), k 44 (by decide), k 45 (by decide), k 46 (by decide), k 47 (by decide), k 48 (by decide), k 49 (by decide), k 50 (by decide), k 51 (by decide), k 52 (by decide)⟩
theorem rulesD_nl : ∀ l : List Rul, NamelessL (rulesD l)
  | [] => by simp [rulesD, NamelessL]
  | x :: r => by rw [rulesD]; exact NamelessL.append (by simp [d_rul, NamelessL, Nameless]) (rulesD_nl r)
theorem pubsD_nl : ∀ l : List Pub, NamelessL (pubsD l)
  | [] => by simp [pubsD, NamelessL]
  | x :: r => by rw [pubsD]; exact NamelessL.append (by simp [d_pub, NamelessL, Nameless]) (pubsD_nl r)
theorem subsD_nl : ∀ l : List Sbs, NamelessL (subsD l)
  | [] => by simp [subsD, NamelessL]
  | x :: r => by rw [subsD]; exact NamelessL.append (by simp [d_sbs, NamelessL, Nameless]) (subsD_nl r)
theorem setsD_nl : ∀ l : List Dst, NamelessL (setsD l)
  | [] => by simp [setsD, NamelessL]
  | x :: r => by rw [setsD]; exact NamelessL.append (by simp only [d_dst, NamelessL, Nameless, true_and, and_true]; exact busesD_nl _) (setsD_nl r)
theorem d_rly_nl (r : Rly) : NamelessL (d_rly r) := by
  simp only [d_rly, NamelessL, Nameless, true_and, and_true]; exact ⟨rulesD_nl _, setsD_nl _, pubsD_nl _, subsD_nl _⟩
theorem rlysD_nl : ∀ l : List Rly, NamelessL (rlysD l)
  | [] => by simp [rlysD, NamelessL]
  | x :: r => by rw [rlysD]; exact NamelessL.append (d_rly_nl x) (rlysD_nl r)
def unRul : List D → List Rul
  | .v (.string a) :: .v (.string b) :: r => ⟨a, b⟩ :: unRul r
  | _ => []
theorem unRul_D : ∀ l : List Rul, unRul (rulesD l) = l
  | [] => rfl
  | x :: r => by simp only [rulesD, d_rul, List.cons_append, List.nil_append, unRul, unRul_D r]
def unDst : List D → List Dst
  | .v (.string a) :: .ro _ xs :: r => ⟨a, unBus xs⟩ :: unDst r
  | _ => []
theorem unDst_D : ∀ l : List Dst, unDst (setsD l) = l
  | [] => rfl
  | x :: r => by simp only [setsD, d_dst, List.cons_append, List.nil_append, unDst, unBus_D, unDst_D r]
def unPub : List D → List Pub
  | .v (.string a) :: .v (.int _ b) :: .v (.int _ c) :: r => ⟨a, b, c⟩ :: unPub r
  | _ => []
theorem unPub_D : ∀ l : List Pub, unPub (pubsD l) = l
  | [] => rfl
  | x :: r => by simp only [pubsD, d_pub, List.cons_append, List.nil_append, unPub, unPub_D r]
def unSbs : List D → List Sbs
  | .v (.string a) :: .v (.string b) :: .v (.string c) :: .v (.string d) :: r => ⟨a, b, c, d⟩ :: unSbs r
  | _ => []
theorem unSbs_D : ∀ l : List Sbs, unSbs (subsD l) = l
  | [] => rfl
  | x :: r => by simp only [subsD, d_sbs, List.cons_append, List.nil_append, unSbs, unSbs_D r]
def mkR (cs : List D) : Rly := ⟨cellStr (cs.getD 0 default), cellInt (cs.getD 1 default), cellInt (cs.getD 2 default), ⟨cellBool (cs.getD 3 default), cellBool (cs.getD 4 default), cellInt (cs.getD 5 default), cellInt (cs.getD 6 default), cellInt (cs.getD 7 default), cellInt (cs.getD 8 default)⟩, ⟨cellBool (cs.getD 9 default), cellBool (cs.getD 10 default), cellInt (cs.getD 11 default), cellInt (cs.getD 12 default), cellInt (cs.getD 13 default), cellInt (cs.getD 14 default)⟩, ⟨cellBool (cs.getD 15 default), cellBool (cs.getD 16 default), cellInt (cs.getD 17 default), cellInt (cs.getD 18 default), cellInt (cs.getD 19 default), cellInt (cs.getD 20 default)⟩, cellInt (cs.getD 21 default), cellInt (cs.getD 22 default), cellInt (cs.getD 23 default), cellInt (cs.getD 24 default), cellInt (cs.getD 25 default), cellInt (cs.getD 26 default), ⟨cellBool (cs.getD 27 default), cellInt (cs.getD 28 default), cellInt (cs.getD 29 default)⟩, ⟨cellBool (cs.getD 30 default), cellInt (cs.getD 31 default), cellInt (cs.getD 32 default)⟩, ⟨cellBool (cs.getD 33 default), cellInt (cs.getD 34 default), cellInt (cs.getD 35 default)⟩, cellInt (cs.getD 36 default), cellInt (cs.getD 37 default), cellInt (cs.getD 38 default), ⟨cellBool (cs.getD 39 default), cellInt (cs.getD 40 default), cellInt (cs.getD 41 default)⟩, ⟨cellBool (cs.getD 42 default), cellInt (cs.getD 43 default), cellInt (cs.getD 44 default)⟩, cellInt (cs.getD 45 default), cellInt (cs.getD 46 default), cellInt (cs.getD 47 default), cellInt (cs.getD 48 default), unRul (cellL (cs.getD 49 default)), unDst (cellL (cs.getD 50 default)), unPub (cellL (cs.getD 51 default)), unSbs (cellL (cs.getD 52 default))⟩
theorem mkR_D (r : Rly) : mkR (d_rly r) = r := by
  have h1 := unRul_D r.ru
  have h2 := unDst_D r.se
  have h3 := unPub_D r.pu
  have h4 := unSbs_D r.su
  show (⟨r.n, r.kind, r.bay, r.z0, r.z1, r.z2, r.mn, r.kre, r.kim, r.sch, r.wt, r.gd, r.df, r.iv, r.fl, r.sh, r.dd, r.rc, r.un, r.ov, r.dm, r.nu, r.de, r.hm, unRul (rulesD r.ru), unDst (setsD r.se), unPub (pubsD r.pu), unSbs (subsD r.su)⟩ : Rly) = r
  rw [h1, h2, h3, h4]
def unRly : Nat → List D → List Rly
  | 0, _ => []
  | n + 1, cs => mkR (cs.take 53) :: unRly n (cs.drop 53)
theorem unRly_D : ∀ l : List Rly, unRly l.length (rlysD l) = l
  | [] => rfl
  | x :: r => by
    simp only [List.length_cons, unRly, rlysD]
    rw [List.take_left' (d_rly_length x), List.drop_left' (d_rly_length x), mkR_D, unRly_D r]
def okRul (x : Rul) : Prop := x.n.size ≤ maxLen ∧ x.t.size ≤ maxLen
def okDst (x : Dst) : Prop := x.n.size ≤ maxLen ∧ x.sg.length ≤ maxLen ∧ ∀ y ∈ x.sg, y.size ≤ maxLen
def okPub (x : Pub) : Prop := x.s.size ≤ maxLen ∧ I64 x.f ∧ I64 x.m
def okSbs (x : Sbs) : Prop := x.l.size ≤ maxLen ∧ x.d.size ≤ maxLen ∧ x.s.size ≤ maxLen ∧ x.g.size ≤ maxLen
def okRch (z : Rch) : Prop := I64 z.x ∧ I64 z.r ∧ I64 z.l ∧ I64 z.d
def okElm (e : Elm) : Prop := I64 e.p ∧ I64 e.d
structure okRly (r : Rly) : Prop where
  n : r.n.size ≤ maxLen
  kb : I64 r.kind ∧ I64 r.bay
  zs : okRch r.z0 ∧ okRch r.z1 ∧ okRch r.z2
  nums : I64 r.mn ∧ I64 r.kre ∧ I64 r.kim ∧ I64 r.sch ∧ I64 r.wt ∧ I64 r.gd ∧ I64 r.sh ∧ I64 r.dd ∧ I64 r.rc ∧ I64 r.dm ∧ I64 r.nu ∧ I64 r.de ∧ I64 r.hm
  els : okElm r.df ∧ okElm r.iv ∧ okElm r.fl ∧ okElm r.un ∧ okElm r.ov
  ru : r.ru.length ≤ maxLen ∧ ∀ x ∈ r.ru, okRul x
  se : r.se.length ≤ maxLen ∧ ∀ x ∈ r.se, okDst x
  pu : r.pu.length ≤ maxLen ∧ ∀ x ∈ r.pu, okPub x
  su : r.su.length ≤ maxLen ∧ ∀ x ∈ r.su, okSbs x
def okRlys (l : List Rly) : Prop := l.length ≤ maxLen ∧ ∀ x ∈ l, okRly x
theorem rch_inv (c : List D) (h : TC T 44 c) : ∃ x : Rch, c = d_rch x ∧ okRch x := by
  obtain ⟨p0, r0, rfl, g0, p1, r1, rfl, g1, p2, r2, rfl, g2, p3, r3, rfl, g3, p4, r4, rfl, g4, p5, r5, rfl, g5, rfl⟩ := h.fields T_44
  obtain ⟨a, rfl⟩ := g0.bool_inv T_4
  obtain ⟨b, rfl⟩ := g1.bool_inv T_4
  obtain ⟨x, rfl, hx⟩ := g2.int_inv T_3
  obtain ⟨y, rfl, hy⟩ := g3.int_inv T_3
  obtain ⟨z, rfl, hz⟩ := g4.int_inv T_3
  obtain ⟨w, rfl, hw⟩ := g5.int_inv T_3
  exact ⟨⟨a, b, x, y, z, w⟩, rfl, wf_I64 hx, wf_I64 hy, wf_I64 hz, wf_I64 hw⟩
theorem elm_inv (c : List D) (h : TC T 47 c) : ∃ x : Elm, c = d_elm x ∧ okElm x := by
  obtain ⟨p0, r0, rfl, g0, p1, r1, rfl, g1, p2, r2, rfl, g2, rfl⟩ := h.fields T_47
  obtain ⟨a, rfl⟩ := g0.bool_inv T_4
  obtain ⟨x, rfl, hx⟩ := g1.int_inv T_3
  obtain ⟨y, rfl, hy⟩ := g2.int_inv T_3
  exact ⟨⟨a, x, y⟩, rfl, wf_I64 hx, wf_I64 hy⟩
theorem crv_inv (c : List D) (h : TC T 49 c) : ∃ x : Elm, c = d_elm x ∧ okElm x := by
  obtain ⟨p0, r0, rfl, g0, p1, r1, rfl, g1, p2, r2, rfl, g2, rfl⟩ := h.fields T_49
  obtain ⟨a, rfl⟩ := g0.bool_inv T_4
  obtain ⟨x, rfl, hx⟩ := g1.int_inv T_3
  obtain ⟨y, rfl, hy⟩ := g2.int_inv T_3
  exact ⟨⟨a, x, y⟩, rfl, wf_I64 hx, wf_I64 hy⟩
theorem rul_inv (c : List D) (h : TC T 163 c) : ∃ x : Rul, c = d_rul x ∧ okRul x := by
  obtain ⟨p0, r0, rfl, g0, p1, r1, rfl, g1, rfl⟩ := h.fields T_163
  obtain ⟨a, rfl, ha⟩ := g0.str_inv T_9
  obtain ⟨b, rfl, hb⟩ := g1.str_inv T_9
  exact ⟨⟨a, b⟩, rfl, ha, hb⟩
theorem dst_inv (c : List D) (h : TC T 161 c) : ∃ x : Dst, c = d_dst x ∧ okDst x := by
  obtain ⟨p0, r0, rfl, g0, p1, r1, rfl, g1, rfl⟩ := h.fields T_161
  obtain ⟨a, rfl, ha⟩ := g0.str_inv T_9
  obtain ⟨kl, rfl, hll, hcl⟩ := g1.slice_inv T_22
  obtain ⟨l, l1, l2, l3⟩ := list_inv (F := busesD) (f := fun x => [d_s x]) (ok := fun x : ByteArray => x.size ≤ maxLen) rfl (fun _ _ => rfl) (fun c h => by
    obtain ⟨s, rfl, hs⟩ := h.str_inv T_9; exact ⟨s, rfl, hs⟩) kl hcl
  exact ⟨⟨a, l⟩, by rw [l1, l2]; rfl, ha, by rw [← l1]; exact hll, l3⟩
theorem pub_inv (c : List D) (h : TC T 171 c) : ∃ x : Pub, c = d_pub x ∧ okPub x := by
  obtain ⟨p0, r0, rfl, g0, p1, r1, rfl, g1, p2, r2, rfl, g2, rfl⟩ := h.fields T_171
  obtain ⟨a, rfl, ha⟩ := g0.str_inv T_9
  obtain ⟨x, rfl, hx⟩ := g1.int_inv T_3
  obtain ⟨y, rfl, hy⟩ := g2.int_inv T_3
  exact ⟨⟨a, x, y⟩, rfl, ha, wf_I64 hx, wf_I64 hy⟩
theorem sbs_inv (c : List D) (h : TC T 174 c) : ∃ x : Sbs, c = d_sbs x ∧ okSbs x := by
  obtain ⟨p0, r0, rfl, g0, p1, r1, rfl, g1, p2, r2, rfl, g2, p3, r3, rfl, g3, rfl⟩ := h.fields T_174
  obtain ⟨a, rfl, ha⟩ := g0.str_inv T_9
  obtain ⟨b, rfl, hb⟩ := g1.str_inv T_9
  obtain ⟨c, rfl, hc⟩ := g2.str_inv T_9
  obtain ⟨d, rfl, hd⟩ := g3.str_inv T_9
  exact ⟨⟨a, b, c, d⟩, rfl, ha, hb, hc, hd⟩
theorem rly_inv' {cs : List D} (h : TC T 55 cs) : ∃ x : Rly, cs = d_rly x ∧ okRly x := by
  obtain ⟨p0, r0, rfl, g0, p1, r1, rfl, g1, p2, r2, rfl, g2, p3, r3, rfl, g3, p4, r4, rfl, g4, p5, r5, rfl, g5, p6, r6, rfl, g6, p7, r7, rfl, g7, p8, r8, rfl, g8, p9, r9, rfl, g9, p10, r10, rfl, g10, p11, r11, rfl, g11, p12, r12, rfl, g12, p13, r13, rfl, g13, p14, r14, rfl, g14, p15, r15, rfl, g15, p16, r16, rfl, g16, p17, r17, rfl, g17, p18, r18, rfl, g18, p19, r19, rfl, g19, p20, r20, rfl, g20, p21, r21, rfl, g21, p22, r22, rfl, g22, p23, r23, rfl, g23, p24, r24, rfl, g24, p25, r25, rfl, g25, rfl⟩ := h.fields T_55
  obtain ⟨n, rfl, h_n⟩ := g0.str_inv T_9
  obtain ⟨kind, rfl, h_kind⟩ := g1.int_inv T_3
  have h_kind := wf_I64 h_kind
  obtain ⟨bay, rfl, h_bay⟩ := g2.int_inv T_3
  have h_bay := wf_I64 h_bay
  obtain ⟨zs, rfl, hl_zs, hc_zs⟩ := g3.arr_inv T_45
  obtain ⟨c0, c1, c2, rfl⟩ : ∃ c0 c1 c2, zs = [c0, c1, c2] := by
    match zs, hl_zs with
    | [a, b, c], _ => exact ⟨a, b, c, rfl⟩
  obtain ⟨z0, rfl, h_z0⟩ := rch_inv _ (hc_zs c0 (by simp))
  obtain ⟨z1, rfl, h_z1⟩ := rch_inv _ (hc_zs c1 (by simp))
  obtain ⟨z2, rfl, h_z2⟩ := rch_inv _ (hc_zs c2 (by simp))
  obtain ⟨mn, rfl, h_mn⟩ := g4.int_inv T_3
  have h_mn := wf_I64 h_mn
  obtain ⟨kre, rfl, h_kre⟩ := g5.int_inv T_3
  have h_kre := wf_I64 h_kre
  obtain ⟨kim, rfl, h_kim⟩ := g6.int_inv T_3
  have h_kim := wf_I64 h_kim
  obtain ⟨sch, rfl, h_sch⟩ := g7.int_inv T_3
  have h_sch := wf_I64 h_sch
  obtain ⟨wt, rfl, h_wt⟩ := g8.int_inv T_3
  have h_wt := wf_I64 h_wt
  obtain ⟨gd, rfl, h_gd⟩ := g9.int_inv T_3
  have h_gd := wf_I64 h_gd
  obtain ⟨df, rfl, h_df⟩ := elm_inv _ g10
  obtain ⟨iv, rfl, h_iv⟩ := crv_inv _ g11
  obtain ⟨fl, rfl, h_fl⟩ := elm_inv _ g12
  obtain ⟨sh, rfl, h_sh⟩ := g13.int_inv T_3
  have h_sh := wf_I64 h_sh
  obtain ⟨dd, rfl, h_dd⟩ := g14.int_inv T_3
  have h_dd := wf_I64 h_dd
  obtain ⟨rc, rfl, h_rc⟩ := g15.int_inv T_3
  have h_rc := wf_I64 h_rc
  obtain ⟨un, rfl, h_un⟩ := elm_inv _ g16
  obtain ⟨ov, rfl, h_ov⟩ := elm_inv _ g17
  obtain ⟨dm, rfl, h_dm⟩ := g18.int_inv T_3
  have h_dm := wf_I64 h_dm
  obtain ⟨nu, rfl, h_nu⟩ := g19.int_inv T_3
  have h_nu := wf_I64 h_nu
  obtain ⟨de, rfl, h_de⟩ := g20.int_inv T_3
  have h_de := wf_I64 h_de
  obtain ⟨hm, rfl, h_hm⟩ := g21.int_inv T_3
  have h_hm := wf_I64 h_hm
  obtain ⟨k_ru, rfl, hl_ru, hc_ru⟩ := g22.slice_inv T_50
  obtain ⟨ru, ru1, ru2, ru3⟩ := list_inv (F := rulesD) rfl (fun _ _ => rfl) rul_inv k_ru hc_ru
  obtain ⟨k_se, rfl, hl_se, hc_se⟩ := g23.slice_inv T_51
  obtain ⟨se, se1, se2, se3⟩ := list_inv (F := setsD) rfl (fun _ _ => rfl) dst_inv k_se hc_se
  obtain ⟨k_pu, rfl, hl_pu, hc_pu⟩ := g24.slice_inv T_52
  obtain ⟨pu, pu1, pu2, pu3⟩ := list_inv (F := pubsD) rfl (fun _ _ => rfl) pub_inv k_pu hc_pu
  obtain ⟨k_su, rfl, hl_su, hc_su⟩ := g25.slice_inv T_53
  obtain ⟨su, su1, su2, su3⟩ := list_inv (F := subsD) rfl (fun _ _ => rfl) sbs_inv k_su hc_su
  refine ⟨⟨n, kind, bay, z0, z1, z2, mn, kre, kim, sch, wt, gd, df, iv, fl, sh, dd, rc, un, ov, dm, nu, de, hm, ru, se, pu, su⟩, by rw [ru1, ru2, se1, se2, pu1, pu2, su1, su2]; rfl, ?_⟩
  exact { n := h_n, kb := ⟨h_kind, h_bay⟩, zs := ⟨h_z0, h_z1, h_z2⟩, nums := ⟨h_mn, h_kre, h_kim, h_sch, h_wt, h_gd, h_sh, h_dd, h_rc, h_dm, h_nu, h_de, h_hm⟩, els := ⟨h_df, h_iv, h_fl, h_un, h_ov⟩, ru := ⟨by rw [← ru1]; exact hl_ru, ru3⟩, se := ⟨by rw [← se1]; exact hl_se, se3⟩, pu := ⟨by rw [← pu1]; exact hl_pu, pu3⟩, su := ⟨by rw [← su1]; exact hl_su, su3⟩ }
theorem targ_rlys {d : D} (hd : ∃ ti cs, T 38 = some ti ∧ TC T 38 cs ∧ d = (if ti.td.isAgg then .agg cs else cs.headD default)) : ∃ l : List Rly, d = .ro l.length (rlysD l) ∧ okRlys l := by
  obtain ⟨chunks, rfl, hl, hc⟩ := targ_slice T_38 hd
  obtain ⟨l, l1, l2, l3⟩ := list_inv (F := rlysD) (f := d_rly) (ok := okRly) rfl (fun _ _ => rfl) (fun c h => rly_inv' h) chunks hc
  exact ⟨l, by rw [l1, l2], by rw [← l1]; exact hl, l3⟩
end Go.Proofs.YtfleadelfklenaaGreatDoor
end
section
namespace Go.Proofs.YtfleadelfklenaaGreatDoor
open Go.VD
set_option linter.unusedVariables false
set_option linter.unusedSimpArgs false
theorem zero_orE (a : Int) : orE 0 a = a := rfl
theorem orE_eq0 {a b : Int} (h : orE a b = 0) : a = 0 ∧ b = 0 := by
  unfold orE at h
  cases ha : (a == 0) with
  | true => rw [ha] at h; exact ⟨beq_iff_eq.1 ha, h⟩
  | false => rw [ha] at h; simp only [cond_false] at h; rw [h] at ha; exact absurd ha (by decide)
def namesS (s : Stn) : List ByteArray := nm3 s s.bu.length s.li.length s.so.length s.ba.length
theorem sE_iff (a b : ByteArray) : sE a b = true ↔ a = b := by
  rw [← beq_sE]; exact bytes_eq_iff
theorem getD_take {α : Type} (l : List α) (j a : Nat) (d : α) (h : a < j) : (l.take j).getD a d = l.getD a d := by
  simp only [List.getD_eq_getElem?_getD]; rw [List.getElem?_take_of_lt h]
theorem getD_set_ne {α : Type} (l : List α) (i j : Nat) (v d : α) (h : i ≠ j) : (l.set i v).getD j d = l.getD j d := by
  simp only [List.getD_eq_getElem?_getD]; rw [List.getElem?_set_ne h]
end Go.Proofs.YtfleadelfklenaaGreatDoor
end
section
namespace Go.Proofs.YtfleadelfklenaaGreatDoor
open Go.VD
set_option linter.unusedVariables false
set_option linter.unusedSimpArgs false
set_option maxRecDepth 100000
def zRch (z : Rch) : Bool := !z.on && (!z.fw && ((z.x == 0) && ((z.r == 0) && ((z.l == 0) && (z.d == 0)))))
def zElm (e : Elm) : Bool := !e.on && ((e.p == 0) && (e.d == 0))
def rchOk (z : Rch) : Bool := bif z.on then btw z.x 1 4000 && (btw z.r 0 4000 && (btw z.l 0 4000 && btw z.d 0 500)) else zRch z
def elmOk (e : Elm) (least : Int) : Bool := bif e.on then btw e.p 1 16383 && btw e.d least 500 else zElm e
def crvOk (e : Elm) : Bool := bif e.on then btw e.p 1 16383 && btw e.d 1 1000 else zElm e
def zonOk (r : Rly) : Bool := rchOk r.z0 && (rchOk r.z1 && (rchOk r.z2 && (bif r.z0.on || (r.z1.on || r.z2.on) then btw r.mn 1 16383 && (btw r.kre (-200) 200 && btw r.kim (-200) 200) else (r.mn == 0) && ((r.kre == 0) && (r.kim == 0)))))
def schOk (r : Rly) : Bool := bif r.sch == 0 then (r.wt == 0) && (r.gd == 0) else bif (r.sch == 1) || (r.sch == 2) then (r.wt == 0) && btw r.gd 0 50 else bif r.sch == 3 then btw r.wt 1 50 && btw r.gd 0 50 else false
def recOk (r : Rly) : Bool := bif r.sh == 0 then (r.dd == 0) && (r.rc == 0) else btw r.sh 1 3 && (btw r.dd 1 100 && btw r.rc 1 1000)
def difOk (r : Rly) : Bool := bif r.dm == 0 then (r.nu == 0) && ((r.de == 0) && (r.hm == 0)) else btw r.dm 1 16383 && (btw r.de 1 100 && (btw r.nu 0 r.de && btw r.hm 0 100))
def numsOk (r : Rly) : Bool := zonOk r && (schOk r && (elmOk r.df 0 && (crvOk r.iv && (elmOk r.fl 1 && (recOk r && (elmOk r.un 0 && (elmOk r.ov 0 && difOk r)))))))
def zLine (r : Rly) : Bool := zRch r.z0 && (zRch r.z1 && (zRch r.z2 && ((r.mn == 0) && ((r.kre == 0) && ((r.kim == 0) && ((r.sch == 0) && ((r.wt == 0) && ((r.gd == 0) && ((r.sh == 0) && ((r.dd == 0) && (r.rc == 0)))))))))))
def zSrc (r : Rly) : Bool := zElm r.un && zElm r.ov
def zBus (r : Rly) : Bool := (r.dm == 0) && ((r.nu == 0) && ((r.de == 0) && (r.hm == 0)))
def zBay (r : Rly) : Bool := zElm r.df && (zElm r.iv && zElm r.fl)
def frnB (r : Rly) : Bool := (!(r.kind == 1) && !zLine r) || ((!(r.kind == 2) && !zSrc r) || (((r.kind == 4) && !zBay r) || (!(r.kind == 4) && !zBus r)))
def fwd (z : Rch) : Bool := z.on && z.fw
def misB (r : Rly) : Bool := bif r.sch == 1 then !(fwd r.z0 && fwd r.z1) else bif r.sch == 2 then !fwd r.z1 else bif r.sch == 3 then !(fwd r.z1 && (r.z2.on && !r.z2.fw)) else false
def sgB (x : Dst) : Bool := btw (x.sg.length : Int) 1 24
def manB (r : Rly) : Bool := !(decide (r.ru.length ≤ 16) && (decide (r.se.length ≤ 4) && (decide (r.pu.length ≤ 4) && (decide (r.su.length ≤ 24) && (List.range r.se.length).all fun i => sgB (r.se.getD i default)))))
def rsvL : List ByteArray := [⟨#[116, 114, 117, 101]⟩, ⟨#[102, 97, 108, 115, 101]⟩, ⟨#[110, 111, 116]⟩, ⟨#[97, 110, 100]⟩, ⟨#[111, 114]⟩, ⟨#[120, 111, 114]⟩, ⟨#[109, 105, 110]⟩, ⟨#[109, 97, 120]⟩, ⟨#[97, 98, 115]⟩, ⟨#[105, 102]⟩, ⟨#[114, 105, 115, 101]⟩, ⟨#[102, 97, 108, 108]⟩, ⟨#[100, 101, 108, 97, 121]⟩, ⟨#[104, 111, 108, 100]⟩, ⟨#[108, 97, 116, 99, 104]⟩, ⟨#[99, 111, 117, 110, 116]⟩]
def rsvB (s : ByteArray) : Bool := hasN rsvL s
def byB (n : Nat) : Bool := decide (32 ≤ n) && (decide (n ≤ 126) && !decide (n = 34))
def txtB (s : ByteArray) : Bool := (List.range s.size).all fun i => byB (bt s i)
def allNm (l : List ByteArray) : Bool := (List.range l.length).all fun i => nameS (l.getD i default)
def rulE (l : List Rul) (i : Nat) : Int :=
  bif nameS (l.getD i default).n && !rsvB (l.getD i default).n then
    (bif hasN ((l.take i).map Rul.n) (l.getD i default).n then 8 else bif decide (120 < (l.getD i default).t.size) then 4 else bif txtB (l.getD i default).t then 0 else 5)
  else 7
def setE (l : List Dst) (i : Nat) : Int :=
  bif nameS (l.getD i default).n && allNm (l.getD i default).sg then (bif hasN ((l.take i).map Dst.n) (l.getD i default).n then 8 else 0) else 7
def pubE (l : List Pub) (i : Nat) : Int :=
  bif nameS (l.getD i default).s then (bif hasN ((l.take i).map Pub.s) (l.getD i default).s then 8 else bif btw (l.getD i default).f 1 100 && btw (l.getD i default).m (l.getD i default).f 1000 then 0 else 2) else 7
def subE (l : List Sbs) (i : Nat) : Int :=
  bif nameS (l.getD i default).l && (nameS (l.getD i default).d && (nameS (l.getD i default).s && nameS (l.getD i default).g)) then (bif hasN ((l.take i).map Sbs.l) (l.getD i default).l then 8 else 0) else 7
def rulsE (r : Rly) : Int := firstE (rulE r.ru) r.ru.length
def setsE (r : Rly) : Int := firstE (setE r.se) r.se.length
def pubsE (r : Rly) : Int := firstE (pubE r.pu) r.pu.length
def subsE (r : Rly) : Int := firstE (subE r.su) r.su.length
def lstE (r : Rly) : Int := orE (setsE r) (orE (pubsE r) (subsE r))
def isBy (ba : List Bay) (i k : Int) : Bool := btw i 0 ((ba.length : Int) - 1) && ((ba.getD i.toNat default).kind == k)
def tknB (l : List Rly) (b : Int) : Bool := (List.range l.length).any fun i => (l.getD i default).bay == b
def plcR (ba : List Bay) (l : List Rly) (kind bay : Int) : Int :=
  bif (kind == 1) || ((kind == 2) || ((kind == 3) || (kind == 4))) then
    (bif (bif kind == 4 then bay == -1 else isBy ba bay kind) then (bif tknB l bay then 12 else 0) else 9)
  else 10
def oneE (s : Stn) (l : List Rly) (r : Rly) : Int :=
  bif nameS r.n then
    (bif hasN (namesS s) r.n || hasN (l.map Rly.n) r.n then 8 else
      orE (plcR s.ba l r.kind r.bay) (bif frnB r then 12 else bif !numsOk r then 2 else bif misB r then 11 else bif manB r then 3 else orE (rulsE r) (lstE r)))
  else 7
def rlyE (s : Stn) (l : List Rly) (i : Nat) : Int := oneE s (l.take i) (l.getD i default)
def atE (f : Nat → Int) : Nat → Nat
  | 0 => 0
  | n + 1 => bif firstE f n == 0 then (bif f n == 0 then 0 else n) else atE f n
theorem atE_zero {f : Nat → Int} : ∀ {n : Nat}, (∀ i, i < n → f i = 0) → atE f n = 0
  | 0, _ => rfl
  | n + 1, h => by
    simp only [atE, firstE_zero (n := n) fun i hi => h i (by omega), h n (by omega), beq_self_eq_true, cond_true]
theorem atE_at {f : Nat → Int} {i : Nat} : ∀ {n : Nat}, i < n → (∀ j, j < i → f j = 0) → f i ≠ 0 → atE f n = i
  | 0, h, _, _ => absurd h (Nat.not_lt_zero _)
  | n + 1, h, hj, hi => by
    simp only [atE]
    rcases Nat.lt_or_ge i n with h1 | h1
    · rw [firstE_at h1 hj hi, beq_false_of_ne hi, cond_false]; exact atE_at h1 hj hi
    · have e : i = n := by omega
      subst e
      rw [firstE_zero hj, beq_false_of_ne hi]; rfl
end Go.Proofs.YtfleadelfklenaaGreatDoor
end
section
namespace Go.Proofs.YtfleadelfklenaaGreatDoor
open Go.VD
set_option linter.unusedVariables false
set_option linter.unusedSimpArgs false
theorem firstE_split (f : Nat → Int) : ∀ n, (∀ i, i < n → f i = 0) ∨ ∃ i, i < n ∧ (∀ j, j < i → f j = 0) ∧ f i ≠ 0
  | 0 => .inl fun i h => absurd h (Nat.not_lt_zero _)
  | n + 1 => by
    rcases firstE_split f n with h | ⟨i, hi, h1, h2⟩
    · by_cases hn : f n = 0
      · exact .inl fun i hi => by
          rcases Nat.lt_or_ge i n with h1 | h1
          · exact h i h1
          · rw [show i = n by omega]; exact hn
      · exact .inr ⟨n, by omega, h, hn⟩
    · exact .inr ⟨i, by omega, h1, h2⟩
def chkA (s : Stn) (l : List Rly) : Nat := atE (rlyE s l) l.length
def chkR (s : Stn) (l : List Rly) : Int := firstE (rlyE s l) l.length
theorem chk_cases (s : Stn) (l : List Rly) : ((∀ i, i < l.length → rlyE s l i = 0) ∧ chkA s l = 0 ∧ chkR s l = 0) ∨
    ∃ i, i < l.length ∧ (∀ j, j < i → rlyE s l j = 0) ∧ rlyE s l i ≠ 0 ∧ chkA s l = i ∧ chkR s l = rlyE s l i := by
  rcases firstE_split (rlyE s l) l.length with h | ⟨i, hi, h1, h2⟩
  · exact .inl ⟨h, atE_zero h, firstE_zero h⟩
  · exact .inr ⟨i, hi, h1, h2, atE_at hi h1 h2, firstE_at hi h1 h2⟩
theorem chk_of_zero {s : Stn} {l : List Rly} (h : ∀ i, i < l.length → rlyE s l i = 0) : chkA s l = 0 ∧ chkR s l = 0 := ⟨atE_zero h, firstE_zero h⟩
theorem chk_of_at {s : Stn} {l : List Rly} {i : Nat} (hi : i < l.length) (h1 : ∀ j, j < i → rlyE s l j = 0) (h2 : rlyE s l i ≠ 0) : chkA s l = i ∧ chkR s l = rlyE s l i := ⟨atE_at hi h1 h2, firstE_at hi h1 h2⟩
theorem rlyE_take (s : Stn) (l : List Rly) (k i : Nat) (h : i < k) : rlyE s (l.take k) i = rlyE s l i := by
  unfold rlyE; rw [List.take_take, Nat.min_eq_left (by omega), getD_take _ _ _ _ h]
theorem prefix_law (s : Stn) (l : List Rly) (k : Nat) (hk : k ≤ l.length) :
    (bif (chkR s l == 0) || decide (k ≤ chkA s l) then decide (chkA s (l.take k) = 0) && (chkR s (l.take k) == 0) else decide (chkA s (l.take k) = chkA s l) && (chkR s (l.take k) == chkR s l)) = true := by
  have hlen : (l.take k).length = k := by rw [List.length_take]; omega
  have zero : (∀ i, i < k → rlyE s l i = 0) → chkA s (l.take k) = 0 ∧ chkR s (l.take k) = 0 := fun h => chk_of_zero fun i hi => by rw [hlen] at hi; rw [rlyE_take _ _ _ _ hi]; exact h i hi
  rcases chk_cases s l with ⟨h, ha, hr⟩ | ⟨i, hi, h1, h2, ha, hr⟩
  · obtain ⟨g1, g2⟩ := zero fun i hi => h i (by omega)
    rw [hr, ha, g1, g2]; rfl
  · have hne : (chkR s l == 0) = false := by rw [hr]; exact beq_false_of_ne h2
    rw [hne, ha, Bool.false_or]
    by_cases hki : k ≤ i
    · rw [decide_eq_true hki, cond_true]
      obtain ⟨g1, g2⟩ := zero fun j hj => h1 j (by omega)
      rw [g1, g2]; rfl
    · rw [decide_eq_false hki, cond_false]
      obtain ⟨g1, g2⟩ := chk_of_at (s := s) (l := l.take k) (i := i) (by omega) (fun j hj => by rw [rlyE_take _ _ _ _ (by omega)]; exact h1 j hj) (by rw [rlyE_take _ _ _ _ (by omega)]; exact h2)
      rw [g1, g2, hr, rlyE_take _ _ _ _ (by omega)]; simp
theorem tknB_any (l : List Rly) (b : Int) : tknB l b = (l.map Rly.bay).any (· == b) := by
  unfold tknB
  rw [Bool.eq_iff_iff, List.any_eq_true, List.any_eq_true]
  constructor
  · rintro ⟨i, hi, h⟩
    have hi := List.mem_range.1 hi
    exact ⟨(l.getD i default).bay, List.mem_map.2 ⟨_, getD_mem hi, rfl⟩, h⟩
  · rintro ⟨x, hx, h⟩
    obtain ⟨r, hr, rfl⟩ := List.mem_map.1 hx
    obtain ⟨i, hi, rfl⟩ := List.getElem_of_mem hr
    exact ⟨i, List.mem_range.2 hi, by rw [List.getD_eq_getElem?_getD, List.getElem?_eq_getElem hi]; exact h⟩
end Go.Proofs.YtfleadelfklenaaGreatDoor
end
section
namespace Go.Proofs.YtfleadelfklenaaGreatDoor
open Go.VD
set_option linter.unusedVariables false
set_option linter.unusedSimpArgs false
set_option maxRecDepth 100000
def RlyOk (cs : List D) : Prop := cs = d_rly (mkR cs) ∧ okRly (mkR cs)
theorem RlyOk_D (r : Rly) : RlyOk (d_rly r) = okRly r := by unfold RlyOk; rw [mkR_D]; simp
theorem rlyL (r : Rly) : [D.v (.string r.n), .v (.int .i64 r.kind), .v (.int .i64 r.bay), .v (.bool r.z0.on), .v (.bool r.z0.fw), .v (.int .i64 r.z0.x), .v (.int .i64 r.z0.r), .v (.int .i64 r.z0.l), .v (.int .i64 r.z0.d), .v (.bool r.z1.on), .v (.bool r.z1.fw), .v (.int .i64 r.z1.x), .v (.int .i64 r.z1.r), .v (.int .i64 r.z1.l), .v (.int .i64 r.z1.d), .v (.bool r.z2.on), .v (.bool r.z2.fw), .v (.int .i64 r.z2.x), .v (.int .i64 r.z2.r), .v (.int .i64 r.z2.l), .v (.int .i64 r.z2.d), .v (.int .i64 r.mn), .v (.int .i64 r.kre), .v (.int .i64 r.kim), .v (.int .i64 r.sch), .v (.int .i64 r.wt), .v (.int .i64 r.gd), .v (.bool r.df.on), .v (.int .i64 r.df.p), .v (.int .i64 r.df.d), .v (.bool r.iv.on), .v (.int .i64 r.iv.p), .v (.int .i64 r.iv.d), .v (.bool r.fl.on), .v (.int .i64 r.fl.p), .v (.int .i64 r.fl.d), .v (.int .i64 r.sh), .v (.int .i64 r.dd), .v (.int .i64 r.rc), .v (.bool r.un.on), .v (.int .i64 r.un.p), .v (.int .i64 r.un.d), .v (.bool r.ov.on), .v (.int .i64 r.ov.p), .v (.int .i64 r.ov.d), .v (.int .i64 r.dm), .v (.int .i64 r.nu), .v (.int .i64 r.de), .v (.int .i64 r.hm), .ro r.ru.length (rulesD r.ru), .ro r.se.length (setsD r.se), .ro r.pu.length (pubsD r.pu), .ro r.su.length (subsD r.su)] = d_rly r := rfl
def entR (v : Rly → Value) : Ent := fun ds => match ds with
  | [.agg cs] => some (.v (v (mkR cs)), RlyOk cs)
  | _ => none
theorem entR_of (v : Rly → Value) (f : FuncId) (hf : ∀ r : Rly, okRly r → PureJ Tryz.prog f [.agg (d_rly r)] (.v (v r))) : EntOk Tryz.prog f (entR v) := by
  intro ds d c hd hc; unfold entR at hd; split at hd
  · rename_i cs
    obtain ⟨rfl, rfl⟩ := pair_inj hd
    obtain ⟨h1, h2⟩ := hc
    rw [h1]
    have := hf (mkR cs) h2
    rwa [mkR_D]
  · cases hd
theorem bfalse (b : Bool) : (b == false) = !b := by cases b <;> rfl
theorem zRchL (z : Rch) : (!z.on && (!z.fw && ((z.x == 0) && ((z.r == 0) && ((z.l == 0) && (z.d == 0)))))) = zRch z := rfl
theorem zElmL (z : Elm) : (!z.on && ((z.p == 0) && (z.d == 0))) = zElm z := rfl
end Go.Proofs.YtfleadelfklenaaGreatDoor
end
section
namespace Go.Proofs.YtfleadelfklenaaGreatDoor
open Go.VD
set_option linter.unusedVariables false
set_option linter.unusedSimpArgs false
set_option maxRecDepth 100000
theorem p7btw_pure (n lo hi : Int) : PureJ Tryz.prog 155 [.v (.int .i64 n), .v (.int .i64 lo), .v (.int .i64 hi)] (.v (.bool (btw n lo hi))) := by
  refine pureJ_of_vcx (call := noCalls) (lp := fun _ => none) (N := 10) T_ok mixed noCalls_ok Tryz.func155 rfl (by decide) (by kernel_rfl) (by kernel_rfl) (LpAll.none _) (by first | trivial | (simp only [NamelessL, Nameless, and_self, and_true, true_and]; done) | (simp [NamelessL, Nameless, u32s_nameless, namelessL_ints]; done)) (by first | trivial | (simp only [NamelessL, Nameless, and_self, and_true, true_and]; done) | (simp [NamelessL, Nameless, u32s_nameless, namelessL_ints]; done)) ?_
  refine of_eq (B := letI z0 := (D.v (Value.bool (btw n lo hi))); (True ∧ (True ∧ (True ∧ (True ∧ (True ∧ (pcond (Decidable.decide (lo ≤ n)) (True ∧ (True ∧ (True ∧ (True ∧ (True ∧ (True ∧ (True ∧ ((D.v (Value.bool (Decidable.decide (n ≤ hi)))) = z0)))))))) (True ∧ (True ∧ (True ∧ (True ∧ ((D.v (Value.bool Bool.false)) = z0)))))))))))) (by kernel_rfl) ?_
  simp only [true_and, and_true, and_self, IsInt_lit, IsBool_lit, IsStr_lit, IsSl_lit, cellN_lit, cellL_lit, Bool.not_eq_true', Bool.not_eq_false', Bool.not_true, Bool.not_false, Int.reduceLE, Int.reduceLT, Int.reduceNeg, Nat.le_refl, Int.le_refl, Nat.reduceLT, Nat.reduceLeDiff, Nat.reduceEqDiff, D.v.injEq, D.tup.injEq, D.agg.injEq, D.ro.injEq, List.cons.injEq, Value.int.injEq, Value.bool.injEq, pcond_true, pcond_false, NamelessL, Nameless, Nat.reduceMul, Nat.reduceAdd, Nat.zero_add, Int.toNat_natCast]
  unfold btw
  exact pcond_intro (fun h => by rw [h]; rfl) (fun h => by rw [h]; rfl)
def ent_p7btw : Ent := fun ds => match ds with
  | [.v (.int .i64 n), .v (.int .i64 lo), .v (.int .i64 hi)] => some (.v (.bool (btw n lo hi)), True)
  | _ => none
theorem ent_p7btw_ok : EntOk Tryz.prog 155 ent_p7btw := by
  intro ds d c h hc; unfold ent_p7btw at h; split at h
  · obtain ⟨rfl, rfl⟩ := pair_inj h; exact p7btw_pure _ _ _
  · cases h
theorem p7elm_pure (on : Bool) (p d least : Int) : PureJ Tryz.prog 148 [.agg [.v (.bool on), .v (.int .i64 p), .v (.int .i64 d)], .v (.int .i64 least)] (.v (.bool (elmOk ⟨on, p, d⟩ least))) := by
  refine pureJ_of_vcx (call := (addPure 155 ent_p7btw noCalls)) (lp := fun _ => none) (N := 10) T_ok mixed (addPure_ok ent_p7btw_ok noCalls_ok) Tryz.func148 rfl (by decide) (by kernel_rfl) (by kernel_rfl) (LpAll.none _) (by first | trivial | (simp only [NamelessL, Nameless, and_self, and_true, true_and]; done) | (simp [NamelessL, Nameless, u32s_nameless, namelessL_ints]; done)) (by first | trivial | (simp only [NamelessL, Nameless, and_self, and_true, true_and]; done) | (simp [NamelessL, Nameless, u32s_nameless, namelessL_ints]; done)) ?_
  refine of_eq (B := letI z0 := (D.v (Value.bool (elmOk (Elm.mk on p d) least))); letI z7 := ((1 : Nat) < (3 : Nat)); letI z1 := (z7 ∧ (IsInt IntKind.i64 (D.v (Value.int IntKind.i64 p)))); letI z8 := ((2 : Nat) < (3 : Nat)); letI z2 := (z8 ∧ (IsInt IntKind.i64 (D.v (Value.int IntKind.i64 d)))); letI z6 := ((0 : Nat) < (3 : Nat)); letI z3 := (z6 ∧ (IsBool (D.v (Value.bool on)))); letI z4 := (IsInt IntKind.i64 (D.v (Value.int IntKind.i64 (0 : Int)))); letI z5 := (D.v (Value.bool Bool.false)); (True ∧ (True ∧ (True ∧ (z3 ∧ (True ∧ (pcond (!on) (((3 : Nat) ≤ (3 : Nat)) ∧ (True ∧ (((z3 ∧ (z6 ∧ (IsBool z5))) ∧ (True ∧ ((z1 ∧ (z7 ∧ z4)) ∧ (True ∧ ((z2 ∧ (z8 ∧ z4)) ∧ (True ∧ True)))))) ∧ (True ∧ (True ∧ (True ∧ ((D.v (Value.bool ((on == Bool.false) && ((p == (0 : Int)) && ((d == (0 : Int)) && Bool.true))))) = z0))))))) (True ∧ (z1 ∧ (True ∧ (True ∧ (pcond (btw p (1 : Int) (16383 : Int)) (True ∧ (z2 ∧ (True ∧ (True ∧ (True ∧ (True ∧ (True ∧ (True ∧ ((D.v (Value.bool (btw d least (500 : Int)))) = z0))))))))) (True ∧ (True ∧ (True ∧ (True ∧ (z5 = z0))))))))))))))))) (by kernel_rfl) ?_
  simp only [true_and, and_true, and_self, IsInt_lit, IsBool_lit, IsStr_lit, IsSl_lit, cellN_lit, cellL_lit, Bool.not_eq_true', Bool.not_eq_false', Bool.not_true, Bool.not_false, Int.reduceLE, Int.reduceLT, Int.reduceNeg, Nat.le_refl, Int.le_refl, Nat.reduceLT, Nat.reduceLeDiff, Nat.reduceEqDiff, D.v.injEq, D.tup.injEq, D.agg.injEq, D.ro.injEq, List.cons.injEq, Value.int.injEq, Value.bool.injEq, pcond_true, pcond_false, NamelessL, Nameless, Nat.reduceMul, Nat.reduceAdd, Nat.zero_add, Int.toNat_natCast, bfalse, Bool.and_true, zRchL, zElmL]
  unfold elmOk zElm
  repeat' (refine pcond_intro (fun _ => ?_) (fun _ => ?_))
  all_goals first | (simp_all [bne]; done) | grind | (simp_all [bne]; grind)
def ent_p7elm : Ent := fun ds => match ds with
  | [.agg [.v (.bool on), .v (.int .i64 p), .v (.int .i64 d)], .v (.int .i64 least)] => some (.v (.bool (elmOk ⟨on, p, d⟩ least)), True)
  | _ => none
theorem ent_p7elm_ok : EntOk Tryz.prog 148 ent_p7elm := by
  intro ds d c h hc; unfold ent_p7elm at h; split at h
  · obtain ⟨rfl, rfl⟩ := pair_inj h; exact p7elm_pure _ _ _ _
  · cases h
theorem p7crv_pure (on : Bool) (p d : Int) : PureJ Tryz.prog 149 [.agg [.v (.bool on), .v (.int .i64 p), .v (.int .i64 d)]] (.v (.bool (crvOk ⟨on, p, d⟩))) := by
  refine pureJ_of_vcx (call := (addPure 155 ent_p7btw noCalls)) (lp := fun _ => none) (N := 10) T_ok mixed (addPure_ok ent_p7btw_ok noCalls_ok) Tryz.func149 rfl (by decide) (by kernel_rfl) (by kernel_rfl) (LpAll.none _) (by first | trivial | (simp only [NamelessL, Nameless, and_self, and_true, true_and]; done) | (simp [NamelessL, Nameless, u32s_nameless, namelessL_ints]; done)) (by first | trivial | (simp only [NamelessL, Nameless, and_self, and_true, true_and]; done) | (simp [NamelessL, Nameless, u32s_nameless, namelessL_ints]; done)) ?_
  refine of_eq (B := letI z7 := ((1 : Nat) < (3 : Nat)); letI z0 := (z7 ∧ (IsInt IntKind.i64 (D.v (Value.int IntKind.i64 p)))); letI z8 := ((2 : Nat) < (3 : Nat)); letI z1 := (z8 ∧ (IsInt IntKind.i64 (D.v (Value.int IntKind.i64 d)))); letI z2 := (D.v (Value.bool (crvOk (Elm.mk on p d)))); letI z6 := ((0 : Nat) < (3 : Nat)); letI z3 := (z6 ∧ (IsBool (D.v (Value.bool on)))); letI z4 := (IsInt IntKind.i64 (D.v (Value.int IntKind.i64 (0 : Int)))); letI z5 := (D.v (Value.bool Bool.false)); (True ∧ (True ∧ (True ∧ (z3 ∧ (True ∧ (pcond (!on) (((3 : Nat) ≤ (3 : Nat)) ∧ (True ∧ (((z3 ∧ (z6 ∧ (IsBool z5))) ∧ (True ∧ ((z0 ∧ (z7 ∧ z4)) ∧ (True ∧ ((z1 ∧ (z8 ∧ z4)) ∧ (True ∧ True)))))) ∧ (True ∧ (True ∧ (True ∧ ((D.v (Value.bool ((on == Bool.false) && ((p == (0 : Int)) && ((d == (0 : Int)) && Bool.true))))) = z2))))))) (True ∧ (z0 ∧ (True ∧ (True ∧ (pcond (btw p (1 : Int) (16383 : Int)) (True ∧ (z1 ∧ (True ∧ (True ∧ (True ∧ (True ∧ (True ∧ ((D.v (Value.bool (btw d (1 : Int) (1000 : Int)))) = z2)))))))) (True ∧ (True ∧ (True ∧ (True ∧ (z5 = z2))))))))))))))))) (by kernel_rfl) ?_
  simp only [true_and, and_true, and_self, IsInt_lit, IsBool_lit, IsStr_lit, IsSl_lit, cellN_lit, cellL_lit, Bool.not_eq_true', Bool.not_eq_false', Bool.not_true, Bool.not_false, Int.reduceLE, Int.reduceLT, Int.reduceNeg, Nat.le_refl, Int.le_refl, Nat.reduceLT, Nat.reduceLeDiff, Nat.reduceEqDiff, D.v.injEq, D.tup.injEq, D.agg.injEq, D.ro.injEq, List.cons.injEq, Value.int.injEq, Value.bool.injEq, pcond_true, pcond_false, NamelessL, Nameless, Nat.reduceMul, Nat.reduceAdd, Nat.zero_add, Int.toNat_natCast, bfalse, Bool.and_true, zRchL, zElmL]
  unfold crvOk zElm
  repeat' (refine pcond_intro (fun _ => ?_) (fun _ => ?_))
  all_goals first | (simp_all [bne]; done) | grind | (simp_all [bne]; grind)
def ent_p7crv : Ent := fun ds => match ds with
  | [.agg [.v (.bool on), .v (.int .i64 p), .v (.int .i64 d)]] => some (.v (.bool (crvOk ⟨on, p, d⟩)), True)
  | _ => none
theorem ent_p7crv_ok : EntOk Tryz.prog 149 ent_p7crv := by
  intro ds d c h hc; unfold ent_p7crv at h; split at h
  · obtain ⟨rfl, rfl⟩ := pair_inj h; exact p7crv_pure _ _ _
  · cases h
theorem p7rch_pure (on fw : Bool) (x r l d : Int) : PureJ Tryz.prog 202 [.agg [.v (.bool on), .v (.bool fw), .v (.int .i64 x), .v (.int .i64 r), .v (.int .i64 l), .v (.int .i64 d)]] (.v (.bool (rchOk ⟨on, fw, x, r, l, d⟩))) := by
  refine pureJ_of_vcx (call := (addPure 155 ent_p7btw noCalls)) (lp := fun _ => none) (N := 10) T_ok mixed (addPure_ok ent_p7btw_ok noCalls_ok) Tryz.func202 rfl (by decide) (by kernel_rfl) (by kernel_rfl) (LpAll.none _) (by first | trivial | (simp only [NamelessL, Nameless, and_self, and_true, true_and]; done) | (simp [NamelessL, Nameless, u32s_nameless, namelessL_ints]; done)) (by first | trivial | (simp only [NamelessL, Nameless, and_self, and_true, true_and]; done) | (simp [NamelessL, Nameless, u32s_nameless, namelessL_ints]; done)) ?_
  refine of_eq (B := letI z8 := (D.v (Value.bool Bool.false)); letI z2 := (D.v (Value.bool (rchOk (Rch.mk on fw x r l d)))); letI z0 := (True ∧ (True ∧ (True ∧ (True ∧ (z8 = z2))))); letI z1 := (IsInt IntKind.i64 (D.v (Value.int IntKind.i64 (0 : Int)))); letI z12 := ((2 : Nat) < (6 : Nat)); letI z3 := (z12 ∧ (IsInt IntKind.i64 (D.v (Value.int IntKind.i64 x)))); letI z13 := ((3 : Nat) < (6 : Nat)); letI z4 := (z13 ∧ (IsInt IntKind.i64 (D.v (Value.int IntKind.i64 r)))); letI z14 := ((4 : Nat) < (6 : Nat)); letI z5 := (z14 ∧ (IsInt IntKind.i64 (D.v (Value.int IntKind.i64 l)))); letI z15 := ((5 : Nat) < (6 : Nat)); letI z6 := (z15 ∧ (IsInt IntKind.i64 (D.v (Value.int IntKind.i64 d)))); letI z10 := ((0 : Nat) < (6 : Nat)); letI z7 := (z10 ∧ (IsBool (D.v (Value.bool on)))); letI z9 := (True ∧ (True ∧ z0)); letI z11 := ((1 : Nat) < (6 : Nat)); (True ∧ (True ∧ (True ∧ (z7 ∧ (True ∧ (pcond (!on) (((6 : Nat) ≤ (6 : Nat)) ∧ (True ∧ (((z7 ∧ (z10 ∧ (IsBool z8))) ∧ (True ∧ (((z11 ∧ (IsBool (D.v (Value.bool fw)))) ∧ (z11 ∧ (IsBool z8))) ∧ (True ∧ ((z3 ∧ (z12 ∧ z1)) ∧ (True ∧ ((z4 ∧ (z13 ∧ z1)) ∧ (True ∧ ((z5 ∧ (z14 ∧ z1)) ∧ (True ∧ ((z6 ∧ (z15 ∧ z1)) ∧ (True ∧ True)))))))))))) ∧ (True ∧ (True ∧ (True ∧ ((D.v (Value.bool ((on == Bool.false) && ((fw == Bool.false) && ((x == (0 : Int)) && ((r == (0 : Int)) && ((l == (0 : Int)) && ((d == (0 : Int)) && Bool.true)))))))) = z2))))))) (True ∧ (z3 ∧ (True ∧ (True ∧ (pcond (btw x (1 : Int) (4000 : Int)) (True ∧ (z4 ∧ (True ∧ (True ∧ (True ∧ (pcond (btw r (0 : Int) (4000 : Int)) (True ∧ (z5 ∧ (True ∧ (True ∧ (True ∧ (pcond (btw l (0 : Int) (4000 : Int)) (True ∧ (z6 ∧ (True ∧ (True ∧ (True ∧ (True ∧ (True ∧ ((D.v (Value.bool (btw d (0 : Int) (500 : Int)))) = z2)))))))) z0)))))) z9)))))) (True ∧ (True ∧ z9)))))))))))))) (by kernel_rfl) ?_
  simp only [true_and, and_true, and_self, IsInt_lit, IsBool_lit, IsStr_lit, IsSl_lit, cellN_lit, cellL_lit, Bool.not_eq_true', Bool.not_eq_false', Bool.not_true, Bool.not_false, Int.reduceLE, Int.reduceLT, Int.reduceNeg, Nat.le_refl, Int.le_refl, Nat.reduceLT, Nat.reduceLeDiff, Nat.reduceEqDiff, D.v.injEq, D.tup.injEq, D.agg.injEq, D.ro.injEq, List.cons.injEq, Value.int.injEq, Value.bool.injEq, pcond_true, pcond_false, NamelessL, Nameless, Nat.reduceMul, Nat.reduceAdd, Nat.zero_add, Int.toNat_natCast, bfalse, Bool.and_true, zRchL, zElmL]
  unfold rchOk zRch
  repeat' (refine pcond_intro (fun _ => ?_) (fun _ => ?_))
  all_goals first | (simp_all [bne]; done) | grind | (simp_all [bne]; grind)
def ent_p7rch : Ent := fun ds => match ds with
  | [.agg [.v (.bool on), .v (.bool fw), .v (.int .i64 x), .v (.int .i64 r), .v (.int .i64 l), .v (.int .i64 d)]] => some (.v (.bool (rchOk ⟨on, fw, x, r, l, d⟩)), True)
  | _ => none
theorem ent_p7rch_ok : EntOk Tryz.prog 202 ent_p7rch := by
  intro ds d c h hc; unfold ent_p7rch at h; split at h
  · obtain ⟨rfl, rfl⟩ := pair_inj h; exact p7rch_pure _ _ _ _ _ _
  · cases h
theorem p7fwd_pure (on fw : Bool) (x r l d : Int) : PureJ Tryz.prog 154 [.agg [.v (.bool on), .v (.bool fw), .v (.int .i64 x), .v (.int .i64 r), .v (.int .i64 l), .v (.int .i64 d)]] (.v (.bool (fwd ⟨on, fw, x, r, l, d⟩))) := by
  refine pureJ_of_vcx (call := noCalls) (lp := fun _ => none) (N := 10) T_ok mixed noCalls_ok Tryz.func154 rfl (by decide) (by kernel_rfl) (by kernel_rfl) (LpAll.none _) (by first | trivial | (simp only [NamelessL, Nameless, and_self, and_true, true_and]; done) | (simp [NamelessL, Nameless, u32s_nameless, namelessL_ints]; done)) (by first | trivial | (simp only [NamelessL, Nameless, and_self, and_true, true_and]; done) | (simp [NamelessL, Nameless, u32s_nameless, namelessL_ints]; done)) ?_
  refine of_eq (B := letI z0 := (D.v (Value.bool (fwd (Rch.mk on fw x r l d)))); letI z1 := (D.v (Value.bool fw)); (True ∧ (True ∧ (True ∧ ((((0 : Nat) < (6 : Nat)) ∧ (IsBool (D.v (Value.bool on)))) ∧ (True ∧ (pcond on (True ∧ ((((1 : Nat) < (6 : Nat)) ∧ (IsBool z1)) ∧ (True ∧ (True ∧ (True ∧ (True ∧ (z1 = z0))))))) (True ∧ (True ∧ (True ∧ (True ∧ ((D.v (Value.bool Bool.false)) = z0)))))))))))) (by kernel_rfl) ?_
  simp only [true_and, and_true, and_self, IsInt_lit, IsBool_lit, IsStr_lit, IsSl_lit, cellN_lit, cellL_lit, Bool.not_eq_true', Bool.not_eq_false', Bool.not_true, Bool.not_false, Int.reduceLE, Int.reduceLT, Int.reduceNeg, Nat.le_refl, Int.le_refl, Nat.reduceLT, Nat.reduceLeDiff, Nat.reduceEqDiff, D.v.injEq, D.tup.injEq, D.agg.injEq, D.ro.injEq, List.cons.injEq, Value.int.injEq, Value.bool.injEq, pcond_true, pcond_false, NamelessL, Nameless, Nat.reduceMul, Nat.reduceAdd, Nat.zero_add, Int.toNat_natCast, bfalse, Bool.and_true, zRchL, zElmL]
  unfold fwd
  repeat' (refine pcond_intro (fun _ => ?_) (fun _ => ?_))
  all_goals first | (simp_all [bne]; done) | grind | (simp_all [bne]; grind)
def ent_p7fwd : Ent := fun ds => match ds with
  | [.agg [.v (.bool on), .v (.bool fw), .v (.int .i64 x), .v (.int .i64 r), .v (.int .i64 l), .v (.int .i64 d)]] => some (.v (.bool (fwd ⟨on, fw, x, r, l, d⟩)), True)
  | _ => none
theorem ent_p7fwd_ok : EntOk Tryz.prog 154 ent_p7fwd := by
  intro ds d c h hc; unfold ent_p7fwd at h; split at h
  · obtain ⟨rfl, rfl⟩ := pair_inj h; exact p7fwd_pure _ _ _ _ _ _
  · cases h
theorem rch_eta (z : Rch) : Rch.mk z.on z.fw z.x z.r z.l z.d = z := rfl
theorem elm_eta (z : Elm) : Elm.mk z.on z.p z.d = z := rfl
theorem p7zon_pure (r : Rly) (hpre : okRly r) : PureJ Tryz.prog 150 [.agg (d_rly r)] (.v (.bool (zonOk r))) := by
  refine pureJ_of_vcx (call := (addPure 155 ent_p7btw (addPure 202 ent_p7rch noCalls))) (lp := fun _ => none) (N := 10) T_ok mixed (addPure_ok ent_p7btw_ok (addPure_ok ent_p7rch_ok noCalls_ok)) Tryz.func150 rfl (by decide) (by kernel_rfl) (by kernel_rfl) (LpAll.none _) (by first | exact ⟨d_rly_nl r, trivial⟩ | trivial) (by first | exact ⟨d_rly_nl r, trivial⟩ | trivial) ?_
  refine of_eq (B := letI Z6 := (((21 : Nat) < (53 : Nat)) ∧ (IsInt IntKind.i64 (D.v (Value.int IntKind.i64 (Rly.mn r))))); letI Z4 := (((22 : Nat) < (53 : Nat)) ∧ (IsInt IntKind.i64 (D.v (Value.int IntKind.i64 (Rly.kre r))))); letI Z5 := (((23 : Nat) < (53 : Nat)) ∧ (IsInt IntKind.i64 (D.v (Value.int IntKind.i64 (Rly.kim r))))); letI Z10 := (D.v (Value.bool (zonOk r))); letI Z1 := (True ∧ (True ∧ (True ∧ ((D.v (Value.bool Bool.false)) = Z10)))); letI Z15 := (True ∧ (True ∧ (True ∧ Z1))); letI Z0 := (True ∧ (Z6 ∧ (True ∧ (True ∧ (pcond (btw (Rly.mn r) (1 : Int) (16383 : Int)) (True ∧ (Z4 ∧ (True ∧ (True ∧ (True ∧ (pcond (btw (Rly.kre r) (-(200 : Int)) (200 : Int)) (True ∧ (Z5 ∧ (True ∧ (True ∧ (True ∧ (True ∧ (True ∧ ((D.v (Value.bool (btw (Rly.kim r) (-(200 : Int)) (200 : Int)))) = Z10)))))))) (True ∧ Z1))))))) Z15))))); letI Z7 := ((6 : Nat) ≤ (6 : Nat)); letI Z2 := (((6 : Nat) = (6 : Nat)) ∧ Z7); letI Z14 := (Rch.on (Rly.z2 r)); letI Z3 := (!(rchOk (Rch.mk Z14 (Rch.fw (Rly.z2 r)) (Rch.x (Rly.z2 r)) (Rch.r (Rly.z2 r)) (Rch.l (Rly.z2 r)) (Rch.d (Rly.z2 r))))); letI Z8 := ((((0 : Int) ≤ (2 : Int)) ∧ ((2 : Int) < (3 : Int))) ∧ ((18 : Nat) ≤ (18 : Nat))); letI Z9 := (True ∧ (True ∧ (True ∧ (True ∧ (True ∧ (True ∧ (True ∧ Z0))))))); letI Z11 := ((0 : Nat) < (6 : Nat)); letI Z12 := (Rch.on (Rly.z0 r)); letI Z13 := (Rch.on (Rly.z1 r)); (True ∧ (True ∧ (True ∧ (True ∧ (((21 : Nat) ≤ (53 : Nat)) ∧ (True ∧ (True ∧ (((((0 : Int) ≤ (0 : Int)) ∧ ((0 : Int) < (3 : Int))) ∧ ((6 : Nat) ≤ (18 : Nat))) ∧ (True ∧ (Z2 ∧ (Z7 ∧ (True ∧ (True ∧ (pcond (!(rchOk (Rch.mk Z12 (Rch.fw (Rly.z0 r)) (Rch.x (Rly.z0 r)) (Rch.r (Rly.z0 r)) (Rch.l (Rly.z0 r)) (Rch.d (Rly.z0 r))))) Z1 (True ∧ (True ∧ (True ∧ ((Z11 ∧ (IsBool (D.v (Value.bool Z12)))) ∧ (True ∧ (True ∧ (True ∧ (True ∧ (True ∧ (((((0 : Int) ≤ (1 : Int)) ∧ ((1 : Int) < (3 : Int))) ∧ ((12 : Nat) ≤ (18 : Nat))) ∧ (True ∧ (Z2 ∧ (Z7 ∧ (True ∧ (True ∧ (pcond (!(rchOk (Rch.mk Z13 (Rch.fw (Rly.z1 r)) (Rch.x (Rly.z1 r)) (Rch.r (Rly.z1 r)) (Rch.l (Rly.z1 r)) (Rch.d (Rly.z1 r))))) Z1 (True ∧ (True ∧ (pcond Z12 (True ∧ (True ∧ (True ∧ (True ∧ (True ∧ (Z8 ∧ (True ∧ (Z2 ∧ (Z7 ∧ (True ∧ (True ∧ (pcond Z3 Z1 (True ∧ (True ∧ Z9)))))))))))))) (True ∧ ((Z11 ∧ (IsBool (D.v (Value.bool Z13)))) ∧ (True ∧ (True ∧ (True ∧ (True ∧ (True ∧ (Z8 ∧ (True ∧ (Z2 ∧ (Z7 ∧ (True ∧ (True ∧ (pcond Z3 Z1 (True ∧ (True ∧ (pcond Z13 Z9 (True ∧ ((Z11 ∧ (IsBool (D.v (Value.bool Z14)))) ∧ (True ∧ (True ∧ (True ∧ (True ∧ (True ∧ (True ∧ (True ∧ (pcond (!Z14) (True ∧ (Z6 ∧ (True ∧ (True ∧ (pcond ((Rly.mn r) == (0 : Int)) (True ∧ (Z4 ∧ (True ∧ (True ∧ (True ∧ (pcond ((Rly.kre r) == (0 : Int)) (True ∧ (Z5 ∧ (True ∧ (True ∧ (True ∧ (True ∧ (True ∧ ((D.v (Value.bool ((Rly.kim r) == (0 : Int)))) = Z10)))))))) (True ∧ Z1))))))) Z15))))) Z0))))))))))))))))))))))))))))))))))))))))))))))))))))))))))))) (by kernel_rfl) ?_
  simp only [true_and, and_true, and_self, IsInt_lit, IsBool_lit, IsStr_lit, IsSl_lit, cellN_lit, cellL_lit, Bool.not_eq_true', Bool.not_eq_false', Bool.not_true, Bool.not_false, Int.reduceLE, Int.reduceLT, Int.reduceNeg, Nat.le_refl, Int.le_refl, Nat.reduceLT, Nat.reduceLeDiff, Nat.reduceEqDiff, D.v.injEq, D.tup.injEq, D.agg.injEq, D.ro.injEq, List.cons.injEq, Value.int.injEq, Value.bool.injEq, pcond_true, pcond_false, NamelessL, Nameless, Nat.reduceMul, Nat.reduceAdd, Nat.zero_add, Int.toNat_natCast, bfalse, Bool.and_true, zRchL, zElmL, rch_eta, elm_eta, rlyL, RlyOk_D, mkR_D]
  unfold zonOk
  repeat' (refine pcond_intro (fun _ => ?_) (fun _ => ?_))
  all_goals first | (simp_all [bne]; done) | grind | (simp_all [bne]; grind)
def ent_p7zon : Ent := fun ds => match ds with
  | [.agg cs] => some (.v (.bool (zonOk (mkR cs))), RlyOk cs)
  | _ => none
theorem ent_p7zon_ok : EntOk Tryz.prog 150 ent_p7zon := entR_of (fun r => .bool (zonOk r)) _ fun r h => p7zon_pure r h
theorem p7sch_pure (r : Rly) (hpre : okRly r) : PureJ Tryz.prog 151 [.agg (d_rly r)] (.v (.bool (schOk r))) := by
  refine pureJ_of_vcx (call := (addPure 155 ent_p7btw noCalls)) (lp := fun _ => none) (N := 10) T_ok mixed (addPure_ok ent_p7btw_ok noCalls_ok) Tryz.func151 rfl (by decide) (by kernel_rfl) (by kernel_rfl) (LpAll.none _) (by first | exact ⟨d_rly_nl r, trivial⟩ | trivial) (by first | exact ⟨d_rly_nl r, trivial⟩ | trivial) ?_
  refine of_eq (B := letI z4 := (((26 : Nat) < (53 : Nat)) ∧ (IsInt IntKind.i64 (D.v (Value.int IntKind.i64 (Rly.gd r))))); letI z6 := (D.v (Value.bool (schOk r))); letI z0 := (True ∧ (z4 ∧ (True ∧ (True ∧ (True ∧ (True ∧ (True ∧ ((D.v (Value.bool (btw (Rly.gd r) (0 : Int) (50 : Int)))) = z6)))))))); letI z1 := (True ∧ (True ∧ (True ∧ ((D.v (Value.bool Bool.false)) = z6)))); letI z2 := (((25 : Nat) < (53 : Nat)) ∧ (IsInt IntKind.i64 (D.v (Value.int IntKind.i64 (Rly.wt r))))); letI z3 := (True ∧ (True ∧ (pcond ((Rly.sch r) == (3 : Int)) (True ∧ (z2 ∧ (True ∧ (True ∧ (pcond (btw (Rly.wt r) (1 : Int) (50 : Int)) z0 (True ∧ z1)))))) z1))); letI z8 := ((Rly.wt r) == (0 : Int)); letI z5 := (True ∧ (z2 ∧ (True ∧ (True ∧ (pcond z8 z0 (True ∧ z1)))))); letI z7 := ((Rly.sch r) == (1 : Int)); (True ∧ (True ∧ (True ∧ ((((24 : Nat) < (53 : Nat)) ∧ (IsInt IntKind.i64 (D.v (Value.int IntKind.i64 (Rly.sch r))))) ∧ (True ∧ (True ∧ (pcond ((Rly.sch r) == (0 : Int)) (True ∧ (z2 ∧ (True ∧ (True ∧ (pcond z8 (True ∧ (z4 ∧ (True ∧ (True ∧ (True ∧ (True ∧ (True ∧ ((D.v (Value.bool ((Rly.gd r) == (0 : Int)))) = z6)))))))) (True ∧ z1)))))) (True ∧ (True ∧ (pcond z7 (pcond z7 z5 z3) (True ∧ (True ∧ (pcond ((Rly.sch r) == (2 : Int)) z5 z3)))))))))))))) (by kernel_rfl) ?_
  simp only [true_and, and_true, and_self, IsInt_lit, IsBool_lit, IsStr_lit, IsSl_lit, cellN_lit, cellL_lit, Bool.not_eq_true', Bool.not_eq_false', Bool.not_true, Bool.not_false, Int.reduceLE, Int.reduceLT, Int.reduceNeg, Nat.le_refl, Int.le_refl, Nat.reduceLT, Nat.reduceLeDiff, Nat.reduceEqDiff, D.v.injEq, D.tup.injEq, D.agg.injEq, D.ro.injEq, List.cons.injEq, Value.int.injEq, Value.bool.injEq, pcond_true, pcond_false, NamelessL, Nameless, Nat.reduceMul, Nat.reduceAdd, Nat.zero_add, Int.toNat_natCast, bfalse, Bool.and_true, zRchL, zElmL, rch_eta, elm_eta, rlyL, RlyOk_D, mkR_D]
  unfold schOk
  repeat' (refine pcond_intro (fun _ => ?_) (fun _ => ?_))
  all_goals first | (simp_all [bne]; done) | grind | (simp_all [bne]; grind)
def ent_p7sch : Ent := fun ds => match ds with
  | [.agg cs] => some (.v (.bool (schOk (mkR cs))), RlyOk cs)
  | _ => none
theorem ent_p7sch_ok : EntOk Tryz.prog 151 ent_p7sch := entR_of (fun r => .bool (schOk r)) _ fun r h => p7sch_pure r h
theorem p7rec_pure (r : Rly) (hpre : okRly r) : PureJ Tryz.prog 152 [.agg (d_rly r)] (.v (.bool (recOk r))) := by
  refine pureJ_of_vcx (call := (addPure 155 ent_p7btw noCalls)) (lp := fun _ => none) (N := 10) T_ok mixed (addPure_ok ent_p7btw_ok noCalls_ok) Tryz.func152 rfl (by decide) (by kernel_rfl) (by kernel_rfl) (LpAll.none _) (by first | exact ⟨d_rly_nl r, trivial⟩ | trivial) (by first | exact ⟨d_rly_nl r, trivial⟩ | trivial) ?_
  refine of_eq (B := letI z4 := (D.v (Value.bool (recOk r))); letI z0 := (True ∧ (True ∧ (True ∧ (True ∧ ((D.v (Value.bool Bool.false)) = z4))))); letI z1 := (((36 : Nat) < (53 : Nat)) ∧ (IsInt IntKind.i64 (D.v (Value.int IntKind.i64 (Rly.sh r))))); letI z2 := (((37 : Nat) < (53 : Nat)) ∧ (IsInt IntKind.i64 (D.v (Value.int IntKind.i64 (Rly.dd r))))); letI z3 := (((38 : Nat) < (53 : Nat)) ∧ (IsInt IntKind.i64 (D.v (Value.int IntKind.i64 (Rly.rc r))))); (True ∧ (True ∧ (True ∧ (z1 ∧ (True ∧ (pcond ((Rly.sh r) == (0 : Int)) (True ∧ (z2 ∧ (True ∧ (True ∧ (pcond ((Rly.dd r) == (0 : Int)) (True ∧ (z3 ∧ (True ∧ (True ∧ (True ∧ (True ∧ (True ∧ ((D.v (Value.bool ((Rly.rc r) == (0 : Int)))) = z4)))))))) z0))))) (True ∧ (z1 ∧ (True ∧ (True ∧ (pcond (btw (Rly.sh r) (1 : Int) (3 : Int)) (True ∧ (z2 ∧ (True ∧ (True ∧ (True ∧ (pcond (btw (Rly.dd r) (1 : Int) (100 : Int)) (True ∧ (z3 ∧ (True ∧ (True ∧ (True ∧ (True ∧ (True ∧ ((D.v (Value.bool (btw (Rly.rc r) (1 : Int) (1000 : Int)))) = z4)))))))) z0)))))) (True ∧ (True ∧ z0)))))))))))))) (by kernel_rfl) ?_
  simp only [true_and, and_true, and_self, IsInt_lit, IsBool_lit, IsStr_lit, IsSl_lit, cellN_lit, cellL_lit, Bool.not_eq_true', Bool.not_eq_false', Bool.not_true, Bool.not_false, Int.reduceLE, Int.reduceLT, Int.reduceNeg, Nat.le_refl, Int.le_refl, Nat.reduceLT, Nat.reduceLeDiff, Nat.reduceEqDiff, D.v.injEq, D.tup.injEq, D.agg.injEq, D.ro.injEq, List.cons.injEq, Value.int.injEq, Value.bool.injEq, pcond_true, pcond_false, NamelessL, Nameless, Nat.reduceMul, Nat.reduceAdd, Nat.zero_add, Int.toNat_natCast, bfalse, Bool.and_true, zRchL, zElmL, rch_eta, elm_eta, rlyL, RlyOk_D, mkR_D]
  unfold recOk
  repeat' (refine pcond_intro (fun _ => ?_) (fun _ => ?_))
  all_goals first | (simp_all [bne]; done) | grind | (simp_all [bne]; grind)
def ent_p7rec : Ent := fun ds => match ds with
  | [.agg cs] => some (.v (.bool (recOk (mkR cs))), RlyOk cs)
  | _ => none
theorem ent_p7rec_ok : EntOk Tryz.prog 152 ent_p7rec := entR_of (fun r => .bool (recOk r)) _ fun r h => p7rec_pure r h
theorem p7dif_pure (r : Rly) (hpre : okRly r) : PureJ Tryz.prog 153 [.agg (d_rly r)] (.v (.bool (difOk r))) := by
  refine pureJ_of_vcx (call := (addPure 155 ent_p7btw noCalls)) (lp := fun _ => none) (N := 10) T_ok mixed (addPure_ok ent_p7btw_ok noCalls_ok) Tryz.func153 rfl (by decide) (by kernel_rfl) (by kernel_rfl) (LpAll.none _) (by first | exact ⟨d_rly_nl r, trivial⟩ | trivial) (by first | exact ⟨d_rly_nl r, trivial⟩ | trivial) ?_
  refine of_eq (B := letI z5 := (D.v (Value.bool (difOk r))); letI z0 := (True ∧ (True ∧ (True ∧ (True ∧ ((D.v (Value.bool Bool.false)) = z5))))); letI z1 := (((47 : Nat) < (53 : Nat)) ∧ (IsInt IntKind.i64 (D.v (Value.int IntKind.i64 (Rly.de r))))); letI z2 := (((45 : Nat) < (53 : Nat)) ∧ (IsInt IntKind.i64 (D.v (Value.int IntKind.i64 (Rly.dm r))))); letI z3 := (((46 : Nat) < (53 : Nat)) ∧ (IsInt IntKind.i64 (D.v (Value.int IntKind.i64 (Rly.nu r))))); letI z4 := (((48 : Nat) < (53 : Nat)) ∧ (IsInt IntKind.i64 (D.v (Value.int IntKind.i64 (Rly.hm r))))); letI z6 := (True ∧ (True ∧ z0)); (True ∧ (True ∧ (True ∧ (z2 ∧ (True ∧ (pcond ((Rly.dm r) == (0 : Int)) (True ∧ (z3 ∧ (True ∧ (True ∧ (pcond ((Rly.nu r) == (0 : Int)) (True ∧ (z1 ∧ (True ∧ (True ∧ (True ∧ (pcond ((Rly.de r) == (0 : Int)) (True ∧ (z4 ∧ (True ∧ (True ∧ (True ∧ (True ∧ (True ∧ ((D.v (Value.bool ((Rly.hm r) == (0 : Int)))) = z5)))))))) z0)))))) z6))))) (True ∧ (z2 ∧ (True ∧ (True ∧ (pcond (btw (Rly.dm r) (1 : Int) (16383 : Int)) (True ∧ (z1 ∧ (True ∧ (True ∧ (True ∧ (pcond (btw (Rly.de r) (1 : Int) (100 : Int)) (True ∧ (z3 ∧ (True ∧ (z1 ∧ (True ∧ (True ∧ (True ∧ (pcond (btw (Rly.nu r) (0 : Int) (Rly.de r)) (True ∧ (z4 ∧ (True ∧ (True ∧ (True ∧ (True ∧ (True ∧ ((D.v (Value.bool (btw (Rly.hm r) (0 : Int) (100 : Int)))) = z5)))))))) z0)))))))) z6)))))) (True ∧ (True ∧ z6)))))))))))))) (by kernel_rfl) ?_
  simp only [true_and, and_true, and_self, IsInt_lit, IsBool_lit, IsStr_lit, IsSl_lit, cellN_lit, cellL_lit, Bool.not_eq_true', Bool.not_eq_false', Bool.not_true, Bool.not_false, Int.reduceLE, Int.reduceLT, Int.reduceNeg, Nat.le_refl, Int.le_refl, Nat.reduceLT, Nat.reduceLeDiff, Nat.reduceEqDiff, D.v.injEq, D.tup.injEq, D.agg.injEq, D.ro.injEq, List.cons.injEq, Value.int.injEq, Value.bool.injEq, pcond_true, pcond_false, NamelessL, Nameless, Nat.reduceMul, Nat.reduceAdd, Nat.zero_add, Int.toNat_natCast, bfalse, Bool.and_true, zRchL, zElmL, rch_eta, elm_eta, rlyL, RlyOk_D, mkR_D]
  unfold difOk
  repeat' (refine pcond_intro (fun _ => ?_) (fun _ => ?_))
  all_goals first | (simp_all [bne]; done) | grind | (simp_all [bne]; grind)
def ent_p7dif : Ent := fun ds => match ds with
  | [.agg cs] => some (.v (.bool (difOk (mkR cs))), RlyOk cs)
  | _ => none
theorem ent_p7dif_ok : EntOk Tryz.prog 153 ent_p7dif := entR_of (fun r => .bool (difOk r)) _ fun r h => p7dif_pure r h
end Go.Proofs.YtfleadelfklenaaGreatDoor
end
