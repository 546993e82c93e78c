import PyProof.Rows.All
import Wide.All
import OpenK.AllK
import Wide.FinOn
import HandS.ForMost
import HandS.ForExc
import HandS.CallSlots
import HandS.Lambda
import HandS.HeadHook1
import HandS.ExcIs
import HandS.ExcField
import HandS.Words
import HandS.TupAny
import HandS.TupMul
import HandS.TupLe
import HandS.Defaults
import HandS.Dict
import HandS.ExcInit
import HandS.WordsExc
import HandS.IsInst
import HandS.TryMany
import HandS.Zip
import KE.GoesMore
import HandS.TupSets
import HandS.Conv
import HandS.SortKw
import KE.DatumOrd
import HandS.HeadHook4
import HandS.Style
import HandS.NestedK
import HandS.EndTab
import HandS.HeadWalk
import KE.DataEq
import KE.KTupSum
import HandS.HeadEnd
import HandS.Head2
import PySem.Challenge.RW_primezeros_k02_whole_values
set_option Elab.async false
set_option linter.all false
set_option maxRecDepth 100000
set_option maxHeartbeats 2000000
namespace Pi
open PySem PySem.Spec PyProof.Rows L2

inductive D where
  | non | bl (b : Bool) | int (i : Int) | str (x : Str) | tup (xs : List D) | lst (xs : List D) | dct (kvs : List (Key × D)) | obj (n : Nat) | exc (n f : Str) (x : D) | ktp (xs : List D) | kls (xs : List D)
  deriving Inhabited

def keyPy : Key → PyData
  | .inl i => .int i
  | .inr s => .str s
mutual
def D.py : D → PyData
  | .non => .none
  | .bl b => .bool b
  | .int i => .int i
  | .str x => .str x
  | .tup xs => .tuple (D.pyAll xs)
  | .lst xs => .list (D.pyAll xs)
  | .dct kvs => .dict (D.pyKv kvs)
  | .obj _ => .none
  | .exc _ _ _ => .none
  | .ktp xs => .tuple (D.pyAll xs)
  | .kls _ => .none
def D.pyAll : List D → List PyData
  | [] => []
  | x :: xs => D.py x :: D.pyAll xs
def D.pyKv : List (Key × D) → List (PyData × PyData)
  | [] => []
  | (k, x) :: xs => (keyPy k, D.py x) :: D.pyKv xs
end
/- no object that may change within -/
mutual
def D.still : D → Bool
  | .tup xs => D.stillAll xs
  | .lst xs => D.stillAll xs
  | .dct kvs => D.stillKv kvs
  | .obj _ => false
  | .exc _ _ _ => false
  | .ktp xs => D.stillAll xs
  | .kls _ => false
  | _ => true
def D.stillAll : List D → Bool
  | [] => true
  | x :: xs => D.still x && D.stillAll xs
def D.stillKv : List (Key × D) → Bool
  | [] => true
  | (_, x) :: xs => D.still x && D.stillKv xs
end

/-- at a: an exception of the class cls that was caught, its dict at d -/
def ExcO (cls : Value) (d a : Addr) : HO := .ext fun h => ∃ (oe : Obj) (vs : Array Value), h.get? a = some oe ∧ Zc cls (some d) oe ∧ oe.data = .fields vs
mutual
inductive Rep (K : PySem.W.Frag) (F : Hp) (al : List Addr) : V → D → Prop
  | non : Rep K F al .non .non
  | bl (b : Bool) : Rep K F al (.bl b) (.bl b)
  | int (i : Int) : Rep K F al (.int i) (.int i)
  | str (x : Str) : Rep K F al (.str x) (.str x)
  | lst {a : Addr} {xs : List V} {ds : List D} : F a = some (.lst xs) → RepAll K F al xs ds → Rep K F al (.ref a) (.lst ds)
  | tup {a : Addr} {xs : List V} {ds : List D} : F a = some (.tup xs) → RepAll K F al xs ds → Rep K F al (.ref a) (.tup ds)
  | ktp {a : Addr} {xs : List V} {ds : List D} : SqT K (fun _ => none) a xs → RepAll K F al xs ds → Rep K F al (.ref a) (.ktp ds)
  | kls {a : Addr} {xs : List V} {ds : List D} : SqL K F a xs → RepAll K F al xs ds → Rep K F al (.ref a) (.kls ds)
  | dct {a : Addr} {kvs : List (Key × V)} {ds : List (Key × D)} : F a = some (.dK kvs) → RepKv K F al kvs ds → Rep K F al (.ref a) (.dct ds)
  | obj {a : Addr} {n : Nat} : al[n]? = some a → Rep K F al (.ref a) (.obj n)
  | exc {a d : Addr} {n f : Str} {v : V} {x : D} : F a = some (ExcO (.ref (He.ga K n)) d a) → F d = some (.xd [(f, v)]) → Rep K F al v x → Rep K F al (.ref a) (.exc n f x)
inductive RepAll (K : PySem.W.Frag) (F : Hp) (al : List Addr) : List V → List D → Prop
  | nil : RepAll K F al [] []
  | cons {v : V} {vs : List V} {d : D} {ds : List D} : Rep K F al v d → RepAll K F al vs ds → RepAll K F al (v :: vs) (d :: ds)
inductive RepKv (K : PySem.W.Frag) (F : Hp) (al : List Addr) : List (Key × V) → List (Key × D) → Prop
  | nil : RepKv K F al [] []
  | cons {k : Key} {v : V} {vs : List (Key × V)} {d : D} {ds : List (Key × D)} : Rep K F al v d → RepKv K F al vs ds → RepKv K F al ((k, v) :: vs) ((k, d) :: ds)
end
theorem Same.seqT {K : PySem.W.Frag} {H H' : Hp} {a : Addr} {xs : List V} (e : Same H H') (h : SqT K H a xs) : SqT K H' a xs := by
  rcases h with (h | ⟨o, h⟩) | h
  · exact .inl (.inl (e _ _ h))
  · exact .inl (.inr ⟨o, e _ _ h⟩)
  · exact .inr h
/-- a tuple of the written part -/
theorem sqT_k {K : PySem.W.Frag} {H : Hp} {a : Addr} {xs : List V} (h : SqT K (fun _ => none) a xs) : SqT K H a xs := Same.seqT (fun _ _ e => by cases e) h
section
variable {K : PySem.W.Frag} {F F' : Hp} {al al' : List Addr}
theorem pre_get {n : Nat} {a : Addr} (p : ∃ b, al' = al ++ b) (h : al[n]? = some a) : al'[n]? = some a := by
  obtain ⟨b, rfl⟩ := p
  rw [List.getElem?_append_left (List.getElem?_eq_some_iff.mp h).1]
  exact h
mutual
theorem Rep.mono (e : Same F F') (p : ∃ b, al' = al ++ b) : ∀ {v : V} {d : D}, Rep K F al v d → Rep K F' al' v d
  | _, _, .non => .non
  | _, _, .bl b => .bl b
  | _, _, .int i => .int i
  | _, _, .str x => .str x
  | _, _, .lst h r => .lst (e _ _ h) (RepAll.mono e p r)
  | _, _, .tup h r => .tup (e _ _ h) (RepAll.mono e p r)
  | _, _, .ktp h r => .ktp h (RepAll.mono e p r)
  | _, _, .kls h r => .kls (Same.seq e h) (RepAll.mono e p r)
  | _, _, .dct h r => .dct (e _ _ h) (RepKv.mono e p r)
  | _, _, .obj h => .obj (pre_get p h)
  | _, _, .exc h1 h2 r => .exc (e _ _ h1) (e _ _ h2) (Rep.mono e p r)
theorem RepAll.mono (e : Same F F') (p : ∃ b, al' = al ++ b) : ∀ {v : List V} {d : List D}, RepAll K F al v d → RepAll K F' al' v d
  | _, _, .nil => .nil
  | _, _, .cons r t => .cons (Rep.mono e p r) (RepAll.mono e p t)
theorem RepKv.mono (e : Same F F') (p : ∃ b, al' = al ++ b) : ∀ {v : List (Key × V)} {d : List (Key × D)}, RepKv K F al v d → RepKv K F' al' v d
  | _, _, .nil => .nil
  | _, _, .cons r t => .cons (Rep.mono e p r) (RepKv.mono e p t)
end
theorem RepAll.length : ∀ {v : List V} {d : List D}, RepAll K F al v d → v.length = d.length
  | _, _, .nil => rfl
  | _, _, .cons _ t => congrArg (· + 1) (RepAll.length t)
theorem RepAll.get : ∀ {v : List V} {d : List D} {i : Nat} {x : D}, RepAll K F al v d → d[i]? = some x → ∃ u, v[i]? = some u ∧ Rep K F al u x
  | _, _, _, _, .nil, e => by simp at e
  | _, _, 0, _, .cons r _, e => by simp at e; subst e; exact ⟨_, rfl, r⟩
  | _, _, i + 1, x, .cons _ t, e => by
    obtain ⟨u, h1, h2⟩ := RepAll.get (i := i) (x := x) t (by simpa using e)
    exact ⟨u, by simpa using h1, h2⟩
theorem RepAll.append : ∀ {v w : List V} {d e : List D}, RepAll K F al v d → RepAll K F al w e → RepAll K F al (v ++ w) (d ++ e)
  | _, _, _, _, .nil, s => s
  | _, _, _, _, .cons r t, s => .cons r (RepAll.append t s)
theorem RepAll.take : ∀ {v : List V} {d : List D} (n : Nat), RepAll K F al v d → RepAll K F al (v.take n) (d.take n)
  | _, _, 0, _ => .nil
  | _, _, _ + 1, .nil => .nil
  | _, _, n + 1, .cons r t => .cons r (RepAll.take n t)
theorem RepAll.drop : ∀ {v : List V} {d : List D} (n : Nat), RepAll K F al v d → RepAll K F al (v.drop n) (d.drop n)
  | _, _, 0, r => r
  | _, _, _ + 1, .nil => .nil
  | _, _, n + 1, .cons _ t => RepAll.drop n t
theorem RepAll.reverse : ∀ {v : List V} {d : List D}, RepAll K F al v d → RepAll K F al v.reverse d.reverse
  | _, _, .nil => .nil
  | _, _, .cons r t => by
    rw [List.reverse_cons, List.reverse_cons]
    exact (RepAll.reverse t).append (.cons r .nil)
theorem RepAll.set {x : V} {y : D} (r : Rep K F al x y) : ∀ {v : List V} {d : List D} (i : Nat), RepAll K F al v d → RepAll K F al (v.set i x) (d.set i y)
  | _, _, _, .nil => .nil
  | _, _, 0, .cons _ t => .cons r t
  | _, _, i + 1, .cons q t => .cons q (RepAll.set r i t)
theorem RepAll.snoc {v : List V} {d : List D} {x : V} {y : D} (h : RepAll K F al v d) (r : Rep K F al x y) : RepAll K F al (v ++ [x]) (d ++ [y]) := h.append (.cons r .nil)
theorem RepAll.cons_inv {v : List V} {d : D} {ds : List D} (h : RepAll K F al v (d :: ds)) : ∃ x xs, v = x :: xs ∧ Rep K F al x d ∧ RepAll K F al xs ds := by
  cases h with
  | cons r t => exact ⟨_, _, rfl, r, t⟩
theorem RepAll.nil_inv {v : List V} (h : RepAll K F al v []) : v = [] := by
  cases h
  rfl
end

inductive Tag where
  | frz | own | wld
  deriving DecidableEq
abbrev Tg := Addr → Option Tag
/-- no table of code objects: what may grow by itself -/
def NT (o : HO) : Prop := ∀ ps, o ≠ .tbl ps
def ntb : Option HO → Option HO
  | some (.tbl _) => none
  | o => o
theorem ntb_some {x : Option HO} {o : HO} (h : ntb x = some o) : x = some o ∧ NT o := by
  unfold ntb at h
  split at h
  · cases h
  · rename_i z
    refine ⟨h, fun ps e => ?_⟩
    subst e
    exact z ps h
theorem ntb_of {o : HO} (t : NT o) : ntb (some o) = some o := by
  unfold ntb
  split
  · rename_i ps e
    exact absurd (Option.some.inj e) (t ps)
  · rfl
def fz (T : Tg) (H : Hp) : Hp := fun a => if T a = some .frz then ntb (H a) else none
theorem fz_all {T : Tg} {H : Hp} {a : Addr} {o : HO} (h : fz T H a = some o) : T a = some .frz ∧ H a = some o ∧ NT o := by
  unfold fz at h
  split at h
  · exact ⟨by assumption, ntb_some h⟩
  · cases h
theorem fz_some {T : Tg} {H : Hp} {a : Addr} {o : HO} (h : fz T H a = some o) : T a = some .frz ∧ H a = some o := ⟨(fz_all h).1, (fz_all h).2.1⟩
theorem fz_of {T : Tg} {H : Hp} {a : Addr} {o : HO} (h : T a = some .frz) (e : H a = some o) (t : NT o := by intro ps z; cases z) : fz T H a = some o := by
  unfold fz
  rw [if_pos h, e]
  exact ntb_of t
theorem fz_same {T : Tg} {H : Hp} : Same (fz T H) H := fun _ _ h => (fz_some h).2
def tset (T : Tg) (a : Addr) (t : Tag) : Tg := fun b => if b = a then some t else T b
theorem tset_same {T : Tg} {a : Addr} {t : Tag} : tset T a t a = some t := if_pos rfl
theorem tset_ne {T : Tg} {a b : Addr} {t : Tag} (h : b ≠ a) : tset T a t b = T b := if_neg h

inductive MO where
  | dk (kvs : List (Key × D))
abbrev St := List MO
def MRep (K : PySem.W.Frag) (F : Hp) (al : List Addr) (o : Option HO) : MO → Prop
  | .dk kvs => ∃ vs, o = some (.dK vs) ∧ RepKv K F al vs kvs

structure WI (K : PySem.W.Frag) (TB : List (Addr × Str)) (T : Tg) (al : List Addr) (st : St) (H : Hp) : Prop where
  tg : ∀ a t, T a = some t → ∃ o, H a = some o
  len : al.length = st.length
  cell : ∀ (n : Nat) (a : Addr) (m : MO), al[n]? = some a → st[n]? = some m → T a = some .wld ∧ MRep K (fz T H) al (H a) m
  inj : al.Nodup
  tabs : LamX.Tabs TB H
  wldo : ∀ a, T a = some .wld → ∃ n : Nat, al[n]? = some a
theorem WI.free {K : PySem.W.Frag} {TB : List (Addr × Str)} {T : Tg} {al : List Addr} {st : St} {H : Hp} (w : WI K TB T al st H) {a : Addr} (h : H a = none) : T a = none := by
  cases e : T a with
  | none => rfl
  | some t =>
    obtain ⟨o, q⟩ := w.tg a t e
    rw [h] at q
    cases q

/-- no tuple -/
def NU (o : HO) : Prop := ∀ xs, o ≠ .tup xs
/-- what a step leaves of what was tracked; a tuple may come to stand still -/
structure Ext (T : Tg) (al : List Addr) (H : Hp) (T' : Tg) (al' : List Addr) (H' : Hp) : Prop where
  tg0 : ∀ a o, H a = some o → NU o → T' a = T a
  tgt : ∀ a xs, H a = some (.tup xs) → T a = some .frz → T' a = some .frz
  tgw : ∀ a xs, H a = some (.tup xs) → T a ≠ some .wld → T' a ≠ some .wld
  hp0 : ∀ a o, H a = some o → T a ≠ some .wld → NT o → H' a = some o
  wl : ∀ a o, H a = some o → ∃ o', H' a = some o' ∧ (NU o → NU o')
  al : ∃ b, al' = al ++ b
section
variable {T T1 T2 : Tg} {al al1 al2 : List Addr} {H H1 H2 : Hp}
theorem Ext.hp (x : Ext T al H T1 al1 H1) (a : Addr) (o : HO) (h : H a = some o) (n : T a ≠ some .wld) (t : NT o := by intro ps z; cases z) : H1 a = some o := x.hp0 a o h n t
theorem Ext.tg (x : Ext T al H T1 al1 H1) (a : Addr) (o : HO) (h : H a = some o) (n : NU o := by intro xs z; cases z) : T1 a = T a := x.tg0 a o h n
theorem Ext.isF (x : Ext T al H T1 al1 H1) {a : Addr} {o : HO} (h : H a = some o) (f : T a = some .frz) : T1 a = some .frz := by
  by_cases z : NU o
  · rw [x.tg0 a o h z]
    exact f
  · have ⟨xs, e⟩ : ∃ xs, o = .tup xs := Classical.byContradiction fun q => z fun xs e => q ⟨xs, e⟩
    rw [e] at h
    exact x.tgt a xs h f
theorem Ext.noW (x : Ext T al H T1 al1 H1) {a : Addr} {o : HO} (h : H a = some o) (f : T a ≠ some .wld) : T1 a ≠ some .wld := by
  by_cases z : NU o
  · rw [x.tg0 a o h z]
    exact f
  · have ⟨xs, e⟩ : ∃ xs, o = .tup xs := Classical.byContradiction fun q => z fun xs e => q ⟨xs, e⟩
    rw [e] at h
    exact x.tgw a xs h f
theorem nt_tup {xs : List V} : NT (.tup xs) := by intro ps z; cases z
theorem Ext.refl : Ext T al H T al H := ⟨fun _ _ _ _ => rfl, fun _ _ _ h => h, fun _ _ _ h => h, fun _ _ e _ _ => e, fun _ o e => ⟨o, e, id⟩, ⟨[], by simp⟩⟩
theorem Ext.trans (a : Ext T al H T1 al1 H1) (b : Ext T1 al1 H1 T2 al2 H2) : Ext T al H T2 al2 H2 where
  tg0 := fun x o e n => by
    obtain ⟨o', e', n'⟩ := a.wl x o e
    rw [b.tg0 x o' e' (n' n), a.tg0 x o e n]
  tgt := fun x xs e f => b.isF (a.hp0 x _ e (by rw [f]; decide) nt_tup) (a.tgt x xs e f)
  tgw := fun x xs e f => b.noW (a.hp0 x _ e f nt_tup) (a.tgw x xs e f)
  hp0 := fun x o e n t => b.hp0 x o (a.hp0 x o e n t) (a.noW e n) t
  wl := fun x o e => by
    obtain ⟨o', e', n'⟩ := a.wl x o e
    obtain ⟨o2, e2, n2⟩ := b.wl x o' e'
    exact ⟨o2, e2, fun n => n2 (n' n)⟩
  al := by
    obtain ⟨p, rfl⟩ := a.al
    obtain ⟨q, rfl⟩ := b.al
    exact ⟨p ++ q, by rw [List.append_assoc]⟩
theorem Ext.fz (x : Ext T al H T1 al1 H1) : Same (fz T H) (fz T1 H1) := fun a o e => by
  obtain ⟨h1, h2, ht⟩ := fz_all e
  exact fz_of (x.isF h2 h1) (x.hp0 a o h2 (by rw [h1]; decide) ht) ht
theorem Ext.free (x : Ext T al H T1 al1 H1) {a : Addr} (h : H1 a = none) : H a = none := by
  cases e : H a with
  | none => rfl
  | some o =>
    obtain ⟨o', q, _⟩ := x.wl a o e
    rw [h] at q
    cases q
/-- a new object is laid at p, with the tag t -/
theorem Ext.laid {p : Addr} {o : HO} (n : H p = none) (t : Tag) : Ext T al H (tset T p t) al (upd H p o) where
  tg0 := fun a u e _ => tset_ne (ne_of_none e n)
  tgt := fun a xs e f => by rw [tset_ne (ne_of_none e n)]; exact f
  tgw := fun a xs e f => by rw [tset_ne (ne_of_none e n)]; exact f
  hp0 := fun a u e _ _ => by rw [upd_ne (ne_of_none e n)]; exact e
  wl := fun a u e => ⟨u, by rw [upd_ne (ne_of_none e n)]; exact e, id⟩
  al := ⟨[], by simp⟩
theorem Ext.laid0 {p : Addr} {o : HO} (n : H p = none) : Ext T al H T al (upd H p o) where
  tg0 := fun a u e _ => rfl
  tgt := fun a xs e f => f
  tgw := fun a xs e f => f
  hp0 := fun a u e _ _ => by rw [upd_ne (ne_of_none e n)]; exact e
  wl := fun a u e => ⟨u, by rw [upd_ne (ne_of_none e n)]; exact e, id⟩
  al := ⟨[], by simp⟩
/-- what was new gets a tag -/
theorem Ext.retag {p : Addr} (n : H p = none) (x : Ext T al H T1 al1 H1) (t : Tag) : Ext T al H (tset T1 p t) al1 H1 where
  tg0 := fun a u e m => by rw [tset_ne (ne_of_none e n)]; exact x.tg0 a u e m
  tgt := fun a xs e f => by rw [tset_ne (ne_of_none e n)]; exact x.tgt a xs e f
  tgw := fun a xs e f => by rw [tset_ne (ne_of_none e n)]; exact x.tgw a xs e f
  hp0 := x.hp0
  wl := x.wl
  al := x.al
/-- a tuple comes to stand still -/
theorem Ext.still {p : Addr} {xs : List V} (h : H p = some (.tup xs)) : Ext T al H (tset T p .frz) al H where
  tg0 := fun a u e m => tset_ne fun z => by
    rw [z, h] at e
    exact m xs (Option.some.inj e).symm
  tgt := fun a ys e f => by
    by_cases z : a = p
    · rw [z]
      exact tset_same
    · rw [tset_ne z]
      exact f
  tgw := fun a ys e f => by
    by_cases z : a = p
    · rw [z, tset_same]
      decide
    · rw [tset_ne z]
      exact f
  hp0 := fun a o e _ _ => e
  wl := fun a o e => ⟨o, e, id⟩
  al := ⟨[], by simp⟩
variable {K : PySem.W.Frag} {v : V} {d : D} {vs : List V} {ds : List D}
theorem Rep.ext (r : Rep K (Pi.fz T H) al v d) (x : Ext T al H T1 al1 H1) : Rep K (Pi.fz T1 H1) al1 v d := r.mono x.fz x.al
theorem RepAll.ext (r : RepAll K (Pi.fz T H) al vs ds) (x : Ext T al H T1 al1 H1) : RepAll K (Pi.fz T1 H1) al1 vs ds := r.mono x.fz x.al
end
theorem fz_tset {T : Tg} {H : Hp} {p : Addr} {t : Tag} (h : T p ≠ some .frz) : Same (fz T H) (fz (tset T p t) H) := fun a o e => by
  obtain ⟨h1, h2, ht⟩ := fz_all e
  have ne : a ≠ p := fun z => by
    rw [z] at h1
    exact h h1
  exact fz_of (by rw [tset_ne ne]; exact h1) h2 ht
section
variable {K : PySem.W.Frag} {TB : List (Addr × Str)} {T : Tg} {al : List Addr} {st : St} {H : Hp}
/-- the world stands where something is laid anew -/
theorem WI.laid {p : Addr} {o : HO} (w : WI K TB T al st H) (n : H p = none) : WI K TB T al st (upd H p o) where
  tg := fun a t e => by
    obtain ⟨u, q⟩ := w.tg a t e
    exact ⟨u, by rw [upd_ne (ne_of_none q n)]; exact q⟩
  len := w.len
  cell := fun k a m e1 e2 => by
    obtain ⟨h1, h2⟩ := w.cell k a m e1 e2
    obtain ⟨u, q⟩ := w.tg a _ h1
    refine ⟨h1, ?_⟩
    have hs : Same (fz T H) (fz T (upd H p o)) := (Ext.laid0 (al := al) n).fz
    cases m with
    | dk kvs =>
      obtain ⟨vs, e3, r⟩ := h2
      exact ⟨vs, by rw [upd_ne (ne_of_none q n)]; exact e3, r.mono hs ⟨[], by simp⟩⟩
  inj := w.inj
  tabs := w.tabs.ext fun b u e => by rw [upd_ne (ne_of_none e n)]; exact e
  wldo := w.wldo
/-- .. where something untagged gets a tag other than the world's -/
theorem WI.tag {p : Addr} {t : Tag} {o : HO} (w : WI K TB T al st H) (n : T p ≠ some .frz) (n2 : T p ≠ some .wld) (h : H p = some o) (ht : t ≠ .wld := by decide) : WI K TB (tset T p t) al st H where
  tg := fun a u e => by
    by_cases z : a = p
    · exact ⟨o, by rw [z]; exact h⟩
    · rw [tset_ne z] at e
      exact w.tg a u e
  len := w.len
  cell := fun k a m e1 e2 => by
    obtain ⟨h1, h2⟩ := w.cell k a m e1 e2
    have ne : a ≠ p := fun z => by
      rw [z] at h1
      exact n2 h1
    refine ⟨by rw [tset_ne ne]; exact h1, ?_⟩
    cases m with
    | dk kvs =>
      obtain ⟨vs, e3, r⟩ := h2
      exact ⟨vs, e3, r.mono (fz_tset n) ⟨[], by simp⟩⟩
  inj := w.inj
  tabs := w.tabs
  wldo := fun a e => by
    by_cases z : a = p
    · rw [z, tset_same] at e
      exact absurd (Option.some.inj e) ht
    · rw [tset_ne z] at e
      exact w.wldo a e
end
end Pi
namespace Pi
open PySem PySem.Spec PyProof.Rows L2

inductive Res (b : Type) where
  | ok (x : b) (st : St)
  | err (c : Nat) (x : D) (st : St)
  | bad
abbrev Mo (b : Type) := St → Res b
@[reducible] def Mo.ret {b : Type} (x : b) : Mo b := fun st => .ok x st
@[reducible] def Mo.bind {b c : Type} (f : Mo b) (g : b → Mo c) : Mo c := fun st => match f st with
  | .ok x st' => g x st'
  | .err k x st' => .err k x st'
  | .bad => .bad
instance : Monad Mo where
  pure := Mo.ret
  bind := Mo.bind
def Mo.bad {b : Type} : Mo b := fun _ => .bad
def Mo.err {b : Type} (c : Nat) (x : D) : Mo b := fun st => .err c x st
def Mo.opt {b : Type} : Option b → Mo b
  | some x => Mo.ret x
  | none => Mo.bad
section
variable {b c : Type}
theorem ret_ap (x : b) (st : St) : (pure x : Mo b) st = .ok x st := rfl
theorem bind_ap (f : Mo b) (g : b → Mo c) (st : St) : (f >>= g) st = match f st with
  | .ok x st' => g x st'
  | .err k x st' => .err k x st'
  | .bad => .bad := rfl
end

inductive SV where
  | d (x : D)
  | own (xs : List D)
  | odT (kvs : List (List Key × D))
def SV.isOwn : SV → Bool
  | .d _ => false
  | _ => true
abbrev Env := List (Option SV)
abbrev KvT (K : PySem.W.Frag) (F : Hp) (al : List Addr) : List (List Key × V) → List (List Key × D) → Prop := Paired fun (p : List Key × V) (q : List Key × D) => p.1 = q.1 ∧ Rep K F al p.2 q.2
def SRep (K : PySem.W.Frag) (H0 : Hp) (T : Tg) (al : List Addr) (H : Hp) (v : V) : SV → Prop
  | .d x => Rep K (fz T H) al v x
  | .own xs => ∃ l vs, v = .ref l ∧ T l = some .own ∧ H0 l = none ∧ H l = some (.lst vs) ∧ RepAll K (fz T H) al vs xs
  | .odT kvs => ∃ l vs, v = .ref l ∧ T l = some .own ∧ H0 l = none ∧ H l = some (.dT vs) ∧ KvT K (fz T H) al vs kvs
structure SL (K : PySem.W.Frag) (H0 : Hp) (T : Tg) (al : List Addr) (H : Hp) (r : Env) (σ : L2.St) : Prop where
  len : σ.length = r.length
  at_ : ∀ (i : Nat) (x : SV), r[i]? = some (some x) → ∃ v, σ[i]? = some (some v) ∧ SRep K H0 T al H v x
  ap : ∀ (i j : Nat) (x y : SV) (v : V), i ≠ j → r[i]? = some (some x) → r[j]? = some (some y) → x.isOwn = true → y.isOwn = true → σ[i]? = some (some v) → σ[j]? ≠ some (some v)
theorem paired_imp {a b : Type} {F G : a → b → Prop} : ∀ {l : List a} {m : List b}, Paired F l m → (∀ x y, F x y → G x y) → Paired G l m
  | _, _, .nil, _ => .nil
  | _, _, .cons r t, f => .cons (f _ _ r) (paired_imp t f)
section
variable {K : PySem.W.Frag} {H0 : Hp} {T T1 : Tg} {al al1 : List Addr} {H H1 : Hp} {v : V} {x : SV} {r : Env} {σ : L2.St}
theorem SRep.ext (h : SRep K H0 T al H v x) (e : Ext T al H T1 al1 H1) : SRep K H0 T1 al1 H1 v x := by
  cases x with
  | d x => exact Rep.ext h e
  | own xs =>
    obtain ⟨l, vs, rfl, h1, h0, h2, h3⟩ := h
    exact ⟨l, vs, rfl, (e.tg l _ h2).trans h1, h0, e.hp l _ h2 (by rw [h1]; decide), h3.ext e⟩
  | odT kvs =>
    obtain ⟨l, vs, rfl, h1, h0, h2, h3⟩ := h
    exact ⟨l, vs, rfl, (e.tg l _ h2).trans h1, h0, e.hp l _ h2 (by rw [h1]; decide), paired_imp h3 fun p q z => ⟨z.1, z.2.ext e⟩⟩
theorem SL.ext (h : SL K H0 T al H r σ) (e : Ext T al H T1 al1 H1) : SL K H0 T1 al1 H1 r σ :=
  ⟨h.len, fun i x hx => by
    obtain ⟨v, h1, h2⟩ := h.at_ i x hx
    exact ⟨v, h1, h2.ext e⟩, h.ap⟩
end

def nw (T : Tg) (H : Hp) : Hp := fun a => if T a = some .wld then none else ntb (H a)
theorem nw_all {T : Tg} {H : Hp} {a : Addr} {o : HO} (h : nw T H a = some o) : T a ≠ some .wld ∧ H a = some o ∧ NT o := by
  unfold nw at h
  split at h
  · cases h
  · exact ⟨by assumption, ntb_some h⟩
theorem nw_some {T : Tg} {H : Hp} {a : Addr} {o : HO} (h : nw T H a = some o) : T a ≠ some .wld ∧ H a = some o := ⟨(nw_all h).1, (nw_all h).2.1⟩
theorem nw_of {T : Tg} {H : Hp} {a : Addr} {o : HO} (h : T a ≠ some .wld) (e : H a = some o) (t : NT o := by intro ps z; cases z) : nw T H a = some o := by
  unfold nw
  rw [if_neg h, e]
  exact ntb_of t
theorem nw_same {T : Tg} {H : Hp} : Same (nw T H) H := fun _ _ h => (nw_some h).2
theorem fz_nw {T : Tg} {H : Hp} : Same (fz T H) (nw T H) := fun a o e => by
  obtain ⟨h1, h2, ht⟩ := fz_all e
  exact nw_of (by rw [h1]; decide) h2 ht
theorem Ext.nw {T T1 : Tg} {al al1 : List Addr} {H H1 : Hp} (x : Ext T al H T1 al1 H1) : Same (nw T H) (nw T1 H1) := fun a o e => by
  obtain ⟨h1, h2, ht⟩ := nw_all e
  exact nw_of (x.noW h2 h1) (x.hp0 a o h2 h1 ht) ht
/-- v is worth x, read now -/
def RepH (K : PySem.W.Frag) (T : Tg) (al : List Addr) (H : Hp) (v : V) : D → Prop
  | .lst ds => ∃ a xs, v = .ref a ∧ nw T H a = some (.lst xs) ∧ RepAll K (fz T H) al xs ds
  | d => Rep K (fz T H) al v d
section
variable {K : PySem.W.Frag} {H0 : Hp} {T T1 : Tg} {al al1 : List Addr} {H H1 : Hp} {v : V} {d : D}
theorem Rep.toH (h : Rep K (fz T H) al v d) : RepH K T al H v d := by
  cases d with
  | lst ds =>
    cases h with
    | lst h r => exact ⟨_, _, rfl, fz_nw _ _ h, r⟩
  | _ => exact h
theorem RepH.ext (h : RepH K T al H v d) (e : Ext T al H T1 al1 H1) : RepH K T1 al1 H1 v d := by
  cases d with
  | lst ds =>
    obtain ⟨a, xs, e1, h1, r⟩ := h
    exact ⟨a, xs, e1, e.nw _ _ h1, r.ext e⟩
  | _ => exact Rep.ext (d := _) h e
end

def RdE (X : Cx) (e : Expr) (σ : L2.St) (H : Hp) (Q : VK) : Prop := ∀ (pins : List (Addr × Obj)) (s : Shared), Inv X pins σ H s → wpAny (model X.prog X.w) X.A (eval e X.env) (EP X pins σ Q) X.xe s
def RdA (X : Cx) (es : List Expr) (σ : L2.St) (H : Hp) (Q : List V → Hp → Prop) : Prop := ∀ (pos : Pos) (pins : List (Addr × Obj)) (s : Shared), Inv X pins σ H s → wpAny (model X.prog X.w) X.A (spliced (backTo pos (starEach es X.env))) (AP X pins σ Q) X.xe s
def RdT (X : Cx) (e : Expr) (σ : L2.St) (H : Hp) (Q : Bool → Hp → Prop) : Prop := ∀ (pins : List (Addr × Obj)) (s : Shared), Inv X pins σ H s → wpAny (model X.prog X.w) X.A (isTrue e X.env (eval e X.env)) (TP X pins σ Q) X.xe s
def RdW (X : Cx) (e : Expr) (σ : L2.St) (H : Hp) (Q : Bool → Hp → Prop) : Prop := ∀ (whole : Sem Value) (pins : List (Addr × Obj)) (s : Shared), Inv X pins σ H s → wpAny (model X.prog X.w) X.A (isTrue e X.env whole) (TP X pins σ Q) X.xe s
section
variable {X : Cx} {e : Expr} {es : List Expr} {σ : L2.St} {H : Hp}
theorem pe_rd : PE X e (RdE X e) := ⟨fun pins s _ _ _ I h => h pins s I⟩
theorem pa_rd : PA X es (RdA X es) := ⟨fun pos pins s _ _ _ I h => h pos pins s I⟩
theorem pt_rd : PT X e (RdT X e) := ⟨fun pins s _ _ _ I h => h pins s I⟩
theorem pw_rd : PW X e (RdW X e) := ⟨fun wh pins s _ _ _ I h => h wh pins s I⟩
theorem rdE {t : TE} {Q : VK} (h : PE X e t) (q : t σ H Q) : RdE X e σ H Q := fun pins s I => h.run pins s σ H Q I q
theorem rdA {t : TA} {Q : List V → Hp → Prop} (h : PA X es t) (q : t σ H Q) : RdA X es σ H Q := fun pos pins s I => h.run pos pins s σ H Q I q
theorem rdT {t : TT} {Q : Bool → Hp → Prop} (h : PT X e t) (q : t σ H Q) : RdT X e σ H Q := fun pins s I => h.run pins s σ H Q I q
theorem rdW {t : TT} {Q : Bool → Hp → Prop} (h : PW X e t) (q : t σ H Q) : RdW X e σ H Q := fun wh pins s I => h.run wh pins s σ H Q I q
end

structure GX where
  cls : Nat → Addr
  fld : Nat → Str
  TB : List (Addr × Str)
section
variable (G : GX) (K : PySem.W.Frag) (W : WX)
def ErrW (σ : L2.St) (T : Tg) (al : List Addr) (H : Hp) (c : Nat) (x : D) (st : St) : Prop :=
  ∀ (dx : Addr) (v : V) (T' : Tg) (al' : List Addr) (H' : Hp), Ext T al H T' al' H' → WI K G.TB T' al' st H' → H dx = none → H' dx = some (.xd [(G.fld c, v)]) → Rep K (fz T' H') al' v x → W (.ref (G.cls c)) (some dx) σ H'
/-- Rp: how the value lies, from the heap ahead -/
def Post {b u : Type} (Rp : Hp → Tg → List Addr → Hp → u → b → Prop) (σ : L2.St) (T : Tg) (al : List Addr) (H : Hp) (Q : u → Hp → Prop) : Res b → Prop
  | .ok x st => ∀ (v : u) (T' : Tg) (al' : List Addr) (H' : Hp), Ext T al H T' al' H' → WI K G.TB T' al' st H' → Rp H T' al' H' v x → Q v H'
  | .err c x st => ErrW G K W σ T al H c x st
  | .bad => False
end
section
variable {G : GX} {K : PySem.W.Frag} {W : WX} {σ : L2.St} {T T1 : Tg} {al al1 : List Addr} {H H1 : Hp}
theorem ErrW.ext {c : Nat} {x : D} {st : St} (h : ErrW G K W σ T al H c x st) (e : Ext T al H T1 al1 H1) : ErrW G K W σ T1 al1 H1 c x st := fun dx v T' al' H' e' w n hd r =>
  h dx v T' al' H' (e.trans e') w (e.free n) hd r
/-- how a value lies does not get worse where the heap ahead was smaller -/
def Back {b u : Type} (Rp : Hp → Tg → List Addr → Hp → u → b → Prop) : Prop := ∀ (H H1 : Hp) (T' : Tg) (al' : List Addr) (H' : Hp) (v : u) (x : b), (∀ a, H1 a = none → H a = none) → Rp H1 T' al' H' v x → Rp H T' al' H' v x
theorem Post.ext {b u : Type} {Rp : Hp → Tg → List Addr → Hp → u → b → Prop} {Q : u → Hp → Prop} {r : Res b} (hb : Back Rp) (h : Post G K W Rp σ T al H Q r) (e : Ext T al H T1 al1 H1) : Post G K W Rp σ T1 al1 H1 Q r := by
  cases r with
  | ok x st => exact fun v T' al' H' e' w q => h v T' al' H' (e.trans e') w (hb H H1 T' al' H' v x (fun a n => e.free n) q)
  | err c x st => exact ErrW.ext h e
  | bad => exact h
end
def RpD (K : PySem.W.Frag) : Hp → Tg → List Addr → Hp → V → D → Prop := fun _ T al H v x => Rep K (fz T H) al v x
def RpH (K : PySem.W.Frag) : Hp → Tg → List Addr → Hp → V → D → Prop := fun _ T al H v x => RepH K T al H v x
def RpN (K : PySem.W.Frag) : Hp → Tg → List Addr → Hp → V → List D → Prop := fun H0 T al H v xs => ∃ p vs, v = .ref p ∧ H0 p = none ∧ T p = none ∧ H p = some (.lst vs) ∧ RepAll K (fz T H) al vs xs
def RpB : Hp → Tg → List Addr → Hp → Bool → Bool → Prop := fun _ _ _ _ v x => v = x
def RpL (K : PySem.W.Frag) : Hp → Tg → List Addr → Hp → List V → List D → Prop := fun _ T al H v x => RepAll K (fz T H) al v x
def RpLH (K : PySem.W.Frag) : Hp → Tg → List Addr → Hp → List V → List D → Prop := fun _ T al H v x => Paired (RepH K T al H) v x
theorem back_D {K : PySem.W.Frag} : Back (RpD K) := fun _ _ _ _ _ _ _ _ h => h
theorem back_H {K : PySem.W.Frag} : Back (RpH K) := fun _ _ _ _ _ _ _ _ h => h
theorem back_B : Back RpB := fun _ _ _ _ _ _ _ _ h => h
theorem back_L {K : PySem.W.Frag} : Back (RpL K) := fun _ _ _ _ _ _ _ _ h => h
theorem back_LH {K : PySem.W.Frag} : Back (RpLH K) := fun _ _ _ _ _ _ _ _ h => h
theorem back_N {K : PySem.W.Frag} : Back (RpN K) := fun _ _ _ _ _ _ _ f ⟨p, vs, h1, h2, h3⟩ => ⟨p, vs, h1, f p h2, h3⟩

section
variable (G : GX) (X : Cx) (W : WX) (H0 : Hp)
/-- an expression is worth f -/
def PD (e : Expr) (f : Env → Mo D) : Prop := ∀ (r : Env) (st : St) (σ : L2.St) (T : Tg) (al : List Addr) (H : Hp) (Q : VK), SL X.K H0 T al H r σ → WI X.K G.TB T al st H → Post G X.K W (RpD X.K) σ T al H Q (f r st) → RdE X e σ H Q
/-- .. read at once -/
def PH (e : Expr) (f : Env → Mo D) : Prop := ∀ (r : Env) (st : St) (σ : L2.St) (T : Tg) (al : List Addr) (H : Hp) (Q : VK), SL X.K H0 T al H r σ → WI X.K G.TB T al st H → Post G X.K W (RpH X.K) σ T al H Q (f r st) → RdE X e σ H Q
/-- .. a new list -/
def PN (e : Expr) (f : Env → Mo (List D)) : Prop := ∀ (r : Env) (st : St) (σ : L2.St) (T : Tg) (al : List Addr) (H : Hp) (Q : VK), SL X.K H0 T al H r σ → WI X.K G.TB T al st H → Post G X.K W (RpN X.K) σ T al H Q (f r st) → RdE X e σ H Q
/-- a test -/
def PB (e : Expr) (f : Env → Mo Bool) : Prop := ∀ (r : Env) (st : St) (σ : L2.St) (T : Tg) (al : List Addr) (H : Hp) (Q : Bool → Hp → Prop), SL X.K H0 T al H r σ → WI X.K G.TB T al st H → Post G X.K W RpB σ T al H Q (f r st) → RdT X e σ H Q
def PBW (e : Expr) (f : Env → Mo Bool) : Prop := ∀ (r : Env) (st : St) (σ : L2.St) (T : Tg) (al : List Addr) (H : Hp) (Q : Bool → Hp → Prop), SL X.K H0 T al H r σ → WI X.K G.TB T al st H → Post G X.K W RpB σ T al H Q (f r st) → RdW X e σ H Q
/-- arguments -/
def PL (es : List Expr) (f : Env → Mo (List D)) : Prop := ∀ (r : Env) (st : St) (σ : L2.St) (T : Tg) (al : List Addr) (H : Hp) (Q : List V → Hp → Prop), SL X.K H0 T al H r σ → WI X.K G.TB T al st H → Post G X.K W (RpL X.K) σ T al H Q (f r st) → RdA X es σ H Q
def PLH (es : List Expr) (f : Env → Mo (List D)) : Prop := ∀ (r : Env) (st : St) (σ : L2.St) (T : Tg) (al : List Addr) (H : Hp) (Q : List V → Hp → Prop), SL X.K H0 T al H r σ → WI X.K G.TB T al st H → Post G X.K W (RpLH X.K) σ T al H Q (f r st) → RdA X es σ H Q
end
section
variable {G : GX} {X : Cx} {W : WX} {H0 : Hp}
/-- a part is evaluated, then what follows: k has the value, the world behind -/
theorem seqP {b u c w : Type} {Rp : Hp → Tg → List Addr → Hp → u → b → Prop} {Rq : Hp → Tg → List Addr → Hp → w → c → Prop} (hq : Back Rq) {f : Mo b} {g : b → Mo c} {st : St} {σ : L2.St} {T : Tg} {al : List Addr} {H : Hp} {Q : w → Hp → Prop} {Q1 : u → Hp → Prop}
    (h : Post G X.K W Rq σ T al H Q ((f >>= g) st))
    (k : ∀ (x : b) (st1 : St) (v : u) (T1 : Tg) (al1 : List Addr) (H1 : Hp), f st = .ok x st1 → Ext T al H T1 al1 H1 → WI X.K G.TB T1 al1 st1 H1 → Rp H T1 al1 H1 v x → Post G X.K W Rq σ T1 al1 H1 Q (g x st1) → Q1 v H1) :
    Post G X.K W Rp σ T al H Q1 (f st) := by
  rw [bind_ap] at h
  cases e : f st with
  | ok x st1 =>
    rw [e] at h
    exact fun v T1 al1 H1 x1 w1 r1 => k x st1 v T1 al1 H1 e x1 w1 r1 (Post.ext hq h x1)
  | err c x st1 =>
    rw [e] at h
    exact h
  | bad =>
    rw [e] at h
    exact h
variable {e : Expr}
theorem PD.toH {f : Env → Mo D} (h : PD G X W H0 e f) : PH G X W H0 e f := fun r st σ T al H Q S w q => h r st σ T al H Q S w (by
  cases z : f r st with
  | ok x st1 =>
    rw [z] at q
    exact fun v T1 al1 H1 x1 w1 r1 => q v T1 al1 H1 x1 w1 (Rep.toH r1)
  | err c x st1 => rw [z] at q; exact q
  | bad => rw [z] at q; exact q)
/-- a new list that stands still from now on -/
def nFz (f : Env → Mo (List D)) : Env → Mo D := fun r => f r >>= fun xs => pure (.lst xs)
theorem PN.toD {f : Env → Mo (List D)} (h : PN G X W H0 e f) : PD G X W H0 e (nFz f) := fun r st σ T al H Q S w q => h r st σ T al H Q S w (by
  refine seqP back_D q fun xs st1 v T1 al1 H1 ex x1 w1 r1 q1 => ?_
  obtain ⟨p, vs, rfl, n0, tp, hp, rs⟩ := r1
  have q2 : Post G X.K W (RpD X.K) σ T al H Q (.ok (.lst xs) st1) := by
    have : (nFz f) r st = .ok (.lst xs) st1 := by
      show (f r >>= _) st = _
      rw [bind_ap, ex]
      rfl
    rw [this] at q
    exact q
  refine q2 (.ref p) (tset T1 p .frz) al1 H1 (x1.retag n0 _) (w1.tag (by rw [tp]; decide) (by rw [tp]; decide) hp) ?_
  exact .lst (fz_of tset_same hp) (rs.mono (fz_tset (by rw [tp]; decide)) ⟨[], by simp⟩))
end
end Pi
namespace Pi
open PySem PySem.Spec PyProof.Rows L2

def eVar (i : Nat) : Env → Mo D := fun r st => match r[i]? with
  | some (some (.d x)) => .ok x st
  | _ => .bad
/-- read at once -/
def hVar (i : Nat) : Env → Mo D := fun r st => match r[i]? with
  | some (some (.d x)) => .ok x st
  | some (some (.own xs)) => .ok (.lst xs) st
  | _ => .bad
def eC (x : D) : Env → Mo D := fun _ => pure x
def aNil : Env → Mo (List D) := fun _ => pure []
def aCons (f : Env → Mo D) (g : Env → Mo (List D)) : Env → Mo (List D) := fun r => f r >>= fun x => g r >>= fun xs => pure (x :: xs)
def lim {b : Type} (n : Nat) (x : b) : Mo b := fun st => match Nat.ble n 16777216 with
  | true => .ok x st
  | false => .bad
def eTup (f : Env → Mo (List D)) : Env → Mo D := fun r => f r >>= fun xs => lim xs.length (.tup xs)
def nLst (f : Env → Mo (List D)) : Env → Mo (List D) := fun r => f r >>= fun xs => lim xs.length xs
def eBin (o : D → D → Option D) (f g : Env → Mo D) : Env → Mo D := fun r => f r >>= fun x => g r >>= fun y => Mo.opt (o x y)
def eUn (o : D → Option D) (f : Env → Mo D) : Env → Mo D := fun r => f r >>= fun x => Mo.opt (o x)
def bNot (f : Env → Mo Bool) : Env → Mo Bool := fun r => f r >>= fun x => pure (!x)
def bAnd (f g : Env → Mo Bool) : Env → Mo Bool := fun r => f r >>= fun x => match x with
  | true => g r
  | false => pure false
def bOr (f g : Env → Mo Bool) : Env → Mo Bool := fun r => f r >>= fun x => match x with
  | true => pure true
  | false => g r
def eIf {b : Type} (c : Env → Mo Bool) (f g : Env → Mo b) : Env → Mo b := fun r => c r >>= fun x => match x with
  | true => f r
  | false => g r
/-- a value as a test -/
def D.truth : D → Option Bool
  | .non => some false
  | .bl b => some b
  | .int i => some (i != 0)
  | .str x => match Nat.ble x.length 16777216 with
    | true => some ((x.length : Int) != 0)
    | false => none
  | .tup xs => some (!xs.isEmpty)
  | .lst xs => some (!xs.isEmpty)
  | .dct xs => some (!xs.isEmpty)
  | .obj _ => none
  | .exc _ _ _ => none
  | .ktp xs => some (!xs.isEmpty)
  | .kls _ => none
def bTru (f : Env → Mo D) : Env → Mo Bool := fun r => f r >>= fun x => Mo.opt x.truth
/-- True and False as values, of a test -/
def eBl (f : Env → Mo Bool) : Env → Mo D := fun r => f r >>= fun x => pure (.bl x)

theorem line_is : sizeLine = 16777216 := sizeLine_eq
theorem lim_ok {b : Type} {n : Nat} {x y : b} {st st1 : St} (h : lim n x st = .ok y st1) : n ≤ sizeLine ∧ y = x ∧ st1 = st := by
  unfold lim at h
  cases e : Nat.ble n 16777216 with
  | true =>
    rw [e] at h
    injection h with h1 h2
    rw [line_is]
    exact ⟨Nat.le_of_ble_eq_true e, h1.symm, h2.symm⟩
  | false =>
    rw [e] at h
    cases h
section
variable {G : GX} {X : Cx} {W : WX} {H0 : Hp}
variable {e a b c : Expr} {es : List Expr} {pos : Pos}

theorem pd_var {i : Nat} {x : Str} (hN : X.N[i]? = some x := by rfl) (hv : Vis X.env.scope x := by first | exact Or.inl rfl | exact Or.inr (Or.inl rfl) | exact Or.inr (Or.inr rfl)) (hd : (x == ("__debug__" : Str)) = false := by decide)
    (hcd : (x == ("__classdict__" : Str)) = false := by decide) : PD G X W H0 (.Name x pos) (eVar i) := by
  intro r st σ T al H Q S w q
  unfold eVar at q
  split at q
  · rename_i y hy
    obtain ⟨v, h1, h2⟩ := S.at_ i _ hy
    exact rdE (pe_var hN hv hd hcd) ⟨v, h1, q v T al H .refl w h2⟩
  · exact q.elim
theorem ph_var {i : Nat} {x : Str} (hN : X.N[i]? = some x := by rfl) (hv : Vis X.env.scope x := by first | exact Or.inl rfl | exact Or.inr (Or.inl rfl) | exact Or.inr (Or.inr rfl)) (hd : (x == ("__debug__" : Str)) = false := by decide)
    (hcd : (x == ("__classdict__" : Str)) = false := by decide) : PH G X W H0 (.Name x pos) (hVar i) := by
  intro r st σ T al H Q S w q
  unfold hVar at q
  split at q
  · rename_i y hy
    obtain ⟨v, h1, h2⟩ := S.at_ i _ hy
    exact rdE (pe_var hN hv hd hcd) ⟨v, h1, q v T al H .refl w (Rep.toH h2)⟩
  · rename_i y hy
    obtain ⟨v, h1, h2⟩ := S.at_ i _ hy
    obtain ⟨l, vs, rfl, ht, _, hl, rs⟩ := h2
    exact rdE (pe_var hN hv hd hcd) ⟨_, h1, q _ T al H .refl w ⟨l, vs, rfl, nw_of (by rw [ht]; decide) hl, rs⟩⟩
  · exact q.elim
theorem pd_c {x : D} {v : V} (h : PE X e (tC v)) (hr : ∀ F al, Rep X.K F al v x) : PD G X W H0 e (eC x) := fun r st σ T al H Q S w q =>
  rdE h (q v T al H .refl w (hr _ _))
theorem pd_int {i j} : PD G X W H0 (.Constant (.int i) j pos) (eC (.int i)) := pd_c pe_int fun _ _ => .int i
theorem pd_bl {i j} : PD G X W H0 (.Constant (.bool i) j pos) (eC (.bl i)) := pd_c pe_bl fun _ _ => .bl i
theorem pd_str {i j} : PD G X W H0 (.Constant (.str i) j pos) (eC (.str i)) := pd_c pe_str fun _ _ => .str i
theorem pd_non {j} : PD G X W H0 (.Constant .none j pos) (eC .non) := pd_c pe_non fun _ _ => .non

theorem pl_nil : PL G X W H0 [] aNil := fun r st σ T al H Q S w q => rdA pa_nil (q [] T al H .refl w .nil)
theorem pl_cons {f : Env → Mo D} {g : Env → Mo (List D)} (ha : PD G X W H0 e f) (hr : PL G X W H0 es g) (hs : starEach (e :: es) X.env = (false, eval e X.env) :: starEach es X.env := by rfl) : PL G X W H0 (e :: es) (aCons f g) := by
  intro r st σ T al H Q S w q
  refine rdA (pa_cons pe_rd pa_rd hs) (ha r st σ T al H _ S w (seqP back_L q fun x st1 v T1 al1 H1 _ x1 w1 r1 q1 => ?_))
  refine hr r st1 σ T1 al1 H1 _ (S.ext x1) w1 (seqP back_L q1 fun xs st2 vs T2 al2 H2 _ x2 w2 r2 q2 => ?_)
  exact q2 (v :: vs) T2 al2 H2 .refl w2 (.cons (r1.ext x2) r2)
theorem plh_nil : PLH G X W H0 [] aNil := fun r st σ T al H Q S w q => rdA pa_nil (q [] T al H .refl w .nil)
theorem plh_cons {f : Env → Mo D} {g : Env → Mo (List D)} (ha : PH G X W H0 e f) (hr : PLH G X W H0 es g) (hs : starEach (e :: es) X.env = (false, eval e X.env) :: starEach es X.env := by rfl) : PLH G X W H0 (e :: es) (aCons f g) := by
  intro r st σ T al H Q S w q
  refine rdA (pa_cons pe_rd pa_rd hs) (ha r st σ T al H _ S w (seqP back_LH q fun x st1 v T1 al1 H1 _ x1 w1 r1 q1 => ?_))
  refine hr r st1 σ T1 al1 H1 _ (S.ext x1) w1 (seqP back_LH q1 fun xs st2 vs T2 al2 H2 _ x2 w2 r2 q2 => ?_)
  exact q2 (v :: vs) T2 al2 H2 .refl w2 (.cons (RepH.ext r1 x2) r2)
theorem pd_tup {f : Env → Mo (List D)} {x1} (h : PL G X W H0 es f) : PD G X W H0 (.Tuple es x1 pos) (eTup f) := by
  intro r st σ T al H Q S w q
  refine rdE (pe_tup pa_rd) (h r st σ T al H _ S w (seqP back_D q fun xs st1 vs T1 al1 H1 _ x1 w1 r1 q1 => ?_))
  cases e : lim xs.length (D.tup xs) st1 with
  | ok y st2 =>
    rw [e] at q1
    obtain ⟨hl, rfl, rfl⟩ := lim_ok e
    refine ⟨by rw [r1.length]; exact hl, fun p n => ?_⟩
    have n' := w1.free n
    refine q1 (.ref p) (tset T1 p .frz) al1 _ (Ext.laid n .frz) ((w1.laid n).tag (by rw [n']; decide) (by rw [n']; decide) upd_same) ?_
    exact .tup (fz_of tset_same upd_same) (RepAll.ext r1 (Ext.laid n .frz))
  | err c x st2 =>
    unfold lim at e
    split at e <;> cases e
  | bad =>
    rw [e] at q1
    exact q1.elim
theorem pn_lst {f : Env → Mo (List D)} (h : PL G X W H0 es f) : PN G X W H0 (.List es pos) (nLst f) := by
  intro r st σ T al H Q S w q
  refine rdE (pe_lst pa_rd) (h r st σ T al H _ S w (seqP back_N q fun xs st1 vs T1 al1 H1 _ x1 w1 r1 q1 => ?_))
  cases e : lim xs.length xs st1 with
  | ok y st2 =>
    rw [e] at q1
    obtain ⟨hl, rfl, rfl⟩ := lim_ok e
    refine ⟨by rw [r1.length]; exact hl, fun p n => ?_⟩
    have n' := w1.free n
    exact q1 (.ref p) T1 al1 _ (Ext.laid0 n) (w1.laid n) ⟨p, vs, rfl, n, n', upd_same, RepAll.ext r1 (Ext.laid0 n)⟩
  | err c x st2 =>
    unfold lim at e
    split at e <;> cases e
  | bad =>
    rw [e] at q1
    exact q1.elim

/-- how an operator f on values goes: o what it is worth; the operands are read at once -/
def BinR (G : GX) (X : Cx) (f : Value → Value → Sem Value) (o : D → D → Option D) : Prop :=
  ∀ (x y z : D), o x y = some z → ∀ (pins : List (Addr × Obj)) (s : Shared) (σ : L2.St) (st : St) (T : Tg) (al : List Addr) (H : Hp) (v u : V) (vv uu : Value) (Q : VK), Inv X pins σ H s → WI X.K G.TB T al st H → RepH X.K T al H v x → RepH X.K T al H u y → RelV v vv → RelV u uu →
    (∀ (t : V) (T' : Tg) (al' : List Addr) (H' : Hp), Ext T al H T' al' H' → WI X.K G.TB T' al' st H' → Rep X.K (fz T' H') al' t z → Q t H') → wpAny (model X.prog X.w) X.A (f vv uu) (EP X pins σ Q) X.xe s
theorem opt_ok {b : Type} {o : Option b} {y : b} {st st1 : St} (h : Mo.opt o st = .ok y st1) : o = some y ∧ st1 = st := by
  cases o with
  | none => cases h
  | some x =>
    have h' : Res.ok x st = .ok y st1 := h
    injection h' with h1 h2
    exact ⟨by rw [h1], h2.symm⟩
theorem opt_no {b : Type} {o : Option b} {y : D} {c : Nat} {st st1 : St} (h : Mo.opt o st = .err c y st1) : False := by
  cases o with
  | none => cases h
  | some x =>
    have h' : Res.ok x st = .err c y st1 := h
    cases h'
/-- what follows an answer that may lack -/
theorem optP {b u : Type} {Rp : Hp → Tg → List Addr → Hp → u → b → Prop} {o : Option b} {st : St} {σ : L2.St} {T : Tg} {al : List Addr} {H : Hp} {Q : u → Hp → Prop} {P : Prop} (q : Post G X.K W Rp σ T al H Q (Mo.opt o st)) (h : ∀ y, o = some y → Post G X.K W Rp σ T al H Q (.ok y st) → P) : P := by
  cases o with
  | none => exact q.elim
  | some y => exact h y rfl q
theorem pd_bin {op : Operator} {o : D → D → Option D} {f g : Env → Mo D} (hr : BinR G X (binaryOp op) o) (ha : PH G X W H0 a f) (hb : PH G X W H0 b g) : PD G X W H0 (.BinOp a op b pos) (eBin o f g) := by
  intro r st σ T al H Q S w q pins s I
  refine wpAny_BinOp (binT (R := fun x y H' => ∀ pins s vv uu, Inv X pins σ H' s → RelV x vv → RelV y uu → wpAny (model X.prog X.w) X.A (binaryOp op vv uu) (EP X pins σ Q) X.xe s) pe_rd pe_rd I ?_ fun v u s2 x y H2 I2 rx ry q => q pins s2 v u I2 rx ry)
  refine ha r st σ T al H _ S w (seqP back_D q fun x st1 v T1 al1 H1 _ x1 w1 r1 q1 => ?_)
  refine hb r st1 σ T1 al1 H1 _ (S.ext x1) w1 (seqP back_D q1 fun y st2 u T2 al2 H2 _ x2 w2 r2 q2 => ?_)
  intro pins s vv uu I rv ru
  exact optP q2 fun z hz q3 => hr x y z hz pins s σ st2 T2 al2 H2 v u vv uu Q I w2 (RepH.ext r1 x2) r2 rv ru fun t T' al' H' e w' rt => q3 t T' al' H' e w' rt
/-- a rule that leaves the heap as it was -/
theorem binR_of {f : Value → Value → Sem Value} {o : D → D → Option D} (h : ∀ (x y z : D), o x y = some z → ∃ r : R2, OpR X f r ∧ ∀ (st : St) (T : Tg) (al : List Addr) (H : Hp) (v u : V) (Q : VK), WI X.K G.TB T al st H → RepH X.K T al H v x → RepH X.K T al H u y →
    (∀ (t : V) (T' : Tg) (al' : List Addr) (H' : Hp), Ext T al H T' al' H' → WI X.K G.TB T' al' st H' → Rep X.K (fz T' H') al' t z → Q t H') → r v u H Q) : BinR G X f o := by
  intro x y z hz pins s σ st T al H v u vv uu Q I w rx ry rv ru q
  obtain ⟨r, ho, hr⟩ := h x y z hz
  exact ho pins s σ H v u vv uu Q I rv ru (hr st T al H v u Q w rx ry q)
theorem rep_int {K : PySem.W.Frag} {F : Hp} {al : List Addr} {v : V} {i : Int} (h : Rep K F al v (.int i)) : v = .int i := by
  cases h
  rfl
theorem rep_bl {K : PySem.W.Frag} {F : Hp} {al : List Addr} {v : V} {i : Bool} (h : Rep K F al v (.bl i)) : v = .bl i := by
  cases h
  rfl
theorem rep_str {K : PySem.W.Frag} {F : Hp} {al : List Addr} {v : V} {i : Str} (h : Rep K F al v (.str i)) : v = .str i := by
  cases h
  rfl
theorem rep_non {K : PySem.W.Frag} {F : Hp} {al : List Addr} {v : V} (h : Rep K F al v .non) : v = .non := by
  cases h
  rfl
theorem rep_tup {K : PySem.W.Frag} {F : Hp} {al : List Addr} {v : V} {ds : List D} (h : Rep K F al v (.tup ds)) : ∃ a xs, v = .ref a ∧ SqT K F a xs ∧ RepAll K F al xs ds := by
  cases h with
  | tup h r => exact ⟨_, _, rfl, .inl (.inl h), r⟩
theorem rep_tupP {K : PySem.W.Frag} {F : Hp} {al : List Addr} {v : V} {ds : List D} (h : Rep K F al v (.tup ds)) : ∃ a xs, v = .ref a ∧ F a = some (.tup xs) ∧ RepAll K F al xs ds := by
  cases h with
  | tup h r => exact ⟨_, _, rfl, h, r⟩
theorem rep_kls {K : PySem.W.Frag} {F : Hp} {al : List Addr} {v : V} {ds : List D} (h : Rep K F al v (.kls ds)) : ∃ a xs, v = .ref a ∧ SqL K F a xs ∧ RepAll K F al xs ds := by
  cases h with
  | kls h r => exact ⟨_, _, rfl, h, r⟩
theorem rep_ktp {K : PySem.W.Frag} {F : Hp} {al : List Addr} {v : V} {ds : List D} (h : Rep K F al v (.ktp ds)) : ∃ a xs, v = .ref a ∧ SqT K (fun _ => none) a xs ∧ RepAll K F al xs ds := by
  cases h with
  | ktp h r => exact ⟨_, _, rfl, h, r⟩
theorem rep_lst {K : PySem.W.Frag} {F : Hp} {al : List Addr} {v : V} {ds : List D} (h : Rep K F al v (.lst ds)) : ∃ a xs, v = .ref a ∧ F a = some (.lst xs) ∧ RepAll K F al xs ds := by
  cases h with
  | lst h r => exact ⟨_, _, rfl, h, r⟩
theorem rep_dct {K : PySem.W.Frag} {F : Hp} {al : List Addr} {v : V} {ds : List (Key × D)} (h : Rep K F al v (.dct ds)) : ∃ a xs, v = .ref a ∧ F a = some (.dK xs) ∧ RepKv K F al xs ds := by
  cases h with
  | dct h r => exact ⟨_, _, rfl, h, r⟩

theorem pb_not {f : Env → Mo Bool} (h : PB G X W H0 a f) : PB G X W H0 (.UnaryOp .Not a pos) (bNot f) := by
  intro r st σ T al H Q S w q
  refine rdT (pt_not pt_rd) (h r st σ T al H _ S w (seqP back_B q fun x st1 v T1 al1 H1 _ x1 w1 r1 q1 => ?_))
  cases r1
  exact q1 (!x) T1 al1 H1 .refl w1 rfl
theorem PBW.pb {f : Env → Mo Bool} (h : PBW G X W H0 e f) : PB G X W H0 e f := fun r st σ T al H Q S w q => rdT pw_rd.pt (h r st σ T al H Q S w q)
variable {rest : List Expr}
theorem pb_and1 {f : Env → Mo Bool} (h : PB G X W H0 a f) : PBW G X W H0 (.BoolOp .And [a] pos) f := fun r st σ T al H Q S w q => rdW (pw_and1 pt_rd) (h r st σ T al H Q S w q)
theorem pb_or1 {f : Env → Mo Bool} (h : PB G X W H0 a f) : PBW G X W H0 (.BoolOp .Or [a] pos) f := fun r st σ T al H Q S w q => rdW (pw_or1 pt_rd) (h r st σ T al H Q S w q)
theorem pb_and {f g : Env → Mo Bool} (ha : PB G X W H0 a f) (hb : PBW G X W H0 (.BoolOp .And (b :: rest) pos) g) : PBW G X W H0 (.BoolOp .And (a :: b :: rest) pos) (bAnd f g) := by
  intro r st σ T al H Q S w q
  refine rdW (pw_and pt_rd pw_rd) (ha r st σ T al H _ S w (seqP back_B q fun x st1 v T1 al1 H1 _ x1 w1 r1 q1 => ?_))
  cases r1
  cases x with
  | true => exact iteT (hb r st1 σ T1 al1 H1 Q (S.ext x1) w1 q1)
  | false => exact iteF (q1 false T1 al1 H1 .refl w1 rfl)
theorem pb_or {f g : Env → Mo Bool} (ha : PB G X W H0 a f) (hb : PBW G X W H0 (.BoolOp .Or (b :: rest) pos) g) : PBW G X W H0 (.BoolOp .Or (a :: b :: rest) pos) (bOr f g) := by
  intro r st σ T al H Q S w q
  refine rdW (pw_or pt_rd pw_rd) (ha r st σ T al H _ S w (seqP back_B q fun x st1 v T1 al1 H1 _ x1 w1 r1 q1 => ?_))
  cases r1
  cases x with
  | true => exact iteT (q1 true T1 al1 H1 .refl w1 rfl)
  | false => exact iteF (hb r st1 σ T1 al1 H1 Q (S.ext x1) w1 q1)
theorem truV_of {K : PySem.W.Frag} {T : Tg} {al : List Addr} {H : Hp} {v : V} {x : D} {k : Bool} (h : RepH K T al H v x) (e : x.truth = some k) : TruV K v H k := by
  cases x with
  | non => rw [rep_non h]; exact (Option.some.inj e).symm
  | bl b => rw [rep_bl h]; exact (Option.some.inj e).symm
  | int i => rw [rep_int h]; exact (Option.some.inj e).symm
  | str x =>
    rw [rep_str h]
    unfold D.truth at e
    dsimp only at e
    cases z : Nat.ble x.length 16777216 with
    | true =>
      rw [z] at e
      exact ⟨by rw [line_is]; exact Nat.le_of_ble_eq_true z, (Option.some.inj e).symm⟩
    | false => rw [z] at e; cases e
  | tup ds =>
    obtain ⟨a, xs, rfl, hs, rs⟩ := rep_tup h
    refine .inr (.inl ⟨xs, Same.seqT fz_same hs, ?_⟩)
    rw [← Option.some.inj e]
    cases rs <;> rfl
  | lst ds =>
    obtain ⟨a, xs, rfl, hs, rs⟩ := h
    refine .inl ⟨xs, .inl (.inl (nw_same _ _ hs)), ?_⟩
    rw [← Option.some.inj e]
    cases rs <;> rfl
  | dct ds =>
    obtain ⟨a, xs, rfl, hs, rs⟩ := rep_dct h
    refine .inr (.inr ⟨xs, (fz_some hs).2, ?_⟩)
    rw [← Option.some.inj e]
    cases rs <;> rfl
  | obj n => cases e
  | exc n f x => cases e
  | kls ds => cases e
  | ktp ds =>
    obtain ⟨a, xs, rfl, hs, rs⟩ := rep_ktp h
    refine .inr (.inl ⟨xs, sqT_k hs, ?_⟩)
    rw [← Option.some.inj e]
    cases rs <;> rfl
theorem pb_tru {f : Env → Mo D} (h : PH G X W H0 a f) (he : ∀ whole, isTrue a X.env whole = (do let v ← whole; standAt a.pos; holding [v] (truthy v)) := by intro _; rfl) : PB G X W H0 a (bTru f) := by
  intro r st σ T al H Q S w q
  refine rdT (pt_truth pe_rd he) (h r st σ T al H _ S w (seqP back_B q fun x st1 v T1 al1 H1 _ x1 w1 r1 q1 => ?_))
  exact optP q1 fun k hk q2 => ⟨k, truV_of r1 hk, q2 k T1 al1 H1 .refl w1 rfl⟩
theorem pd_if {c : Expr} {t : Env → Mo Bool} {f g : Env → Mo D} (hc : PB G X W H0 c t) (ha : PD G X W H0 a f) (hb : PD G X W H0 b g) : PD G X W H0 (.IfExp c a b pos) (eIf t f g) := by
  intro r st σ T al H Q S w q
  refine rdE (pe_ifExp pt_rd pe_rd pe_rd) (hc r st σ T al H _ S w (seqP back_D q fun x st1 v T1 al1 H1 _ x1 w1 r1 q1 => ?_))
  cases r1
  cases x with
  | true => exact iteT (ha r st1 σ T1 al1 H1 Q (S.ext x1) w1 q1)
  | false => exact iteF (hb r st1 σ T1 al1 H1 Q (S.ext x1) w1 q1)
end
end Pi
namespace Pi
open PySem PySem.Spec PyProof.Rows L2

/-- what the context tells beside the rules -/
structure COk (X : Cx) : Prop where
  gd : X.A.guards = some []
  un : X.A.units + 200 < cLine
  sys : ∃ o, X.K.lookup sysModules = some o

section
variable {X : Cx} {pins : List (Addr × Obj)} {σ : L2.St} {H F : Hp} {s : Shared} {al : List Addr}
theorem sys_ne (I : Inv X pins σ H s) (ok : COk X) {a : Addr} {o : HO} (h : H a = some o) : a ≠ sysModules := fun z => by
  obtain ⟨o', e⟩ := ok.sys
  have q := I.bs sysModules o' (I.ok.mod.kin _ _ e)
  rw [z, q.2] at h
  cases h
theorem sqL_sys (I : Inv X pins σ H s) (ok : COk X) {a : Addr} {xs : List V} (h : SqL X.K H a xs) : a ≠ sysModules ∨ ∃ o, X.K.lookup a = some o ∧ o.cls = .type "list" := by
  rcases h with (h | ⟨o, h⟩) | ⟨o, its, n, h, hc, _⟩
  · exact .inl (sys_ne I ok h)
  · exact .inl (sys_ne I ok h)
  · exact .inr ⟨o, h, hc⟩
/-- no list that is read is the table of modules -/
structure NoSys (K : PySem.W.Frag) : Prop where
  no : ∀ o, K.lookup sysModules = some o → o.cls ≠ .type "list"
theorem sqL_ne (I : Inv X pins σ H s) (ok : COk X) (ns : NoSys X.K) {a : Addr} {xs : List V} (h : SqL X.K H a xs) : a ≠ sysModules := by
  rcases sqL_sys I ok h with z | ⟨o, e, c⟩
  · exact z
  · intro z
    rw [z] at e
    exact ns.no o e c
mutual
theorem Rep.reads (I : Inv X pins σ H s) (ok : COk X) (ns : NoSys X.K) (hF : Same F H) : ∀ (d : D) (v : V) (u : Value), d.still = true → Rep X.K F al v d → RelV v u → ∃ as, Reads s.heap u d.py as ∧ sysModules ∉ as
  | .non, _, _, _, h, r => by
    cases h
    cases r
    exact ⟨_, by rw [D.py]; exact Reads.none, by simp⟩
  | .bl b, _, _, _, h, r => by
    cases h
    cases r
    exact ⟨_, by rw [D.py]; exact Reads.bool b, by simp⟩
  | .int i, _, _, _, h, r => by
    cases h
    obtain ⟨t, rfl⟩ := r
    exact ⟨_, by rw [D.py]; exact Reads.int i t, by simp⟩
  | .str x, _, _, _, h, r => by
    cases h
    obtain ⟨t, rfl⟩ := r
    exact ⟨_, by rw [D.py]; exact Reads.str x t, by simp⟩
  | .lst ds, _, _, hs, h, r => by
    cases h with
    | @lst a _ _ hl ha =>
      cases r
      have hl' : SqL X.K H _ _ := .inl (.inl (hF _ _ hl))
      obtain ⟨its, rv, ⟨o, n, ho, hc, _, hd⟩, _⟩ := I.list hl'
      obtain ⟨as, hr, hn⟩ := RepAll.reads I ok ns hF ds _ its (by simpa [D.still] using hs) ha rv
      refine ⟨_, by rw [D.py]; exact Reads.list ho hc hd hr, fun z => ?_⟩
      rcases List.mem_cons.mp z with z | z
      · exact sqL_ne I ok ns hl' z.symm
      · exact hn z
  | .tup ds, _, _, hs, h, r => by
    cases h with
    | tup hl ha =>
      cases r
      obtain ⟨its, rv, ⟨o, ho, hc, n, hd⟩, _⟩ := I.tuple (.inl (.inl (hF _ _ hl)))
      obtain ⟨as, hr, hn⟩ := RepAll.reads I ok ns hF ds _ its (by simpa [D.still] using hs) ha rv
      exact ⟨_, by rw [D.py]; exact Reads.tuple ho hc hd hr, hn⟩
  | .ktp ds, _, _, hs, h, r => by
    cases h with
    | ktp hl ha =>
      cases r
      obtain ⟨its, rv, ⟨o, ho, hc, n, hd⟩, _⟩ := I.tuple (sqT_k hl)
      obtain ⟨as, hr, hn⟩ := RepAll.reads I ok ns hF ds _ its (by simpa [D.still] using hs) ha rv
      exact ⟨_, by rw [D.py]; exact Reads.tuple ho hc hd hr, hn⟩
  | .dct ds, _, _, hs, h, r => by
    cases h with
    | @dct a kvs _ hl ha =>
      cases r
      have hH := hF _ _ hl
      obtain ⟨hz, hS, vs, rv, o, es, ep, ho, hex, hd, hko, hp, hnd⟩ : kvs.length ≤ sizeLine ∧ (a == sysModules) = false ∧ ∃ vs, KV kvs vs ∧ s.heap.DictOf (mixKind X.prog X.w) a vs := I.hok a _ hH
      obtain ⟨as, bs, h1, h2, n1, n2⟩ := RepKv.reads I ok ns hF ds kvs vs es.toList (by simpa [D.still] using hs) ha rv hp
      refine ⟨_, by rw [D.py]; exact Reads.dict ho hex.1 hd h1 h2, fun z => ?_⟩
      rcases List.mem_append.mp z with z | z
      · rcases List.mem_cons.mp z with z | z
        · rw [z] at hS
          simp at hS
        · exact n1 z
      · exact n2 z
  | .obj n, _, _, hs, _, _ => by simp [D.still] at hs
  | .exc _ _ _, _, _, hs, _, _ => by simp [D.still] at hs
theorem RepAll.reads (I : Inv X pins σ H s) (ok : COk X) (ns : NoSys X.K) (hF : Same F H) : ∀ (ds : List D) (vs : List V) (us : List Value), D.stillAll ds = true → RepAll X.K F al vs ds → Vals vs us → ∃ as, ReadsAll s.heap us (D.pyAll ds) as ∧ sysModules ∉ as
  | [], _, _, _, h, r => by
    cases h
    cases r
    exact ⟨_, by rw [D.pyAll]; exact ReadsAll.nil, by simp⟩
  | d :: ds, _, _, hs, h, r => by
    cases h with
    | cons h1 h2 =>
      cases r with
      | cons r1 r2 =>
        have hs' : d.still = true ∧ D.stillAll ds = true := by simpa [D.stillAll] using hs
        obtain ⟨as, q1, n1⟩ := Rep.reads I ok ns hF d _ _ hs'.1 h1 r1
        obtain ⟨bs, q2, n2⟩ := RepAll.reads I ok ns hF ds _ _ hs'.2 h2 r2
        exact ⟨_, by rw [D.pyAll]; exact ReadsAll.cons q1 q2, fun z => (List.mem_append.mp z).elim n1 n2⟩
theorem RepKv.reads (I : Inv X pins σ H s) (ok : COk X) (ns : NoSys X.K) (hF : Same F H) : ∀ (ds : List (Key × D)) (kvs : List (Key × V)) (vs : List (Key × Value)) (es : List DictEntry), D.stillKv ds = true → RepKv X.K F al kvs ds → KV kvs vs → Pairs (mixKind X.prog X.w) es vs →
    ∃ as bs, ReadsAll s.heap (es.map (·.key)) ((D.pyKv ds).map (·.1)) as ∧ ReadsAll s.heap (es.map (·.val)) ((D.pyKv ds).map (·.2)) bs ∧ sysModules ∉ as ∧ sysModules ∉ bs
  | [], _, _, _, _, h, r, p => by
    cases h
    cases r
    cases p
    exact ⟨_, _, by rw [D.pyKv]; exact ReadsAll.nil, by rw [D.pyKv]; exact ReadsAll.nil, by simp, by simp⟩
  | (k, d) :: ds, _, _, _, hs, h, r, p => by
    cases h with
    | cons h1 h2 =>
      cases r with
      | cons r1 r2 =>
        cases p with
        | @cons e _ _ _ p1 p2 p3 =>
          have hs' : d.still = true ∧ D.stillKv ds = true := by simpa [D.stillKv] using hs
          obtain ⟨e1, e2⟩ := r1
          rw [← p2] at e2
          rw [← e1] at p1
          obtain ⟨as, q1, n1⟩ := Rep.reads I ok ns hF d _ _ hs'.1 h1 e2
          obtain ⟨bs, cs, q2, q3, n2, n3⟩ := RepKv.reads I ok ns hF ds _ _ _ hs'.2 h2 r2 p3
          have hk : Reads s.heap e.key (keyPy k) [] := by
            rcases keyIs_shape p1 with ⟨i, t, rfl, e3⟩ | ⟨x, t, rfl, e3⟩
            · rw [e3]
              exact Reads.int i t
            · rw [e3]
              exact Reads.str x t
          refine ⟨_, _, by rw [D.pyKv]; exact ReadsAll.cons hk q2, by rw [D.pyKv]; exact ReadsAll.cons q1 q3, by simpa using n2, fun z => (List.mem_append.mp z).elim n1 n3⟩
end
theorem RepH.reads {T : Tg} (I : Inv X pins σ H s) (ok : COk X) (ns : NoSys X.K) {d : D} {v : V} {u : Value} (hs : d.still = true) (h : RepH X.K T al H v d) (r : RelV v u) : ∃ as, Reads s.heap u d.py as ∧ sysModules ∉ as := by
  cases d with
  | lst ds =>
    obtain ⟨a, xs, rfl, hl, ha⟩ := h
    cases r
    have hl' : SqL X.K H _ _ := .inl (.inl (nw_same _ _ hl))
    obtain ⟨its, rv, ⟨o, n, ho, hc, _, hd⟩, _⟩ := I.list hl'
    obtain ⟨as, hr, hn⟩ := RepAll.reads I ok ns fz_same ds _ its (by simpa [D.still] using hs) ha rv
    refine ⟨_, by rw [D.py]; exact Reads.list ho hc hd hr, fun z => ?_⟩
    rcases List.mem_cons.mp z with z | z
    · exact sqL_ne I ok ns hl' z.symm
    · exact hn z
  | _ => exact Rep.reads I ok ns fz_same _ _ _ hs h r
end
end Pi
namespace Pi
open PySem PySem.Spec PyProof.Rows L2

def guardN {b : Type} (n : Nat) (x : b) : Option b := match Nat.ble n 16777216 with
  | true => some x
  | false => none
theorem guardN_ok {b : Type} {n : Nat} {x y : b} (h : guardN n x = some y) : n ≤ sizeLine ∧ y = x := by
  unfold guardN at h
  cases e : Nat.ble n 16777216 with
  | true =>
    rw [e] at h
    rw [line_is]
    exact ⟨Nat.le_of_ble_eq_true e, (Option.some.inj h).symm⟩
  | false =>
    rw [e] at h
    cases h
def big : Int := 18446744073709551616
def smallI (i : Int) : Bool := decide (-big < i) && decide (i < big)
def oAdd : D → D → Option D
  | .int i, .int j => some (.int (i + j))
  | .str a, .str b => guardN (a.length + b.length) (.str (a ++ b))
  | .tup xs, .tup ys => guardN (xs.length + ys.length) (.tup (xs ++ ys))
  | _, _ => none
def oSub : D → D → Option D
  | .int i, .int j => some (.int (i - j))
  | _, _ => none
def oMul : D → D → Option D
  | .int i, .int j => match smallI i || smallI j with
    | true => some (.int (i * j))
    | false => none
  | .tup xs, .int k => match !xs.isEmpty && decide (2 ≤ k) && decide (k ≤ 1000) && Nat.ble xs.length 1000 with
    | true => some (.tup (List.replicate k.toNat xs).flatten)
    | false => none
  | _, _ => none
def oFdiv : D → D → Option D
  | .int i, .int j => match decide (0 < j) && decide (j < 1073741824) with
    | true => some (.int (i / j))
    | false => none
  | _, _ => none
def oMod : D → D → Option D
  | .int i, .int j => match decide (0 < j) with
    | true => some (.int (i % j))
    | false => none
  | _, _ => none
def oPow : D → D → Option D
  | .int i, .int j => match decide (0 ≤ j) && decide (j ≤ 1000) && decide (i.natAbs < 18446744073709551616) with
    | true => some (.int (i ^ j.toNat))
    | false => none
  | _, _ => none
def oNeg : D → Option D
  | .int i => some (.int (-i))
  | _ => none
/-- a tuple of whole numbers -/
def intsOf : List D → Option (List Int)
  | [] => some []
  | .int i :: r => (intsOf r).map (i :: ·)
  | _ => none
def D.ints : D → Option (List Int)
  | .tup xs => intsOf xs
  | _ => none
def oOrd (p : Int → Int → Bool) (q : List Int → List Int → Bool) : D → D → Option D
  | .int i, .int j => some (.bl (p i j))
  | .tup xs, .tup ys => match intsOf xs, intsOf ys with
    | some a, some b => some (.bl (q a b))
    | _, _ => none
  | _, _ => none
def lexI : List Int → List Int → Bool
  | [], [] => false
  | [], _ :: _ => true
  | _ :: _, [] => false
  | x :: xs, y :: ys => if x = y then lexI xs ys else decide (x < y)
def oLt := oOrd (fun i j => decide (i < j)) fun a b => lexI a b
def oLe := oOrd (fun i j => decide (i ≤ j)) fun a b => !lexI b a
def oGt := oOrd (fun i j => decide (j < i)) fun a b => lexI b a
def oGe := oOrd (fun i j => decide (j ≤ i)) fun a b => !lexI a b
def D.cmpOk (d : D) : Bool := d.still && SeqAt.shaped d.py
def oEq (x y : D) : Option D := match x.cmpOk && y.cmpOk with
  | true => some (.bl (PyData.eqv x.py y.py))
  | false => none
def oNe (x y : D) : Option D := match x.cmpOk && y.cmpOk with
  | true => some (.bl (!PyData.eqv x.py y.py))
  | false => none
def D.isNon : D → Bool
  | .non => true
  | _ => false

theorem ints_rep {K : PySem.W.Frag} {F : Hp} {al : List Addr} : ∀ {ds : List D} {vs : List V} {ns : List Int}, RepAll K F al vs ds → intsOf ds = some ns → vs = ns.map V.int
  | [], _, ns, r, e => by
    cases r
    have e' : ([] : List Int) = ns := Option.some.inj e
    rw [← e']
    rfl
  | d :: ds, _, ns, r, e => by
    cases r with
    | cons r t =>
      cases d with
      | int i =>
        have e' : (intsOf ds).map (i :: ·) = some ns := e
        obtain ⟨m, hm, hn⟩ := Option.map_eq_some_iff.mp e'
        rw [← hn, rep_int r, ints_rep t hm]
        rfl
      | _ => cases e
theorem lexAt_shift {e r : Nat → Bool} {z : Bool} : ∀ (k i : Nat), Ob.lexAt e r z (i + 1) k = Ob.lexAt (fun j => e (j + 1)) (fun j => r (j + 1)) z i k
  | 0, _ => rfl
  | k + 1, i => by
    rw [Ob.lexAt_succ, Ob.lexAt_succ, lexAt_shift k (i + 1)]
theorem lexAt_ints (p : Int → Int → Bool) (z : Nat → Nat → Bool) (q : List Int → List Int → Bool) (h0 : ∀ ys, q [] ys = z 0 ys.length) (h1 : ∀ x xs, q (x :: xs) [] = z (xs.length + 1) 0) (h2 : ∀ x xs y ys, q (x :: xs) (y :: ys) = if x = y then q xs ys else p x y)
    (hz : ∀ a b, z (a + 1) (b + 1) = z a b) : ∀ (ns ms : List Int), Ob.lexAt (fun j => decide (ns.getD j 0 = ms.getD j 0)) (fun j => p (ns.getD j 0) (ms.getD j 0)) (z ns.length ms.length) 0 (min ns.length ms.length) = q ns ms
  | [], ys => by
    rw [h0]
    simp only [List.length_nil, Nat.zero_min]
    rfl
  | x :: xs, [] => by
    rw [h1]
    simp only [List.length_cons, List.length_nil, Nat.min_zero]
    rfl
  | x :: xs, y :: ys => by
    have ih := lexAt_ints p z q h0 h1 h2 hz xs ys
    have e : min (x :: xs).length (y :: ys).length = min xs.length ys.length + 1 := by simp only [List.length_cons]; omega
    rw [e, Ob.lexAt_succ, lexAt_shift, h2]
    have e3 : z (x :: xs).length (y :: ys).length = z xs.length ys.length := hz _ _
    rw [e3]
    by_cases hxy : x = y
    · rw [if_pos hxy]
      have : decide ((x :: xs).getD 0 0 = (y :: ys).getD 0 0) = true := decide_eq_true hxy
      rw [if_pos this]
      exact ih
    · rw [if_neg hxy]
      have : ¬ decide ((x :: xs).getD 0 0 = (y :: ys).getD 0 0) = true := by
        rw [decide_eq_false (show ¬ (x :: xs).getD 0 0 = (y :: ys).getD 0 0 from hxy)]
        exact Bool.false_ne_true
      rw [if_neg this]
      rfl
section
variable {G : GX} {X : Cx}
theorem r_int {K : PySem.W.Frag} {T : Tg} {al : List Addr} {H : Hp} {v : V} {i : Int} (h : RepH K T al H v (.int i)) : v = .int i := rep_int h
theorem r_str {K : PySem.W.Frag} {T : Tg} {al : List Addr} {H : Hp} {v : V} {i : Str} (h : RepH K T al H v (.str i)) : v = .str i := rep_str h
theorem r_tup {K : PySem.W.Frag} {T : Tg} {al : List Addr} {H : Hp} {v : V} {ds : List D} (h : RepH K T al H v (.tup ds)) : ∃ a xs, v = .ref a ∧ SqT K H a xs ∧ RepAll K (fz T H) al xs ds := by
  obtain ⟨a, xs, e, hs, rs⟩ := rep_tup h
  exact ⟨a, xs, e, Same.seqT fz_same hs, rs⟩
theorem r_lst {K : PySem.W.Frag} {T : Tg} {al : List Addr} {H : Hp} {v : V} {ds : List D} (h : RepH K T al H v (.lst ds)) : ∃ a xs, v = .ref a ∧ SqL K H a xs ∧ RepAll K (fz T H) al xs ds := by
  obtain ⟨a, xs, e, hs, rs⟩ := h
  exact ⟨a, xs, e, .inl (.inl (nw_same _ _ hs)), rs⟩
theorem small_ok {i : Int} (h : smallI i = true) : -(2 ^ 64) < i ∧ i < 2 ^ 64 := by
  have h' := Bool.and_eq_true_iff.mp h
  have h1 := of_decide_eq_true h'.1
  have h2 := of_decide_eq_true h'.2
  unfold big at h1 h2
  exact ⟨by simpa using h1, by simpa using h2⟩
/-- a new tuple at p, standing still -/
theorem new_tup {K : PySem.W.Frag} {TB : List (Addr × Str)} {st : St} {T : Tg} {al : List Addr} {H : Hp} {p : Addr} {vs : List V} {ds : List D} {Q : VK} (w : WI K TB T al st H) (n : H p = none) (r : RepAll K (fz T H) al vs ds)
    (q : ∀ (t : V) (T' : Tg) (al' : List Addr) (H' : Hp), Ext T al H T' al' H' → WI K TB T' al' st H' → Rep K (fz T' H') al' t (.tup ds) → Q t H') : Q (.ref p) (upd H p (.tup vs)) := by
  have n' := w.free n
  exact q _ _ _ _ (Ext.laid n .frz) ((w.laid n).tag (by rw [n']; decide) (by rw [n']; decide) upd_same) (.tup (fz_of tset_same upd_same) (r.ext (Ext.laid n .frz)))
theorem replicate_rep {K : PySem.W.Frag} {F : Hp} {al : List Addr} {vs : List V} {ds : List D} (r : RepAll K F al vs ds) : ∀ n : Nat, RepAll K F al (List.replicate n vs).flatten (List.replicate n ds).flatten
  | 0 => .nil
  | n + 1 => by
    rw [List.replicate_succ, List.replicate_succ, List.flatten_cons, List.flatten_cons]
    exact r.append (replicate_rep r n)
theorem bin_add : BinR G X (binaryOp .Add) oAdd := binR_of fun x y z hz => by
  cases x with
  | int i =>
    cases y with
    | int j =>
      have e : D.int (i + j) = z := Option.some.inj hz
      subst e
      exact ⟨_, op_add, fun st T al H v u Q w rx ry q => ⟨i, j, r_int rx, r_int ry, q _ T al H .refl w (.int _)⟩⟩
    | _ => cases hz
  | str i =>
    cases y with
    | str j =>
      obtain ⟨hl, rfl⟩ := guardN_ok (show guardN _ _ = some z from hz)
      exact ⟨_, op_add_str, fun st T al H v u Q w rx ry q => ⟨i, j, r_str rx, r_str ry, hl, q _ T al H .refl w (.str _)⟩⟩
    | _ => cases hz
  | tup xs =>
    cases y with
    | tup ys =>
      obtain ⟨hl, rfl⟩ := guardN_ok (show guardN _ _ = some z from hz)
      refine ⟨_, op_catA, fun st T al H v u Q w rx ry q => ?_⟩
      obtain ⟨a, vs, rfl, h1, r1⟩ := r_tup rx
      obtain ⟨b, us, rfl, h2, r2⟩ := r_tup ry
      refine ⟨a, b, vs, us, rfl, rfl, h1, h2, by rw [r1.length, r2.length]; exact hl, fun e => ?_, fun _ e => ?_, fun _ _ p n => new_tup w n (r1.append r2) q⟩
      · rw [e] at r1
        cases r1
        exact q _ T al H .refl w ry
      · rw [e] at r2
        cases r2
        rw [List.append_nil] at q
        exact q _ T al H .refl w rx
    | _ => cases hz
  | _ => cases y <;> cases hz
theorem bin_sub : BinR G X (binaryOp .Sub) oSub := binR_of fun x y z hz => by
  cases x with
  | int i =>
    cases y with
    | int j =>
      have e : D.int (i - j) = z := Option.some.inj hz
      subst e
      exact ⟨_, op_sub, fun st T al H v u Q w rx ry q => ⟨i, j, r_int rx, r_int ry, q _ T al H .refl w (.int _)⟩⟩
    | _ => cases hz
  | _ => cases y <;> cases hz
theorem bin_mul : BinR G X (binaryOp .Mult) oMul := binR_of fun x y z hz => by
  cases x with
  | int i =>
    cases y with
    | int j =>
      have hz' : (match smallI i || smallI j with
        | true => some (D.int (i * j))
        | false => none) = some z := hz
      cases e : smallI i || smallI j with
      | false =>
        rw [e] at hz'
        cases hz'
      | true =>
        rw [e] at hz'
        have e2 : D.int (i * j) = z := Option.some.inj hz'
        subst e2
        refine ⟨_, op_mul, fun st T al H v u Q w rx ry q => ⟨i, j, r_int rx, r_int ry, ?_, q _ T al H .refl w (.int _)⟩⟩
        rcases Bool.or_eq_true_iff.mp e with e | e
        · exact .inl (small_ok e)
        · exact .inr (small_ok e)
    | _ => cases hz
  | tup xs =>
    cases y with
    | int k =>
      have hz' : (match !xs.isEmpty && decide (2 ≤ k) && decide (k ≤ 1000) && Nat.ble xs.length 1000 with
        | true => some (D.tup (List.replicate k.toNat xs).flatten)
        | false => none) = some z := hz
      cases e : !xs.isEmpty && decide (2 ≤ k) && decide (k ≤ 1000) && Nat.ble xs.length 1000 with
      | false =>
        rw [e] at hz'
        cases hz'
      | true =>
        rw [e] at hz'
        have e2 : D.tup (List.replicate k.toNat xs).flatten = z := Option.some.inj hz'
        subst e2
        simp only [Bool.and_eq_true, decide_eq_true_eq] at e
        obtain ⟨⟨⟨e1, e2⟩, e3⟩, e4⟩ := e
        refine ⟨_, op_repT, fun st T al H v u Q w rx ry q => ?_⟩
        obtain ⟨a, vs, rfl, h1, r1⟩ := r_tup rx
        refine ⟨a, k, vs, rfl, r_int ry, h1, fun z => ?_, e2, e3, by rw [r1.length]; exact Nat.le_of_ble_eq_true e4, fun p n => new_tup w n (replicate_rep r1 _) q⟩
        rw [z] at r1
        cases r1
        cases e1
    | _ => cases hz
  | _ => cases y <;> cases hz
theorem bin_fdiv : BinR G X (binaryOp .FloorDiv) oFdiv := binR_of fun x y z hz => by
  cases x with
  | int i =>
    cases y with
    | int j =>
      have hz' : (match decide (0 < j) && decide (j < 1073741824) with
        | true => some (D.int (i / j))
        | false => none) = some z := hz
      cases e : decide (0 < j) && decide (j < 1073741824) with
      | false =>
        rw [e] at hz'
        cases hz'
      | true =>
        rw [e] at hz'
        have e2 : D.int (i / j) = z := Option.some.inj hz'
        subst e2
        simp only [Bool.and_eq_true, decide_eq_true_eq] at e
        exact ⟨_, op_fdiv, fun st T al H v u Q w rx ry q => ⟨i, j, r_int rx, r_int ry, e, q _ T al H .refl w (.int _)⟩⟩
    | _ => cases hz
  | _ => cases y <;> cases hz
theorem bin_mod : BinR G X (binaryOp .Mod) oMod := binR_of fun x y z hz => by
  cases x with
  | int i =>
    cases y with
    | int j =>
      have hz' : (match decide (0 < j) with
        | true => some (D.int (i % j))
        | false => none) = some z := hz
      cases e : decide (0 < j) with
      | false =>
        rw [e] at hz'
        cases hz'
      | true =>
        rw [e] at hz'
        have e2 : D.int (i % j) = z := Option.some.inj hz'
        subst e2
        exact ⟨_, op_mod, fun st T al H v u Q w rx ry q => ⟨i, j, r_int rx, r_int ry, of_decide_eq_true e, q _ T al H .refl w (.int _)⟩⟩
    | _ => cases hz
  | _ => cases y <;> cases hz
theorem bin_pow : BinR G X (binaryOp .Pow) oPow := binR_of fun x y z hz => by
  cases x with
  | int i =>
    cases y with
    | int j =>
      have hz' : (match decide (0 ≤ j) && decide (j ≤ 1000) && decide (i.natAbs < 18446744073709551616) with
        | true => some (D.int (i ^ j.toNat))
        | false => none) = some z := hz
      cases e : decide (0 ≤ j) && decide (j ≤ 1000) && decide (i.natAbs < 18446744073709551616) with
      | false =>
        rw [e] at hz'
        cases hz'
      | true =>
        rw [e] at hz'
        have e2 : D.int (i ^ j.toNat) = z := Option.some.inj hz'
        subst e2
        simp only [Bool.and_eq_true, decide_eq_true_eq] at e
        exact ⟨_, op_pow, fun st T al H v u Q w rx ry q => ⟨i, j, r_int rx, r_int ry, ⟨e.1.1, by omega, by simpa using e.2⟩, q _ T al H .refl w (.int _)⟩⟩
    | _ => cases hz
  | _ => cases y <;> cases hz

/-- a rule for two tuples of whole numbers -/
theorem ord_tup {op : CmpOp} {p : Int → Int → Bool} {zz : Nat → Nat → Bool} {qq : List Int → List Int → Bool} (hu : X.A.units < cLine)
    (rule : ∀ {A : Around} {s : Shared} {l b : Addr} {items items2 : Array Value} {e r : Nat → Bool} (_ : s.heap.IsTuple l items) (_ : s.heap.IsTuple b items2) (_ : A.units < cLine)
      (_ : ∀ j (h1 : j < items.size) (h2 : j < items2.size), SeqAt.EqAt A.in1 s items[j] items2[j] (e j))
      (_ : ∀ j (h1 : j < items.size) (h2 : j < items2.size), e j = false → Ob.RcOp op A.in1 s items[j] items2[j] (r j)),
      Ob.RcOp op A s (.ref l) (.ref b) (Ob.lexAt e r (zz items.size items2.size) 0 (min items.size items2.size)))
    (one : ∀ {A : Around} {s : Shared} (a b : Int) (t u : Tok), Ob.RcOp op A s (.int a t) (.int b u) (p a b))
    (h0 : ∀ ys, qq [] ys = zz 0 ys.length) (h1 : ∀ x xs, qq (x :: xs) [] = zz (xs.length + 1) 0) (h2 : ∀ x xs y ys, qq (x :: xs) (y :: ys) = if x = y then qq xs ys else p x y)
    (hz : ∀ a b, zz (a + 1) (b + 1) = zz a b) (hc : ∀ a b, compareOp op a b = richCompare op a b := by intros; rfl) :
    OpR X (compareOp op) (fun x y H Q => ∃ (a b : Addr) (ns ms : List Int), x = .ref a ∧ y = .ref b ∧ SqT X.K H a (ns.map V.int) ∧ SqT X.K H b (ms.map V.int) ∧ Q (.bl (qq ns ms)) H) := by
  intro pins s σ H x y v u Q I rx ry h
  obtain ⟨a, b, ns, ms, rfl, rfl, ha, hb, q⟩ := h
  cases rx
  cases ry
  obtain ⟨its, r1, p1, _⟩ := I.tuple ha
  obtain ⟨its2, r2, p2, _⟩ := I.tuple hb
  have i1 : IntsAre its ns := Vals.ints r1
  have i2 : IntsAre its2 ms := Vals.ints r2
  have e1 : its.toArray.size = ns.length := by rw [List.size_toArray]; exact i1.length
  have e2 : its2.toArray.size = ms.length := by rw [List.size_toArray]; exact i2.length
  have at1 : ∀ j (h1 : j < its.toArray.size), ∃ t, its.toArray[j] = .int (ns.getD j 0) t := fun j h1 => PyProof.Rows.IntsAre.int_at i1 _ _ (by simp at h1; simp [h1])
  have at2 : ∀ j (h1 : j < its2.toArray.size), ∃ t, its2.toArray[j] = .int (ms.getD j 0) t := fun j h1 => PyProof.Rows.IntsAre.int_at i2 _ _ (by simp at h1; simp [h1])
  have R := rule (A := X.A) (s := s) (e := fun j => decide (ns.getD j 0 = ms.getD j 0)) (r := fun j => p (ns.getD j 0) (ms.getD j 0)) p1 p2 hu (fun j h1 h2 => by
    obtain ⟨t, et⟩ := at1 j h1
    obtain ⟨t', et'⟩ := at2 j h2
    rw [et, et']
    have z : (ns.getD j 0 == ms.getD j 0) = decide (ns.getD j 0 = ms.getD j 0) := by
      by_cases q : ns.getD j 0 = ms.getD j 0
      · rw [decide_eq_true q]; exact beq_iff_eq.mpr q
      · rw [decide_eq_false q]; exact beq_eq_false_iff_ne.mpr q
    rw [← z]
    exact SeqAt.EqAt.int_int _ _ _ _) (fun j h1 h2 _ => by
    obtain ⟨t, et⟩ := at1 j h1
    obtain ⟨t', et'⟩ := at2 j h2
    rw [et, et']
    exact one _ _ _ _)
  rw [e1, e2, lexAt_ints p zz qq h0 h1 h2 hz] at R
  rw [hc]
  exact R X.prog X.w X.xe (EP X pins σ Q) ⟨.bl _, H, I, rfl, q⟩
theorem bin_ord {op : CmpOp} {p : Int → Int → Bool} {qq : List Int → List Int → Bool} (h1 : OpR X (compareOp op) (rI0 fun i j => .bl (p i j)))
    (h2 : OpR X (compareOp op) (fun x y H Q => ∃ (a b : Addr) (ns ms : List Int), x = .ref a ∧ y = .ref b ∧ SqT X.K H a (ns.map V.int) ∧ SqT X.K H b (ms.map V.int) ∧ Q (.bl (qq ns ms)) H)) : BinR G X (compareOp op) (oOrd p qq) := binR_of fun x y z hz => by
  cases x with
  | int i =>
    cases y with
    | int j =>
      have e : D.bl (p i j) = z := Option.some.inj hz
      subst e
      exact ⟨_, h1, fun st T al H v u Q w rx ry q => ⟨i, j, r_int rx, r_int ry, q _ T al H .refl w (.bl _)⟩⟩
    | _ => cases hz
  | tup xs =>
    cases y with
    | tup ys =>
      have hz' : (match intsOf xs, intsOf ys with
        | some a, some b => some (D.bl (qq a b))
        | _, _ => none) = some z := hz
      cases e1 : intsOf xs with
      | none => rw [e1] at hz'; cases hz'
      | some a =>
        cases e2 : intsOf ys with
        | none => rw [e1, e2] at hz'; cases hz'
        | some b =>
          rw [e1, e2] at hz'
          have e : D.bl (qq a b) = z := Option.some.inj hz'
          subst e
          refine ⟨_, h2, fun st T al H v u Q w rx ry q => ?_⟩
          obtain ⟨p1, vs, rfl, s1, r1⟩ := r_tup rx
          obtain ⟨p2, us, rfl, s2, r2⟩ := r_tup ry
          rw [ints_rep r1 e1] at s1
          rw [ints_rep r2 e2] at s2
          exact ⟨p1, p2, a, b, rfl, rfl, s1, s2, q _ T al H .refl w (.bl _)⟩
    | _ => cases hz
  | _ => cases y <;> cases hz
theorem bin_lt (ok : COk X) : BinR G X (compareOp .Lt) oLt := bin_ord op_lt (ord_tup (zz := fun a b => decide (a < b)) (by have := ok.un; omega) Ob.RcOp.tuples_lt Ob.RcOp.lt_int (fun ys => by cases ys <;> simp [lexI]) (fun x xs => by simp [lexI]) (fun x xs y ys => rfl) (fun a b => by simp))
theorem not_if {c : Prop} [Decidable c] {a b : Bool} : (!(if c then a else b)) = if c then !a else !b := by
  split <;> rfl
theorem bin_le (ok : COk X) : BinR G X (compareOp .LtE) oLe := bin_ord op_le (ord_tup (zz := fun a b => decide (a ≤ b)) (by have := ok.un; omega) Ob.RcOp.tuples_le Ob.RcOp.le_int (fun ys => by cases ys <;> simp [lexI]) (fun x xs => by simp [lexI]) (fun x xs y ys => by
  show (!(if y = x then lexI ys xs else decide (y < x))) = _
  rw [not_if]
  by_cases h : x = y
  · rw [if_pos h, if_pos h.symm]
  · rw [if_neg h, if_neg (fun z => h z.symm)]
    by_cases g : x ≤ y
    · rw [decide_eq_true g, decide_eq_false (by omega)]; rfl
    · rw [decide_eq_false g, decide_eq_true (by omega)]; rfl) (fun a b => by simp))
theorem bin_gt (ok : COk X) : BinR G X (compareOp .Gt) oGt := bin_ord op_gt (ord_tup (zz := fun a b => decide (a > b)) (by have := ok.un; omega) Ob.RcOp.tuples_gt Ob.RcOp.gt_int (fun ys => by cases ys <;> simp [lexI]) (fun x xs => by simp [lexI]) (fun x xs y ys => by
  show (if y = x then lexI ys xs else decide (y < x)) = _
  by_cases h : x = y
  · rw [if_pos h, if_pos h.symm]
  · rw [if_neg h, if_neg (fun z => h z.symm)]) (fun a b => by simp))
theorem bin_ge (ok : COk X) : BinR G X (compareOp .GtE) oGe := bin_ord op_ge (ord_tup (zz := fun a b => decide (a ≥ b)) (by have := ok.un; omega) Ob.RcOp.tuples_ge Ob.RcOp.ge_int (fun ys => by cases ys <;> simp [lexI]) (fun x xs => by simp [lexI]) (fun x xs y ys => by
  show (!(if x = y then lexI xs ys else decide (x < y))) = _
  rw [not_if]
  by_cases h : x = y
  · rw [if_pos h, if_pos h]
  · rw [if_neg h, if_neg h]
    by_cases g : y ≤ x
    · rw [decide_eq_true g, decide_eq_false (by omega)]; rfl
    · rw [decide_eq_false g, decide_eq_true (by omega)]; rfl) (fun a b => by simp))

theorem bin_eq (ok : COk X) (ns : NoSys X.K) : BinR G X (compareOp .Eq) oEq := by
  intro x y z hz pins s σ st T al H v u vv uu Q I w rx ry rv ru q
  unfold oEq at hz
  cases e : x.cmpOk && y.cmpOk with
  | false => rw [e] at hz; cases hz
  | true =>
    rw [e] at hz
    have ez : D.bl (PyData.eqv x.py y.py) = z := Option.some.inj hz
    subst ez
    unfold D.cmpOk at e
    simp only [Bool.and_eq_true] at e
    obtain ⟨as, h1, _⟩ := rx.reads I ok ns e.1.1 rv
    obtain ⟨bs, h2, _⟩ := ry.reads I ok ns e.2.1 ru
    exact SeqAt.compareEq_shaped h1 h2 e.1.2 e.2.2 (by have := ok.un; omega) ⟨.bl _, H, I, rfl, q (.bl _) T al H .refl w (.bl _)⟩
theorem bin_ne (ok : COk X) (ns : NoSys X.K) : BinR G X (compareOp .NotEq) oNe := by
  intro x y z hz pins s σ st T al H v u vv uu Q I w rx ry rv ru q
  unfold oNe at hz
  cases e : x.cmpOk && y.cmpOk with
  | false => rw [e] at hz; cases hz
  | true =>
    rw [e] at hz
    have ez : D.bl (!PyData.eqv x.py y.py) = z := Option.some.inj hz
    subst ez
    unfold D.cmpOk at e
    simp only [Bool.and_eq_true] at e
    obtain ⟨as, h1, _⟩ := rx.reads I ok ns e.1.1 rv
    obtain ⟨bs, h2, _⟩ := ry.reads I ok ns e.2.1 ru
    exact SeqAt.compareNe_shaped h1 h2 e.1.2 e.2.2 (by have := ok.un; omega) ⟨.bl _, H, I, rfl, q (.bl _) T al H .refl w (.bl _)⟩
end
end Pi
namespace Pi
open PySem PySem.Spec PyProof.Rows L2

def oIn (x y : D) : Option D := match x.cmpOk && y.cmpOk with
  | true => (match y with
    | .tup ys => some (.bl (ys.any fun z => PyData.eqv z.py x.py))
    | .ktp ys => some (.bl (ys.any fun z => PyData.eqv z.py x.py))
    | .lst ys => some (.bl (ys.any fun z => PyData.eqv z.py x.py))
    | _ => none)
  | false => none
def oNotIn (x y : D) : Option D := match oIn x y with
  | some (.bl b) => some (.bl (!b))
  | _ => none
def oIs (x y : D) : Option D := match y with
  | .non => some (.bl x.isNon)
  | _ => none
def oIsNot (x y : D) : Option D := match y with
  | .non => some (.bl (!x.isNon))
  | _ => none
def D.toB : D → Option Bool
  | .bl b => some b
  | _ => none
/-- a comparison as a test -/
def bCmp (o : D → D → Option D) (f g : Env → Mo D) : Env → Mo Bool := fun r => eBin o f g r >>= fun z => Mo.opt z.toB
def eChain (o o2 : D → D → Option D) (f g h : Env → Mo D) : Env → Mo D := fun r => f r >>= fun x => g r >>= fun y => Mo.opt ((o x y).bind D.toB) >>= fun b => match b with
  | true => h r >>= fun z => Mo.opt (o2 y z)
  | false => pure (.bl false)
def bOf (f : Env → Mo D) : Env → Mo Bool := fun r => f r >>= fun z => Mo.opt z.toB
/-- and, or of truth values and a last one of any kind -/
def eAnd (f g : Env → Mo D) : Env → Mo D := fun r => f r >>= fun x => Mo.opt x.toB >>= fun b => match b with
  | true => g r
  | false => pure (.bl false)
def eOr (f g : Env → Mo D) : Env → Mo D := fun r => f r >>= fun x => Mo.opt x.toB >>= fun b => match b with
  | true => pure (.bl true)
  | false => g r
def oNot : D → Option D
  | .bl b => some (.bl (!b))
  | _ => none
theorem pyAll_map : ∀ xs : List D, D.pyAll xs = xs.map D.py
  | [] => by rw [D.pyAll]; rfl
  | x :: xs => by rw [D.pyAll, pyAll_map xs]; rfl
theorem any_py (x : PyData) : ∀ ys : List D, ((D.pyAll ys).any fun z => PyData.eqv z x) = ys.any fun z => PyData.eqv z.py x := fun ys => by
  rw [pyAll_map, List.any_map]
  rfl
theorem cmp_parts {x y : D} (h : (x.cmpOk && y.cmpOk) = true) : x.still = true ∧ SeqAt.shaped x.py = true ∧ y.still = true ∧ SeqAt.shaped y.py = true := by
  unfold D.cmpOk at h
  simp only [Bool.and_eq_true] at h
  exact ⟨h.1.1, h.1.2, h.2.1, h.2.2⟩
theorem oIn_ok {x y z : D} (h : oIn x y = some z) : (x.cmpOk && y.cmpOk) = true ∧ ((∃ ys, y.py = .tuple (D.pyAll ys) ∧ z = .bl (ys.any fun z => PyData.eqv z.py x.py)) ∨ (∃ ys, y = .lst ys ∧ z = .bl (ys.any fun z => PyData.eqv z.py x.py))) := by
  unfold oIn at h
  cases e : x.cmpOk && y.cmpOk with
  | false => rw [e] at h; cases h
  | true =>
    rw [e] at h
    refine ⟨rfl, ?_⟩
    cases y with
    | tup ys => exact .inl ⟨ys, by rw [D.py], (Option.some.inj h).symm⟩
    | ktp ys => exact .inl ⟨ys, by rw [D.py], (Option.some.inj h).symm⟩
    | lst ys => exact .inr ⟨ys, rfl, (Option.some.inj h).symm⟩
    | _ => cases h
section
variable {G : GX} {X : Cx} {W : WX} {H0 : Hp} {a b c e : Expr} {rest : List Expr} {pos : Pos}
theorem bin_in (ok : COk X) (ns : NoSys X.K) : BinR G X (compareOp .In) oIn := by
  intro x y z hz pins s σ st T al H v u vv uu Q I w rx ry rv ru q
  obtain ⟨e, h⟩ := oIn_ok hz
  obtain ⟨s1, c1, s2, c2⟩ := cmp_parts e
  obtain ⟨as, h1, _⟩ := rx.reads I ok ns s1 rv
  obtain ⟨bs, h2, _⟩ := ry.reads I ok ns s2 ru
  have hu : X.A.units + 65 < cLine := by have := ok.un; omega
  rcases h with ⟨ys, ey, rfl⟩ | ⟨ys, rfl, rfl⟩
  · rw [ey] at h2 c2
    exact SeqAt.in_tuple_reads h2 h1 (SeqAt.canLay_of_shaped c2) (SeqAt.canLay_of_shaped c1) (PyProof.Rows.room_in_shaped c1 hu) (by rw [any_py]; exact ⟨.bl _, H, I, rfl, q (.bl _) T al H .refl w (.bl _)⟩)
  · rw [D.py] at h2 c2
    exact SeqAt.in_list_reads h2 h1 (SeqAt.canLay_of_shaped c2) (SeqAt.canLay_of_shaped c1) (PyProof.Rows.room_in_shaped c1 hu) (by rw [any_py]; exact ⟨.bl _, H, I, rfl, q (.bl _) T al H .refl w (.bl _)⟩)
theorem bin_notIn (ok : COk X) (ns : NoSys X.K) : BinR G X (compareOp .NotIn) oNotIn := by
  intro x y z hz pins s σ st T al H v u vv uu Q I w rx ry rv ru q
  unfold oNotIn at hz
  cases e0 : oIn x y with
  | none => rw [e0] at hz; cases hz
  | some z0 =>
    rw [e0] at hz
    obtain ⟨e, h⟩ := oIn_ok e0
    obtain ⟨s1, c1, s2, c2⟩ := cmp_parts e
    obtain ⟨as, h1, _⟩ := rx.reads I ok ns s1 rv
    obtain ⟨bs, h2, _⟩ := ry.reads I ok ns s2 ru
    have hu : X.A.units + 65 < cLine := by have := ok.un; omega
    rcases h with ⟨ys, ey, rfl⟩ | ⟨ys, rfl, rfl⟩
    · rw [ey] at h2 c2
      have ez := Option.some.inj hz
      subst ez
      exact SeqAt.notIn_tuple_reads h2 h1 (SeqAt.canLay_of_shaped c2) (SeqAt.canLay_of_shaped c1) (PyProof.Rows.room_in_shaped c1 hu) (by rw [any_py]; exact ⟨.bl _, H, I, rfl, q (.bl _) T al H .refl w (.bl _)⟩)
    · rw [D.py] at h2 c2
      have ez := Option.some.inj hz
      subst ez
      exact SeqAt.notIn_list_reads h2 h1 (SeqAt.canLay_of_shaped c2) (SeqAt.canLay_of_shaped c1) (PyProof.Rows.room_in_shaped c1 hu) (by rw [any_py]; exact ⟨.bl _, H, I, rfl, q (.bl _) T al H .refl w (.bl _)⟩)
theorem isNon_rep {K : PySem.W.Frag} {T : Tg} {al : List Addr} {H : Hp} {v : V} {x : D} (h : RepH K T al H v x) : decide (v = .non) = x.isNon := by
  cases x with
  | non => rw [rep_non h]; rfl
  | bl b => rw [rep_bl h]; rfl
  | int i => rw [rep_int h]; rfl
  | str i => rw [rep_str h]; rfl
  | tup ds => obtain ⟨_, _, rfl, _⟩ := rep_tup h; rfl
  | lst ds => obtain ⟨_, _, rfl, _⟩ := h; rfl
  | dct ds => obtain ⟨_, _, rfl, _⟩ := rep_dct h; rfl
  | obj n =>
    cases h
    rfl
  | exc n f x =>
    cases h
    rfl
  | ktp ds => obtain ⟨_, _, rfl, _⟩ := rep_ktp h; rfl
  | kls ds => obtain ⟨_, _, rfl, _⟩ := rep_kls h; rfl
theorem bin_is : BinR G X (compareOp .Is) oIs := binR_of fun x y z hz => by
  cases y with
  | non =>
    have ez : D.bl x.isNon = z := Option.some.inj hz
    subst ez
    exact ⟨_, op_isN, fun st T al H v u Q w rx ry q => ⟨rep_non ry, by rw [isNon_rep rx]; exact q _ T al H .refl w (.bl _)⟩⟩
  | _ => cases hz
theorem bin_isNot : BinR G X (compareOp .IsNot) oIsNot := binR_of fun x y z hz => by
  cases y with
  | non =>
    have ez : D.bl (!x.isNon) = z := Option.some.inj hz
    subst ez
    exact ⟨_, op_notN, fun st T al H v u Q w rx ry q => ⟨rep_non ry, by rw [isNon_rep rx]; exact q _ T al H .refl w (.bl _)⟩⟩
  | _ => cases hz

/-- a comparison, its operands evaluated: the value, in the world behind -/
theorem cmp_run {op : CmpOp} {o : D → D → Option D} {f g : Env → Mo D} (hr : BinR G X (compareOp op) o) (ha : PH G X W H0 a f) (hb : PH G X W H0 b g) {r : Env} {st : St} {σ : L2.St} {T : Tg} {al : List Addr} {H : Hp} {Q : VK}
    (S : SL X.K H0 T al H r σ) (w : WI X.K G.TB T al st H) (q : Post G X.K W (RpD X.K) σ T al H Q (eBin o f g r st)) {pins : List (Addr × Obj)} {s : Shared} (I : Inv X pins σ H s) :
    wpAny (model X.prog X.w) X.A (eval a X.env) (fun v s₁ => wpAny (model X.prog X.w) X.A (eval b X.env) (fun u s₂ => wpAny (model X.prog X.w) X.A (compareOp op v u) (EP X pins σ Q) X.xe s₂) X.xe s₁) X.xe s := by
  refine binT (R := fun x y H' => ∀ pins s vv uu, Inv X pins σ H' s → RelV x vv → RelV y uu → wpAny (model X.prog X.w) X.A (compareOp op vv uu) (EP X pins σ Q) X.xe s) pe_rd pe_rd I ?_ fun v u s2 x y H2 I2 rx ry q => q pins s2 v u I2 rx ry
  refine ha r st σ T al H _ S w (seqP back_D q fun x st1 v T1 al1 H1 _ x1 w1 r1 q1 => ?_)
  refine hb r st1 σ T1 al1 H1 _ (S.ext x1) w1 (seqP back_D q1 fun y st2 u T2 al2 H2 _ x2 w2 r2 q2 => ?_)
  intro pins s vv uu I rv ru
  exact optP q2 fun z hz q3 => hr x y z hz pins s σ st2 T2 al2 H2 v u vv uu Q I w2 (RepH.ext r1 x2) r2 rv ru fun t T' al' H' e w' rt => q3 t T' al' H' e w' rt
theorem pd_cmp {op : CmpOp} {o : D → D → Option D} {f g : Env → Mo D} (hr : BinR G X (compareOp op) o) (ha : PH G X W H0 a f) (hb : PH G X W H0 b g) (hm : behindInMarks op b = false := by first | exact nomark _ | rfl) : PD G X W H0 (.Compare a [op] [b] pos) (eBin o f g) :=
  fun r st σ T al H Q S w q pins s I => wpAny_Compare1 (cmp_run hr ha hb S w q I) hm
theorem toB_rep {K : PySem.W.Frag} {F : Hp} {al : List Addr} {v : V} {x : D} {k : Bool} (h : Rep K F al v x) (e : x.toB = some k) : v = .bl k := by
  cases x with
  | bl b =>
    have e' : b = k := Option.some.inj e
    rw [rep_bl h, e']
  | _ => cases e
/-- what is wanted of a truth value, as of a test -/
theorem post_toB {f : Mo D} {st : St} {σ : L2.St} {T : Tg} {al : List Addr} {H : Hp} {Q : Bool → Hp → Prop} (q : Post G X.K W RpB σ T al H Q ((f >>= fun z => Mo.opt z.toB) st)) : Post G X.K W (RpD X.K) σ T al H (fun x H' => ∃ k, x = .bl k ∧ Q k H') (f st) := by
  refine seqP back_B q fun x st1 v T1 al1 H1 _ x1 w1 r1 q1 => ?_
  exact optP q1 fun k hk q2 => ⟨k, toB_rep r1 hk, q2 k T1 al1 H1 .refl w1 rfl⟩
theorem pb_cmp {op : CmpOp} {o : D → D → Option D} {f g : Env → Mo D} (hr : BinR G X (compareOp op) o) (ha : PH G X W H0 a f) (hb : PH G X W H0 b g) (hm : behindInMarks op b = false := by first | exact nomark _ | rfl) : PB G X W H0 (.Compare a [op] [b] pos) (bCmp o f g) := by
  intro r st σ T al H Q S w q pins s I
  refine wpAny_isTrue_Compare1 (thn (cmp_run hr ha hb S w (post_toB q) I) fun v s1 h1 => thn h1 fun u s2 h2 => thn h2 fun c s3 ⟨z, H3, I3, r3, k, e, q3⟩ => ?_) hm
  subst e
  cases r3
  exact wpAny_truthy_bool ⟨H3, I3, q3⟩
theorem pd_chain {op op' : CmpOp} {o o2 : D → D → Option D} {f g h : Env → Mo D} (hr : BinR G X (compareOp op) o) (hr2 : BinR G X (compareOp op') o2) (ha : PH G X W H0 a f) (hb : PH G X W H0 b g) (hc : PH G X W H0 c h)
    (hm : lastMarks [op, op'] [b, c] = false := by with_unfolding_all rfl) : PD G X W H0 (.Compare a [op, op'] [b, c] pos) (eChain o o2 f g h) := by
  intro r st σ T al H Q S w q pins s I
  refine Compare_chain (thn (ha r st σ T al H (fun x H1 => ∀ pins s vv, Inv X pins σ H1 s → RelV x vv → wpAny (model X.prog X.w) X.A (eval b X.env) (fun u s2 => wpAny (model X.prog X.w) X.A (compareOp op vv u) (fun d s3 => wpAny (model X.prog X.w) X.A (truthy d) (fun k s4 => if k = true then wpAny (model X.prog X.w) X.A (eval c X.env) (fun w' s5 => wpAny (model X.prog X.w) X.A (compareOp op' u w') (EP X pins σ Q) X.xe s5) X.xe s4 else EP X pins σ Q d s4) X.xe s3) X.xe s2) X.xe s) S w ?_ pins s I) fun v s1 ⟨x, H1, I1, r1, q1⟩ => chain_link (thn (q1 pins s1 v I1 r1) fun u s2 h2 => thn h2 fun d s3 h3 => thn h3 fun k s4 h4 => ?_)) hm
  · refine seqP back_D q fun x st1 v T1 al1 H1 _ x1 w1 r1 q1 => ?_
    intro pins s vv I rv
    refine thn (hb r st1 σ T1 al1 H1 (fun y H2 => ∀ pins s uu, Inv X pins σ H2 s → RelV y uu → wpAny (model X.prog X.w) X.A (compareOp op vv uu) (fun d s3 => wpAny (model X.prog X.w) X.A (truthy d) (fun k s4 => if k = true then wpAny (model X.prog X.w) X.A (eval c X.env) (fun w' s5 => wpAny (model X.prog X.w) X.A (compareOp op' uu w') (EP X pins σ Q) X.xe s5) X.xe s4 else EP X pins σ Q d s4) X.xe s3) X.xe s) (S.ext x1) w1 ?_ pins s I) fun u s2 ⟨y, H2, I2, r2, q2⟩ => q2 pins s2 u I2 r2
    refine seqP back_D q1 fun y st2 u T2 al2 H2 _ x2 w2 r2 q2 => ?_
    intro pins s uu I ru
    have q2' : Post G X.K W (RpD X.K) σ T2 al2 H2 Q ((Mo.opt ((o x y).bind D.toB) >>= fun k => match k with
      | true => h r >>= fun z => Mo.opt (o2 y z)
      | false => pure (.bl false)) st2) := q2
    cases e : o x y with
    | none =>
      rw [e] at q2'
      exact q2'.elim
    | some z =>
      rw [e] at q2'
      cases ek : z.toB with
      | none =>
        have : (some z).bind D.toB = none := ek
        rw [this] at q2'
        exact q2'.elim
      | some k =>
        have : (some z).bind D.toB = some k := ek
        rw [this] at q2'
        refine thn (hr x y z e pins s σ st2 T2 al2 H2 v u vv uu (fun d H3 => d = .bl k ∧ ∃ T3 al3, Ext T2 al2 H2 T3 al3 H3 ∧ WI X.K G.TB T3 al3 st2 H3) I w2 (RepH.ext r1 x2) r2 rv ru fun t T' al' H' e w' rt => ⟨toB_rep rt ek, T', al', e, w'⟩) ?_
        intro d s3 ⟨zv, H3, I3, r3, ez, T3, al3, x3, w3⟩
        subst ez
        cases r3
        refine wpAny_truthy_bool ?_
        cases k with
        | false => exact iteF ⟨.bl false, H3, I3, rfl, q2' (.bl false) T3 al3 H3 x3 w3 (.bl false)⟩
        | true =>
          refine iteT ?_
          have q3 : Post G X.K W (RpD X.K) σ T3 al3 H3 Q ((h r >>= fun z => Mo.opt (o2 y z)) st2) := Post.ext back_D q2' x3
          refine thn (hc r st2 σ T3 al3 H3 (fun zc H4 => ∀ pins s ww, Inv X pins σ H4 s → RelV zc ww → wpAny (model X.prog X.w) X.A (compareOp op' uu ww) (EP X pins σ Q) X.xe s) (((S.ext x1).ext x2).ext x3) w3 ?_ pins s3 I3) fun ww s4 ⟨zc, H4, I4, r4, q4⟩ => q4 pins s4 ww I4 r4
          refine seqP back_D q3 fun zd st4 zc T4 al4 H4 _ x4 w4 r4 q4 => ?_
          intro pins s ww I rw4
          exact optP q4 fun z5 hz q5 => hr2 y zd z5 hz pins s σ st4 T4 al4 H4 u zc uu ww Q I w4 (RepH.ext (RepH.ext r2 x3) x4) r4 ru rw4 fun t T' al' H' e w' rt => q5 t T' al' H' e w' rt
  · cases k with
    | false =>
      exact ite_ff (by simpa using h4)
    | true =>
      exact ite_tt (chain_last (by simpa using h4))
/-- a value that is a truth value, as a test (a call, a name ..) -/
theorem pb_of {f : Env → Mo D} (h : PD G X W H0 e f) (he : ∀ whole, isTrue e X.env whole = (do let v ← whole; standAt e.pos; holding [v] (truthy v)) := by intro _; rfl) : PB G X W H0 e (bOf f) := by
  intro r st σ T al H Q S w q
  exact rdT (pt_val pe_rd he) (h r st σ T al H _ S w (post_toB q))
theorem pd_one {op} {f : Env → Mo D} (h : PD G X W H0 a f) : PD G X W H0 (.BoolOp op [a] pos) f := fun r st σ T al H Q S w q => rdE (pe_one pe_rd) (h r st σ T al H Q S w q)
theorem pd_and {f g : Env → Mo D} (ha : PD G X W H0 a f) (hb : PD G X W H0 (.BoolOp .And (b :: rest) pos) g) : PD G X W H0 (.BoolOp .And (a :: b :: rest) pos) (eAnd f g) := by
  intro r st σ T al H Q S w q
  refine rdE (pe_and pe_rd pe_rd) (ha r st σ T al H _ S w (seqP back_D q fun x st1 v T1 al1 H1 _ x1 w1 r1 q1 => ?_))
  have q1' : Post G X.K W (RpD X.K) σ T1 al1 H1 Q ((Mo.opt x.toB >>= fun b => match b with
    | true => g r
    | false => pure (.bl false)) st1) := q1
  cases e : x.toB with
  | none => rw [e] at q1'; exact q1'.elim
  | some k =>
    rw [e] at q1'
    refine ⟨k, toB_rep r1 e, ?_⟩
    cases k with
    | true => exact iteT (hb r st1 σ T1 al1 H1 Q (S.ext x1) w1 q1')
    | false => exact iteF (q1' (.bl false) T1 al1 H1 .refl w1 (.bl false))
theorem pd_or {f g : Env → Mo D} (ha : PD G X W H0 a f) (hb : PD G X W H0 (.BoolOp .Or (b :: rest) pos) g) : PD G X W H0 (.BoolOp .Or (a :: b :: rest) pos) (eOr f g) := by
  intro r st σ T al H Q S w q
  refine rdE (pe_or pe_rd pe_rd) (ha r st σ T al H _ S w (seqP back_D q fun x st1 v T1 al1 H1 _ x1 w1 r1 q1 => ?_))
  have q1' : Post G X.K W (RpD X.K) σ T1 al1 H1 Q ((Mo.opt x.toB >>= fun b => match b with
    | true => pure (.bl true)
    | false => g r) st1) := q1
  cases e : x.toB with
  | none => rw [e] at q1'; exact q1'.elim
  | some k =>
    rw [e] at q1'
    refine ⟨k, toB_rep r1 e, ?_⟩
    cases k with
    | true => exact iteT (q1' (.bl true) T1 al1 H1 .refl w1 (.bl true))
    | false => exact iteF (hb r st1 σ T1 al1 H1 Q (S.ext x1) w1 q1')
theorem pd_not {f : Env → Mo D} (ha : PD G X W H0 a f) : PD G X W H0 (.UnaryOp .Not a pos) (eUn oNot f) := by
  intro r st σ T al H Q S w q
  refine rdE (pe_not pe_rd) (ha r st σ T al H _ S w (seqP back_D q fun x st1 v T1 al1 H1 _ x1 w1 r1 q1 => ?_))
  refine optP q1 fun z hz q2 => ?_
  cases x with
  | bl k =>
    have ez : D.bl (!k) = z := Option.some.inj hz
    subst ez
    exact ⟨k, rep_bl r1, q2 (.bl (!k)) T1 al1 H1 .refl w1 (.bl _)⟩
  | _ => cases hz
theorem pd_neg {f : Env → Mo D} (ha : PH G X W H0 a f) : PD G X W H0 (.UnaryOp .USub a pos) (eUn oNeg f) := by
  intro r st σ T al H Q S w q
  refine rdE (pe_un un_neg pe_rd) (ha r st σ T al H _ S w (seqP back_D q fun x st1 v T1 al1 H1 _ x1 w1 r1 q1 => ?_))
  refine optP q1 fun z hz q2 => ?_
  cases x with
  | int k =>
    have ez : D.int (-k) = z := Option.some.inj hz
    subst ez
    exact ⟨k, rep_int r1, q2 (.int (-k)) T1 al1 H1 .refl w1 (.int _)⟩
  | _ => cases hz
end
end Pi
namespace Pi
open PySem PySem.Spec PyProof.Rows L2

inductive Fl where
  | nx (r : Env)
  | ret (x : D)
  | brk (r : Env)
  | ct (r : Env)
abbrev Stm := Env → Mo Fl
/-- the wish about exceptions, whatever the slots -/
abbrev wE (E : XK) : WX := fun c d _ H => E c d H

def sNext : Stm := fun r => pure (.nx r)
def sSeq (g h : Stm) : Stm := fun r => g r >>= fun x => match x with
  | .nx r' => h r'
  | y => pure y
def sSet (i : Nat) (f : Env → Mo D) : Stm := fun r => f r >>= fun x => pure (.nx (r.set i (some (.d x))))
def sOwn (i : Nat) (f : Env → Mo (List D)) : Stm := fun r => f r >>= fun x => pure (.nx (r.set i (some (.own x))))
def sRet (f : Env → Mo D) : Stm := fun r => f r >>= fun x => pure (.ret x)
def sRetN : Stm := fun _ => pure (.ret .non)
def sIf (c : Env → Mo Bool) (g h : Stm) : Stm := fun r => c r >>= fun b => match b with
  | true => g r
  | false => h r
def sExpr (f : Env → Mo D) : Stm := fun r => f r >>= fun _ => pure (.nx r)
def sBrk : Stm := fun r => pure (.brk r)
def sCt : Stm := fun r => pure (.ct r)
/-- an own list stands still from here on -/
def sFrz (i : Nat) : Stm := fun r st => match r[i]? with
  | some (some (.own xs)) => .ok (.nx (r.set i (some (.d (.lst xs))))) st
  | _ => .bad
def setAll : List Nat → List D → Env → Env
  | i :: is, x :: xs, r => setAll is xs (r.set i (some (.d x)))
  | _, _, r => r
def unpack (n : Nat) : D → Option (List D)
  | .tup xs => match Nat.beq xs.length n with
    | true => some xs
    | false => none
  | _ => none
def sUnp (is : List Nat) (f : Env → Mo D) : Stm := fun r => f r >>= fun x => Mo.opt (unpack is.length x) >>= fun xs => pure (.nx (setAll is xs r))
/-- a, b = x, y: stored from the right, as the model does -/
def sPar (i j : Nat) (f : Env → Mo (List D)) : Stm := fun r => f r >>= fun xs => match xs with
  | [x, y] => pure (.nx ((r.set i (some (.d x))).set j (some (.d y))))
  | _ => Mo.bad
/-- place i of a list of n items -/
def place (n : Nat) (i : Int) : Option Nat := match decide (0 ≤ i) with
  | true => (match decide (i < n) with
    | true => some i.toNat
    | false => none)
  | false => (match decide (-(n : Int) ≤ i) with
    | true => some (n + i).toNat
    | false => none)

/-- from where it is told what is left: the def's entry (its tags, its objects), and what stood still since some later point -/
structure Bs where
  T : Tg
  al : List Addr
  F : Hp
  ab : List Addr
section
variable (G : GX) (X : Cx) (E : XK) (H0 : Hp)
structure SI (B : Bs) (r : Env) (σ : L2.St) (st : St) (T : Tg) (al : List Addr) (H : Hp) : Prop where
  sl : SL X.K H0 T al H r σ
  wi : WI X.K G.TB T al st H
  ex : Ext B.T B.al H0 T al H
  fb : Same B.F (fz T H)
  ab : ∃ b, al = B.ab ++ b
def PostS (B : Bs) (D : Ends) : Res Fl → Prop
  | .ok (.nx r) st => ∀ (σ : L2.St) (T : Tg) (al : List Addr) (H : Hp), SI G X H0 B r σ st T al H → D.nx σ H
  | .ok (.brk r) st => ∀ (σ : L2.St) (T : Tg) (al : List Addr) (H : Hp), SI G X H0 B r σ st T al H → D.bk σ H
  | .ok (.ct r) st => ∀ (σ : L2.St) (T : Tg) (al : List Addr) (H : Hp), SI G X H0 B r σ st T al H → D.ct σ H
  | .ok (.ret x) st => ∀ (v : V) (T : Tg) (al : List Addr) (H : Hp), Ext B.T B.al H0 T al H → WI X.K G.TB T al st H → Rep X.K (fz T H) al v x → D.rt v H
  | .err c x st => ErrW G X.K (wE E) [] B.T B.al H0 c x st
  | .bad => False
end
def RdS (X : Cx) (sts : List Stmt) (σ : L2.St) (H : Hp) (D : Ends) : Prop := ∀ (pins : List (Addr × Obj)) (s : Shared), Inv X pins σ H s → wpAny (model X.prog X.w) X.A (execs sts X.env) (SP X pins D) X.xe s
def RdS1 (X : Cx) (st : Stmt) (σ : L2.St) (H : Hp) (D : Ends) : Prop := ∀ (pins : List (Addr × Obj)) (s : Shared), Inv X pins σ H s → wpAny (model X.prog X.w) X.A (exec st X.env) (SP X pins D) X.xe s
section
variable {X : Cx} {st : Stmt} {sts : List Stmt} {σ : L2.St} {H : Hp} {D : Ends}
def tRdS1 (X : Cx) (st : Stmt) : TS := fun D σ H => RdS1 X st σ H D
def tRdS (X : Cx) (sts : List Stmt) : TS := fun D σ H => RdS X sts σ H D
theorem ps_rd : PS X st (tRdS1 X st) := ⟨fun pins s _ _ _ I h => h pins s I⟩
theorem pss_rd : PSs X sts (tRdS X sts) := ⟨fun pins s _ _ _ I h => h pins s I⟩
theorem rdS1 {t : TS} (h : PS X st t) (q : t D σ H) : RdS1 X st σ H D := fun pins s I => h.run pins s σ H D I q
theorem rdS {t : TS} (h : PSs X sts t) (q : t D σ H) : RdS X sts σ H D := fun pins s I => h.run pins s σ H D I q
end
section
variable (G : GX) (X : Cx) (E : XK) (H0 : Hp)
def PSt (s : Stmt) (g : Stm) : Prop := ∀ (B : Bs) (r : Env) (st : St) (σ : L2.St) (T : Tg) (al : List Addr) (H : Hp) (D : Ends), SI G X H0 B r σ st T al H → PostS G X E H0 B D (g r st) → RdS1 X s σ H D
def PBl (s : List Stmt) (g : Stm) : Prop := ∀ (B : Bs) (r : Env) (st : St) (σ : L2.St) (T : Tg) (al : List Addr) (H : Hp) (D : Ends), SI G X H0 B r σ st T al H → PostS G X E H0 B D (g r st) → RdS X s σ H D
end
section
variable {G : GX} {X : Cx} {E : XK} {H0 : Hp} {B : Bs}
variable {st : Stmt} {sts : List Stmt} {e : Expr} {pos : Pos}
theorem SI.step {r : Env} {σ : L2.St} {st st1 : St} {T T1 : Tg} {al al1 : List Addr} {H H1 : Hp} (S : SI G X H0 B r σ st T al H) (x : Ext T al H T1 al1 H1) (w : WI X.K G.TB T1 al1 st1 H1) : SI G X H0 B r σ st1 T1 al1 H1 := ⟨S.sl.ext x, w, S.ex.trans x, fun a o e => x.fz a o (S.fb a o e), by
  obtain ⟨p, e1⟩ := S.ab
  obtain ⟨q, e2⟩ := x.al
  exact ⟨p ++ q, by rw [e2, e1, List.append_assoc]⟩⟩
theorem SI.slot {r r' : Env} {σ σ' : L2.St} {st : St} {T : Tg} {al : List Addr} {H : Hp} (S : SI G X H0 B r σ st T al H) (h : SL X.K H0 T al H r' σ') : SI G X H0 B r' σ' st T al H := ⟨h, S.wi, S.ex, S.fb, S.ab⟩
/-- something that is no part of what stood gets a tag -/
theorem SI.tag {r r' : Env} {σ σ' : L2.St} {st : St} {T : Tg} {al : List Addr} {H : Hp} {p : Addr} {t : Tag} {o : HO} (S : SI G X H0 B r σ st T al H) (h0 : H0 p = none) (n : T p ≠ some .frz) (n2 : T p ≠ some .wld) (hp : H p = some o) (h : SL X.K H0 (tset T p t) al H r' σ') (ht : t ≠ .wld := by decide) : SI G X H0 B r' σ' st (tset T p t) al H :=
  ⟨h, S.wi.tag n n2 hp ht, S.ex.retag h0 _, fun a o e => fz_tset n a o (S.fb a o e), S.ab⟩
/-- an expression ahead of what follows in a statement -/
theorem seqS {b u : Type} {Rp : Hp → Tg → List Addr → Hp → u → b → Prop} {f : Mo b} {g : b → Mo Fl} {r : Env} {st : St} {σ : L2.St} {T : Tg} {al : List Addr} {H : Hp} {D : Ends} {Q1 : u → Hp → Prop} (S : SI G X H0 B r σ st T al H)
    (h : PostS G X E H0 B D ((f >>= g) st))
    (k : ∀ (x : b) (st1 : St) (v : u) (T1 : Tg) (al1 : List Addr) (H1 : Hp), Ext T al H T1 al1 H1 → SI G X H0 B r σ st1 T1 al1 H1 → Rp H T1 al1 H1 v x → PostS G X E H0 B D (g x st1) → Q1 v H1) :
    Post G X.K (wE E) Rp σ T al H Q1 (f st) := by
  rw [bind_ap] at h
  cases e : f st with
  | ok x st1 =>
    rw [e] at h
    exact fun v T1 al1 H1 x1 w1 r1 => k x st1 v T1 al1 H1 x1 (S.step x1 w1) r1 h
  | err c x st1 =>
    rw [e] at h
    exact fun dx v T' al' H' e' w n hd rr => h dx v T' al' H' (S.ex.trans e') w (S.ex.free n) hd rr
  | bad =>
    rw [e] at h
    exact h
theorem optS {b : Type} {o : Option b} {g : b → Mo Fl} {st : St} {D : Ends} {P : Prop} (q : PostS G X E H0 B D ((Mo.opt o >>= g) st)) (h : ∀ y, o = some y → PostS G X E H0 B D (g y st) → P) : P := by
  cases o with
  | none => exact q.elim
  | some y => exact h y rfl q

theorem set_get {b : Type} {r : List b} {i j : Nat} {x y : b} (h : (r.set i x)[j]? = some y) : (j = i ∧ y = x) ∨ (j ≠ i ∧ r[j]? = some y) := by
  by_cases e : j = i
  · subst e
    have hl : j < r.length := by
      have := (List.getElem?_eq_some_iff.mp h).1
      rw [List.length_set] at this
      exact this
    rw [List.getElem?_set_self hl] at h
    exact .inl ⟨rfl, (Option.some.inj h).symm⟩
  · rw [List.getElem?_set_ne (Ne.symm e)] at h
    exact .inr ⟨e, h⟩
theorem SL.setD {K : PySem.W.Frag} {T : Tg} {al : List Addr} {H : Hp} {r : Env} {σ : L2.St} {i : Nat} {v : V} {x : D} (S : SL K H0 T al H r σ) (h : Rep K (fz T H) al v x) : SL K H0 T al H (r.set i (some (.d x))) (σ.set i (some v)) where
  len := by rw [List.length_set, List.length_set]; exact S.len
  at_ := fun j y hj => by
    rcases set_get hj with ⟨rfl, e⟩ | ⟨ne, hj⟩
    · have e' : y = .d x := Option.some.inj e
      subst e'
      have hl : j < σ.length := by
        rw [S.len]
        have := (List.getElem?_eq_some_iff.mp hj).1
        rw [List.length_set] at this
        exact this
      exact ⟨v, List.getElem?_set_self hl, h⟩
    · obtain ⟨u, h1, h2⟩ := S.at_ j y hj
      exact ⟨u, by rw [List.getElem?_set_ne (Ne.symm ne)]; exact h1, h2⟩
  ap := fun j k y z u njk hj hk oj ok hu hv => by
    rcases set_get hj with ⟨rfl, e⟩ | ⟨ne, hj⟩
    · have e' : y = .d x := Option.some.inj e
      subst e'
      cases oj
    · rcases set_get hk with ⟨rfl, e⟩ | ⟨ne2, hk⟩
      · have e' : z = .d x := Option.some.inj e
        subst e'
        cases ok
      · rw [List.getElem?_set_ne (Ne.symm ne)] at hu
        rw [List.getElem?_set_ne (Ne.symm ne2)] at hv
        exact S.ap j k y z u njk hj hk oj ok hu hv
/-- an own thing at an address that no other slot owns -/
theorem SL.setO {K : PySem.W.Frag} {T : Tg} {al : List Addr} {H : Hp} {r : Env} {σ : L2.St} {i : Nat} {v : V} {x : SV} (S : SL K H0 T al H r σ) (h : SRep K H0 T al H v x) (hn : ∀ (j : Nat) (y : SV), j ≠ i → r[j]? = some (some y) → y.isOwn = true → σ[j]? ≠ some (some v)) : SL K H0 T al H (r.set i (some x)) (σ.set i (some v)) where
  len := by rw [List.length_set, List.length_set]; exact S.len
  at_ := fun j y hj => by
    rcases set_get hj with ⟨rfl, e⟩ | ⟨ne, hj⟩
    · have e' : y = x := Option.some.inj e
      subst e'
      have hl : j < σ.length := by
        rw [S.len]
        have := (List.getElem?_eq_some_iff.mp hj).1
        rw [List.length_set] at this
        exact this
      exact ⟨v, List.getElem?_set_self hl, h⟩
    · obtain ⟨u, h1, h2⟩ := S.at_ j y hj
      exact ⟨u, by rw [List.getElem?_set_ne (Ne.symm ne)]; exact h1, h2⟩
  ap := fun j k y z u njk hj hk oj ok hu hv => by
    rcases set_get hj with ⟨rfl, e⟩ | ⟨ne, hj⟩
    · rcases set_get hk with ⟨rfl, _⟩ | ⟨ne2, hk⟩
      · exact njk rfl
      · rcases set_get hu with ⟨_, eu⟩ | ⟨z1, _⟩
        · rw [List.getElem?_set_ne (Ne.symm ne2)] at hv
          have : u = v := Option.some.inj eu
          rw [this] at hv
          exact hn k z ne2 hk ok hv
        · exact z1 rfl
    · have hj3 := hj
      rcases set_get hk with ⟨e5, e⟩ | ⟨ne2, hk⟩
      · rw [e5] at hv
        rcases set_get hv with ⟨_, eu⟩ | ⟨z1, _⟩
        · rw [List.getElem?_set_ne (Ne.symm ne)] at hu
          have : u = v := Option.some.inj eu
          rw [this] at hu
          exact hn j y ne hj3 oj hu
        · exact z1 rfl
      · rw [List.getElem?_set_ne (Ne.symm ne)] at hu
        rw [List.getElem?_set_ne (Ne.symm ne2)] at hv
        exact S.ap j k y z u njk hj hk oj ok hu hv
/-- what an own slot holds is tracked -/
theorem own_at {K : PySem.W.Frag} {T : Tg} {al : List Addr} {H : Hp} {r : Env} {σ : L2.St} {j : Nat} {y : SV} {p : Addr} (S : SL K H0 T al H r σ) (hj : r[j]? = some (some y)) (o : y.isOwn = true) (h : σ[j]? = some (some (.ref p))) : T p = some .own ∧ ∃ u, H p = some u := by
  obtain ⟨v, h1, h2⟩ := S.at_ j y hj
  rw [h1] at h
  have e : v = .ref p := Option.some.inj (Option.some.inj h)
  subst e
  cases y with
  | d x => cases o
  | own xs =>
    obtain ⟨l, vs, e, ht, _, hl, _⟩ := h2
    cases e
    exact ⟨ht, _, hl⟩
  | odT kvs =>
    obtain ⟨l, vs, e, ht, _, hl, _⟩ := h2
    cases e
    exact ⟨ht, _, hl⟩
theorem SL.retag {K : PySem.W.Frag} {T : Tg} {al : List Addr} {H : Hp} {r : Env} {σ : L2.St} {p : Addr} {t : Tag} (S : SL K H0 T al H r σ) (n : T p = none) : SL K H0 (tset T p t) al H r σ := by
  refine ⟨S.len, fun i x hx => ?_, S.ap⟩
  obtain ⟨v, h1, h2⟩ := S.at_ i x hx
  refine ⟨v, h1, ?_⟩
  have hs : Same (fz T H) (fz (tset T p t) H) := fz_tset (by rw [n]; decide)
  cases x with
  | d x => exact Rep.mono hs ⟨[], by simp⟩ h2
  | own xs =>
    obtain ⟨l, vs, rfl, ht, h0, hl, rs⟩ := h2
    exact ⟨l, vs, rfl, by rw [tset_ne (fun z => by rw [z, n] at ht; cases ht)]; exact ht, h0, hl, rs.mono hs ⟨[], by simp⟩⟩
  | odT kvs =>
    obtain ⟨l, vs, rfl, ht, h0, hl, rs⟩ := h2
    exact ⟨l, vs, rfl, by rw [tset_ne (fun z => by rw [z, n] at ht; cases ht)]; exact ht, h0, hl, paired_imp rs fun a b z => ⟨z.1, Rep.mono hs ⟨[], by simp⟩ z.2⟩⟩

theorem pbl_nil : PBl G X E H0 [] sNext := fun B r st σ T al H D S q => rdS pss_nil (q σ T al H S)
theorem pbl_cons {g h : Stm} (h1 : PSt G X E H0 st g) (h2 : PBl G X E H0 sts h) : PBl G X E H0 (st :: sts) (sSeq g h) := by
  intro B r s0 σ T al H D S q
  refine rdS (pss_cons ps_rd pss_rd) (h1 B r s0 σ T al H _ S ?_)
  have q' : PostS G X E H0 B D ((g r >>= fun x => match x with
    | .nx r' => h r'
    | y => pure y) s0) := q
  rw [bind_ap] at q'
  cases e : g r s0 with
  | ok fl st1 =>
    rw [e] at q'
    cases fl with
    | nx r' => exact fun σ1 T1 al1 H1 S1 => h2 B r' st1 σ1 T1 al1 H1 D S1 q'
    | ret x => exact q'
    | brk r' => exact q'
    | ct r' => exact q'
  | err c x st1 =>
    rw [e] at q'
    exact q'
  | bad =>
    rw [e] at q'
    exact q'
theorem pbl_one {g : Stm} (h1 : PSt G X E H0 st g) : PBl G X E H0 [st] g := fun B r s0 σ T al H D S q => rdS (pss_one ps_rd) (h1 B r s0 σ T al H D S q)
/-- a step that is no statement of the program ahead of a block -/
theorem pbl_ghost {g h : Stm} (h1 : ∀ (B : Bs) (r : Env) (s0 : St) (σ : L2.St) (T : Tg) (al : List Addr) (H : Hp), SI G X H0 B r σ s0 T al H → g r s0 = .bad ∨ ∃ r' T', g r s0 = .ok (.nx r') s0 ∧ SI G X H0 B r' σ s0 T' al H) (h2 : PBl G X E H0 sts h) : PBl G X E H0 sts (sSeq g h) := by
  intro B r s0 σ T al H D S q
  have q' : PostS G X E H0 B D ((g r >>= fun x => match x with
    | .nx r' => h r'
    | y => pure y) s0) := q
  rw [bind_ap] at q'
  rcases h1 B r s0 σ T al H S with e | ⟨r', T', e, S'⟩
  · rw [e] at q'
    exact q'.elim
  · rw [e] at q'
    exact h2 B r' s0 σ T' al H D S' q'
theorem pst_set {f : Env → Mo D} {i : Nat} {x : Str} {pos' : Pos} (hN : X.N.Nodup) (he : PD G X (wE E) H0 e f) (hi : X.N[i]? = some x := by rfl) (hx : Loc X.env.scope x := by first | exact Or.inl rfl | exact Or.inr rfl)
    (hs : swapsWith e (some (.Name x pos')) pos.line X.env = pure false := by rfl) (hf : X.fn x = true ∨ X.env.scope.names.lookup x = some .local := by first | exact .inl rfl | exact .inr rfl) : PSt G X E H0 (.Assign [.Name x pos'] e pos) (sSet i f) := by
  intro B r s0 σ T al H D S q
  refine rdS1 (ps_set hN hi hx pe_rd hs hf) (he r s0 σ T al H _ S.sl S.wi (seqS S q fun y st1 v T1 al1 H1 x1 S1 r1 q1 => ?_))
  exact q1 _ T1 al1 H1 (S1.slot (S1.sl.setD r1))
theorem pst_own {f : Env → Mo (List D)} {i : Nat} {x : Str} {pos' : Pos} (hN : X.N.Nodup) (he : PN G X (wE E) H0 e f) (hi : X.N[i]? = some x := by rfl) (hx : Loc X.env.scope x := by first | exact Or.inl rfl | exact Or.inr rfl)
    (hs : swapsWith e (some (.Name x pos')) pos.line X.env = pure false := by rfl) (hf : X.fn x = true ∨ X.env.scope.names.lookup x = some .local := by first | exact .inl rfl | exact .inr rfl) : PSt G X E H0 (.Assign [.Name x pos'] e pos) (sOwn i f) := by
  intro B r s0 σ T al H D S q
  refine rdS1 (ps_set hN hi hx pe_rd hs hf) (he r s0 σ T al H _ S.sl S.wi (seqS S q fun y st1 v T1 al1 H1 x1 S1 r1 q1 => ?_))
  obtain ⟨p, vs, rfl, n0, tp, hp, rs⟩ := r1
  have nz : H0 p = none := S.ex.free n0
  refine q1 _ (tset T1 p .own) al1 H1 (S1.tag nz (by rw [tp]; decide) (by rw [tp]; decide) hp ?_)
  refine (S1.sl.retag tp).setO ⟨p, vs, rfl, tset_same, nz, hp, rs.mono (fz_tset (by rw [tp]; decide)) ⟨[], by simp⟩⟩ fun j y _ hj o hz => ?_
  obtain ⟨ht, _⟩ := own_at S1.sl hj o hz
  rw [tp] at ht
  cases ht
theorem pst_ret {f : Env → Mo D} (he : PD G X (wE E) H0 e f) : PSt G X E H0 (.Return (some e) pos) (sRet f) := by
  intro B r s0 σ T al H D S q
  exact rdS1 (ps_ret pe_rd) (he r s0 σ T al H _ S.sl S.wi (seqS S q fun y st1 v T1 al1 H1 x1 S1 r1 q1 => q1 v T1 al1 H1 S1.ex S1.wi r1))
theorem pst_retN : PSt G X E H0 (.Return none pos) sRetN := fun B r s0 σ T al H D S q => rdS1 ps_retN (q .non T al H S.ex S.wi .non)
theorem pst_pass : PSt G X E H0 (.Pass pos) sNext := fun B r s0 σ T al H D S q => rdS1 ps_pass (q σ T al H S)
theorem pst_brk : PSt G X E H0 (.Break pos) sBrk := fun B r s0 σ T al H D S q => rdS1 ps_break (q σ T al H S)
theorem pst_ct : PSt G X E H0 (.Continue pos) sCt := fun B r s0 σ T al H D S q => rdS1 ps_continue (q σ T al H S)
theorem pst_expr {f : Env → Mo D} (he : PD G X (wE E) H0 e f) (hs : swapsWith e none pos.line X.env = pure false := by rfl) : PSt G X E H0 (.Expr e pos) (sExpr f) := by
  intro B r s0 σ T al H D S q
  exact rdS1 (ps_expr pe_rd hs) (he r s0 σ T al H _ S.sl S.wi (seqS S q fun y st1 v T1 al1 H1 x1 S1 r1 q1 => q1 σ T1 al1 H1 S1))
theorem pst_if {c : Expr} {a b : List Stmt} {t : Env → Mo Bool} {g h : Stm} (hc : PB G X (wE E) H0 c t) (ha : PBl G X E H0 a g) (hb : PBl G X E H0 b h) : PSt G X E H0 (.If c a b pos) (sIf t g h) := by
  intro B r s0 σ T al H D S q
  refine rdS1 (ps_if pt_rd pss_rd pss_rd) (hc r s0 σ T al H _ S.sl S.wi (seqS S q fun y st1 v T1 al1 H1 x1 S1 r1 q1 => ?_))
  cases r1
  cases y with
  | true => exact iteT (ha B r st1 σ T1 al1 H1 D S1 q1)
  | false => exact iteF (hb B r st1 σ T1 al1 H1 D S1 q1)
/-- the wishes of several targets -/
theorem setAll_ok {K : PySem.W.Frag} {T : Tg} {al : List Addr} {H : Hp} : ∀ {is : List Nat} {xs : List D} {vs : List V} {r : Env} {σ : L2.St}, is.length = xs.length → SL K H0 T al H r σ → RepAll K (fz T H) al vs xs →
    ∃ σ', SL K H0 T al H (setAll is xs r) σ' ∧ ∀ (Q : L2.St → Hp → Prop), Q σ' H → (is.map gName).foldr (fun g u => gCons g u) gNil vs σ H Q
  | [], [], _, r, σ, _, S, h => by
    cases h
    exact ⟨σ, S, fun Q q => ⟨rfl, q⟩⟩
  | i :: is, x :: xs, _, r, σ, hl, S, h => by
    cases h with
    | cons h1 h2 =>
      obtain ⟨σ', S', q'⟩ := setAll_ok (is := is) (xs := xs) (by simpa using hl) (S.setD (i := i) h1) h2
      exact ⟨σ', S', fun Q q => ⟨_, _, rfl, q' Q q⟩⟩
  | [], _ :: _, _, _, _, hl, _, _ => by cases hl
  | _ :: _, [], _, _, _, hl, _, _ => by cases hl
theorem pst_unp {f : Env → Mo D} {is : List Nat} {es : List Expr} {k : Nat} {p : Pos} (hc : X.calm = true) (he : PD G X (wE E) H0 e f) (hg : PGs X es ((is.map gName).foldr (fun g u => gCons g u) gNil)) (hl : es.length = is.length := by rfl)
    (hn : (assignEach es X.env).length = is.length := by rfl) (hst : (assignEach es X.env).findIdx? (·.1) = none := by rfl)
    (hs : swapsWithSole [.Tuple es k p] e pos.line X.env = pure false := by rfl) (hw : swappedStores [.Tuple es k p] e X.env = pure none := by rfl) : PSt G X E H0 (.Assign [.Tuple es k p] e pos) (sUnp is f) := by
  intro B r s0 σ T al H D S q
  refine rdS1 (ps_asg pe_rd (pg_tup hc hg hn hst) hs hw) (he r s0 σ T al H _ S.sl S.wi (seqS S q fun y st1 v T1 al1 H1 x1 S1 r1 q1 => ?_))
  refine optS q1 fun xs hx q2 => ?_
  cases y with
  | tup ys =>
    have hx' : (match Nat.beq ys.length is.length with
      | true => some ys
      | false => none) = some xs := hx
    cases eb : Nat.beq ys.length is.length with
    | false => rw [eb] at hx'; cases hx'
    | true =>
      rw [eb] at hx'
      have ex : ys = xs := Option.some.inj hx'
      subst ex
      have hl2 : ys.length = is.length := Nat.eq_of_beq_eq_true eb
      obtain ⟨a, vs, rfl, hs1, rs⟩ := rep_tup r1
      obtain ⟨σ', S', q'⟩ := setAll_ok (is := is) hl2.symm S1.sl rs
      exact ⟨a, vs, rfl, Same.seqT fz_same hs1, by rw [rs.length, hl2], q' _ (q2 σ' T1 al1 H1 (S1.slot S'))⟩
  | _ => cases hx
theorem pst_par {f : Env → Mo (List D)} {i j : Nat} {x y : Str} {a b : Expr} {px py pt : Pos} {kt k2 pt2} (hc : X.calm = true) (hN : X.N.Nodup) (ha : PL G X (wE E) H0 [a, b] f) (hi : X.N[i]? = some x := by rfl) (hj : X.N[j]? = some y := by rfl) (hij : i ≠ j := by decide)
    (hx : X.env.scope.names.lookup x = some .local := by rfl) (hy : X.env.scope.names.lookup y = some .local := by rfl)
    (hw : swappedStores [.Tuple [.Name x px, .Name y py] kt pt] (.Tuple [a, b] k2 pt2) X.env = pure (some [x, y]) := by rfl)
    (hs : swapsWithSole [.Tuple [.Name x px, .Name y py] kt pt] (.Tuple [a, b] k2 pt2) pos.line X.env = pure false := by rfl) :
    PSt G X E H0 (.Assign [.Tuple [.Name x px, .Name y py] kt pt] (.Tuple [a, b] k2 pt2) pos) (sPar i j f) := by
  intro B r s0 σ T al H D S q
  refine rdS1 (ps_par hc hN hi hj hij hx hy pa_rd hw hs) (ha r s0 σ T al H _ S.sl S.wi (seqS S q fun ys st1 v T1 al1 H1 x1 S1 r1 q1 => ?_))
  match ys, r1, q1 with
  | [p, z], r1, q1 =>
    cases r1 with
    | cons ra rb =>
      cases rb with
      | cons rc rd =>
        cases rd
        exact ⟨_, _, rfl, q1 _ T1 al1 H1 (S1.slot ((S1.sl.setD ra).setD rc))⟩
  | [], _, q1 => exact q1.elim
  | [_], _, q1 => exact q1.elim
  | _ :: _ :: _ :: _, _, q1 => exact q1.elim
/-- an own list stands still from here on -/
theorem frz_ghost {i : Nat} (B : Bs) (r : Env) (s0 : St) (σ : L2.St) (T : Tg) (al : List Addr) (H : Hp) (S : SI G X H0 B r σ s0 T al H) : sFrz i r s0 = .bad ∨ ∃ r' T', sFrz i r s0 = .ok (.nx r') s0 ∧ SI G X H0 B r' σ s0 T' al H := by
  unfold sFrz
  split
  · rename_i xs hi
    obtain ⟨v, h1, l, vs, rfl, ht, h0, hl, rs⟩ := S.sl.at_ i _ hi
    refine .inr ⟨_, tset T l .frz, rfl, ?_⟩
    have nf : T l ≠ some .frz := by rw [ht]; decide
    have hs : Same (fz T H) (fz (tset T l .frz) H) := fz_tset nf
    refine S.tag h0 nf (by rw [ht]; decide) hl ⟨by rw [List.length_set]; exact S.sl.len, fun j y hj => ?_, fun j k y z u njk hj hk oj ok hu => ?_⟩
    · rcases set_get hj with ⟨rfl, e⟩ | ⟨ne, hj⟩
      · have e' : y = .d (.lst xs) := Option.some.inj e
        subst e'
        exact ⟨_, h1, .lst (fz_of tset_same hl) (rs.mono hs ⟨[], by simp⟩)⟩
      · obtain ⟨u, u1, u2⟩ := S.sl.at_ j y hj
        refine ⟨u, u1, ?_⟩
        cases y with
        | d x => exact Rep.mono hs ⟨[], by simp⟩ u2
        | own ys =>
          obtain ⟨l2, vs2, rfl, ht2, h02, hl2, rs2⟩ := u2
          have nl : l2 ≠ l := fun z => S.sl.ap j i _ _ _ ne hj hi rfl rfl u1 (by rw [z]; exact h1)
          exact ⟨l2, vs2, rfl, by rw [tset_ne nl]; exact ht2, h02, hl2, rs2.mono hs ⟨[], by simp⟩⟩
        | odT kvs =>
          obtain ⟨l2, vs2, rfl, ht2, h02, hl2, rs2⟩ := u2
          have nl : l2 ≠ l := fun z => S.sl.ap j i _ _ _ ne hj hi rfl rfl u1 (by rw [z]; exact h1)
          exact ⟨l2, vs2, rfl, by rw [tset_ne nl]; exact ht2, h02, hl2, paired_imp rs2 fun a b z => ⟨z.1, Rep.mono hs ⟨[], by simp⟩ z.2⟩⟩
    · rcases set_get hj with ⟨rfl, e⟩ | ⟨ne, hj⟩
      · have e' : y = .d (.lst xs) := Option.some.inj e
        subst e'
        cases oj
      · rcases set_get hk with ⟨rfl, e⟩ | ⟨ne2, hk⟩
        · have e' : z = .d (.lst xs) := Option.some.inj e
          subst e'
          cases ok
        · exact S.sl.ap j k y z u njk hj hk oj ok hu
  · exact .inl rfl
theorem pbl_frz {h : Stm} (i : Nat) (h2 : PBl G X E H0 sts h) : PBl G X E H0 sts (sSeq (sFrz i) h) := pbl_ghost frz_ghost h2
end
end Pi
namespace Pi
open PySem PySem.Spec PyProof.Rows L2

def RdI (X : Cx) (tg iter : Expr) (σ : L2.St) (H : Hp) (R : It → Hp → Prop) : Prop := ∀ (pins : List (Addr × Obj)) (s : Shared), Inv X pins σ H s →
  wpAny (model X.prog X.w) X.A (eval iter X.env) (fun v s1 => wpAny (model X.prog X.w) X.A (pyIter v) (PIE X pins σ tg R) X.xe s1) X.xe s
theorem pi_rd {X : Cx} {tg iter : Expr} : PI X tg iter (RdI X tg iter) := ⟨fun pins s _ _ _ I h => h pins s I⟩
theorem rdI {X : Cx} {tg iter : Expr} {σ : L2.St} {H : Hp} {R : It → Hp → Prop} {wi : TI} (h : PI X tg iter wi) (q : wi σ H R) : RdI X tg iter σ H R := fun pins s I => h.run pins s σ H R I q
/-- an iterator gives xs, one after another, as long as what stood still stands -/
def ItOk (K : PySem.W.Frag) (TB : List (Addr × Str)) (F : Hp) (ab : List Addr) (J : It) (xs : List D) : Prop :=
  ∀ (T : Tg) (al : List Addr) (H : Hp) (st : St), Same F (fz T H) → (∃ b, al = ab ++ b) → WI K TB T al st H → ∀ i : Nat,
    (∀ x, xs[i]? = some x → J.go i H ∧ ∀ v H3, J.yld i H v H3 → ∃ T3, Ext T al H T3 al H3 ∧ WI K TB T3 al st H3 ∧ Rep K (fz T3 H3) al v x) ∧ (i = xs.length → J.stop i H)
def RpI (K : PySem.W.Frag) (TB : List (Addr × Str)) : Hp → Tg → List Addr → Hp → It → List D → Prop := fun _ T al H J xs => ItOk K TB (fz T H) al J xs
theorem back_I {K : PySem.W.Frag} {TB : List (Addr × Str)} : Back (RpI K TB) := fun _ _ _ _ _ _ _ _ h => h
def PIt (G : GX) (X : Cx) (W : WX) (H0 : Hp) (tg iter : Expr) (f : Env → Mo (List D)) : Prop := ∀ (r : Env) (st : St) (σ : L2.St) (T : Tg) (al : List Addr) (H : Hp) (R : It → Hp → Prop), SL X.K H0 T al H r σ → WI X.K G.TB T al st H →
  Post G X.K W (RpI X.K G.TB) σ T al H R (f r st) → RdI X tg iter σ H R
def D.items : D → Option (List D)
  | .tup xs => some xs
  | .lst xs => some xs
  | .ktp xs => some xs
  | _ => none
def iDat (f : Env → Mo D) : Env → Mo (List D) := fun r => f r >>= fun x => Mo.opt x.items
def rangeD (lo : Int) (n : Nat) : List D := (List.range n).map fun (i : Nat) => D.int (lo + (i : Int))
def rng1 : List D → Option (List D)
  | [.int n] => match decide (-4611686018427387904 ≤ n) && decide (n < 4611686018427387904) with
    | true => some (rangeD 0 n.toNat)
    | false => none
  | _ => none
def rng2 : List D → Option (List D)
  | [.int m, .int n] => match decide (-4611686018427387904 ≤ m) && decide (m < 4611686018427387904) && decide (-4611686018427387904 ≤ n) && decide (n < 4611686018427387904) with
    | true => some (rangeD m (n - m).toNat)
    | false => none
  | _ => none
theorem rng1_ok {ys xs : List D} (h : rng1 ys = some xs) : ∃ n : Int, ys = [.int n] ∧ (-4611686018427387904 ≤ n ∧ n < 4611686018427387904) ∧ xs = rangeD 0 n.toNat := by
  unfold rng1 at h
  split at h
  · rename_i n
    cases e : decide (-4611686018427387904 ≤ n) && decide (n < 4611686018427387904) with
    | false => rw [e] at h; cases h
    | true =>
      rw [e] at h
      simp only [Bool.and_eq_true, decide_eq_true_eq] at e
      exact ⟨n, rfl, e, (Option.some.inj h).symm⟩
  · cases h
theorem rng2_ok {ys xs : List D} (h : rng2 ys = some xs) : ∃ m n : Int, ys = [.int m, .int n] ∧ (-4611686018427387904 ≤ m ∧ m < 4611686018427387904 ∧ -4611686018427387904 ≤ n ∧ n < 4611686018427387904) ∧ xs = rangeD m (n - m).toNat := by
  unfold rng2 at h
  split at h
  · rename_i m n
    cases e : decide (-4611686018427387904 ≤ m) && decide (m < 4611686018427387904) && decide (-4611686018427387904 ≤ n) && decide (n < 4611686018427387904) with
    | false => rw [e] at h; cases h
    | true =>
      rw [e] at h
      simp only [Bool.and_eq_true, decide_eq_true_eq] at e
      exact ⟨m, n, rfl, ⟨e.1.1.1, e.1.1.2, e.1.2, e.2⟩, (Option.some.inj h).symm⟩
  · cases h
def iRng1 (f : Env → Mo (List D)) : Env → Mo (List D) := fun r => f r >>= fun x => Mo.opt (rng1 x)
def iRng2 (f : Env → Mo (List D)) : Env → Mo (List D) := fun r => f r >>= fun x => Mo.opt (rng2 x)
section
variable {G : GX} {X : Cx} {W : WX} {H0 : Hp} {tg iter e : Expr}
theorem itok_list {K : PySem.W.Frag} {TB : List (Addr × Str)} {F : Hp} {ab : List Addr} {a : Addr} {vs : List V} {xs : List D} (h : SqL K F a vs) (r : RepAll K F ab vs xs) : ItOk K TB F ab (Itl K a) xs := by
  intro T al H st hs ha w i
  have h2 : SqL K H a vs := Same.seq fz_same (Same.seq hs h)
  refine ⟨fun x hx => ?_, fun hx => ?_⟩
  · obtain ⟨u, hu, ru⟩ := r.get hx
    refine ⟨⟨vs, u, h2, hu⟩, fun v H3 y => ?_⟩
    obtain ⟨rfl, y⟩ := y
    have e := y vs h2
    rw [hu] at e
    cases e
    exact ⟨T, .refl, w, ru.mono hs ha⟩
  · exact ⟨vs, h2, by rw [r.length]; omega⟩
theorem itok_tup {K : PySem.W.Frag} {TB : List (Addr × Str)} {F : Hp} {ab : List Addr} {a : Addr} {vs : List V} {xs : List D} (h : SqT K F a vs) (r : RepAll K F ab vs xs) : ItOk K TB F ab (Itt K a) xs := by
  intro T al H st hs ha w i
  have h2 : SqT K H a vs := Same.seqT fz_same (Same.seqT hs h)
  refine ⟨fun x hx => ?_, fun hx => ?_⟩
  · obtain ⟨u, hu, ru⟩ := r.get hx
    refine ⟨⟨vs, u, h2, hu⟩, fun v H3 y => ?_⟩
    obtain ⟨rfl, y⟩ := y
    have e := y vs h2
    rw [hu] at e
    cases e
    exact ⟨T, .refl, w, ru.mono hs ha⟩
  · exact ⟨vs, h2, by rw [r.length]; omega⟩
theorem itok_range {K : PySem.W.Frag} {TB : List (Addr × Str)} {F : Hp} {ab : List Addr} (lo : Int) (n : Nat) : ItOk K TB F ab (Itr lo n) (rangeD lo n) := by
  intro T al H st hs ha w i
  have hl : (rangeD lo n).length = n := by unfold rangeD; simp
  refine ⟨fun x hx => ?_, fun hx => ?_⟩
  · have hi : i < n := by rw [← hl]; exact (List.getElem?_eq_some_iff.mp hx).1
    refine ⟨hi, fun v H3 y => ?_⟩
    obtain ⟨rfl, rfl⟩ := y
    unfold rangeD at hx
    rw [List.getElem?_map, List.getElem?_range hi] at hx
    have e : D.int (lo + i) = x := Option.some.inj hx
    subst e
    exact ⟨T, .refl, w, .int _⟩
  · rw [hl] at hx
    exact Nat.le_of_eq hx.symm
theorem pit_dat {f : Env → Mo D} (he : PD G X W H0 iter f) : PIt G X W H0 tg iter (iDat f) := by
  intro r st σ T al H R S w q pins s I
  refine thn (he r st σ T al H (fun x H1 => (∃ a xs, x = .ref a ∧ SqL X.K H1 a xs ∧ R (Itl X.K a) H1) ∨ (∃ a xs, x = .ref a ∧ SqT X.K H1 a xs ∧ R (Itt X.K a) H1)) S w ?_ pins s I) fun v s1 ⟨x, H1, I1, r1, q1⟩ => ?_
  · refine seqP back_I q fun x st1 v T1 al1 H1 _ x1 w1 r1 q1 => ?_
    refine optP q1 fun xs hx q2 => ?_
    cases x with
    | tup ys =>
      have ey : ys = xs := Option.some.inj hx
      subst ey
      obtain ⟨a, vs, rfl, h1, h2⟩ := rep_tup r1
      exact .inr ⟨a, vs, rfl, Same.seqT fz_same h1, q2 _ T1 al1 H1 .refl w1 (itok_tup h1 h2)⟩
    | ktp ys =>
      have ey : ys = xs := Option.some.inj hx
      subst ey
      obtain ⟨a, vs, rfl, h1, h2⟩ := rep_ktp r1
      exact .inr ⟨a, vs, rfl, sqT_k h1, q2 _ T1 al1 H1 .refl w1 (itok_tup (sqT_k h1) h2)⟩
    | lst ys =>
      have ey : ys = xs := Option.some.inj hx
      subst ey
      obtain ⟨a, vs, rfl, h1, h2⟩ := rep_lst r1
      exact .inl ⟨a, vs, rfl, .inl (.inl (fz_same _ _ h1)), q2 _ T1 al1 H1 .refl w1 (itok_list (.inl (.inl h1)) h2)⟩
    | _ => cases hx
  · rcases q1 with ⟨a, xs, e, hq, q⟩ | ⟨a, xs, e, hq, q⟩
    · subst e
      cases r1
      obtain ⟨its, rv, p, hz⟩ := I1.list hq
      refine wpAny_pyIter_list p.isList ?_
      refine ⟨s1.heap.objs.size, [s1.heap.objs.size], _, _, H1, rfl, I1.kept (t' := s1.toks) fun b o e => Heap.get?_push_of_some _ e, turn_list a _, ⟨_, Heap.get?_push_size _ rfl, rfl, rfl⟩, fun b hb => ?_, q⟩
      have e : b = s1.heap.objs.size := by simpa using hb
      subst e
      exact I1.fpOk (Nat.le_refl _) (I1.hok.fresh (Nat.le_refl _))
    · subst e
      cases r1
      obtain ⟨its, rv, p, hz⟩ := I1.tuple hq
      refine wpAny_pyIter_tuple (show s1.heap.IsTuple a its.toArray from p) ?_
      refine ⟨s1.heap.objs.size, [s1.heap.objs.size], _, _, H1, rfl, I1.kept (t' := s1.toks) fun b o e => Heap.get?_push_of_some _ e, turn_tuple a _, ⟨_, Heap.get?_push_size _ rfl, rfl, rfl⟩, fun b hb => ?_, q⟩
      have e : b = s1.heap.objs.size := by simpa using hb
      subst e
      exact I1.fpOk (Nat.le_refl _) (I1.hok.fresh (Nat.le_refl _))
theorem pit_range1 {a : Expr} {f : Env → Mo (List D)} {p pos : Pos} (hm : X.mg "range" = none) (ha : PL G X W H0 [a] f) (hg : Gl X "range" := by rfl) (hs : starEach [a] X.env = [(false, eval a X.env)] := by rfl) : PIt G X W H0 tg (.Call (.Name "range" p) [a] [] pos) (iRng1 f) := by
  intro r st σ T al H R S w q
  refine rdI (pi_range1 hg hm pa_rd hs) (ha r st σ T al H _ S w (seqP back_I q fun ys st1 vs T1 al1 H1 _ x1 w1 r1 q1 => ?_))
  refine optP q1 fun xs hx q2 => ?_
  obtain ⟨n, rfl, e, rfl⟩ := rng1_ok hx
  cases r1 with
  | cons ra rb =>
    cases rb
    exact ⟨n, by rw [rep_int ra], by omega, by omega, q2 _ T1 al1 H1 .refl w1 (itok_range 0 n.toNat)⟩
theorem pit_range2 {a b : Expr} {f : Env → Mo (List D)} {p pos : Pos} (hm : X.mg "range" = none) (ha : PL G X W H0 [a, b] f) (hg : Gl X "range" := by rfl) (hs : starEach [a, b] X.env = [(false, eval a X.env), (false, eval b X.env)] := by rfl) (hs2 : starEach [b] X.env = [(false, eval b X.env)] := by rfl) :
    PIt G X W H0 tg (.Call (.Name "range" p) [a, b] [] pos) (iRng2 f) := by
  intro r st σ T al H R S w q
  refine rdI (pi_range2 hg hm pa_rd hs hs2) (ha r st σ T al H _ S w (seqP back_I q fun ys st1 vs T1 al1 H1 _ x1 w1 r1 q1 => ?_))
  refine optP q1 fun xs hx q2 => ?_
  obtain ⟨m, n, rfl, e, rfl⟩ := rng2_ok hx
  cases r1 with
  | cons ra rb =>
    cases rb with
    | cons rc rd =>
      cases rd
      exact ⟨m, n, by rw [rep_int ra, rep_int rc], ⟨by omega, by omega, by omega, by omega⟩, q2 _ T1 al1 H1 .refl w1 (itok_range m (n - m).toNat)⟩
end

theorem setAll_ok2 {K : PySem.W.Frag} {H0 : Hp} {T : Tg} {al : List Addr} {H : Hp} : ∀ {is : List Nat} {xs : List D} {vs : List V} {r : Env} {σ : L2.St}, is.length = xs.length → SL K H0 T al H r σ → RepAll K (fz T H) al vs xs →
    ∃ σ', SL K H0 T al H (setAll is xs r) σ' ∧ (σ'.length = σ.length ∧ ∀ j, j ∉ is → σ'[j]? = σ[j]?) ∧ ∀ (Q : L2.St → Hp → Prop), Q σ' H → (is.map gName).foldr (fun g u => gCons g u) gNil vs σ H Q
  | [], [], _, r, σ, _, S, h => by
    cases h
    exact ⟨σ, S, ⟨rfl, fun _ _ => rfl⟩, fun Q q => ⟨rfl, q⟩⟩
  | i :: is, x :: xs, _, r, σ, hl, S, h => by
    cases h with
    | cons h1 h2 =>
      obtain ⟨σ', S', o', q'⟩ := setAll_ok2 (is := is) (xs := xs) (by simpa using hl) (S.setD (i := i) h1) h2
      refine ⟨σ', S', ⟨by rw [o'.1, List.length_set], fun j hj => ?_⟩, fun Q q => ⟨_, _, rfl, q' Q q⟩⟩
      rw [o'.2 j (fun z => hj (List.mem_cons_of_mem _ z)), List.getElem?_set_ne (fun z => hj (by rw [z]; exact List.mem_cons_self))]
  | [], _ :: _, _, _, _, hl, _, _ => by cases hl
  | _ :: _, [], _, _, _, hl, _, _ => by cases hl
/-- a target stores an item into the slots; b what the slots are then -/
def TgOk (K : PySem.W.Frag) (H0 : Hp) (b : D → Env → Option Env) (is : List Nat) (g : TG) : Prop := ∀ (x : D) (r r' : Env) (σ : L2.St) (T : Tg) (al : List Addr) (H : Hp) (v : V), b x r = some r' → SL K H0 T al H r σ → Rep K (fz T H) al v x →
  ∃ σ', SL K H0 T al H r' σ' ∧ (σ'.length = σ.length ∧ ∀ j, j ∉ is → σ'[j]? = σ[j]?) ∧ ∀ Q : L2.St → Hp → Prop, Q σ' H → g v σ H Q
def tgN (i : Nat) : D → Env → Option Env := fun x r => some (r.set i (some (.d x)))
def tgT (is : List Nat) : D → Env → Option Env := fun x r => (unpack is.length x).map fun xs => setAll is xs r
section
variable {X : Cx} {H0 : Hp} {pos : Pos}
theorem tgok_name {K : PySem.W.Frag} {i : Nat} : TgOk K H0 (tgN i) [i] (gName i) := fun y r r' σ T al H v e S h => by
  have e' : r.set i (some (.d y)) = r' := Option.some.inj e
  subst e'
  exact ⟨_, S.setD h, ⟨by rw [List.length_set], fun j hj => List.getElem?_set_ne (fun z => hj (by rw [z]; exact List.mem_cons_self))⟩, fun Q q => q⟩
theorem unpack_ok {n : Nat} {x : D} {xs : List D} (h : unpack n x = some xs) : x = .tup xs ∧ xs.length = n := by
  cases x with
  | tup ys =>
    have h' : (match Nat.beq ys.length n with
      | true => some ys
      | false => none) = some xs := h
    cases e : Nat.beq ys.length n with
    | false => rw [e] at h'; cases h'
    | true =>
      rw [e] at h'
      have ex : ys = xs := Option.some.inj h'
      subst ex
      exact ⟨rfl, Nat.eq_of_beq_eq_true e⟩
  | _ => cases h
abbrev gTs (is : List Nat) : TGs := (is.map gName).foldr (fun g u => gCons g u) gNil
theorem tgok_tup {K : PySem.W.Frag} {is : List Nat} : TgOk K H0 (tgT is) is (gTup K is.length (gTs is)) := fun y r r' σ T al H v e S h => by
  have e' : (unpack is.length y).map (fun xs => setAll is xs r) = some r' := e
  obtain ⟨xs, h1, h2⟩ := Option.map_eq_some_iff.mp e'
  obtain ⟨rfl, hl⟩ := unpack_ok h1
  obtain ⟨a, vs, rfl, hs, rs⟩ := rep_tup h
  obtain ⟨σ', S', o', q'⟩ := setAll_ok2 (is := is) hl.symm S rs
  subst h2
  exact ⟨σ', S', o', fun Q q => ⟨a, vs, rfl, Same.seqT fz_same hs, by rw [rs.length, hl], q' Q q⟩⟩
theorem pg_tupN {es : List Expr} {k : Nat} {is : List Nat} (hc : X.calm = true) (hg : PGs X es (gTs is)) (hn : (assignEach es X.env).length = is.length := by rfl) (hst : (assignEach es X.env).findIdx? (·.1) = none := by rfl) : PG X (.Tuple es k pos) (gTup X.K is.length (gTs is)) := pg_tup hc hg hn hst
end

def forL (b : D → Env → Option Env) (g : Stm) : List D → Stm
  | [] => fun r => pure (.nx r)
  | x :: xs => fun r => Mo.opt (b x r) >>= fun r1 => g r1 >>= fun fl => match fl with
    | .nx r2 => forL b g xs r2
    | .ct r2 => forL b g xs r2
    | .brk r2 => pure (.nx r2)
    | .ret v => pure (.ret v)
def sFor (f : Env → Mo (List D)) (b : D → Env → Option Env) (g : Stm) : Stm := fun r => f r >>= fun xs => forL b g xs r
section
variable {G : GX} {X : Cx} {E : XK} {H0 : Hp} {tg iter : Expr} {body : List Stmt} {pos : Pos}
theorem SI.base {B : Bs} {r : Env} {σ : L2.St} {st : St} {T : Tg} {al : List Addr} {H : Hp} (S : SI G X H0 B r σ st T al H) : SI G X H0 { B with F := fz T H, ab := al } r σ st T al H := ⟨S.sl, S.wi, S.ex, fun _ _ e => e, ⟨[], by simp⟩⟩
theorem SI.weak {B : Bs} {r r' : Env} {σ σ' : L2.St} {st st' : St} {T T' : Tg} {al al' : List Addr} {H H' : Hp} (S0 : SI G X H0 B r σ st T al H) (S : SI G X H0 { B with F := fz T H, ab := al } r' σ' st' T' al' H') : SI G X H0 B r' σ' st' T' al' H' :=
  ⟨S.sl, S.wi, S.ex, fun a o e => S.fb a o (S0.fb a o e), by
    obtain ⟨p, e1⟩ := S0.ab
    obtain ⟨q, e2⟩ := S.ab
    have e2' : al' = al ++ q := e2
    exact ⟨p ++ q, by rw [e2', e1, List.append_assoc]⟩⟩
theorem pst_for {f : Env → Mo (List D)} {b : D → Env → Option Env} {is : List Nat} {gt : TG} {g : Stm} (hp : PassesOwn (model X.prog X.w) X.A X.env X.xe) (hc : X.calm = true) (hi : PIt G X (wE E) H0 tg iter f) (hg : PG X tg gt) (hgs : TgOk X.K H0 b is gt) (hb : PBl G X E H0 body g)
    (hs : ∀ x, foldedSetIterable iter X.env x = pure x := by intro _; rfl) : PSt G X E H0 (.For tg iter body [] pos) (sFor f b g) := by
  intro B r s0 σ T al H D S q
  refine rdS1 (ps_for hp hc pi_rd hg pss_rd hs) (hi r s0 σ T al H _ S.sl S.wi (seqS S q fun xs st1 J T1 al1 H1 x1 S1 r1 q1 => ?_))
  -- xs stands still from here on
  refine ⟨fun i m σ2 H2 => m + i = xs.length ∧ ∃ (r2 : Env) (st2 : St) (T2 : Tg) (al2 : List Addr), SI G X H0 { B with F := fz T1 H1, ab := al1 } r2 σ2 st2 T2 al2 H2 ∧ PostS G X E H0 B D (forL b g (xs.drop i) r2 st2),
    ⟨xs.length, by omega, r, st1, T1, al1, S1.base, q1⟩, ?_⟩
  rintro i m σ2 H2 ⟨hm, r2, st2, T2, al2, S2, q2⟩
  obtain ⟨hgo, hstop⟩ := r1 T2 al2 H2 st2 S2.fb S2.ab S2.wi i
  cases hx : xs[i]? with
  | none =>
    refine .inl ⟨hstop (by have := List.getElem?_eq_none_iff.mp hx; omega), ?_⟩
    have hd : xs.drop i = [] := List.drop_of_length_le (List.getElem?_eq_none_iff.mp hx)
    rw [hd] at q2
    exact q2 σ2 T2 al2 H2 (S1.weak S2)
  | some x =>
    obtain ⟨go, yl⟩ := hgo x hx
    have hil : i < xs.length := (List.getElem?_eq_some_iff.mp hx).1
    have hd : xs.drop i = x :: xs.drop (i + 1) := by
      rw [List.drop_eq_getElem_cons hil]
      congr 1
      exact (List.getElem?_eq_some_iff.mp hx).2
    rw [hd] at q2
    refine .inr ⟨go, fun σ3 H3 => ∃ (r3 : Env) (st3 : St) (T3 : Tg) (al3 : List Addr), SI G X H0 { B with F := fz T1 H1, ab := al1 } r3 σ3 st3 T3 al3 H3 ∧ PostS G X E H0 B D (forL b g (xs.drop (i + 1)) r3 st3), fun σ3 H3 ⟨r3, st3, T3, al3, S3, q3⟩ => ⟨m - 1, by omega, by omega, r3, st3, T3, al3, S3, q3⟩, fun v H3 y => ?_⟩
    obtain ⟨T3, x3, w3, rv⟩ := yl v H3 y
    have S3 := S2.step x3 w3
    refine optS q2 fun r3 hr q3 => ?_
    obtain ⟨σ3, SL3, _, qg⟩ := hgs x r2 r3 σ2 T3 al2 H3 v hr S3.sl rv
    refine qg _ ?_
    have S4 : SI G X H0 { B with F := fz T1 H1, ab := al1 } r3 σ3 st2 T3 al2 H3 := S3.slot SL3
    refine hb _ r3 st2 σ3 T3 al2 H3 _ S4 ?_
    have q4 : PostS G X E H0 B D ((g r3 >>= fun fl => match fl with
      | .nx r2 => forL b g (xs.drop (i + 1)) r2
      | .ct r2 => forL b g (xs.drop (i + 1)) r2
      | .brk r2 => pure (.nx r2)
      | .ret v => pure (.ret v)) st2) := q3
    rw [bind_ap] at q4
    cases eg : g r3 st2 with
    | ok fl st5 =>
      rw [eg] at q4
      cases fl with
      | nx r5 => exact fun σ5 T5 al5 H5 S5 => ⟨r5, st5, T5, al5, S5, q4⟩
      | ct r5 => exact fun σ5 T5 al5 H5 S5 => ⟨r5, st5, T5, al5, S5, q4⟩
      | brk r5 => exact fun σ5 T5 al5 H5 S5 => q4 σ5 T5 al5 H5 (S1.weak S5)
      | ret x5 => exact q4
    | err c x5 st5 =>
      rw [eg] at q4
      exact q4
    | bad =>
      rw [eg] at q4
      exact q4
end
end Pi
namespace Pi
open PySem PySem.Spec PyProof.Rows L2

/-- where nothing may be raised -/
def nx {b : Type} (f : Mo b) : Mo b := fun st => match f st with
  | .ok x st' => .ok x st'
  | _ => .bad
theorem nx_ok {b : Type} {f : Mo b} {st st' : St} {x : b} (h : nx f st = .ok x st') : f st = .ok x st' := by
  unfold nx at h
  split at h
  · rename_i e
    rw [e]
    exact h
  · cases h
def wipeE (vs : List Nat) (r : Env) : Env := vs.foldr (fun v r => r.set v none) r
def lcL (b : D → Env → Option Env) (c : Env → Mo Bool) (e : Env → Mo D) (r : Env) : List D → Mo (List D)
  | [] => pure []
  | x :: xs => Mo.opt (b x r) >>= fun r1 => nx (c r1) >>= fun k => match k with
    | true => nx (e r1) >>= fun y => lcL b c e r xs >>= fun ys => pure (y :: ys)
    | false => lcL b c e r xs
/-- [e for b in f if c], vs the slots of its own -/
def nLc (f : Env → Mo (List D)) (b : D → Env → Option Env) (vs : List Nat) (c : Env → Mo Bool) (e : Env → Mo D) : Env → Mo (List D) := fun r => f r >>= fun xs => lim xs.length xs >>= fun ys => lcL b c e (wipeE vs r) ys
def bYes : Env → Mo Bool := fun _ => pure true

theorem wipe_SL {K : PySem.W.Frag} {H0 : Hp} {T : Tg} {al : List Addr} {H : Hp} {r : Env} {σ : L2.St} (S : SL K H0 T al H r σ) : ∀ vs : List Nat, SL K H0 T al H (wipeE vs r) (wipe σ vs)
  | [] => S
  | v :: vs => by
    have ih := wipe_SL S vs
    show SL K H0 T al H ((wipeE vs r).set v none) ((wipe σ vs).set v none)
    refine ⟨by rw [List.length_set, List.length_set]; exact ih.len, fun i x hx => ?_, fun i j x y u nij hi hj oi oj hu hv => ?_⟩
    · rcases set_get hx with ⟨_, e⟩ | ⟨ne, hx⟩
      · cases e
      · obtain ⟨w, h1, h2⟩ := ih.at_ i x hx
        exact ⟨w, by rw [List.getElem?_set_ne (Ne.symm ne)]; exact h1, h2⟩
    · rcases set_get hi with ⟨_, e⟩ | ⟨ne, hi⟩
      · cases e
      · rcases set_get hj with ⟨_, e⟩ | ⟨ne2, hj⟩
        · cases e
        · rw [List.getElem?_set_ne (Ne.symm ne)] at hu
          rw [List.getElem?_set_ne (Ne.symm ne2)] at hv
          exact ih.ap i j x y u nij hi hj oi oj hu hv
theorem wipe_in {σ : L2.St} {i : Nat} : ∀ {vs : List Nat}, i ∈ vs → i < σ.length → (wipe σ vs)[i]? = some none
  | v :: vs, h, hl => by
    unfold wipe
    by_cases e : v = i
    · subst e
      rw [List.getElem?_set_self (by rw [wipe_length]; exact hl)]
    · rw [List.getElem?_set_ne e]
      rcases List.mem_cons.mp h with z | z
      · exact absurd z.symm e
      · exact wipe_in z hl
/-- what differs from a wiped frame at the block's own slots alone is it, wiped -/
theorem wipe_back {σ σ2 : L2.St} {vs is : List Nat} (hl : σ2.length = (wipe σ vs).length) (h : ∀ j, j ∉ is → σ2[j]? = (wipe σ vs)[j]?) (hv : ∀ j ∈ is, j ∈ vs) : wipe σ2 vs = wipe σ vs := by
  have hl' : σ2.length = σ.length := by rw [hl, wipe_length]
  refine List.ext_getElem? fun i => ?_
  by_cases hi : i ∈ vs
  · by_cases hs : i < σ.length
    · rw [wipe_in hi (by rw [hl']; exact hs), wipe_in hi hs]
    · rw [List.getElem?_eq_none (by rw [wipe_length]; omega), List.getElem?_eq_none (by rw [wipe_length]; omega)]
  · rw [wipe_out hi, h i (fun z => hi (hv i z))]
theorem Ext.upd0 {T T' : Tg} {al al' : List Addr} {H H' : Hp} {p : Addr} {o : HO} (x : Ext T al H T' al' H') (n : H p = none) : Ext T al H T' al' (upd H' p o) where
  tg0 := x.tg0
  tgt := x.tgt
  tgw := x.tgw
  hp0 := fun a u e h t => by rw [upd_ne (ne_of_none e n)]; exact x.hp0 a u e h t
  wl := fun a u e => by rw [upd_ne (ne_of_none e n)]; exact x.wl a u e
  al := x.al
theorem fz_upd {T : Tg} {H : Hp} {p : Addr} {o : HO} (h : T p ≠ some .frz) : Same (fz T H) (fz T (upd H p o)) := fun a u e => by
  obtain ⟨h1, h2, ht⟩ := fz_all e
  have ne : a ≠ p := fun z => by
    rw [z] at h1
    exact h h1
  exact fz_of h1 (by rw [upd_ne ne]; exact h2) ht
/-- an object that is none of the world's changes -/
theorem WI.upd {K : PySem.W.Frag} {TB : List (Addr × Str)} {T : Tg} {al : List Addr} {st : St} {H : Hp} {p : Addr} {o u : HO} (w : WI K TB T al st H) (h1 : T p ≠ some .frz) (h2 : T p ≠ some .wld) (h : H p = some o) (ht : ∀ ps, o ≠ .tbl ps) (he : ∀ f, o ≠ .ext f) : WI K TB T al st (upd H p u) where
  tg := fun a t e => by
    by_cases z : a = p
    · exact ⟨u, by rw [z, upd_same]⟩
    · obtain ⟨v, q⟩ := w.tg a t e
      exact ⟨v, by rw [upd_ne z]; exact q⟩
  len := w.len
  cell := fun k a m e1 e2 => by
    obtain ⟨q1, q2⟩ := w.cell k a m e1 e2
    have ne : a ≠ p := fun z => by
      rw [z] at q1
      exact h2 q1
    refine ⟨q1, ?_⟩
    rw [upd_ne ne]
    cases m with
    | dk kvs =>
      obtain ⟨vs, e3, r⟩ := q2
      exact ⟨vs, e3, r.mono (fz_upd h1) ⟨[], by simp⟩⟩
  inj := w.inj
  tabs := fun q hq => by
    obtain ⟨ps, e1, e2, e3⟩ := w.tabs q hq
    have ne : q.1 ≠ p := fun z => by
      rw [z, h] at e1
      exact ht ps (Option.some.inj e1)
    refine ⟨ps, by rw [upd_ne ne]; exact e1, e2, fun pos cv hc => ?_⟩
    obtain ⟨c, ec, eh⟩ := e3 pos cv hc
    have ne2 : c ≠ p := fun z => by
      rw [z, h] at eh
      exact he _ (Option.some.inj eh)
    exact ⟨c, ec, by rw [upd_ne ne2]; exact eh⟩
  wldo := w.wldo
/-- tests of a clause -/
def PBs (G : GX) (X : Cx) (H0 : Hp) (ifs : List Expr) (f : Env → Mo Bool) : Prop := ∀ (r : Env) (st : St) (σ : L2.St) (T : Tg) (al : List Addr) (H : Hp) (Q : Bool → Hp → Prop), SL X.K H0 T al H r σ → WI X.K G.TB T al st H → Post G X.K (wE fun _ _ _ => False) RpB σ T al H Q (f r st) →
  ∀ (pins : List (Addr × Obj)) (s : Shared), Inv X pins σ H s → wpAny (model X.prog X.w) X.A (forIn ifs true fun c r => if r = true then do let ok ← isTrue c X.env (eval c X.env); pure (ForInStep.yield ok) else pure (ForInStep.yield r)) (TP X pins σ Q) X.xe s
section
variable {G : GX} {X : Cx} {W : WX} {E : XK} {H0 : Hp} {tg iter elt c : Expr} {ifs : List Expr} {scope : Scope} {own : List (Str × Nat)} {pos : Pos}
theorem pbs_nil : PBs G X H0 [] bYes := fun r st σ T al H Q S w q pins s I => pts_nil.run pins s σ H Q I (q true T al H .refl w rfl)
theorem pbs_one {f : Env → Mo Bool} (h : PB G X (wE fun _ _ _ => False) H0 c f) : PBs G X H0 [c] f := fun r st σ T al H Q S w q pins s I => (pts_one pt_rd).run pins s σ H Q I (h r st σ T al H Q S w q)
/-- the context of a comprehension's block -/
abbrev bk (X : Cx) (scope : Scope) (s : Shared) (H : Hp) (C : Addr) (cl : List (Str × Addr)) (fp : List Addr) : Cx := X.blk s H scope (compEnvC scope cl C X.env) fp
def tT (X : Cx) (scope : Scope) (ifs : List Expr) : TT := fun σ H Q => ∀ (s0 : Shared) (H1 : Hp) (C : Addr) (cl : List (Str × Addr)) (fp : List Addr) (pins : List (Addr × Obj)) (s : Shared), Inv (bk X scope s0 H1 C cl fp) pins σ H s →
  wpAny (model X.prog X.w) X.A (forIn ifs true fun c r => if r = true then do let ok ← isTrue c (bk X scope s0 H1 C cl fp).env (eval c (bk X scope s0 H1 C cl fp).env); pure (ForInStep.yield ok) else pure (ForInStep.yield r)) (TP (bk X scope s0 H1 C cl fp) pins σ Q) (fun _ _ => False) s
def tE (X : Cx) (scope : Scope) (e : Expr) : TE := fun σ H Q => ∀ (s0 : Shared) (H1 : Hp) (C : Addr) (cl : List (Str × Addr)) (fp : List Addr), RdE (bk X scope s0 H1 C cl fp) e σ H Q
/-- the reading of a comprehension -/
theorem lc_read {f : Env → Mo (List D)} {b : D → Env → Option Env} {is : List Nat} {gt : TG} {ct : Env → Mo Bool} {fe : Env → Mo D} (hi : PIt G X W H0 tg iter f) (hgs : TgOk X.K H0 b is gt) (hv : ∀ j ∈ is, j ∈ own.map (·.2))
    (ht : ∀ (s0 : Shared) (H1 : Hp) (C : Addr) (cl : List (Str × Addr)) (fp : List Addr), PBs G (bk X scope s0 H1 C cl fp) H0 ifs ct)
    (he : ∀ (s0 : Shared) (H1 : Hp) (C : Addr) (cl : List (Str × Addr)) (fp : List Addr), PD G (bk X scope s0 H1 C cl fp) (wE fun _ _ _ => False) H0 elt fe)
    {r : Env} {st : St} {σ : L2.St} {T : Tg} {al : List Addr} {H : Hp} {Q : VK} (S : SL X.K H0 T al H r σ) (w : WI X.K G.TB T al st H) (q : Post G X.K W (RpN X.K) σ T al H Q (nLc f b (own.map (·.2)) ct fe r st)) :
    tLc (RdI X tg iter) gt (tT X scope ifs) (tE X scope elt) (own.map (·.2)) σ H Q := by
  refine hi r st σ T al H _ S w (seqP back_N q fun xs st1 J T1 al1 H1 _ x1 w1 r1 q1 => ?_)
  intro dA hD
  have q1' : Post G X.K W (RpN X.K) σ T1 al1 H1 Q ((lim xs.length xs >>= fun ys => lcL b ct fe (wipeE (own.map (·.2)) r) ys) st1) := q1
  rw [bind_ap] at q1'
  cases el : lim xs.length xs st1 with
  | err c x st2 =>
    unfold lim at el
    split at el <;> cases el
  | bad =>
    rw [el] at q1'
    exact q1'.elim
  | ok ys st2 =>
    rw [el] at q1'
    obtain ⟨hlen, rfl, rfl⟩ := lim_ok el
    have SW := wipe_SL (S.ext x1) (own.map (·.2))
    -- behind i turns
    refine ⟨fun i m H2 => m + i = ys.length ∧ ∃ (acc : List D) (vs : List V) (st2 : St) (T2 : Tg) (al2 : List Addr), Ext T1 al1 H1 T2 al2 H2 ∧ WI X.K G.TB T2 al2 st2 H2 ∧ T2 dA = none ∧ H2 dA = some (.lst vs) ∧ RepAll X.K (fz T2 H2) al2 vs acc ∧ acc.length ≤ i ∧
      Post G X.K W (RpN X.K) σ T1 al1 H1 Q ((lcL b ct fe (wipeE (own.map (·.2)) r) (ys.drop i) >>= fun zs => pure (acc ++ zs)) st2),
      ⟨ys.length, by omega, [], [], st2, T1, al1, Ext.laid0 hD, w1.laid hD, w1.free hD, upd_same, .nil, Nat.zero_le _, ?_⟩, ?_⟩
    · have q2 : Post G X.K W (RpN X.K) σ T1 al1 H1 Q (lcL b ct fe (wipeE (own.map (·.2)) r) ys st2) := q1'
      rw [bind_ap, List.drop_zero]
      cases e : lcL b ct fe (wipeE (own.map (·.2)) r) ys st2 with
      | ok zs st3 =>
        rw [e] at q2
        exact q2
      | err c x st3 =>
        rw [e] at q2
        exact q2
      | bad =>
        rw [e] at q2
        exact q2
    rintro i m H2 ⟨hm, acc, vs, st3, T2, al2, x2, w2, tD, hD2, rs, hacc, q2⟩
    obtain ⟨hgo, hstop⟩ := r1 T2 al2 H2 st3 x2.fz x2.al w2 i
    cases hx : ys[i]? with
    | none =>
      refine .inl ⟨hstop (by have := List.getElem?_eq_none_iff.mp hx; omega), ?_⟩
      have hd : ys.drop i = [] := List.drop_of_length_le (List.getElem?_eq_none_iff.mp hx)
      rw [hd] at q2
      have q3 : Post G X.K W (RpN X.K) σ T1 al1 H1 Q (.ok (acc ++ []) st3) := q2
      rw [List.append_nil] at q3
      exact q3 (.ref dA) T2 al2 H2 x2 w2 ⟨dA, vs, rfl, hD, tD, hD2, rs⟩
    | some x =>
      obtain ⟨go, yl⟩ := hgo x hx
      have hil : i < ys.length := (List.getElem?_eq_some_iff.mp hx).1
      have hd : ys.drop i = x :: ys.drop (i + 1) := by
        rw [List.drop_eq_getElem_cons hil]
        congr 1
        exact (List.getElem?_eq_some_iff.mp hx).2
      rw [hd] at q2
      refine .inr ⟨go, fun H3 => ∃ (acc : List D) (vs : List V) (st2 : St) (T2 : Tg) (al2 : List Addr), Ext T1 al1 H1 T2 al2 H3 ∧ WI X.K G.TB T2 al2 st2 H3 ∧ T2 dA = none ∧ H3 dA = some (.lst vs) ∧ RepAll X.K (fz T2 H3) al2 vs acc ∧ acc.length ≤ i + 1 ∧
        Post G X.K W (RpN X.K) σ T1 al1 H1 Q ((lcL b ct fe (wipeE (own.map (·.2)) r) (ys.drop (i + 1)) >>= fun zs => pure (acc ++ zs)) st2), fun H3 z => ⟨m - 1, by omega, by omega, z⟩, fun v H3 y => ?_⟩
      obtain ⟨T3, x3, w3, rv⟩ := yl v H3 y
      have q3 : Post G X.K W (RpN X.K) σ T1 al1 H1 Q (((Mo.opt (b x (wipeE (own.map (·.2)) r)) >>= fun r1 => nx (ct r1) >>= fun k => match k with
        | true => nx (fe r1) >>= fun y => lcL b ct fe (wipeE (own.map (·.2)) r) (ys.drop (i + 1)) >>= fun ys => pure (y :: ys)
        | false => lcL b ct fe (wipeE (own.map (·.2)) r) (ys.drop (i + 1))) >>= fun zs => pure (acc ++ zs)) st3) := q2
      rw [bind_ap, bind_ap] at q3
      cases hb : b x (wipeE (own.map (·.2)) r) with
      | none =>
        rw [hb] at q3
        exact q3.elim
      | some r3 =>
        rw [hb] at q3
        have q4 : Post G X.K W (RpN X.K) σ T1 al1 H1 Q (((nx (ct r3) >>= fun k => match k with
          | true => nx (fe r3) >>= fun y => lcL b ct fe (wipeE (own.map (·.2)) r) (ys.drop (i + 1)) >>= fun ys => pure (y :: ys)
          | false => lcL b ct fe (wipeE (own.map (·.2)) r) (ys.drop (i + 1))) >>= fun zs => pure (acc ++ zs)) st3) := q3
        rw [bind_ap, bind_ap] at q4
        obtain ⟨σ3, SL3, ho, qg⟩ := hgs x (wipeE (own.map (·.2)) r) r3 (wipe σ (own.map (·.2))) T3 al2 H3 v hb ((SW.ext x2).ext x3) rv
        refine qg _ ⟨wipe_back ho.1 ho.2 hv, ?_⟩
        cases ec : nx (ct r3) st3 with
        | err c x st4 =>
          unfold nx at ec
          split at ec <;> cases ec
        | bad =>
          rw [ec] at q4
          exact q4.elim
        | ok k st4 =>
          rw [ec] at q4
          have hD3 : H3 dA = some (.lst vs) := x3.hp dA _ hD2 (by rw [tD]; decide)
          have tD3 : T3 dA = none := (x3.tg dA _ hD2).trans tD
          intro s0 Hs C cl fp pins s I
          refine ht s0 Hs C cl fp r3 st3 σ3 T3 al2 H3 _ SL3 w3 ?_ pins s I
          rw [nx_ok ec]
          rintro k' T4 al4 H4 x4 w4 rfl
          have hD4 : H4 dA = some (.lst vs) := x4.hp dA _ hD3 (by rw [tD3]; decide)
          have tD4 : T4 dA = none := (x4.tg dA _ hD3).trans tD3
          have xx4 : Ext T1 al1 H1 T4 al4 H4 := (x2.trans x3).trans x4
          cases k' with
          | false =>
            refine iteF ⟨acc, vs, st4, T4, al4, xx4, w4, tD4, hD4, (rs.ext x3).ext x4, by omega, ?_⟩
            have q5 := q4
            rw [bind_ap]
            exact q5
          | true =>
            refine iteT ?_
            have q5 : Post G X.K W (RpN X.K) σ T1 al1 H1 Q (((nx (fe r3) >>= fun y => lcL b ct fe (wipeE (own.map (·.2)) r) (ys.drop (i + 1)) >>= fun ys => pure (y :: ys)) >>= fun zs => pure (acc ++ zs)) st4) := by
              rw [bind_ap]
              exact q4
            rw [bind_ap, bind_ap] at q5
            cases ee : nx (fe r3) st4 with
            | err c x st5 =>
              unfold nx at ee
              split at ee <;> cases ee
            | bad =>
              rw [ee] at q5
              exact q5.elim
            | ok y st5 =>
              rw [ee] at q5
              intro s0 Hs C cl fp
              refine he s0 Hs C cl fp r3 st4 σ3 T4 al4 H4 _ (SL3.ext x4) w4 ?_
              rw [nx_ok ee]
              intro u T5 al5 H5 x5 w5 ru
              have hD5 : H5 dA = some (.lst vs) := x5.hp dA _ hD4 (by rw [tD4]; decide)
              have tD5 : T5 dA = none := (x5.tg dA _ hD4).trans tD4
              have rs5 := ((rs.ext x3).ext x4).ext x5
              have nf : T5 dA ≠ some .frz := by rw [tD5]; decide
              refine ⟨vs, hD5, by rw [rs.length]; omega, acc ++ [y], vs ++ [u], st5, T5, al5, (xx4.trans x5).upd0 hD, w5.upd nf (by rw [tD5]; decide) hD5 (fun ps z => by cases z) (fun f z => by cases z), tD5, upd_same, ?_, by rw [List.length_append, List.length_singleton]; omega, ?_⟩
              · exact (rs5.mono (fz_upd nf) ⟨[], by simp⟩).snoc (Rep.mono (fz_upd nf) ⟨[], by simp⟩ ru)
              · have q6 : Post G X.K W (RpN X.K) σ T1 al1 H1 Q (((lcL b ct fe (wipeE (own.map (·.2)) r) (ys.drop (i + 1)) >>= fun ys => pure (y :: ys)) >>= fun zs => pure (acc ++ zs)) st5) := q5
                rw [bind_ap, bind_ap] at q6
                rw [bind_ap]
                cases e6 : lcL b ct fe (wipeE (own.map (·.2)) r) (ys.drop (i + 1)) st5 with
                | ok zs st6 =>
                  rw [e6] at q6
                  have q7 : Post G X.K W (RpN X.K) σ T1 al1 H1 Q (.ok (acc ++ (y :: zs)) st6) := q6
                  show Post G X.K W (RpN X.K) σ T1 al1 H1 Q (.ok ((acc ++ [y]) ++ zs) st6)
                  rw [List.append_assoc]
                  exact q7
                | err c x st6 =>
                  rw [e6] at q6
                  exact q6
                | bad =>
                  rw [e6] at q6
                  exact q6
theorem pts_tT : ∀ (s : Shared) (H : Hp) (C : Addr) (cl : List (Str × Addr)) (fp : List Addr), PTs (X.blk s H scope (compEnvC scope cl C X.env) fp) ifs (tT X scope ifs) := fun s H C cl fp => ⟨fun pins s2 σ H2 Q I h => h s H C cl fp pins s2 I⟩
theorem pe_tE : ∀ (s : Shared) (H : Hp) (C : Addr) (cl : List (Str × Addr)) (fp : List Addr), PE (X.blk s H scope (compEnvC scope cl C X.env) fp) elt (tE X scope elt) := fun s H C cl fp => ⟨fun pins s2 σ H2 Q I h => h s H C cl fp pins s2 I⟩
theorem pn_lc {f : Env → Mo (List D)} {b : D → Env → Option Env} {is : List Nat} {gt : TG} {ct : Env → Mo Bool} {fe : Env → Mo D} (own : List (Str × Nat)) (hc : X.calm = true) (hN : X.N.Nodup) (hi : PIt G X W H0 tg iter f) (ok : BlkOk X.N X.env.scope scope own) (hgs : TgOk X.K H0 b is gt)
    (hg : ∀ (s0 : Shared) (H1 : Hp) (C : Addr) (cl : List (Str × Addr)) (fp : List Addr), PG (bk X scope s0 H1 C cl fp) tg gt)
    (ht : ∀ (s0 : Shared) (H1 : Hp) (C : Addr) (cl : List (Str × Addr)) (fp : List Addr), PBs G (bk X scope s0 H1 C cl fp) H0 ifs ct)
    (he : ∀ (s0 : Shared) (H1 : Hp) (C : Addr) (cl : List (Str × Addr)) (fp : List Addr), PD G (bk X scope s0 H1 C cl fp) (wE fun _ _ _ => False) H0 elt fe)
    (hv : ∀ j ∈ is, j ∈ own.map (·.2) := by decide) (hs : ∀ x, foldedSetIterable iter X.env x = pure x := by intro _; rfl) : PN G X W H0 (.ListComp elt [⟨tg, iter, ifs, 0⟩] scope pos) (nLc f b (own.map (·.2)) ct fe) := fun r st σ T al H Q S w q =>
  rdE (pe_lc hc hN pi_rd ok hg pts_tT pe_tE hs) (lc_read hi hgs hv ht he S w q)
end
end Pi
namespace Pi
open PySem PySem.Spec PyProof.Rows L2

/-- the promise of a def, called where no guard is up -/
structure FnG (P : Program) (w : World) (K : PySem.W.Frag) (mg : Str → Option Value) (base : Heap) (k : Nat) (f : Addr) (fd : FuncData) (ps : List Str) (sp : Sp) : Prop where
  len : ∀ vs H Q E, sp vs H Q E → vs.length = ps.length
  run : ∀ (A : Around) (outer : List PySem.Env) (s : Shared) (H : Hp) (args : Args) (us : List Value) (vs : List V) (Q : VK) (E : XK), Room k A → A.guards = some [] → Env0 P w K mg base A outer s H → BindsTo s fd args (ps.zip us) → Vals vs us → sp vs H Q E →
    codeAny (model P w) A (.call (.ref f) args) (CR (L2.CX P w) outer P w H s Q E) s
section
variable {P : Program} {w : World} {K : PySem.W.Frag} {mg : Str → Option Value} {base : Heap} {k : Nat} {f : Addr} {fd : FuncData} {N ps : List Str} {sp : Sp} {x qual : Str} {params : Arguments} {body : List Stmt} {scope : Scope} {dvs : List V} {kws : List (Str × V)}
/-- the context of a def's body -/
abbrev dcx (P : Program) (w : World) (K : PySem.W.Frag) (mg : Str → Option Value) (base : Heap) (N : List Str) (qual : Str) (scope : Scope) (f : Addr) (cd : Value) (A : Around) (outer : List PySem.Env) (s : Shared) (H : Hp) (E : XK) : Cx := cxOf (L2.CX P w) P w K mg base N qual scope f cd A outer s H E
/-- a def whose body is run -/
theorem fnG_run (F : FunD K x qual params body scope dvs kws f fd) (S : FnScope N ps scope) (len : ∀ vs H Q E, sp vs H Q E → vs.length = ps.length)
    (hb : ∀ (cdv : Value) (A : Around) (outer : List PySem.Env) (s : Shared) (H : Hp) (vs : List V) (Q : VK) (E : XK), Room k (A.deeper (envOfC qual scope s.heap.objs.size f cdv)) → A.guards = some [] → sp vs H Q E →
      RdS (dcx P w K mg base N qual scope f cdv A outer s H E) body (L2.start N vs) H { nx := fun _ H' => Q .non H', rt := Q }) : FnG P w K mg base (k + 1) f fd ps sp := by
  obtain ⟨oc, od, dV, kV, doc, pm, an, cdv, ct, osl, rfl, lk, hcd, _, _⟩ := F.ex
  refine ⟨len, fun A outer s H args us vs Q E hr hg e0 hbi r hsp => ?_⟩
  exact LamX.run_ofS lk hcd S hr e0 hbi r (len _ _ _ _ hsp) fun hr' => ⟨_, pss_rd, hb cdv A outer s H vs Q E hr' hg hsp⟩
end

def runD (n : Nat) (g : Stm) (ds : List D) : Mo D := g (ds.map (fun x => some (.d x)) ++ List.replicate (n - ds.length) none) >>= fun fl => match fl with
  | .nx _ => pure .non
  | .ret x => pure x
  | _ => Mo.bad
/-- m: what the def is worth -/
def spM (G : GX) (K : PySem.W.Frag) (n : Nat) (m : List D → Mo D) : Sp := fun vs H Q E => vs.length = n ∧ ∃ (T : Tg) (al : List Addr) (st : St) (ds : List D), WI K G.TB T al st H ∧ RepAll K (fz T H) al vs ds ∧ Post G K (wE E) (RpD K) [] T al H Q (m ds st)
section
variable {G : GX} {P : Program} {w : World} {K : PySem.W.Frag} {mg : Str → Option Value} {base : Heap} {k : Nat} {f : Addr} {fd : FuncData} {N ps : List Str} {x qual : Str} {params : Arguments} {body : List Stmt} {scope : Scope} {dvs : List V} {kws : List (Str × V)}
theorem sl_start {H0 : Hp} {T : Tg} {al : List Addr} {H : Hp} {vs : List V} {ds : List D} (r : RepAll K (fz T H) al vs ds) : SL K H0 T al H (ds.map (fun x => some (SV.d x)) ++ List.replicate (N.length - ds.length) none) (L2.start N vs) := by
  have hl := r.length
  have key : ∀ (i : Nat) (x : SV), (ds.map (fun x => some (SV.d x)) ++ List.replicate (N.length - ds.length) none)[i]? = some (some x) → ∃ d v, x = .d d ∧ Rep K (fz T H) al v d ∧ (L2.start N vs)[i]? = some (some v) := fun i x h => by
    have hi : i < ds.length := by
      by_cases hi : i < ds.length
      · exact hi
      · rw [List.getElem?_append_right (by simpa using hi), List.getElem?_replicate] at h
        split at h <;> cases h
    rw [List.getElem?_append_left (by simpa using hi), List.getElem?_map] at h
    obtain ⟨d, hd, e⟩ := Option.map_eq_some_iff.mp h
    obtain ⟨v, hv, rv⟩ := r.get hd
    refine ⟨d, v, (Option.some.inj e).symm, rv, ?_⟩
    unfold L2.start
    rw [List.getElem?_append_left (by rw [List.length_map, hl]; exact hi), List.getElem?_map, hv]
    rfl
  refine ⟨by unfold L2.start; rw [List.length_append, List.length_append, List.length_map, List.length_map, List.length_replicate, List.length_replicate, hl], fun i x h => ?_, fun i j x y v _ h _ o _ _ => ?_⟩
  · obtain ⟨d, v, rfl, rv, hs⟩ := key i x h
    exact ⟨v, hs, rv⟩
  · obtain ⟨d, v, rfl, _, _⟩ := key i x h
    cases o
theorem start_si {X : Cx} {T : Tg} {al : List Addr} {st : St} {H : Hp} {r : Env} {σ : L2.St} (wi : WI X.K G.TB T al st H) (sl : SL X.K H T al H r σ) : SI G X H ⟨T, al, fz T H, al⟩ r σ st T al H := ⟨sl, wi, .refl, fun _ _ e => e, ⟨[], by simp⟩⟩
/-- THE RULE for a def: by its body's mirror -/
theorem fnG_of {n : Nat} {g : Stm} {m : List D → Mo D} (F : FunD K x qual params body scope dvs kws f fd) (S : FnScope N ps scope) (hn : ps.length = n) (hN : N.length = n + (N.length - n)) (hm : ∀ ds, ds.length = n → m ds = runD N.length g ds)
    (hb : ∀ (cdv : Value) (A : Around) (outer : List PySem.Env) (s : Shared) (H : Hp) (E : XK), Room k (A.deeper (envOfC qual scope s.heap.objs.size f cdv)) → A.guards = some [] → PBl G (dcx P w K mg base N qual scope f cdv A outer s H E) E H body g) :
    FnG P w K mg base (k + 1) f fd ps (spM G K n m) := by
  refine fnG_run F S (fun vs H Q E h => by rw [hn]; exact h.1) fun cdv A outer s H vs Q E hr hg hsp => ?_
  obtain ⟨hl, T, al, st, ds, wi, rs, q⟩ := hsp
  refine hb cdv A outer s H E hr hg ⟨T, al, fz T H, al⟩ _ st _ T al H _ (start_si wi (sl_start rs)) ?_
  rw [hm ds (by rw [← rs.length, hl])] at q
  unfold runD at q
  rw [bind_ap] at q
  cases e : g (ds.map (fun x => some (SV.d x)) ++ List.replicate (N.length - ds.length) none) st with
  | ok fl st1 =>
    rw [e] at q
    cases fl with
    | nx r => exact fun σ T' al' H' S' => q .non T' al' H' S'.ex S'.wi .non
    | ret x => exact fun v T' al' H' ex wi' rx => q v T' al' H' ex wi' rx
    | brk r => exact q.elim
    | ct r => exact q.elim
  | err c x st1 =>
    rw [e] at q
    exact q
  | bad =>
    rw [e] at q
    exact q
end

/-- a def as it is known in a context: x the name, m what it is worth -/
structure Knows (G : GX) (X : Cx) (x : Str) (n : Nat) (m : List D → Mo D) : Prop where
  ex : ∃ (k : Nat) (f : Addr) (fd : FuncData) (ps : List Str), ps.length = n ∧ FnG X.prog X.w X.K X.mg X.base k f fd ps (spM G X.K n m) ∧ Room k X.A ∧ X.mg x = some (.ref f) ∧ PySem.W.keepIn X.K (.ref f) = true ∧ Binds X.K fd ps []
def eCall (m : List D → Mo D) (f : Env → Mo (List D)) : Env → Mo D := fun r => f r >>= m
section
variable {G : GX} {X : Cx} {W : WX} {H0 : Hp} {x : Str} {n : Nat} {m : List D → Mo D} {p pos : Pos} {e : Expr} {es : List Expr}
/-- the callee runs -/
theorem run_knows (kn : Knows G X x n m) (gd : X.A.guards = some []) (tk : Takes X W) {pins : List (Addr × Obj)} {σ : L2.St} {H : Hp} {s : Shared} {Q : VK} {us : List Value} {vs : List V} {T : Tg} {al : List Addr} {st : St} {ds : List D} (I : Inv X pins σ H s) (r : Vals vs us) (hl : vs.length = n)
    (wi : WI X.K G.TB T al st H) (rs : RepAll X.K (fz T H) al vs ds) (q : Post G X.K W (RpD X.K) σ T al H Q (m ds st)) : ∃ f, X.mg x = some (.ref f) ∧ PySem.W.keepIn X.K (.ref f) = true ∧ wpAny (model X.prog X.w) X.A (call (.ref f) us) (EP X pins σ Q) X.xe s := by
  obtain ⟨k, f, fd, ps, hn, F, hr, hm, hk, hb⟩ := kn.ex
  refine ⟨f, hm, hk, ?_⟩
  have b := hb s us I.kIn (by rw [List.append_nil, ← r.length, hl, hn])
  rw [List.append_nil] at b
  have q' : Post G X.K (wE (WE W σ)) (RpD X.K) [] T al H Q (m ds st) := by
    cases em : m ds st with
    | ok y st1 => rw [em] at q; exact q
    | err c y st1 => rw [em] at q; exact q
    | bad => rw [em] at q; exact q
  refine wpAny_call (codeAny_mono (F.run X.A X.stack s H ⟨us, []⟩ us vs Q (WE W σ) hr gd I.env0 b r ⟨hl, T, al, st, ds, wi, rs, q'⟩) fun r s' hq => ?_)
  cases r with
  | error e => exact passAt tk σ pins H s e s' I hq
  | ok fl =>
    cases fl with
    | ret u => exact I.after hq
    | next => exact False.elim hq
    | brk => exact False.elim hq
    | cont => exact False.elim hq
theorem pd_call {f : Env → Mo (List D)} (kn : Knows G X x n m) (gd : X.A.guards = some []) (tk : Takes X W) (hg : Gl X x) (hn : ∀ r st ds st1, f r st = .ok ds st1 → ds.length = n) (ha : PL G X W H0 (e :: es) f)
    (hdb : (x == ("__debug__" : Str)) = false := by decide) (he : starEach (e :: es) X.env = (false, eval e X.env) :: starEach es X.env := by rfl) (hpl : (backTo pos (starEach es X.env)).any (·.1) = false := by rfl) :
    PD G X W H0 (.Call (.Name x p) (e :: es) [] pos) (eCall m f) := by
  intro r st σ T al H Q S w q pins s I
  obtain ⟨k0, f0, fd, ps, hn0, F, hr, hm, hk, hb⟩ := kn.ex
  refine wpAny_Call_Name_kw (ld_glob I hg hm ?_ hdb)
  refine PySem.W.callWith_K (h₀ := X.base) I.ok.mod.kin hk (thn (ha r st σ T al H (fun vs H1 => ∃ T1 al1 st1 ds, vs.length = n ∧ WI X.K G.TB T1 al1 st1 H1 ∧ RepAll X.K (fz T1 H1) al1 vs ds ∧ Post G X.K W (RpD X.K) σ T1 al1 H1 Q (m ds st1)) S w ?_ pos pins s I) fun us s1 ⟨vs, H1, I1, r1, T1, al1, st1, ds, hl, w1, rs, q1⟩ => ⟨I1.kIn, ?_⟩) he hpl
  · refine seqP back_D q fun ds st1 vs T1 al1 H1 ef x1 w1 r1 q1 => ?_
    exact ⟨T1, al1, st1, ds, by rw [RepAll.length r1]; exact hn r st ds st1 ef, w1, r1, q1⟩
  · obtain ⟨f1, hm1, _, h1⟩ := run_knows kn gd tk I1 r1 hl w1 rs q1
    rw [hm] at hm1
    cases hm1
    exact h1
theorem pd_call0 (kn : Knows G X x 0 m) (gd : X.A.guards = some []) (tk : Takes X W) (hg : Gl X x) (hdb : (x == ("__debug__" : Str)) = false := by decide) : PD G X W H0 (.Call (.Name x p) [] [] pos) (eCall m aNil) := by
  intro r st σ T al H Q S w q pins s I
  obtain ⟨k0, f0, fd, ps, hn0, F, hr, hm, hk, hb⟩ := kn.ex
  refine wpAny_Call_Name_kw (ld_glob I hg hm ?_ hdb)
  obtain ⟨f1, hm1, _, h1⟩ := run_knows kn gd tk I .nil rfl w .nil q
  rw [hm] at hm1
  cases hm1
  exact PySem.W.callWith_K0 I.kIn hk h1
/-- how many arguments -/
theorem acons_len {f : Env → Mo D} {g : Env → Mo (List D)} {k : Nat} (h : ∀ r st ds st1, g r st = .ok ds st1 → ds.length = k) : ∀ r st ds st1, aCons f g r st = .ok ds st1 → ds.length = k + 1 := fun r st ds st1 e => by
  have e' : (f r >>= fun x => g r >>= fun xs => pure (x :: xs)) st = .ok ds st1 := e
  rw [bind_ap] at e'
  cases e1 : f r st with
  | ok y st2 =>
    rw [e1] at e'
    have e2 : (g r >>= fun xs => pure (y :: xs)) st2 = .ok ds st1 := e'
    rw [bind_ap] at e2
    cases e3 : g r st2 with
    | ok ys st3 =>
      rw [e3] at e2
      have e4 : Res.ok (y :: ys) st3 = .ok ds st1 := e2
      injection e4 with e5 e6
      rw [← e5, List.length_cons, h r st2 ys st3 e3]
    | err c z st3 => rw [e3] at e2; cases e2
    | bad => rw [e3] at e2; cases e2
  | err c z st2 => rw [e1] at e'; cases e'
  | bad => rw [e1] at e'; cases e'
theorem anil_len : ∀ r st ds st1, aNil r st = .ok ds st1 → ds.length = 0 := fun r st ds st1 e => by
  have e' : Res.ok ([] : List D) st = .ok ds st1 := e
  injection e' with e1
  rw [← e1]
  rfl
end
end Pi
namespace Pi
open PySem PySem.Spec PyProof.Rows L2

def oIx : D → D → Option D
  | .tup xs, .int i => (place xs.length i).bind fun j => xs[j]?
  | .lst xs, .int i => (place xs.length i).bind fun j => xs[j]?
  | _, _ => none
theorem place_ixN (n : Nat) (i : Int) : place n i = ixN n i := by
  unfold place ixN
  by_cases h0 : 0 ≤ i
  · rw [decide_eq_true h0, if_pos h0]
    by_cases h1 : i < n
    · rw [decide_eq_true h1, if_pos h1]
    · rw [decide_eq_false h1, if_neg h1]
  · rw [decide_eq_false h0, if_neg h0]
    by_cases h1 : -(n : Int) ≤ i
    · rw [decide_eq_true h1, if_pos h1, Int.add_comm]
    · rw [decide_eq_false h1, if_neg h1]
theorem at_rep {K : PySem.W.Frag} {F : Hp} {al : List Addr} {vs : List V} {ds : List D} {i : Int} {x : D} (r : RepAll K F al vs ds) (h : ((place ds.length i).bind fun j => ds[j]?) = some x) : ∃ v, atI vs i = some v ∧ Rep K F al v x := by
  rw [place_ixN] at h
  unfold atI
  rw [r.length]
  cases e : ixN ds.length i with
  | none => rw [e] at h; cases h
  | some j =>
    rw [e] at h
    exact r.get h
section
variable {G : GX} {X : Cx} {W : WX} {H0 : Hp} {a b e : Expr} {es : List Expr} {pos p2 : Pos}
theorem pd_ix {f g : Env → Mo D} (ha : PH G X W H0 a f) (hb : PH G X W H0 b g) (hs : PlainIx b := by intro o i; rfl) : PD G X W H0 (.Subscript a b pos) (eBin oIx f g) := by
  intro r st σ T al H Q S w q
  refine rdE (pe_ix (ix_list.or ix_tup) pe_rd pe_rd hs) ?_
  refine ha r st σ T al H _ S w (seqP back_D q fun x st1 v T1 al1 H1 _ x1 w1 r1 q1 => ?_)
  refine hb r st1 σ T1 al1 H1 _ (S.ext x1) w1 (seqP back_D q1 fun y st2 u T2 al2 H2 _ x2 w2 r2 q2 => ?_)
  refine optP q2 fun z hz q3 => ?_
  have rx := RepH.ext r1 x2
  cases y with
  | int i =>
    have eu := rep_int r2
    subst eu
    cases x with
    | tup ds =>
      obtain ⟨p, vs, rfl, h1, h2⟩ := rep_tup rx
      obtain ⟨t, e1, e2⟩ := at_rep h2 hz
      exact .inr ⟨p, vs, i, t, rfl, rfl, Same.seqT fz_same h1, e1, q3 t T2 al2 H2 .refl w2 e2⟩
    | lst ds =>
      obtain ⟨p, vs, rfl, h1, h2⟩ := rx
      obtain ⟨t, e1, e2⟩ := at_rep h2 hz
      exact .inl ⟨p, vs, i, t, rfl, rfl, .inl (.inl (nw_same _ _ h1)), e1, q3 t T2 al2 H2 .refl w2 e2⟩
    | _ => cases hz
  | _ => cases x <;> cases hz

def sx (n d : Nat) : Option Int → Nat
  | none => d
  | some i => match decide (i < 0) with
    | true => (i + n).toNat
    | false => (match decide (i < n) with
      | true => i.toNat
      | false => n)
theorem sx_eq (n d : Nat) (o : Option Int) : sx n d o = HT.sIx n d o := by
  cases o with
  | none => rfl
  | some i =>
    unfold sx HT.sIx
    by_cases h : i < 0
    · simp only [decide_eq_true h, if_pos h]
    · simp only [decide_eq_false h, if_neg h]
      by_cases h2 : i < n
      · simp only [decide_eq_true h2]
        first
        | rfl
        | omega
      · simp only [decide_eq_false h2]
        first
        | rfl
        | omega
def cutD (xs : List D) (lo hi : Option Int) : List D := (xs.drop (sx xs.length 0 lo)).take (sx xs.length xs.length hi - sx xs.length 0 lo)
def partD : D → Option (Option Int)
  | .int i => some (some i)
  | _ => none
/-- a part of a slice -/
def PPt (G : GX) (X : Cx) (W : WX) (H0 : Hp) (o : Option Expr) (f : Env → Mo (Option Int)) : Prop := ∀ (r : Env) (st : St) (σ : L2.St) (T : Tg) (al : List Addr) (H : Hp) (Q : Option Int → Hp → Prop), SL X.K H0 T al H r σ → WI X.K G.TB T al st H →
  Post G X.K W (fun _ _ _ _ v x => v = x) σ T al H Q (f r st) → ∀ (pins : List (Addr × Obj)) (s : Shared), Inv X pins σ H s → wpAny (model X.prog X.w) X.A (evalPart o X.env) (fun u s' => ∃ o H', Inv X pins σ H' s' ∧ IsPart u o ∧ Q o H') X.xe s
def pNone : Env → Mo (Option Int) := fun _ => pure none
def pSome (f : Env → Mo D) : Env → Mo (Option Int) := fun r => f r >>= fun x => Mo.opt (partD x)
theorem back_P : Back (fun (_ : Hp) (_ : Tg) (_ : List Addr) (_ : Hp) (v x : Option Int) => v = x) := fun _ _ _ _ _ _ _ _ h => h
theorem ppt_none : PPt G X W H0 none pNone := fun r st σ T al H Q S w q pins s I => po_none.run pins s σ H Q I (q none T al H .refl w rfl)
theorem ppt_some {f : Env → Mo D} (h : PD G X W H0 e f) : PPt G X W H0 (some e) (pSome f) := by
  intro r st σ T al H Q S w q pins s I
  refine (po_some pe_rd).run pins s σ H Q I (h r st σ T al H _ S w (seqP back_P q fun x st1 v T1 al1 H1 _ x1 w1 r1 q1 => ?_))
  refine optP q1 fun z hz q2 => ?_
  cases x with
  | int i =>
    have ez : some i = z := Option.some.inj hz
    subst ez
    exact ⟨i, rep_int r1, q2 _ T1 al1 H1 .refl w1 rfl⟩
  | _ => cases hz
def tPt (X : Cx) (o : Option Expr) : TO := fun σ H Q => ∀ (pins : List (Addr × Obj)) (s : Shared), Inv X pins σ H s → wpAny (model X.prog X.w) X.A (evalPart o X.env) (fun u s' => ∃ o H', Inv X pins σ H' s' ∧ IsPart u o ∧ Q o H') X.xe s
theorem po_rd {o : Option Expr} : PO X o (tPt X o) := ⟨fun pins s σ H Q I h => h pins s I⟩
def eSlice (f : Env → Mo D) (lo hi : Env → Mo (Option Int)) : Env → Mo D := fun r => f r >>= fun x => lo r >>= fun l => hi r >>= fun u => match x with
  | .tup xs => pure (.tup (cutD xs l u))
  | _ => Mo.bad
def nSlice (f : Env → Mo D) (lo hi : Env → Mo (Option Int)) : Env → Mo (List D) := fun r => f r >>= fun x => lo r >>= fun l => hi r >>= fun u => match x with
  | .lst xs => pure (cutD xs l u)
  | .kls xs => pure (cutD xs l u)
  | _ => Mo.bad
theorem cut_rep {K : PySem.W.Frag} {F : Hp} {al : List Addr} {vs : List V} {ds : List D} (lo hi : Option Int) (r : RepAll K F al vs ds) : RepAll K F al (cutV vs lo hi) (cutD ds lo hi) := by
  unfold cutV cutD
  rw [sx_eq, sx_eq, r.length]
  exact (r.drop _).take _
theorem cut_all {ds : List D} {lo hi : Option Int} (h1 : HT.sIx ds.length 0 lo = 0) (h2 : HT.sIx ds.length ds.length hi = ds.length) : cutD ds lo hi = ds := by
  unfold cutD
  rw [sx_eq, sx_eq, h1, h2]
  simp
variable {lo hi : Option Expr}
theorem pd_slice {f : Env → Mo D} {fl fu : Env → Mo (Option Int)} (ha : PD G X W H0 a f) (hl : PPt G X W H0 lo fl) (hu : PPt G X W H0 hi fu) : PD G X W H0 (.Subscript a (.Slice lo hi none p2) pos) (eSlice f fl fu) := by
  intro r st σ T al H Q S w q
  refine rdE (pe_slice sl_tupA pe_rd po_rd po_rd) ?_
  refine ha r st σ T al H _ S w (seqP back_D q fun x st1 v T1 al1 H1 _ x1 w1 r1 q1 => ?_)
  refine hl r st1 σ T1 al1 H1 _ (S.ext x1) w1 (seqP back_D q1 fun l st2 l' T2 al2 H2 _ x2 w2 r2 q2 => ?_)
  cases r2
  refine hu r st2 σ T2 al2 H2 _ ((S.ext x1).ext x2) w2 (seqP back_D q2 fun u st3 u' T3 al3 H3 _ x3 w3 r3 q3 => ?_)
  cases r3
  cases x with
  | tup ds =>
    obtain ⟨p, vs, rfl, h1, h2⟩ := rep_tupP ((Rep.ext r1 x2).ext x3)
    refine ⟨p, vs, rfl, .inl (.inl (fz_same _ _ h1)), fun hw => ?_, fun hw p' n => ?_⟩
    · rw [h2.length] at hw
      refine q3 _ T3 al3 H3 .refl w3 ?_
      show Rep X.K (fz T3 H3) al3 (.ref p) (.tup (cutD ds l u))
      rw [cut_all hw.1 hw.2]
      exact .tup h1 h2
    · have n' := w3.free n
      refine q3 (.ref p') (tset T3 p' .frz) al3 _ (Ext.laid n .frz) ((w3.laid n).tag (by rw [n']; decide) (by rw [n']; decide) upd_same) ?_
      exact .tup (fz_of tset_same upd_same) (cut_rep l u (RepAll.ext h2 (Ext.laid n .frz)))
  | _ => exact q3.elim
theorem pn_slice {f : Env → Mo D} {fl fu : Env → Mo (Option Int)} (ha : PH G X W H0 a f) (hl : PPt G X W H0 lo fl) (hu : PPt G X W H0 hi fu) : PN G X W H0 (.Subscript a (.Slice lo hi none p2) pos) (nSlice f fl fu) := by
  intro r st σ T al H Q S w q
  refine rdE (pe_slice sl_list pe_rd po_rd po_rd) ?_
  refine ha r st σ T al H _ S w (seqP back_N q fun x st1 v T1 al1 H1 _ x1 w1 r1 q1 => ?_)
  refine hl r st1 σ T1 al1 H1 _ (S.ext x1) w1 (seqP back_N q1 fun l st2 l' T2 al2 H2 _ x2 w2 r2 q2 => ?_)
  cases r2
  refine hu r st2 σ T2 al2 H2 _ ((S.ext x1).ext x2) w2 (seqP back_N q2 fun u st3 u' T3 al3 H3 _ x3 w3 r3 q3 => ?_)
  cases r3
  cases x with
  | lst ds =>
    obtain ⟨p, vs, rfl, h1, h2⟩ := (RepH.ext r1 x2).ext x3
    refine ⟨p, vs, rfl, .inl (.inl (nw_same _ _ h1)), fun p' n => ?_⟩
    exact q3 (.ref p') T3 al3 _ (Ext.laid0 n) (w3.laid n) ⟨p', _, rfl, n, w3.free n, upd_same, cut_rep l u (RepAll.ext h2 (Ext.laid0 n))⟩
  | kls ds =>
    obtain ⟨p, vs, rfl, h1, h2⟩ := rep_kls ((RepH.ext r1 x2).ext x3)
    refine ⟨p, vs, rfl, Same.seq fz_same h1, fun p' n => ?_⟩
    exact q3 (.ref p') T3 al3 _ (Ext.laid0 n) (w3.laid n) ⟨p', _, rfl, n, w3.free n, upd_same, cut_rep l u (RepAll.ext h2 (Ext.laid0 n))⟩
  | _ => exact q3.elim

def CalR (G : GX) (X : Cx) (r : List V → Hp → VK → Prop) (o : List D → Option D) : Prop := ∀ (ds : List D) (z : D), o ds = some z → ∀ (st : St) (T : Tg) (al : List Addr) (H : Hp) (vs : List V) (Q : VK), WI X.K G.TB T al st H → Paired (RepH X.K T al H) vs ds →
  (∀ (t : V) (T' : Tg) (al' : List Addr) (H' : Hp), Ext T al H T' al' H' → WI X.K G.TB T' al' st H' → Rep X.K (fz T' H') al' t z → Q t H') → r vs H Q
def CalN (G : GX) (X : Cx) (r : List V → Hp → VK → Prop) (o : List D → Option (List D)) : Prop := ∀ (ds : List D) (z : List D), o ds = some z → ∀ (st : St) (T : Tg) (al : List Addr) (H : Hp) (vs : List V) (Q : VK), WI X.K G.TB T al st H → Paired (RepH X.K T al H) vs ds →
  (∀ (t : V) (T' : Tg) (al' : List Addr) (H' : Hp), Ext T al H T' al' H' → WI X.K G.TB T' al' st H' → RpN X.K H T' al' H' t z → Q t H') → r vs H Q
def eBlt {b : Type} (o : List D → Option b) (f : Env → Mo (List D)) : Env → Mo b := fun r => f r >>= fun ds => Mo.opt (o ds)
variable {x : Str} {id Ty : String} {rr : List V → Hp → VK → Prop} {p : Pos}
theorem blt_run {o : List D → Option D} {f : Env → Mo (List D)} (hr : CalR G X rr o) (ha : PLH G X W H0 es f) {r : Env} {st : St} {σ : L2.St} {T : Tg} {al : List Addr} {H : Hp} {Q : VK} (S : SL X.K H0 T al H r σ) (w : WI X.K G.TB T al st H) (q : Post G X.K W (RpD X.K) σ T al H Q (eBlt o f r st)) : tCB rr (RdA X es) σ H Q :=
  ha r st σ T al H _ S w (seqP back_D q fun ds st1 vs T1 al1 H1 _ x1 w1 r1 q1 => optP q1 fun z hz q2 => hr ds z hz st1 T1 al1 H1 vs Q w1 r1 fun t T' al' H' e w' rt => q2 t T' al' H' e w' rt)
theorem bltN_run {o : List D → Option (List D)} {f : Env → Mo (List D)} (hr : CalN G X rr o) (ha : PLH G X W H0 es f) {r : Env} {st : St} {σ : L2.St} {T : Tg} {al : List Addr} {H : Hp} {Q : VK} (S : SL X.K H0 T al H r σ) (w : WI X.K G.TB T al st H) (q : Post G X.K W (RpN X.K) σ T al H Q (eBlt o f r st)) : tCB rr (RdA X es) σ H Q :=
  ha r st σ T al H _ S w (seqP back_N q fun ds st1 vs T1 al1 H1 _ x1 w1 r1 q1 => optP q1 fun z hz q2 => hr ds z hz st1 T1 al1 H1 vs Q w1 r1 fun t T' al' H' e w' rt => q2 t T' al' H' e w' rt)
theorem pd_blt {o : List D → Option D} {f : Env → Mo (List D)} (hc : CallR X (.builtin id) rr) (hr : CalR G X rr o) (hg : Gl X x) (hm : X.mg x = none) (hv : bootBuiltins x = some (.builtin id)) (ha : PLH G X W H0 (e :: es) f) (hn : x ≠ "__name__" := by decide) (hdb : (x == ("__debug__" : Str)) = false := by decide)
    (he : starEach (e :: es) X.env = (false, eval e X.env) :: starEach es X.env := by rfl) (hpl : (backTo pos (starEach es X.env)).any (·.1) = false := by rfl) : PD G X W H0 (.Call (.Name x p) (e :: es) [] pos) (eBlt o f) :=
  fun r st σ T al H Q S w q => rdE (pe_callB hc hg hm hv pa_rd hn hdb he hpl) (blt_run hr ha S w q)
theorem pd_bty {o : List D → Option D} {f : Env → Mo (List D)} (hc : CallR X (.type Ty) rr) (hr : CalR G X rr o) (hg : Gl X x) (hm : X.mg x = none) (hv : bootBuiltins x = some (.type Ty)) (ha : PLH G X W H0 (e :: es) f) (hn : x ≠ "__name__" := by decide) (hdb : (x == ("__debug__" : Str)) = false := by decide)
    (he : starEach (e :: es) X.env = (false, eval e X.env) :: starEach es X.env := by rfl) (hpl : (backTo pos (starEach es X.env)).any (·.1) = false := by rfl) : PD G X W H0 (.Call (.Name x p) (e :: es) [] pos) (eBlt o f) :=
  fun r st σ T al H Q S w q => rdE (pe_callTy hc hg hm hv pa_rd hn hdb he hpl) (blt_run hr ha S w q)
theorem pn_blt {o : List D → Option (List D)} {f : Env → Mo (List D)} (hc : CallR X (.builtin id) rr) (hr : CalN G X rr o) (hg : Gl X x) (hm : X.mg x = none) (hv : bootBuiltins x = some (.builtin id)) (ha : PLH G X W H0 (e :: es) f) (hn : x ≠ "__name__" := by decide) (hdb : (x == ("__debug__" : Str)) = false := by decide)
    (he : starEach (e :: es) X.env = (false, eval e X.env) :: starEach es X.env := by rfl) (hpl : (backTo pos (starEach es X.env)).any (·.1) = false := by rfl) : PN G X W H0 (.Call (.Name x p) (e :: es) [] pos) (eBlt o f) :=
  fun r st σ T al H Q S w q => rdE (pe_callB hc hg hm hv pa_rd hn hdb he hpl) (bltN_run hr ha S w q)
theorem pn_bty {o : List D → Option (List D)} {f : Env → Mo (List D)} (hc : CallR X (.type Ty) rr) (hr : CalN G X rr o) (hg : Gl X x) (hm : X.mg x = none) (hv : bootBuiltins x = some (.type Ty)) (ha : PLH G X W H0 (e :: es) f) (hn : x ≠ "__name__" := by decide) (hdb : (x == ("__debug__" : Str)) = false := by decide)
    (he : starEach (e :: es) X.env = (false, eval e X.env) :: starEach es X.env := by rfl) (hpl : (backTo pos (starEach es X.env)).any (·.1) = false := by rfl) : PN G X W H0 (.Call (.Name x p) (e :: es) [] pos) (eBlt o f) :=
  fun r st σ T al H Q S w q => rdE (pe_callTy hc hg hm hv pa_rd hn hdb he hpl) (bltN_run hr ha S w q)
end

def D.len : D → Option Nat
  | .tup xs => some xs.length
  | .lst xs => some xs.length
  | .kls xs => some xs.length
  | .str x => match Nat.ble x.length 16777216 with
    | true => some x.length
    | false => none
  | .dct kvs => some kvs.length
  | _ => none
def oLen : List D → Option D
  | [x] => x.len.map fun n => .int n
  | _ => none
def oInt : List D → Option D
  | [.int i] => some (.int i)
  | [.bl true] => some (.int 1)
  | [.bl false] => some (.int 0)
  | _ => none
def oMin2 : List D → Option D
  | [.int i, .int j] => some (.int (match decide (j < i) with
    | true => j
    | false => i))
  | _ => none
def oMax2 : List D → Option D
  | [.int i, .int j] => some (.int (match decide (i < j) with
    | true => j
    | false => i))
  | _ => none
def D.lstOf : D → Option (List D)
  | .lst xs => some xs
  | _ => none
def oSum : List D → Option D
  | [x] => (x.lstOf.bind intsOf).map fun ns => .int ns.sum
  | _ => none
def bolsOf : List D → Option (List Bool)
  | [] => some []
  | .bl i :: r => (bolsOf r).map (i :: ·)
  | _ => none
def oAll : List D → Option D
  | [x] => (x.lstOf.bind bolsOf).map fun bs => .bl (bs.all id)
  | _ => none
def oAny : List D → Option D
  | [x] => (x.lstOf.bind bolsOf).map fun bs => .bl (bs.any id)
  | _ => none
def oTuple : List D → Option D
  | [.lst xs] => some (.tup xs)
  | [.tup xs] => some (.tup xs)
  | _ => none
def nList : List D → Option (List D)
  | [.lst xs] => some xs
  | [.tup xs] => some xs
  | _ => none
section
variable {G : GX} {X : Cx}
theorem paired1 {a b : Type} {F : a → b → Prop} {vs : List a} {d : b} (h : Paired F vs [d]) : ∃ v, vs = [v] ∧ F v d := by
  cases h with
  | cons r t =>
    cases t
    exact ⟨_, rfl, r⟩
theorem paired2 {a b : Type} {F : a → b → Prop} {vs : List a} {d e : b} (h : Paired F vs [d, e]) : ∃ v u, vs = [v, u] ∧ F v d ∧ F u e := by
  cases h with
  | cons r t =>
    obtain ⟨u, rfl, r2⟩ := paired1 t
    exact ⟨_, u, rfl, r, r2⟩
theorem cal_len : CalR G X (fun xs H Q => (∃ x n, xs = [x] ∧ LenV X.K x H n ∧ Q (.int n) H) ∨ ∃ a kvs, xs = [V.ref a] ∧ H a = some (.dK kvs) ∧ Q (.int kvs.length) H) oLen := by
  intro ds z hz st T al H vs Q w r q
  match ds, hz, r with
  | [x], hz, r =>
    obtain ⟨v, rfl, rx⟩ := paired1 r
    have hz' : x.len.map (fun n => D.int n) = some z := hz
    obtain ⟨n, hn, ez⟩ := Option.map_eq_some_iff.mp hz'
    subst ez
    have fin : ∀ m : Nat, m = n → Q (.int m) H := fun m e => by
      subst e
      exact q _ T al H .refl w (.int _)
    cases x with
    | tup xs =>
      obtain ⟨p, us, rfl, h1, h2⟩ := rep_tup rx
      exact .inl ⟨_, _, rfl, .inr ⟨us, Same.seqT fz_same h1, rfl⟩, fin _ (by rw [h2.length]; exact Option.some.inj hn)⟩
    | lst xs =>
      obtain ⟨p, us, rfl, h1, h2⟩ := rx
      exact .inl ⟨_, _, rfl, .inl ⟨us, .inl (.inl (nw_same _ _ h1)), rfl⟩, fin _ (by rw [h2.length]; exact Option.some.inj hn)⟩
    | kls xs =>
      obtain ⟨p, us, rfl, h1, h2⟩ := rep_kls rx
      exact .inl ⟨_, _, rfl, .inl ⟨us, Same.seq fz_same h1, rfl⟩, fin _ (by rw [h2.length]; exact Option.some.inj hn)⟩
    | str y =>
      rw [rep_str rx]
      unfold D.len at hn
      dsimp only at hn
      cases e : Nat.ble y.length 16777216 with
      | true =>
        rw [e] at hn
        exact .inl ⟨_, _, rfl, ⟨by rw [line_is]; exact Nat.le_of_ble_eq_true e, rfl⟩, fin _ (Option.some.inj hn)⟩
      | false => rw [e] at hn; cases hn
    | dct kvs =>
      obtain ⟨p, us, rfl, h1, h2⟩ := rep_dct rx
      refine .inr ⟨p, us, rfl, (fz_some h1).2, fin _ ?_⟩
      rw [← Option.some.inj hn]
      have kl : ∀ {vs : List (Key × V)} {ds : List (Key × D)}, RepKv X.K (fz T H) al vs ds → vs.length = ds.length := by
        intro vs ds
        induction ds generalizing vs with
        | nil => intro h; cases h; rfl
        | cons d ds ih => intro h; cases h with | cons r t => rw [List.length_cons, List.length_cons, ih t]
      exact congrArg _ (kl h2)
    | _ => cases hn
  | [], hz, _ => cases hz
  | _ :: _ :: _, hz, _ => cases hz
theorem call_lenX : CallR X (.builtin "len") (fun xs H Q => (∃ x n, xs = [x] ∧ LenV X.K x H n ∧ Q (.int n) H) ∨ ∃ a kvs, xs = [V.ref a] ∧ H a = some (.dK kvs) ∧ Q (.int kvs.length) H) := call_len.or call_lenD
theorem cal_int : CalR G X (fun xs H Q => (∃ i, xs = [.int i] ∧ Q (.int i) H) ∨ ∃ k, xs = [.bl k] ∧ Q (.int (if k then 1 else 0)) H) oInt := by
  intro ds z hz st T al H vs Q w r q
  match ds, hz, r with
  | [.int i], hz, r =>
    obtain ⟨v, rfl, rx⟩ := paired1 r
    rw [rep_int rx]
    have ez : D.int i = z := Option.some.inj hz
    subst ez
    exact .inl ⟨i, rfl, q _ T al H .refl w (.int _)⟩
  | [.bl true], hz, r =>
    obtain ⟨v, rfl, rx⟩ := paired1 r
    rw [rep_bl rx]
    have ez : D.int 1 = z := Option.some.inj hz
    subst ez
    exact .inr ⟨true, rfl, q _ T al H .refl w (.int _)⟩
  | [.bl false], hz, r =>
    obtain ⟨v, rfl, rx⟩ := paired1 r
    rw [rep_bl rx]
    have ez : D.int 0 = z := Option.some.inj hz
    subst ez
    exact .inr ⟨false, rfl, q _ T al H .refl w (.int _)⟩
theorem cal_min2 : CalR G X (fun xs H Q => ∃ i j, xs = [.int i, .int j] ∧ Q (.int (if j < i then j else i)) H) oMin2 := by
  intro ds z hz st T al H vs Q w r q
  match ds, hz, r with
  | [.int i, .int j], hz, r =>
    obtain ⟨v, u, rfl, rx, ry⟩ := paired2 r
    rw [rep_int rx, rep_int ry]
    have ez : D.int (match decide (j < i) with
      | true => j
      | false => i) = z := Option.some.inj hz
    subst ez
    refine ⟨i, j, rfl, q _ T al H .refl w ?_⟩
    by_cases h : j < i
    · rw [if_pos h, decide_eq_true h]; exact .int _
    · rw [if_neg h, decide_eq_false h]; exact .int _
theorem cal_max2 : CalR G X (fun xs H Q => ∃ i j, xs = [.int i, .int j] ∧ Q (.int (if j > i then j else i)) H) oMax2 := by
  intro ds z hz st T al H vs Q w r q
  match ds, hz, r with
  | [.int i, .int j], hz, r =>
    obtain ⟨v, u, rfl, rx, ry⟩ := paired2 r
    rw [rep_int rx, rep_int ry]
    have ez : D.int (match decide (i < j) with
      | true => j
      | false => i) = z := Option.some.inj hz
    subst ez
    refine ⟨i, j, rfl, q _ T al H .refl w ?_⟩
    by_cases h : i < j
    · rw [if_pos h, decide_eq_true h]; exact .int _
    · rw [if_neg h, decide_eq_false h]; exact .int _
theorem lst_ints {K : PySem.W.Frag} {T : Tg} {al : List Addr} {H : Hp} {v : V} {x : D} {ns : List Int} (r : RepH K T al H v x) (h : x.lstOf.bind intsOf = some ns) : ∃ a, v = .ref a ∧ SqL K H a (ns.map V.int) := by
  cases x with
  | lst ds =>
    obtain ⟨a, us, rfl, h1, h2⟩ := r
    have h' : intsOf ds = some ns := h
    rw [ints_rep h2 h'] at h1
    exact ⟨a, rfl, .inl (.inl (nw_same _ _ h1))⟩
  | _ => cases h
theorem bols_rep {K : PySem.W.Frag} {F : Hp} {al : List Addr} : ∀ {ds : List D} {vs : List V} {bs : List Bool}, RepAll K F al vs ds → bolsOf ds = some bs → vs = bs.map V.bl
  | [], _, bs, r, e => by
    cases r
    have e' : ([] : List Bool) = bs := Option.some.inj e
    rw [← e']
    rfl
  | d :: ds, _, bs, r, e => by
    cases r with
    | cons r1 r2 =>
      cases d with
      | bl i =>
        have e' : (bolsOf ds).map (i :: ·) = some bs := e
        obtain ⟨ms, h1, h2⟩ := Option.map_eq_some_iff.mp e'
        rw [← h2, bols_rep r2 h1, rep_bl r1]
        rfl
      | _ => cases e
theorem lst_bols {K : PySem.W.Frag} {T : Tg} {al : List Addr} {H : Hp} {v : V} {x : D} {ns : List Bool} (r : RepH K T al H v x) (h : x.lstOf.bind bolsOf = some ns) : ∃ a, v = .ref a ∧ SqL K H a (ns.map V.bl) := by
  cases x with
  | lst ds =>
    obtain ⟨a, us, rfl, h1, h2⟩ := r
    have h' : bolsOf ds = some ns := h
    rw [bols_rep h2 h'] at h1
    exact ⟨a, rfl, .inl (.inl (nw_same _ _ h1))⟩
  | _ => cases h
theorem cal_sum : CalR G X (rSum X.K) oSum := by
  intro ds z hz st T al H vs Q w r q
  match ds, hz, r with
  | [x], hz, r =>
    obtain ⟨v, rfl, rx⟩ := paired1 r
    have hz' : (x.lstOf.bind intsOf).map (fun ns => D.int ns.sum) = some z := hz
    obtain ⟨ns, hn, ez⟩ := Option.map_eq_some_iff.mp hz'
    subst ez
    obtain ⟨a, rfl, h1⟩ := lst_ints rx hn
    exact ⟨a, ns, rfl, h1, q _ T al H .refl w (.int _)⟩
theorem cal_all : CalR G X (rAll X.K) oAll := by
  intro ds z hz st T al H vs Q w r q
  match ds, hz, r with
  | [x], hz, r =>
    obtain ⟨v, rfl, rx⟩ := paired1 r
    have hz' : (x.lstOf.bind bolsOf).map (fun bs => D.bl (bs.all id)) = some z := hz
    obtain ⟨ns, hn, ez⟩ := Option.map_eq_some_iff.mp hz'
    subst ez
    obtain ⟨a, rfl, h1⟩ := lst_bols rx hn
    exact ⟨a, ns, rfl, h1, q _ T al H .refl w (.bl _)⟩
theorem cal_any : CalR G X (rAny X.K) oAny := by
  intro ds z hz st T al H vs Q w r q
  match ds, hz, r with
  | [x], hz, r =>
    obtain ⟨v, rfl, rx⟩ := paired1 r
    have hz' : (x.lstOf.bind bolsOf).map (fun bs => D.bl (bs.any id)) = some z := hz
    obtain ⟨ns, hn, ez⟩ := Option.map_eq_some_iff.mp hz'
    subst ez
    obtain ⟨a, rfl, h1⟩ := lst_bols rx hn
    exact ⟨a, ns, rfl, h1, q _ T al H .refl w (.bl _)⟩
theorem cal_tuple : CalR G X (fun xs H Q => ∃ p ys, xs = [.ref p] ∧ ((SqL X.K H p ys ∧ ∀ l, H l = none → Q (.ref l) (upd H l (.tup ys))) ∨ (SqT X.K H p ys ∧ Q (.ref p) H))) oTuple := by
  intro ds z hz st T al H vs Q w r q
  match ds, hz, r with
  | [.lst xs], hz, r =>
    obtain ⟨v, rfl, rx⟩ := paired1 r
    obtain ⟨a, us, rfl, h1, h2⟩ := rx
    have ez : D.tup xs = z := Option.some.inj hz
    subst ez
    refine ⟨a, us, rfl, .inl ⟨.inl (.inl (nw_same _ _ h1)), fun l n => ?_⟩⟩
    have n' := w.free n
    refine q (.ref l) (tset T l .frz) al _ (Ext.laid n .frz) ((w.laid n).tag (by rw [n']; decide) (by rw [n']; decide) upd_same) ?_
    exact .tup (fz_of tset_same upd_same) (RepAll.ext h2 (Ext.laid n .frz))
  | [.tup xs], hz, r =>
    obtain ⟨v, rfl, rx⟩ := paired1 r
    obtain ⟨a, us, rfl, h1, h2⟩ := rep_tup rx
    have ez : D.tup xs = z := Option.some.inj hz
    subst ez
    exact ⟨a, us, rfl, .inr ⟨Same.seqT fz_same h1, q _ T al H .refl w rx⟩⟩
theorem cal_list : CalN G X (fun xs H Q => ∃ p ys, xs = [.ref p] ∧ (SqL X.K H p ys ∨ SqT X.K H p ys) ∧ ∀ l, H l = none → Q (.ref l) (upd H l (.lst ys))) nList := by
  intro ds z hz st T al H vs Q w r q
  match ds, hz, r with
  | [.lst xs], hz, r =>
    obtain ⟨v, rfl, rx⟩ := paired1 r
    obtain ⟨a, us, rfl, h1, h2⟩ := rx
    have ez : xs = z := Option.some.inj hz
    subst ez
    refine ⟨a, us, rfl, .inl (.inl (.inl (nw_same _ _ h1))), fun l n => ?_⟩
    exact q (.ref l) T al _ (Ext.laid0 n) (w.laid n) ⟨l, us, rfl, n, w.free n, upd_same, RepAll.ext h2 (Ext.laid0 n)⟩
  | [.tup xs], hz, r =>
    obtain ⟨v, rfl, rx⟩ := paired1 r
    obtain ⟨a, us, rfl, h1, h2⟩ := rep_tup rx
    have ez : xs = z := Option.some.inj hz
    subst ez
    refine ⟨a, us, rfl, .inr (Same.seqT fz_same h1), fun l n => ?_⟩
    exact q (.ref l) T al _ (Ext.laid0 n) (w.laid n) ⟨l, us, rfl, n, w.free n, upd_same, RepAll.ext h2 (Ext.laid0 n)⟩
end
end Pi
namespace Pi
open PySem PySem.Spec PyProof.Rows L2

def nCat (f g : Env → Mo D) : Env → Mo (List D) := fun r => f r >>= fun x => g r >>= fun y => match x, y with
  | .lst xs, .lst ys => lim (xs.length + ys.length) (xs ++ ys)
  | _, _ => Mo.bad
def nRep (f g : Env → Mo D) : Env → Mo (List D) := fun r => f r >>= fun x => g r >>= fun y => match x, y with
  | .lst xs, .int k => (match decide (0 ≤ k) && Nat.ble k.toNat 16777216 with
    | true => lim (xs.length * k.toNat) (List.replicate k.toNat xs).flatten
    | false => Mo.bad)
  | _, _ => Mo.bad
theorem lim_or {b : Type} (n : Nat) (x : b) (st : St) : (lim n x st = .ok x st ∧ n ≤ sizeLine) ∨ lim n x st = .bad := by
  unfold lim
  cases e : Nat.ble n 16777216 with
  | true => exact .inl ⟨rfl, by rw [line_is]; exact Nat.le_of_ble_eq_true e⟩
  | false => exact .inr rfl
theorem RepAll.flat {K : PySem.W.Frag} {F : Hp} {al : List Addr} {vs : List V} {ds : List D} (r : RepAll K F al vs ds) : ∀ k : Nat, RepAll K F al (List.replicate k vs).flatten (List.replicate k ds).flatten
  | 0 => .nil
  | k + 1 => by
    rw [List.replicate_succ, List.replicate_succ, List.flatten_cons, List.flatten_cons]
    exact r.append (RepAll.flat r k)
theorem rep63 {n : Nat} (h : n ≤ 16777216) (k : Int) (h0 : 0 ≤ k) (e : k.toNat = n) : -(2 ^ 63) ≤ k ∧ k < 2 ^ 63 := by omega
section
variable {G : GX} {X : Cx} {W : WX} {H0 : Hp} {a b e : Expr} {es : List Expr} {pos p2 : Pos}
theorem PN.toH {f : Env → Mo (List D)} (h : PN G X W H0 e f) : PH G X W H0 e (nFz f) := fun r st σ T al H Q S w q => h r st σ T al H Q S w (by
  refine seqP back_H q fun xs st1 v T1 al1 H1 ex x1 w1 r1 q1 => ?_
  obtain ⟨p, vs, rfl, n0, tp, hp, rs⟩ := r1
  exact q1 (.ref p) T1 al1 H1 .refl w1 ⟨p, vs, rfl, nw_of (by rw [tp]; decide) hp, rs⟩)
theorem pn_cat {f g : Env → Mo D} (ha : PH G X W H0 a f) (hb : PH G X W H0 b g) : PN G X W H0 (.BinOp a .Add b pos) (nCat f g) := by
  intro r st σ T al H Q S w q pins s I
  refine wpAny_BinOp (binT (R := fun x y H' => rCat x y H' Q) pe_rd pe_rd I ?_ fun v u s2 x y H2 I2 rx ry q => op_cat pins s2 σ H2 x y v u Q I2 rx ry q)
  refine ha r st σ T al H _ S w (seqP back_N q fun x st1 v T1 al1 H1 _ x1 w1 r1 q1 => ?_)
  refine hb r st1 σ T1 al1 H1 _ (S.ext x1) w1 (seqP back_N q1 fun y st2 u T2 al2 H2 _ x2 w2 r2 q2 => ?_)
  have rx := RepH.ext r1 x2
  cases x with
  | lst xs =>
    cases y with
    | lst ys =>
      obtain ⟨p, vs, rfl, h1, h2⟩ := rx
      obtain ⟨p2, us, rfl, h3, h4⟩ := r2
      have q3 : Post G X.K W (RpN X.K) σ T2 al2 H2 Q (lim (xs.length + ys.length) (xs ++ ys) st2) := q2
      rcases lim_or (xs.length + ys.length) (xs ++ ys) st2 with ⟨e1, e2⟩ | e1
      · rw [e1] at q3
        refine ⟨p, p2, vs, us, rfl, rfl, nw_same _ _ h1, nw_same _ _ h3, by rw [h2.length, h4.length]; exact e2, fun p' n => ?_⟩
        exact q3 (.ref p') T2 al2 _ (Ext.laid0 n) (w2.laid n) ⟨p', _, rfl, n, w2.free n, upd_same, (RepAll.ext h2 (Ext.laid0 n)).append (RepAll.ext h4 (Ext.laid0 n))⟩
      · rw [e1] at q3
        exact q3.elim
    | _ => exact q2.elim
  | _ => exact q2.elim
theorem pn_rep {f g : Env → Mo D} (ha : PH G X W H0 a f) (hb : PH G X W H0 b g) : PN G X W H0 (.BinOp a .Mult b pos) (nRep f g) := by
  intro r st σ T al H Q S w q pins s I
  refine wpAny_BinOp (binT (R := fun x y H' => rRep x y H' Q) pe_rd pe_rd I ?_ fun v u s2 x y H2 I2 rx ry q => op_rep pins s2 σ H2 x y v u Q I2 rx ry q)
  refine ha r st σ T al H _ S w (seqP back_N q fun x st1 v T1 al1 H1 _ x1 w1 r1 q1 => ?_)
  refine hb r st1 σ T1 al1 H1 _ (S.ext x1) w1 (seqP back_N q1 fun y st2 u T2 al2 H2 _ x2 w2 r2 q2 => ?_)
  have rx := RepH.ext r1 x2
  cases x with
  | lst xs =>
    cases y with
    | int k =>
      obtain ⟨p, vs, rfl, h1, h2⟩ := rx
      have q3 : Post G X.K W (RpN X.K) σ T2 al2 H2 Q ((match decide (0 ≤ k) && Nat.ble k.toNat 16777216 with
        | true => lim (xs.length * k.toNat) (List.replicate k.toNat xs).flatten
        | false => Mo.bad) st2) := q2
      cases ek : decide (0 ≤ k) && Nat.ble k.toNat 16777216 with
      | false => rw [ek] at q3; exact q3.elim
      | true =>
        rw [ek] at q3
        obtain ⟨k0, k1⟩ := Bool.and_eq_true_iff.mp ek
        obtain ⟨k2, k3⟩ := rep63 (Nat.le_of_ble_eq_true k1) k (of_decide_eq_true k0) rfl
        rcases lim_or (xs.length * k.toNat) (List.replicate k.toNat xs).flatten st2 with ⟨e1, e2⟩ | e1
        · have q4 : Post G X.K W (RpN X.K) σ T2 al2 H2 Q (lim (xs.length * k.toNat) (List.replicate k.toNat xs).flatten st2) := q3
          rw [e1] at q4
          refine ⟨p, k, vs, rfl, by rw [rep_int r2], nw_same _ _ h1, k2, k3, by rw [h2.length]; exact e2, fun p' n => ?_⟩
          exact q4 (.ref p') T2 al2 _ (Ext.laid0 n) (w2.laid n) ⟨p', _, rfl, n, w2.free n, upd_same, RepAll.flat (RepAll.ext h2 (Ext.laid0 n)) k.toNat⟩
        · have q4 : Post G X.K W (RpN X.K) σ T2 al2 H2 Q (lim (xs.length * k.toNat) (List.replicate k.toNat xs).flatten st2) := q3
          rw [e1] at q4
          exact q4.elim
    | _ => exact q2.elim
  | _ => exact q2.elim
end

def ownAt {c : Type} (i : Nat) (r : Env) (k : List D → Mo c) : Mo c := match r[i]? with
  | some (some (.own xs)) => k xs
  | _ => Mo.bad
theorem ownAt_or (i : Nat) (r : Env) : (∃ xs, r[i]? = some (some (.own xs)) ∧ ∀ {c : Type} (k : List D → Mo c), ownAt i r k = k xs) ∨ ∀ {c : Type} (k : List D → Mo c), ownAt i r k = Mo.bad := by
  unfold ownAt
  cases e : r[i]? with
  | none => exact .inr fun k => rfl
  | some o =>
    cases o with
    | none => exact .inr fun k => rfl
    | some sv =>
      cases sv with
      | own xs => exact .inl ⟨xs, rfl, fun k => rfl⟩
      | d y => exact .inr fun k => rfl
      | odT y => exact .inr fun k => rfl
/-- xs.append(e) -/
def sApp (i : Nat) (f : Env → Mo D) : Stm := fun r => ownAt i r fun xs => f r >>= fun x => (match Nat.blt xs.length 16777216 with
  | true => pure (.nx (r.set i (some (.own (xs ++ [x])))))
  | false => Mo.bad)
/-- xs[e] = f -/
def sAt (i : Nat) (f g : Env → Mo D) : Stm := fun r => ownAt i r fun xs => f r >>= fun y => g r >>= fun x => match x with
  | .int k => (match place xs.length k with
    | some j => pure (.nx (r.set i (some (.own (xs.set j y)))))
    | none => Mo.bad)
  | _ => Mo.bad
section
variable {G : GX} {X : Cx} {E : XK} {H0 : Hp} {B : Bs} {pos : Pos}
/-- the list of slot i is written -/
theorem SI.own {r : Env} {σ : L2.St} {st : St} {T : Tg} {al : List Addr} {H : Hp} {i : Nat} {xs ys : List D} {l : Addr} {vs us : List V} (S : SI G X H0 B r σ st T al H) (hi : r[i]? = some (some (.own xs))) (hs : σ[i]? = some (some (.ref l))) (ht : T l = some .own) (h0 : H0 l = none) (hl : H l = some (.lst vs)) (rs : RepAll X.K (fz T H) al us ys) :
    SI G X H0 B (r.set i (some (.own ys))) σ st T al (upd H l (.lst us)) := by
  have nf : T l ≠ some .frz := by rw [ht]; decide
  have nwl : T l ≠ some .wld := by rw [ht]; decide
  have hsame : Same (fz T H) (fz T (upd H l (.lst us))) := fz_upd nf
  have rs' : RepAll X.K (fz T (upd H l (.lst us))) al us ys := rs.mono hsame ⟨[], by simp⟩
  refine ⟨⟨by rw [List.length_set]; exact S.sl.len, fun j y hj => ?_, fun j k y z u njk hj hk oj ok hu => ?_⟩, S.wi.upd nf nwl hl (fun ps z => by cases z) (fun f z => by cases z), S.ex.upd0 h0, fun a o e => hsame a o (S.fb a o e), S.ab⟩
  · rcases set_get hj with ⟨rfl, e⟩ | ⟨ne, hj⟩
    · have e' : y = .own ys := Option.some.inj e
      subst e'
      exact ⟨_, hs, l, us, rfl, ht, h0, upd_same, rs'⟩
    · obtain ⟨u, u1, u2⟩ := S.sl.at_ j y hj
      refine ⟨u, u1, ?_⟩
      cases y with
      | d x => exact Rep.mono hsame ⟨[], by simp⟩ u2
      | own zs =>
        obtain ⟨l2, vs2, rfl, ht2, h02, hl2, rs2⟩ := u2
        have nl : l2 ≠ l := fun z => S.sl.ap j i _ _ _ ne hj hi rfl rfl u1 (by rw [z]; exact hs)
        exact ⟨l2, vs2, rfl, ht2, h02, by rw [upd_ne nl]; exact hl2, rs2.mono hsame ⟨[], by simp⟩⟩
      | odT kvs =>
        obtain ⟨l2, vs2, rfl, ht2, h02, hl2, rs2⟩ := u2
        have nl : l2 ≠ l := fun z => S.sl.ap j i _ _ _ ne hj hi rfl rfl u1 (by rw [z]; exact hs)
        exact ⟨l2, vs2, rfl, ht2, h02, by rw [upd_ne nl]; exact hl2, paired_imp rs2 fun a b z => ⟨z.1, Rep.mono hsame ⟨[], by simp⟩ z.2⟩⟩
  · rcases set_get hj with ⟨rfl, e⟩ | ⟨ne, hj⟩
    · have e' : y = .own ys := Option.some.inj e
      subst e'
      rcases set_get hk with ⟨z1, _⟩ | ⟨ne2, hk⟩
      · exact absurd z1.symm njk
      · exact S.sl.ap j k _ _ u njk hi hk rfl ok hu
    · rcases set_get hk with ⟨e1, e⟩ | ⟨ne2, hk⟩
      · rw [e1] at njk ⊢
        exact S.sl.ap j i _ _ u njk hj hi oj rfl hu
      · exact S.sl.ap j k _ _ u njk hj hk oj ok hu
theorem pst_app {f : Env → Mo D} {i : Nat} {x : Str} {e : Expr} {p p1 p2 : Pos} (he : PD G X (wE E) H0 e f) (hN : X.N[i]? = some x := by rfl) (hv : Vis X.env.scope x := by first | exact Or.inl rfl | exact Or.inr (Or.inl rfl) | exact Or.inr (Or.inr rfl)) (hd : (x == ("__debug__" : Str)) = false := by decide)
    (hcd : (x == ("__classdict__" : Str)) = false := by decide) (hs1 : starEach [e] X.env = [(false, eval e X.env)] := by rfl)
    (hbase : attributeBase (.Name x p1) "append" X.env (eval (.Name x p1) X.env) = eval (.Name x p1) X.env := by rfl)
    (hfew : ((backTo pos (starEach [e] X.env)).all (fun x => !x.1) && (backToKw pos (keywordEach [] X.env)).all (fun x => x.1.isSome)
      && decide (([e] : List Expr).length + ([] : List Keyword).length + (if ([] : List Keyword).isEmpty then 0 else 1) < 30)) = true := by rfl)
    (hline : (p2.endLine == pos.line) = true := by rfl) (hplain : (backTo pos (starEach [] X.env)).any (·.1) = false := by rfl) (hsw : swapsWith (.Call (.Attribute (.Name x p1) "append" p2) [e] [] pos) none p.line X.env = pure false := by rfl) :
    PSt G X E H0 (.Expr (.Call (.Attribute (.Name x p1) "append" p2) [e] [] pos) p) (sApp i f) := by
  intro B r s0 σ T al H D S q
  have hst : starEach (e :: []) X.env = (false, eval e X.env) :: starEach [] X.env := by rw [hs1]; rfl
  refine rdS1 (ps_expr (pe_bm PySem.F.plainAttrs_list PySem.F.slot_list_append PySem.F.type_list_append mt_append (pe_var (pos := p1) hN hv hd hcd) (pa_cons pe_rd pa_nil hst) hbase hfew hline hst hplain) hsw) ?_
  unfold sApp at q
  rcases ownAt_or i r with ⟨xs, hi, ek⟩ | ek
  · rw [ek] at q
    obtain ⟨v, hs, l, vs, rfl, ht, h0, hl, rs⟩ := S.sl.at_ i _ hi
    refine ⟨_, hs, .inl ⟨rfl, vs, .inl (.inl hl)⟩, he r s0 σ T al H _ S.sl S.wi (seqS S q fun y st1 u T1 al1 H1 x1 S1 r1 q1 => ?_)⟩
    have hl1 : H1 l = some (.lst vs) := x1.hp l _ hl (by rw [ht]; decide)
    have ht1 : T1 l = some .own := (x1.tg l _ hl).trans ht
    have rs1 := rs.ext x1
    cases eb : Nat.blt xs.length 16777216 with
    | false =>
      rw [eb] at q1
      exact q1.elim
    | true =>
      rw [eb] at q1
      have hlt : xs.length < 16777216 := Nat.blt_eq ▸ eb
      refine ⟨l, vs, u, rfl, rfl, hl1, by rw [rs1.length, line_is]; exact hlt, ?_⟩
      exact q1 σ T1 al1 _ (S1.own hi hs ht1 h0 hl1 (rs1.snoc r1))
  · rw [ek] at q
    exact q.elim
theorem pst_at {f g : Env → Mo D} {i : Nat} {x : Str} {e k : Expr} {p p1 : Pos} (he : PD G X (wE E) H0 e f) (hk : PD G X (wE E) H0 k g) (hN : X.N[i]? = some x := by rfl) (hv : Vis X.env.scope x := by first | exact Or.inl rfl | exact Or.inr (Or.inl rfl) | exact Or.inr (Or.inr rfl)) (hd : (x == ("__debug__" : Str)) = false := by decide)
    (hcd : (x == ("__classdict__" : Str)) = false := by decide)
    (ha : ∀ v, assign (.Subscript (.Name x p1) k p) X.env v = (do
      let ov ← holding [v] (eval (.Name x p1) X.env)
      let iv ← holding [v, ov] (eval k X.env)
      standAt p
      holding [v, ov, iv] (setItem ov iv v)
      release [v, ov, iv] []) := by intro _; rfl)
    (hs : swapsWithSole [.Subscript (.Name x p1) k p] e pos.line X.env = pure false := by rfl) (hw : swappedStores [.Subscript (.Name x p1) k p] e X.env = pure none := by rfl) :
    PSt G X E H0 (.Assign [.Subscript (.Name x p1) k p] e pos) (sAt i f g) := by
  intro B r s0 σ T al H D S q
  refine rdS1 (ps_asg pe_rd (pg_sub (pe_var (pos := p1) hN hv hd hcd) pe_rd set_list ha) hs hw) ?_
  unfold sAt at q
  rcases ownAt_or i r with ⟨xs, hi, ek⟩ | ek
  · rw [ek] at q
    obtain ⟨v, hσ, l, vs, rfl, ht, h0, hl, rs⟩ := S.sl.at_ i _ hi
    refine he r s0 σ T al H _ S.sl S.wi (seqS S q fun y st1 u T1 al1 H1 x1 S1 r1 q1 => ?_)
    refine ⟨_, hσ, hk r st1 σ T1 al1 H1 _ S1.sl S1.wi (seqS S1 q1 fun z st2 w T2 al2 H2 x2 S2 r2 q2 => ?_)⟩
    have x12 := x1.trans x2
    have hl1 : H2 l = some (.lst vs) := x12.hp l _ hl (by rw [ht]; decide)
    have ht1 : T2 l = some .own := (x12.tg l _ hl).trans ht
    have rs1 := rs.ext x12
    cases z with
    | int k =>
      have q3 : PostS G X E H0 B D ((match place xs.length k with
        | some j => pure (.nx (r.set i (some (.own (xs.set j y)))))
        | none => Mo.bad : Mo Fl) st2) := q2
      cases ep : place xs.length k with
      | none => rw [ep] at q3; exact q3.elim
      | some j =>
        rw [ep] at q3
        refine ⟨l, vs, k, j, rfl, rep_int r2, hl1, by rw [← place_ixN, rs1.length]; exact ep, ?_⟩
        exact q3 σ T2 al2 _ (S2.own hi hσ ht1 h0 hl1 (rs1.set (r1.ext x2) j))
    | _ => exact q2.elim
  · rw [ek] at q
    exact q.elim
end
end Pi
namespace Pi
open PySem PySem.Spec PyProof.Rows L2

def getD (k : Key) : List (Key × D) → Option D
  | [] => none
  | (j, x) :: r => match decide (j = k) with
    | true => some x
    | false => getD k r
def hasD (k : Key) : List (Key × D) → Bool
  | [] => false
  | (j, _) :: r => match decide (j = k) with
    | true => true
    | false => hasD k r
def repD (k : Key) (y : D) : List (Key × D) → List (Key × D)
  | [] => []
  | (j, x) :: r => match decide (j = k) with
    | true => (j, y) :: repD k y r
    | false => (j, x) :: repD k y r
def putD (kvs : List (Key × D)) (k : Key) (y : D) : List (Key × D) := match hasD k kvs with
  | true => repD k y kvs
  | false => kvs ++ [(k, y)]
def D.key : D → Option Key
  | .int i => some (.inl i)
  | .str x => some (.inr x)
  | _ => none
section
variable {K : PySem.W.Frag} {F : Hp} {al : List Addr}
theorem kv_len : ∀ {vs : List (Key × V)} {ds : List (Key × D)}, RepKv K F al vs ds → vs.length = ds.length
  | _, _, .nil => rfl
  | _, _, .cons _ t => congrArg (· + 1) (kv_len t)
theorem kv_get {k : Key} {x : D} : ∀ {vs : List (Key × V)} {ds : List (Key × D)}, RepKv K F al vs ds → getD k ds = some x → ∃ v, valV vs k = some v ∧ Rep K F al v x
  | _, _, .nil, e => by cases e
  | _, _, @RepKv.cons _ _ _ j v vs d ds r t, e => by
    unfold getD at e
    by_cases h : j = k
    · rw [decide_eq_true h] at e
      have e' : d = x := Option.some.inj e
      subst e'
      exact ⟨v, valV_pos h, r⟩
    · rw [decide_eq_false h] at e
      obtain ⟨u, h1, h2⟩ := kv_get t e
      exact ⟨u, by rw [valV_neg h]; exact h1, h2⟩
theorem kv_has {k : Key} : ∀ {vs : List (Key × V)} {ds : List (Key × D)}, RepKv K F al vs ds → hasD k ds = vs.any fun kv => decide (kv.1 = k)
  | _, _, .nil => rfl
  | _, _, @RepKv.cons _ _ _ j v vs d ds r t => by
    unfold hasD
    rw [List.any_cons]
    by_cases h : j = k
    · simp [h]
    · simp only [decide_eq_false h, Bool.false_or]
      exact kv_has t
theorem kv_rep {k : Key} {v : V} {y : D} (q : Rep K F al v y) : ∀ {vs : List (Key × V)} {ds : List (Key × D)}, RepKv K F al vs ds → RepKv K F al (vs.map fun kv => if kv.1 = k then (kv.1, v) else kv) (repD k y ds)
  | _, _, .nil => .nil
  | _, _, @RepKv.cons _ _ _ j u vs d ds r t => by
    unfold repD
    rw [List.map_cons]
    by_cases h : j = k
    · simp only [decide_eq_true h, if_pos h]
      exact .cons q (kv_rep q t)
    · simp only [decide_eq_false h, if_neg h]
      exact .cons r (kv_rep q t)
theorem kv_app : ∀ {vs ws : List (Key × V)} {ds es : List (Key × D)}, RepKv K F al vs ds → RepKv K F al ws es → RepKv K F al (vs ++ ws) (ds ++ es)
  | _, _, _, _, .nil, s => s
  | _, _, _, _, .cons r t, s => .cons r (kv_app t s)
theorem kv_put {k : Key} {v : V} {y : D} {vs : List (Key × V)} {ds : List (Key × D)} (r : RepKv K F al vs ds) (q : Rep K F al v y) : RepKv K F al (putK vs k v) (putD ds k y) := by
  unfold putK putD
  rw [← kv_has r]
  cases hasD k ds with
  | true => exact kv_rep q r
  | false => exact kv_app r (.cons q .nil)
theorem kv_merge : ∀ {more : List (Key × V)} {dm : List (Key × D)} {vs : List (Key × V)} {ds : List (Key × D)}, RepKv K F al more dm → RepKv K F al vs ds → RepKv K F al (mergeK vs more) (dm.foldl (fun acc kv => putD acc kv.1 kv.2) ds)
  | _, _, _, _, .nil, s => s
  | _, _, _, _, @RepKv.cons _ _ _ k v vs d ds r t, s => by
    have h := kv_merge t (kv_put (k := k) s r)
    exact h
theorem key_rep {v : V} {x : D} {k : Key} (r : Rep K F al v x) (e : x.key = some k) : v = kV k := by
  cases x with
  | int i =>
    have e' : (Sum.inl i : Key) = k := Option.some.inj e
    subst e'
    exact rep_int r
  | str i =>
    have e' : (Sum.inr i : Key) = k := Option.some.inj e
    subst e'
    exact rep_str r
  | _ => cases e
end

/-- what a name of the module stands for: data that is written there -/
structure Glv (X : Cx) (x : Str) (d : D) : Prop where
  ex : ∃ (v : V) (u : Value), X.mg x = some u ∧ RelV v u ∧ ∀ (F : Hp) (al : List Addr), Rep X.K F al v d
section
variable {G : GX} {X : Cx} {W : WX} {H0 : Hp} {a b e : Expr} {es : List Expr} {pos p2 : Pos}
theorem pd_glo {x : Str} {d : D} (g : Glv X x d) (hg : Gl X x) (hd : (x == ("__debug__" : Str)) = false := by decide) : PD G X W H0 (.Name x pos) (eC d) := by
  obtain ⟨v, u, h1, h2, h3⟩ := g.ex
  exact pd_c (pe_glob hg h1 h2 hd) h3

def stGet (n : Nat) (k : Key) : Mo D := fun st => match st[n]? with
  | some (.dk kvs) => (match getD k kvs with
    | some x => .ok x st
    | none => .bad)
  | _ => .bad
def stPut (n : Nat) (k : Key) (y : D) : Mo Unit := fun st => match st[n]? with
  | some (.dk kvs) => (match Nat.blt kvs.length 16777216 with
    | true => .ok () (st.set n (.dk (putD kvs k y)))
    | false => .bad)
  | _ => .bad
def D.at : D → Option Nat
  | .obj n => some n
  | _ => none
def eGet (f g : Env → Mo D) : Env → Mo D := fun r => f r >>= fun x => g r >>= fun y => Mo.opt x.at >>= fun n => Mo.opt y.key >>= fun k => stGet n k
def sPut (f g h : Env → Mo D) : Stm := fun r => h r >>= fun z => f r >>= fun x => g r >>= fun y => Mo.opt x.at >>= fun n => Mo.opt y.key >>= fun k => stPut n k z >>= fun _ => pure (.nx r)
theorem opt_bind {b c : Type} (o : Option b) (g : b → Mo c) (st : St) : (∃ y, o = some y ∧ (Mo.opt o >>= g) st = g y st) ∨ (Mo.opt o >>= g) st = .bad := by
  cases o with
  | none => exact .inr rfl
  | some y => exact .inl ⟨y, rfl, rfl⟩
theorem at_rep_obj {K : PySem.W.Frag} {F : Hp} {al : List Addr} {v : V} {x : D} {n : Nat} (r : Rep K F al v x) (e : x.at = some n) : ∃ p, v = .ref p ∧ al[n]? = some p := by
  cases x with
  | obj m =>
    have e' : m = n := Option.some.inj e
    subst e'
    cases r with
    | obj h => exact ⟨_, rfl, h⟩
  | _ => cases e
theorem pd_get {f g : Env → Mo D} (hu : X.A.units + 1 < cLine) (ha : PD G X W H0 a f) (hb : PD G X W H0 b g) (hs : NoSl b := by intro o i; rfl) : PD G X W H0 (.Subscript a b pos) (eGet f g) := by
  intro r st σ T al H Q S w q
  refine rdE (pe_dget hu pe_rd pe_rd hs) ?_
  refine ha r st σ T al H _ S w (seqP back_D q fun x st1 v T1 al1 H1 _ x1 w1 r1 q1 => ?_)
  refine hb r st1 σ T1 al1 H1 _ (S.ext x1) w1 (seqP back_D q1 fun y st2 u T2 al2 H2 _ x2 w2 r2 q2 => ?_)
  rcases opt_bind x.at (fun n => Mo.opt y.key >>= fun k => stGet n k) st2 with ⟨n, e1, e2⟩ | e2
  · rw [e2] at q2
    rcases opt_bind y.key (fun k => stGet n k) st2 with ⟨k, e3, e4⟩ | e4
    · rw [e4] at q2
      obtain ⟨p, rfl, hp⟩ := at_rep_obj (r1.ext x2) e1
      have eu := key_rep r2 e3
      subst eu
      unfold stGet at q2
      cases em : st2[n]? with
      | none => rw [em] at q2; exact q2.elim
      | some m =>
        rw [em] at q2
        cases m with
        | dk kvs =>
          obtain ⟨_, vs, h1, h2⟩ := w2.cell n p _ hp em
          cases eg : getD k kvs with
          | none => simp only [eg] at q2; exact q2.elim
          | some z =>
            simp only [eg] at q2
            obtain ⟨t, h3, h4⟩ := kv_get h2 eg
            exact ⟨p, t, rfl, by rw [← h3]; exact DGet.k h1, q2 t T2 al2 H2 .refl w2 h4⟩
    · rw [e4] at q2
      exact q2.elim
  · rw [e2] at q2
    exact q2.elim
end

/-- an object of the world is written -/
theorem Ext.wld {T : Tg} {al : List Addr} {H : Hp} {p : Addr} {o : HO} (h : T p = some .wld) (nu : NU o := by intro xs z; cases z) : Ext T al H T al (upd H p o) where
  tg0 := fun _ _ _ _ => rfl
  tgt := fun _ _ _ f => f
  tgw := fun _ _ _ f => f
  hp0 := fun a u e n _ => by
    have ne : a ≠ p := fun z => by
      rw [z] at n
      exact n h
    rw [upd_ne ne]
    exact e
  wl := fun a u e => by
    by_cases z : a = p
    · exact ⟨o, by rw [z]; exact upd_same, fun _ => nu⟩
    · exact ⟨u, by rw [upd_ne z]; exact e, id⟩
  al := ⟨[], by simp⟩
theorem WI.put {K : PySem.W.Frag} {TB : List (Addr × Str)} {T : Tg} {al : List Addr} {st : St} {H : Hp} {n : Nat} {p : Addr} {kvs : List (Key × D)} {us vs : List (Key × V)} (w : WI K TB T al st H) (hp : al[n]? = some p) (h : H p = some (.dK vs)) (r : RepKv K (fz T H) al us kvs) : WI K TB T al (st.set n (.dk kvs)) (L2.upd H p (.dK us)) := by
  have hn : n < st.length := by
    rw [← w.len]
    exact (List.getElem?_eq_some_iff.mp hp).1
  obtain ⟨m, hm⟩ : ∃ m, st[n]? = some m := ⟨_, List.getElem?_eq_getElem hn⟩
  obtain ⟨tp, _⟩ := w.cell n p m hp hm
  have hs : Same (fz T H) (fz T (L2.upd H p (.dK us))) := fz_upd (by rw [tp]; decide)
  refine ⟨fun a t e => ?_, by rw [List.length_set]; exact w.len, fun k a m' e1 e2 => ?_, w.inj, fun q hq => ?_, w.wldo⟩
  · by_cases z : a = p
    · exact ⟨_, by rw [z]; exact upd_same⟩
    · obtain ⟨v, q⟩ := w.tg a t e
      exact ⟨v, by rw [upd_ne z]; exact q⟩
  · by_cases hk : k = n
    · subst hk
      have ea : a = p := by
        rw [hp] at e1
        exact (Option.some.inj e1).symm
      subst ea
      rw [List.getElem?_set_self hn] at e2
      have e3 : MO.dk kvs = m' := Option.some.inj e2
      subst e3
      exact ⟨tp, us, upd_same, RepKv.mono hs ⟨[], by simp⟩ r⟩
    · rw [List.getElem?_set_ne (Ne.symm hk)] at e2
      obtain ⟨q1, q2⟩ := w.cell k a m' e1 e2
      have ne : a ≠ p := fun z => hk (by
        rw [z] at e1
        have hk1 := (List.getElem?_eq_some_iff.mp e1)
        have hn1 := (List.getElem?_eq_some_iff.mp hp)
        obtain ⟨l1, g1⟩ := hk1
        obtain ⟨l2, g2⟩ := hn1
        exact (List.getElem_inj w.inj).mp (g1.trans g2.symm))
      refine ⟨q1, ?_⟩
      rw [upd_ne ne]
      cases m' with
      | dk ks =>
        obtain ⟨ws, e3, r3⟩ := q2
        exact ⟨ws, e3, RepKv.mono hs ⟨[], by simp⟩ r3⟩
  · obtain ⟨ps, e1, e2, e3⟩ := w.tabs q hq
    have ne : q.1 ≠ p := fun z => by
      rw [z, h] at e1
      cases e1
    refine ⟨ps, by rw [upd_ne ne]; exact e1, e2, fun pos cv hc => ?_⟩
    obtain ⟨c, ec, eh⟩ := e3 pos cv hc
    have ne2 : c ≠ p := fun z => by
      rw [z, h] at eh
      have : HO.dK vs = LamX.CodeO p q.2 := Option.some.inj eh
      unfold LamX.CodeO at this
      cases this
    exact ⟨c, ec, by rw [upd_ne ne2]; exact eh⟩
section
variable {G : GX} {X : Cx} {E : XK} {H0 : Hp} {B : Bs} {a b e : Expr} {pos p : Pos}
theorem pst_put {f g h : Env → Mo D} (hu : X.A.units + 1 < cLine) (ha : PD G X (wE E) H0 a f) (hb : PD G X (wE E) H0 b g) (he : PD G X (wE E) H0 e h) (hs : swapsWith e (some (.Subscript a b p)) pos.line X.env = pure false := by rfl) :
    PSt G X E H0 (.Assign [.Subscript a b p] e pos) (sPut f g h) := by
  intro B r s0 σ T al H D S q
  refine rdS1 (ps_dput hu pe_rd pe_rd pe_rd hs) ?_
  refine he r s0 σ T al H _ S.sl S.wi (seqS S q fun z st1 v T1 al1 H1 x1 S1 r1 q1 => ?_)
  refine ha r st1 σ T1 al1 H1 _ S1.sl S1.wi (seqS S1 q1 fun x st2 u T2 al2 H2 x2 S2 r2 q2 => ?_)
  refine hb r st2 σ T2 al2 H2 _ S2.sl S2.wi (seqS S2 q2 fun y st3 t T3 al3 H3 x3 S3 r3 q3 => ?_)
  rcases opt_bind x.at (fun n => Mo.opt y.key >>= fun k => stPut n k z >>= fun _ => pure (Fl.nx r)) st3 with ⟨n, e1, e2⟩ | e2
  · rw [e2] at q3
    rcases opt_bind y.key (fun k => stPut n k z >>= fun _ => pure (Fl.nx r)) st3 with ⟨k, e3, e4⟩ | e4
    · rw [e4, bind_ap] at q3
      obtain ⟨p', rfl, hp⟩ := at_rep_obj (r2.ext x3) e1
      have eu := key_rep r3 e3
      subst eu
      unfold stPut at q3
      cases em : st3[n]? with
      | none => simp only [em] at q3; exact q3.elim
      | some m =>
        cases m with
        | dk kvs =>
          simp only [em] at q3
          obtain ⟨tp, vs, h1, h2⟩ := S3.wi.cell n p' _ hp em
          cases eb : Nat.blt kvs.length 16777216 with
          | false => simp only [eb] at q3; exact q3.elim
          | true =>
            simp only [eb] at q3
            have hlt : kvs.length < 16777216 := Nat.blt_eq ▸ eb
            have rz := (r1.ext x2).ext x3
            refine ⟨p', _, rfl, DPut.k h1 (by rw [kv_len h2, line_is]; exact hlt), ?_⟩
            have xw : Ext T3 al3 H3 T3 al3 (upd H3 p' (.dK (putK vs k v))) := Ext.wld tp
            exact q3 σ T3 al3 _ (S3.step xw (S3.wi.put hp h1 (kv_put h2 rz)))
    · rw [e4] at q3
      exact q3.elim
  · rw [e2] at q3
    exact q3.elim
end

def kvOf : List (D × D) → Option (List (Key × D))
  | [] => some []
  | (k, x) :: r => k.key.bind fun j => (kvOf r).map fun l => (j, x) :: l
def dispD (l : List (D × D)) : Option (List (Key × D)) := match Nat.ble l.length 15 with
  | true => (kvOf l).map fun kvs => kvs.foldl (fun acc kv => putD acc kv.1 kv.2) []
  | false => none
def prNil : Env → Mo (List (D × D)) := fun _ => pure []
def prCons (f g : Env → Mo D) (h : Env → Mo (List (D × D))) : Env → Mo (List (D × D)) := fun r => f r >>= fun x => g r >>= fun y => h r >>= fun l => pure ((x, y) :: l)
/-- pairs, evaluated from the left -/
def PPr (G : GX) (X : Cx) (W : WX) (H0 : Hp) (trs : List (TE × TE)) (f : Env → Mo (List (D × D))) : Prop := ∀ (r : Env) (st : St) (σ : L2.St) (T : Tg) (al : List Addr) (H : Hp) (Q : List (V × V) → Hp → Prop), SL X.K H0 T al H r σ → WI X.K G.TB T al st H →
  Post G X.K W (fun _ T al H v x => Paired (fun (p : V × V) (q : D × D) => Rep X.K (fz T H) al p.1 q.1 ∧ Rep X.K (fz T H) al p.2 q.2) v x) σ T al H Q (f r st) → tPairs trs σ H Q
section
variable {G : GX} {X : Cx} {W : WX} {H0 : Hp} {a b e : Expr} {pos p2 : Pos} {trs : List (TE × TE)}
theorem back_PP {K : PySem.W.Frag} : Back (fun (_ : Hp) (T : Tg) (al : List Addr) (H : Hp) (v : List (V × V)) (x : List (D × D)) => Paired (fun (p : V × V) (q : D × D) => Rep K (fz T H) al p.1 q.1 ∧ Rep K (fz T H) al p.2 q.2) v x) := fun _ _ _ _ _ _ _ _ h => h
theorem ppr_nil : PPr G X W H0 [] prNil := fun r st σ T al H Q S w q => q [] T al H .refl w .nil
theorem ppr_cons {f g : Env → Mo D} {h : Env → Mo (List (D × D))} (ha : PD G X W H0 a f) (hb : PD G X W H0 b g) (hr : PPr G X W H0 trs h) : PPr G X W H0 ((RdE X a, RdE X b) :: trs) (prCons f g h) := by
  intro r st σ T al H Q S w q
  refine ha r st σ T al H _ S w (seqP back_PP q fun x st1 v T1 al1 H1 _ x1 w1 r1 q1 => ?_)
  refine hb r st1 σ T1 al1 H1 _ (S.ext x1) w1 (seqP back_PP q1 fun y st2 u T2 al2 H2 _ x2 w2 r2 q2 => ?_)
  refine hr r st2 σ T2 al2 H2 _ ((S.ext x1).ext x2) w2 (seqP back_PP q2 fun l st3 ps T3 al3 H3 _ x3 w3 r3 q3 => ?_)
  exact q3 ((v, u) :: ps) T3 al3 H3 .refl w3 (.cons ⟨(Rep.ext r1 x2).ext x3, Rep.ext r2 x3⟩ r3)
theorem kvOf_ok {K : PySem.W.Frag} {F : Hp} {al : List Addr} : ∀ {l : List (D × D)} {ps : List (V × V)} {kvs : List (Key × D)}, Paired (fun (p : V × V) (q : D × D) => Rep K F al p.1 q.1 ∧ Rep K F al p.2 q.2) ps l → kvOf l = some kvs →
    ∃ vs : List (Key × V), ps = vs.map (fun kv => (kV kv.1, kv.2)) ∧ RepKv K F al vs kvs
  | [], _, kvs, .nil, e => by
    have e' : ([] : List (Key × D)) = kvs := Option.some.inj e
    subst e'
    exact ⟨[], rfl, .nil⟩
  | (k, x) :: l, _, kvs, .cons r t, e => by
    have e1 : k.key.bind (fun j => (kvOf l).map fun l => (j, x) :: l) = some kvs := e
    obtain ⟨j, hj, e2⟩ := Option.bind_eq_some_iff.mp e1
    obtain ⟨ks, hk, e3⟩ := Option.map_eq_some_iff.mp e2
    obtain ⟨vs, h1, h2⟩ := kvOf_ok t hk
    subst e3
    rename_i pv _
    obtain ⟨p1, p2⟩ := pv
    have ek := key_rep r.1 hj
    refine ⟨(j, p2) :: vs, ?_, .cons r.2 h2⟩
    rw [List.map_cons, ← h1]
    have ek' : p1 = kV j := ek
    rw [ek']
theorem paired_len {a b : Type} {F : a → b → Prop} : ∀ {l : List a} {m : List b}, Paired F l m → l.length = m.length
  | _, _, .nil => rfl
  | _, _, .cons _ t => congrArg (· + 1) (paired_len t)
/-- a dict that stands still from now on -/
def eDisp (f : Env → Mo (List (D × D))) : Env → Mo D := fun r => f r >>= fun l => Mo.opt (dispD l) >>= fun kvs => pure (.dct kvs)
/-- a dict that may change -/
def eObj (f : Env → Mo (List (D × D))) : Env → Mo D := fun r => f r >>= fun l => Mo.opt (dispD l) >>= fun kvs => fun st => .ok (.obj st.length) (st ++ [.dk kvs])
theorem dispD_ok {l : List (D × D)} {kvs : List (Key × D)} (h : dispD l = some kvs) : l.length ≤ 15 ∧ ∃ ks, kvOf l = some ks ∧ kvs = ks.foldl (fun acc kv => putD acc kv.1 kv.2) [] := by
  unfold dispD at h
  cases e : Nat.ble l.length 15 with
  | false => rw [e] at h; cases h
  | true =>
    rw [e] at h
    obtain ⟨ks, h1, h2⟩ := Option.map_eq_some_iff.mp h
    exact ⟨Nat.le_of_ble_eq_true e, ks, h1, h2.symm⟩
/-- an object joins the world -/
theorem WI.join {K : PySem.W.Frag} {TB : List (Addr × Str)} {T : Tg} {al : List Addr} {st : St} {H : Hp} {p : Addr} {kvs : List (Key × D)} {us : List (Key × V)} (w : WI K TB T al st H) (n : T p = none) (h : H p = some (.dK us)) (r : RepKv K (fz T H) al us kvs) : WI K TB (tset T p .wld) (al ++ [p]) (st ++ [.dk kvs]) H := by
  have hs : Same (fz T H) (fz (tset T p .wld) H) := fz_tset (by rw [n]; decide)
  have np : ∀ (k : Nat) (a : Addr), al[k]? = some a → a ≠ p := fun k a e z => by
    have hk : k < st.length := by
      rw [← w.len]
      exact (List.getElem?_eq_some_iff.mp e).1
    have q := (w.cell k a _ e (List.getElem?_eq_getElem hk)).1
    rw [z, n] at q
    cases q
  refine ⟨fun a t e => ?_, by rw [List.length_append, List.length_append, w.len]; rfl, fun k a m e1 e2 => ?_, ?_, w.tabs, fun a e => ?_⟩
  · by_cases z : a = p
    · exact ⟨_, by rw [z]; exact h⟩
    · rw [tset_ne z] at e
      exact w.tg a t e
  · by_cases hk : k < al.length
    · rw [List.getElem?_append_left hk] at e1
      rw [List.getElem?_append_left (by rw [← w.len]; exact hk)] at e2
      obtain ⟨q1, q2⟩ := w.cell k a m e1 e2
      refine ⟨by rw [tset_ne (np k a e1)]; exact q1, ?_⟩
      cases m with
      | dk ks =>
        obtain ⟨ws, e3, r3⟩ := q2
        exact ⟨ws, e3, RepKv.mono hs ⟨[p], rfl⟩ r3⟩
    · have hk2 : k = al.length := by
        have := (List.getElem?_eq_some_iff.mp e1).1
        rw [List.length_append, List.length_singleton] at this
        omega
      subst hk2
      rw [List.getElem?_append_right (Nat.le_refl _), Nat.sub_self] at e1
      rw [w.len, List.getElem?_append_right (Nat.le_refl _), Nat.sub_self] at e2
      have ea : p = a := Option.some.inj e1
      have em : MO.dk kvs = m := Option.some.inj e2
      subst ea
      subst em
      exact ⟨tset_same, us, h, RepKv.mono hs ⟨[p], rfl⟩ r⟩
  · rw [List.nodup_append]
    refine ⟨w.inj, by simp, fun a ha b hb => ?_⟩
    have eb : b = p := by simpa using hb
    obtain ⟨k, hk⟩ := List.getElem?_of_mem ha
    rw [eb]
    exact np k a hk
  · by_cases z : a = p
    · exact ⟨al.length, by rw [z, List.getElem?_append_right (Nat.le_refl _), Nat.sub_self]; rfl⟩
    · rw [tset_ne z] at e
      obtain ⟨k, hk⟩ := w.wldo a e
      exact ⟨k, by rw [List.getElem?_append_left (List.getElem?_eq_some_iff.mp hk).1]; exact hk⟩
theorem Ext.join {T T1 : Tg} {al al1 : List Addr} {H H1 : Hp} {p : Addr} (n : H p = none) (x : Ext T al H T1 al1 H1) (t : Tag) : Ext T al H (tset T1 p t) (al1 ++ [p]) H1 where
  tg0 := fun a o e m => by rw [tset_ne (ne_of_none e n)]; exact x.tg0 a o e m
  tgt := fun a xs e f => by rw [tset_ne (ne_of_none e n)]; exact x.tgt a xs e f
  tgw := fun a xs e f => by rw [tset_ne (ne_of_none e n)]; exact x.tgw a xs e f
  hp0 := x.hp0
  wl := x.wl
  al := by
    obtain ⟨b, rfl⟩ := x.al
    exact ⟨b ++ [p], by rw [List.append_assoc]⟩
variable {keys : List (Option Expr)} {values : List Expr}
theorem disp_run {f : Env → Mo (List (D × D))} (hp : PPr G X W H0 trs f) {r : Env} {st : St} {σ : L2.St} {T : Tg} {al : List Addr} {H : Hp} {Q : VK} (S : SL X.K H0 T al H r σ) (w : WI X.K G.TB T al st H)
    (ok : ∀ (p : Addr), H p = none → Post G X.K W (fun _ T' al' H' v x => Paired (fun (p : V × V) (q : D × D) => Rep X.K (fz T' H') al' p.1 q.1 ∧ Rep X.K (fz T' H') al' p.2 q.2) v x) σ T al (upd H p (.dK [])) (fun ps H2 => H2 p = some (.dK []) ∧ ∃ kvs : List (Key × V), ps = kvs.map (fun kv => (kV kv.1, kv.2)) ∧ kvs.length ≤ 15 ∧ Q (.ref p) (upd H2 p (.dK (mergeK [] kvs)))) (f r st)) : tDisp trs σ H Q := fun p n =>
  hp r st σ T al _ _ (S.ext (Ext.laid0 n)) (w.laid n) (ok p n)
theorem pd_disp {f : Env → Mo (List (D × D))} (hp : PPr G X W H0 trs f) (h : PPs X pos keys values trs) (hall : keys.all (·.isSome) = true := by rfl) (hl : keys.length = values.length := by rfl) (h0 : keys ≠ [] := by intro z; cases z) (h15 : keys.length ≤ 15 := by decide) : PD G X W H0 (.Dict keys values pos) (eDisp f) := by
  intro r st σ T al H Q S w q
  refine rdE (pe_disp h hall hl h0 h15) (disp_run hp S w fun p n => ?_)
  have q' := Post.ext back_D q (Ext.laid0 (o := .dK []) (al := al) (T := T) n)
  refine seqP back_D q' fun l st1 ps T1 al1 H1 ef x1 w1 r1 q1 => ?_
  have hp1 : H1 p = some (.dK []) := x1.hp p _ upd_same (by rw [w.free n]; decide)
  have tp : T1 p = none := (x1.tg p _ upd_same).trans (w.free n)
  refine ⟨hp1, ?_⟩
  rcases opt_bind (dispD l) (fun kvs => (pure (D.dct kvs) : Mo D)) st1 with ⟨kvs, e1, e2⟩ | e2
  · obtain ⟨hl15, ks, hk, ek⟩ := dispD_ok e1
    obtain ⟨vs, ev, rv⟩ := kvOf_ok r1 hk
    have q2 : Post G X.K W (RpD X.K) σ T al H Q (.ok (.dct kvs) st1) := by
      have : eDisp f r st = .ok (.dct kvs) st1 := by
        show (f r >>= _) st = _
        rw [bind_ap, ef]
        exact e2
      rw [this] at q
      exact q
    refine ⟨vs, ev, ?_, ?_⟩
    · have h1 := paired_len r1
      rw [ev, List.length_map] at h1
      rw [h1]
      exact hl15
    · have nf : T1 p ≠ some .frz := by rw [tp]; decide
      have hs : Same (fz T1 H1) (fz T1 (upd H1 p (.dK (mergeK [] vs)))) := fz_upd nf
      have hs2 : Same (fz T1 (upd H1 p (.dK (mergeK [] vs)))) (fz (tset T1 p .frz) (upd H1 p (.dK (mergeK [] vs)))) := fz_tset nf
      have w2 := (w1.upd (u := .dK (mergeK [] vs)) nf (by rw [tp]; decide) hp1 (fun ps z => by cases z) (fun f z => by cases z)).tag (t := .frz) nf (by rw [tp]; decide) upd_same
      have x0 : Ext T al H T al (upd H p (.dK [])) := Ext.laid0 n
      have x2 : Ext T al H T1 al1 H1 := x0.trans x1
      have x3 : Ext T al H (tset T1 p .frz) al1 (upd H1 p (.dK (mergeK [] vs))) := (x2.upd0 n).retag n .frz
      refine q2 (.ref p) _ al1 _ x3 w2 ?_
      rw [ek]
      have rm : RepKv X.K (fz T1 (upd H1 p (.dK (mergeK [] vs)))) al1 (mergeK [] vs) (ks.foldl (fun acc kv => putD acc kv.1 kv.2) []) := RepKv.mono hs ⟨[], by simp⟩ (kv_merge rv .nil)
      exact .dct (fz_of tset_same upd_same) (RepKv.mono hs2 ⟨[], by simp⟩ rm)
  · rw [e2] at q1
    exact q1.elim
theorem pd_obj {f : Env → Mo (List (D × D))} (hp : PPr G X W H0 trs f) (h : PPs X pos keys values trs) (hall : keys.all (·.isSome) = true := by rfl) (hl : keys.length = values.length := by rfl) (h0 : keys ≠ [] := by intro z; cases z) (h15 : keys.length ≤ 15 := by decide) : PD G X W H0 (.Dict keys values pos) (eObj f) := by
  intro r st σ T al H Q S w q
  refine rdE (pe_disp h hall hl h0 h15) (disp_run hp S w fun p n => ?_)
  have q' := Post.ext back_D q (Ext.laid0 (o := .dK []) (al := al) (T := T) n)
  refine seqP back_D q' fun l st1 ps T1 al1 H1 ef x1 w1 r1 q1 => ?_
  have hp1 : H1 p = some (.dK []) := x1.hp p _ upd_same (by rw [w.free n]; decide)
  have tp : T1 p = none := (x1.tg p _ upd_same).trans (w.free n)
  refine ⟨hp1, ?_⟩
  rcases opt_bind (dispD l) (fun kvs => ((fun st => .ok (.obj st.length) (st ++ [.dk kvs])) : Mo D)) st1 with ⟨kvs, e1, e2⟩ | e2
  · obtain ⟨hl15, ks, hk, ek⟩ := dispD_ok e1
    obtain ⟨vs, ev, rv⟩ := kvOf_ok r1 hk
    have q2 : Post G X.K W (RpD X.K) σ T al H Q (.ok (.obj st1.length) (st1 ++ [.dk kvs])) := by
      have : eObj f r st = .ok (.obj st1.length) (st1 ++ [.dk kvs]) := by
        show (f r >>= _) st = _
        rw [bind_ap, ef]
        exact e2
      rw [this] at q
      exact q
    refine ⟨vs, ev, ?_, ?_⟩
    · have h1 := paired_len r1
      rw [ev, List.length_map] at h1
      rw [h1]
      exact hl15
    · have nf : T1 p ≠ some .frz := by rw [tp]; decide
      have hs : Same (fz T1 H1) (fz T1 (upd H1 p (.dK (mergeK [] vs)))) := fz_upd nf
      have w2 := w1.upd (u := .dK (mergeK [] vs)) nf (by rw [tp]; decide) hp1 (fun ps z => by cases z) (fun f z => by cases z)
      have rm : RepKv X.K (fz T1 (upd H1 p (.dK (mergeK [] vs)))) al1 (mergeK [] vs) kvs := by
        rw [ek]
        exact RepKv.mono hs ⟨[], by simp⟩ (kv_merge rv .nil)
      have w3 := w2.join tp upd_same rm
      have x0 : Ext T al H T al (upd H p (.dK [])) := Ext.laid0 n
      have x2 : Ext T al H T1 al1 H1 := x0.trans x1
      have x3 : Ext T al H (tset T1 p .wld) (al1 ++ [p]) (upd H1 p (.dK (mergeK [] vs))) := Ext.join n (x2.upd0 n) .wld
      refine q2 (.ref p) _ _ _ x3 w3 ?_
      exact .obj (by rw [← w1.len, List.getElem?_append_right (Nat.le_refl _), Nat.sub_self]; rfl)
  · rw [e2] at q1
    exact q1.elim
theorem pd_dct0 : PD G X W H0 (.Dict [] [] pos) (eC (.dct [])) := by
  intro r st σ T al H Q S w q
  refine rdE pe_dnewK fun p n => ?_
  have n' := w.free n
  exact q (.ref p) (tset T p .frz) al _ (Ext.laid n .frz) ((w.laid n).tag (by rw [n']; decide) (by rw [n']; decide) upd_same) (.dct (fz_of tset_same upd_same) .nil)
end
end Pi
namespace Pi
open PySem PySem.Spec PyProof.Rows L2

/-- what __init__ of an own error with the one field f leaves -/
def spI (K : PySem.W.Frag) (C : Addr) (f : Str) : Sp := fun vs H Q _ => ∃ (a : Addr) (y : V), vs = [.ref a, y] ∧ OexC K C ∧ PySem.W.findIn K (.ref C) f = some none ∧ H a = some (exo a C none) ∧
  ∀ dx, H dx = none → dx ≠ a → Q .non (upd (upd H dx (exd dx [(f, y)])) a (exo a C (some dx)))
/-- def __init__(self, y): self.f = y -/
def initB (f y : Str) (p1 p2 p3 p4 : Pos) : List Stmt := [.Assign [.Attribute (.Name "self" p1) f p2] (.Name y p3) p4]
theorem init_ok {P : Program} {w : World} {K : PySem.W.Frag} {mg : Str → Option Value} {base : Heap} {k : Nat} {fI C : Addr} {fd : FuncData} {x qual f y : Str} {params : Arguments} {scope : Scope} {dvs : List V} {kws : List (Str × V)} {p1 p2 p3 p4 : Pos}
    (F : FunD K x qual params (initB f y p1 p2 p3 p4) scope dvs kws fI fd) (S : FnScope ["self", y] ["self", y] scope) (h0 : scope.names.lookup ("self" : Str) = some NameKind.local) (h1 : scope.names.lookup y = some NameKind.local) (hd : (y == ("__debug__" : Str)) = false) (hcd : (y == ("__classdict__" : Str)) = false)
    (hs : ∀ (cdv : Value) (a : Addr), swapsWith (.Name y p3) (some (.Attribute (.Name "self" p1) f p2)) p4.line (envOfC qual scope a fI cdv) = pure false) :
    FnOk P w K mg base (L2.CX P w) (k + 1) fI fd ["self", y] (spI K C f) := by
  refine F.ok S (fun vs H Q E h => by obtain ⟨a, z, rfl, _⟩ := h; rfl) fun cdv A outer s H vs Q E hr h => ?_
  obtain ⟨a, z, rfl, T, hno, ha, q⟩ := h
  refine ⟨_, pss_one (ps_ost (pe_var (i := 0) rfl (.inl h0)) (pe_var (i := 1) rfl (.inl h1) hd hcd) (hs _ _)), ?_⟩
  exact ⟨z, rfl, .ref a, rfl, a, C, rfl, T, hno, .inl ⟨ha, fun dx n ne => q dx n ne⟩⟩

/-- an own error as it is known in a context: x its name, c its number -/
structure XCls (G : GX) (X : Cx) (x : Str) (c : Nat) : Prop where
  ex : ∃ (k : Nat) (fI : Addr) (fd : FuncData) (ps : List Str), OexC X.K (G.cls c) ∧ PySem.W.findIn X.K (.ref (G.cls c)) (G.fld c) = some none ∧ PySem.W.findIn X.K (.ref (G.cls c)) "__init__" = some (some (.ref fI)) ∧ PySem.W.typeIn X.K (.ref fI) = some (.type "function") ∧
    FnOk X.prog X.w X.K X.mg X.base (L2.CX X.prog X.w) k fI fd ps (spI X.K (G.cls c) (G.fld c)) ∧ Room (k + 1) X.A ∧ Binds X.K fd ps [] ∧ X.mg x = some (.ref (G.cls c))
def sRaise (c : Nat) (f : Env → Mo D) : Stm := fun r => f r >>= fun x => Mo.err c x
section
variable {G : GX} {X : Cx} {E : XK} {H0 : Hp} {x : Str} {c : Nat} {e : Expr} {p pos p2 : Pos}
theorem pst_raise {f : Env → Mo D} (hc : X.calm = true) (kn : XCls G X x c) (tk : Takes X (wE E)) (hg : Gl X x) (ha : PD G X (wE E) H0 e f) (hdb : (x == ("__debug__" : Str)) = false := by decide)
    (he : starEach (e :: []) X.env = (false, eval e X.env) :: starEach [] X.env := by rfl) (hpl : (backTo pos (starEach [] X.env)).any (·.1) = false := by rfl) :
    PSt G X E H0 (.Raise (some (.Call (.Name x p) [e] [] pos)) none p2) (sRaise c f) := by
  intro B r s0 σ T al H D S q
  obtain ⟨k, fI, fd, ps, T1, hno, iC, tI, F, hr, hb, hm⟩ := kn.ex
  refine rdS1 (ps_raise hc tk (pmk_oex (dvs := []) (ds := []) T1 iC tI F hr hb .nil (passes_call takes0 fun _ _ _ _ z => z) hg hm (pa_cons pe_rd pa_nil he) hdb he hpl)) ?_
  refine ha r s0 σ T al H _ S.sl S.wi (seqS S q fun y st1 v T2 al2 H2 x2 S2 r2 q2 => ?_)
  refine ⟨by show 1 ≤ 1000; omega, fun a na => ⟨a, v, rfl, T1, hno, upd_same, fun dx nx ne => ⟨rfl, dx, [(G.fld c, v)], upd_same, by rw [upd_ne ne, upd_same], ?_, ?_⟩⟩⟩
  · rw [upd_ne ne] at nx
    exact nx
  · rw [upd_ne ne] at nx
    have eH : upd (del (upd (upd (upd H2 a (exo a (G.cls c) none)) dx (exd dx [(G.fld c, v)])) a (exo a (G.cls c) (some dx))) a) dx (.xd [(G.fld c, v)]) = upd H2 dx (.xd [(G.fld c, v)]) := by
      funext b
      by_cases hb : b = dx
      · rw [hb, upd_same, upd_same]
      · rw [upd_ne hb, upd_ne hb]
        by_cases ha : b = a
        · rw [ha, del_same, na]
        · rw [del_ne ha, upd_ne ha, upd_ne hb, upd_ne ha]
    rw [eH]
    have q3 : ErrW G X.K (wE E) [] B.T B.al H0 c y st1 := q2
    exact q3 dx v T2 al2 _ (S2.ex.trans (Ext.laid0 nx)) (S2.wi.laid nx) (S2.ex.free nx) upd_same (Rep.ext r2 (Ext.laid0 (al := al2) nx))
end
end Pi
namespace PySem.W
open PySem PySem.Spec PySem.Calls PyProof.Rows
/-- what an own error's class says, so that its instances' class is asked rightly -/
structure XcOk (K : Frag) (D : Addr) : Prop where
  ga : findIn K (.ref D) "__getattribute__" = some (some (.builtin "BaseException.__getattribute__"))
  gg : findIn K (.ref D) "__getattr__" = some none
  be : subIn K (.ref D) (.type "BaseException") = some true
  hd : hasDictIn K D = true
  cl : findIn K (.ref D) "__class__" = some (some (.builtin "object.__class__"))
  sp : specialIn K (.builtin "object.__class__") "__get__" = some (some (.builtin "getset_descriptor.__get__"))
  tk : takesIn K (.builtin "object.__class__") = some true
  ob : mroIn K D (.type "object") = some true
theorem xc_attr {prog : Program} {w : World} {A : Around} {E : Value → Shared → Prop} {s : Shared} {K : Frag} {x D : Addr} {ox od : Obj} {Q : Option Value → Shared → Prop} (T : XcOk K D) (X : K.In s.heap) (I : InstAt s.heap x ox D (some od)) (h : Q (some (.ref D)) { s with toks := s.toks + 1 }) : wpAny (model prog w) A (getAttr? (.ref x) "__class__") Q E s := by
  obtain ⟨hp, g, d, t, os⟩ := s
  have hcl : (clsIn K D).isSome = true := by
    obtain ⟨cd, hc, _⟩ := any_some T.hd
    rw [hc]
    rfl
  have Ltype := I.type (M := model prog w)
  have Lfind := looks_find (M := model prog w) X I (findObj_data hcl T.cl T.sp T.tk)
  have Lbase : Looks (model prog w) hp (isInstance (.ref x) (.type "BaseException")) true := Ltype.andThen (looks_subIn X T.be)
  have Lga := looks_findIn (M := model prog w) X T.ga
  have Lgg := looks_findIn (M := model prog w) X T.gg
  have nob : (Value.builtin "BaseException.__getattribute__" == Value.builtin "object.__getattribute__") = false := by decide +kernel
  unfold getAttr? getAttrBy? getAttrBy
  refine wpAny_bind (wpAny_mkText (wpAny_bind (wpAny_attempt (wpAny_holding (wpAny_bind (Ltype.at (wpAny_bind (Lga.at ?_))))))))
  show wpAny _ _ (if (onTheHeap (Value.ref D) && Value.builtin "BaseException.__getattribute__" == Value.builtin "object.__getattribute__") = true then _ else _) _ _ _
  rw [show (onTheHeap (Value.ref D) && Value.builtin "BaseException.__getattribute__" == Value.builtin "object.__getattribute__") = false by rw [nob]; rfl, if_neg Bool.false_ne_true]
  unfold getAttrByItsOwn hookBefore
  refine wpAny_bind ?_
  rw [if_pos (show onTheHeap (Value.ref D) = true from rfl)]
  refine Lgg.at (wpAny_bind (wpAny_attempt (wpAny_holding ?_)))
  unfold callGetattribute
  rw [show (false && onTheHeap (Value.builtin "BaseException.__getattribute__")) = false from rfl, if_neg Bool.false_ne_true]
  unfold boundAndCalled
  rw [PySem.F.excAttr_ValueError.ga.bind (.ref x)]
  refine wpAny_bind (wpAny_pure ?_)
  show wpAny _ _ (call (.builtin "BaseException.__getattribute__") [.ref x, .str "__class__" t]) _ _ _
  refine wpAny_call (codeAny_call_builtin PySem.F.excAttr_ValueError.ga.plain PySem.F.entry_bexc_ga ?_)
  refine @check_slot (model prog w) _ _ ⟨hp, g, d, t + 1, os⟩ "BaseException.__getattribute__" "BaseException" "__getattribute__" (.ref x) [.str "__class__" t] [] _ (by decide +kernel) (by decide +kernel) Lbase (PySem.F.args_bexc_ga (.ref x) (.str "__class__" t)) ?_
  unfold Builtin.«object.__getattribute__»
  refine wpAny_bind (wpAny_of_eq (a := ((Value.ref x : Value), [Value.str "__class__" t])) (by first | rfl | (simp only [slotArgs]; rfl)) ?_)
  refine wpAny_bind (wpAny_pure (wpAny_bind (Ltype.at (wpAny_bind (Lfind.at ?_)))))
  show wpAny _ _ (holding [Value.builtin "object.__class__"] (call (.builtin "getset_descriptor.__get__") [.builtin "object.__class__", .ref x, .ref D]) >>= ret) _ _ _
  refine wpAny_bind (wpAny_holding (wpAny_call (class_get (s := ⟨hp, g, d, t + 1, os⟩) (ox := ox) (od := some od) X I T.ob ?_)))
  refine wpAny_pure ?_
  show wpAny _ _ (handedOut (.ref D)) _ _ _
  rw [handedOut_of (v := .ref D) rfl]
  first
  | exact wpAny_pure (wpAny_pure h)
  | exact wpAny_pure h
  | exact wpAny_pure (wpAny_bind (wpAny_pure (wpAny_pure h)))
theorem xc_kit {K : Frag} {x D : Addr} {ox od : Obj} (T : XcOk K D) : KitX K (.ref x) (.ref D) (fun h => InstAt h x ox D (some od)) := by
  have hcl : ∃ c d cd sl, K.lookup D = some ⟨c, d, .cls cd, sl⟩ := by
    obtain ⟨cd, hc, _⟩ := any_some T.hd
    unfold clsIn at hc
    split at hc
    · exact ⟨_, _, _, _, by assumption⟩
    · cases hc
  obtain ⟨c, dd, cd, sl, ho⟩ := hcl
  refine ⟨fun _ _ _ I => I.type, fun _ _ X _ => ?_, fun h tp _ its n sl' X htp => ?_, fun X I k => xc_attr T X I k⟩
  · intro A' Q' E' s' k q
    unfold isType loadHead
    exact wpAny_bind (wpAny_loadPart (k _ _ (X _ _ ho)) (wpAny_pure q))
  · refine Bool.eq_false_iff.mpr fun q => ?_
    have e : D = tp := Value.ref.inj (beq_iff_eq.mp q)
    rw [← e, X _ _ ho] at htp
    cases htp
end PySem.W
namespace Pi
open PySem PySem.Spec PyProof.Rows L2

def D.ty : D → Option String
  | .non => some "NoneType"
  | .bl _ => some "bool"
  | .int _ => some "int"
  | .str _ => some "str"
  | .tup _ => some "tuple"
  | .lst _ => some "list"
  | .dct _ => some "dict"
  | .ktp _ => some "tuple"
  | _ => none
inductive BTy where
  | int | bool | str | tuple | list | dict
def BTy.nm : BTy → String
  | .int => "int"
  | .bool => "bool"
  | .str => "str"
  | .tuple => "tuple"
  | .list => "list"
  | .dict => "dict"
def isB : BTy → D → Option Bool
  | _, .obj _ => none
  | _, .exc _ _ _ => none
  | _, .kls _ => none
  | .int, .int _ => some true
  | .int, .bl _ => some true
  | .bool, .bl _ => some true
  | .str, .str _ => some true
  | .tuple, .tup _ => some true
  | .tuple, .ktp _ => some true
  | .list, .lst _ => some true
  | .dict, .dct _ => some true
  | _, _ => some false
theorem kit_b {K : PySem.W.Frag} {T : BTy} {x : D} {t : String} {b : Bool} (h : x.ty = some t) (e : isB T x = some b) : PySem.W.kitOne K (.type t) (.type T.nm) = some b := by
  cases T <;> cases x <;> (first | (cases h; done) | (have ht := Option.some.inj h; subst ht; have hb := Option.some.inj e; subst hb; rfl))
def eIsB (T : BTy) (f : Env → Mo D) : Env → Mo D := fun r => f r >>= fun x => Mo.opt ((isB T x).map .bl)
theorem tyX_of {K : PySem.W.Frag} {T : Tg} {al : List Addr} {H : Hp} {v : V} {x : D} {t : String} (r : RepH K T al H v x) (h : x.ty = some t) : TyX K H v (.type t) := by
  cases x with
  | non => rw [rep_non r, ← Option.some.inj h]; exact .base .non
  | bl b => rw [rep_bl r, ← Option.some.inj h]; exact .base (.bl b)
  | int i => rw [rep_int r, ← Option.some.inj h]; exact .base (.int i)
  | str y => rw [rep_str r, ← Option.some.inj h]; exact .base (.str y)
  | tup ds =>
    obtain ⟨a, vs, rfl, hs, _⟩ := rep_tup r
    rw [← Option.some.inj h]
    rcases Same.seqT fz_same hs with (e | ⟨o, e⟩) | ⟨o, its, n, e, c, _⟩
    · exact .base (.tup e)
    · exact .fTuple e
    · exact .kTuple e c
  | lst ds =>
    obtain ⟨a, vs, rfl, hs, _⟩ := r
    rw [← Option.some.inj h]
    exact .base (.lst (nw_same _ _ hs))
  | dct kvs =>
    obtain ⟨a, vs, rfl, hs, _⟩ := rep_dct r
    rw [← Option.some.inj h]
    exact .base (.dK (fz_some hs).2)
  | ktp ds =>
    obtain ⟨a, vs, rfl, hs, _⟩ := rep_ktp r
    rw [← Option.some.inj h]
    rcases hs with (e | ⟨o, e⟩) | ⟨o, its, n, e, c, _⟩
    · cases e
    · cases e
    · exact .kTuple e c
  | _ => cases h
section
variable {G : GX} {X : Cx} {W : WX} {H0 : Hp} {a b e : Expr} {pos p p2 : Pos}
theorem isB_ty {T : BTy} {x : D} {b : Bool} (e : isB T x = some b) : ∃ t, x.ty = some t := by
  cases x with
  | obj n => cases T <;> cases e
  | exc n f y => cases T <;> cases e
  | kls y => cases T <;> cases e
  | _ => exact ⟨_, rfl⟩
theorem pd_isB {f : Env → Mo D} {y : Str} (T : BTy) (ha : PH G X W H0 a f) (hgi : Gl X "isinstance") (hmi : X.mg "isinstance" = none) (hg : Gl X y) (hm : X.mg y = none) (hv : bootBuiltins y = some (.type T.nm)) (hn : y ≠ "__name__" := by decide) (hd : (y == ("__debug__" : Str)) = false := by decide)
    (he : starEach [a, .Name y p2] X.env = (false, eval a X.env) :: starEach [.Name y p2] X.env := by rfl) (he2 : starEach [.Name y p2] X.env = (false, eval (.Name y p2) X.env) :: starEach [] X.env := by rfl) (hpl : (backTo pos (starEach [.Name y p2] X.env)).any (·.1) = false := by rfl) :
    PD G X W H0 (.Call (.Name "isinstance" p) [a, .Name y p2] [] pos) (eIsB T f) := by
  intro r st σ T1 al H Q S w q
  refine rdE (pe_callB call_isi hgi hmi PyProof.Rows.Boot.«isinstance» (pa_cons pe_rd (pa_cons (pe_bltn (pos := p2) hg hm hv (v := .ty T.nm) rfl hn hd) pa_nil he2) he) (by decide) (by decide) he hpl) ?_
  refine ha r st σ T1 al H _ S w (seqP back_D q fun x st1 v T2 al2 H2 _ x2 w2 r2 q2 => ?_)
  refine optP q2 fun z hz q3 => ?_
  obtain ⟨k, hk, ez⟩ := Option.map_eq_some_iff.mp hz
  obtain ⟨t, ht⟩ := isB_ty hk
  subst ez
  exact ⟨v, .ty T.nm, .type t, .type T.nm, k, rfl, .ty _, tyX_of r2 ht, kit_b ht hk, q3 _ T2 al2 H2 .refl w2 (.bl k)⟩

/-- which errors are of the class at C: as the table says -/
def IsxOk (K : PySem.W.Frag) (C : Addr) (tbl : Str → Option Bool) : Prop := ∀ n b, tbl n = some b → PySem.W.XcOk K (He.ga K n) ∧ PySem.W.kitOne K (.ref (He.ga K n)) (.ref C) = some b
def eIsX (tbl : Str → Option Bool) (f : Env → Mo D) : Env → Mo D := fun r => f r >>= fun x => match x with
  | .exc n _ _ => Mo.opt ((tbl n).map .bl)
  | _ => Mo.bad
theorem exc_at {pins : List (Addr × Obj)} {σ : L2.St} {H : Hp} {s : Shared} {a d C : Addr} {f : Str} {v : V} (I : Inv X pins σ H s) (h : H a = some (ExcO (.ref C) d a)) (hd : H d = some (.xd [(f, v)])) : ∃ oe od, PySem.W.InstAt s.heap a oe C (some od) ∧ s.heap.get? d = some od ∧ ∃ mA, s.heap.Ns1 d mA ∧ ∀ g, RelO ([(f, v)].lookup g) (mA g) := by
  have h1 : ObjOk X.prog X.w H s.heap a (.ext fun h => ∃ (oe : Obj) (vs : Array Value), h.get? a = some oe ∧ Zc (.ref C) (some d) oe ∧ oe.data = .fields vs) := I.hok a _ h
  obtain ⟨oe, vs, e1, e2, e3⟩ := h1.1
  have hx : ObjOk X.prog X.w H s.heap d (.xd [(f, v)]) := I.hok d _ hd
  obtain ⟨mA, hns, hr⟩ := hx
  obtain ⟨od, es, ep, ho, hl⟩ := id hns
  refine ⟨oe, od, ⟨e1, e2.1, by unfold PySem.W.notCls; rw [e3] <;> rfl, by rw [e2.2]; exact ho⟩, ho, mA, hns, hr⟩
theorem pd_isX {f : Env → Mo D} {y : Str} {C : Addr} {tbl : Str → Option Bool} (ok : IsxOk X.K C tbl) (ha : PD G X W H0 a f) (hgi : Gl X "isinstance") (hmi : X.mg "isinstance" = none) (hg : Gl X y) (hm : X.mg y = some (.ref C)) (hd : (y == ("__debug__" : Str)) = false := by decide)
    (he : starEach [a, .Name y p2] X.env = (false, eval a X.env) :: starEach [.Name y p2] X.env := by rfl) (he2 : starEach [.Name y p2] X.env = (false, eval (.Name y p2) X.env) :: starEach [] X.env := by rfl) (hpl : (backTo pos (starEach [.Name y p2] X.env)).any (·.1) = false := by rfl) :
    PD G X W H0 (.Call (.Name "isinstance" p) [a, .Name y p2] [] pos) (eIsX tbl f) := by
  intro r st σ T1 al H Q S w q
  have hc : CallR X (.builtin "isinstance") (fun xs H Q => ∃ (x d D : Addr) (g : Str) (v : V) (b : Bool), xs = [.ref x, .ref C] ∧ H x = some (ExcO (.ref D) d x) ∧ H d = some (.xd [(g, v)]) ∧ PySem.W.XcOk X.K D ∧ PySem.W.kitOne X.K (.ref D) (.ref C) = some b ∧ Q (.bl b) H) := by
    intro pins s σ H xs us Q I rr h
    obtain ⟨x, d, D, g, v, b, rfl, h1, h2, T, e, q⟩ := h
    obtain ⟨u1, u2, rfl, r1, r2⟩ := vals2 rr
    cases r1
    cases r2
    obtain ⟨oe, od, J, _⟩ := exc_at I h1 h2
    exact PySem.W.kia_one (PySem.W.xc_kit T) I.kIn J e (fun z => nomatch z) fun tk => ⟨.bl b, H, I.tok tk, rfl, q⟩
  refine rdE (pe_callB hc hgi hmi PyProof.Rows.Boot.«isinstance» (pa_cons pe_rd (pa_cons (pe_glob (pos := p2) hg hm (v := .ref C) rfl hd) pa_nil he2) he) (by decide) (by decide) he hpl) ?_
  refine ha r st σ T1 al H _ S w (seqP back_D q fun x st1 v T2 al2 H2 _ x2 w2 r2 q2 => ?_)
  cases x with
  | exc n g y =>
    refine optP q2 fun z hz q3 => ?_
    obtain ⟨k, hk, ez⟩ := Option.map_eq_some_iff.mp hz
    subst ez
    obtain ⟨T, ek⟩ := ok n k hk
    cases r2 with
    | exc h1 h2 h3 => exact ⟨_, _, _, _, _, k, rfl, (fz_some h1).2, (fz_some h2).2, T, ek, q3 _ T2 al2 H2 .refl w2 (.bl k)⟩
  | _ => exact q2.elim
/-- error.f -/
def eXat (ok : Str → Bool) (g : Str) (f : Env → Mo D) : Env → Mo D := fun r => f r >>= fun x => match x with
  | .exc n h y => (match ok n && decide (h = g) with
    | true => pure y
    | false => Mo.bad)
  | _ => Mo.bad
def XatOk (K : PySem.W.Frag) (g : Str) (ok : Str → Bool) : Prop := ∀ n, ok n = true → XfC K (He.ga K n) ∧ PySem.W.findIn K (.ref (He.ga K n)) g = some none
theorem pd_xat {f : Env → Mo D} {g : Str} {ok : Str → Bool} (hk : XatOk X.K g ok) (ha : PD G X W H0 a f) (hb : attributeBase a g X.env (eval a X.env) = eval a X.env := by rfl) : PD G X W H0 (.Attribute a g pos) (eXat ok g f) := by
  intro r st σ T1 al H Q S w q pins s I
  refine attr_of hb (thn (ha r st σ T1 al H (fun v H2 => ∃ (x d D : Addr) (y : V), v = .ref x ∧ H2 x = some (ExcO (.ref D) d x) ∧ H2 d = some (.xd [(g, y)]) ∧ XfC X.K D ∧ PySem.W.findIn X.K (.ref D) g = some none ∧ Q y H2) S w (seqP back_D q fun x st1 v T2 al2 H2 _ x2 w2 r2 q2 => ?_) pins s I) fun u s1 hh => ?_)
  · cases x with
    | exc n h y =>
      have q3 : Post G X.K W (RpD X.K) σ T2 al2 H2 Q ((match ok n && decide (h = g) with
        | true => pure y
        | false => Mo.bad : Mo D) st1) := q2
      cases e : ok n && decide (h = g) with
      | false => rw [e] at q3; exact q3.elim
      | true =>
        rw [e] at q3
        obtain ⟨e1, e2⟩ := Bool.and_eq_true_iff.mp e
        have e3 : h = g := of_decide_eq_true e2
        subst e3
        obtain ⟨T, hno⟩ := hk n e1
        cases r2 with
        | exc h1 h2 h3 => exact ⟨_, _, _, _, rfl, (fz_some h1).2, (fz_some h2).2, T, hno, q3 _ T2 al2 H2 .refl w2 h3⟩
    | _ => exact q2.elim
  · obtain ⟨v, H1, I1, r1, x, d, C, y, rfl, h1, h2, T, hno, q1⟩ := hh
    cases r1
    obtain ⟨oe, od, J, hod, mA, hns, hr⟩ := exc_at I1 h1 h2
    have l : [(g, y)].lookup g = some y := by simp [List.lookup]
    obtain ⟨u, hu, ru⟩ := RelO.some_of (v := y) (o := mA g) (by rw [← l]; exact hr g)
    obtain ⟨od2, ho2, hl2⟩ := lookIn_ns hns
    have e : od2 = od := by
      rw [hod] at ho2
      exact (Option.some.inj ho2).symm
    subst e
    exact HandSPX.exc_get I1.kIn J T.ga T.gg T.exC (PySem.W.findObj_own T.hdC hno rfl (by rw [hl2, hu])) (handed_of ru) ⟨y, H1, I1.tok _, ru, q1⟩
end
end Pi
namespace Pi
open PySem PySem.Spec PyProof.Rows L2

/-- an object that was made behind the entry is tracked from now on -/
theorem inv_track {X : Cx} {pins : List (Addr × Obj)} {σ : L2.St} {H : Hp} {s : Shared} {a d : Addr} {oe : Obj} {vs : Array Value} {cls : Value} (I : Inv X pins σ H s) (n0 : X.s_0.heap.get? a = none) (hn : H a = none) (ha : s.heap.get? a = some oe) (hz : Zc cls (some d) oe) (hd : oe.data = .fields vs)
    (nL : a ≠ X.env.locals) (np : ∀ p ∈ X.pn ++ pins, p.1 ≠ a) : Inv X pins σ (upd H a (ExcO cls d a)) s := by
  have ne0 : ∀ b o, X.s_0.heap.get? b = some o → b ≠ a := fun b o e z => by
    rw [z, n0] at e
    cases e
  have neS : ∀ b u, H b = some u → b ≠ a := fun b u e => ne_of_none e hn
  refine ⟨I.ok, I.os, I.bare, ⟨I.base.keep, I.base.slot, fun b o e n hx => ?_, I.base.there, fun b xs e => ?_, fun b o u e => ?_, fun b ps e => ?_⟩, I.loc, I.cell, ?_, fun x c e => ?_, fun p hp => ?_, fun b o e => ?_, I.len⟩
  · rw [upd_ne (ne0 b o e)]
    exact I.base.free b o e n hx
  · have q := I.base.tups b xs e
    rw [upd_ne (neS b _ q)]
    exact q
  · have q := I.base.frzs b o u e
    rw [upd_ne (neS b _ q)]
    exact q
  · obtain ⟨m, q⟩ := I.base.tbls b ps e
    exact ⟨m, by rw [upd_ne (neS b _ q)]; exact q⟩
  · rw [upd_ne (Ne.symm nL)]
    exact I.free
  · have nc : c ≠ a := fun z => by
      obtain ⟨v, o, ho, hcl⟩ := I.cell x c e
      rw [z, ha] at ho
      have eo := Option.some.inj ho
      rw [← eo, hd] at hcl
      cases hcl
    rw [upd_ne nc]
    exact I.freeC x c e
  · obtain ⟨e1, e2, e3, e4, e5⟩ := I.pin p hp
    exact ⟨e1, by rw [upd_ne (np p hp)]; exact e2, e3, e4, e5⟩
  · by_cases hb : b = a
    · rw [hb, upd_same] at e
      have eo := Option.some.inj e
      rw [hb, ← eo]
      exact ⟨⟨oe, vs, ha, hz, hd⟩, ⟨_, ha⟩, fun h1 h2 ⟨oe, vs, z1, z2, z3⟩ k => ⟨oe, vs, k _ z1, z2, z3⟩⟩
    · rw [upd_ne hb] at e
      exact (I.hok b o e).stay (fun c v _ q => q) (fun c q => by rw [upd_ne (neS c _ q)]; exact q) fun c xs q => by rw [upd_ne (neS c _ q)]; exact q
theorem inv_mark {X : Cx} {pins : List (Addr × Obj)} {σ : L2.St} {H : Hp} {s : Shared} {a : Addr} (I : Inv X pins σ H s) : Inv (X.suite a (X.pn ++ pins)) [] σ H s :=
  ⟨I.ok.suite _ _, I.os, I.bare, I.base, I.loc, I.cell, I.free, I.freeC, fun p hp => I.pin p (by rw [List.append_nil] at hp; exact hp), I.hok, I.len⟩
theorem inv_unmark {X : Cx} {pins pn' : List (Addr × Obj)} {σ : L2.St} {H : Hp} {s : Shared} {a : Addr} (I : Inv (X.suite a (X.pn ++ pins)) pn' σ H s) (ok : X.Ok) : Inv X pins σ H s :=
  ⟨ok, I.os, I.bare, I.base, I.loc, I.cell, I.free, I.freeC, fun p hp => I.pin p (List.mem_append_left _ hp), I.hok, I.len⟩
theorem fly_keeps {B h h' : Heap} {l : List PySem.Env} {a : Addr} {Z : Obj → Prop} (f : HandSPX.FlyingZ B l a Z h) (k : ∀ b o, h.get? b = some o → h'.get? b = some o) : HandSPX.FlyingZ B l a Z h' := by
  obtain ⟨f1, f2, f3, oe, vs, T, oT, ts, e1, e2, e3, e4, e5, e6, e7, e8, e9⟩ := f
  exact ⟨fun b o e => k b o (f1 b o e), f2, f3.of_keeps fun b o e _ => ⟨o, k b o e, rfl⟩, oe, vs, T, oT, ts, k _ _ e1, e2, e3, e4, e5, e6, k _ _ e7, e8, e9⟩

/-- what 'except (x1, x2) as n: y = n' wishes of an exception of the body: slot i is n's, slot j y's -/
def wKeep (K : PySem.W.Frag) (C1 C2 : Addr) (i j : Nat) (Wout : WX) (D : Ends) : WX := fun cls d σ H => ∃ b, PySem.W.exmAny K cls [.ref C1, .ref C2] = some b ∧
  (b = true → ∃ dd, d = some dd ∧ ∀ a, H a = none → D.nx (((σ.set i (some (.ref a))).set j (some (.ref a))).set i none) (upd H a (ExcO cls dd a))) ∧ (b = false → Wout cls d σ H)
section
variable {X : Cx} {x1 x2 n y : Str} {C1 C2 : Addr} {i j : Nat} {body : List Stmt} {np1 np2 tp pos pos' p4 p5 p6 : Pos} {kk : Nat} {tb : WX → TS} {Wout : WX}
theorem ps_try_keep (hs : X.stack = X.env :: X.outer) (hf : X.env.frame = some X.env.locals) (hex : X.ex = []) (hN : X.N.Nodup) (hi : X.N[i]? = some n) (hj : X.N[j]? = some y) (hij : i ≠ j) (hln : X.env.scope.names.lookup n = some NameKind.local) (hly : X.env.scope.names.lookup y = some NameKind.local)
    (hg1 : Gl X x1) (hg2 : Gl X x2) (hm1 : X.mg x1 = some (.ref C1)) (hm2 : X.mg x2 = some (.ref C2)) (tk : Takes X Wout)
    (hb : ∀ (W : WX) (pn : List (Addr × Obj)) (xe : Value → Shared → Prop), Takes (X.tr pn xe) W → PassesOwn (model X.prog X.w) X.A X.env xe → PSs (X.tr pn xe) body (tb W))
    (hsw : swapsWith (.Name n p5) (some (.Name y p4)) p6.line X.env = pure false) (hd1 : (x1 == ("__debug__" : Str)) = false) (hd2 : (x2 == ("__debug__" : Str)) = false) (hdn : (n == ("__debug__" : Str)) = false) (hdc : (n == ("__classdict__" : Str)) = false) :
    PS X (.Try body [.ExceptHandler (some (.Tuple [.Name x1 np1, .Name x2 np2] kk tp)) (some n) [.Assign [.Name y p4] (.Name n p5) p6] pos'] [] [] pos) (fun D σ H => tb (wKeep X.K C1 C2 i j Wout D) D σ H) := by
  refine ⟨fun pins s σ H D I h => ?_⟩
  have ok := I.ok
  have hfr : X.A.frames = some (X.env :: X.outer) := by rw [ok.frames, hs]
  refine wpAny_Try_except ?_
  refine wpAny_mono ((hb (wKeep X.K C1 C2 i j Wout D) (X.pn ++ pins) (fun e s₁ => wpAny (model X.prog X.w) X.A (noteFrame e X.env) (fun _ s₂ => wpAny (model X.prog X.w) X.A (setFlight e none) (fun _ s₃ =>
    wpAny (model X.prog X.w) X.A (handleBy e X.env [.ExceptHandler (some (.Tuple [.Name x1 np1, .Name x2 np2] kk tp)) (some n) [.Assign [.Name y p4] (.Name n p5) p6] pos']) (SP X pins D) X.xe s₃) X.xe s₂) X.xe s₁) (fun u s' xx => ?_) PassesOwn.looking).run [] s σ H D (I.toTry _) h) (fun f s1 hsp => ?_) (fun e s1 he => he)
  · obtain ⟨a, B, sI, pins', σ', H', cls, d, rfl, J', nb, up, sky, na, os, ag, b, hb1, hyes, hno⟩ := xx
    have J : Inv X pins σ' H' sI := J'.ofTry ok
    have sky' : Sky B (X.env :: X.outer) a (Zc cls d) X.env.locals s'.heap := by rw [← hs]; exact sky
    show wpAny (model X.prog X.w) X.A (noteFrame (.ref a) X.env) _ _ _
    refine Sky.land Zc.steady hfr hf sky' fun h3 fl3 up3 => ?_
    have J3 : Inv X pins σ' H' { s' with heap := h3 } := J.landed nb fl3.1 (up.trans up3) os ag
    obtain ⟨oe3, vs3, he3, hz3, hd3⟩ := fl3.there
    have nfr : a ∉ frs (X.env :: X.outer) := fun hm => by
      obtain ⟨_, o', e', hnf⟩ := fl3.2.2.1.mem hm
      rw [he3] at e'
      cases e'
      exact hnf _ hd3
    have nL : a ≠ X.env.locals := fun z => nfr (List.mem_filterMap.mpr ⟨X.env, List.mem_cons_self, by rw [hf, z]⟩)
    have nI : sI.heap.get? a = none := by
      cases e : sI.heap.get? a with
      | none => rfl
      | some o =>
        have q := nb a o e (by rw [hs]; exact nfr)
        rw [fl3.2.1] at q
        cases q
    have n0 : X.s_0.heap.get? a = none := by
      cases e : X.s_0.heap.get? a with
      | none => rfl
      | some o =>
        obtain ⟨o', q⟩ := J.base.there a o e (by rw [hex]; exact fun z => nomatch z)
        rw [nI] at q
        cases q
    have np : ∀ p ∈ X.pn ++ pins, p.1 ≠ a := fun p hp z => by
      have q := (J.pin p hp).1
      rw [z, nI] at q
      cases q
    have S3 := inv_mark (a := a) J3
    refine wpAny_handleBy_cons (codeAny_handlers_test ?_) (by intro q; cases q)
    refine wpAny_Tuple (wpAny_items_cons (ld_glob (X := X.suite a (X.pn ++ pins)) S3 hg1 hm1 ?_ hd1))
    refine wpAny_items_cons (ld_glob (X := X.suite a (X.pn ++ pins)) S3 hg2 hm2 ?_ hd2)
    refine wpAny_items_nil ⟨by size_fits, ?_⟩
    have kp : ∀ q o, h3.get? q = some o → (h3.push { cls := .type "tuple", data := .seq [Value.ref C1, Value.ref C2].toArray }).get? q = some o := fun _ _ z => Heap.get?_push_of_some _ z
    have LT : PySem.W.Looks (model X.prog X.w) (h3.push { cls := .type "tuple", data := .seq [Value.ref C1, Value.ref C2].toArray }) (typeOf (.ref a)) cls := fun A Q E s k q => wpAny_typeOf_ref (k _ _ (kp _ _ he3)) (by rw [hz3.1]; exact q)
    have fl3' := fly_keeps fl3 kp
    have upP : h3.UpToSlots (h3.push { cls := .type "tuple", data := .seq [Value.ref C1, Value.ref C2].toArray }) := fun b o e _ => ⟨o.slots, kp b o e⟩
    refine (PySem.W.exm_tup2 (J3.kIn.keeps kp) LT (Heap.get?_push_size h3 rfl) hb1).here ?_
    cases b with
    | true =>
      obtain ⟨dd, rfl, hq⟩ := hyes rfl
      refine codeAny_handlers_suite_as ?_
      refine HandSPX.lands_againZ fl3' fun h4 fl4 up4 => ?_
      have J4 : Inv X pins σ' H' { s' with heap := h4 } := J.landed nb fl4.1 (((up.trans up3).trans upP).trans up4) os ag
      obtain ⟨oe4, vs4, he4, hz4, hd4⟩ := fl4.there
      have J5 := inv_track J4 n0 na he4 hz4 hd4 nL np
      have S5 := inv_mark (a := a) J5
      refine store_ok (X := X.suite a (X.pn ++ pins)) (v := .ref a) S5 hN hi (.inl hln) rfl (fun s5 S6 => ?_) (.inr hln)
      have hset : PSs (X.suite a (X.pn ++ pins)) [.Assign [.Name y p4] (.Name n p5) p6] _ := pss_one (ps_set (X := X.suite a (X.pn ++ pins)) hN hj (.inl hly) (pe_var (X := X.suite a (X.pn ++ pins)) (pos := p5) hi (.inl hln) hdn hdc) hsw (.inr hly))
      have hli : i < σ'.length := by
        rw [J.len]
        exact (List.getElem?_eq_some_iff.mp hi).1
      refine wpAny_mono (hset.run [] s5 _ _ { nx := fun σ6 H6 => D.nx (σ6.set i none) H6, rt := fun _ _ => False } S6 ⟨.ref a, List.getElem?_set_self hli, hq a na⟩) (fun f s6 hsp => ?_) (fun _ _ z => False.elim z)
      have end_ : ∀ {σ6 : L2.St} {H6 : Hp} {Q : Shared → Prop}, Inv (X.suite a (X.pn ++ pins)) [] σ6 H6 s6 → (∀ s7, Inv X pins (σ6.set i none) H6 s7 → Q s7) →
          wpAny (model X.prog X.w) X.A (do bindName X.env n .none; unbindBehindTheSuite X.env n pos') (fun _ s7 => Q s7) X.xe s6 := fun {σ6 H6 Q} S6 hq => gone_ok (inv_unmark S6 ok) hN hi hln hq
      cases f with
      | next =>
        obtain ⟨σ6, H6, S7, q6⟩ := hsp
        exact end_ S7 fun s7 J7 => ⟨_, _, J7, q6⟩
      | brk =>
        obtain ⟨σ6, H6, S7, q6⟩ := hsp
        exact q6.elim
      | cont =>
        obtain ⟨σ6, H6, S7, q6⟩ := hsp
        exact q6.elim
      | ret u =>
        obtain ⟨v6, σ6, H6, S7, r6, q6⟩ := hsp
        exact q6.elim
    | false =>
      show wpAny _ X.A (handleBy (.ref a) X.env []) _ _ _
      refine wpAny_handleBy_nil ?_
      obtain ⟨k1, k2, k3, oe, vs, T, oT, ts', he, hz, hd, h1, hr⟩ := id fl3'
      unfold PySem.passOn
      refine wpAny_bind (wpAny_field he hd h1 ?_)
      rw [if_neg (show ¬ ((Value.ref T == Value.none) = true) from by simp)]
      have fin : wpAny (model X.prog X.w) X.A (setFlight (.ref a) X.env.frame) (fun _ s4 => wpAny (model X.prog X.w) X.A (throw (.ref a) : Sem Flow) (SP X pins D) X.xe s4) X.xe { s' with heap := h3.push { cls := .type "tuple", data := .seq [Value.ref C1, Value.ref C2].toArray } } := by
        rw [hf]
        refine HandSPX.setFlight_upZ fl3' fun h4 hh4 up4 => wpAny_throw (tk _ _ ?_)
        exact ⟨a, B, sI, pins, σ', H', cls, d, rfl, J, nb, ((up.trans up3).trans upP).trans up4, .inr (.inr (by rw [hs]; exact hh4)), na, os, ag, hno rfl⟩
      first
      | exact wpAny_bind (wpAny_pure (wpAny_bind fin))
      | exact wpAny_bind fin
  · cases f with
    | next =>
      obtain ⟨σ', H', J', q⟩ := hsp
      exact wpAny_execs_nil ⟨σ', H', J'.ofTry ok, q⟩
    | brk =>
      obtain ⟨σ', H', J', q⟩ := hsp
      exact ⟨σ', H', J'.ofTry ok, q⟩
    | cont =>
      obtain ⟨σ', H', J', q⟩ := hsp
      exact ⟨σ', H', J'.ofTry ok, q⟩
    | ret u =>
      obtain ⟨v, σ', H', J', r, q⟩ := hsp
      exact ⟨v, σ', H', J'.ofTry ok, r, q⟩
end
end Pi
namespace Pi
open PySem PySem.Spec PyProof.Rows L2 LamX

/-- the heap behind the making of a lambda -/
def LamH (H H1 : Hp) (q : Str) : Prop := H1 = H ∨ ∃ (P c : Addr) (ps qs : Array Value), H P = some (.tbl ps) ∧ H c = none ∧ P ≠ c ∧ H1 = upd (upd H P (.tbl qs)) c (CodeO c q)
theorem code_nt {c : Addr} {q : Str} : NT (CodeO c q) := fun ps z => by
  unfold CodeO at z
  cases z
theorem LamH.ext {H H1 : Hp} {q : Str} {T : Tg} {al : List Addr} (h : LamH H H1 q) : Ext T al H T al H1 := by
  rcases h with rfl | ⟨P, c, ps, qs, hP, hc, hn, rfl⟩
  · exact .refl
  · refine ⟨fun _ _ _ _ => rfl, fun _ _ _ f => f, fun _ _ _ f => f, fun a o e n t => ?_, fun a o e => ?_, ⟨[], by simp⟩⟩
    · rw [upd_ne (ne_of_none e hc), upd_ne (fun z => t ps (by rw [z, hP] at e; exact (Option.some.inj e).symm))]
      exact e
    · rw [upd_ne (ne_of_none e hc)]
      by_cases z : a = P
      · exact ⟨_, by rw [z]; exact upd_same, fun _ ys q => by cases q⟩
      · exact ⟨o, by rw [upd_ne z]; exact e, id⟩
theorem LamH.wi {K : PySem.W.Frag} {TB : List (Addr × Str)} {H H1 : Hp} {q : Str} {T : Tg} {al : List Addr} {st : St} (h : LamH H H1 q) (t : Tabs TB H1) (w : WI K TB T al st H) : WI K TB T al st H1 := by
  have x : Ext T al H T al H1 := h.ext
  refine ⟨fun a t e => ?_, w.len, fun k a m e1 e2 => ?_, w.inj, t, w.wldo⟩
  · obtain ⟨o, e1⟩ := w.tg a t e
    obtain ⟨o', e2, _⟩ := x.wl a o e1
    exact ⟨o', e2⟩
  · obtain ⟨q1, q2⟩ := w.cell k a m e1 e2
    refine ⟨q1, ?_⟩
    cases m with
    | dk kvs =>
      obtain ⟨vs, e3, r⟩ := q2
      refine ⟨vs, ?_, r.mono x.fz ⟨[], by simp⟩⟩
      rcases h with rfl | ⟨P, c, ps, qs, hP, hc, hn, rfl⟩
      · exact e3
      · rw [upd_ne (ne_of_none e3 hc), upd_ne (fun z => by rw [z, hP] at e3; cases e3)]
        exact e3
section
variable {X : Cx} {pins : List (Addr × Obj)} {σ : L2.St} {H : Hp} {s : Shared}
theorem lam_new {T : List (Addr × Str)} {c P : Addr} {params : Arguments} {body : Expr} {scope : Scope} {pos : Pos} {E : Value → Shared → Prop} {Q : Value → Shared → Prop} (I : Inv X pins σ H s) (TB : TabB X.base X.mg c P) (hcode : X.env.code = .ref c)
    (hm : (P, X.env.qual ++ "<lambda>") ∈ T) (hu : ∀ p ∈ T, p.1 = P → p.2 = X.env.qual ++ "<lambda>") (hT : Tabs T H) (hdef : defaultsOf params X.env = ([], [])) (hfree : ∀ y ∈ scope.names, y.2 = .free → ∃ c, X.env.cells.lookup y.1 = some c)
    (h : ∀ (f c' : Addr) (pm ctv : Value) (H1 : Hp) (s' : Shared), Inv X pins σ H1 s' → LamH H H1 (X.env.qual ++ "<lambda>") → Tabs T H1 →
      s'.heap.get? f = some (PySem.W.kla_obj "<lambda>" (X.env.qual ++ "<lambda>") params body scope (cloFrom X.env.cells scope.names []) pm c' ctv) → H1 f = none → f ∉ frs X.stack → H1 c' = some (CodeO c' (X.env.qual ++ "<lambda>")) → Q (.ref f) s') :
    wpAny (model X.prog X.w) X.A (eval (.Lambda params body scope pos) X.env) Q E s := by
  obtain ⟨ps, hP, ht, ha⟩ := hT _ hm
  have bP : s.heap.BuiltinsAt X.mg P := TB.bm.keeps I.bk
  have gP : s.heap.get? P = some { cls := .none, data := .fields ps } := I.hok P _ hP
  have out : ∀ f, s.heap.objs.size ≤ f → f ∉ frs X.stack := fun f hf z => by
    rcases List.mem_cons.mp (I.stkSub _ z) with e | e
    · have h1 := I.lt
      rw [← e] at h1
      exact Nat.lt_irrefl _ (Nat.lt_of_lt_of_le h1 hf)
    · exact I.nofs hf e
  refine PySem.W.kla_eval hdef ?_
  cases hc : codeAmong pos ps.toList with
  | some cv =>
    obtain ⟨c', e, hco⟩ := ha pos cv hc
    subst e
    refine PySem.W.kla_makeFunctionHit (mg := X.mg) (c := c) (P := P) (ps := ps) (closure_ok hfree) I.ok.glob (I.mod.glob.keeps I.bk) hcode (TB.code.keeps I.bk) gP ht hc bP fun ctv h' tk hx hsz => ?_
    exact h h'.objs.size c' ((X.mg "__name__").getD .none) ctv H _ (I.kept fun b o e => Heap.get?_push_of_some _ (hx b o e)) (.inl rfl) hT (Heap.get?_push_size _ rfl) (I.hok.fresh hsz) (out _ hsz) hco
  | none =>
    refine PySem.W.kla_makeFunction (mg := X.mg) (c := c) (P := P) (ps := ps) (closure_ok hfree) I.ok.glob (I.mod.glob.keeps I.bk) hcode (TB.code.keeps I.bk) gP ht hc TB.gP bP fun c' ctv h' tk hx hge hlt hrec htb => ?_
    obtain ⟨c2, oc, vs, t, e2, hoc, hd, hv⟩ := hrec
    cases e2
    have hsz : s.heap.objs.size ≤ h'.objs.size := Nat.le_trans hge (Nat.le_of_lt hlt)
    have nC : H c' = none := I.hok.fresh hge
    have nPc : P ≠ c' := ne_of_none hP nC
    have I1 := inv_table (t' := tk) (more := #[rawInt pos.line, rawInt pos.col, .ref c']) (h' := h'.push (PySem.W.kla_obj "<lambda>" (X.env.qual ++ "<lambda>") params body scope (cloFrom X.env.cells scope.names []) ((X.mg "__name__").getD .none) c' ctv)) I hP
      (fun b o hb e => Heap.get?_push_of_some _ (hx b o hb e)) (Heap.get?_push_of_some _ htb) hge ⟨oc, vs, t, Heap.get?_push_of_some _ hoc, hd, hv⟩
    have keep : ∀ b o, H b = some o → NT o → upd (upd H P (.tbl (ps ++ #[rawInt pos.line, rawInt pos.col, .ref c']))) c' (CodeO c' (X.env.qual ++ "<lambda>")) b = some o := fun b o e n => by
      rw [upd_ne (ne_of_none e nC), upd_ne (fun z => n ps (by rw [z, hP] at e; exact (Option.some.inj e).symm))]
      exact e
    refine h h'.objs.size c' ((X.mg "__name__").getD .none) ctv _ _ I1 (.inr ⟨P, c', ps, _, hP, nC, nPc, rfl⟩) (fun p hp => ?_) (Heap.get?_push_size _ rfl) ?_ (out _ hsz) upd_same
    · obtain ⟨ps', a1, a2, a3⟩ := hT p hp
      by_cases hb : p.1 = P
      · rw [hu p hp hb, hb]
        have eL : (ps ++ #[rawInt pos.line, rawInt pos.col, .ref c']).toList = ps.toList ++ [rawInt pos.line, rawInt pos.col, .ref c'] := by simp
        refine ⟨_, by rw [upd_ne nPc, upd_same], by rw [eL]; exact PySem.TriplesOk_snoc _ _ _ _ ht, fun p' cv hcv => ?_⟩
        rw [eL] at hcv
        rcases among_app _ ht hcv with z | z
        · obtain ⟨c0, e1, e2⟩ := ha p' cv z
          exact ⟨c0, e1, keep _ _ e2 code_nt⟩
        · exact ⟨c', z, upd_same⟩
      · refine ⟨ps', by rw [upd_ne (ne_of_none a1 nC), upd_ne hb]; exact a1, a2, fun p' cv hcv => ?_⟩
        obtain ⟨c0, e1, e2⟩ := a3 p' cv hcv
        exact ⟨c0, e1, keep _ _ e2 code_nt⟩
    · have n1 : h'.objs.size ≠ c' := Nat.ne_of_gt hlt
      have n2 : h'.objs.size ≠ P := Nat.ne_of_gt (Nat.lt_of_lt_of_le (Heap.lt_size gP) hsz)
      rw [upd_ne n1, upd_ne n2]
      exact I.hok.fresh hsz
/-- the frame of the def that got the lambda -/
abbrev tenv (x : Str) (sg : Scope) (s : Shared) (g : Addr) (cdg : Value) : PySem.Env := envOfC x sg s.heap.objs.size g cdg
abbrev tcx (X : Cx) (Ng : List Str) (x : Str) (sg : Scope) (g : Addr) (cdg : Value) (s : Shared) (H : Hp) : Cx := dcx X.prog X.w X.K X.mg X.base Ng x sg g cdg X.A X.stack s H (fun _ _ _ => False)
/-- the call within it -/
theorem act_run {Ng : List Str} {qg : Str} {sg : Scope} {g f c' : Addr} {cdg pm ctv : Value} {params : Arguments} {body : Expr} {scope : Scope} {k : Nat} {a : Str} {pn : List (Addr × Obj)} {xe : Value → Shared → Prop} {W : WX} {p1 p2 : Pos} {σZ : L2.St} {HZ : Hp} {Q : VK}
    (I : Inv X pins σ H s) (L : LamS X.env.scope scope) (hf : s.heap.get? f = some (PySem.W.kla_obj "<lambda>" (X.env.qual ++ "<lambda>") params body scope (cloFrom X.env.cells scope.names []) pm c' ctv)) (hfn : H f = none) (hfr : f ∉ frs X.stack)
    (hbind : bindArgs (PySem.W.kla_fn "<lambda>" (X.env.qual ++ "<lambda>") params body scope (cloFrom X.env.cells scope.names []) pm (.ref c') ctv) ⟨[], []⟩ = pure [])
    (tk : Takes ((tcx X Ng qg sg g cdg s H).tr pn xe) W) (hr : Room (k + 1) (X.A.deeper (tenv qg sg s g cdg))) (hN : Ng[0]? = some a) (hv : Vis sg a) (h0 : σZ[0]? = some (some (.ref f))) (hc : HZ c' = some (CodeO c' (X.env.qual ++ "<lambda>")))
    (hbody : ∀ s2 : Shared, Room k ((X.A.deeper (tenv qg sg s g cdg)).deeper (lamEnv X scope s2.heap.objs.size f c')) → RdE (lamCx X (X.A.deeper (tenv qg sg s g cdg)) (tenv qg sg s g cdg :: X.stack) s2 HZ (WE W σZ) scope f c') body σ HZ Q)
    (hd : (a == ("__debug__" : Str)) = false := by decide) (hcd : (a == ("__classdict__" : Str)) = false := by decide) : RdE ((tcx X Ng qg sg g cdg s H).tr pn xe) (.Call (.Name a p1) [] [] p2) σZ HZ Q := by
  intro pinsZ sZ IZ
  refine wpAny_Call_Name_kw (thn ((pe_var (X := (tcx X Ng qg sg g cdg s H).tr pn xe) (pos := p1) (i := 0) hN hv hd hcd).run pinsZ sZ σZ HZ (fun v H1 => v = .ref f ∧ H1 = HZ) IZ ⟨.ref f, h0, rfl, rfl⟩) fun u s1 ⟨v, H1, I1, r1, ev, eH⟩ => ?_)
  subst ev
  rw [eH] at I1
  obtain rfl : u = Value.ref f := r1
  have of1 : s1.heap.get? f = some (PySem.W.kla_obj "<lambda>" (X.env.qual ++ "<lambda>") params body scope (cloFrom X.env.cells scope.names []) pm c' ctv) := I1.base.keep f _ hf hfn hfr (fun z => nomatch (show f ∈ ([] : List Addr) from z))
  have un : Un (frs X.stack) [] H HZ s.heap s1.heap := I1.base
  obtain ⟨⟨oc, vs, t, hoc, hdc, hvc⟩, _, _⟩ := I1.hok c' _ hc
  refine PySem.W.callWith_F0 ⟨_, _, _, _, of1⟩ ?_
  have rc : codeAny (model X.prog X.w) (X.A.deeper (tenv qg sg s g cdg)) (.call (.ref f) ⟨[], []⟩) (CR (L2.CX X.prog X.w) (tenv qg sg s g cdg :: X.stack) X.prog X.w HZ s1 Q (WE W σZ)) s1 := by
    refine PySem.W.kla_callFunE hr.depth of1 rfl L.co L.gen rfl ⟨c', oc, vs, t, rfl, hoc, hdc, hvc⟩ ?_
    rw [hbind]
    refine wpAny_pure (wpAny_newFunctionEnv (fun y hy => (L.own y hy).2) (fun y hy => absurd hy (by simp)) (fun h₁ hns hsb => ⟨I1.nolimit.fresh _ hsb, ?_⟩) L.kind)
    show codeAny _ _ (.expr body (lamEnv X scope s1.heap.objs.size f c')) _ _
    have kp : ∀ b o, s1.heap.get? b = some o → h₁.get? b = some o := fun b o e => hsb.extBut b o (Nat.ne_of_lt (Heap.lt_size e)) (Heap.get?_push_of_some _ e)
    have J := lam_start2 (E := WE W σZ) (tk := s1.toks + ([] : List (Str × Value)).length) (f := f) (c' := c') I L I1.env0 hr.hd un hns kp
    refine PySem.W.kla_codeExpr (wpAny_mono (hbody s1 (hr.deeper _) [] _ J) (fun v s' hq => ?_) fun e s' hq => hq)
    obtain ⟨w', H', J', rv, q⟩ := hq
    exact ⟨w', H', J'.os, J'.bare, J'.base, J'.hok, rv, q⟩
  refine wpAny_call (codeAny_mono rc fun r s' hq => ?_)
  cases r with
  | error e => exact passAt tk σZ pinsZ HZ s1 e s' I1 hq
  | ok fl =>
    cases fl with
    | ret u => exact I1.after hq
    | next => exact False.elim hq
    | brk => exact False.elim hq
    | cont => exact False.elim hq
end
end Pi
namespace Pi
open PySem PySem.Spec PyProof.Rows L2 LamX

theorem sl4 {K : PySem.W.Frag} {H0 : Hp} {T : Tg} {al : List Addr} {H : Hp} {x y : D} {v u : V} {o p : Option V} (h1 : Rep K (fz T H) al v x) (h2 : Rep K (fz T H) al u y) : SL K H0 T al H [none, some (.d x), some (.d y), none] [o, some v, some u, p] := by
  refine ⟨rfl, fun i z hz => ?_, fun i j z w t _ hi _ oz _ _ => ?_⟩
  · match i, hz with
    | 1, hz =>
      have e : SV.d x = z := Option.some.inj (Option.some.inj hz)
      subst e
      exact ⟨v, rfl, h1⟩
    | 2, hz =>
      have e : SV.d y = z := Option.some.inj (Option.some.inj hz)
      subst e
      exact ⟨u, rfl, h2⟩
    | 0, hz => cases hz
    | 3, hz => cases hz
    | n + 4, hz => simp at hz
  · match i, hi with
    | 1, hi =>
      have e : SV.d x = z := Option.some.inj (Option.some.inj hi)
      subst e
      cases oz
    | 2, hi =>
      have e : SV.d y = z := Option.some.inj (Option.some.inj hi)
      subst e
      cases oz
    | 0, hi => cases hi
    | 3, hi => cases hi
    | n + 4, hi => simp at hi
/-- an object that is none of the world's changes may stand still from now on -/
theorem frz_any {K : PySem.W.Frag} {TB : List (Addr × Str)} {T0 T : Tg} {al0 al : List Addr} {st : St} {H0 H : Hp} {p : Addr} {l : List (Str × V)} (w : WI K TB T al st H) (x : Ext T0 al0 H0 T al H) (n : H0 p = none) (h : H p = some (.xd l)) :
    ∃ T', Ext T0 al0 H0 T' al H ∧ WI K TB T' al st H ∧ Same (fz T H) (fz T' H) ∧ T' p = some .frz := by
  by_cases hf : T p = some .frz
  · exact ⟨T, x, w, fun _ _ e => e, hf⟩
  · have hw : T p ≠ some .wld := fun z => by
      obtain ⟨k, hk⟩ := w.wldo p z
      have hl : k < st.length := by
        rw [← w.len]
        exact (List.getElem?_eq_some_iff.mp hk).1
      obtain ⟨_, q⟩ := w.cell k p _ hk (List.getElem?_eq_getElem hl)
      cases em : st[k] with
      | dk kvs =>
        rw [em] at q
        obtain ⟨vs, e3, _⟩ := q
        rw [h] at e3
        cases e3
    exact ⟨tset T p .frz, x.retag n .frz, w.tag hf hw h, fz_tset hf, tset_same⟩

/-- what told(lambda: e) is worth: t is e's worth, fr the last row's -/
def toldM (fr : Env → Mo D) (hit : Nat → Option Str) (fld : Nat → Str) (t : Mo D) : Mo D := fun st => match t st with
  | .ok x st' => nx (fr [none, some (.d x), some (.d .non), none]) st'
  | .err c x st' => (match hit c with
    | some n => nx (fr [none, some (.d .non), some (.d (.exc n (fld c) x)), none]) st'
    | none => .bad)
  | .bad => .bad
/-- the numbers of the errors that are caught -/
def HitOk (G : GX) (K : PySem.W.Frag) (C1 C2 : Addr) (hit : Nat → Option Str) : Prop := ∀ c n, hit c = some n → G.cls c = He.ga K n ∧ PySem.W.exmAny K (.ref (He.ga K n)) [.ref C1, .ref C2] = some true
/-- the text of such a def -/
def toldB (a fo er en x1 x2 : Str) (ret : Expr) (kt k2 kk : Nat) (j1 j2 : Nat) (q : Nat → Pos) : List Stmt :=
  [.Assign [.Tuple [.Name fo (q 1), .Name er (q 2)] kt (q 3)] (.Tuple [.Constant .none j1 (q 4), .Constant .none j2 (q 5)] k2 (q 6)) (q 7),
   .Try [.Assign [.Name fo (q 8)] (.Call (.Name a (q 9)) [] [] (q 10)) (q 11)] [.ExceptHandler (some (.Tuple [.Name x1 (q 12), .Name x2 (q 13)] kk (q 14))) (some en) [.Assign [.Name er (q 15)] (.Name en (q 16)) (q 17)] (q 18)] [] [] (q 19),
   .Return (some ret) (q 20)]
structure ToldTx (sg : Scope) (a fo er en x1 x2 : Str) (kt k2 kk : Nat) (j1 j2 : Nat) (q : Nat → Pos) (qual : Str) : Prop where
  nd : [a, fo, er, en].Nodup
  l0 : sg.names.lookup a = some NameKind.local
  l1 : sg.names.lookup fo = some NameKind.local
  l2 : sg.names.lookup er = some NameKind.local
  l3 : sg.names.lookup en = some NameKind.local
  g1 : sg.names.lookup x1 = some NameKind.globalImplicit
  g2 : sg.names.lookup x2 = some NameKind.globalImplicit
  d : [a, fo, er, en, x1, x2].all (fun x => (x == ("__debug__" : Str)) == false && (x == ("__classdict__" : Str)) == false) = true
  w : ∀ (b g : Addr) (cd : Value), swappedStores [.Tuple [.Name fo (q 1), .Name er (q 2)] kt (q 3)] (.Tuple [.Constant .none j1 (q 4), .Constant .none j2 (q 5)] k2 (q 6)) (envOfC qual sg b g cd) = pure none
  ae : ∀ (b g : Addr) (cd : Value), (assignEach [.Name fo (q 1), .Name er (q 2)] (envOfC qual sg b g cd)).length = 2 ∧ (assignEach [.Name fo (q 1), .Name er (q 2)] (envOfC qual sg b g cd)).findIdx? (·.1) = none
  s : ∀ (b g : Addr) (cd : Value), swapsWithSole [.Tuple [.Name fo (q 1), .Name er (q 2)] kt (q 3)] (.Tuple [.Constant .none j1 (q 4), .Constant .none j2 (q 5)] k2 (q 6)) (q 7).line (envOfC qual sg b g cd) = pure false
  s2 : ∀ (b g : Addr) (cd : Value), swapsWith (.Call (.Name a (q 9)) [] [] (q 10)) (some (.Name fo (q 8))) (q 11).line (envOfC qual sg b g cd) = pure false
  s3 : ∀ (b g : Addr) (cd : Value), swapsWith (.Name en (q 16)) (some (.Name er (q 15))) (q 17).line (envOfC qual sg b g cd) = pure false
section
variable {G : GX} {X : Cx} {pins : List (Addr × Obj)} {σ : L2.St} {H H0 : Hp} {s : Shared}
theorem told_run {sg : Scope} {a fo er en x1 x2 x : Str} {ret : Expr} {kt k2 kk : Nat} {j1 j2 : Nat} {q : Nat → Pos} {g f c' C1 C2 : Addr} {cdg pm ctv : Value} {params : Arguments} {body : Expr} {scope : Scope} {k : Nat} {hit : Nat → Option Str} {fe : Env → Mo D} {fr : Env → Mo D}
    (tx : ToldTx sg a fo er en x1 x2 kt k2 kk j1 j2 q x) (hit_ok : HitOk G X.K C1 C2 hit) (hm1 : X.mg x1 = some (.ref C1)) (hm2 : X.mg x2 = some (.ref C2))
    (I : Inv X pins σ H s) (L : LamS X.env.scope scope) (hf : s.heap.get? f = some (PySem.W.kla_obj "<lambda>" (X.env.qual ++ "<lambda>") params body scope (cloFrom X.env.cells scope.names []) pm c' ctv)) (hfn : H f = none) (hfr : f ∉ frs X.stack)
    (hbind : bindArgs (PySem.W.kla_fn "<lambda>" (X.env.qual ++ "<lambda>") params body scope (cloFrom X.env.cells scope.names []) pm (.ref c') ctv) ⟨[], []⟩ = pure []) (hr : Room (k + 1) (X.A.deeper (tenv x sg s g cdg))) (hc : H c' = some (CodeO c' (X.env.qual ++ "<lambda>")))
    (hret : PD G (tcx X [a, fo, er, en] x sg g cdg s H) (wE fun _ _ _ => False) H ret fr)
    (hL : ∀ (s2 : Shared) (H2 : Hp) (E : XK), Room k ((X.A.deeper (tenv x sg s g cdg)).deeper (lamEnv X scope s2.heap.objs.size f c')) → PD G (lamCx X (X.A.deeper (tenv x sg s g cdg)) (tenv x sg s g cdg :: X.stack) s2 H2 E scope f c') (wE E) H0 body fe)
    {r : Env} {st : St} {T : Tg} {al : List Addr} {W : WX} {Q : VK} (S : SL X.K H0 T al H r σ) (wi : WI X.K G.TB T al st H) (post : Post G X.K W (RpD X.K) σ T al H Q (toldM fr hit G.fld (fe r) st)) :
    RdS (tcx X [a, fo, er, en] x sg g cdg s H) (toldB a fo er en x1 x2 ret kt k2 kk j1 j2 q) (L2.start [a, fo, er, en] [.ref f]) H { nx := fun _ H' => Q .non H', rt := Q } := by
  have hd := tx.d
  simp only [List.all_cons, List.all_nil, Bool.and_eq_true, beq_iff_eq, Bool.and_true] at hd
  obtain ⟨⟨da, dca⟩, ⟨dfo, _⟩, ⟨der, _⟩, ⟨den, dcen⟩, ⟨dx1, _⟩, ⟨dx2, _⟩⟩ := hd
  -- the last row, at what was found
  have hlast : ∀ (y z : D) (v u : V) (o p : Option V) (T' : Tg) (al' : List Addr) (H' : Hp) (st' : St), Ext T al H T' al' H' → WI X.K G.TB T' al' st' H' → Rep X.K (fz T' H') al' v y → Rep X.K (fz T' H') al' u z →
      Post G X.K W (RpD X.K) σ T' al' H' Q (nx (fr [none, some (.d y), some (.d z), none]) st') → RdS (tcx X [a, fo, er, en] x sg g cdg s H) [.Return (some ret) (q 20)] [o, some v, some u, p] H' { nx := fun _ H' => Q .non H', rt := Q } := by
    intro y z v u o p T' al' H' st' ex w1 r1 r2 po
    refine rdS (pss_one (ps_ret pe_rd)) (hret [none, some (.d y), some (.d z), none] st' _ T' al' H' _ (sl4 r1 r2) w1 ?_)
    cases e : fr [none, some (.d y), some (.d z), none] st' with
    | ok b st2 =>
      have e2 : nx (fr [none, some (.d y), some (.d z), none]) st' = .ok b st2 := by
        unfold nx
        rw [e]
      rw [e2] at po
      exact fun v2 T2 al2 H2 x2 w2 rr => po v2 T2 al2 H2 x2 w2 rr
    | err c b st2 =>
      have e2 : nx (fr [none, some (.d y), some (.d z), none]) st' = .bad := by
        unfold nx
        rw [e]
      rw [e2] at po
      exact po.elim
    | bad =>
      have e2 : nx (fr [none, some (.d y), some (.d z), none]) st' = .bad := by
        unfold nx
        rw [e]
      rw [e2] at po
      exact po.elim
  refine rdS (pss_cons ps_rd pss_rd) ?_
  have hg2 : PGs (tcx X [a, fo, er, en] x sg g cdg s H) [.Name fo (q 1), .Name er (q 2)] (gTs [1, 2]) := pgs_cons (pg_name (i := 1) tx.nd rfl (.inl tx.l1)) (pgs_cons (pg_name (i := 2) tx.nd rfl (.inl tx.l2)) pgs_nil)
  refine rdS1 (ps_asg (pe_tup (pa_cons pe_non (pa_cons pe_non pa_nil))) (pg_tup (k := kt) (pos := q 3) rfl hg2 (tx.ae _ _ _).1 (tx.ae _ _ _).2) (tx.s _ _ _) (tx.w _ _ _)) ?_
  refine ⟨by rw [line_is]; decide, fun p0 np => ⟨p0, [.non, .non], rfl, .inl (.inl upd_same), rfl, ?_⟩⟩
  refine ⟨_, _, rfl, _, _, rfl, rfl, ?_⟩
  have x0 : Ext T al H T al (upd H p0 (.tup [.non, .non])) := Ext.laid0 np
  have S0 := S.ext x0
  have w0 : WI X.K G.TB T al st (upd H p0 (.tup [.non, .non])) := wi.laid np
  have hc0 : (upd H p0 (.tup [.non, .non])) c' = some (CodeO c' (X.env.qual ++ "<lambda>")) := by rw [upd_ne (ne_of_none hc np)]; exact hc
  show RdS (tcx X [a, fo, er, en] x sg g cdg s H) _ [some (.ref f), some .non, some .non, none] (upd H p0 (.tup [.non, .non])) _
  refine rdS (pss_cons ps_rd pss_rd) ?_
  refine rdS1 (ps_try_keep (X := tcx X [a, fo, er, en] x sg g cdg s H) (i := 3) (j := 2) (n := en) (y := er) (Wout := fun _ _ _ _ => False) (tb := fun W D σ' H' => ∀ (pn : List (Addr × Obj)) (xe : Value → Shared → Prop), Takes ((tcx X [a, fo, er, en] x sg g cdg s H).tr pn xe) W → RdS ((tcx X [a, fo, er, en] x sg g cdg s H).tr pn xe) [.Assign [.Name fo (q 8)] (.Call (.Name a (q 9)) [] [] (q 10)) (q 11)] σ' H' D)
    rfl rfl rfl tx.nd rfl rfl (by decide) tx.l3 tx.l2 tx.g1 tx.g2 hm1 hm2 L2.takes0 (fun W pn xe tk _ => ⟨fun pins s σ H D I h => h pn xe tk pins s I⟩) (tx.s3 _ _ _) dx1 dx2 den dcen) ?_
  intro pn xe tk
  refine rdS (pss_one (ps_set (X := (tcx X [a, fo, er, en] x sg g cdg s H).tr pn xe) (i := 1) tx.nd rfl (.inl tx.l1) pe_rd (tx.s2 _ _ _) (.inl rfl))) ?_
  refine act_run I L hf hfn hfr hbind tk hr rfl (.inl tx.l0) rfl hc0 (fun s2 hr2 => hL s2 _ _ hr2 r st σ T al _ _ S0 w0 ?_) da dca
  unfold toldM at post
  cases e : fe r st with
  | bad =>
    rw [e] at post
    exact post.elim
  | ok y st' =>
    rw [e] at post
    intro v T' al' H' ex w1 r1
    exact hlast y .non v .non (some (.ref f)) none T' al' H' st' (x0.trans ex) w1 r1 .non (Post.ext back_D post (x0.trans ex))
  | err c y st' =>
    rw [e] at post
    cases eh : hit c with
    | none =>
      simp only [eh] at post
      exact post.elim
    | some n =>
      simp only [eh] at post
      obtain ⟨ec, ex2⟩ := hit_ok c n eh
      intro dx v T' al' H' ex1 w1 nd1 hxd r1
      have ex := x0.trans ex1
      have nd : H dx = none := x0.free nd1
      refine ⟨true, by rw [ec]; exact ex2, fun _ => ⟨dx, rfl, fun b nb => ?_⟩, fun z => by cases z⟩
      obtain ⟨T2, x2, w2, sm, hT2⟩ := frz_any w1 ex nd hxd
      have hb0 : H b = none := ex.free nb
      have nT2 : T2 b = none := w2.free nb
      have nbd : dx ≠ b := fun z => by
        rw [z, nb] at hxd
        cases hxd
      have ex3 : Ext T al H (tset T2 b .frz) al' (upd H' b (ExcO (.ref (G.cls c)) dx b)) := (x2.trans (Ext.laid0 nb)).retag hb0 .frz
      have w3 : WI X.K G.TB (tset T2 b .frz) al' st' (upd H' b (ExcO (.ref (G.cls c)) dx b)) := (w2.laid nb).tag (by rw [nT2]; decide) (by rw [nT2]; decide) upd_same
      have sm2 : Same (fz T2 H') (fz (tset T2 b .frz) (upd H' b (ExcO (.ref (G.cls c)) dx b))) := fun p o z => fz_tset (by rw [nT2]; decide) _ _ ((Ext.laid0 (al := al') nb).fz p o z)
      have hr3 : Rep X.K (fz (tset T2 b .frz) (upd H' b (ExcO (.ref (G.cls c)) dx b))) al' (.ref b) (.exc n (G.fld c) y) := by
        refine .exc (d := dx) (v := v) (fz_of tset_same (by rw [upd_same, ec]) (by intro ps z; unfold ExcO at z; cases z)) (fz_of (by rw [tset_ne nbd]; exact hT2) (by rw [upd_ne nbd]; exact hxd)) ?_
        have r2 : Rep X.K (fz T2 H') al' v y := r1.mono sm ⟨[], by simp⟩
        exact r2.mono sm2 ⟨[], by simp⟩
      exact hlast .non (.exc n (G.fld c) y) .non (.ref b) (some (.ref f)) none _ al' _ st' ex3 w3 .non hr3 (Post.ext back_D post ex3)
def eTold (G : GX) (fr : Env → Mo D) (hit : Nat → Option Str) (fe : Env → Mo D) : Env → Mo D := fun r => toldM fr hit G.fld (fe r)
/-- told(lambda: body) -/
theorem pd_told {W : WX} {sg : Scope} {a fo er en x1 x2 x : Str} {ret : Expr} {kt k2 kk : Nat} {j1 j2 : Nat} {q : Nat → Pos} {g c P C1 C2 : Addr} {fd : FuncData} {pg : Arguments} {kws : List (Str × V)} {params : Arguments} {body : Expr} {scope : Scope} {k : Nat} {hit : Nat → Option Str} {fe : Env → Mo D} {fr : Env → Mo D} {p lpos pos : Pos}
    (tx : ToldTx sg a fo er en x1 x2 kt k2 kk j1 j2 q x) (hit_ok : HitOk G X.K C1 C2 hit) (hm1 : X.mg x1 = some (.ref C1)) (hm2 : X.mg x2 = some (.ref C2)) (hg : Gl X x) (hm : X.mg x = some (.ref g)) (hk : PySem.W.keepIn X.K (.ref g) = true)
    (F : FunD X.K x x pg (toldB a fo er en x1 x2 ret kt k2 kk j1 j2 q) sg [] kws g fd) (hb : Binds X.K fd [a] []) (Sg : FnScope [a, fo, er, en] [a] sg) (gd : X.A.guards = some [])
    (TB : TabB X.base X.mg c P) (hcode : X.env.code = .ref c) (hmT : (P, X.env.qual ++ "<lambda>") ∈ G.TB) (hu : ∀ p ∈ G.TB, p.1 = P → p.2 = X.env.qual ++ "<lambda>") (hr : Room (k + 2) X.A) (L : LamS X.env.scope scope) (hdef : defaultsOf params X.env = ([], []))
    (hbind : ∀ (q : Str) (cl : List (Str × Addr)) (pm cv ctv : Value), bindArgs (PySem.W.kla_fn "<lambda>" q params body scope cl pm cv ctv) ⟨[], []⟩ = pure [])
    (hret : ∀ (cdg : Value) (s : Shared) (H : Hp), Room (k + 1) (X.A.deeper (tenv x sg s g cdg)) → PD G (tcx X [a, fo, er, en] x sg g cdg s H) (wE fun _ _ _ => False) H ret fr)
    (hL : ∀ (A : Around) (outer : List PySem.Env) (s2 : Shared) (H : Hp) (E : XK) (f c' : Addr), A.guards = some [] → Room k (A.deeper (lamEnv X scope s2.heap.objs.size f c')) → PD G (lamCx X A outer s2 H E scope f c') (wE E) H0 body fe)
    (hdb : (x == ("__debug__" : Str)) = false := by decide) : PD G X W H0 (.Call (.Name x p) [.Lambda params body scope lpos] [] pos) (eTold G fr hit fe) := by
  intro r st σ T al H Q S w po pins s I
  refine wpAny_Call_Name_kw (ld_glob I hg hm ?_ hdb)
  refine PySem.W.callWith_K (h₀ := X.base) I.ok.mod.kin hk ?_ (by rfl) (by rfl)
  show wpAny _ _ (spliced ((false, eval (.Lambda params body scope lpos) X.env) :: backTo pos (starEach [] X.env))) _ _ s
  refine Calls.spliced_cons (lam_new I TB hcode hmT hu w.tabs hdef (L.has I.ok) fun f c' pm' ctv H1 s' I1 lh T1 hf hfn hfr hco => ?_)
  refine Calls.spliced_nil ⟨I1.kIn, ?_⟩
  have b := hb s' [.ref f] I1.kIn rfl
  have rc : codeAny (model X.prog X.w) X.A (.call (.ref g) ⟨[.ref f], []⟩) (CR (L2.CX X.prog X.w) X.stack X.prog X.w H1 s' Q (fun _ _ _ => False)) s' := by
    obtain ⟨oc, od, dV, kV, doc, pm, an, cdv, ct, osl, rfl, lk, hcd, _, _⟩ := F.ex
    refine run_ofS (N := [a, fo, er, en]) (ps := [a]) (us := [.ref f]) (vs := [.ref f]) lk hcd Sg hr I1.env0 b (.cons rfl .nil) rfl fun hr' => ⟨_, pss_rd, ?_⟩
    exact told_run tx hit_ok hm1 hm2 I1 L hf hfn hfr (hbind _ _ _ _ _) hr' hco (hret cdv s' H1 hr') (fun s2 H2 E hr2 => hL _ _ s2 H2 E f c' gd hr2) (S.ext lh.ext) (lh.wi T1 w) (Post.ext back_D po lh.ext)
  refine wpAny_call (codeAny_mono rc fun r s2 hq => ?_)
  cases r with
  | error e =>
    obtain ⟨_, _, _, _, _, _, _, _, _, _, _, _, z⟩ := hq
    exact z.elim
  | ok fl =>
    cases fl with
    | ret u => exact I1.after hq
    | next => exact False.elim hq
    | brk => exact False.elim hq
    | cont => exact False.elim hq
end
end Pi
namespace Pi
open PySem PySem.Spec PyProof.Rows L2
def enumD (xs : List D) : List D := xs.zipIdx.map fun p => .tup [.int (p.2 : Nat), p.1]
def zipD (xs ys : List D) : List D := (xs.zip ys).map fun p => .tup [p.1, p.2]
theorem enumD_at {xs : List D} {i : Nat} {x : D} (h : (enumD xs)[i]? = some x) : ∃ y, xs[i]? = some y ∧ x = .tup [.int (i : Nat), y] := by
  unfold enumD at h
  rw [List.getElem?_map] at h
  obtain ⟨p, h1, h2⟩ := Option.map_eq_some_iff.mp h
  rw [List.getElem?_zipIdx] at h1
  obtain ⟨y, h3, h4⟩ := Option.map_eq_some_iff.mp h1
  refine ⟨y, h3, ?_⟩
  rw [← h2, ← h4, Nat.zero_add]
theorem enumD_no {xs : List D} {i : Nat} (h : (enumD xs)[i]? = none) : xs.length ≤ i := by
  have := List.getElem?_eq_none_iff.mp h
  unfold enumD at this
  simpa using this
theorem zipD_at {xs ys : List D} {i : Nat} {x : D} (h : (zipD xs ys)[i]? = some x) : ∃ y z, xs[i]? = some y ∧ ys[i]? = some z ∧ x = .tup [y, z] := by
  unfold zipD at h
  rw [List.getElem?_map] at h
  obtain ⟨p, h1, h2⟩ := Option.map_eq_some_iff.mp h
  obtain ⟨h3, h4⟩ := List.getElem?_zip_eq_some.mp h1
  exact ⟨p.1, p.2, h3, h4, h2.symm⟩
theorem zipD_no {xs ys : List D} {i : Nat} (h : (zipD xs ys)[i]? = none) : xs.length ≤ i ∨ ys.length ≤ i := by
  have := List.getElem?_eq_none_iff.mp h
  unfold zipD at this
  rw [List.length_map, List.length_zip] at this
  omega
/-- a new pair stands still -/
theorem pair_new {K : PySem.W.Frag} {TB : List (Addr × Str)} {T : Tg} {al : List Addr} {st : St} {H : Hp} {p : Addr} {u v : V} {x y : D} (w : WI K TB T al st H) (n : H p = none) (r1 : Rep K (fz T H) al u x) (r2 : Rep K (fz T H) al v y) :
    Ext T al H (tset T p .frz) al (upd H p (.tup [u, v])) ∧ WI K TB (tset T p .frz) al st (upd H p (.tup [u, v])) ∧ Rep K (fz (tset T p .frz) (upd H p (.tup [u, v]))) al (.ref p) (.tup [x, y]) := by
  have n' := w.free n
  have e : Ext T al H (tset T p .frz) al (upd H p (.tup [u, v])) := Ext.laid n .frz
  exact ⟨e, (w.laid n).tag (by rw [n']; decide) (by rw [n']; decide) upd_same, .tup (fz_of tset_same upd_same) (.cons (r1.ext e) (.cons (r2.ext e) .nil))⟩
section
variable {G : GX} {X : Cx} {W : WX} {H0 : Hp} {a b : Expr} {p pos tpos : Pos} {elts : List Expr} {kk : Nat}
theorem itok_enum {K : PySem.W.Frag} {TB : List (Addr × Str)} {F : Hp} {ab : List Addr} {a : Addr} {vs : List V} {xs : List D} (h : SqL K F a vs) (r : RepAll K F ab vs xs) : ItOk K TB F ab (Ite K a) (enumD xs) := by
  intro T al H st hs ha w i
  have h2 : SqL K H a vs := Same.seq fz_same (Same.seq hs h)
  refine ⟨fun x hx => ?_, fun hx => ⟨vs, h2, by rw [r.length]; exact enumD_no (List.getElem?_eq_none_iff.mpr (Nat.le_of_eq hx.symm))⟩⟩
  obtain ⟨y, hy, rfl⟩ := enumD_at hx
  obtain ⟨u, hu, ru⟩ := r.get hy
  refine ⟨⟨vs, u, h2, hu⟩, fun v H3 q => ?_⟩
  obtain ⟨p, z, rfl, n, rfl, q⟩ := q
  have e := q vs h2
  rw [hu] at e
  cases e
  obtain ⟨e1, w1, r1⟩ := pair_new (K := K) (u := .int (i : Nat)) (x := .int (i : Nat)) w n (.int _) (ru.mono hs ha)
  exact ⟨_, e1, w1, r1⟩
theorem itok_zipL {K : PySem.W.Frag} {TB : List (Addr × Str)} {F : Hp} {ab : List Addr} {a b : Addr} {vs us : List V} {xs ys : List D} (h : SqL K F a vs) (r : RepAll K F ab vs xs) (h' : SqL K F b us) (r' : RepAll K F ab us ys) : ItOk K TB F ab (Itz K a b) (zipD xs ys) := by
  intro T al H st hs ha w i
  have h2 : SqL K H a vs := Same.seq fz_same (Same.seq hs h)
  have h3 : SqL K H b us := Same.seq fz_same (Same.seq hs h')
  refine ⟨fun x hx => ?_, fun hx => ⟨vs, us, h2, h3, by rw [r.length, r'.length]; exact zipD_no (List.getElem?_eq_none_iff.mpr (Nat.le_of_eq hx.symm))⟩⟩
  obtain ⟨y, z, hy, hz, rfl⟩ := zipD_at hx
  obtain ⟨u, hu, ru⟩ := r.get hy
  obtain ⟨t, ht, rt⟩ := r'.get hz
  refine ⟨⟨vs, us, u, t, h2, h3, hu, ht⟩, fun v H3 q => ?_⟩
  obtain ⟨p, z1, z2, rfl, n, rfl, q1, q2⟩ := q
  have e := q1 vs h2
  rw [hu] at e
  cases e
  have e := q2 us h3
  rw [ht] at e
  cases e
  obtain ⟨e1, w1, r1⟩ := pair_new w n (ru.mono hs ha) (rt.mono hs ha)
  exact ⟨_, e1, w1, r1⟩
theorem itok_zipT {K : PySem.W.Frag} {TB : List (Addr × Str)} {F : Hp} {ab : List Addr} {a b : Addr} {vs us : List V} {xs ys : List D} (h : SqT K F a vs) (r : RepAll K F ab vs xs) (h' : SqT K F b us) (r' : RepAll K F ab us ys) : ItOk K TB F ab (RZ.ItzT K a b) (zipD xs ys) := by
  intro T al H st hs ha w i
  have h2 : SqT K H a vs := Same.seqT fz_same (Same.seqT hs h)
  have h3 : SqT K H b us := Same.seqT fz_same (Same.seqT hs h')
  refine ⟨fun x hx => ?_, fun hx => ⟨vs, us, h2, h3, by rw [r.length, r'.length]; exact zipD_no (List.getElem?_eq_none_iff.mpr (Nat.le_of_eq hx.symm))⟩⟩
  obtain ⟨y, z, hy, hz, rfl⟩ := zipD_at hx
  obtain ⟨u, hu, ru⟩ := r.get hy
  obtain ⟨t, ht, rt⟩ := r'.get hz
  refine ⟨⟨vs, us, u, t, h2, h3, hu, ht⟩, fun v H3 q => ?_⟩
  obtain ⟨p, z1, z2, rfl, n, rfl, q1, q2⟩ := q
  have e := q1 vs h2
  rw [hu] at e
  cases e
  have e := q2 us h3
  rw [ht] at e
  cases e
  obtain ⟨e1, w1, r1⟩ := pair_new w n (ru.mono hs ha) (rt.mono hs ha)
  exact ⟨_, e1, w1, r1⟩
def enumO : List D → Option (List D)
  | [.lst xs] => some (enumD xs)
  | _ => none
def zipO : List D → Option (List D)
  | [.lst xs, .lst ys] => some (zipD xs ys)
  | [.tup xs, .tup ys] => some (zipD xs ys)
  | _ => none
def iFun (o : List D → Option (List D)) (f : Env → Mo (List D)) : Env → Mo (List D) := fun r => f r >>= fun ds => Mo.opt (o ds)
theorem pit_enumL {f : Env → Mo (List D)} (hg : Gl X "enumerate") (hm : X.mg "enumerate" = none) (ha : PL G X W H0 [a] f) (hs : starEach [a] X.env = [(false, eval a X.env)] := by rfl) : PIt G X W H0 (.Tuple elts kk tpos) (.Call (.Name "enumerate" p) [a] [] pos) (iFun enumO f) := by
  intro r st σ T al H R S w q
  refine rdI (pi_enum hg hm pa_rd hs) (ha r st σ T al H _ S w (seqP back_I q fun ds st1 vs T1 al1 H1 _ x1 w1 r1 q1 => optP q1 fun z hz q2 => ?_))
  match ds, hz, r1 with
  | [.lst xs], hz, r1 =>
    have ez : enumD xs = z := Option.some.inj hz
    subst ez
    cases r1 with
    | cons ra rb =>
      cases rb
      obtain ⟨l, us, rfl, h1, h2⟩ := rep_lst ra
      exact ⟨l, us, rfl, .inl (.inl (fz_same _ _ h1)), q2 _ T1 al1 H1 .refl w1 (itok_enum (.inl (.inl h1)) h2)⟩
theorem pit_zip {f : Env → Mo (List D)} (hg : Gl X "zip") (hm : X.mg "zip" = none) (ha : PL G X W H0 [a, b] f) (hs : starEach [a, b] X.env = (false, eval a X.env) :: starEach [b] X.env := by rfl) (hpl : (backTo pos (starEach [b] X.env)).any (·.1) = false := by rfl) : PIt G X W H0 (.Tuple elts kk tpos) (.Call (.Name "zip" p) [a, b] [] pos) (iFun zipO f) := by
  intro r st σ T al H R S w q
  refine rdI (RZ.pi_zipA hg hm pa_rd hs hpl) (ha r st σ T al H _ S w (seqP back_I q fun ds st1 vs T1 al1 H1 _ x1 w1 r1 q1 => optP q1 fun z hz q2 => ?_))
  match ds, hz, r1 with
  | [.lst xs, .lst ys], hz, r1 =>
    have ez : zipD xs ys = z := Option.some.inj hz
    subst ez
    cases r1 with
    | cons ra rb =>
      cases rb with
      | cons rc rd =>
        cases rd
        obtain ⟨l, us, rfl, h1, h2⟩ := rep_lst ra
        obtain ⟨l2, us2, rfl, h3, h4⟩ := rep_lst rc
        exact ⟨l, l2, us, us2, rfl, .inl ⟨.inl (.inl (fz_same _ _ h1)), .inl (.inl (fz_same _ _ h3)), q2 _ T1 al1 H1 .refl w1 (itok_zipL (.inl (.inl h1)) h2 (.inl (.inl h3)) h4)⟩⟩
  | [.tup xs, .tup ys], hz, r1 =>
    have ez : zipD xs ys = z := Option.some.inj hz
    subst ez
    cases r1 with
    | cons ra rb =>
      cases rb with
      | cons rc rd =>
        cases rd
        obtain ⟨l, us, rfl, h1, h2⟩ := rep_tup ra
        obtain ⟨l2, us2, rfl, h3, h4⟩ := rep_tup rc
        exact ⟨l, l2, us, us2, rfl, .inr ⟨Same.seqT fz_same h1, Same.seqT fz_same h3, q2 _ T1 al1 H1 .refl w1 (itok_zipT h1 h2 h3 h4)⟩⟩
end
end Pi
set_option maxHeartbeats 4000000
namespace PySem
open Sem (wp)
open AutoSeq1 (wpAny_loadPart')
theorem enumT_new (l : Addr) (items : Array Value) (n : Nat) (dct : Option Addr) (sl : Array (Option Value)) :
    Meets (Builtin.«enumerate.__new__» ⟨[.type "enumerate", .ref l], []⟩) (fun _ R s => s.heap.get? l = some { cls := .type "tuple", dict := dct, data := .seq items n, slots := sl } ∧
      R (.ok (.ret (.ref (s.heap.push { cls := .type "tuple_iterator", data := .fields #[.ref l, .int 0 0] }).objs.size)))
        { s with heap := (s.heap.push { cls := .type "tuple_iterator", data := .fields #[.ref l, .int 0 0] }).push { cls := .type "enumerate", data := .fields #[.none, .bool false, .ref s.heap.objs.size, rawInt 0, .none, .none] } }) :=
  .of_wp fun prog w A R s h => by
    obtain ⟨hp, g, d, tk, os⟩ := s
    obtain ⟨hl, h⟩ := h
    have hsub := sub_enumerate
    have hL : Heap.IsTuple (Shared.heap ⟨hp, g, d, tk, os⟩) l items := ⟨_, hl, rfl, n, rfl⟩
    wp_walk using wpAny_loadPart' hl
    refine wpAny_stack_any fun st => wpAny_pure ?_
    split
    · rename_i c _ _ _ _ _
      cases (c == Value.type "enumerate")
      · wp_walk using wpAny_loadPart' hl, wpAny_pyIter_tuple hL
        exact ⟨_, rfl, h⟩
      · wp_walk using wpAny_loadPart' hl, wpAny_pyIter_tuple hL
        exact ⟨_, rfl, h⟩
    · wp_walk using wpAny_loadPart' hl, wpAny_pyIter_tuple hL
      exact ⟨_, rfl, h⟩
section
variable {prog : Program} {w : World} {A : Around} {E : Value → Shared → Prop} {s : Shared}
theorem enumT_call {l : Addr} {items : Array Value} {Q : Value → Shared → Prop} (hL : s.heap.IsTuple l items)
    (h : ∀ h', IsEnum h' (s.heap.objs.size + 1) s.heap.objs.size 0 .none → h'.IsTupleIter s.heap.objs.size l 0 → h'.objs.size = s.heap.objs.size + 2 →
      (∀ b o, s.heap.get? b = some o → h'.get? b = some o) → Q (.ref (s.heap.objs.size + 1)) { s with heap := h' }) :
    wpAny (model prog w) A (call (.type "enumerate") [.ref l]) Q E s := by
  obtain ⟨⟨c, dct, dt, sl⟩, hl, hc, n, hd⟩ := hL
  replace hc : c = .type "tuple" := hc
  replace hd : dt = .seq items n := hd
  subst hc hd
  refine callType_new F.called_enumerate (by decide) (F.typeCall_enumerate_1 _) (F.newCall_enumerate_1 _) (fun obj => F.args_object_init_2 obj _) F.entry_enumerate_new (enumT_new l items n dct sl) ⟨hl, ?_⟩
  have hz : (s.heap.push { cls := .type "tuple_iterator", data := .fields #[.ref l, .int 0 0] }).objs.size = s.heap.objs.size + 1 := Heap.size_push ..
  show _ ∧ _
  rw [hz]
  have he : IsEnum ((s.heap.push { cls := .type "tuple_iterator", data := .fields #[.ref l, .int 0 0] }).push
      { cls := .type "enumerate", data := .fields #[.none, .bool false, .ref s.heap.objs.size, rawInt 0, .none, .none] }) (s.heap.objs.size + 1) s.heap.objs.size 0 .none := by
    have := Heap.get?_push_size (s.heap.push { cls := .type "tuple_iterator", data := .fields #[.ref l, .int 0 0] }) (o := { cls := .type "enumerate", data := .fields #[.none, .bool false, .ref s.heap.objs.size, rawInt 0, .none, .none] }) rfl
    rw [hz] at this
    exact this
  exact ⟨⟨_, he, rfl⟩, h _ he ⟨_, Heap.get?_push_of_some _ (Heap.get?_push_size _ rfl), rfl, rfl⟩ (by rw [Heap.size_push, hz]) fun b o x => Heap.get?_push_of_some _ (Heap.get?_push_of_some _ x)⟩
end
end PySem
namespace Pi
open PySem PySem.Spec PyProof.Rows L2
/-- the tuple at a, each item in a new pair with its place -/
def IteT (K : PySem.W.Frag) (a : Addr) : It :=
  ⟨fun i H => ∃ (xs : List V) (x : V), SqT K H a xs ∧ xs[i]? = some x, fun i H v H' => ∃ T x, v = .ref T ∧ H T = none ∧ H' = upd H T (.tup [.int (i : Nat), x]) ∧ ∀ xs, SqT K H a xs → xs[i]? = some x, fun i H => ∃ xs : List V, SqT K H a xs ∧ i = xs.length⟩
theorem turn_enumT {P : Program} {w : World} {K : PySem.W.Frag} {elts : List Expr} {kk : Nat} {tpos : Pos} (a e it : Addr) (hat : a ≠ it) (hae : a ≠ e) :
    Turn P w K (.Tuple elts kk tpos) (IteT K a) [e, it] e (fun i h => (∃ old, IsEnum h e it ((i : Nat) : Int) old) ∧ h.IsTupleIter it a i ∧ e ≠ it) where
  mem := by simp
  obj := fun i h st b hb => by
    obtain ⟨⟨old, he⟩, ⟨o, ho, hc, hd⟩, _⟩ := st
    have e' : b = e ∨ b = it := by simpa using hb
    rcases e' with z | z
    · rw [z]
      exact ⟨_, he, fun v q => nomatch q⟩
    · rw [z]
      exact ⟨o, ho, fun v q => by rw [hd] at q; cases q⟩
  keep := fun i h h' st k => let ⟨⟨old, he⟩, hi, hne⟩ := st; ⟨⟨old, k e (by simp) _ he⟩, hi.at fun o q => k it (by simp) o q, hne⟩
  item := by
    intro X hP hw hK hc i pins s σ H E I hf st hg
    subst hP hw hK
    obtain ⟨⟨old, he⟩, hit, hne⟩ := st
    obtain ⟨xs, x, hq, hx⟩ := hg
    obtain ⟨its, rv, p, hz⟩ := I.tuple hq
    obtain ⟨u, hu, ru⟩ := rv.get hx
    have hel : e < s.heap.objs.size := Heap.lt_size he
    have hil : it < s.heap.objs.size := by obtain ⟨_, q, _⟩ := hit; exact Heap.lt_size q
    have pt : s.heap.IsTuple a its.toArray := p
    have hlt : i < its.toArray.size := by
      rw [List.size_toArray]
      exact (List.getElem?_eq_some_iff.mp hu).1
    refine wpAny_pyNext_enum_itemD (St := fun i h => h.IsTupleIter it a i ∧ h.IsTuple a its.toArray) (Draws.tuple (A := X.A.in1) (I.ok.hd hc) it a hat its.toArray) he ⟨hit, pt⟩ hlt hne (by simp [hne, Ne.symm hae]) fun x' h' tk' hx' ho st' hT hsz hk => ?_
    have ex : x' = u := by
      have h1 : its.toArray[i]? = some u := by simpa using hu
      rw [h1] at hx'
      exact (Option.some.inj hx').symm
    subst ex
    refine ⟨_, rfl, wpAny_letOwnedTupleGo_enum (s := { s with heap := h', toks := tk' + 1 }) ho fun h'' he' sb => ?_⟩
    have hT2 : h''.get? s.heap.objs.size = some { cls := .type "tuple", data := .seq #[.int i tk', x'] } := (sb.2 _ (Nat.ne_of_gt hel)).trans hT
    have new : ObjOk X.prog X.w (upd H s.heap.objs.size (.tup [.int (i : Nat), x])) h'' s.heap.objs.size (.tup [.int (i : Nat), x]) :=
      ⟨by show 2 ≤ sizeLine; decide, [.int i tk', x'], .cons ⟨_, rfl⟩ (.cons ru .nil), ⟨_, hT2, rfl, _, rfl⟩⟩
    have I1 : Inv X pins σ (upd H s.heap.objs.size (.tup [.int (i : Nat), x])) { s with heap := h'', toks := tk' + 1 } :=
      I.turnedNew (ch := [e, it]) (fun b ob hb q => (sb.2 b (fun z => hb (by simp [z]))).trans (hk b ob (fun z => hb (by simp [z])) (fun z => hb (by simp [z])) q)) hf (Nat.le_refl _) new
    refine ⟨.ref s.heap.objs.size, _, I1, rfl, ⟨_, x, rfl, I.hok.fresh (Nat.le_refl _), rfl, fun ys hy => by rw [I.tuple_inj hy hq]; exact hx⟩, ⟨⟨x', ?_⟩, st'.1.at fun o q => (sb.2 it (Ne.symm hne)).trans q, hne⟩, fun b hb => ?_⟩
    · have e1 : ((i + 1 : Nat) : Int) = (i : Int) + 1 := by omega
      rw [e1]
      exact he'
    · have hb' : b < s.heap.objs.size := by
        have e' : b = e ∨ b = it := by simpa using hb
        rcases e' with z | z
        · rw [z]
          exact hel
        · rw [z]
          exact hil
      rw [upd_ne (Nat.ne_of_lt hb')]
      exact (hf b hb).1
  done := by
    intro X hP hw hK hc i pins s σ H E I hf st hg
    subst hP hw hK
    obtain ⟨⟨old, he⟩, hit, hne⟩ := st
    obtain ⟨xs, hq, hx⟩ := hg
    obtain ⟨its, rv, p, hz⟩ := I.tuple hq
    obtain ⟨f0, f1, f2, f3, f4, f5⟩ := hf it (by simp)
    have pt : s.heap.IsTuple a its.toArray := p
    have ei : its.toArray.size = i := by
      rw [List.size_toArray, ← rv.length, hx]
    exact wpAny_pyNext_enum_endD (St := fun i h => h.IsTupleIter it a i ∧ h.IsTuple a its.toArray) (Draws.tuple (A := X.A.in1) (I.ok.hd hc) it a hat its.toArray) he ⟨by rw [ei]; exact hit, pt⟩ fun h' eb => ⟨rfl, I.turned (t' := s.toks) (fun b o hb q => eb b o hb q) f0 f1 f3 f4 f5⟩
  self := fun A i s Q E st h => let ⟨⟨_, he⟩, _⟩ := st; wpAny_pyIter_enum he h
section
variable {G : GX} {X : Cx} {W : WX} {H0 : Hp} {a b : Expr} {p pos tpos : Pos} {elts : List Expr} {kk : Nat}
theorem itok_enumT {K : PySem.W.Frag} {TB : List (Addr × Str)} {F : Hp} {ab : List Addr} {a : Addr} {vs : List V} {xs : List D} (h : SqT K F a vs) (r : RepAll K F ab vs xs) : ItOk K TB F ab (IteT K a) (enumD xs) := by
  intro T al H st hs ha w i
  have h2 : SqT K H a vs := Same.seqT fz_same (Same.seqT hs h)
  refine ⟨fun x hx => ?_, fun hx => ⟨vs, h2, by rw [r.length, hx]; unfold enumD; simp⟩⟩
  obtain ⟨y, hy, rfl⟩ := enumD_at hx
  obtain ⟨u, hu, ru⟩ := r.get hy
  refine ⟨⟨vs, u, h2, hu⟩, fun v H3 q => ?_⟩
  obtain ⟨p, z, rfl, n, rfl, q⟩ := q
  have e := q vs h2
  rw [hu] at e
  cases e
  obtain ⟨e1, w1, r1⟩ := pair_new (K := K) (u := .int (i : Nat)) (x := .int (i : Nat)) w n (.int _) (ru.mono hs ha)
  exact ⟨_, e1, w1, r1⟩
def iEnumT (K : PySem.W.Frag) (ta : TA) : TI := fun σ H R => ta σ H fun vs H1 => ∃ a xs, vs = [.ref a] ∧ SqT K H1 a xs ∧ R (IteT K a) H1
theorem pi_enumT {ta : TA} (hg : Gl X "enumerate") (hm : X.mg "enumerate" = none) (ha : PA X [a] ta) (hs : starEach [a] X.env = [(false, eval a X.env)] := by rfl) : PI X (.Tuple elts kk tpos) (.Call (.Name "enumerate" p) [a] [] pos) (iEnumT X.K ta) := by
  refine ⟨fun pins s σ H R I h => ?_⟩
  refine Call_ (ld_blt I hg hm boot_enumerate (PyProof.Rows.callWith_type1 (thn (ha.run pos pins s σ H _ I h) fun us s1 ⟨vs, H1, I1, r1, q1⟩ => ?_) hs rfl))
  obtain ⟨a, xs, ex, hq, q⟩ := q1
  subst ex
  cases r1 with
  | cons r rr =>
    cases rr
    cases r
    obtain ⟨its, rv, p', hz⟩ := I1.tuple hq
    have pt : s1.heap.IsTuple a its.toArray := p'
    have hlt : a < s1.heap.objs.size := by
      obtain ⟨o, ho, _⟩ := pt
      exact Heap.lt_size ho
    refine PySem.enumT_call pt fun h' he hit hsz hk => wpAny_pyIter_enum he ?_
    have I2 : Inv X pins σ H1 { s1 with heap := h' } := I1.kept (t' := s1.toks) hk
    refine ⟨s1.heap.objs.size + 1, [s1.heap.objs.size + 1, s1.heap.objs.size], _, _, H1, rfl, I2, turn_enumT a (s1.heap.objs.size + 1) s1.heap.objs.size (Nat.ne_of_lt hlt) (Nat.ne_of_lt (Nat.lt_succ_of_lt hlt)), ⟨⟨.none, he⟩, hit, Nat.succ_ne_self _⟩, fun b hb => ?_, q⟩
    have e' : b = s1.heap.objs.size + 1 ∨ b = s1.heap.objs.size := by simpa using hb
    have hle : s1.heap.objs.size ≤ b := by
      rcases e' with z | z
      · rw [z]
        exact Nat.le_add_right _ _
      · rw [z]
        exact Nat.le_refl _
    exact I1.fpOk hle (I1.hok.fresh hle)
def enumT : List D → Option (List D)
  | [.tup xs] => some (enumD xs)
  | _ => none
theorem pit_enumT {f : Env → Mo (List D)} (hg : Gl X "enumerate") (hm : X.mg "enumerate" = none) (ha : PL G X W H0 [a] f) (hs : starEach [a] X.env = [(false, eval a X.env)] := by rfl) : PIt G X W H0 (.Tuple elts kk tpos) (.Call (.Name "enumerate" p) [a] [] pos) (iFun enumT f) := by
  intro r st σ T al H R S w q
  refine rdI (pi_enumT hg hm pa_rd hs) (ha r st σ T al H _ S w (seqP back_I q fun ds st1 vs T1 al1 H1 _ x1 w1 r1 q1 => optP q1 fun z hz q2 => ?_))
  match ds, hz, r1 with
  | [.tup xs], hz, r1 =>
    have ez : enumD xs = z := Option.some.inj hz
    subst ez
    cases r1 with
    | cons ra rb =>
      cases rb
      obtain ⟨l, us, rfl, h1, h2⟩ := rep_tup ra
      exact ⟨l, us, rfl, Same.seqT fz_same h1, q2 _ T1 al1 H1 .refl w1 (itok_enumT h1 h2)⟩
end
end Pi
namespace Pi
open PySem PySem.Spec PyProof.Rows L2
def reprOk (x : D) : Bool := x.still && (x.py.showable && (Nat.ble x.py.depth 190 && Nat.ble x.py.shown.length 16777216))
def oRepr : List D → Option D
  | [x] => match reprOk x with
    | true => some (.str x.py.shown)
    | false => none
  | _ => none
theorem reprOk_ok {x : D} (h : reprOk x = true) : x.still = true ∧ x.py.showable = true ∧ x.py.depth ≤ 190 ∧ x.py.shown.length ≤ sizeLine := by
  unfold reprOk at h
  obtain ⟨h1, h⟩ := Bool.and_eq_true_iff.mp h
  obtain ⟨h2, h⟩ := Bool.and_eq_true_iff.mp h
  obtain ⟨h3, h4⟩ := Bool.and_eq_true_iff.mp h
  exact ⟨h1, h2, Nat.le_of_ble_eq_true h3, by rw [line_is]; exact Nat.le_of_ble_eq_true h4⟩
section
variable {G : GX} {X : Cx} {W : WX} {H0 : Hp}
def rRepr (K : PySem.W.Frag) : List V → Hp → VK → Prop := fun vs H Q => ∃ (v : V) (x : D) (T : Tg) (al : List Addr), vs = [v] ∧ RepH K T al H v x ∧ reprOk x = true ∧ Q (.str x.py.shown) H
theorem call_repr (ok : COk X) (ns : NoSys X.K) : CallR X (.builtin "repr") (rRepr X.K) := by
  intro pins s σ H vs us Q I r h
  obtain ⟨v, x, T, al, rfl, rx, hx, q⟩ := h
  obtain ⟨h1, h2, h3, h4⟩ := reprOk_ok hx
  obtain ⟨u, rfl, ru⟩ := r.one
  obtain ⟨as, rd, na⟩ := rx.reads I ok ns h1 ru
  have fin : ∀ (y : Str), y = x.py.shown → ∀ (h' : Heap) (t : Tok) (tk : Nat), (∀ b o, s.heap.get? b = some o → h'.get? b = some o) → EP X pins σ Q (.str y t) { s with heap := h', toks := tk } := fun y e h' t tk k => ⟨.str y, H, I.kept k, ⟨t, rfl⟩, by rw [e]; exact q⟩
  have hu := ok.un
  cases x with
  | non =>
    have e := rep_non rx
    subst e
    cases ru
    exact PySem.P.repr_of_none (fin _ (by rw [D.py, PyData.shown]) _ _ _ fun _ _ z => z)
  | bl b =>
    have e := rep_bl rx
    subst e
    cases ru
    exact PySem.P.repr_of_bool (fin _ (by rw [D.py, PyData.shown]) _ _ _ fun _ _ z => z)
  | int i =>
    have e := rep_int rx
    subst e
    obtain ⟨t, rfl⟩ := ru
    exact PySem.P.repr_of_int (by rw [D.py, PyData.showable] at h2; exact of_decide_eq_true h2) (fin _ (by rw [D.py, PyData.shown]) _ _ _ fun _ _ z => z)
  | str y =>
    have e := rep_str rx
    subst e
    obtain ⟨t, rfl⟩ := ru
    exact PySem.P.repr_of_str (fin _ (by rw [D.py, PyData.shown]) _ _ _ fun _ _ z => z) (by rw [D.py, PyData.shown] at h4; exact h4)
  | tup ds =>
    obtain ⟨a, ws, rfl, _⟩ := rep_tup rx
    cases ru
    exact repr_of_reads' rd h2 (fun _ => na) ok.gd (by omega) (fun _ _ z => z) (fun h' t tk k => fin _ rfl h' t tk k) h4
  | lst ds =>
    obtain ⟨a, ws, rfl, _⟩ := rx
    cases ru
    exact repr_of_reads' rd h2 (fun _ => na) ok.gd (by omega) (fun _ _ z => z) (fun h' t tk k => fin _ rfl h' t tk k) h4
  | dct kvs =>
    obtain ⟨a, ws, rfl, _⟩ := rep_dct rx
    cases ru
    exact repr_of_reads' rd h2 (fun _ => na) ok.gd (by omega) (fun _ _ z => z) (fun h' t tk k => fin _ rfl h' t tk k) h4
  | ktp ds =>
    obtain ⟨a, ws, rfl, _⟩ := rep_ktp rx
    cases ru
    exact repr_of_reads' rd h2 (fun _ => na) ok.gd (by omega) (fun _ _ z => z) (fun h' t tk k => fin _ rfl h' t tk k) h4
  | obj n => exact absurd h1 (by simp [D.still])
  | exc n f y => exact absurd h1 (by simp [D.still])
  | kls y => exact absurd h1 (by simp [D.still])
theorem cal_repr : CalR G X (rRepr X.K) oRepr := by
  intro ds z hz st T al H vs Q w r q
  match ds, hz, r with
  | [x], hz, r =>
    obtain ⟨v, rfl, rx⟩ := paired1 r
    have hz' : (match reprOk x with
      | true => some (D.str x.py.shown)
      | false => none) = some z := hz
    cases e : reprOk x with
    | false => rw [e] at hz'; cases hz'
    | true =>
      rw [e] at hz'
      have ez := Option.some.inj hz'
      subst ez
      exact ⟨v, x, T, al, rfl, rx, e, q _ T al H .refl w (.str _)⟩
end
end Pi
namespace Pi
open PySem PySem.Spec PyProof.Rows L2

def adr : Value → Addr
  | .ref a => a
  | _ => 0
/-- the keys' objects, with what they hold -/
theorem keys_zip {H : Hp} : ∀ {kvs : List (List Key × V)} {bs : List Addr} {ns : List (List Int)}, IsKeys H kvs bs → kvs.map (·.1) = ns.map (fun k => k.map Sum.inl) →
    bs.length = ns.length ∧ ∀ q ∈ bs.zip ns, H q.1 = some (.tup (q.2.map V.int))
  | [], _, ns, .nil, e => by
    cases ns with
    | nil => exact ⟨rfl, fun q hq => by cases hq⟩
    | cons n ns => cases e
  | kv :: kvs, b :: bs, ns, .cons h t, e => by
    cases ns with
    | nil => cases e
    | cons n ns =>
      rw [List.map_cons, List.map_cons] at e
      injection e with e1 e2
      obtain ⟨h1, h2⟩ := keys_zip (ns := ns) t e2
      refine ⟨congrArg (· + 1) h1, fun q hq => ?_⟩
      rcases List.mem_cons.mp (show q ∈ (b, n) :: bs.zip ns from hq) with z | z
      · rw [z]
        have h' : H b = some (.tup (kv.1.map kV)) := h
        show H b = some (.tup (n.map V.int))
        rw [h', e1, List.map_map]
        rfl
      · exact h2 q z
/-- sorted(d), the keys tuples of d whole numbers in [0, B) -/
def rSortDT : List V → Hp → VK → Prop := fun xs H Q => ∃ (a : Addr) (kvs : List (List Key × V)) (ns : List (List Int)) (d : Nat) (B : Int), xs = [V.ref a] ∧ H a = some (.dT kvs) ∧ kvs.map (·.1) = ns.map (fun k => k.map Sum.inl) ∧ 1 ≤ d ∧ (∀ k ∈ ns, k.length = d ∧ TS.Bd B k) ∧ ns.length < 64 ∧
  ∀ (L : List (Addr × List Int)) (p : Addr), (L.map (·.2)).Perm ns → L.Pairwise (fun q r => TS.code B q.2 ≤ TS.code B r.2) → (∀ q ∈ L, H q.1 = some (.tup (q.2.map V.int))) → H p = none → Q (.ref p) (upd H p (.lst (L.map fun q => V.ref q.1)))
theorem vals_L : ∀ L : List (Addr × List Int), Vals (L.map fun q => V.ref q.1) (L.map fun q => Value.ref q.1)
  | [] => .nil
  | _ :: L => .cons rfl (vals_L L)
theorem call_sortDT {X : Cx} (hc : X.calm = true) : CallR X (.builtin "sorted") rSortDT := by
  intro pins s σ H xs us Q I r h
  obtain ⟨a, kvs, ns, d, B, rfl, ha, hks, hd, hB, h64, q⟩ := h
  obtain ⟨u, rfl, rx⟩ := r.one
  cases rx
  obtain ⟨z, hs, ks, pr, o, es, ep, ho, hx, hdt, he, hn⟩ := (show ObjOk X.prog X.w H s.heap a (.dT kvs) from I.hok a _ ha)
  have l1 : es.size = ks.length := size_of_entries he
  have l2 : kvs.length = ks.length := Paired.length pr
  obtain ⟨hlen, hkey⟩ := keys_zip (isKeys_of pr) hks
  rw [List.length_map] at hlen
  -- what f tells of a key
  have hf : ∀ b k, (b, k) ∈ (ks.map fun x => x.2.1).zip ns → TS.TupInts s.heap (.ref b) k := fun b k hm => by
    obtain ⟨its, rv, p, _⟩ := I.tuple (xs := k.map V.int) (.inl (.inl (hkey _ hm)))
    exact ⟨b, its.toArray, rfl, p, intsAre_of rv⟩
  refine Calls.call_function_entry PyProof.Rows.kind_sorted PyProof.Rows.plain_sorted PyProof.Rows.entry_sorted (PyProof.Rows.args_sorted1 _) ?_
  unfold Builtin.«sorted»
  refine wpAny_bind (m := checkCount "sorted" 1 1 _) (wpAny_pure ?_)
  refine wpAny_bind (PySem.W.kdu_collect (A := X.A.in1) (kdl_raw hs hx hdt) (I.ok.hd hc) ho (by omega) fun h' tk acc hk it => ?_)
  have ea : acc.toList = ks.map fun x => Value.ref x.2.1 := by
    have hl : acc.toList.length = ks.length := by rw [Array.length_toList, it.1]; exact l1
    apply List.ext_getElem?
    intro j
    rw [List.getElem?_map]
    cases hj : acc.toList[j]? with
    | none =>
      have h1 := List.getElem?_eq_none_iff.mp hj
      rw [List.getElem?_eq_none (by omega)]
      rfl
    | some v =>
      obtain ⟨en, hen, hv⟩ := it.2 j v (by rw [← Array.getElem?_toList]; exact hj)
      have qe := entry_at he j
      rw [hen] at qe
      cases hb : ks[j]? with
      | none =>
        rw [hb] at qe
        exact nomatch (show some en = none from qe)
      | some b =>
        rw [hb] at qe
        have e2 : en = entryOfKey (tupleKind (mixKind X.prog X.w)) b := Option.some.inj qe
        rw [hv, e2]
        rfl
  have hal : acc.toList.length = ns.length := by rw [ea, List.length_map]; exact hlen
  have I1 : Inv X pins σ H { s with heap := h', toks := tk } := I.kept hk
  refine wpAny_bind (wpAny_newList ?_ (by rw [hal, sizeLine_eq]; omega))
  have hoL : (h'.push (seqObj "list" acc.toList.toArray 0)).get? h'.objs.size = some (seqObj "list" acc.toList.toArray 0) := Heap.get?_push_size _ rfl
  have kp : ∀ b o, s.heap.get? b = some o → (h'.push (seqObj "list" acc.toList.toArray 0)).get? b = some o := fun b o e => Heap.get?_push_of_some _ (hk b o e)
  have mem : ∀ v, v ∈ acc.toList → ∃ b k, v = .ref b ∧ (b, k) ∈ (ks.map fun x => x.2.1).zip ns := fun v hv => by
    rw [ea] at hv
    obtain ⟨x, hx, ev⟩ := List.mem_map.mp hv
    obtain ⟨i, hi⟩ := List.getElem?_of_mem hx
    have hil : i < ns.length := by
      have := (List.getElem?_eq_some_iff.mp hi).1
      omega
    refine ⟨x.2.1, ns[i], ev.symm, List.mem_of_getElem? (i := i) ?_⟩
    exact List.getElem?_zip_eq_some.mpr ⟨by rw [List.getElem?_map, hi]; rfl, List.getElem?_eq_getElem hil⟩
  have hT : TS.TupsOk (h'.push (seqObj "list" acc.toList.toArray 0)) d B acc.toList := fun v hv => by
    obtain ⟨b, k, rfl, hm⟩ := mem v hv
    exact ⟨k, (hf b k hm).keeps fun b o e _ => kp b o e, hB k (List.of_mem_zip hm).2⟩
  have hI : ∀ v, v ∈ acc.toList → ∀ k, TS.TupInts (h'.push (seqObj "list" acc.toList.toArray 0)) v k → TS.code B (TS.intsOf s.heap v) = TS.code B k := fun v hv k t => by
    obtain ⟨b, k', rfl, hm⟩ := mem v hv
    have e1 := (hf b k' hm).ints
    have e2 := ((hf b k' hm).keeps fun b o e _ => kp b o e).ints
    rw [e1, ← e2, t.ints]
  show wpAny _ _ _ _ _ { s with heap := h'.push (seqObj "list" acc.toList.toArray 0), toks := tk }
  refine wpAny_bind (wpAny_holding (wpAny_call_entry PyProof.Rows.slot_list_sort ⟨_, hoL, rfl⟩ PyProof.Rows.entry_list_sort
    (TS.sort_tups (s := { s with heap := h'.push (seqObj "list" acc.toList.toArray 0), toks := tk }) hoL (by rw [hal]; exact h64) hd hT (fun v => TS.code B (TS.intsOf s.heap v)) hI fun out g1 g2 => ⟨_, rfl, ?_⟩) (PyProof.Rows.args_list_sort _)))
  obtain ⟨e', he'⟩ := PyProof.Rows.sortedHeap_at (vs := acc.toList) (out := out) hoL
  have em : acc.toList.map (fun v => (adr v, TS.intsOf s.heap v)) = (ks.map fun x => x.2.1).zip ns := by
    rw [ea, List.map_map]
    apply List.ext_getElem?
    intro j
    rw [List.getElem?_map]
    cases hj : ks[j]? with
    | none =>
      have h1 := List.getElem?_eq_none_iff.mp hj
      rw [List.getElem?_eq_none (by rw [List.length_zip, List.length_map]; omega)]
      rfl
    | some x =>
      have hjl : j < ns.length := by
        have := (List.getElem?_eq_some_iff.mp hj).1
        omega
      have hz : ((ks.map fun x => x.2.1).zip ns)[j]? = some (x.2.1, ns[j]) := List.getElem?_zip_eq_some.mpr ⟨by rw [List.getElem?_map, hj]; rfl, List.getElem?_eq_getElem hjl⟩
      rw [hz]
      have e1 := (hf _ _ (List.mem_of_getElem? hz)).ints
      show some (x.2.1, TS.intsOf s.heap (.ref x.2.1)) = _
      rw [e1]
  have pL := g1.map (fun v => (adr v, TS.intsOf s.heap v))
  rw [em] at pL
  have oL : (out.toList.map (fun v => (adr v, TS.intsOf s.heap v))).map (fun q => Value.ref q.1) = out.toList := by
    rw [List.map_map]
    have : ∀ v ∈ out.toList, ((fun q : Addr × List Int => Value.ref q.1) ∘ fun v => (adr v, TS.intsOf s.heap v)) v = v := fun v hv => by
      obtain ⟨b, k, rfl, _⟩ := mem v (g1.mem_iff.mp hv)
      rfl
    rw [List.map_congr_left this, List.map_id']
  have hmemL : ∀ q ∈ out.toList.map (fun v => (adr v, TS.intsOf s.heap v)), H q.1 = some (.tup (q.2.map V.int)) := fun q hq => hkey q (pL.mem_iff.mp hq)
  have hp2 : ((out.toList.map (fun v => (adr v, TS.intsOf s.heap v))).map (·.2)).Perm ns := by
    have h1 := pL.map (fun q : Addr × List Int => q.2)
    rw [List.map_snd_zip (by rw [List.length_map]; omega)] at h1
    exact h1
  have hlen2 : ((out.toList.map (fun v => (adr v, TS.intsOf s.heap v))).map fun q => V.ref q.1).length ≤ sizeLine := by
    rw [List.length_map, List.length_map, g1.length_eq, hal, sizeLine_eq]
    omega
  have hv := vals_L (out.toList.map (fun v => (adr v, TS.intsOf s.heap v)))
  rw [oL] at hv
  refine wpAny_pure ⟨_, rfl, .ref h'.objs.size, _, I1.laid (t' := tk) (o := .lst ((out.toList.map (fun v => (adr v, TS.intsOf s.heap v))).map fun q => V.ref q.1)) (fun b u e => ?_) (Nat.le_refl _)
    ⟨hlen2, out.toList, e', hv, by rw [Array.toArray_toList]; exact he'⟩, rfl, q _ _ hp2 ?_ hmemL (I1.hok.fresh (Nat.le_refl _))⟩
  · have hb : b < h'.objs.size := Heap.lt_size e
    rw [PyProof.Rows.sortedHeap_old (Nat.ne_of_lt hb) (by rw [size_push']; exact Nat.lt_succ_of_lt hb)]
    exact Heap.get?_push_of_some _ e
  · rw [List.pairwise_map]
    exact g2
end Pi
namespace Pi
open PySem PySem.Spec PyProof.Rows L2

def keysOf : List D → Option (List Key)
  | [] => some []
  | d :: ds => d.key.bind fun k => (keysOf ds).map fun l => k :: l
def tkey : D → Option (List Key)
  | .tup ds => keysOf ds
  | _ => none
def getT (k : List Key) : List (List Key × D) → Option D
  | [] => none
  | (j, x) :: r => match decide (j = k) with
    | true => some x
    | false => getT k r
def hasT (k : List Key) : List (List Key × D) → Bool
  | [] => false
  | (j, _) :: r => match decide (j = k) with
    | true => true
    | false => hasT k r
def repT (k : List Key) (y : D) : List (List Key × D) → List (List Key × D)
  | [] => []
  | (j, x) :: r => match decide (j = k) with
    | true => (j, y) :: repT k y r
    | false => (j, x) :: repT k y r
def putT (kvs : List (List Key × D)) (k : List Key) (y : D) : List (List Key × D) := match hasT k kvs with
  | true => repT k y kvs
  | false => kvs ++ [(k, y)]
section
variable {K : PySem.W.Frag} {F : Hp} {al : List Addr}
theorem keys_rep : ∀ {ds : List D} {vs : List V} {ks : List Key}, RepAll K F al vs ds → keysOf ds = some ks → vs = ks.map kV
  | [], _, ks, .nil, e => by
    have e' : ([] : List Key) = ks := Option.some.inj e
    subst e'
    rfl
  | d :: ds, _, ks, .cons r t, e => by
    have e1 : d.key.bind (fun k => (keysOf ds).map fun l => k :: l) = some ks := e
    obtain ⟨j, hj, e2⟩ := Option.bind_eq_some_iff.mp e1
    obtain ⟨l, hl, e3⟩ := Option.map_eq_some_iff.mp e2
    subst e3
    rw [key_rep r hj, keys_rep t hl]
    rfl
theorem tkey_rep {v : V} {x : D} {k : List Key} (r : Rep K F al v x) (e : tkey x = some k) : ∃ b, v = .ref b ∧ F b = some (.tup (k.map kV)) := by
  cases x with
  | tup ds =>
    obtain ⟨b, vs, rfl, h1, h2⟩ := rep_tupP r
    rw [keys_rep h2 e] at h1
    exact ⟨b, rfl, h1⟩
  | _ => cases e
theorem kvt_len : ∀ {vs : List (List Key × V)} {ds : List (List Key × D)}, KvT K F al vs ds → vs.length = ds.length
  | _, _, .nil => rfl
  | _, _, .cons _ t => congrArg (· + 1) (kvt_len t)
theorem kvt_get {k : List Key} {x : D} : ∀ {vs : List (List Key × V)} {ds : List (List Key × D)}, KvT K F al vs ds → getT k ds = some x → ∃ v, valV vs k = some v ∧ Rep K F al v x
  | _, _, .nil, e => by cases e
  | (j', v) :: vs, (j, d) :: ds, .cons r t, e => by
    unfold getT at e
    have ej : j' = j := r.1
    by_cases h : j = k
    · rw [decide_eq_true h] at e
      have e' : d = x := Option.some.inj e
      subst e'
      exact ⟨v, valV_pos (ej.trans h), r.2⟩
    · rw [decide_eq_false h] at e
      obtain ⟨u, h1, h2⟩ := kvt_get t e
      exact ⟨u, by rw [valV_neg (fun z => h (ej.symm.trans z))]; exact h1, h2⟩
theorem kvt_has {k : List Key} : ∀ {vs : List (List Key × V)} {ds : List (List Key × D)}, KvT K F al vs ds → hasT k ds = vs.any fun kv => decide (kv.1 = k)
  | _, _, .nil => rfl
  | (j', v) :: vs, (j, d) :: ds, .cons r t => by
    have ej : j' = j := r.1
    subst ej
    unfold hasT
    rw [List.any_cons]
    by_cases h : j' = k
    · simp [h]
    · simp only [decide_eq_false h, Bool.false_or]
      exact kvt_has t
theorem kvt_rep {k : List Key} {v : V} {y : D} (q : Rep K F al v y) : ∀ {vs : List (List Key × V)} {ds : List (List Key × D)}, KvT K F al vs ds → KvT K F al (vs.map fun kv => if kv.1 = k then (kv.1, v) else kv) (repT k y ds)
  | _, _, .nil => .nil
  | (j', u) :: vs, (j, d) :: ds, .cons r t => by
    have ej : j' = j := r.1
    subst ej
    unfold repT
    rw [List.map_cons]
    by_cases h : j' = k
    · simp only [decide_eq_true h, if_pos h]
      exact .cons ⟨rfl, q⟩ (kvt_rep q t)
    · simp only [decide_eq_false h, if_neg h]
      exact .cons r (kvt_rep q t)
theorem paired_app {a b : Type} {R : a → b → Prop} : ∀ {l l2 : List a} {m m2 : List b}, Paired R l m → Paired R l2 m2 → Paired R (l ++ l2) (m ++ m2)
  | _, _, _, _, .nil, s => s
  | _, _, _, _, .cons r t, s => .cons r (paired_app t s)
theorem kvt_put {k : List Key} {v : V} {y : D} {vs : List (List Key × V)} {ds : List (List Key × D)} (r : KvT K F al vs ds) (q : Rep K F al v y) : KvT K F al (putK vs k v) (putT ds k y) := by
  unfold putK putT
  rw [← kvt_has r]
  cases hasT k ds with
  | true => exact kvt_rep q r
  | false => exact paired_app r (.cons ⟨rfl, q⟩ .nil)
theorem kvt_keys : ∀ {vs : List (List Key × V)} {ds : List (List Key × D)}, KvT K F al vs ds → vs.map (·.1) = ds.map (·.1)
  | _, _, .nil => rfl
  | _, _, .cons r t => by
    rw [List.map_cons, List.map_cons, r.1, kvt_keys t]
end

def dtAt {c : Type} (i : Nat) (r : Env) (k : List (List Key × D) → Mo c) : Mo c := match r[i]? with
  | some (some (.odT kvs)) => k kvs
  | _ => Mo.bad
theorem dtAt_or (i : Nat) (r : Env) : (∃ kvs, r[i]? = some (some (.odT kvs)) ∧ ∀ {c : Type} (k : List (List Key × D) → Mo c), dtAt i r k = k kvs) ∨ ∀ {c : Type} (k : List (List Key × D) → Mo c), dtAt i r k = Mo.bad := by
  unfold dtAt
  cases e : r[i]? with
  | none => exact .inr fun k => rfl
  | some o =>
    cases o with
    | none => exact .inr fun k => rfl
    | some sv =>
      cases sv with
      | odT xs => exact .inl ⟨xs, rfl, fun k => rfl⟩
      | d y => exact .inr fun k => rfl
      | own y => exact .inr fun k => rfl
def sDct (i : Nat) : Stm := fun r => pure (.nx (r.set i (some (.odT []))))
def sPutT (i : Nat) (f g : Env → Mo D) : Stm := fun r => dtAt i r fun kvs => g r >>= fun y => f r >>= fun x => Mo.opt (tkey x) >>= fun k => (match Nat.blt kvs.length 16777216 with
  | true => pure (.nx (r.set i (some (.odT (putT kvs k y)))))
  | false => Mo.bad)
def eGetT (i : Nat) (f : Env → Mo D) : Env → Mo D := fun r => dtAt i r fun kvs => f r >>= fun x => Mo.opt ((tkey x).bind fun k => getT k kvs)
section
variable {G : GX} {X : Cx} {E : XK} {W : WX} {H0 : Hp} {B : Bs} {pos p p1 : Pos} {e k : Expr} {x : Str}
theorem pst_dct {i : Nat} (hN : X.N.Nodup) (hi : X.N[i]? = some x := by rfl) (hx : Loc X.env.scope x := by first | exact Or.inl rfl | exact Or.inr rfl)
    (hs : swapsWith (.Dict [] [] p1) (some (.Name x p)) pos.line X.env = pure false := by rfl) (hf : X.fn x = true ∨ X.env.scope.names.lookup x = some .local := by first | exact .inl rfl | exact .inr rfl) : PSt G X E H0 (.Assign [.Name x p] (.Dict [] [] p1) pos) (sDct i) := by
  intro B r s0 σ T al H D S q
  refine rdS1 (ps_set hN hi hx pe_dnewT hs hf) fun l n => ?_
  have tn := S.wi.free n
  have n0 : H0 l = none := S.ex.free n
  have x1 : Ext T al H T al (upd H l (.dT [])) := Ext.laid0 n
  have S1 := S.step x1 (S.wi.laid n)
  refine q _ (tset T l .own) al _ (S1.tag n0 (by rw [tn]; decide) (by rw [tn]; decide) upd_same ?_)
  refine (S1.sl.retag tn).setO ⟨l, [], rfl, tset_same, n0, upd_same, .nil⟩ fun j y _ hj o hz => ?_
  obtain ⟨ht, _⟩ := own_at S1.sl hj o hz
  rw [tn] at ht
  cases ht
/-- the dict of slot i is written -/
theorem SI.ownT {r : Env} {σ : L2.St} {st : St} {T : Tg} {al : List Addr} {H : Hp} {i : Nat} {xs ys : List (List Key × D)} {l : Addr} {vs us : List (List Key × V)} (S : SI G X H0 B r σ st T al H) (hi : r[i]? = some (some (.odT xs))) (hs : σ[i]? = some (some (.ref l))) (ht : T l = some .own) (h0 : H0 l = none) (hl : H l = some (.dT vs)) (rs : KvT X.K (fz T H) al us ys) :
    SI G X H0 B (r.set i (some (.odT ys))) σ st T al (upd H l (.dT us)) := by
  have nf : T l ≠ some .frz := by rw [ht]; decide
  have nwl : T l ≠ some .wld := by rw [ht]; decide
  have hsame : Same (fz T H) (fz T (upd H l (.dT us))) := fz_upd nf
  have rs' : KvT X.K (fz T (upd H l (.dT us))) al us ys := paired_imp rs fun a b z => ⟨z.1, Rep.mono hsame ⟨[], by simp⟩ z.2⟩
  refine ⟨⟨by rw [List.length_set]; exact S.sl.len, fun j y hj => ?_, fun j k y z u njk hj hk oj ok hu => ?_⟩, S.wi.upd nf nwl hl (fun ps z => by cases z) (fun f z => by cases z), S.ex.upd0 h0, fun a o e => hsame a o (S.fb a o e), S.ab⟩
  · rcases set_get hj with ⟨rfl, e⟩ | ⟨ne, hj⟩
    · have e' : y = .odT ys := Option.some.inj e
      subst e'
      exact ⟨_, hs, l, us, rfl, ht, h0, upd_same, rs'⟩
    · obtain ⟨u, u1, u2⟩ := S.sl.at_ j y hj
      refine ⟨u, u1, ?_⟩
      cases y with
      | d x => exact Rep.mono hsame ⟨[], by simp⟩ u2
      | own zs =>
        obtain ⟨l2, vs2, rfl, ht2, h02, hl2, rs2⟩ := u2
        have nl : l2 ≠ l := fun z => S.sl.ap j i _ _ _ ne hj hi rfl rfl u1 (by rw [z]; exact hs)
        exact ⟨l2, vs2, rfl, ht2, h02, by rw [upd_ne nl]; exact hl2, rs2.mono hsame ⟨[], by simp⟩⟩
      | odT kvs =>
        obtain ⟨l2, vs2, rfl, ht2, h02, hl2, rs2⟩ := u2
        have nl : l2 ≠ l := fun z => S.sl.ap j i _ _ _ ne hj hi rfl rfl u1 (by rw [z]; exact hs)
        exact ⟨l2, vs2, rfl, ht2, h02, by rw [upd_ne nl]; exact hl2, paired_imp rs2 fun a b z => ⟨z.1, Rep.mono hsame ⟨[], by simp⟩ z.2⟩⟩
  · rcases set_get hj with ⟨rfl, e⟩ | ⟨ne, hj⟩
    · have e' : y = .odT ys := Option.some.inj e
      subst e'
      rcases set_get hk with ⟨z1, _⟩ | ⟨ne2, hk⟩
      · exact absurd z1.symm njk
      · exact S.sl.ap j k _ _ u njk hi hk rfl ok hu
    · rcases set_get hk with ⟨e1, e⟩ | ⟨ne2, hk⟩
      · rw [e1] at njk ⊢
        exact S.sl.ap j i _ _ u njk hj hi oj rfl hu
      · exact S.sl.ap j k _ _ u njk hj hk oj ok hu
theorem pst_putT {i : Nat} {f g : Env → Mo D} (hu : X.A.units + 1 < cLine) (hk : PD G X (wE E) H0 k f) (he : PD G X (wE E) H0 e g) (hN : X.N[i]? = some x := by rfl) (hv : Vis X.env.scope x := by first | exact Or.inl rfl | exact Or.inr (Or.inl rfl) | exact Or.inr (Or.inr rfl)) (hd : (x == ("__debug__" : Str)) = false := by decide)
    (hcd : (x == ("__classdict__" : Str)) = false := by decide) (hs : swapsWith e (some (.Subscript (.Name x p1) k p)) pos.line X.env = pure false := by rfl) : PSt G X E H0 (.Assign [.Subscript (.Name x p1) k p] e pos) (sPutT i f g) := by
  intro B r s0 σ T al H D S q
  refine rdS1 (ps_dput hu (pe_var (pos := p1) hN hv hd hcd) pe_rd pe_rd hs) ?_
  unfold sPutT at q
  rcases dtAt_or i r with ⟨kvs, hi, ek⟩ | ek
  · rw [ek] at q
    obtain ⟨v, hσ, l, vs, rfl, ht, h0, hl, rs⟩ := S.sl.at_ i _ hi
    refine he r s0 σ T al H _ S.sl S.wi (seqS S q fun y st1 u T1 al1 H1 x1 S1 r1 q1 => ⟨_, hσ, ?_⟩)
    refine hk r st1 σ T1 al1 H1 _ S1.sl S1.wi (seqS S1 q1 fun z st2 w T2 al2 H2 x2 S2 r2 q2 => ?_)
    have x12 := x1.trans x2
    have hl1 : H2 l = some (.dT vs) := x12.hp l _ hl (by rw [ht]; decide)
    have ht1 : T2 l = some .own := (x12.tg l _ hl).trans ht
    have rs1 : KvT X.K (fz T2 H2) al2 vs kvs := paired_imp rs fun a b z => ⟨z.1, z.2.ext x12⟩
    rcases opt_bind (tkey z) (fun k => (match Nat.blt kvs.length 16777216 with
      | true => pure (Fl.nx (r.set i (some (.odT (putT kvs k y)))))
      | false => Mo.bad : Mo Fl)) st2 with ⟨key, e1, e2⟩ | e2
    · rw [e2] at q2
      obtain ⟨b, rfl, hb⟩ := tkey_rep r2 e1
      cases eb : Nat.blt kvs.length 16777216 with
      | false => simp only [eb] at q2; exact q2.elim
      | true =>
        simp only [eb] at q2
        have hlt : kvs.length < 16777216 := Nat.blt_eq ▸ eb
        refine ⟨l, _, rfl, DPut.t hl1 (fz_some hb).2 (by rw [kvt_len rs1, line_is]; exact hlt), ?_⟩
        exact q2 σ T2 al2 _ (S2.ownT hi hσ ht1 h0 hl1 (kvt_put rs1 (r1.ext x2)))
    · rw [e2] at q2
      exact q2.elim
  · rw [ek] at q
    exact q.elim
theorem pd_getT {i : Nat} {f : Env → Mo D} (hu : X.A.units + 1 < cLine) (hk : PD G X W H0 k f) (hN : X.N[i]? = some x := by rfl) (hv : Vis X.env.scope x := by first | exact Or.inl rfl | exact Or.inr (Or.inl rfl) | exact Or.inr (Or.inr rfl)) (hd : (x == ("__debug__" : Str)) = false := by decide)
    (hcd : (x == ("__classdict__" : Str)) = false := by decide) (hs : NoSl k := by intro o i; rfl) : PD G X W H0 (.Subscript (.Name x p1) k pos) (eGetT i f) := by
  intro r st σ T al H Q S w q
  refine rdE (pe_dget hu (pe_var (pos := p1) hN hv hd hcd) pe_rd hs) ?_
  unfold eGetT at q
  rcases dtAt_or i r with ⟨kvs, hi, ek⟩ | ek
  · rw [ek] at q
    obtain ⟨v, hσ, l, vs, rfl, ht, h0, hl, rs⟩ := S.at_ i _ hi
    refine ⟨_, hσ, hk r st σ T al H _ S w (seqP back_D q fun z st1 u T1 al1 H1 _ x1 w1 r1 q1 => ?_)⟩
    have hl1 : H1 l = some (.dT vs) := x1.hp l _ hl (by rw [ht]; decide)
    have rs1 : KvT X.K (fz T1 H1) al1 vs kvs := paired_imp rs fun a b z => ⟨z.1, z.2.ext x1⟩
    refine optP q1 fun y hy q2 => ?_
    obtain ⟨key, e1, e2⟩ := Option.bind_eq_some_iff.mp hy
    obtain ⟨b, rfl, hb⟩ := tkey_rep r1 e1
    obtain ⟨t, h3, h4⟩ := kvt_get rs1 e2
    exact ⟨l, t, rfl, by rw [← h3]; exact DGet.t hl1 (fz_some hb).2, q2 t T1 al1 H1 .refl w1 h4⟩
  · rw [ek] at q
    exact q.elim
end
end Pi
namespace Pi
open PySem PySem.Spec PyProof.Rows L2

def insK (k : List Int) : List (List Int) → List (List Int)
  | [] => [k]
  | j :: r => match decide (TS.code 1024 k ≤ TS.code 1024 j) with
    | true => k :: j :: r
    | false => j :: insK k r
def sortK : List (List Int) → List (List Int)
  | [] => []
  | k :: r => insK k (sortK r)
theorem insK_perm (k : List Int) : ∀ l, (insK k l).Perm (k :: l)
  | [] => .refl _
  | j :: r => by
    unfold insK
    cases decide (TS.code 1024 k ≤ TS.code 1024 j) with
    | true => exact .refl _
    | false => exact ((insK_perm k r).cons j).trans (.swap k j r)
theorem sortK_perm : ∀ l, (sortK l).Perm l
  | [] => .refl _
  | k :: r => (insK_perm k (sortK r)).trans ((sortK_perm r).cons k)
theorem insK_up (k : List Int) : ∀ l : List (List Int), l.Pairwise (fun a b => TS.code 1024 a ≤ TS.code 1024 b) → (insK k l).Pairwise (fun a b => TS.code 1024 a ≤ TS.code 1024 b)
  | [], _ => List.pairwise_singleton _ _
  | j :: r, h => by
    obtain ⟨h1, h2⟩ := List.pairwise_cons.mp h
    unfold insK
    by_cases e : TS.code 1024 k ≤ TS.code 1024 j
    · rw [decide_eq_true e]
      refine List.pairwise_cons.mpr ⟨fun b hb => ?_, h⟩
      rcases List.mem_cons.mp hb with z | z
      · rw [z]
        exact e
      · exact Int.le_trans e (h1 b z)
    · rw [decide_eq_false e]
      refine List.pairwise_cons.mpr ⟨fun b hb => ?_, insK_up k r h2⟩
      rcases List.mem_cons.mp ((insK_perm k r).mem_iff.mp hb) with z | z
      · rw [z]
        omega
      · exact h1 b z
theorem sortK_up : ∀ l, (sortK l).Pairwise (fun a b => TS.code 1024 a ≤ TS.code 1024 b)
  | [] => .nil
  | k :: r => insK_up k _ (sortK_up r)
theorem pow_pos1024 (n : Nat) : (0 : Int) < 1024 ^ n := Int.pow_pos (by decide)
theorem code_bd : ∀ k : List Int, TS.Bd 1024 k → 0 ≤ TS.code 1024 k ∧ TS.code 1024 k < 1024 ^ k.length
  | [], _ => ⟨Int.le_refl _, by show (0 : Int) < 1024 ^ 0; decide⟩
  | d :: r, h => by
    obtain ⟨c0, c1⟩ := code_bd r h.tail
    have hd := h.head
    have z := TS.num1 (P := 1024 ^ r.length) (B := 1024) c0 c1 hd.1 hd.2
    refine ⟨z.1, ?_⟩
    show d * 1024 ^ r.length + TS.code 1024 r < 1024 ^ (r.length + 1)
    rw [Int.pow_succ]
    exact z.2
theorem code_inj : ∀ (k j : List Int), k.length = j.length → TS.Bd 1024 k → TS.Bd 1024 j → TS.code 1024 k = TS.code 1024 j → k = j
  | [], [], _, _, _, _ => rfl
  | [], _ :: _, hl, _, _, _ => by cases hl
  | _ :: _, [], hl, _, _, _ => by cases hl
  | d :: r, e :: s, hl, hk, hj, h => by
    have hl' : r.length = s.length := by simpa using hl
    obtain ⟨a0, a1⟩ := code_bd r hk.tail
    obtain ⟨b0, b1⟩ := code_bd s hj.tail
    have h' : d * 1024 ^ r.length + TS.code 1024 r = e * 1024 ^ s.length + TS.code 1024 s := h
    rw [← hl'] at h' b1
    have pp := pow_pos1024 r.length
    have de : d = e := by
      rcases Int.lt_trichotomy d e with z | z | z
      · have p1 : (d + 1) * 1024 ^ r.length ≤ e * 1024 ^ r.length := Int.mul_le_mul_of_nonneg_right (by omega) (Int.le_of_lt pp)
        rw [Int.add_mul, Int.one_mul] at p1
        omega
      · exact z
      · have p1 : (e + 1) * 1024 ^ r.length ≤ d * 1024 ^ r.length := Int.mul_le_mul_of_nonneg_right (by omega) (Int.le_of_lt pp)
        rw [Int.add_mul, Int.one_mul] at p1
        omega
    subst de
    rw [code_inj r s hl' hk.tail hj.tail (by omega)]
theorem sortK_one {d : Nat} {ns ms : List (List Int)} (hb : ∀ k ∈ ns, k.length = d ∧ TS.Bd 1024 k) (p : ms.Perm ns) (u : ms.Pairwise (fun a b => TS.code 1024 a ≤ TS.code 1024 b)) : ms = sortK ns :=
  List.Perm.eq_of_pairwise (le := fun a b => TS.code 1024 a ≤ TS.code 1024 b) (fun a b ha hb' h1 h2 => by
    obtain ⟨l1, b1⟩ := hb a (p.mem_iff.mp ha)
    obtain ⟨l2, b2⟩ := hb b ((sortK_perm ns).mem_iff.mp hb')
    exact code_inj a b (l1.trans l2.symm) b1 b2 (Int.le_antisymm h1 h2)) u (sortK_up ns) (p.trans (sortK_perm ns).symm)

def intK : List Key → Option (List Int)
  | [] => some []
  | .inl i :: r => (intK r).map fun l => i :: l
  | _ => none
def intKs : List (List Key × D) → Option (List (List Int))
  | [] => some []
  | (k, _) :: r => (intK k).bind fun j => (intKs r).map fun l => j :: l
def okK (d : Nat) (ns : List (List Int)) : Bool := ns.all fun k => Nat.beq k.length d && k.all fun m => decide (0 ≤ m) && decide (m < 1024)
def sortT (d : Nat) (kvs : List (List Key × D)) : Option (List D) := (intKs kvs).bind fun ns => match Nat.blt 0 d && (Nat.blt ns.length 64 && okK d ns) with
  | true => some ((sortK ns).map fun k => D.tup (k.map D.int))
  | false => none
/-- sorted(slot i), the keys tuples of as many whole numbers as the first one -/
def nSortT (i : Nat) : Env → Mo (List D) := fun r => dtAt i r fun kvs => Mo.opt (match kvs with
  | [] => some []
  | (k, _) :: _ => sortT k.length kvs)
theorem intK_ok : ∀ {k : List Key} {j : List Int}, intK k = some j → k = j.map Sum.inl
  | [], j, e => by
    have e' : ([] : List Int) = j := Option.some.inj e
    subst e'
    rfl
  | .inl i :: r, j, e => by
    have e1 : (intK r).map (fun l => i :: l) = some j := e
    obtain ⟨l, h1, h2⟩ := Option.map_eq_some_iff.mp e1
    subst h2
    rw [intK_ok h1]
    rfl
  | .inr _ :: _, _, e => by cases e
theorem intKs_ok : ∀ {kvs : List (List Key × D)} {ns : List (List Int)}, intKs kvs = some ns → kvs.map (·.1) = ns.map (fun k => k.map Sum.inl)
  | [], ns, e => by
    have e' : ([] : List (List Int)) = ns := Option.some.inj e
    subst e'
    rfl
  | (k, x) :: r, ns, e => by
    have e1 : (intK k).bind (fun j => (intKs r).map fun l => j :: l) = some ns := e
    obtain ⟨j, h1, h2⟩ := Option.bind_eq_some_iff.mp e1
    obtain ⟨l, h3, h4⟩ := Option.map_eq_some_iff.mp h2
    subst h4
    rw [List.map_cons, List.map_cons, intKs_ok h3]
    show k :: _ = _
    rw [intK_ok h1]
theorem okK_ok {d : Nat} {ns : List (List Int)} (h : okK d ns = true) : ∀ k ∈ ns, k.length = d ∧ TS.Bd 1024 k := fun k hk => by
  unfold okK at h
  obtain ⟨h1, h2⟩ := Bool.and_eq_true_iff.mp (List.all_eq_true.mp h k hk)
  refine ⟨Nat.eq_of_beq_eq_true h1, fun m hm => ?_⟩
  have z := List.all_eq_true.mp h2 m hm
  simp only [Bool.and_eq_true, decide_eq_true_eq] at z
  exact z
/-- tuples come to stand still -/
theorem still_all {K : PySem.W.Frag} {TB : List (Addr × Str)} {al : List Addr} {st : St} {H : Hp} : ∀ (L : List (Addr × List Int)) {T : Tg}, WI K TB T al st H → (∀ q ∈ L, H q.1 = some (.tup (q.2.map V.int))) →
    ∃ T', Ext T al H T' al H ∧ WI K TB T' al st H ∧ RepAll K (fz T' H) al (L.map fun q => V.ref q.1) (L.map fun q => D.tup (q.2.map D.int))
  | [], T, w, _ => ⟨T, .refl, w, .nil⟩
  | (b, k) :: L, T, w, h => by
    have hb : H b = some (.tup (k.map V.int)) := h (b, k) List.mem_cons_self
    have hT : ∃ T1, Ext T al H T1 al H ∧ WI K TB T1 al st H ∧ T1 b = some .frz := by
      by_cases hf : T b = some .frz
      · exact ⟨T, .refl, w, hf⟩
      · have hw : T b ≠ some .wld := fun z => by
          obtain ⟨n, hn⟩ := w.wldo b z
          have hl : n < st.length := by
            rw [← w.len]
            exact (List.getElem?_eq_some_iff.mp hn).1
          obtain ⟨_, q⟩ := w.cell n b _ hn (List.getElem?_eq_getElem hl)
          cases em : st[n] with
          | dk kvs =>
            rw [em] at q
            obtain ⟨vs, e3, _⟩ := q
            rw [hb] at e3
            cases e3
        exact ⟨tset T b .frz, Ext.still hb, w.tag hf hw hb, tset_same⟩
    obtain ⟨T1, x1, w1, f1⟩ := hT
    obtain ⟨T2, x2, w2, r2⟩ := still_all L w1 fun q hq => h q (List.mem_cons_of_mem _ hq)
    refine ⟨T2, x1.trans x2, w2, .cons ?_ r2⟩
    have f2 : T2 b = some .frz := x2.isF hb f1
    have rr : ∀ k : List Int, RepAll K (fz T2 H) al (k.map V.int) (k.map D.int) := fun k => by
      induction k with
      | nil => exact .nil
      | cons i k ih => exact .cons (.int i) ih
    exact .tup (fz_of f2 hb) (rr k)
section
variable {G : GX} {X : Cx} {W : WX} {H0 : Hp} {pos p p1 : Pos} {x : Str}
theorem pn_sortT {i : Nat} (hc : X.calm = true) (hg : Gl X "sorted") (hm : X.mg "sorted" = none) (hN : X.N[i]? = some x := by rfl) (hv : Vis X.env.scope x := by first | exact Or.inl rfl | exact Or.inr (Or.inl rfl) | exact Or.inr (Or.inr rfl)) (hd : (x == ("__debug__" : Str)) = false := by decide)
    (hcd : (x == ("__classdict__" : Str)) = false := by decide) (he : starEach [.Name x p1] X.env = (false, eval (.Name x p1) X.env) :: starEach [] X.env := by rfl) (hpl : (backTo pos (starEach [] X.env)).any (·.1) = false := by rfl)
    (he0 : starEach [] X.env = [] := by rfl) : PN G X W H0 (.Call (.Name "sorted" p) [.Name x p1] [] pos) (nSortT i) := by
  intro r st σ T al H Q S w q
  have hc0 : CallR X (.builtin "sorted") (fun xs H Q => rSortDT xs H Q ∨ ∃ a, xs = [V.ref a] ∧ H a = some (.dT []) ∧ ∀ p, H p = none → Q (.ref p) (upd H p (.lst []))) := by
    refine (call_sortDT hc).or fun pins s σ H xs us Q I rr h => ?_
    obtain ⟨a, rfl, ha, q⟩ := h
    exact call_sortDT hc pins s σ H _ us Q I rr ⟨a, [], [], 1, 1024, rfl, ha, rfl, Nat.le_refl _, (fun k hk => by cases hk), (by decide), fun L p hp _ _ hn => by
      have e : L = [] := by
        have h1 := hp.length_eq
        cases L with
        | nil => rfl
        | cons a L => simp at h1
      rw [e]
      exact q p hn⟩
  refine rdE (pe_callB hc0 hg hm PyProof.Rows.Boot.«sorted» (pa_cons (pe_var (pos := p1) hN hv hd hcd) pa_nil he) (by decide) (by decide) he hpl) ?_
  unfold nSortT at q
  rcases dtAt_or i r with ⟨kvs, hi, ek⟩ | ek
  · rw [ek] at q
    obtain ⟨v, hσ, l, vs, rfl, ht, h0, hl, rs⟩ := S.at_ i _ hi
    refine ⟨_, hσ, ?_⟩
    refine optP q fun ds hds q2 => ?_
    cases kvs with
    | nil =>
      have e : ([] : List D) = ds := Option.some.inj hds
      subst e
      cases rs
      exact .inr ⟨l, rfl, hl, fun p n => q2 (.ref p) T al _ (Ext.laid0 n) (w.laid n) ⟨p, [], rfl, n, w.free n, upd_same, .nil⟩⟩
    | cons kv r' =>
      have hds' : (intKs (kv :: r')).bind (fun ns => match Nat.blt 0 kv.1.length && (Nat.blt ns.length 64 && okK kv.1.length ns) with
        | true => some ((sortK ns).map fun k => D.tup (k.map D.int))
        | false => none) = some ds := hds
      obtain ⟨ns, h1, h2⟩ := Option.bind_eq_some_iff.mp hds'
      cases ec : Nat.blt 0 kv.1.length && (Nat.blt ns.length 64 && okK kv.1.length ns) with
      | false => rw [ec] at h2; cases h2
      | true =>
        rw [ec] at h2
        have e := Option.some.inj h2
        obtain ⟨c1, c⟩ := Bool.and_eq_true_iff.mp ec
        obtain ⟨c2, c3⟩ := Bool.and_eq_true_iff.mp c
        have hb := okK_ok c3
        refine .inl ⟨l, vs, ns, kv.1.length, 1024, rfl, hl, by rw [kvt_keys rs]; exact intKs_ok h1, (by have z : 0 < kv.1.length := Nat.blt_eq ▸ c1; omega), hb, Nat.blt_eq ▸ c2, fun L p pm pw hL n => ?_⟩
        have eL : L.map (·.2) = sortK ns := sortK_one hb pm (by rw [List.pairwise_map]; exact pw)
        obtain ⟨T', x', w', r'⟩ := still_all L w hL
        have ed : ds = L.map fun q => D.tup (q.2.map D.int) := by
          rw [← e, ← eL, List.map_map]
          rfl
        subst ed
        exact q2 (.ref p) T' al _ (x'.trans (Ext.laid0 n)) (w'.laid n) ⟨p, _, rfl, n, w'.free n, upd_same, RepAll.ext r' (Ext.laid0 n)⟩
  · rw [ek] at q
    exact q.elim
end
end Pi
namespace Pi
open PySem PySem.Spec PyProof.Rows L2

def maxI (y : Int) : List Int → Int
  | [] => y
  | z :: r => maxI (match decide (y < z) with
    | true => z
    | false => y) r
def minI (y : Int) : List Int → Int
  | [] => y
  | z :: r => minI (match decide (z < y) with
    | true => z
    | false => y) r
theorem maxI_of : ∀ (xs : List Int) (y : Int), PySem.W.maxOf y xs = maxI y xs
  | [], _ => rfl
  | z :: r, y => by
    show PySem.W.maxOf (if PySem.W.DatumOrd.lt y z = true then z else y) r = _
    rw [maxI_of r]
    unfold maxI
    have e : PySem.W.DatumOrd.lt y z = decide (y < z) := rfl
    rw [e]
    cases decide (y < z) <;> simp
    all_goals cases r <;> rfl
theorem maxI_mem : ∀ (xs : List Int) (y : Int), maxI y xs ∈ y :: xs ∧ ∀ z ∈ y :: xs, z ≤ maxI y xs
  | [], y => ⟨by simp [maxI], fun z hz => by
    have : z = y := by simpa using hz
    rw [this]
    exact Int.le_refl _⟩
  | x :: r, y => by
    unfold maxI
    by_cases h : y < x
    · rw [decide_eq_true h]
      show maxI x r ∈ y :: x :: r ∧ ∀ z ∈ y :: x :: r, z ≤ maxI x r
      obtain ⟨h1, h2⟩ := maxI_mem r x
      refine ⟨List.mem_cons_of_mem _ h1, fun z hz => ?_⟩
      rcases List.mem_cons.mp hz with e | hz
      · have := h2 x List.mem_cons_self
        omega
      · exact h2 z hz
    · rw [decide_eq_false h]
      show maxI y r ∈ y :: x :: r ∧ ∀ z ∈ y :: x :: r, z ≤ maxI y r
      obtain ⟨h1, h2⟩ := maxI_mem r y
      refine ⟨?_, fun z hz => ?_⟩
      · rcases List.mem_cons.mp h1 with e | e
        · rw [e]
          exact List.mem_cons_self
        · exact List.mem_cons_of_mem _ (List.mem_cons_of_mem _ e)
      · have hy := h2 y List.mem_cons_self
        rcases List.mem_cons.mp hz with e | hz
        · omega
        · rcases List.mem_cons.mp hz with e | hz
          · omega
          · exact h2 z (List.mem_cons_of_mem _ hz)
theorem minI_mem : ∀ (xs : List Int) (y : Int), minI y xs ∈ y :: xs ∧ ∀ z ∈ y :: xs, minI y xs ≤ z
  | [], y => ⟨by simp [minI], fun z hz => by
    have : z = y := by simpa using hz
    rw [this]
    exact Int.le_refl _⟩
  | x :: r, y => by
    unfold minI
    by_cases h : x < y
    · rw [decide_eq_true h]
      show minI x r ∈ y :: x :: r ∧ ∀ z ∈ y :: x :: r, minI x r ≤ z
      obtain ⟨h1, h2⟩ := minI_mem r x
      refine ⟨List.mem_cons_of_mem _ h1, fun z hz => ?_⟩
      rcases List.mem_cons.mp hz with e | hz
      · have := h2 x List.mem_cons_self
        omega
      · exact h2 z hz
    · rw [decide_eq_false h]
      show minI y r ∈ y :: x :: r ∧ ∀ z ∈ y :: x :: r, minI y r ≤ z
      obtain ⟨h1, h2⟩ := minI_mem r y
      refine ⟨?_, fun z hz => ?_⟩
      · rcases List.mem_cons.mp h1 with e | e
        · rw [e]
          exact List.mem_cons_self
        · exact List.mem_cons_of_mem _ (List.mem_cons_of_mem _ e)
      · have hy := h2 y List.mem_cons_self
        rcases List.mem_cons.mp hz with e | hz
        · omega
        · rcases List.mem_cons.mp hz with e | hz
          · omega
          · exact h2 z (List.mem_cons_of_mem _ hz)
def oMaxL : List D → Option D
  | [x] => (x.lstOf.bind intsOf).bind fun ns => match ns with
    | [] => none
    | y :: ys => some (.int (maxI y ys))
  | _ => none
def oMinL : List D → Option D
  | [x] => (x.lstOf.bind intsOf).bind fun ns => match ns with
    | [] => none
    | y :: ys => some (.int (minI y ys))
  | _ => none
section
variable {G : GX} {X : Cx} {W : WX} {H0 : Hp} {e d : Expr} {p pos kp : Pos}
theorem cal_maxL : CalR G X (rMax X.K) oMaxL := by
  intro ds z hz st T al H vs Q w r q
  match ds, hz, r with
  | [x], hz, r =>
    obtain ⟨v, rfl, rx⟩ := paired1 r
    obtain ⟨ns, hn, ez⟩ := Option.bind_eq_some_iff.mp (show (x.lstOf.bind intsOf).bind _ = some z from hz)
    obtain ⟨a, rfl, h1⟩ := lst_ints rx hn
    cases ns with
    | nil => cases ez
    | cons y ys =>
      have ez' := Option.some.inj ez
      subst ez'
      refine ⟨a, y :: ys, rfl, h1, by simp, fun m hm hu => ?_⟩
      obtain ⟨g1, g2⟩ := maxI_mem ys y
      have em : m = maxI y ys := Int.le_antisymm (g2 m hm) (hu _ g1)
      rw [em]
      exact q _ T al H .refl w (.int _)
theorem cal_minL : CalR G X (rMin X.K) oMinL := by
  intro ds z hz st T al H vs Q w r q
  match ds, hz, r with
  | [x], hz, r =>
    obtain ⟨v, rfl, rx⟩ := paired1 r
    obtain ⟨ns, hn, ez⟩ := Option.bind_eq_some_iff.mp (show (x.lstOf.bind intsOf).bind _ = some z from hz)
    obtain ⟨a, rfl, h1⟩ := lst_ints rx hn
    cases ns with
    | nil => cases ez
    | cons y ys =>
      have ez' := Option.some.inj ez
      subst ez'
      refine ⟨a, y :: ys, rfl, h1, by simp, fun m hm hu => ?_⟩
      obtain ⟨g1, g2⟩ := minI_mem ys y
      have em : m = minI y ys := Int.le_antisymm (hu _ g1) (g2 m hm)
      rw [em]
      exact q _ T al H .refl w (.int _)
/-- max(xs, default=d) -/
def maxDef (ns : List Int) (d : Int) : Int := match ns with
  | [] => d
  | y :: ys => maxI y ys
def eMaxD (f g : Env → Mo D) : Env → Mo D := fun r => f r >>= fun x => g r >>= fun y => match y with
  | .int d => Mo.opt ((x.lstOf.bind intsOf).map fun ns => D.int (maxDef ns d))
  | _ => Mo.bad
def rMaxD (K : PySem.W.Frag) : List V → List V → Hp → VK → Prop := fun vs zs H Q => ∃ (a : Addr) (ns : List Int) (d : Int), vs = [V.ref a] ∧ zs = [V.int d] ∧ SqL K H a (ns.map V.int) ∧ Q (.int (maxDef ns d)) H
theorem reads_ints {h : Heap} : ∀ {us : List Value} {ns : List Int}, IntsAre us ns → ∃ as, ReadsAll h us (ns.map PySem.W.Datum.toD) as
  | _, _, .nil => ⟨_, .nil⟩
  | _, _, .cons n t r => by
    obtain ⟨as, z⟩ := reads_ints r
    exact ⟨_, .cons (Reads.int n t) z⟩
theorem call_maxD (hc : X.calm = true) (hu : X.A.units + 200 < cLine) : CallRK X (.builtin "max") [Str.ofString "default"] (rMaxD X.K) := by
  intro pins s σ H xs zs us ws Q I r1 r2 h
  obtain ⟨a, ns, d, rfl, rfl, hs, q⟩ := h
  obtain ⟨u, rfl, ru⟩ := r1.one
  obtain ⟨w, rfl, rw'⟩ := r2.one
  cases ru
  obtain ⟨t, rfl⟩ := rw'
  obtain ⟨its, rv, hl, hz⟩ := I.list hs
  have ia := intsAre_of rv
  refine PySem.W.max_list_datum_default (α := Int) (I.ok.hd hc) hl.isList (reads_ints (by simpa using ia)) (by show X.A.units + 1 + PySem.W.Datum.depth Int < cLine; have := (show PySem.W.Datum.depth Int ≤ 10 by decide); omega) (fun e h' tk hk => ?_) fun y ys i v h' tk e hi hv hk => ?_
  · refine ⟨.int d, H, I.kept hk, ⟨t, rfl⟩, ?_⟩
    rw [e] at q
    exact q
  · obtain ⟨as, rd⟩ := hv
    have ev : ∃ t', v = .int (PySem.W.maxOf y ys) t' := by
      cases rd
      exact ⟨_, rfl⟩
    obtain ⟨t', rfl⟩ := ev
    refine ⟨.int (PySem.W.maxOf y ys), H, I.kept hk, ⟨t', rfl⟩, ?_⟩
    rw [e] at q
    rw [maxI_of]
    exact q
theorem pd_maxD {f g : Env → Mo D} (hc : X.calm = true) (hu : X.A.units + 200 < cLine) (hg : Gl X "max") (hm : X.mg "max" = none) (ha : PH G X W H0 e f) (hb : PD G X W H0 d g)
    (he : backTo pos (starEach (e :: []) X.env) = (false, eval e X.env) :: backTo pos (starEach [] X.env) := by rfl) (hpl : (backTo pos (starEach (e :: []) X.env)).any (·.1) = false := by rfl) (hs : starEach (e :: []) X.env = (false, eval e X.env) :: starEach [] X.env := by rfl)
    (hall : (backToKw pos (keywordEach [⟨some "default", d, kp⟩] X.env)).all (·.1.isSome) = true := by rfl) (hnone : (backToKw pos (keywordEach [⟨some "default", d, kp⟩] X.env)).any (·.1.isNone) = false := by rfl) (hks : (backToKw pos (keywordEach [⟨some "default", d, kp⟩] X.env)).filterMap (·.1) = [Str.ofString "default"] := by rfl) :
    PD G X W H0 (.Call (.Name "max" p) [e] [⟨some "default", d, kp⟩] pos) (eMaxD f g) := by
  intro r st σ T al H Q S w q
  refine rdE (pe_callBK (call_maxD hc hu) hg hm PyProof.Rows.Boot.«max» (pa_cons pe_rd pa_nil hs) (pk_cons pe_rd pk_nil) (by decide) (by decide) he hpl hall hnone hks) ?_
  refine ha r st σ T al H _ S w (seqP back_D q fun x st1 v T1 al1 H1 _ x1 w1 r1 q1 => ?_)
  refine hb r st1 σ T1 al1 H1 _ (S.ext x1) w1 (seqP back_D q1 fun y st2 u T2 al2 H2 _ x2 w2 r2 q2 => ?_)
  cases y with
  | int i =>
    refine optP q2 fun z hz q3 => ?_
    obtain ⟨ns, hn, ez⟩ := Option.map_eq_some_iff.mp hz
    subst ez
    obtain ⟨a, rfl, h1⟩ := lst_ints (RepH.ext r1 x2) hn
    exact ⟨a, ns, i, rfl, by rw [rep_int r2], h1, q3 _ T2 al2 H2 .refl w2 (.int _)⟩
  | _ => exact q2.elim
end
end Pi
namespace Pi
open PySem PySem.Spec PyProof.Rows L2 HT

section
variable {prog : Program} {w : World} {A : Around} {E : Value → Shared → Prop} {s : Shared}
theorem rev_applied {sl : Addr} {n : Nat} {tk : Tok} {Q : Int × Int × Nat → Shared → Prop} (hs : s.heap.IsSliceOf sl .none .none (.int (-1) tk)) (h : Q ((n : Int) - 1, -1, n) s) : wpAny (model prog w) A (Builtin.Slice.sliceApplied (.ref sl) (pure (n : Int))) Q E s := by
  obtain ⟨os, hos, hcs, hds⟩ := id hs
  unfold Builtin.Slice.sliceApplied Builtin.Slice.sliceFields
  refine wpAny_bind (wpAny_bind (wpAny_field hos hds (x := .none) rfl (wpAny_bind (wpAny_field hos hds (x := .none) rfl (wpAny_bind (wpAny_field hos hds (x := .int (-1) tk) rfl (wpAny_pure ?_)))))))
  refine wpAny_bind (slicePart_int ?_)
  show wpAny _ _ (if ((-1 : Int) == 0) = true then _ else _) _ _ s
  rw [if_neg (by decide)]
  refine wpAny_bind (slicePart_none (wpAny_bind (slicePart_none (wpAny_bind (wpAny_pure ?_)))))
  have e : Builtin.Slice.slicePlaces ((n : Int) - 1) (-1) (-1) = n := by
    unfold Builtin.Slice.slicePlaces
    have h1 : ¬ ((-1 : Int) > 0) := by decide
    simp only [h1, if_false]
    split
    · show ((((n : Int) - 1 - -1 - 1) / (- -1)) + 1).toNat = n
      have : (- -1 : Int) = 1 := by decide
      rw [this, Int.ediv_one]
      omega
    · omega
  show wpAny _ _ (pure ((n : Int) - 1, (-1 : Int), Builtin.Slice.slicePlaces ((n : Int) - 1) (-1) (-1))) _ _ s
  rw [e]
  exact wpAny_pure h
end
/-- the items at these places -/
def pickL {b : Type} (xs : List b) (is : List Nat) : List b := is.filterMap fun i => xs[i]?
theorem paired_pick {a b : Type} {R : a → b → Prop} {l : List a} {m : List b} (h : Paired R l m) : ∀ is : List Nat, Paired R (pickL l is) (pickL m is)
  | [] => .nil
  | i :: is => by
    have ih := paired_pick h is
    unfold pickL at ih ⊢
    have key : (l[i]? = none ∧ m[i]? = none) ∨ ∃ x y, l[i]? = some x ∧ m[i]? = some y ∧ R x y := by
      clear ih
      induction h generalizing i with
      | nil => exact .inl ⟨rfl, rfl⟩
      | cons r t ih =>
        cases i with
        | zero => exact .inr ⟨_, _, rfl, rfl, r⟩
        | succ i => simpa using ih i
    rcases key with ⟨e1, e2⟩ | ⟨x, y, e1, e2, r⟩
    · rw [List.filterMap_cons_none e1, List.filterMap_cons_none e2]
      exact ih
    · rw [List.filterMap_cons_some e1, List.filterMap_cons_some e2]
      exact .cons r ih
theorem repall_pick {K : PySem.W.Frag} {F : Hp} {al : List Addr} {vs : List V} {ds : List D} (h : RepAll K F al vs ds) (is : List Nat) : RepAll K F al (pickL vs is) (pickL ds is) := by
  have to : ∀ {vs : List V} {ds : List D}, RepAll K F al vs ds → Paired (Rep K F al) vs ds := by
    intro vs ds
    induction ds generalizing vs with
    | nil => intro h; cases h; exact .nil
    | cons d ds ih => intro h; cases h with | cons r t => exact .cons r (ih t)
  have fro : ∀ {vs : List V} {ds : List D}, Paired (Rep K F al) vs ds → RepAll K F al vs ds := by
    intro vs ds h
    induction h with
    | nil => exact .nil
    | cons r t ih => exact .cons r ih
  exact fro (paired_pick (to h) is)
def revIx (n : Nat) : List Nat := (List.range n).map fun (m : Nat) => (((n : Int) - 1) + (m : Int) * (-1)).toNat
def stepIx (n : Nat) (lo hi : Option Int) (st : Int) : List Nat := sliceRange (sliceBounds lo hi (some st) n).1 (sliceBounds lo hi (some st) n).2.1 (sliceBounds lo hi (some st) n).2.2
theorem pick_len {b : Type} (xs : List b) (is : List Nat) : (pickL xs is).length ≤ is.length := List.length_filterMap_le ..
section
variable {prog : Program} {w : World} {A : Around} {E : Value → Shared → Prop} {s : Shared}
theorem rev_item {t sl : Addr} {its : List Value} {tk : Tok} {Q : Value → Shared → Prop} (ht : IsTup s.heap t its.toArray) (hs : s.heap.IsSliceOf sl .none .none (.int (-1) tk)) (hz : its.length ≤ sizeLine)
    (h : Q (.ref s.heap.objs.size) { s with heap := s.heap.push { cls := .type "tuple", data := .seq (pickL its (revIx its.length)).toArray } }) : wpAny (model prog w) A (getItem (.ref t) (.ref sl)) Q E s := by
  have htake : sizeOk (.seq (pickL its (revIx its.length)).toArray) := by
    show (pickL its (revIx its.length)).toArray.size ≤ sizeLine
    rw [List.size_toArray]
    refine Nat.le_trans (pick_len _ _) ?_
    unfold revIx
    rw [List.length_map, List.length_range]
    exact hz
  obtain ⟨os, hos, hcs, hds⟩ := id hs
  have hTs : s.TypeIs (.ref sl) "slice" := ⟨os, hos, hcs⟩
  unfold getItem
  try with_reducible refine wpAny_holding ?_
  first | refine wpAny_bind (wpAny_pure ?_) | skip
  refine wpAny_bind (wpAny_sequenceKey ht.typeIs (by decide) ?_)
  refine wpAny_bind (wpAny_callSpecial?_slot (name := Str.ofString "__getitem__") ht.typeIs PyProof.Rows.slot_tuple_getitem
    (wpAny_call_entry PyProof.Rows.slot_tuple_getitem ht.typeIs entry_tuple_getitem ?_ (args_tuple_getitem _ _)))
  show wpAny _ _ (Builtin.Tuple.tupleItemsOf (.ref t) >>= _) _ _ s
  refine wpAny_bind (tupleItemsOf_ ht ?_)
  refine wpAny_bind (wpAny_typeOf hTs ?_)
  rw [if_pos (by decide)]
  refine wpAny_bind (rev_applied hs ?_)
  show wpAny _ _ (if (((its.toArray.size : Int) - 1) == 0 && (-1 : Int) == 1 && its.toArray.size == its.toArray.size) = true then _ else _) _ _ s
  rw [if_neg (by intro q; simp at q)]
  have e : ((List.range its.toArray.size).filterMap fun (k : Nat) => its.toArray[(((its.toArray.size : Int) - 1) + (k : Int) * (-1)).toNat]?) = pickL its (revIx its.length) := by
    unfold pickL revIx
    rw [List.filterMap_map, List.size_toArray]
    congr 1
    funext k
    simp
  rw [e]
  first
  | exact wpAny_bind (m := Builtin.Tuple.tupleExact _) (wpAny_newObj_type (wpAny_pure ⟨_, rfl, wpAny_pure h⟩) htake)
  | exact wpAny_bind (m := Builtin.Tuple.tupleExact _) (wpAny_newObj_type (wpAny_bind (wpAny_pure (wpAny_pure ⟨_, rfl, wpAny_pure h⟩))) htake)
  | exact wpAny_bind (wpAny_bind (m := Builtin.Tuple.tupleExact _) (wpAny_newObj_type (wpAny_pure (wpAny_pure ⟨_, rfl, wpAny_pure h⟩)) htake))
  | exact wpAny_bind (wpAny_bind (m := Builtin.Tuple.tupleExact _) (wpAny_newObj_type (wpAny_pure ⟨_, rfl, wpAny_pure h⟩) htake))
end
section
variable {G : GX} {X : Cx} {W : WX} {H0 : Hp} {a e : Expr} {lo hi : Option Expr} {pos p2 : Pos}
/-- t[::e], e = -1 -/
def eRev (f g : Env → Mo D) : Env → Mo D := fun r => f r >>= fun x => g r >>= fun y => match x, y with
  | .tup xs, .int k => (match decide (k = -1) with
    | true => pure (.tup (pickL xs (revIx xs.length)))
    | false => Mo.bad)
  | _, _ => Mo.bad
theorem pd_rev {f g : Env → Mo D} (ha : PD G X W H0 a f) (hb : PD G X W H0 e g) : PD G X W H0 (.Subscript a (.Slice none none (some e) p2) pos) (eRev f g) := by
  intro r st σ T al H Q S w q pins s I
  refine Subscript_ (thn (ha r st σ T al H (fun v H1 => ∃ (x : D) (st1 : St) (T1 : Tg) (al1 : List Addr), SL X.K H0 T1 al1 H1 r σ ∧ WI X.K G.TB T1 al1 st1 H1 ∧ Rep X.K (fz T1 H1) al1 v x ∧ Post G X.K W (RpD X.K) σ T1 al1 H1 Q ((g r >>= fun y => match x, y with
      | .tup xs, .int k => (match decide (k = -1) with
        | true => pure (.tup (pickL xs (revIx xs.length)))
        | false => Mo.bad)
      | _, _ => Mo.bad) st1)) S w (seqP back_D q fun x st1 v T1 al1 H1 _ x1 w1 r1 q1 => ⟨x, st1, T1, al1, S.ext x1, w1, r1, q1⟩) pins s I) fun v s1 ⟨vv, H1, I1, rv, x, st1, T1, al1, S1, w1, r1, q1⟩ => ?_)
  refine wpAny_Slice ?_
  rw [evalPart_none]
  refine wpAny_pure (wpAny_pure ?_)
  refine thn ((po_some (pe_rd (e := e))).run pins s1 σ H1 (fun o H2 => ∃ (a0 : Addr) (ds : List D) (vs : List V) (T2 : Tg) (al2 : List Addr) (st2 : St), o = some (-1) ∧ vv = .ref a0 ∧ H2 a0 = some (.tup vs) ∧ RepAll X.K (fz T2 H2) al2 vs ds ∧ WI X.K G.TB T2 al2 st2 H2 ∧ Post G X.K W (RpD X.K) σ T2 al2 H2 Q (.ok (.tup (pickL ds (revIx ds.length))) st2)) I1 ?_) fun vst s2 ⟨o, H2, I2, po, a0, ds, vs, T2, al2, st2, eo, ea, h2, r2, w2, q2⟩ => ?_
  · refine hb r st1 σ T1 al1 H1 _ S1 w1 (seqP back_D q1 fun y st2 u T2 al2 H2 _ x2 w2 r2 q2 => ?_)
    cases x with
    | tup xs =>
      cases y with
      | int k =>
        have q3 : Post G X.K W (RpD X.K) σ T2 al2 H2 Q ((match decide (k = -1) with
          | true => pure (.tup (pickL xs (revIx xs.length)))
          | false => Mo.bad : Mo D) st2) := q2
        by_cases hk : k = -1
        · rw [decide_eq_true hk] at q3
          obtain ⟨a0, vs, e1, h1, h3⟩ := rep_tupP (Rep.ext r1 x2)
          exact ⟨k, rep_int r2, a0, xs, vs, T2, al2, st2, by rw [hk], e1, (fz_some h1).2, h3, w2, q3⟩
        · rw [decide_eq_false hk] at q3
          exact q3.elim
      | _ => exact q2.elim
    | _ => cases y <;> exact q2.elim
  · subst eo ea
    cases rv
    cases po with
    | int i tk =>
      have I3 : Inv X pins σ H2 { s2 with heap := s2.heap.push { cls := .type "slice", data := .fields #[.none, .none, .int (-1) tk] } } := I2.kept (t' := s2.toks) fun b ob q => Heap.get?_push_of_some _ q
      obtain ⟨its, rits, ht, hz⟩ := I3.tuple (.inl (.inl h2))
      have hl := rits.length
      show wpAny (model X.prog X.w) X.A (subscriptTail a (.Slice none none (some e) p2) (.ref a0) (.ref s2.heap.objs.size)) (EP X pins σ Q) X.xe { s2 with heap := s2.heap.push { cls := .type "slice", data := .fields #[.none, .none, .int (-1) tk] } }
      refine tail_any (ops := [.ref a0, .ref s2.heap.objs.size]) ht.typeIs PyProof.Rows.slot_tuple_getitem.lookup (rev_item ht (Heap.IsSliceOf.new ..) (by omega) ?_) (by with_unfolding_all rfl)
      have n := I3.hok.fresh (Nat.le_refl _)
      have hv : Vals (pickL vs (revIx its.length)) (pickL its (revIx its.length)) := paired_pick rits _
      have hzz : (pickL vs (revIx its.length)).length ≤ sizeLine := by
        refine Nat.le_trans (pick_len _ _) ?_
        unfold revIx
        rw [List.length_map, List.length_range]
        omega
      refine ⟨.ref _, _, I3.laid (t' := s2.toks) (o := .tup (pickL vs (revIx its.length))) (fun b ob q => Heap.get?_push_of_some _ q) (Nat.le_refl _) ⟨hzz, _, hv, IsTup.new _ _⟩, rfl, ?_⟩
      have n' := w2.free n
      refine q2 (.ref _) (tset T2 _ .frz) al2 _ (Ext.laid n .frz) ((w2.laid n).tag (by rw [n']; decide) (by rw [n']; decide) upd_same) ?_
      have eN : its.length = ds.length := by rw [← hl, r2.length]
      rw [eN]
      exact .tup (fz_of tset_same upd_same) (RepAll.ext (repall_pick r2 _) (Ext.laid n .frz))
/-- xs[lo:hi:st] of a list -/
def nStep (f : Env → Mo D) (lo hi : Env → Mo (Option Int)) (g : Env → Mo D) : Env → Mo (List D) := fun r => f r >>= fun x => lo r >>= fun l => hi r >>= fun u => g r >>= fun y => match x, y with
  | .lst xs, .int k => (match decide (k = 0) with
    | true => Mo.bad
    | false => pure (pickL xs (stepIx xs.length l u k)))
  | _, _ => Mo.bad
theorem step_pick (its : List Value) (l u : Option Int) (k : Int) : slicePick its.toArray l u (some k) = (pickL its (stepIx its.length l u k)).toArray := by
  unfold slicePick pickL stepIx
  rw [List.size_toArray]
  congr 1
  congr 1
  funext j
  simp
theorem pn_step {f g : Env → Mo D} {fl fu : Env → Mo (Option Int)} (ha : PH G X W H0 a f) (hl : PPt G X W H0 lo fl) (hu : PPt G X W H0 hi fu) (hb : PD G X W H0 e g) : PN G X W H0 (.Subscript a (.Slice lo hi (some e) p2) pos) (nStep f fl fu g) := by
  intro r st σ T al H Q S w q pins s I
  -- the base
  refine Subscript_ (thn (ha r st σ T al H (fun v H1 => ∃ (x : D) (st1 : St) (T1 : Tg) (al1 : List Addr), SL X.K H0 T1 al1 H1 r σ ∧ WI X.K G.TB T1 al1 st1 H1 ∧ RepH X.K T1 al1 H1 v x ∧ Post G X.K W (RpN X.K) σ T1 al1 H1 Q ((fl r >>= fun l => fu r >>= fun u => g r >>= fun y => match x, y with
      | .lst xs, .int k => (match decide (k = 0) with
        | true => Mo.bad
        | false => pure (pickL xs (stepIx xs.length l u k)))
      | _, _ => Mo.bad) st1)) S w (seqP back_N q fun x st1 v T1 al1 H1 _ x1 w1 r1 q1 => ⟨x, st1, T1, al1, S.ext x1, w1, r1, q1⟩) pins s I) fun v s1 ⟨vv, H1, I1, rv, x, st1, T1, al1, S1, w1, r1, q1⟩ => ?_)
  refine wpAny_Slice (thn (hl r st1 σ T1 al1 H1 (fun l H2 => ∃ (st2 : St) (T2 : Tg) (al2 : List Addr), SL X.K H0 T2 al2 H2 r σ ∧ WI X.K G.TB T2 al2 st2 H2 ∧ RepH X.K T2 al2 H2 vv x ∧ Post G X.K W (RpN X.K) σ T2 al2 H2 Q ((fu r >>= fun u => g r >>= fun y => match x, y with
      | .lst xs, .int k => (match decide (k = 0) with
        | true => Mo.bad
        | false => pure (pickL xs (stepIx xs.length l u k)))
      | _, _ => Mo.bad) st2)) S1 w1 (seqP back_N q1 fun l st2 l' T2 al2 H2 _ x2 w2 r2 q2 => by cases r2; exact ⟨st2, T2, al2, S1.ext x2, w2, r1.ext x2, q2⟩) pins s1 I1) fun vl s2 ⟨l, H2, I2, pl, st2, T2, al2, S2, w2, r2, q2⟩ => ?_)
  refine thn (hu r st2 σ T2 al2 H2 (fun u H3 => ∃ (st3 : St) (T3 : Tg) (al3 : List Addr), SL X.K H0 T3 al3 H3 r σ ∧ WI X.K G.TB T3 al3 st3 H3 ∧ RepH X.K T3 al3 H3 vv x ∧ Post G X.K W (RpN X.K) σ T3 al3 H3 Q ((g r >>= fun y => match x, y with
      | .lst xs, .int k => (match decide (k = 0) with
        | true => Mo.bad
        | false => pure (pickL xs (stepIx xs.length l u k)))
      | _, _ => Mo.bad) st3)) S2 w2 (seqP back_N q2 fun u st3 u' T3 al3 H3 _ x3 w3 r3 q3 => by cases r3; exact ⟨st3, T3, al3, S2.ext x3, w3, r2.ext x3, q3⟩) pins s2 I2) fun vu s3 ⟨u, H3, I3, pu, st3, T3, al3, S3, w3, r3, q3⟩ => ?_
  refine thn ((po_some (pe_rd (e := e))).run pins s3 σ H3 (fun o H4 => ∃ (k : Int) (a0 : Addr) (ds : List D) (vs : List V) (T4 : Tg) (al4 : List Addr) (st4 : St), o = some k ∧ k ≠ 0 ∧ vv = .ref a0 ∧ H4 a0 = some (.lst vs) ∧ RepAll X.K (fz T4 H4) al4 vs ds ∧ WI X.K G.TB T4 al4 st4 H4 ∧ Post G X.K W (RpN X.K) σ T4 al4 H4 Q (.ok (pickL ds (stepIx ds.length l u k)) st4)) I3 ?_) fun vst s4 ⟨o, H4, I4, po, k, a0, ds, vs, T4, al4, st4, eo, hk, ea, h4, r4, w4, q4⟩ => ?_
  · refine hb r st3 σ T3 al3 H3 _ S3 w3 (seqP back_N q3 fun y st4 t T4 al4 H4 _ x4 w4 r4 q4 => ?_)
    cases x with
    | lst xs =>
      cases y with
      | int k =>
        have q5 : Post G X.K W (RpN X.K) σ T4 al4 H4 Q ((match decide (k = 0) with
          | true => Mo.bad
          | false => pure (pickL xs (stepIx xs.length l u k)) : Mo (List D)) st4) := q4
        by_cases hk : k = 0
        · rw [decide_eq_true hk] at q5
          exact q5.elim
        · rw [decide_eq_false hk] at q5
          obtain ⟨a0, vs, e1, h1, h3⟩ := r3.ext x4
          exact ⟨k, rep_int r4, k, a0, xs, vs, T4, al4, st4, rfl, hk, e1, nw_same _ _ h1, h3, w4, q5⟩
      | _ => exact q4.elim
    | _ => cases y <;> exact q4.elim
  · subst eo ea
    cases rv
    have I5 : Inv X pins σ H4 { s4 with heap := s4.heap.push { cls := .type "slice", data := .fields #[vl, vu, vst] } } := I4.kept (t' := s4.toks) fun b ob q => Heap.get?_push_of_some _ q
    obtain ⟨its, rits, ht, hz⟩ := I5.list (.inl (.inl h4))
    have hlen := rits.length
    show wpAny (model X.prog X.w) X.A (subscriptTail a (.Slice lo hi (some e) p2) (.ref a0) (.ref s4.heap.objs.size)) (EP X pins σ Q) X.xe { s4 with heap := s4.heap.push { cls := .type "slice", data := .fields #[vl, vu, vst] } }
    refine tail_any (ops := [.ref a0, .ref s4.heap.objs.size]) ht.isList.typeIs slot_list_getitem.lookup (wpAny_getItem_list_slice ht.isList (Heap.IsSliceOf.new ..) pl pu po (by intro z; exact hk (Option.some.inj z)) ?_ (by rw [List.size_toArray]; omega)) (by with_unfolding_all rfl)
    rw [step_pick]
    have n := I5.hok.fresh (Nat.le_refl _)
    have hv : Vals (pickL vs (stepIx its.length l u k)) (pickL its (stepIx its.length l u k)) := paired_pick rits _
    have hzz : (pickL vs (stepIx its.length l u k)).length ≤ sizeLine := by
      rw [hv.length]
      have z := slicePick_size_le its.toArray l u (some k)
      rw [step_pick] at z
      rw [List.size_toArray, List.size_toArray] at z
      omega
    refine ⟨.ref _, _, I5.laid (t' := s4.toks) (o := .lst (pickL vs (stepIx its.length l u k))) (fun b ob q => Heap.get?_push_of_some _ q) (Nat.le_refl _) ⟨hzz, _, 0, hv, Heap.get?_push_size _ rfl⟩, rfl, ?_⟩
    have eN : its.length = ds.length := by rw [← hlen, r4.length]
    refine q4 (.ref _) T4 al4 _ (Ext.laid0 n) (w4.laid n) ⟨_, _, rfl, n, w4.free n, upd_same, ?_⟩
    rw [eN]
    exact repall_pick (RepAll.ext r4 (Ext.laid0 n)) _
end
end Pi
namespace Pi
open PySem PySem.Spec PyProof.Rows L2
section
variable {G : GX} {X : Cx} {E : XK} {H0 : Hp} {tg iter elt : Expr} {ifs : List Expr} {scope : Scope} {pos spos py : Pos} {y : Str} {i : Nat}
variable {f : Env → Mo (List D)} {b : D → Env → Option Env} {is : List Nat} {gt : TG} {ct : Env → Mo Bool} {fe : Env → Mo D}
theorem pst_setLc (own : List (Str × Nat)) (hc : X.calm = true) (hN : X.N.Nodup) (hi : PIt G X (wE E) H0 tg iter f) (ok : BlkOk X.N X.env.scope scope own) (hgs : TgOk X.K H0 b is gt)
    (hg : ∀ (s0 : Shared) (H1 : Hp) (C : Addr) (cl : List (Str × Addr)) (fp : List Addr), PG (bk X scope s0 H1 C cl fp) tg gt)
    (ht : ∀ (s0 : Shared) (H1 : Hp) (C : Addr) (cl : List (Str × Addr)) (fp : List Addr), PBs G (bk X scope s0 H1 C cl fp) H0 ifs ct)
    (he : ∀ (s0 : Shared) (H1 : Hp) (C : Addr) (cl : List (Str × Addr)) (fp : List Addr), PD G (bk X scope s0 H1 C cl fp) (wE fun _ _ _ => False) H0 elt fe)
    (hy : X.N[i]? = some y := by rfl) (hyl : X.env.scope.names.lookup y = some .local := by rfl) (hk : X.env.scope.kind = .function := by rfl) (hl : (py.line == pos.line) = true := by rfl)
    (ha : (scope.names.any fun (n, k) => n == y && (k == .local || k == .cell)) = false := by rfl)
    (hv : ∀ j ∈ is, j ∈ own.map (·.2) := by decide) (hs : ∀ x, foldedSetIterable iter X.env x = pure x := by intro _; rfl) :
    PSt G X E H0 (.Assign [.Name y py] (.ListComp elt [⟨tg, iter, ifs, 0⟩] scope pos) spos) (sSet i (nFz (nLc f b (own.map (·.2)) ct fe))) := by
  intro B r s0 σ T al H Dn S q
  refine rdS1 (ps_setLc hc hN hy hyl (sw_true hk hyl hl ha) pi_rd ok hg pts_tT pe_tE hs) ?_
  show tLc _ _ _ _ _ σ H (fun x H1 => gName i x σ H1 Dn.nx)
  refine lc_read hi hgs hv ht he S.sl S.wi ?_
  have q' : PostS G X E H0 B Dn ((nLc f b (own.map (·.2)) ct fe r >>= fun xs => (pure (Fl.nx (r.set i (some (.d (.lst xs))))) : Mo Fl)) s0) := by
    have h : (sSet i (nFz (nLc f b (own.map (·.2)) ct fe)) r) s0 = (nLc f b (own.map (·.2)) ct fe r >>= fun xs => (pure (Fl.nx (r.set i (some (.d (.lst xs))))) : Mo Fl)) s0 := by
      show (((nLc f b (own.map (·.2)) ct fe r) >>= fun xs => pure (Pi.D.lst xs)) >>= fun x => (pure (Fl.nx (r.set i (some (.d x)))) : Mo Fl)) s0 = _
      rw [bind_ap, bind_ap, bind_ap]
      cases nLc f b (own.map (·.2)) ct fe r s0 <;> rfl
    rw [← h]
    exact q
  refine seqS S q' fun xs st1 v T1 al1 H1 x1 S1 r1 q1 => ?_
  obtain ⟨p, vs, rfl, n0, tp, hp, rs⟩ := r1
  have nz : H0 p = none := S.ex.free n0
  refine q1 _ (tset T1 p .frz) al1 H1 (S1.tag nz (by rw [tp]; decide) (by rw [tp]; decide) hp ?_)
  refine (S1.sl.retag tp).setD (.lst (fz_of tset_same hp) (rs.mono (fz_tset (by rw [tp]; decide)) ⟨[], by simp⟩))
theorem pst_ownLc (own : List (Str × Nat)) (hc : X.calm = true) (hN : X.N.Nodup) (hi : PIt G X (wE E) H0 tg iter f) (ok : BlkOk X.N X.env.scope scope own) (hgs : TgOk X.K H0 b is gt)
    (hg : ∀ (s0 : Shared) (H1 : Hp) (C : Addr) (cl : List (Str × Addr)) (fp : List Addr), PG (bk X scope s0 H1 C cl fp) tg gt)
    (ht : ∀ (s0 : Shared) (H1 : Hp) (C : Addr) (cl : List (Str × Addr)) (fp : List Addr), PBs G (bk X scope s0 H1 C cl fp) H0 ifs ct)
    (he : ∀ (s0 : Shared) (H1 : Hp) (C : Addr) (cl : List (Str × Addr)) (fp : List Addr), PD G (bk X scope s0 H1 C cl fp) (wE fun _ _ _ => False) H0 elt fe)
    (hy : X.N[i]? = some y := by rfl) (hyl : X.env.scope.names.lookup y = some .local := by rfl) (hk : X.env.scope.kind = .function := by rfl) (hl : (py.line == pos.line) = true := by rfl)
    (ha : (scope.names.any fun (n, k) => n == y && (k == .local || k == .cell)) = false := by rfl)
    (hv : ∀ j ∈ is, j ∈ own.map (·.2) := by decide) (hs : ∀ x, foldedSetIterable iter X.env x = pure x := by intro _; rfl) :
    PSt G X E H0 (.Assign [.Name y py] (.ListComp elt [⟨tg, iter, ifs, 0⟩] scope pos) spos) (sOwn i (nLc f b (own.map (·.2)) ct fe)) := by
  intro B r s0 σ T al H Dn S q
  refine rdS1 (ps_setLc hc hN hy hyl (sw_true hk hyl hl ha) pi_rd ok hg pts_tT pe_tE hs) ?_
  show tLc _ _ _ _ _ σ H (fun x H1 => gName i x σ H1 Dn.nx)
  refine lc_read hi hgs hv ht he S.sl S.wi ?_
  refine seqS S q fun xs st1 v T1 al1 H1 x1 S1 r1 q1 => ?_
  obtain ⟨p, vs, rfl, n0, tp, hp, rs⟩ := r1
  have nz : H0 p = none := S.ex.free n0
  refine q1 _ (tset T1 p .own) al1 H1 (S1.tag nz (by rw [tp]; decide) (by rw [tp]; decide) hp ?_)
  refine (S1.sl.retag tp).setO ⟨p, vs, rfl, tset_same, nz, hp, rs.mono (fz_tset (by rw [tp]; decide)) ⟨[], by simp⟩⟩ fun j y _ hj o hz => ?_
  obtain ⟨ht, _⟩ := own_at S1.sl hj o hz
  rw [tp] at ht
  cases ht
end
end Pi
namespace Pi
open PySem PySem.Spec PyProof.Rows L2
mutual
def cst : Expr → Option D
  | .Constant (.int i) _ _ => some (.int i)
  | .Constant (.bool i) _ _ => some (.bl i)
  | .Constant (.str i) _ _ => some (.str i)
  | .Constant .none _ _ => some .non
  | .Tuple es _ _ => match cstAll es with
    | some ds => (match Nat.ble ds.length 16777216 with
      | true => some (.tup ds)
      | false => none)
    | none => none
  | .List es _ => match cstAll es with
    | some ds => (match Nat.ble ds.length 16777216 with
      | true => some (.lst ds)
      | false => none)
    | none => none
  | _ => none
def cstAll : List Expr → Option (List D)
  | [] => some []
  | e :: es => match cst e, cstAll es with
    | some d, some ds => some (d :: ds)
    | _, _ => none
end
def nC (ds : List D) : Env → Mo (List D) := fun _ => pure ds
section
variable {G : GX} {X : Cx} {W : WX} {H0 : Hp}
theorem lim_le {b : Type} {n : Nat} {x : b} (h : Nat.ble n 16777216 = true) : lim n x = Mo.ret x := by
  unfold lim
  rw [h]
theorem nC_tup {ds : List D} (h : Nat.ble ds.length 16777216 = true) : eTup (nC ds) = eC (.tup ds) := by
  funext r st
  show ((Mo.ret ds : Mo (List D)) >>= fun xs => lim xs.length (D.tup xs)) st = _
  rw [bind_ap]
  show lim ds.length (D.tup ds) st = _
  rw [lim_le h]
  rfl
theorem nC_lst {ds : List D} (h : Nat.ble ds.length 16777216 = true) : nLst (nC ds) = nC ds := by
  funext r st
  show ((Mo.ret ds : Mo (List D)) >>= fun xs => lim xs.length xs) st = _
  rw [bind_ap]
  show lim ds.length ds st = _
  rw [lim_le h]
  rfl
theorem nC_fz {ds : List D} : nFz (nC ds) = eC (.lst ds) := rfl
theorem nC_cons {d : D} {ds : List D} : aCons (eC d) (nC ds) = nC (d :: ds) := rfl
mutual
theorem pd_cst : ∀ (e : Expr) {d : D}, cst e = some d → PD G X W H0 e (eC d)
  | .Constant (.int i) _ _, d, h => by cases Option.some.inj h; exact pd_int
  | .Constant (.bool i) _ _, d, h => by cases Option.some.inj h; exact pd_bl
  | .Constant (.str i) _ _, d, h => by cases Option.some.inj h; exact pd_str
  | .Constant .none _ _, d, h => by cases Option.some.inj h; exact pd_non
  | .Tuple es _ _, d, h => by
    unfold cst at h
    cases e : cstAll es with
    | none => rw [e] at h; cases h
    | some ds =>
      rw [e] at h
      dsimp only at h
      cases l : Nat.ble ds.length 16777216 with
      | false => rw [l] at h; cases h
      | true =>
        rw [l] at h
        cases Option.some.inj h
        rw [← nC_tup l]
        exact pd_tup (pl_cst es e)
  | .List es _, d, h => by
    unfold cst at h
    cases e : cstAll es with
    | none => rw [e] at h; cases h
    | some ds =>
      rw [e] at h
      dsimp only at h
      cases l : Nat.ble ds.length 16777216 with
      | false => rw [l] at h; cases h
      | true =>
        rw [l] at h
        cases Option.some.inj h
        rw [← nC_fz, ← nC_lst l]
        exact PN.toD (pn_lst (pl_cst es e))
  | .Constant (.float _) _ _, d, h => by cases h
  | .Constant (.complex _ _) _ _, d, h => by cases h
  | .Constant (.bytes _) _ _, d, h => by cases h
  | .Constant .ellipsis _ _, d, h => by cases h
  | .BoolOp _ _ _, d, h => by cases h
  | .NamedExpr _ _ _, d, h => by cases h
  | .BinOp _ _ _ _, d, h => by cases h
  | .UnaryOp _ _ _, d, h => by cases h
  | .Lambda _ _ _ _, d, h => by cases h
  | .IfExp _ _ _ _, d, h => by cases h
  | .Dict _ _ _, d, h => by cases h
  | .Set _ _ _, d, h => by cases h
  | .ListComp _ _ _ _, d, h => by cases h
  | .SetComp _ _ _ _, d, h => by cases h
  | .DictComp _ _ _ _ _, d, h => by cases h
  | .GeneratorExp _ _ _ _, d, h => by cases h
  | .Await _ _, d, h => by cases h
  | .Yield _ _, d, h => by cases h
  | .YieldFrom _ _, d, h => by cases h
  | .Compare _ _ _ _, d, h => by cases h
  | .Call _ _ _ _, d, h => by cases h
  | .FormattedValue _ _ _ _, d, h => by cases h
  | .JoinedStr _ _, d, h => by cases h
  | .Attribute _ _ _, d, h => by cases h
  | .Subscript _ _ _, d, h => by cases h
  | .Starred _ _, d, h => by cases h
  | .Name _ _, d, h => by cases h
  | .Slice _ _ _ _, d, h => by cases h
theorem pl_cst : ∀ (es : List Expr) {ds : List D}, cstAll es = some ds → PL G X W H0 es (nC ds)
  | [], ds, h => by cases Option.some.inj h; exact pl_nil
  | e :: es, ds, h => by
    unfold cstAll at h
    cases e1 : cst e with
    | none => rw [e1] at h; cases h
    | some d =>
      cases e2 : cstAll es with
      | none => rw [e1, e2] at h; cases h
      | some ds2 =>
        rw [e1, e2] at h
        cases Option.some.inj h
        rw [← nC_cons]
        refine pl_cons (pd_cst e e1) (pl_cst es e2) ?_
        cases e <;> first | rfl | (cases e1)
end
theorem pn_cst {es : List Expr} {pos : Pos} {ds : List D} (h : cst (.List es pos) = some (.lst ds)) : PN G X W H0 (.List es pos) (nC ds) := by
  unfold cst at h
  cases e : cstAll es with
  | none => rw [e] at h; cases h
  | some ds2 =>
    rw [e] at h
    dsimp only at h
    cases l : Nat.ble ds2.length 16777216 with
    | false => rw [l] at h; cases h
    | true =>
      rw [l] at h
      cases Option.some.inj h
      rw [← nC_lst l]
      exact pn_lst (pl_cst es e)
end
end Pi
namespace Pi
open PySem PySem.Spec PyProof.Rows L2 LamX

/-- a def of the text: x its name, n how many parameters, m what it is worth, k its level -/
structure FK (G : GX) (P : Program) (w : World) (K : PySem.W.Frag) (mg : Str → Option Value) (base : Heap) (x : Str) (n : Nat) (m : List D → Mo D) (k : Nat) : Prop where
  ex : ∃ (f : Addr) (fd : FuncData) (ps : List Str), ps.length = n ∧ FnG P w K mg base k f fd ps (spM G K n m) ∧ mg x = some (.ref f) ∧ PySem.W.keepIn K (.ref f) = true ∧ Binds K fd ps []
theorem FK.kn {G : GX} {X : Cx} {x : Str} {n k : Nat} {m : List D → Mo D} (h : FK G X.prog X.w X.K X.mg X.base x n m k) (hr : Room k X.A) : Knows G X x n m := by
  obtain ⟨f, fd, ps, h1, h2, h3, h4, h5⟩ := h.ex
  exact ⟨k, f, fd, ps, h1, h2, hr, h3, h4, h5⟩
section
variable {G : GX} {P : Program} {w : World} {K : PySem.W.Frag} {mg : Str → Option Value} {base : Heap} {k : Nat} {f : Addr} {fd : FuncData} {N ps : List Str} {x : Str} {st : Stmt}
/-- THE RULE for a def of the text -/
theorem fg_of {n : Nat} {g : Stm} {m : List D → Mo D} (F : FunD K x x (defArgs st) (defBody st) (defScope st) [] [] f fd) (hs : ∃ o, K.lookup sysModules = some o) (S : FnScope N ps (defScope st)) (hn : ps.length = n) (hM : ∀ ds, ds.length = n → m ds = runD N.length g ds)
    (hb : ∀ (cdv : Value) (A : Around) (outer : List PySem.Env) (s : Shared) (H : Hp) (E : XK), fd.code = cdv → Room k (dcx P w K mg base N x (defScope st) f cdv A outer s H E).A → COk (dcx P w K mg base N x (defScope st) f cdv A outer s H E) → PBl G (dcx P w K mg base N x (defScope st) f cdv A outer s H E) E H (defBody st) g) :
    FnG P w K mg base (k + 1) f fd ps (spM G K n m) := by
  refine ⟨fun vs H Q E h => by rw [hn]; exact h.1, fun A outer s H args us vs Q E hr hg e0 hbi r hsp => ?_⟩
  obtain ⟨oc, od, dV, kV, doc, pm, an, cdv, ct, osl, rfl, lk, hcd, _, _⟩ := F.ex
  have hl0 := hsp.1
  refine LamX.run_ofS lk hcd S hr e0 hbi r (by rw [hn]; exact hl0) fun hr' => ⟨_, pss_rd, ?_⟩
  obtain ⟨hl, T, al, s0, ds, wi, rs, q⟩ := hsp
  refine hb cdv A outer s H E rfl hr' ⟨hg, (by have h := hr'.un; omega : (A.deeper (envOfC x (defScope st) s.heap.objs.size f cdv)).units + 200 < cLine), hs⟩ ⟨T, al, fz T H, al⟩ _ s0 _ T al H _ (start_si wi (sl_start rs)) ?_
  rw [hM ds (by rw [← rs.length, hl])] at q
  unfold runD at q
  rw [bind_ap] at q
  cases e : g (ds.map (fun x => some (SV.d x)) ++ List.replicate (N.length - ds.length) none) s0 with
  | ok fl st1 =>
    rw [e] at q
    cases fl with
    | nx r => exact fun σ T' al' H' S' => q .non T' al' H' S'.ex S'.wi .non
    | ret x => exact fun v T' al' H' ex wi' rx => q v T' al' H' ex wi' rx
    | brk r => exact q.elim
    | ct r => exact q.elim
  | err c x st1 =>
    rw [e] at q
    exact q
  | bad =>
    rw [e] at q
    exact q
theorem fk_of {n : Nat} {g : Stm} {m : List D → Mo D} (F : FunD K x x (defArgs st) (defBody st) (defScope st) [] [] f fd) (hm : mg x = some (.ref f)) (hs : ∃ o, K.lookup sysModules = some o) (S : FnScope N ps (defScope st)) (hn : ps.length = n) (hM : ∀ ds, ds.length = n → m ds = runD N.length g ds)
    (bd : ∀ (kV doc pm : Value) (an : Option Addr) (cdv ct : Value) (us : List Value), us.length = ps.length → bindArgs (PySem.W.fnOf x x (defArgs st) (defBody st) (defScope st) .none kV doc pm an cdv ct) ⟨us, []⟩ = pure (ps.zip us))
    (hb : ∀ (cdv : Value) (A : Around) (outer : List PySem.Env) (s : Shared) (H : Hp) (E : XK), fd.code = cdv → Room k (dcx P w K mg base N x (defScope st) f cdv A outer s H E).A → COk (dcx P w K mg base N x (defScope st) f cdv A outer s H E) → PBl G (dcx P w K mg base N x (defScope st) f cdv A outer s H E) E H (defBody st) g) :
    FK G P w K mg base x n m (k + 1) :=
  ⟨f, fd, ps, hn, fg_of F hs S hn hM hb, hm, F.kp, F.bindsN bd⟩
end

/-- an own error of the text: x its name, c its number -/
structure XF (G : GX) (P : Program) (w : World) (K : PySem.W.Frag) (mg : Str → Option Value) (base : Heap) (x : Str) (c : Nat) : Prop where
  ex : ∃ (fI : Addr) (fd : FuncData) (ps : List Str), OexC K (G.cls c) ∧ PySem.W.findIn K (.ref (G.cls c)) (G.fld c) = some none ∧ PySem.W.findIn K (.ref (G.cls c)) "__init__" = some (some (.ref fI)) ∧ PySem.W.typeIn K (.ref fI) = some (.type "function") ∧
    FnOk P w K mg base (L2.CX P w) 1 fI fd ps (spI K (G.cls c) (G.fld c)) ∧ Binds K fd ps [] ∧ mg x = some (.ref (G.cls c))
theorem XF.kn {G : GX} {X : Cx} {x : Str} {c : Nat} (h : XF G X.prog X.w X.K X.mg X.base x c) (hr : Room 2 X.A) : XCls G X x c := by
  obtain ⟨fI, fd, ps, h1, h2, h3, h4, h5, h6, h7⟩ := h.ex
  exact ⟨1, fI, fd, ps, h1, h2, h3, h4, h5, hr, h6, h7⟩
/-- isinstance(.., y) of errors -/
structure IsK (K : PySem.W.Frag) (mg : Str → Option Value) (y : Str) (tbl : Str → Option Bool) : Prop where
  ex : ∃ C, IsxOk K C tbl ∧ mg y = some (.ref C)
section
variable {G : GX} {X : Cx} {W : WX} {H0 : Hp} {a : Expr} {p p2 pos : Pos}
theorem pd_isK {f : Env → Mo D} {y : Str} {tbl : Str → Option Bool} (k : IsK X.K X.mg y tbl) (ha : PD G X W H0 a f) (hgi : Gl X "isinstance") (hmi : X.mg "isinstance" = none) (hg : Gl X y) (hd : (y == ("__debug__" : Str)) = false := by decide)
    (he : starEach [a, .Name y p2] X.env = (false, eval a X.env) :: starEach [.Name y p2] X.env := by rfl) (he2 : starEach [.Name y p2] X.env = (false, eval (.Name y p2) X.env) :: starEach [] X.env := by rfl) (hpl : (backTo pos (starEach [.Name y p2] X.env)).any (·.1) = false := by rfl) :
    PD G X W H0 (.Call (.Name "isinstance" p) [a, .Name y p2] [] pos) (eIsX tbl f) := by
  obtain ⟨C, h1, h2⟩ := k.ex
  exact pd_isX h1 ha hgi hmi hg h2 hd he he2 hpl
end

/-- the table of a def's lambdas -/
structure LamK (G : GX) (X : Cx) : Prop where
  ex : ∃ c P, TabB X.base X.mg c P ∧ X.env.code = .ref c ∧ (P, X.env.qual ++ "<lambda>") ∈ G.TB ∧ ∀ p ∈ G.TB, p.1 = P → p.2 = X.env.qual ++ "<lambda>"
/-- the def that gets a lambda and keeps what it raises; j the room that its last row wants -/
structure ToldF (G : GX) (P : Program) (w : World) (K : PySem.W.Frag) (mg : Str → Option Value) (base : Heap) (x : Str) (hit : Nat → Option Str) (fr : Env → Mo D) (j : Nat) : Prop where
  ex : ∃ (sg : Scope) (a fo er en x1 x2 : Str) (ret : Expr) (kt k2 kk : Nat) (j1 j2 : Nat) (q : Nat → Pos) (g C1 C2 : Addr) (fd : FuncData) (pg : Arguments),
    ToldTx sg a fo er en x1 x2 kt k2 kk j1 j2 q x ∧ HitOk G K C1 C2 hit ∧ mg x1 = some (.ref C1) ∧ mg x2 = some (.ref C2) ∧ mg x = some (.ref g) ∧ PySem.W.keepIn K (.ref g) = true ∧ FunD K x x pg (toldB a fo er en x1 x2 ret kt k2 kk j1 j2 q) sg [] [] g fd ∧ Binds K fd [a] [] ∧ FnScope [a, fo, er, en] [a] sg ∧
    ∀ (A : Around) (outer : List PySem.Env) (cdg : Value) (s : Shared) (H : Hp), A.guards = some [] → Room j (A.deeper (tenv x sg s g cdg)) → PD G (dcx P w K mg base [a, fo, er, en] x sg g cdg A outer s H fun _ _ _ => False) (wE fun _ _ _ => False) H ret fr
section
variable {G : GX} {X : Cx} {W : WX} {H0 : Hp} {p lpos pos : Pos}
theorem pd_toldK {x : Str} {params : Arguments} {body : Expr} {scope : Scope} {j : Nat} (k : Nat) {hit : Nat → Option Str} {fe : Env → Mo D} {fr : Env → Mo D} (t : ToldF G X.prog X.w X.K X.mg X.base x hit fr j) (l : LamK G X) (gd : X.A.guards = some []) (hr : Room (k + 2) X.A) (hj : j ≤ k + 1) (hg : Gl X x)
    (hL : ∀ (A : Around) (outer : List PySem.Env) (s2 : Shared) (H : Hp) (E : XK) (f c' : Addr), A.guards = some [] → Room k (lamCx X A outer s2 H E scope f c').A → PD G (lamCx X A outer s2 H E scope f c') (wE E) H0 body fe)
    (L : LamS X.env.scope scope) (hdef : defaultsOf params X.env = ([], []) := by rfl)
    (hbind : ∀ (q : Str) (cl : List (Str × Addr)) (pm cv ctv : Value), bindArgs (PySem.W.kla_fn "<lambda>" q params body scope cl pm cv ctv) ⟨[], []⟩ = pure [] := by intros; rfl)
    (hdb : (x == ("__debug__" : Str)) = false := by decide) : PD G X W H0 (.Call (.Name x p) [.Lambda params body scope lpos] [] pos) (eTold G fr hit fe) := by
  obtain ⟨sg, a, fo, er, en, x1, x2, ret, kt, k2, kk, j1, j2, q, g, C1, C2, fd, pg, t1, t2, t3, t4, t5, t6, t7, t8, t9, t10⟩ := t.ex
  obtain ⟨c, P, l1, l2, l3, l4⟩ := l.ex
  exact pd_told t1 t2 t3 t4 hg t5 t6 t7 t8 t9 gd l1 l2 l3 l4 hr L hdef hbind (fun cdg s H r => t10 X.A X.stack cdg s H gd (r.mono hj)) (fun A outer s2 H E f c' hg2 r => hL A outer s2 H E f c' hg2 r) hdb
end
end Pi
namespace Pi
open PySem PySem.Spec PyProof.Rows L2
/-- an own list stands still from here on; what is none stays -/
def sFrzT (i : Nat) : Stm := fun r st => match r[i]? with
  | some (some (.own xs)) => .ok (.nx (r.set i (some (.d (.lst xs))))) st
  | _ => .ok (.nx r) st
section
variable {G : GX} {X : Cx} {E : XK} {H0 : Hp} {sts : List Stmt}
theorem frzT_ghost {i : Nat} (B : Bs) (r : Env) (s0 : St) (σ : L2.St) (T : Tg) (al : List Addr) (H : Hp) (S : SI G X H0 B r σ s0 T al H) : sFrzT i r s0 = .bad ∨ ∃ r' T', sFrzT i r s0 = .ok (.nx r') s0 ∧ SI G X H0 B r' σ s0 T' al H := by
  unfold sFrzT
  cases hi : r[i]? with
  | none => exact .inr ⟨r, T, rfl, S⟩
  | some o =>
    cases o with
    | none => exact .inr ⟨r, T, rfl, S⟩
    | some x =>
      cases x with
      | d y => exact .inr ⟨r, T, rfl, S⟩
      | odT y => exact .inr ⟨r, T, rfl, S⟩
      | own xs =>
        have h := frz_ghost (i := i) B r s0 σ T al H S
        unfold sFrz at h
        rw [hi] at h
        exact h
theorem pbl_frzT {h : Stm} (i : Nat) (h2 : PBl G X E H0 sts h) : PBl G X E H0 sts (sSeq (sFrzT i) h) := pbl_ghost frzT_ghost h2
end
/-- a, b, c = x, y, z -/
def sPar3 (i j l : Nat) (f : Env → Mo (List D)) : Stm := fun r => f r >>= fun xs => match xs with
  | [x, y, z] => pure (.nx (((r.set i (some (.d x))).set j (some (.d y))).set l (some (.d z))))
  | _ => Mo.bad
theorem pst_par3 {G : GX} {X : Cx} {E : XK} {H0 : Hp} {f : Env → Mo (List D)} {i j l : Nat} {x y z : Str} {a b c : Expr} {px py pz pt pos : Pos} {kt k2 pt2} (hc : X.calm = true) (hN : X.N.Nodup) (ha : PL G X (wE E) H0 [a, b, c] f) (hi : X.N[i]? = some x := by rfl) (hj : X.N[j]? = some y := by rfl) (hl : X.N[l]? = some z := by rfl)
    (hij : i ≠ j := by decide) (hil : i ≠ l := by decide) (hjl : j ≠ l := by decide) (hx : X.env.scope.names.lookup x = some .local := by rfl) (hy : X.env.scope.names.lookup y = some .local := by rfl) (hz : X.env.scope.names.lookup z = some .local := by rfl)
    (hw : swappedStores [.Tuple [.Name x px, .Name y py, .Name z pz] kt pt] (.Tuple [a, b, c] k2 pt2) X.env = pure (some [x, y, z]) := by rfl)
    (hs : swapsWithSole [.Tuple [.Name x px, .Name y py, .Name z pz] kt pt] (.Tuple [a, b, c] k2 pt2) pos.line X.env = pure false := by rfl) :
    PSt G X E H0 (.Assign [.Tuple [.Name x px, .Name y py, .Name z pz] kt pt] (.Tuple [a, b, c] k2 pt2) pos) (sPar3 i j l f) := by
  intro B r s0 σ T al H D S q
  refine rdS1 (ps_par3 hc hN hi hj hl hij hil hjl hx hy hz pa_rd hw hs) (ha r s0 σ T al H _ S.sl S.wi (seqS S q fun ys st1 v T1 al1 H1 x1 S1 r1 q1 => ?_))
  match ys, r1, q1 with
  | [p, q, t], .cons ra (.cons rb (.cons rc .nil)), q1 => exact ⟨_, _, _, rfl, q1 _ T1 al1 H1 (S1.slot (((S1.sl.setD ra).setD rb).setD rc))⟩
  | [], _, q1 => exact q1.elim
  | [_], _, q1 => exact q1.elim
  | [_, _], _, q1 => exact q1.elim
  | _ :: _ :: _ :: _ :: _, _, q1 => exact q1.elim
/-- no name of the module hides these -/
structure Blt (mg : Str → Option Value) : Prop where
  isinstance : mg "isinstance" = none
  int : mg "int" = none
  bool : mg "bool" = none
  str : mg "str" = none
  tuple : mg "tuple" = none
  list : mg "list" = none
  dict : mg "dict" = none
  len : mg "len" = none
  sum : mg "sum" = none
  all : mg "all" = none
  any : mg "any" = none
  repr : mg "repr" = none
  min : mg "min" = none
  max : mg "max" = none
  range : mg "range" = none
  enumerate : mg "enumerate" = none
  zip : mg "zip" = none
  sorted : mg "sorted" = none
  set : mg "set" = none
def bltNames : List Str := ["isinstance", "int", "bool", "str", "tuple", "list", "dict", "len", "sum", "all", "any", "repr", "min", "max", "range", "enumerate", "zip", "sorted", "set"]
theorem blt_of {mg : Str → Option Value} (h : ∀ x ∈ bltNames, mg x = none) : Blt mg := by
  constructor <;> exact h _ (by decide)
theorem okb {X : Cx} {scope : Scope} {s0 : Shared} {H1 : Hp} {C : Addr} {cl : List (Str × Addr)} {fp : List Addr} (ok : COk X) : COk (bk X scope s0 H1 C cl fp) := ⟨ok.gd, ok.un, ok.sys⟩
theorem lam_ok {X : Cx} {A : Around} {outer : List PySem.Env} {s2 : Shared} {H : Hp} {E : XK} {scope : Scope} {f c9 : Addr} {k : Nat} (gd : A.guards = some []) (rm : Room k (LamX.lamCx X A outer s2 H E scope f c9).A) (hs : ∃ o, X.K.lookup sysModules = some o) : COk (LamX.lamCx X A outer s2 H E scope f c9) :=
  ⟨gd, by have h := rm.un; omega, hs⟩
/-- the context of a def of the text -/
abbrev dcn (P : Program) (w : World) (K : PySem.W.Frag) (mg : Str → Option Value) (base : Heap) (N : List Str) (q : Str) (st : Stmt) (f : Addr) (cd : Value) (A : Around) (outer : List PySem.Env) (s : Shared) (H : Hp) (E : XK) : Cx := dcx P w K mg base N q (defScope st) f cd A outer s H E
/-- which of the errors ns are of the class y -/
def tblOf (y : Str) (ns : List Str) : Str → Option Bool := fun n => if n ∈ ns then some (decide (n = y)) else none
end Pi
namespace Pi
open PySem PySem.Spec PyProof.Rows L2 LamX
def both {a b : Bool} (h : (a && b) = true) : a = true ∧ b = true := Bool.and_eq_true_iff.mp h

mutual
def vOk (K : PySem.W.Frag) : D → Value → Bool
  | .non, u => decide (u = .none)
  | .bl b, u => decide (u = .bool b)
  | .int i, u => (match u with
    | .int j _ => decide (j = i)
    | _ => false)
  | .str x, u => (match u with
    | .str y _ => decide (y = x)
    | _ => false)
  | .ktp ds, u => (match u with
    | .ref a => (match K.lookup a with
      | some ⟨.type c, _, .seq its _, _⟩ => decide (c = "tuple") && (Nat.ble its.size 16777216 && vAll K ds its.toList)
      | _ => false)
    | _ => false)
  | _, _ => false
def vAll (K : PySem.W.Frag) : List D → List Value → Bool
  | [], [] => true
  | d :: ds, u :: us => vOk K d u && vAll K ds us
  | _, _ => false
end
mutual
theorem vOk_ok {K : PySem.W.Frag} : ∀ (d : D) (u : Value), vOk K d u = true → ∃ v, RelV v u ∧ ∀ (F : Hp) (al : List Addr), Rep K F al v d
  | .non, u, h => by
    unfold vOk at h
    have h' : u = .none := of_decide_eq_true h
    exact ⟨.non, h', fun F al => .non⟩
  | .bl b, u, h => by
    unfold vOk at h
    have h' : u = .bool b := of_decide_eq_true h
    exact ⟨.bl b, h', fun F al => .bl b⟩
  | .int i, u, h => by
    unfold vOk at h
    cases u with
    | int j t => exact ⟨.int i, ⟨t, by rw [of_decide_eq_true h]⟩, fun F al => .int i⟩
    | _ => cases h
  | .str x, u, h => by
    unfold vOk at h
    cases u with
    | str j t => exact ⟨.str x, ⟨t, by rw [of_decide_eq_true h]⟩, fun F al => .str x⟩
    | _ => cases h
  | .ktp ds, u, h => by
    unfold vOk at h
    cases u with
    | ref a =>
      dsimp only at h
      cases q : K.lookup a with
      | none => rw [q] at h; cases h
      | some o =>
        obtain ⟨oc, od, dt, osl⟩ := o
        rw [q] at h
        cases oc with
        | type c =>
          cases dt with
          | seq its n =>
            obtain ⟨h1, h⟩ := both h
            obtain ⟨h2, h3⟩ := both h
            obtain ⟨vs, hv, hr⟩ := vAll_ok ds its.toList h3
            refine ⟨.ref a, rfl, fun F al => .ktp (xs := vs) (.inr ⟨_, its, n, q, ?_, rfl, by rw [line_is]; exact Nat.le_of_ble_eq_true h2, hv⟩) (hr F al)⟩
            rw [of_decide_eq_true h1]
          | _ => cases h
        | _ => cases h
    | _ => cases h
  | .tup _, u, h => by unfold vOk at h; cases h
  | .lst _, u, h => by unfold vOk at h; cases h
  | .dct _, u, h => by unfold vOk at h; cases h
  | .obj _, u, h => by unfold vOk at h; cases h
  | .exc _ _ _, u, h => by unfold vOk at h; cases h
  | .kls _, u, h => by unfold vOk at h; cases h
theorem vAll_ok {K : PySem.W.Frag} : ∀ (ds : List D) (us : List Value), vAll K ds us = true → ∃ vs, Vals vs us ∧ ∀ (F : Hp) (al : List Addr), RepAll K F al vs ds
  | [], [], _ => ⟨[], .nil, fun F al => .nil⟩
  | d :: ds, u :: us, h => by
    unfold vAll at h
    obtain ⟨h1, h2⟩ := both h
    obtain ⟨v, a1, a2⟩ := vOk_ok d u h1
    obtain ⟨vs, b1, b2⟩ := vAll_ok ds us h2
    exact ⟨v :: vs, .cons a1 b1, fun F al => .cons (a2 F al) (b2 F al)⟩
  | [], _ :: _, h => by unfold vAll at h; cases h
  | _ :: _, [], h => by unfold vAll at h; cases h
end
/-- a written name of the text -/
structure GlC (K : PySem.W.Frag) (mg : Str → Option Value) (x : Str) (d : D) : Prop where
  ex : ∃ (v : V) (u : Value), mg x = some u ∧ RelV v u ∧ ∀ (F : Hp) (al : List Addr), Rep K F al v d
def glcB (K : PySem.W.Frag) (x : Str) (d : D) : Bool := match PySem.W.nsIn K mainGlobals x with
  | some (some u) => vOk K d u
  | _ => false
theorem glc_of {K : PySem.W.Frag} {h : Heap} {mg : Str → Option Value} {x : Str} {d : D} (X : K.In h) (G : h.Ns mainGlobals mg) (c : glcB K x d = true) : GlC K mg x d := by
  unfold glcB at c
  cases e : PySem.W.nsIn K mainGlobals x with
  | none => rw [e] at c; cases c
  | some o =>
    cases o with
    | none => rw [e] at c; cases c
    | some u =>
      rw [e] at c
      obtain ⟨v, h1, h2⟩ := vOk_ok d u c
      exact ⟨v, u, PySem.W.mg_of X G e, h1, h2⟩

def xcB (K : PySem.W.Frag) (C : Addr) : Bool :=
  decide (PySem.W.findIn K (.ref C) "__getattribute__" = some (some (.builtin "BaseException.__getattribute__"))) && (decide (PySem.W.findIn K (.ref C) "__getattr__" = some none) && (decide (PySem.W.subIn K (.ref C) (.type "BaseException") = some true) && (PySem.W.hasDictIn K C &&
    (decide (PySem.W.findIn K (.ref C) "__class__" = some (some (.builtin "object.__class__"))) && (decide (PySem.W.specialIn K (.builtin "object.__class__") "__get__" = some (some (.builtin "getset_descriptor.__get__"))) && (decide (PySem.W.takesIn K (.builtin "object.__class__") = some true) &&
      decide (PySem.W.mroIn K C (.type "object") = some true)))))))
theorem xcB_ok {K : PySem.W.Frag} {C : Addr} (h : xcB K C = true) : PySem.W.XcOk K C ∧ XfC K C := by
  obtain ⟨h1, h⟩ := both h
  obtain ⟨h2, h⟩ := both h
  obtain ⟨h3, h⟩ := both h
  obtain ⟨h4, h⟩ := both h
  obtain ⟨h5, h⟩ := both h
  obtain ⟨h6, h⟩ := both h
  obtain ⟨h7, h8⟩ := both h
  exact ⟨⟨of_decide_eq_true h1, of_decide_eq_true h2, of_decide_eq_true h3, h4, of_decide_eq_true h5, of_decide_eq_true h6, of_decide_eq_true h7, of_decide_eq_true h8⟩, ⟨of_decide_eq_true h1, of_decide_eq_true h2, of_decide_eq_true h3, h4⟩⟩
def oclB (K : PySem.W.Frag) (C : Addr) : Bool := match K.lookup C with
  | some ⟨.type t, _, .cls cd, sl⟩ => decide (t = "type") && (cd.hasDict && (!cd.hasDel && ((match cd.mro with
    | .ref C' :: bm => decide (C' = C) && PySem.HandSPX.refsVE bm
    | _ => false) && (match sl.toList with
    | [_, _, _, _, some (.builtin n), _] => decide (n = "ValueError.__new__")
    | _ => false))))
  | _ => false
theorem oclB_ok {K : PySem.W.Frag} {C : Addr} (h : oclB K C = true) : ∃ nm q N bs bm sn sub ab col dd k0 k1 k2 k3 k5, K.lookup C = some (excClassObj nm q C N bs bm true sn sub ab col dd k0 k1 k2 k3 k5 "ValueError.__new__") ∧ PySem.HandSPX.refsVE bm = true := by
  unfold oclB at h
  cases e : K.lookup C with
  | none => rw [e] at h; cases h
  | some o =>
    obtain ⟨oc, od, dt, sl⟩ := o
    rw [e] at h
    cases oc with
    | type t =>
      cases dt with
      | cls cd =>
        obtain ⟨nm, bs, mro, N, q, hd, sn, sub, ab, col, hdl⟩ := cd
        obtain ⟨h1, h⟩ := both h
        obtain ⟨h2, h⟩ := both h
        obtain ⟨h3, h⟩ := both h
        obtain ⟨h4, h5⟩ := both h
        have e1 : t = "type" := of_decide_eq_true h1
        have e2 : hd = true := h2
        have e3 : hdl = false := by simpa using h3
        subst e1 e2 e3
        split at h4
        · rename_i C' bm em
          obtain ⟨h6, h7⟩ := both h4
          have e4 : C' = C := of_decide_eq_true h6
          subst e4
          have em' : mro = .ref C' :: bm := em
          subst em'
          split at h5
          · rename_i k0 k1 k2 k3 n k5 es
            have e5 : n = "ValueError.__new__" := of_decide_eq_true h5
            subst e5
            have es2 : sl = #[k0, k1, k2, k3, some (.builtin "ValueError.__new__"), k5] := by
              apply Array.toList_inj.mp
              rw [es]
            subst es2
            exact ⟨nm, q, N, bs, bm, sn, sub, ab, col, od, k0, k1, k2, k3, k5, rfl, h7⟩
          · cases h5
        · cases h4
      | _ => cases h
    | _ => cases h
def oexB (K : PySem.W.Frag) (C : Addr) : Bool := oclB K C && (decide (PySem.W.findIn K (.ref C) "__setattr__" = some (some (.builtin "object.__setattr__"))) && (decide (PySem.W.subIn K (.ref C) (.type "BaseException") = some true) && (decide (PySem.W.typeIn K (.ref C) = some (.type "type")) && PySem.W.keepIn K (.ref C))))
theorem oexB_ok {K : PySem.W.Frag} {C : Addr} (h : oexB K C = true) : OexC K C := by
  obtain ⟨h1, h⟩ := both h
  obtain ⟨h2, h⟩ := both h
  obtain ⟨h3, h⟩ := both h
  obtain ⟨h4, h5⟩ := both h
  exact ⟨oclB_ok h1, of_decide_eq_true h2, of_decide_eq_true h3, of_decide_eq_true h4, h5⟩
/-- an own error that is raised: x its name, f its field -/
def raisB (K : PySem.W.Frag) (x f : Str) : Bool := oexB K (He.ga K x) && (decide (PySem.W.findIn K (.ref (He.ga K x)) f = some none) && (decide (PySem.W.findIn K (.ref (He.ga K x)) "__init__" = some (some (.ref (He.ma K (He.ga K x) "__init__")))) && decide (PySem.W.typeIn K (.ref (He.ma K (He.ga K x) "__init__")) = some (.type "function"))))
/-- what errors say of one another: ns their names, fs fields -/
def kinB (K : PySem.W.Frag) (ns fs : List Str) : Bool := ns.all fun n => xcB K (He.ga K n) && ((fs.all fun g => decide (PySem.W.findIn K (.ref (He.ga K n)) g = some none)) && ns.all fun y => decide (PySem.W.kitOne K (.ref (He.ga K n)) (.ref (He.ga K y)) = some (decide (n = y))))
def hitB (K : PySem.W.Frag) (ns : List Str) (x1 x2 : Str) : Bool := ns.all fun n => decide (PySem.W.exmAny K (.ref (He.ga K n)) [.ref (He.ga K x1), .ref (He.ga K x2)] = some true)
section
variable {K : PySem.W.Frag} {mg : Str → Option Value} {ns fs : List Str}
theorem isK_of (h : kinB K ns fs = true) {y : Str} (hy : y ∈ ns) (hm : mg y = some (.ref (He.ga K y))) : IsK K mg y (tblOf y ns) := by
  refine ⟨_, fun n b e => ?_, hm⟩
  unfold tblOf at e
  by_cases hn : n ∈ ns
  · rw [if_pos hn] at e
    obtain ⟨h1, h2⟩ := both (List.all_eq_true.mp h n hn)
    obtain ⟨h3, h4⟩ := both h2
    refine ⟨(xcB_ok h1).1, ?_⟩
    rw [← e]
    exact of_decide_eq_true (List.all_eq_true.mp h4 y hy)
  · rw [if_neg hn] at e
    cases e
theorem xat_of (h : kinB K ns fs = true) {g : Str} (hg : g ∈ fs) : XatOk K g fun n => decide (n ∈ ns) := fun n e => by
  have hn : n ∈ ns := of_decide_eq_true e
  obtain ⟨h1, h2⟩ := both (List.all_eq_true.mp h n hn)
  obtain ⟨h3, h4⟩ := both h2
  exact ⟨(xcB_ok h1).2, of_decide_eq_true (List.all_eq_true.mp h3 g hg)⟩
theorem hit_of {G : GX} {x1 x2 : Str} (hG : ∀ c n, ns[c]? = some n → G.cls c = He.ga K n) (h : hitB K ns x1 x2 = true) : HitOk G K (He.ga K x1) (He.ga K x2) fun c => ns[c]? := fun c n e =>
  ⟨hG c n e, of_decide_eq_true (List.all_eq_true.mp h n (List.mem_of_getElem? e))⟩
variable {G : GX} {P : Program} {w : World} {base : Heap} {x f y qual : Str} {c : Nat} {params : Arguments} {scope : Scope} {p1 p2 p3 p4 : Pos} {fd : FuncData}
theorem xf_of (h : raisB K x f = true) (hc : G.cls c = He.ga K x) (hf : G.fld c = f) (hm : mg x = some (.ref (He.ga K x))) (F : FunD K "__init__" qual params (initB f y p1 p2 p3 p4) scope [] [] (He.ma K (He.ga K x) "__init__") fd) (S : FnScope ["self", y] ["self", y] scope)
    (h0 : scope.names.lookup ("self" : Str) = some NameKind.local) (h1 : scope.names.lookup y = some NameKind.local) (hd : (y == ("__debug__" : Str)) = false) (hcd : (y == ("__classdict__" : Str)) = false) (hs : ∀ (cdv : Value) (a b : Addr), swapsWith (.Name y p3) (some (.Attribute (.Name "self" p1) f p2)) p4.line (envOfC qual scope a b cdv) = pure false)
    (bd : ∀ (kV doc pm : Value) (an : Option Addr) (cdv ct : Value) (us : List Value), us.length = (["self", y] : List Str).length → bindArgs (PySem.W.fnOf "__init__" qual params (initB f y p1 p2 p3 p4) scope .none kV doc pm an cdv ct) ⟨us, []⟩ = pure ((["self", y] : List Str).zip us)) : XF G P w K mg base x c := by
  obtain ⟨a1, h'⟩ := both h
  obtain ⟨a2, h'⟩ := both h'
  obtain ⟨a3, a4⟩ := both h'
  refine ⟨_, fd, ["self", y], by rw [hc]; exact oexB_ok a1, by rw [hc, hf]; exact of_decide_eq_true a2, by rw [hc]; exact of_decide_eq_true a3, of_decide_eq_true a4, ?_, F.bindsN bd, by rw [hc]; exact hm⟩
  rw [hc, hf]
  exact init_ok (k := 0) F S h0 h1 hd hcd fun cdv a => hs cdv a _
end

def tabsOk (K : PySem.W.Frag) (ls : List Str) : Bool := ls.all fun x => decide (mainGlobals ≠ (He.cT K (x, none)).2) && ls.all fun y => decide ((He.cT K (x, none)).2 = (He.cT K (y, none)).2 → x = y)
/-- the tables that a text's lambdas ask -/
def tbsOf (K : PySem.W.Frag) (ls : List Str) : List (Addr × Str) := ls.map fun x => ((He.cT K (x, none)).2, (x ++ ".<locals>.") ++ "<lambda>")
theorem lamK_mk {G : GX} {X : Cx} {q : Str} {cv : Value} {bs : Heap} {mg : Str → Option Value} (hq : X.env.qual = q) (hc : X.env.code = cv) (hb : X.base = bs) (hm : X.mg = mg) (h : ∃ c P, TabB bs mg c P ∧ cv = .ref c ∧ (P, q ++ "<lambda>") ∈ G.TB ∧ ∀ p ∈ G.TB, p.1 = P → p.2 = q ++ "<lambda>") : LamK G X := by
  subst hq hc hb hm
  exact ⟨h⟩
theorem lamK_of {K : PySem.W.Frag} {G : GX} {P : Program} {w : World} {mg : Str → Option Value} {base : Heap} {N : List Str} {x : Str} {st : Stmt} {fd : FuncData} {cdv : Value} {A : Around} {outer : List PySem.Env} {s : Shared} {H : Hp} {E : XK} {ls : List Str}
    (hG : G.TB = tbsOf K ls) (hx : x ∈ ls) (F : FunD K x x (defArgs st) (defBody st) (defScope st) [] [] (He.fAd K (x, none)) fd) (e : fd.code = cdv) (tb : TabB base mg (He.cT K (x, none)).1 (He.cT K (x, none)).2) (ok : tabsOk K ls = true) : LamK G (dcx P w K mg base N x (defScope st) (He.fAd K (x, none)) cdv A outer s H E) := by
  obtain ⟨oc, od, dV, kV, doc, pm, an, cdv', ct, osl, e1, lk, hcd, _, _⟩ := F.ex
  have e2 : cdv' = cdv := by rw [← e, e1]
  subst e2
  obtain ⟨c, e3⟩ := He.codeIn_ref hcd
  have e4 : He.codeOf K (x, none) = c := He.codeOf_eq lk (by rw [e, e3])
  have e5 : (He.cT K (x, none)).1 = c := e4
  generalize (He.cT K (x, none)).1 = c1 at e5 tb
  subst e5
  have m1 : ((He.cT K (x, none)).2, (x ++ ".<locals>.") ++ "<lambda>") ∈ G.TB := by
    rw [hG]
    exact List.mem_map.mpr ⟨x, hx, rfl⟩
  have m2 : ∀ p ∈ G.TB, p.1 = (He.cT K (x, none)).2 → p.2 = (x ++ ".<locals>.") ++ "<lambda>" := fun p hp hq => by
    rw [hG] at hp
    obtain ⟨y, hy, e5⟩ := List.mem_map.mp hp
    subst e5
    have q := (both (List.all_eq_true.mp ok x hx)).2
    have q2 := of_decide_eq_true (List.all_eq_true.mp q y hy)
    have e6 : x = y := q2 hq.symm
    rw [← e6]
  exact lamK_mk (q := x ++ ".<locals>.") rfl rfl rfl rfl ⟨_, _, tb, e3, m1, m2⟩

def sysB (K : PySem.W.Frag) : Bool := match K.lookup sysModules with
  | some o => decide (o.cls ≠ .type "list")
  | none => false
theorem sysB_ok {K : PySem.W.Frag} (h : sysB K = true) : (∃ o, K.lookup sysModules = some o) ∧ NoSys K := by
  unfold sysB at h
  cases e : K.lookup sysModules with
  | none => rw [e] at h; cases h
  | some o =>
    rw [e] at h
    refine ⟨⟨o, rfl⟩, ⟨fun o' e' => ?_⟩⟩
    rw [e] at e'
    cases e'
    exact of_decide_eq_true h
/-- what is told of K: names fa, defs fn, the Bool ex, the tables of the defs tf -/
structure SaysP (fa : List He.Fa) (fn : List He.DefD) (tf : List He.Defn) (ex : PySem.W.Frag → Bool) (h : Heap) (K : PySem.W.Frag) : Prop where
  d : He.SaysD fa fn K
  more : ex K = true
  hd : ∀ p ∈ tf, PySem.W.codeHdIn K (He.cT K p).1 (He.cT K p).2 = true
  out : ∀ p ∈ tf, K.lookup (He.cT K p).2 = none
  empty : ∀ p ∈ tf, h.get? (He.cT K p).2 = some { cls := .none, data := .fields #[] }
def partP (g : Addr → Option Obj) (n : Nat) : PySem.W.Frag := He.frT g (sysModules :: He.asD g n)
abbrev AlP : Type := He.AlD × Bool
def obsP (n : Nat) (fa : List He.Fa) (fn : List He.DefD) (tf : List He.Defn) (ex : PySem.W.Frag → Bool) (g : Addr → Option Obj) : AlP := (He.obsD fa fn (partP g n), ex (partP g n) && He.tabsB g tf (partP g n))
def valP (fn : List He.DefD) : AlP := (He.valD fn, true)
theorem saysP_of {n : Nat} {fa : List He.Fa} {fn : List He.DefD} {tf : List He.Defn} {ex : PySem.W.Frag → Bool} {h : Heap} (e : obsP n fa fn tf ex h.get? = valP fn) : SaysP fa fn tf ex h (partP h.get? n) := by
  have e1 : He.obsD fa fn (partP h.get? n) = He.valD fn := congrArg Prod.fst e
  obtain ⟨h1, h2⟩ := both (show (ex (partP h.get? n) && He.tabsB h.get? tf (partP h.get? n)) = true from congrArg Prod.snd e)
  have one : ∀ p ∈ tf, PySem.W.codeHdIn (partP h.get? n) (He.cT (partP h.get? n) p).1 (He.cT (partP h.get? n) p).2 = true ∧ ∃ o, h.get? (He.cT (partP h.get? n) p).2 = some o ∧ He.emptyTab o = true := fun p hp => by
    obtain ⟨h3, h4⟩ := both (List.all_eq_true.mp h2 p hp)
    refine ⟨h3, ?_⟩
    split at h4
    · rename_i o q
      exact ⟨o, q, h4⟩
    · cases h4
  refine ⟨e1, h1, fun p hp => (one p hp).1, fun p hp => ?_, fun p hp => ?_⟩
  · obtain ⟨_, o, q, z⟩ := one p hp
    exact He.frT_none q z
  · obtain ⟨_, o, q, z⟩ := one p hp
    rw [q, He.emptyTab_eq z]
def hookP (n : Nat) (fa : List He.Fa) (fn : List He.DefD) (tf : List He.Defn) (ex : PySem.W.Frag → Bool) : PySem.W.Hook where
  α := AlP
  obs := fun s => obsP n fa fn tf ex s.heap.get?
  val := fun _ => valP fn
  says := fun _ h => ∃ K : PySem.W.Frag, K.In h ∧ SaysP fa fn tf ex h K
  of := fun _ _ e => ⟨_, He.frT_in, saysP_of e⟩
  keeps := fun _ _ _ ⟨K, hK, c⟩ k => ⟨K, PySem.W.Frag.In.keeps hK k, ⟨c.d, c.more, c.hd, c.out, fun p hp => k _ _ (c.empty p hp)⟩⟩
theorem obsP_eq {n : Nat} {fa : List He.Fa} {fn : List He.DefD} {tf : List He.Defn} {ex : PySem.W.Frag → Bool} {g : Addr → Option Obj} {s : Shared} (h : ∀ a, g a = s.heap.get? a) : obsP n fa fn tf ex g = (hookP n fa fn tf ex).obs s := by
  have e : g = s.heap.get? := funext h
  rw [e] <;> rfl
end Pi
namespace Pi
open PySem PySem.Spec PyProof.Rows L2 LamX

/-- what is tracked there: the defs' empty tables, the script, which stands still -/
def lawH (K : PySem.W.Frag) (tl : List Addr) (a : Addr) (o : Obj) (xs : List V) : Hp := fun b =>
  if b ∈ tl then some (.tbl #[]) else if b = a ∧ K.lookup a = none then some (.frz o (.lst xs)) else none
section
variable {K : PySem.W.Frag} {tl : List Addr} {a : Addr} {o : Obj} {xs : List V}
theorem lawH_tab {b : Addr} (h : b ∈ tl) : lawH K tl a o xs b = some (.tbl #[]) := if_pos h
theorem lawH_cases {b : Addr} {u : HO} (h : lawH K tl a o xs b = some u) : (b ∈ tl ∧ u = .tbl #[]) ∨ (b ∉ tl ∧ b = a ∧ K.lookup a = none ∧ u = .frz o (.lst xs)) := by
  unfold lawH at h
  by_cases m : b ∈ tl
  · rw [if_pos m] at h
    exact .inl ⟨m, (Option.some.inj h).symm⟩
  · rw [if_neg m] at h
    by_cases z : b = a ∧ K.lookup a = none
    · rw [if_pos z] at h
      exact .inr ⟨m, z.1, z.2, (Option.some.inj h).symm⟩
    · rw [if_neg z] at h
      cases h
theorem lawH_none {b : Addr} (m : b ∉ tl) (z : b = a → K.lookup a ≠ none) : lawH K tl a o xs b = none := by
  unfold lawH
  rw [if_neg m, if_neg fun q => z q.1 q.2]
end
abbrev scrO (vs : List Value) : Obj := { cls := .type "list", data := .seq vs.toArray }
abbrev tabO : Obj := { cls := .none, data := .fields #[] }
theorem law_go {P : Program} {w : World} {K : PySem.W.Frag} {mg mb : Str → Option Value} {k : Nat} {fa a : Addr} {cs : List (Addr × Addr)} {fd : FuncData} {x : Str} {sp : Sp} {s1 : Shared} {vs : List Value} {ns : List Int}
    (inK : K.In s1.heap) (gl : s1.heap.Ns mainGlobals mg) (bl : s1.heap.Ns builtinsNs mb) (bb : ∀ y : Str, y ≠ "__name__" → mb y = bootBuiltins y) (lim0 : s1.heap.NoLimit) (gs : s1.gens = #[])
    (tabs : ∀ p ∈ cs, s1.heap.get? p.2 = some tabO) (tabK : ∀ p ∈ cs, K.lookup p.2 = none) (heads : ∀ p ∈ cs, PySem.W.CodeHd s1.heap p.1 p.2)
    (bmod : ∃ (m : Addr) (om : Obj), mg "__builtins__" = some (.ref m) ∧ m ≠ builtinsNs ∧ s1.heap.get? m = some om ∧ om.cls = .type "module" ∧ om.dict = some builtinsNs ∧ om.data = .plain)
    (scr : s1.heap.get? a = some (scrO vs)) (nums : IntsAre vs ns) (short : ns.length ≤ sizeLine) (room : Room k callerA)
    (fn : ∀ base : Heap, K.In base → base.Ns mainGlobals mg → (∀ p ∈ cs, TabB base mg p.1 p.2) → FnG P w K mg base k fa fd [x] sp) (bind : ∀ (s : Shared) (u : Value), BindsTo s fd ⟨[u], []⟩ [(x, u)])
    (hsp : SqL K (lawH K (cs.map Prod.snd) a (scrO vs) (ns.map V.int)) a (ns.map V.int) → sp [.ref a] (lawH K (cs.map Prod.snd) a (scrO vs) (ns.map V.int)) (fun v _ => v = .bl true) fun _ _ _ => False) :
    codeAny (model P w) callerA (.call (.ref fa) ⟨[.ref a], []⟩) (fun r s2 => r = .ok (.ret (.bool true)) ∧ OldK s1.heap s2.heap ∧ s2.os = s1.os ∧ AllBare s2.gens) s1 := by
  have rel : Vals (ns.map V.int) vs := vals_ints nums
  have cnt : vs.length = ns.length := nums.length
  have tabOf : ∀ {b : Addr}, b ∈ cs.map Prod.snd → ∃ p ∈ cs, p.2 = b := fun hb => by
    obtain ⟨p, hp, e⟩ := List.mem_map.mp hb
    exact ⟨p, hp, e⟩
  have isTab : ∀ {b : Addr}, b ∈ cs.map Prod.snd → s1.heap.get? b = some tabO := fun hb => by
    obtain ⟨p, hp, rfl⟩ := tabOf hb
    exact tabs p hp
  have aOut : a ∉ cs.map Prod.snd := fun z => by
    have q := (isTab z).symm.trans scr
    cases q
  generalize hH : lawH K (cs.map Prod.snd) a (scrO vs) (ns.map V.int) = H at hsp
  -- what the heap tracks there
  have ok : HOk P w H s1.heap := fun b u e => by
    rw [← hH] at e
    rcases lawH_cases e with ⟨hb, rfl⟩ | ⟨_, rfl, _, rfl⟩
    · exact isTab hb
    · exact ⟨scr, by rw [List.length_map]; exact short, vs, _, rel, scr⟩
  have seen : SqL K H a (ns.map V.int) := by
    cases e : K.lookup a with
    | none =>
      refine .inl (.inr ⟨scrO vs, ?_⟩)
      rw [← hH]
      unfold lawH
      rw [if_neg aOut, if_pos ⟨rfl, e⟩]
    | some u =>
      have eu : some (scrO vs) = some u := scr.symm.trans (inK a u e)
      refine .inr ⟨scrO vs, vs.toArray, 0, by rw [eu]; exact e, rfl, rfl, rfl, ?_, by simpa using rel⟩
      rw [List.size_toArray, cnt]
      exact short
  -- what it leaves alone
  have alone : ∀ {b : Addr} {u : Obj}, s1.heap.get? b = some u → u ≠ tabO → (b = a → K.lookup a ≠ none) → H b = none := fun {b u} e n1 n2 => by
    rw [← hH]
    refine lawH_none (fun m => n1 ?_) n2
    exact Option.some.inj (e.symm.trans (isTab m))
  have notScr : ∀ {b : Addr} {u : Obj}, s1.heap.get? b = some u → (∀ l m, u.data ≠ .seq l m) → b = a → K.lookup a ≠ none := fun {b u} e n z => by
    rw [z] at e
    have q : scrO vs = u := Option.some.inj (scr.symm.trans e)
    exact absurd (show u.data = _ from by rw [← q]) (n vs.toArray 0)
  have ofDict : ∀ {b : Addr} {u : Obj} {es : Array DictEntry} {ep : Nat}, s1.heap.get? b = some u → u.data = .dict es ep → H b = none := fun {b u es ep} e d =>
    alone e (fun z => by rw [z] at d; cases d) (notScr e fun l m z => by rw [d] at z; cases z)
  have nsOf : ∀ {b : Addr} {m : Str → Option Value}, s1.heap.Ns b m → (hidT s1.heap H).Ns b m := by
    rintro b m ⟨u, es, ep, h1, h2, h3⟩
    exact ⟨u, es, ep, hidT_get h1 (ofDict h1 h2), h2, h3⟩
  have inB : K.In (hidT s1.heap H) := fun b u e => by
    refine hidT_get (inK b u e) ?_
    rw [← hH]
    refine lawH_none (fun m => ?_) fun z => ?_
    · obtain ⟨p, hp, rfl⟩ := tabOf m
      rw [tabK p hp] at e
      cases e
    · rw [← z, e]
      exact Option.some_ne_none u
  obtain ⟨lm, l1, l2⟩ := lim0
  have md : L2.Mod K mg (hidT s1.heap H) := { kin := inB, glob := nsOf gl, blt := ⟨mb, nsOf bl, bb⟩, nolimit := ⟨lm, nsOf l1, l2⟩ }
  have tb : ∀ p ∈ cs, TabB (hidT s1.heap H) mg p.1 p.2 := fun p hp => by
    obtain ⟨u, us, file, tf, flags, tg, inF, text, tt, c1, c2, c3, c4, c5, c6, c7, c8, c9, c10⟩ := heads p hp
    obtain ⟨m, om, m1, m2, m3, m4, m5, m6⟩ := bmod
    obtain ⟨ug, eg, pg, g1, g2, _⟩ := id gl
    have tp := tabs p hp
    have plain : H m = none := alone m3 (fun z => by rw [z] at m6; cases m6) (notScr m3 fun l j z => by rw [m6] at z; cases z)
    have hc : H p.1 = none := alone c1 (fun z => by
      rw [z] at c3
      cases c3
      simp at c4) (notScr c1 fun l j z => by rw [c3] at z; cases z)
    refine { code := ⟨u, us, file, tf, flags, tg, inF, text, tt, hidT_get c1 hc, c2, c3, c4, c5, c6, c7, c8, c9, c10⟩, bm := ⟨m, om, m1, m2, fun z => ?_, fun z => ?_, hidT_get m3 plain, m4, m5, m6⟩, gP := fun z => ?_ }
    · rw [z] at m3
      cases m3.symm.trans g1
      rw [m6] at g2
      cases g2
    · rw [z] at m3
      cases m3.symm.trans tp
      cases m6
    · rw [z] at g1
      cases g1.symm.trans tp
      cases g2
  have env : Env0 P w K mg (hidT s1.heap H) callerA [] s1 H :=
    { frames := rfl, mod := md, bs := fun b u e => of_hidT e, bsz := Nat.le_of_eq (hidT_size _ _), funs := trivial, frf := fun b hb => (nomatch (show b ∈ ([] : List Addr) from hb)), hok := ok, bare := .of_eq gs }
  refine codeAny_mono ((fn _ inB (nsOf gl) tb).run callerA [] s1 H ⟨[.ref a], []⟩ [.ref a] [.ref a] _ _ room rfl env (bind s1 (.ref a)) (.cons rfl .nil) (hsp seen)) fun r s2 hr => ?_
  cases r with
  | error e =>
    obtain ⟨_, _, _, _, _, _, _, _, _, _, _, _, z⟩ := hr
    exact z.elim
  | ok fl =>
    cases fl with
    | next => exact False.elim hr
    | brk => exact False.elim hr
    | cont => exact False.elim hr
    | ret u =>
      obtain ⟨v, H2, o1, o2, un, ok2, rv, ev⟩ := hr
      have ev' : v = .bl true := ev
      rw [ev'] at rv
      have eu : u = .bool true := rv
      -- a table may have grown, all else is as it was
      have same : ∀ b q, b ∉ cs.map Prod.snd → s1.heap.get? b = some q → s2.heap.get? b = some q := fun b q nb e => by
        cases hb : H b with
        | none => exact un.keep b q e hb (by intro z; cases z) (by intro z; cases z)
        | some t =>
          have hb' := hb
          rw [← hH] at hb'
          rcases lawH_cases hb' with ⟨m, _⟩ | ⟨_, rfl, _, rfl⟩
          · exact absurd m nb
          · have z := (ok2 _ _ (un.frzs _ _ _ hb)).1
            rw [scr] at e
            rw [← Option.some.inj e]
            exact z
      have more : ∀ p ∈ cs, ∃ ws : Array Value, s2.heap.get? p.2 = some { cls := .none, data := .fields ws } := fun p hp => by
        have hp2 : H p.2 = some (.tbl #[]) := by
          rw [← hH]
          exact lawH_tab (List.mem_map.mpr ⟨p, hp, rfl⟩)
        obtain ⟨ws, z⟩ := un.tbls p.2 #[] hp2
        exact ⟨#[] ++ ws, ok2 _ _ z⟩
      refine ⟨by rw [eu], { old := fun b q e => ?_, there := fun b q e => ?_ }, o1, o2⟩
      · by_cases m : b ∈ cs.map Prod.snd
        · obtain ⟨p, hp, rfl⟩ := tabOf m
          obtain ⟨ws, hw⟩ := more p hp
          have eq : q = tabO := Option.some.inj (e.symm.trans (tabs p hp))
          subst eq
          exact .inr (.inl ⟨((heads p hp).tab (tabs p hp)).isCodeTable, rfl, #[], ws, rfl, by rw [Array.empty_append]; exact hw⟩)
        · exact .inl (same b q m e)
      · by_cases m : b ∈ cs.map Prod.snd
        · obtain ⟨p, hp, rfl⟩ := tabOf m
          exact ⟨_, (more p hp).choose_spec⟩
        · exact ⟨q, same b q m e⟩
/-- what is known of the law's def at the head's heap h -/
def LawG (l : PySem.W.OpenLaw) (w : World) (K : PySem.W.Frag) (k n : Nat) (x : Str) (mg : Str → Option Value) (fa : Addr) (h : Heap) : Prop :=
  ∃ (fd : FuncData) (cs : List (Addr × Addr)) (sp : Sp), (∀ p ∈ cs, h.get? p.2 = some tabO) ∧ (∀ p ∈ cs, K.lookup p.2 = none) ∧ (∀ p ∈ cs, PySem.W.CodeHd h p.1 p.2) ∧ (∀ (s : Shared) (u : Value), BindsTo s fd ⟨[u], []⟩ [(x, u)]) ∧
    (∀ (a : Addr) (vs : List Value) (ns : List Int), ns.length ≤ n → (∀ z ∈ ns, Builtin.Int.intBits z ≤ 1048576) → SqL K (lawH K (cs.map Prod.snd) a (scrO vs) (ns.map V.int)) a (ns.map V.int) → sp [.ref a] (lawH K (cs.map Prod.snd) a (scrO vs) (ns.map V.int)) (fun v _ => v = .bl true) fun _ _ _ => False) ∧
    ∀ base : Heap, K.In base → base.Ns mainGlobals mg → (∀ p ∈ cs, TabB base mg p.1 p.2) → FnG l.prog w K mg base k fa fd [x] sp
theorem walkG {l : PySem.W.OpenLaw} {n k : Nat} {q : Program} {loose : List Str} {XP : (Str → Option Value) → Heap → Prop} {YP : World → Heap → Prop} {d : DefRec} {x : Str}
    (most : l.most = some n) (most2 : n ≤ sizeLine) (nod : d.params.defaults = []) (room : Room k callerA)
    (at_ : ∀ (w : World) (mg : Str → Option Value) (fa : Addr) (h : Heap), YP w h → h.Ns mainGlobals mg → mg d.name = some (.ref fa) → ∃ K : PySem.W.Frag, K.In h ∧ LawG l w K k n x mg fa h) :
    PySem.W.WalkO q loose XP YP l.row.toRowW d [] (fun f vs => PySem.call f vs) := by
  refine Att.attach_callB most nod fun w s0 s1 mg mb fa o pm cd doc a vs ns G Y _ _ _ hmg hobj hints hlen hbits hgs => ?_
  obtain ⟨K, inK, fd, cs, sp, h1, h2, h3, h4, h5, h6⟩ := at_ w mg fa _ Y G.T.g hmg
  exact law_go inK G.T.g G.T.b G.T.builtins G.T.nolimit hgs h1 h2 h3 G.T.bmain hobj hints (Nat.le_trans hlen most2) room h6 h4 (h5 a vs ns hlen hbits)
end Pi
namespace Pi
open PySem PySem.Spec PyProof.Rows L2 LamX

def retOf (st : Stmt) : Expr := match (defBody st).getLast? with
  | some (.Return (some e) _) => e
  | _ => .Constant .none 0 ⟨0, 0, 0, 0⟩
def clsBody (st : Stmt) : List Stmt := match st with
  | .ClassDef _ _ _ b _ _ _ _ _ _ _ => b
  | _ => []
def methOf (st : Stmt) : Stmt := (clsBody st).getD 0 (.Pass ⟨0, 0, 0, 0⟩)
theorem told_of {G : GX} {P : Program} {w : World} {K : PySem.W.Frag} {mg : Str → Option Value} {base : Heap} {x : Str} {st : Stmt} {f C1 C2 : Addr} {fd : FuncData} {a fo er en x1 x2 : Str} {ret : Expr} {kt k2 kk j1 j2 : Nat} {q : Nat → Pos} {hit : Nat → Option Str} {fr : Env → Mo D} {j : Nat}
    (hB : defBody st = toldB a fo er en x1 x2 ret kt k2 kk j1 j2 q) (tx : ToldTx (defScope st) a fo er en x1 x2 kt k2 kk j1 j2 q x) (hh : HitOk G K C1 C2 hit) (m1 : mg x1 = some (.ref C1)) (m2 : mg x2 = some (.ref C2)) (hm : mg x = some (.ref f)) (hs : ∃ o, K.lookup sysModules = some o)
    (F : FunD K x x (defArgs st) (defBody st) (defScope st) [] [] f fd) (S : FnScope [a, fo, er, en] [a] (defScope st))
    (bd : ∀ (kV doc pm : Value) (an : Option Addr) (cdv ct : Value) (us : List Value), us.length = ([a] : List Str).length → bindArgs (PySem.W.fnOf x x (defArgs st) (defBody st) (defScope st) .none kV doc pm an cdv ct) ⟨us, []⟩ = pure (([a] : List Str).zip us))
    (hr : ∀ (A : Around) (outer : List PySem.Env) (cdg : Value) (s : Shared) (H : Hp), COk (dcx P w K mg base [a, fo, er, en] x (defScope st) f cdg A outer s H fun _ _ _ => False) → Room j (dcx P w K mg base [a, fo, er, en] x (defScope st) f cdg A outer s H fun _ _ _ => False).A →
      PD G (dcx P w K mg base [a, fo, er, en] x (defScope st) f cdg A outer s H fun _ _ _ => False) (wE fun _ _ _ => False) H ret fr) : ToldF G P w K mg base x hit fr j := by
  have b := F.bindsN bd
  have kp := F.kp
  rw [hB] at F
  refine ⟨defScope st, a, fo, er, en, x1, x2, ret, kt, k2, kk, j1, j2, q, f, C1, C2, fd, defArgs st, tx, hh, m1, m2, hm, kp, F, b, S, fun A outer cdg s H hg rm => ?_⟩
  exact hr A outer cdg s H ⟨hg, (by have h := rm.un; omega : (A.deeper (tenv x (defScope st) s f cdg)).units + 200 < cLine), hs⟩ rm

theorem reps_ints {K : PySem.W.Frag} {F : Hp} {al : List Addr} : ∀ ns : List Int, RepAll K F al (ns.map V.int) (ns.map D.int)
  | [] => .nil
  | n :: ns => .cons (.int n) (reps_ints ns)
theorem law_sp {G : GX} {K : PySem.W.Frag} {ls : List Str} {ns : List Int} {a : Addr} {vs : List Value} {m : List D → Mo D} (hTB : G.TB = tbsOf K ls) (hm : ∃ st', m [.kls (ns.map .int)] [] = .ok (.bl true) st')
    (hS : SqL K (lawH K ((ls.map fun x => He.cT K (x, none)).map Prod.snd) a (scrO vs) (ns.map V.int)) a (ns.map V.int)) :
    spM G K 1 m [.ref a] (lawH K ((ls.map fun x => He.cT K (x, none)).map Prod.snd) a (scrO vs) (ns.map V.int)) (fun v _ => v = .bl true) fun _ _ _ => False := by
  generalize hH : lawH K ((ls.map fun x => He.cT K (x, none)).map Prod.snd) a (scrO vs) (ns.map V.int) = H at hS
  obtain ⟨st', em⟩ := hm
  classical
  refine ⟨rfl, fun b => if b = a ∧ H a = some (.frz (scrO vs) (.lst (ns.map V.int))) then some .frz else none, [], [], [.kls (ns.map .int)], ?_, .cons (.kls ?_ (reps_ints ns)) .nil, ?_⟩
  · refine ⟨fun b t e => ?_, rfl, fun k b m e => (by simp at e), List.nodup_nil, fun p hp => ?_, fun b e => ?_⟩
    · split at e
      · rename_i z
        exact ⟨_, by rw [z.1]; exact z.2⟩
      · cases e
    · rw [hTB] at hp
      obtain ⟨x, hx, e⟩ := List.mem_map.mp hp
      have hp1 : H p.1 = some (.tbl #[]) := by
        rw [← hH]
        refine lawH_tab ?_
        rw [← e]
        exact List.mem_map.mpr ⟨_, List.mem_map.mpr ⟨x, hx, rfl⟩, rfl⟩
      refine ⟨#[], hp1, ?_, fun pos cv hc => ?_⟩
      · simp [TriplesOk]
      · simp [codeAmong] at hc
    · split at e <;> cases e
  · rcases hS with (h | ⟨o, h⟩) | h
    · rw [← hH] at h
      rcases lawH_cases h with ⟨_, z⟩ | ⟨_, _, _, z⟩ <;> cases z
    · have h2 := h
      rw [← hH] at h2
      rcases lawH_cases h2 with ⟨_, z⟩ | ⟨_, _, _, z⟩
      · cases z
      · cases z
        exact .inl (.inr ⟨scrO vs, fz_of (if_pos ⟨rfl, h⟩) h (by intro ps q; cases q)⟩)
    · exact .inr h
  · rw [em]
    intro v T' al' H' _ _ r
    exact rep_bl r
theorem lawG_of {l : PySem.W.OpenLaw} {w : World} {K : PySem.W.Frag} {h : Heap} {mg : Str → Option Value} {k n : Nat} {x y : Str} {st : Stmt} {fd : FuncData} {f : Addr} {G : GX} {ls : List Str} {m : List D → Mo D} {fa : List He.Fa} {fn : List He.DefD} {ex : PySem.W.Frag → Bool} (X : K.In h)
    (c : SaysP fa fn (ls.map fun z => (z, none)) ex h K) (hTB : G.TB = tbsOf K ls) (F : FunD K x x (defArgs st) (defBody st) (defScope st) [] [] f fd)
    (bd : ∀ (kV doc pm : Value) (an : Option Addr) (cdv ct : Value) (us : List Value), us.length = ([y] : List Str).length → bindArgs (PySem.W.fnOf x x (defArgs st) (defBody st) (defScope st) .none kV doc pm an cdv ct) ⟨us, []⟩ = pure (([y] : List Str).zip us))
    (hf : ∀ base : Heap, K.In base → base.Ns mainGlobals mg → (∀ z ∈ ls, TabB base mg (He.cT K (z, none)).1 (He.cT K (z, none)).2) → FnG l.prog w K mg base k f fd [y] (spM G K 1 m))
    (math : ∀ ns : List Int, ns.length ≤ n → (∀ z ∈ ns, Builtin.Int.intBits z ≤ 1048576) → ∃ st', m [.kls (ns.map .int)] [] = .ok (.bl true) st') : LawG l w K k n y mg f h := by
  have of : ∀ p ∈ ls.map (fun z => He.cT K (z, none)), ∃ q ∈ ls.map (fun z => ((z, none) : He.Defn)), He.cT K q = p := fun p hp => by
    obtain ⟨z, hz, e⟩ := List.mem_map.mp hp
    exact ⟨(z, none), List.mem_map.mpr ⟨z, hz, rfl⟩, e⟩
  refine ⟨fd, ls.map fun z => He.cT K (z, none), spM G K 1 m, fun p hp => ?_, fun p hp => ?_, fun p hp => ?_, fun s u => ?_, fun a vs ns hl hb hS => law_sp hTB (math ns hl hb) hS, fun base XB GB tb => hf base XB GB fun z hz => tb _ (List.mem_map.mpr ⟨z, hz, rfl⟩)⟩
  · obtain ⟨q, hq, rfl⟩ := of p hp
    exact c.empty q hq
  · obtain ⟨q, hq, rfl⟩ := of p hp
    exact c.out q hq
  · obtain ⟨q, hq, rfl⟩ := of p hp
    exact PySem.W.codeHd_of_K X (c.hd q hq)
  · have b := FunD.bindsA (ps := [y]) F bd
    exact b s [u] rfl
end Pi
namespace Pi
open PySem PySem.Spec PyProof.Rows L2 LamX
def eqSoon : D → D → Option Bool
  | .str a, .str b => some (a == b)
  | .tup xs, .tup [] => some xs.isEmpty
  | .lst xs, .lst [] => some xs.isEmpty
  | _, _ => none
def oEqX (x y : D) : Option D := match eqSoon x y with
  | some b => some (.bl b)
  | none => oEq x y
def oNeX (x y : D) : Option D := match eqSoon x y with
  | some b => some (.bl (!b))
  | none => oNe x y
section
variable {G : GX} {X : Cx}
theorem eqSoon_some {x y : D} {b : Bool} (h : eqSoon x y = some b) : (∃ a c, x = .str a ∧ y = .str c ∧ b = (a == c)) ∨ (∃ xs, x = .tup xs ∧ y = .tup [] ∧ b = xs.isEmpty) ∨ ∃ xs, x = .lst xs ∧ y = .lst [] ∧ b = xs.isEmpty := by
  unfold eqSoon at h
  split at h
  · exact .inl ⟨_, _, rfl, rfl, (Option.some.inj h).symm⟩
  · exact .inr (.inl ⟨_, rfl, rfl, (Option.some.inj h).symm⟩)
  · exact .inr (.inr ⟨_, rfl, rfl, (Option.some.inj h).symm⟩)
  · cases h
theorem tup_nil {pins : List (Addr × Obj)} {s : Shared} {σ : L2.St} {T : Tg} {al : List Addr} {H : Hp} {v u : V} {vv uu : Value} {xs : List D} (ok : COk X) (I : Inv X pins σ H s) (rx : RepH X.K T al H v (.tup xs)) (ry : RepH X.K T al H u (.tup [])) (rv : RelV v vv) (ru : RelV u uu) :
    SeqAt.RcAt X.A s vv uu xs.isEmpty ∧ SeqAt.RcNeAt X.A s vv uu (!xs.isEmpty) := by
  obtain ⟨a, vs, rfl, h1, r1⟩ := r_tup rx
  obtain ⟨b, us, rfl, h2, r2⟩ := r_tup ry
  have e0 := r2.length
  cases us with
  | cons _ _ => cases e0
  | nil =>
    cases rv
    cases ru
    obtain ⟨its, q1, p1, _⟩ := I.tuple h1
    obtain ⟨its2, q2, p2, _⟩ := I.tuple h2
    have hu : X.A.units < cLine := by have := ok.un; omega
    have n1 : its.length = xs.length := by rw [← r1.length]; exact (q1.length).symm
    have n2 : its2.length = 0 := (q2.length).symm
    have z : its2 = [] := List.eq_nil_of_length_eq_zero n2
    subst z
    have e : ((List.range (min its.toArray.size ([] : List Value).toArray.size)).all (fun _ => true) && its.toArray.size == ([] : List Value).toArray.size) = xs.isEmpty := by
      cases xs with
      | nil => simp [n1]
      | cons x xs => simp [n1]
    have A := SeqAt.RcAt.tuples (A := X.A) (s := s) (e := fun _ => true) p1 p2 hu (fun j h1 h2 => by simp at h2)
    have B := SeqAt.RcNeAt.tuples (A := X.A) (s := s) (e := fun _ => true) p1 p2 hu (fun j h1 h2 => by simp at h2)
    rw [e] at A B
    exact ⟨A, B⟩
theorem lst_nil {pins : List (Addr × Obj)} {s : Shared} {σ : L2.St} {T : Tg} {al : List Addr} {H : Hp} {v u : V} {vv uu : Value} {xs : List D} (ok : COk X) (I : Inv X pins σ H s) (rx : RepH X.K T al H v (.lst xs)) (ry : RepH X.K T al H u (.lst [])) (rv : RelV v vv) (ru : RelV u uu) :
    SeqAt.RcAt X.A s vv uu xs.isEmpty ∧ SeqAt.RcNeAt X.A s vv uu (!xs.isEmpty) := by
  obtain ⟨a, vs, rfl, h1, r1⟩ := r_lst rx
  obtain ⟨b, us, rfl, h2, r2⟩ := r_lst ry
  have e0 := r2.length
  cases us with
  | cons _ _ => cases e0
  | nil =>
    cases rv
    cases ru
    obtain ⟨its, q1, ⟨o1, m1, g1, g2, _, g3⟩, _⟩ := I.list h1
    obtain ⟨its2, q2, ⟨o2, m2, k1, k2, _, k3⟩, _⟩ := I.list h2
    have p1 : s.heap.IsList a its.toArray := ⟨o1, g1, g2, m1, g3⟩
    have p2 : s.heap.IsList b its2.toArray := ⟨o2, k1, k2, m2, k3⟩
    have hu : X.A.units < cLine := by have := ok.un; omega
    have n1 : its.length = xs.length := by rw [← r1.length]; exact (q1.length).symm
    have n2 : its2.length = 0 := (q2.length).symm
    have z : its2 = [] := List.eq_nil_of_length_eq_zero n2
    subst z
    cases xs with
    | nil =>
      have z : its = [] := List.eq_nil_of_length_eq_zero n1
      subst z
      exact ⟨SeqAt.RcAt.lists (e := fun _ => true) p1 p2 rfl hu fun j h1 h2 => by simp at h2, SeqAt.RcNeAt.lists (e := fun _ => true) p1 p2 rfl hu fun j h1 h2 => by simp at h2⟩
    | cons x xs =>
      have hsz : (its.toArray.size != ([] : List Value).toArray.size) = true := by simp [n1]
      exact ⟨SeqAt.RcAt.lists_lengths p1 p2 hsz hu, SeqAt.RcNeAt.lists_lengths p1 p2 hsz hu⟩
theorem bin_eqX (ok : COk X) (ns : NoSys X.K) : BinR G X (compareOp .Eq) oEqX := by
  intro x y z hz pins s σ st T al H v u vv uu Q I w rx ry rv ru q
  unfold oEqX at hz
  cases e : eqSoon x y with
  | none =>
    rw [e] at hz
    exact bin_eq ok ns x y z hz pins s σ st T al H v u vv uu Q I w rx ry rv ru q
  | some b =>
    rw [e] at hz
    have ez : D.bl b = z := Option.some.inj hz
    subst ez
    rcases eqSoon_some e with ⟨a, c, rfl, rfl, rfl⟩ | ⟨xs, rfl, rfl, rfl⟩ | ⟨xs, rfl, rfl, rfl⟩
    · obtain ⟨as, h1, _⟩ := rx.reads I ok ns rfl rv
      obtain ⟨bs, h2, _⟩ := ry.reads I ok ns rfl ru
      have hu : X.A.units + min (PyData.str a).depth (PyData.str c).depth < cLine := by
        have := ok.un
        simp [PyData.depth]
        omega
      exact SeqAt.eq_plain h1 h2 rfl rfl hu ⟨.bl _, H, I, rfl, q (.bl _) T al H .refl w (.bl _)⟩
    · exact (tup_nil ok I rx ry rv ru).1 _ _ _ _ ⟨.bl _, H, I, rfl, q (.bl _) T al H .refl w (.bl _)⟩
    · exact (lst_nil ok I rx ry rv ru).1 _ _ _ _ ⟨.bl _, H, I, rfl, q (.bl _) T al H .refl w (.bl _)⟩
theorem bin_neX (ok : COk X) (ns : NoSys X.K) : BinR G X (compareOp .NotEq) oNeX := by
  intro x y z hz pins s σ st T al H v u vv uu Q I w rx ry rv ru q
  unfold oNeX at hz
  cases e : eqSoon x y with
  | none =>
    rw [e] at hz
    exact bin_ne ok ns x y z hz pins s σ st T al H v u vv uu Q I w rx ry rv ru q
  | some b =>
    rw [e] at hz
    have ez : D.bl (!b) = z := Option.some.inj hz
    subst ez
    rcases eqSoon_some e with ⟨a, c, rfl, rfl, rfl⟩ | ⟨xs, rfl, rfl, rfl⟩ | ⟨xs, rfl, rfl, rfl⟩
    · obtain ⟨as, h1, _⟩ := rx.reads I ok ns rfl rv
      obtain ⟨bs, h2, _⟩ := ry.reads I ok ns rfl ru
      have hu : X.A.units + min (PyData.str a).depth (PyData.str c).depth < cLine := by
        have := ok.un
        simp [PyData.depth]
        omega
      exact SeqAt.ne_plain h1 h2 rfl rfl hu ⟨.bl _, H, I, rfl, q (.bl _) T al H .refl w (.bl _)⟩
    · exact (tup_nil ok I rx ry rv ru).2 _ _ _ _ ⟨.bl _, H, I, rfl, q (.bl _) T al H .refl w (.bl _)⟩
    · exact (lst_nil ok I rx ry rv ru).2 _ _ _ _ ⟨.bl _, H, I, rfl, q (.bl _) T al H .refl w (.bl _)⟩
end
end Pi
namespace Pi
open PySem PySem.Spec PyProof.Rows L2 LamX
/-- n: no more than so many items stand in the list by now -/
def lcO (b : D → Env → Option Env) (c : Env → Mo Bool) (f1 : Env → Mo (List D)) (b1 : D → Env → Option Env) (c1 : Env → Mo Bool) (e : Env → Mo D) (vs1 : List Nat) (r : Env) : Nat → List D → Mo (List D)
  | _, [] => pure []
  | n, x :: xs => Mo.opt (b x r) >>= fun r1 => nx (c r1) >>= fun k => match k with
    | true => nx (f1 r1) >>= fun ys => lim (n + ys.length) ys >>= fun zs => lcL b1 c1 e (wipeE vs1 r1) zs >>= fun us => lcO b c f1 b1 c1 e vs1 r (n + ys.length) xs >>= fun ws => pure (us ++ ws)
    | false => lcO b c f1 b1 c1 e vs1 r n xs
def nLc2 (f : Env → Mo (List D)) (b : D → Env → Option Env) (vs : List Nat) (c : Env → Mo Bool) (f1 : Env → Mo (List D)) (b1 : D → Env → Option Env) (vs1 : List Nat) (c1 : Env → Mo Bool) (e : Env → Mo D) : Env → Mo (List D) :=
  fun r => f r >>= fun xs => lcO b c f1 b1 c1 e vs1 (wipeE vs r) 0 xs
theorem mo_assoc {a b c : Type} (f : Mo a) (g : a → Mo b) (h : b → Mo c) : (f >>= g) >>= h = f >>= fun x => g x >>= h := by
  funext st
  rw [bind_ap, bind_ap, bind_ap]
  cases f st <;> rfl
theorem mo_pure {a b : Type} (x : a) (g : a → Mo b) : (pure x : Mo a) >>= g = g x := rfl
section
variable (b : D → Env → Option Env) (c : Env → Mo Bool) (f1 : Env → Mo (List D)) (b1 : D → Env → Option Env) (c1 : Env → Mo Bool) (e : Env → Mo D) (vs1 : List Nat) (r : Env)
def cOut (n : Nat) (acc xs : List D) : Mo (List D) := lcO b c f1 b1 c1 e vs1 r n xs >>= fun zs => pure (acc ++ zs)
def cIn (n : Nat) (rest : List D) (rw : Env) (acc ys : List D) : Mo (List D) := lcL b1 c1 e rw ys >>= fun us => lcO b c f1 b1 c1 e vs1 r n rest >>= fun ws => pure (acc ++ (us ++ ws))
theorem cOut_nil (n : Nat) (acc : List D) : cOut b c f1 b1 c1 e vs1 r n acc [] = pure acc := by
  show (pure [] >>= fun zs => pure (acc ++ zs)) = _
  rw [mo_pure, List.append_nil]
theorem cOut_cons (n : Nat) (acc : List D) (x : D) (xs : List D) : cOut b c f1 b1 c1 e vs1 r n acc (x :: xs) = Mo.opt (b x r) >>= fun r1 => nx (c r1) >>= fun k => match k with
    | true => nx (f1 r1) >>= fun ys => lim (n + ys.length) ys >>= fun zs => cIn b c f1 b1 c1 e vs1 r (n + ys.length) xs (wipeE vs1 r1) acc zs
    | false => cOut b c f1 b1 c1 e vs1 r n acc xs := by
  unfold cOut cIn
  show (_ >>= _) >>= _ = _
  rw [mo_assoc]
  congr 1
  funext r1
  rw [mo_assoc]
  congr 1
  funext k
  cases k with
  | false => rfl
  | true =>
    dsimp only
    rw [mo_assoc]
    congr 1
    funext ys
    rw [mo_assoc]
    congr 1
    funext zs
    rw [mo_assoc]
    congr 1
    funext us
    rw [mo_assoc]
    rfl
theorem cIn_nil (n : Nat) (rest : List D) (rw_ : Env) (acc : List D) : cIn b c f1 b1 c1 e vs1 r n rest rw_ acc [] = cOut b c f1 b1 c1 e vs1 r n acc rest := by
  unfold cIn cOut
  show (pure [] >>= _) = _
  rw [mo_pure]
  rfl
theorem cIn_cons (n : Nat) (rest : List D) (rw_ : Env) (acc : List D) (y : D) (ys : List D) : cIn b c f1 b1 c1 e vs1 r n rest rw_ acc (y :: ys) = Mo.opt (b1 y rw_) >>= fun r2 => nx (c1 r2) >>= fun k => match k with
    | true => nx (e r2) >>= fun u => cIn b c f1 b1 c1 e vs1 r n rest rw_ (acc ++ [u]) ys
    | false => cIn b c f1 b1 c1 e vs1 r n rest rw_ acc ys := by
  unfold cIn
  show (_ >>= _) >>= _ = _
  rw [mo_assoc]
  congr 1
  funext r2
  rw [mo_assoc]
  congr 1
  funext k
  cases k with
  | false => rfl
  | true =>
    dsimp only
    rw [mo_assoc]
    congr 1
    funext u
    rw [mo_assoc]
    congr 1
    funext us
    rw [mo_pure]
    congr 1
    funext ws
    rw [List.append_assoc]
    rfl
end
section
variable {G : GX} {X : Cx} {W : WX} {E : XK} {H0 : Hp} {tg iter tg1 iter1 elt c : Expr} {ifs ifs1 : List Expr} {scope : Scope} {own : List (Str × Nat)} {pos : Pos}
def tI (X : Cx) (scope : Scope) (tg1 iter1 : Expr) : TI := fun σ H R => ∀ (s0 : Shared) (H1 : Hp) (C : Addr) (cl : List (Str × Addr)) (fp : List Addr), RdI (bk X scope s0 H1 C cl fp) tg1 iter1 σ H R
/-- an outcome that is not wanted is none -/
theorem nx_cases {b : Type} {f : Mo b} {st : St} {K : PySem.W.Frag} {Rp : Hp → Tg → List Addr → Hp → V → List D → Prop} {σ : L2.St} {T : Tg} {al : List Addr} {H : Hp} {Q : V → Hp → Prop} {g : b → Mo (List D)} (q : Post G K W Rp σ T al H Q ((nx f >>= g) st)) : ∃ x st', f st = .ok x st' ∧ Post G K W Rp σ T al H Q (g x st') := by
  rw [bind_ap] at q
  unfold nx at q
  cases e : f st with
  | ok x st' =>
    rw [e] at q
    exact ⟨x, st', rfl, q⟩
  | err k x st' =>
    rw [e] at q
    exact q.elim
  | bad =>
    rw [e] at q
    exact q.elim
theorem opt_cases {b : Type} {o : Option b} {st : St} {K : PySem.W.Frag} {Rp : Hp → Tg → List Addr → Hp → V → List D → Prop} {σ : L2.St} {T : Tg} {al : List Addr} {H : Hp} {Q : V → Hp → Prop} {g : b → Mo (List D)} (q : Post G K W Rp σ T al H Q ((Mo.opt o >>= g) st)) : ∃ x, o = some x ∧ Post G K W Rp σ T al H Q (g x st) := by
  rw [bind_ap] at q
  cases o with
  | none => exact q.elim
  | some x => exact ⟨x, rfl, q⟩
theorem lim_cases {b : Type} {n : Nat} {y : b} {st : St} {K : PySem.W.Frag} {Rp : Hp → Tg → List Addr → Hp → V → List D → Prop} {σ : L2.St} {T : Tg} {al : List Addr} {H : Hp} {Q : V → Hp → Prop} {g : b → Mo (List D)} (q : Post G K W Rp σ T al H Q ((lim n y >>= g) st)) : n ≤ 16777216 ∧ Post G K W Rp σ T al H Q (g y st) := by
  rw [bind_ap] at q
  cases e : lim n y st with
  | ok x st' =>
    rw [e] at q
    obtain ⟨h1, rfl, rfl⟩ := lim_ok e
    exact ⟨h1, q⟩
  | err k x st' =>
    unfold lim at e
    split at e <;> cases e
  | bad =>
    rw [e] at q
    exact q.elim
theorem SL.upd {K : PySem.W.Frag} {H0 : Hp} {T : Tg} {al : List Addr} {H : Hp} {r : Env} {σ : L2.St} {p : Addr} {o : HO} (S : SL K H0 T al H r σ) (h : T p = none) : SL K H0 T al (L2.upd H p o) r σ := by
  have nf : T p ≠ some .frz := by rw [h]; decide
  refine ⟨S.len, fun i x hx => ?_, S.ap⟩
  obtain ⟨v, h1, h2⟩ := S.at_ i x hx
  refine ⟨v, h1, ?_⟩
  cases x with
  | d x => exact Rep.mono (fz_upd nf) ⟨[], by simp⟩ h2
  | own xs =>
    obtain ⟨l, vs, e, t1, t0, t2, t3⟩ := h2
    have ne : l ≠ p := fun z => by
      rw [z, h] at t1
      cases t1
    exact ⟨l, vs, e, t1, t0, by rw [upd_ne ne]; exact t2, t3.mono (fz_upd nf) ⟨[], by simp⟩⟩
  | odT kvs =>
    obtain ⟨l, vs, e, t1, t0, t2, t3⟩ := h2
    have ne : l ≠ p := fun z => by
      rw [z, h] at t1
      cases t1
    exact ⟨l, vs, e, t1, t0, by rw [upd_ne ne]; exact t2, paired_imp t3 fun a b z => ⟨z.1, Rep.mono (fz_upd nf) ⟨[], by simp⟩ z.2⟩⟩
theorem lc2_read {f f1 : Env → Mo (List D)} {b b1 : D → Env → Option Env} {is is1 vs1 : List Nat} {gt gt1 : TG} {ct ct1 : Env → Mo Bool} {fe : Env → Mo D} (hi : PIt G X W H0 tg iter f) (hgs : TgOk X.K H0 b is gt) (hv : ∀ j ∈ is, j ∈ own.map (·.2))
    (ht : ∀ (s0 : Shared) (H1 : Hp) (C : Addr) (cl : List (Str × Addr)) (fp : List Addr), PBs G (bk X scope s0 H1 C cl fp) H0 ifs ct)
    (hi1 : ∀ (s0 : Shared) (H1 : Hp) (C : Addr) (cl : List (Str × Addr)) (fp : List Addr), PIt G (bk X scope s0 H1 C cl fp) (wE fun _ _ _ => False) H0 tg1 iter1 f1) (hgs1 : TgOk X.K H0 b1 is1 gt1) (hv1 : ∀ j ∈ is1, j ∈ vs1)
    (ht1 : ∀ (s0 : Shared) (H1 : Hp) (C : Addr) (cl : List (Str × Addr)) (fp : List Addr), PBs G (bk X scope s0 H1 C cl fp) H0 ifs1 ct1)
    (he : ∀ (s0 : Shared) (H1 : Hp) (C : Addr) (cl : List (Str × Addr)) (fp : List Addr), PD G (bk X scope s0 H1 C cl fp) (wE fun _ _ _ => False) H0 elt fe)
    {r : Env} {st : St} {σ : L2.St} {T : Tg} {al : List Addr} {H : Hp} {Q : VK} (S : SL X.K H0 T al H r σ) (w : WI X.K G.TB T al st H) (q : Post G X.K W (RpN X.K) σ T al H Q (nLc2 f b (own.map (·.2)) ct f1 b1 vs1 ct1 fe r st)) :
    tLc2 (RdI X tg iter) gt (tT X scope ifs) (tI X scope tg1 iter1) gt1 (tT X scope ifs1) (tE X scope elt) (own.map (·.2)) vs1 σ H Q := by
  refine hi r st σ T al H _ S w (seqP back_N q fun ys st1 J T1 al1 H1 _ x1 w1 r1 q1 => ?_)
  intro dA hD
  have SW := wipe_SL (S.ext x1) (own.map (·.2))
  have q1' : Post G X.K W (RpN X.K) σ T1 al1 H1 Q (cOut b ct f1 b1 ct1 fe vs1 (wipeE (own.map (·.2)) r) 0 [] ys st1) := by
    unfold cOut
    rw [bind_ap]
    have q1' : Post G X.K W (RpN X.K) σ T1 al1 H1 Q (lcO b ct f1 b1 ct1 fe vs1 (wipeE (own.map (·.2)) r) 0 ys st1) := q1
    cases e : lcO b ct f1 b1 ct1 fe vs1 (wipeE (own.map (·.2)) r) 0 ys st1 with
    | ok zs st3 => rw [e] at q1'; exact q1'
    | err c x st3 => rw [e] at q1'; exact q1'
    | bad => rw [e] at q1'; exact q1'
  refine ⟨fun i m H2 => m + i = ys.length ∧ ∃ (n : Nat) (acc : List D) (vs : List V) (st2 : St) (T2 : Tg) (al2 : List Addr), Ext T1 al1 H1 T2 al2 H2 ∧ WI X.K G.TB T2 al2 st2 H2 ∧ T2 dA = none ∧ H2 dA = some (.lst vs) ∧ RepAll X.K (fz T2 H2) al2 vs acc ∧ acc.length ≤ n ∧
      Post G X.K W (RpN X.K) σ T1 al1 H1 Q (cOut b ct f1 b1 ct1 fe vs1 (wipeE (own.map (·.2)) r) n acc (ys.drop i) st2),
      ⟨ys.length, by omega, 0, [], [], st1, T1, al1, Ext.laid0 hD, w1.laid hD, w1.free hD, upd_same, .nil, Nat.le_refl _, by rw [List.drop_zero]; exact q1'⟩, ?_⟩
  rintro i m H2 ⟨hm, n, acc, vs, st3, T2, al2, x2, w2, tD, hD2, rs, hacc, q2⟩
  obtain ⟨hgo, hstop⟩ := r1 T2 al2 H2 st3 x2.fz x2.al w2 i
  cases hx : ys[i]? with
  | none =>
    refine .inl ⟨hstop (by have := List.getElem?_eq_none_iff.mp hx; omega), ?_⟩
    have hd : ys.drop i = [] := List.drop_of_length_le (List.getElem?_eq_none_iff.mp hx)
    rw [hd, cOut_nil] at q2
    exact q2 (.ref dA) T2 al2 H2 x2 w2 ⟨dA, vs, rfl, hD, tD, hD2, rs⟩
  | some x =>
    obtain ⟨go, yl⟩ := hgo x hx
    have hil : i < ys.length := (List.getElem?_eq_some_iff.mp hx).1
    have hd : ys.drop i = x :: ys.drop (i + 1) := by
      rw [List.drop_eq_getElem_cons hil]
      congr 1
      exact (List.getElem?_eq_some_iff.mp hx).2
    rw [hd, cOut_cons] at q2
    refine .inr ⟨go, fun H3 => ∃ (n : Nat) (acc : List D) (vs : List V) (st2 : St) (T2 : Tg) (al2 : List Addr), Ext T1 al1 H1 T2 al2 H3 ∧ WI X.K G.TB T2 al2 st2 H3 ∧ T2 dA = none ∧ H3 dA = some (.lst vs) ∧ RepAll X.K (fz T2 H3) al2 vs acc ∧ acc.length ≤ n ∧
      Post G X.K W (RpN X.K) σ T1 al1 H1 Q (cOut b ct f1 b1 ct1 fe vs1 (wipeE (own.map (·.2)) r) n acc (ys.drop (i + 1)) st2), fun H3 z => ⟨m - 1, by omega, by omega, z⟩, fun v H3 y => ?_⟩
    obtain ⟨T3, x3, w3, rv⟩ := yl v H3 y
    obtain ⟨r3, hb, q3⟩ := opt_cases q2
    obtain ⟨σ3, SL3, ho, qg⟩ := hgs x (wipeE (own.map (·.2)) r) r3 (wipe σ (own.map (·.2))) T3 al2 H3 v hb ((SW.ext x2).ext x3) rv
    refine qg _ ⟨wipe_back ho.1 ho.2 hv, ?_⟩
    obtain ⟨k, st4, ec, q4⟩ := nx_cases q3
    have hD3 : H3 dA = some (.lst vs) := x3.hp dA _ hD2 (by rw [tD]; decide)
    have tD3 : T3 dA = none := (x3.tg dA _ hD2).trans tD
    intro s0 Hs C cl fp pins s I
    refine ht s0 Hs C cl fp r3 st3 σ3 T3 al2 H3 _ SL3 w3 ?_ pins s I
    rw [ec]
    rintro k' T4 al4 H4 x4 w4 rfl
    have hD4 : H4 dA = some (.lst vs) := x4.hp dA _ hD3 (by rw [tD3]; decide)
    have tD4 : T4 dA = none := (x4.tg dA _ hD3).trans tD3
    have xx4 : Ext T1 al1 H1 T4 al4 H4 := (x2.trans x3).trans x4
    cases k' with
    | false => exact iteF ⟨n, acc, vs, st4, T4, al4, xx4, w4, tD4, hD4, (rs.ext x3).ext x4, hacc, q4⟩
    | true =>
      refine iteT ?_
      obtain ⟨zs, st5, ef, q5⟩ := nx_cases q4
      intro s1 Hs1 C1 cl1 fp1
      refine hi1 s1 Hs1 C1 cl1 fp1 r3 st4 σ3 T4 al4 H4 _ (SL3.ext x4) w4 ?_
      rw [ef]
      intro J1 T5 al5 H5 x5 w5 r5
      obtain ⟨hn, q6⟩ := lim_cases q5
      have hD5 : H5 dA = some (.lst vs) := x5.hp dA _ hD4 (by rw [tD4]; decide)
      have tD5 : T5 dA = none := (x5.tg dA _ hD4).trans tD4
      have S5 := wipe_SL ((SL3.ext x4).ext x5) vs1
      refine ⟨fun j m H6 => m + j = zs.length ∧ ∃ (acc : List D) (vs : List V) (st2 : St) (T2 : Tg) (al2 : List Addr), Ext T1 al1 H1 T2 al2 H6 ∧ SL X.K H0 T2 al2 H6 (wipeE vs1 r3) (wipe σ3 vs1) ∧ Same (fz T5 H5) (fz T2 H6) ∧ (∃ b, al2 = al5 ++ b) ∧ WI X.K G.TB T2 al2 st2 H6 ∧ T2 dA = none ∧ H6 dA = some (.lst vs) ∧ RepAll X.K (fz T2 H6) al2 vs acc ∧ acc.length ≤ n + j ∧
        Post G X.K W (RpN X.K) σ T1 al1 H1 Q (cIn b ct f1 b1 ct1 fe vs1 (wipeE (own.map (·.2)) r) (n + zs.length) (ys.drop (i + 1)) (wipeE vs1 r3) acc (zs.drop j) st2),
        ⟨zs.length, by omega, acc, vs, st5, T5, al5, xx4.trans x5, S5, fun _ _ h => h, ⟨[], by simp⟩, w5, tD5, hD5, ((rs.ext x3).ext x4).ext x5, by omega, by rw [List.drop_zero]; exact q6⟩, ?_⟩
      rintro j m1 H6 ⟨hm1, acc, vs, st6, T6, al6, x6, S6, f6, a6, w6, tD6, hD6, rs6, hacc6, q7⟩
      obtain ⟨hgo1, hstop1⟩ := r5 T6 al6 H6 st6 f6 a6 w6 j
      cases hy : zs[j]? with
      | none =>
        have hj := List.getElem?_eq_none_iff.mp hy
        refine .inl ⟨hstop1 (by omega), ?_⟩
        have hd : zs.drop j = [] := List.drop_of_length_le hj
        rw [hd, cIn_nil] at q7
        exact ⟨n + zs.length, acc, vs, st6, T6, al6, x6, w6, tD6, hD6, rs6, by omega, q7⟩
      | some y1 =>
        obtain ⟨go1, yl1⟩ := hgo1 y1 hy
        have hjl : j < zs.length := (List.getElem?_eq_some_iff.mp hy).1
        have hd : zs.drop j = y1 :: zs.drop (j + 1) := by
          rw [List.drop_eq_getElem_cons hjl]
          congr 1
          exact (List.getElem?_eq_some_iff.mp hy).2
        rw [hd, cIn_cons] at q7
        refine .inr ⟨go1, fun H7 => ∃ (acc : List D) (vs : List V) (st2 : St) (T2 : Tg) (al2 : List Addr), Ext T1 al1 H1 T2 al2 H7 ∧ SL X.K H0 T2 al2 H7 (wipeE vs1 r3) (wipe σ3 vs1) ∧ Same (fz T5 H5) (fz T2 H7) ∧ (∃ b, al2 = al5 ++ b) ∧ WI X.K G.TB T2 al2 st2 H7 ∧ T2 dA = none ∧ H7 dA = some (.lst vs) ∧ RepAll X.K (fz T2 H7) al2 vs acc ∧ acc.length ≤ n + (j + 1) ∧
          Post G X.K W (RpN X.K) σ T1 al1 H1 Q (cIn b ct f1 b1 ct1 fe vs1 (wipeE (own.map (·.2)) r) (n + zs.length) (ys.drop (i + 1)) (wipeE vs1 r3) acc (zs.drop (j + 1)) st2), fun H7 z => ⟨m1 - 1, by omega, by omega, z⟩, fun v1 H7 yv => ?_⟩
        obtain ⟨T7, x7, w7, rv7⟩ := yl1 v1 H7 yv
        obtain ⟨r7, hb1, q8⟩ := opt_cases q7
        obtain ⟨σ7, SL7, ho7, qg7⟩ := hgs1 y1 (wipeE vs1 r3) r7 (wipe σ3 vs1) T7 al6 H7 v1 hb1 (S6.ext x7) rv7
        refine qg7 _ ⟨wipe_back ho7.1 ho7.2 hv1, ?_⟩
        obtain ⟨k2, st8, ec2, q9⟩ := nx_cases q8
        have hD7 : H7 dA = some (.lst vs) := x7.hp dA _ hD6 (by rw [tD6]; decide)
        have tD7 : T7 dA = none := (x7.tg dA _ hD6).trans tD6
        intro s2 Hs2 C2 cl2 fp2 pins2 s' I2
        refine ht1 s2 Hs2 C2 cl2 fp2 r7 st6 σ7 T7 al6 H7 _ SL7 w7 ?_ pins2 s' I2
        rw [ec2]
        rintro k3 T8 al8 H8 x8 w8 rfl
        have hD8 : H8 dA = some (.lst vs) := x8.hp dA _ hD7 (by rw [tD7]; decide)
        have tD8 : T8 dA = none := (x8.tg dA _ hD7).trans tD7
        have x68 := x7.trans x8
        cases k3 with
        | false => exact iteF ⟨acc, vs, st8, T8, al8, x6.trans x68, S6.ext x68, fun a o h => x68.fz a o (f6 a o h), by
            obtain ⟨p, hp⟩ := a6
            obtain ⟨p2, hp2⟩ := x68.al
            exact ⟨p ++ p2, by rw [hp2, hp, List.append_assoc]⟩, w8, tD8, hD8, (rs6.ext x7).ext x8, by omega, q9⟩
        | true =>
          refine iteT ?_
          obtain ⟨u, st9, ee, q10⟩ := nx_cases q9
          intro s3 Hs3 C3 cl3 fp3
          refine he s3 Hs3 C3 cl3 fp3 r7 st8 σ7 T8 al8 H8 _ (SL7.ext x8) w8 ?_
          rw [ee]
          intro v9 T9 al9 H9 x9 w9 ru
          have hD9 : H9 dA = some (.lst vs) := x9.hp dA _ hD8 (by rw [tD8]; decide)
          have tD9 : T9 dA = none := (x9.tg dA _ hD8).trans tD8
          have rs9 := ((rs6.ext x7).ext x8).ext x9
          have nf : T9 dA ≠ some .frz := by rw [tD9]; decide
          have x69 := x68.trans x9
          refine ⟨vs, hD9, by rw [rs9.length]; show acc.length < 16777216; omega, acc ++ [u], vs ++ [v9], st9, T9, al9, (x6.trans x69).upd0 hD, ?_, fun a o h => fz_upd nf a o (x69.fz a o (f6 a o h)), by
            obtain ⟨p, hp⟩ := a6
            obtain ⟨p2, hp2⟩ := x69.al
            exact ⟨p ++ p2, by rw [hp2, hp, List.append_assoc]⟩, w9.upd nf (by rw [tD9]; decide) hD9 (fun ps z => by cases z) (fun f z => by cases z), tD9, upd_same, ?_, by rw [List.length_append, List.length_singleton]; omega, q10⟩
          · exact (S6.ext x69).upd tD9
          · exact (rs9.mono (fz_upd nf) ⟨[], by simp⟩).snoc (Rep.mono (fz_upd nf) ⟨[], by simp⟩ ru)
theorem pi_tI : ∀ (s : Shared) (H : Hp) (C : Addr) (cl : List (Str × Addr)) (fp : List Addr), PI (X.blk s H scope (compEnvC scope cl C X.env) fp) tg1 iter1 (tI X scope tg1 iter1) := fun s H C cl fp => ⟨fun pins s2 σ H2 R I h => h s H C cl fp pins s2 I⟩
theorem pn_lc2 {f f1 : Env → Mo (List D)} {b b1 : D → Env → Option Env} {is is1 vs1 : List Nat} {gt gt1 : TG} {ct ct1 : Env → Mo Bool} {fe : Env → Mo D} (own : List (Str × Nat)) (hc : X.calm = true) (hN : X.N.Nodup) (hi : PIt G X W H0 tg iter f) (ok : BlkOk X.N X.env.scope scope own) (hgs : TgOk X.K H0 b is gt) (hgs1 : TgOk X.K H0 b1 is1 gt1)
    (hg : ∀ (s0 : Shared) (H1 : Hp) (C : Addr) (cl : List (Str × Addr)) (fp : List Addr), PG (bk X scope s0 H1 C cl fp) tg gt) (hg1 : ∀ (s0 : Shared) (H1 : Hp) (C : Addr) (cl : List (Str × Addr)) (fp : List Addr), PG (bk X scope s0 H1 C cl fp) tg1 gt1)
    (ht : ∀ (s0 : Shared) (H1 : Hp) (C : Addr) (cl : List (Str × Addr)) (fp : List Addr), PBs G (bk X scope s0 H1 C cl fp) H0 ifs ct)
    (hi1 : ∀ (s0 : Shared) (H1 : Hp) (C : Addr) (cl : List (Str × Addr)) (fp : List Addr), PIt G (bk X scope s0 H1 C cl fp) (wE fun _ _ _ => False) H0 tg1 iter1 f1)
    (ht1 : ∀ (s0 : Shared) (H1 : Hp) (C : Addr) (cl : List (Str × Addr)) (fp : List Addr), PBs G (bk X scope s0 H1 C cl fp) H0 ifs1 ct1)
    (he : ∀ (s0 : Shared) (H1 : Hp) (C : Addr) (cl : List (Str × Addr)) (fp : List Addr), PD G (bk X scope s0 H1 C cl fp) (wE fun _ _ _ => False) H0 elt fe)
    (hv : ∀ j ∈ is, j ∈ own.map (·.2) := by decide) (hv1 : ∀ j ∈ is1, j ∈ vs1 := by decide) (hv2 : ∀ j ∈ vs1, j ∈ own.map (·.2) := by decide) (hs : ∀ x, foldedSetIterable iter X.env x = pure x := by intro _; rfl) (hs1 : ∀ env x, foldedSetIterable iter1 env x = pure x := by intro _ _; rfl) :
    PN G X W H0 (.ListComp elt [⟨tg, iter, ifs, 0⟩, ⟨tg1, iter1, ifs1, 0⟩] scope pos) (nLc2 f b (own.map (·.2)) ct f1 b1 vs1 ct1 fe) := fun r st σ T al H Q S w q =>
  rdE (pe_lc2 hc hN pi_rd ok hv2 hg pts_tT pi_tI hg1 pts_tT pe_tE hs hs1) (lc2_read hi hgs hv ht hi1 hgs1 hv1 ht1 he S w q)
end
end Pi
namespace Pi
open PySem PySem.Spec PyProof.Rows L2
section
variable {G : GX} {X : Cx} {E : XK} {H0 : Hp} {tg iter tg1 iter1 elt : Expr} {ifs ifs1 : List Expr} {scope : Scope} {pos spos py : Pos} {y : Str} {i : Nat}
variable {f f1 : Env → Mo (List D)} {b b1 : D → Env → Option Env} {is is1 vs1 : List Nat} {gt gt1 : TG} {ct ct1 : Env → Mo Bool} {fe : Env → Mo D}
theorem pst_setLc2 (own : List (Str × Nat)) (hc : X.calm = true) (hN : X.N.Nodup) (hi : PIt G X (wE E) H0 tg iter f) (ok : BlkOk X.N X.env.scope scope own) (hgs : TgOk X.K H0 b is gt) (hgs1 : TgOk X.K H0 b1 is1 gt1)
    (hg : ∀ (s0 : Shared) (H1 : Hp) (C : Addr) (cl : List (Str × Addr)) (fp : List Addr), PG (bk X scope s0 H1 C cl fp) tg gt) (hg1 : ∀ (s0 : Shared) (H1 : Hp) (C : Addr) (cl : List (Str × Addr)) (fp : List Addr), PG (bk X scope s0 H1 C cl fp) tg1 gt1)
    (ht : ∀ (s0 : Shared) (H1 : Hp) (C : Addr) (cl : List (Str × Addr)) (fp : List Addr), PBs G (bk X scope s0 H1 C cl fp) H0 ifs ct)
    (hi1 : ∀ (s0 : Shared) (H1 : Hp) (C : Addr) (cl : List (Str × Addr)) (fp : List Addr), PIt G (bk X scope s0 H1 C cl fp) (wE fun _ _ _ => False) H0 tg1 iter1 f1)
    (ht1 : ∀ (s0 : Shared) (H1 : Hp) (C : Addr) (cl : List (Str × Addr)) (fp : List Addr), PBs G (bk X scope s0 H1 C cl fp) H0 ifs1 ct1)
    (he : ∀ (s0 : Shared) (H1 : Hp) (C : Addr) (cl : List (Str × Addr)) (fp : List Addr), PD G (bk X scope s0 H1 C cl fp) (wE fun _ _ _ => False) H0 elt fe)
    (hy : X.N[i]? = some y := by rfl) (hyl : X.env.scope.names.lookup y = some .local := by rfl) (hk : X.env.scope.kind = .function := by rfl) (hl : (py.line == pos.line) = true := by rfl)
    (ha : (scope.names.any fun (n, k) => n == y && (k == .local || k == .cell)) = false := by rfl)
    (hv : ∀ j ∈ is, j ∈ own.map (·.2) := by decide) (hv1 : ∀ j ∈ is1, j ∈ vs1 := by decide) (hv2 : ∀ j ∈ vs1, j ∈ own.map (·.2) := by decide) (hs : ∀ x, foldedSetIterable iter X.env x = pure x := by intro _; rfl) (hs1 : ∀ env x, foldedSetIterable iter1 env x = pure x := by intro _ _; rfl) :
    PSt G X E H0 (.Assign [.Name y py] (.ListComp elt [⟨tg, iter, ifs, 0⟩, ⟨tg1, iter1, ifs1, 0⟩] scope pos) spos) (sSet i (nFz (nLc2 f b (own.map (·.2)) ct f1 b1 vs1 ct1 fe))) := by
  intro B r s0 σ T al H Dn S q
  refine rdS1 (ps_setLc2 hc hN hy hyl (sw_true hk hyl hl ha) pi_rd ok hv2 hg pts_tT pi_tI hg1 pts_tT pe_tE hs hs1) ?_
  show tLc2 _ _ _ _ _ _ _ _ _ σ H (fun x H1 => gName i x σ H1 Dn.nx)
  refine lc2_read hi hgs hv ht hi1 hgs1 hv1 ht1 he S.sl S.wi ?_
  have q' : PostS G X E H0 B Dn ((nLc2 f b (own.map (·.2)) ct f1 b1 vs1 ct1 fe r >>= fun xs => (pure (Fl.nx (r.set i (some (.d (.lst xs))))) : Mo Fl)) s0) := by
    have h : (sSet i (nFz (nLc2 f b (own.map (·.2)) ct f1 b1 vs1 ct1 fe)) r) s0 = (nLc2 f b (own.map (·.2)) ct f1 b1 vs1 ct1 fe r >>= fun xs => (pure (Fl.nx (r.set i (some (.d (.lst xs))))) : Mo Fl)) s0 := by
      show (((nLc2 f b (own.map (·.2)) ct f1 b1 vs1 ct1 fe r) >>= fun xs => pure (Pi.D.lst xs)) >>= fun x => (pure (Fl.nx (r.set i (some (.d x)))) : Mo Fl)) s0 = _
      rw [bind_ap, bind_ap, bind_ap]
      cases nLc2 f b (own.map (·.2)) ct f1 b1 vs1 ct1 fe r s0 <;> rfl
    rw [← h]
    exact q
  refine seqS S q' fun xs st1 v T1 al1 H1 x1 S1 r1 q1 => ?_
  obtain ⟨p, vs, rfl, n0, tp, hp, rs⟩ := r1
  have nz : H0 p = none := S.ex.free n0
  refine q1 _ (tset T1 p .frz) al1 H1 (S1.tag nz (by rw [tp]; decide) (by rw [tp]; decide) hp ?_)
  refine (S1.sl.retag tp).setD (.lst (fz_of tset_same hp) (rs.mono (fz_tset (by rw [tp]; decide)) ⟨[], by simp⟩))
theorem pst_ownLc2 (own : List (Str × Nat)) (hc : X.calm = true) (hN : X.N.Nodup) (hi : PIt G X (wE E) H0 tg iter f) (ok : BlkOk X.N X.env.scope scope own) (hgs : TgOk X.K H0 b is gt) (hgs1 : TgOk X.K H0 b1 is1 gt1)
    (hg : ∀ (s0 : Shared) (H1 : Hp) (C : Addr) (cl : List (Str × Addr)) (fp : List Addr), PG (bk X scope s0 H1 C cl fp) tg gt) (hg1 : ∀ (s0 : Shared) (H1 : Hp) (C : Addr) (cl : List (Str × Addr)) (fp : List Addr), PG (bk X scope s0 H1 C cl fp) tg1 gt1)
    (ht : ∀ (s0 : Shared) (H1 : Hp) (C : Addr) (cl : List (Str × Addr)) (fp : List Addr), PBs G (bk X scope s0 H1 C cl fp) H0 ifs ct)
    (hi1 : ∀ (s0 : Shared) (H1 : Hp) (C : Addr) (cl : List (Str × Addr)) (fp : List Addr), PIt G (bk X scope s0 H1 C cl fp) (wE fun _ _ _ => False) H0 tg1 iter1 f1)
    (ht1 : ∀ (s0 : Shared) (H1 : Hp) (C : Addr) (cl : List (Str × Addr)) (fp : List Addr), PBs G (bk X scope s0 H1 C cl fp) H0 ifs1 ct1)
    (he : ∀ (s0 : Shared) (H1 : Hp) (C : Addr) (cl : List (Str × Addr)) (fp : List Addr), PD G (bk X scope s0 H1 C cl fp) (wE fun _ _ _ => False) H0 elt fe)
    (hy : X.N[i]? = some y := by rfl) (hyl : X.env.scope.names.lookup y = some .local := by rfl) (hk : X.env.scope.kind = .function := by rfl) (hl : (py.line == pos.line) = true := by rfl)
    (ha : (scope.names.any fun (n, k) => n == y && (k == .local || k == .cell)) = false := by rfl)
    (hv : ∀ j ∈ is, j ∈ own.map (·.2) := by decide) (hv1 : ∀ j ∈ is1, j ∈ vs1 := by decide) (hv2 : ∀ j ∈ vs1, j ∈ own.map (·.2) := by decide) (hs : ∀ x, foldedSetIterable iter X.env x = pure x := by intro _; rfl) (hs1 : ∀ env x, foldedSetIterable iter1 env x = pure x := by intro _ _; rfl) :
    PSt G X E H0 (.Assign [.Name y py] (.ListComp elt [⟨tg, iter, ifs, 0⟩, ⟨tg1, iter1, ifs1, 0⟩] scope pos) spos) (sOwn i (nLc2 f b (own.map (·.2)) ct f1 b1 vs1 ct1 fe)) := by
  intro B r s0 σ T al H Dn S q
  refine rdS1 (ps_setLc2 hc hN hy hyl (sw_true hk hyl hl ha) pi_rd ok hv2 hg pts_tT pi_tI hg1 pts_tT pe_tE hs hs1) ?_
  show tLc2 _ _ _ _ _ _ _ _ _ σ H (fun x H1 => gName i x σ H1 Dn.nx)
  refine lc2_read hi hgs hv ht hi1 hgs1 hv1 ht1 he S.sl S.wi ?_
  refine seqS S q fun xs st1 v T1 al1 H1 x1 S1 r1 q1 => ?_
  obtain ⟨p, vs, rfl, n0, tp, hp, rs⟩ := r1
  have nz : H0 p = none := S.ex.free n0
  refine q1 _ (tset T1 p .own) al1 H1 (S1.tag nz (by rw [tp]; decide) (by rw [tp]; decide) hp ?_)
  refine (S1.sl.retag tp).setO ⟨p, vs, rfl, tset_same, nz, hp, rs.mono (fz_tset (by rw [tp]; decide)) ⟨[], by simp⟩⟩ fun j y _ hj o hz => ?_
  obtain ⟨ht, _⟩ := own_at S1.sl hj o hz
  rw [tp] at ht
  cases ht
end
end Pi
namespace Pi
open PySem PySem.Spec PyProof.Rows L2
def tupOf : List D → Option (List D)
  | [.tup xs] => some xs
  | _ => none
def oSumX (ds : List D) : Option D := match tupOf ds with
  | some xs => (intsOf xs).map fun ns => .int ns.sum
  | none => oSum ds
theorem tupOf_some {ds xs : List D} (h : tupOf ds = some xs) : ds = [.tup xs] := by
  unfold tupOf at h
  split at h
  · cases h
    rfl
  · cases h
section
variable {G : GX} {X : Cx}
def rSumX (K : PySem.W.Frag) : List V → Hp → VK → Prop := fun vs H Q => rSum K vs H Q ∨ ∃ (a : Addr) (ns : List Int), vs = [V.ref a] ∧ SqT K H a (ns.map V.int) ∧ Q (.int ns.sum) H
theorem cr_sumX (hc : X.calm = true) : CallR X (.builtin "sum") (rSumX X.K) := by
  intro pins s σ H vs us Q I r h
  rcases h with h | ⟨a, ns, rfl, hs, q⟩
  · exact cr_sum hc pins s σ H vs us Q I r h
  · obtain ⟨its, rv, hl, _⟩ := I.tuple hs
    rw [Vals.ref1 r]
    have hi : IntsAre its ns := Vals.ints rv
    obtain ⟨xs, e⟩ := hi.allInts.items
    have hn : numsOf (intItems xs).toList = ns := by rw [← e]; exact hi.numsOf
    rw [nums_intItems] at hn
    rw [e] at hl
    refine PySem.W.ktm_sumG (I.ok.hd hc) hl fun h' tk t' hk => ?_
    have z : preSum (numAt xs) xs.size = ns.sum := by
      rw [preSum_eq, List.take_of_length_le (by simp), hn]
    rw [z]
    exact ⟨.int _, H, I.kept hk, ⟨_, rfl⟩, q⟩
theorem cal_sumX : CalR G X (rSumX X.K) oSumX := by
  intro ds z hz st T al H vs Q w r q
  unfold oSumX at hz
  cases e : tupOf ds with
  | none =>
    rw [e] at hz
    exact .inl (cal_sum ds z hz st T al H vs Q w r q)
  | some xs =>
    rw [e] at hz
    have := tupOf_some e
    subst this
    obtain ⟨v, rfl, rx⟩ := paired1 r
    obtain ⟨ns, hn, ez⟩ := Option.map_eq_some_iff.mp hz
    subst ez
    obtain ⟨p1, us, rfl, h1, r1⟩ := r_tup rx
    rw [ints_rep r1 hn] at h1
    exact .inr ⟨p1, ns, rfl, h1, q _ T al H .refl w (.int _)⟩
end
end Pi
namespace Pi
open PySem PySem.Spec PyProof.Rows L2 LamX

/-- one parameter d with a default; d is none of the names N that the body may speak of -/
structure LamD (sc scope : Scope) (N : List Str) (d : Str) : Prop where
  kind : scope.kind = .function
  co : scope.isCoroutine = false
  gen : scope.isGenerator = false
  cell : ∀ y ∈ scope.names, y.2 ≠ .cell
  loc : ∀ y ∈ scope.names, y.2 = .local → y.1 ∉ N
  has1 : scope.names.lookup d = some .local
  free : ∀ y ∈ scope.names, y.2 = .free → sc.names.lookup y.1 = some .cell ∨ sc.names.lookup y.1 = some .free
def lamDB (sc scope : Scope) (N : List Str) (d : Str) : Bool :=
  decide (scope.kind = .function) && !scope.isCoroutine && !scope.isGenerator && decide (scope.names.lookup d = some .local) && scope.names.all fun y => !decide (y.2 = .cell) && (!decide (y.2 = .local) || !decide (y.1 ∈ N)) && (!decide (y.2 = .free) || decide (sc.names.lookup y.1 = some .cell) || decide (sc.names.lookup y.1 = some .free))
theorem lamD_by {sc scope : Scope} {N : List Str} {d : Str} (h : lamDB sc scope N d = true) : LamD sc scope N d := by
  unfold lamDB at h
  simp only [Bool.and_eq_true, Bool.or_eq_true, Bool.not_eq_true', decide_eq_true_eq, decide_eq_false_iff_not, List.all_eq_true] at h
  obtain ⟨⟨⟨⟨h1, h2⟩, h3⟩, h5⟩, h4⟩ := h
  refine ⟨h1, h2, h3, fun y hy => (h4 y hy).1.1, fun y hy e => ?_, h5, fun y hy e => ?_⟩
  · rcases (h4 y hy).1.2 with z | z
    · exact absurd e z
    · exact z
  · rcases (h4 y hy).2 with (z | z) | z
    · exact absurd e z
    · exact .inl z
    · exact .inr z
theorem LamD.has {X : Cx} {scope : Scope} {N : List Str} {d : Str} (L : LamD X.env.scope scope N d) (ok : X.Ok) : ∀ y ∈ scope.names, y.2 = .free → ∃ c, X.env.cells.lookup y.1 = some c := fun y hy e => by
  rcases L.free y hy e with k | k
  · exact ok.has _ (.inl k)
  · exact ok.has _ (.inr k)
/-- the object of such a lambda; T holds the default -/
abbrev ldObj (q : Str) (params : Arguments) (body : Expr) (scope : Scope) (cl : List (Str × Addr)) (T : Addr) (doc pm : Value) (c' : Addr) (ctv : Value) : Obj := PySem.W.kdv_obj "<lambda>" q params (.expr body) scope cl (.ref T) doc pm c' ctv
abbrev ldTup (v : Value) : Obj := PySem.W.kdv_tup [v]
section
variable {X : Cx} {pins : List (Addr × Obj)} {σ : L2.St} {H HZ : Hp} {s s1 : Shared}
theorem lam_tail {T : List (Addr × Str)} {c P : Addr} {params : Arguments} {body : Expr} {scope : Scope} {pos : Pos} {dV : Value} {E : Value → Shared → Prop} {Q : Value → Shared → Prop} (I : Inv X pins σ H s) (TB : TabB X.base X.mg c P) (hcode : X.env.code = .ref c)
    (hm : (P, X.env.qual ++ "<lambda>") ∈ T) (hu : ∀ p ∈ T, p.1 = P → p.2 = X.env.qual ++ "<lambda>") (hT : Tabs T H) (hfree : ∀ y ∈ scope.names, y.2 = .free → ∃ c, X.env.cells.lookup y.1 = some c)
    (h : ∀ (f c' : Addr) (pm ctv doc : Value) (H1 : Hp) (s' : Shared), Inv X pins σ H1 s' → (∀ b o, H b = none → s.heap.get? b = some o → s'.heap.get? b = some o) → (∀ b, s.heap.objs.size ≤ b → H b = none) → (∀ b, b < s.heap.objs.size → H b = none → H1 b = none) → LamH H H1 (X.env.qual ++ "<lambda>") → Tabs T H1 →
      s'.heap.get? f = some (PySem.W.kdv_obj "<lambda>" (X.env.qual ++ "<lambda>") params (.expr body) scope (cloFrom X.env.cells scope.names []) dV doc pm c' ctv) → H1 f = none → f ∉ frs X.stack → H1 c' = some (CodeO c' (X.env.qual ++ "<lambda>")) → Q (.ref f) s') :
    wpAny (model X.prog X.w) X.A (makeTail "<lambda>" (X.env.qual ++ "<lambda>") params (.expr body) scope X.env dV .none none pos pos.line) Q E s := by
  obtain ⟨ps, hP, ht, ha⟩ := hT _ hm
  have bP : s.heap.BuiltinsAt X.mg P := TB.bm.keeps I.bk
  have gP : s.heap.get? P = some { cls := .none, data := .fields ps } := I.hok P _ hP
  have out : ∀ f, s.heap.objs.size ≤ f → f ∉ frs X.stack := fun f hf z => by
    rcases List.mem_cons.mp (I.stkSub _ z) with e | e
    · have h1 := I.lt
      rw [← e] at h1
      exact Nat.lt_irrefl _ (Nat.lt_of_lt_of_le h1 hf)
    · exact I.nofs hf e
  have fr0 : ∀ b, s.heap.objs.size ≤ b → H b = none := fun b hb => I.hok.fresh hb
  cases hc : codeAmong pos ps.toList with
  | some cv =>
    obtain ⟨c', e, hco⟩ := ha pos cv hc
    subst e
    refine PySem.W.kdv_makeTailHit (mg := X.mg) (c := c) (P := P) (ps := ps) (closure_ok hfree) I.ok.glob (I.mod.glob.keeps I.bk) hcode (TB.code.keeps I.bk) gP ht hc bP fun ctv doc h' tk hx hsz => ?_
    exact h h'.objs.size c' ((X.mg "__name__").getD .none) ctv doc H _ (I.kept fun b o e => Heap.get?_push_of_some _ (hx b o e)) (fun b o _ e => Heap.get?_push_of_some _ (hx b o e)) fr0 (fun b _ e => e) (.inl rfl) hT (Heap.get?_push_size _ rfl) (I.hok.fresh hsz) (out _ hsz) hco
  | none =>
    refine PySem.W.kdv_makeTail (mg := X.mg) (c := c) (P := P) (ps := ps) (closure_ok hfree) I.ok.glob (I.mod.glob.keeps I.bk) hcode (TB.code.keeps I.bk) gP ht hc TB.gP bP fun c' ctv doc h' tk hx hge hlt hrec htb => ?_
    obtain ⟨c2, oc, vs, t, e2, hoc, hd, hv⟩ := hrec
    cases e2
    have hsz : s.heap.objs.size ≤ h'.objs.size := Nat.le_trans hge (Nat.le_of_lt hlt)
    have nC : H c' = none := I.hok.fresh hge
    have nPc : P ≠ c' := ne_of_none hP nC
    have I1 := inv_table (t' := tk) (more := #[rawInt pos.line, rawInt pos.col, .ref c']) (h' := h'.push (PySem.W.kdv_obj "<lambda>" (X.env.qual ++ "<lambda>") params (.expr body) scope (cloFrom X.env.cells scope.names []) dV doc ((X.mg "__name__").getD .none) c' ctv)) I hP
      (fun b o hb e => Heap.get?_push_of_some _ (hx b o hb e)) (Heap.get?_push_of_some _ htb) hge ⟨oc, vs, t, Heap.get?_push_of_some _ hoc, hd, hv⟩
    have keep : ∀ b o, H b = some o → NT o → upd (upd H P (.tbl (ps ++ #[rawInt pos.line, rawInt pos.col, .ref c']))) c' (CodeO c' (X.env.qual ++ "<lambda>")) b = some o := fun b o e n => by
      rw [upd_ne (ne_of_none e nC), upd_ne (fun z => n ps (by rw [z, hP] at e; exact (Option.some.inj e).symm))]
      exact e
    refine h h'.objs.size c' ((X.mg "__name__").getD .none) ctv doc _ _ I1 (fun b o n e => Heap.get?_push_of_some _ (hx b o (fun z => by rw [z, hP] at n; cases n) e)) fr0 (fun b hb e => by rw [upd_ne (Nat.ne_of_lt (Nat.lt_of_lt_of_le hb hge)), upd_ne (fun z => by rw [z, hP] at e; cases e)]; exact e) (.inr ⟨P, c', ps, _, hP, nC, nPc, rfl⟩) (fun p hp => ?_) (Heap.get?_push_size _ rfl) ?_ (out _ hsz) upd_same
    · obtain ⟨ps', a1, a2, a3⟩ := hT p hp
      by_cases hb : p.1 = P
      · rw [hu p hp hb, hb]
        have eL : (ps ++ #[rawInt pos.line, rawInt pos.col, .ref c']).toList = ps.toList ++ [rawInt pos.line, rawInt pos.col, .ref c'] := by simp
        refine ⟨_, by rw [upd_ne nPc, upd_same], by rw [eL]; exact PySem.TriplesOk_snoc _ _ _ _ ht, fun p' cv hcv => ?_⟩
        rw [eL] at hcv
        rcases among_app _ ht hcv with z | z
        · obtain ⟨c0, e1, e2⟩ := ha p' cv z
          exact ⟨c0, e1, keep _ _ e2 code_nt⟩
        · exact ⟨c', z, upd_same⟩
      · refine ⟨ps', by rw [upd_ne (ne_of_none a1 nC), upd_ne hb]; exact a1, a2, fun p' cv hcv => ?_⟩
        obtain ⟨c0, e1, e2⟩ := a3 p' cv hcv
        exact ⟨c0, e1, keep _ _ e2 code_nt⟩
    · have n1 : h'.objs.size ≠ c' := Nat.ne_of_gt hlt
      have n2 : h'.objs.size ≠ P := Nat.ne_of_gt (Nat.lt_of_lt_of_le (Heap.lt_size gP) hsz)
      rw [upd_ne n1, upd_ne n2]
      exact I.hok.fresh hsz
theorem lam_newd {T : List (Addr × Str)} {c P : Addr} {params : Arguments} {body : Expr} {scope : Scope} {pos p0 : Pos} {j0 : Nat} {i0 : Int} {E : Value → Shared → Prop} {Q : Value → Shared → Prop} (I : Inv X pins σ H s) (TB : TabB X.base X.mg c P) (hcode : X.env.code = .ref c)
    (hm : (P, X.env.qual ++ "<lambda>") ∈ T) (hu : ∀ p ∈ T, p.1 = P → p.2 = X.env.qual ++ "<lambda>") (hT : Tabs T H) (hdf : params.defaults = [.Constant (.int i0) j0 p0]) (hk0 : params.kw_defaults = []) (hfree : ∀ y ∈ scope.names, y.2 = .free → ∃ c, X.env.cells.lookup y.1 = some c)
    (h : ∀ (f c' t : Addr) (v pm ctv doc : Value) (H1 : Hp) (s' : Shared), Inv X pins σ H1 s' → LamH H H1 (X.env.qual ++ "<lambda>") → Tabs T H1 →
      s'.heap.get? f = some (ldObj (X.env.qual ++ "<lambda>") params body scope (cloFrom X.env.cells scope.names []) t doc pm c' ctv) → H1 f = none → f ∉ frs X.stack → H1 c' = some (CodeO c' (X.env.qual ++ "<lambda>")) →
      s'.heap.get? t = some (ldTup v) → H1 t = none → t ∉ frs X.stack → Q (.ref f) s') :
    wpAny (model X.prog X.w) X.A (eval (.Lambda params body scope pos) X.env) Q E s := by
  refine PySem.W.kdv_lam (by rw [hdf]; rfl) hk0 ?_
  rw [hdf]
  refine PySem.W.kdv_all1 (thn ((pe_int (X := X) (i := i0) (j := j0) (pos := p0)).run pins s σ H (fun v H1 => H1 = H) I rfl) fun u s1 ⟨v, H1, I1, r1, eH⟩ => PySem.W.kdv_all0 ?_)
  rw [eH] at I1
  rw [makeFunction_eq]
  simp only [List.zip_nil_right, List.filterMap_nil, List.isEmpty_nil, if_true, pure_bind, List.isEmpty_cons, Bool.false_eq_true, if_false]
  refine wpAny_bind (wpAny_newTextTuple ?_)
  have I2 : Inv X pins σ H { s1 with heap := s1.heap.push (ldTup u) } := I1.kept fun b o e => Heap.get?_push_of_some _ e
  have out : s1.heap.objs.size ∉ frs X.stack := fun z => by
    rcases List.mem_cons.mp (I1.stkSub _ z) with e | e
    · have h1 := I1.lt
      rw [← e] at h1
      exact Nat.lt_irrefl _ h1
    · exact I1.nofs (Nat.le_refl _) e
  have nT : H s1.heap.objs.size = none := I1.hok.fresh (Nat.le_refl _)
  refine lam_tail I2 TB hcode hm hu hT hfree fun f c' pm ctv doc H1 s' I3 keep fr0 fr1 lh T1 hf hfn hfr hco => ?_
  exact h f c' s1.heap.objs.size u pm ctv doc H1 s' I3 lh T1 hf hfn hfr hco (keep _ _ nT (Heap.get?_push_size _ rfl)) (fr1 _ (by rw [Heap.size_push]; exact Nat.lt_succ_self _) nT) out
/-- the frame of such a lambda is begun -/
theorem ld_start {A : Around} {outer : List PySem.Env} {E : XK} {scope : Scope} {d : Str} {f c' : Addr} {h₁ : Heap} {tk : Nat} {nsf : Str → Option Value} (I : Inv X pins σ H s) (L : LamD X.env.scope scope X.N d) (e0 : Env0 X.prog X.w X.K X.mg X.base A outer s1 HZ) (hd : A.handled = none)
    (un : Un (frs X.stack) [] H HZ s.heap s1.heap) (hns : h₁.Ns s1.heap.objs.size nsf) (kp : ∀ b o, s1.heap.get? b = some o → h₁.get? b = some o) :
    Inv (lamCx X A outer s1 HZ E scope f c') [] σ HZ { s1 with heap := h₁, toks := tk } := by
  have have1 : ∀ {y c}, (cloFrom X.env.cells scope.names []).lookup y = some c → X.env.cells.lookup y = some c := fun {y c} e => by
    rcases cloFrom_mem (PySem.mem_of_lookup e) with hm | ⟨h1, h2⟩
    · cases hm
    · obtain ⟨c1, hc⟩ := L.has I.ok _ h1 rfl
      have hc : X.env.cells.lookup y = some c1 := hc
      have e2 : c = c1 := by
        rw [h2, hc] <;> rfl
      rw [e2]
      exact hc
  have seen : ∀ {y}, scope.names.lookup y = some .free → ∃ c, (cloFrom X.env.cells scope.names []).lookup y = some c := fun {y} hl =>
    mem_lookup (cloFrom_has (cells := X.env.cells) (acc := []) (PySem.mem_of_lookup hl))
  have stay : ∀ {c : Addr} {v : Option Value}, H c = none → s.heap.IsCell c v → h₁.IsCell c v := fun {c v} n ⟨o, ho, hd⟩ => by
    obtain ⟨sl, q⟩ := un.any ho n (by simp)
    exact ⟨_, kp _ _ q, hd⟩
  have none1 : ∀ b : Addr, b ∉ (lamCx X A outer s1 HZ E scope f c').ex := fun b z => absurd (show b ∈ ([] : List Addr) from z) (by simp)
  refine ⟨⟨e0.mod, L.kind, rfl, rfl, Nat.le_refl _, fun y z c e1 e2 => I.ok.inj y z c (have1 e1) (have1 e2), fun y hy => ?_, fun y c z _ => ?_, fun _ => hd, Around.frames_deeper e0.frames, .inr ⟨rfl, rfl⟩, fun b z => absurd z (none1 b), e0.bs, e0.bsz, fun b _ _ => none1 b,
      fun b z => absurd z (none1 b), e0.funs, e0.frf⟩,
    rfl, e0.bare, Un.kept kp, ⟨_, hns, fun i y v e1 e2 e3 => ?_⟩, fun y c e => ?_, e0.hok.fresh (Nat.le_refl _), fun y c e => ?_, fun q hq => absurd (show q ∈ ([] : List (Addr × Obj)) ++ [] from hq) (by simp), e0.hok.kept kp, I.len⟩
  · have hy : scope.names.lookup y = some .cell ∨ scope.names.lookup y = some .free := hy
    rcases hy with hy | hy
    · exact absurd rfl (L.cell _ (PySem.mem_of_lookup hy))
    · exact seen hy
  · have z : false = true := z
    cases z
  · have e3 : Vis scope y := e3
    rcases e3 with k | k | k
    · have e1 : X.N[i]? = some y := e1
      exact absurd (List.mem_of_getElem? e1) (L.loc _ (PySem.mem_of_lookup k) rfl)
    · exact absurd rfl (L.cell _ (PySem.mem_of_lookup k))
    · obtain ⟨m, hn, hl⟩ := I.loc
      have hvis : Vis X.env.scope y := (L.free _ (PySem.mem_of_lookup k) rfl).elim (fun k => .inr (.inl k)) (fun k => .inr (.inr k))
      obtain ⟨w', r, q⟩ := hl i y v e1 e2 hvis
      obtain ⟨c2, h2⟩ := seen k
      refine ⟨w', r, .inr ⟨.inr k, c2, h2, ?_⟩⟩
      have c1 := have1 h2
      rcases q with ⟨k', _⟩ | ⟨_, c3, e', z⟩
      · have k' : X.env.scope.names.lookup y = some .local := k'
        rcases L.free _ (PySem.mem_of_lookup k) rfl with k2 | k2 <;> rw [show X.env.scope.names.lookup y = _ from k2] at k' <;> cases k'
      · rw [c1] at e'
        cases e'
        exact stay (I.freeC y _ c1) z
  · obtain ⟨w', z⟩ := I.cell y c (have1 e)
    exact ⟨w', stay (I.freeC y c (have1 e)) z⟩
  · obtain ⟨v, o, ho, hd⟩ := I.cell y c (have1 e)
    exact un.free c o ho (I.freeC y c (have1 e)) (by simp)
/-- what its default binds -/
def LdBind (params : Arguments) (body : Expr) (scope : Scope) (d : Str) : Prop := ∀ (M : Model) (A : Around) (E : Value → Shared → Prop) (Q : List (Str × Value) → Shared → Prop) (s : Shared) (q : Str) (cl : List (Str × Addr)) (t : Addr) (v doc pm cv ctv : Value),
  s.heap.get? t = some (ldTup v) → Q [(d, v)] s → wpAny M A (bindArgs (PySem.W.kdv_fn "<lambda>" q params (.expr body) scope cl (.ref t) doc pm cv ctv) ⟨[], []⟩) Q E s
/-- the call within it -/
theorem act_rund {Ng : List Str} {d : Str} {t0 : Addr} {v0 doc : Value} {qg : Str} {sg : Scope} {g f c' : Addr} {cdg pm ctv : Value} {params : Arguments} {body : Expr} {scope : Scope} {k : Nat} {a : Str} {pn : List (Addr × Obj)} {xe : Value → Shared → Prop} {W : WX} {p1 p2 : Pos} {σZ : L2.St} {HZ : Hp} {Q : VK}
    (I : Inv X pins σ H s) (L : LamD X.env.scope scope X.N d) (hf : s.heap.get? f = some (ldObj (X.env.qual ++ "<lambda>") params body scope (cloFrom X.env.cells scope.names []) t0 doc pm c' ctv)) (hfn : H f = none) (hfr : f ∉ frs X.stack)
    (hbind : LdBind params body scope d) (ht : s.heap.get? t0 = some (ldTup v0)) (htn : H t0 = none) (htr : t0 ∉ frs X.stack)
    (tk : Takes ((tcx X Ng qg sg g cdg s H).tr pn xe) W) (hr : Room (k + 1) (X.A.deeper (tenv qg sg s g cdg))) (hN : Ng[0]? = some a) (hv : Vis sg a) (h0 : σZ[0]? = some (some (.ref f))) (hc : HZ c' = some (CodeO c' (X.env.qual ++ "<lambda>")))
    (hbody : ∀ s2 : Shared, Room k ((X.A.deeper (tenv qg sg s g cdg)).deeper (lamEnv X scope s2.heap.objs.size f c')) → RdE (lamCx X (X.A.deeper (tenv qg sg s g cdg)) (tenv qg sg s g cdg :: X.stack) s2 HZ (WE W σZ) scope f c') body σ HZ Q)
    (hd : (a == ("__debug__" : Str)) = false := by decide) (hcd : (a == ("__classdict__" : Str)) = false := by decide) : RdE ((tcx X Ng qg sg g cdg s H).tr pn xe) (.Call (.Name a p1) [] [] p2) σZ HZ Q := by
  intro pinsZ sZ IZ
  refine wpAny_Call_Name_kw (thn ((pe_var (X := (tcx X Ng qg sg g cdg s H).tr pn xe) (pos := p1) (i := 0) hN hv hd hcd).run pinsZ sZ σZ HZ (fun v H1 => v = .ref f ∧ H1 = HZ) IZ ⟨.ref f, h0, rfl, rfl⟩) fun u s1 ⟨v, H1, I1, r1, ev, eH⟩ => ?_)
  subst ev
  rw [eH] at I1
  obtain rfl : u = Value.ref f := r1
  have of1 : s1.heap.get? f = some (ldObj (X.env.qual ++ "<lambda>") params body scope (cloFrom X.env.cells scope.names []) t0 doc pm c' ctv) := I1.base.keep f _ hf hfn hfr (fun z => nomatch (show f ∈ ([] : List Addr) from z))
  have ot1 : s1.heap.get? t0 = some (ldTup v0) := I1.base.keep t0 _ ht htn htr (fun z => nomatch (show t0 ∈ ([] : List Addr) from z))
  have un : Un (frs X.stack) [] H HZ s.heap s1.heap := I1.base
  obtain ⟨⟨oc, vs, t, hoc, hdc, hvc⟩, _, _⟩ := I1.hok c' _ hc
  refine PySem.W.callWith_F0 ⟨_, _, _, _, of1⟩ ?_
  have rc : codeAny (model X.prog X.w) (X.A.deeper (tenv qg sg s g cdg)) (.call (.ref f) ⟨[], []⟩) (CR (L2.CX X.prog X.w) (tenv qg sg s g cdg :: X.stack) X.prog X.w HZ s1 Q (WE W σZ)) s1 := by
    refine PySem.W.kla_callFunE hr.depth of1 rfl L.co L.gen rfl ⟨c', oc, vs, t, rfl, hoc, hdc, hvc⟩ ?_
    refine hbind _ _ _ _ _ _ _ _ _ _ _ _ _ ot1 ?_
    refine (wpAny_newFunctionEnv (fun y hy => L.cell y hy) (fun y hy => by rw [List.mem_singleton.mp hy]; exact L.has1) (fun h₁ hns hsb => ⟨I1.nolimit.fresh _ hsb, ?_⟩) L.kind)
    show codeAny _ _ (.expr body (lamEnv X scope s1.heap.objs.size f c')) _ _
    have kp : ∀ b o, s1.heap.get? b = some o → h₁.get? b = some o := fun b o e => hsb.extBut b o (Nat.ne_of_lt (Heap.lt_size e)) (Heap.get?_push_of_some _ e)
    have J := ld_start (E := WE W σZ) (tk := s1.toks + [(d, v0)].length) (f := f) (c' := c') I L I1.env0 hr.hd un hns kp
    refine PySem.W.kla_codeExpr (wpAny_mono (hbody s1 (hr.deeper _) [] _ J) (fun v s' hq => ?_) fun e s' hq => hq)
    obtain ⟨w', H', J', rv, q⟩ := hq
    exact ⟨w', H', J'.os, J'.bare, J'.base, J'.hok, rv, q⟩
  refine wpAny_call (codeAny_mono rc fun r s' hq => ?_)
  cases r with
  | error e => exact passAt tk σZ pinsZ HZ s1 e s' I1 hq
  | ok fl =>
    cases fl with
    | ret u => exact I1.after hq
    | next => exact False.elim hq
    | brk => exact False.elim hq
    | cont => exact False.elim hq
theorem ldBind_by {params : Arguments} {body : Expr} {scope : Scope} {d : Str} (h : ∀ (v : Value) (q : Str) (cl : List (Str × Addr)) (t : Addr) (doc pm cv ctv : Value), ∃ k : Option (Array Value) → Sem (List (Str × Value)), bindArgs (PySem.W.kdv_fn "<lambda>" q params (.expr body) scope cl (.ref t) doc pm cv ctv) ⟨[], []⟩ = (seqItems? (.ref t) >>= k) ∧ k (some #[v]) = pure [(d, v)]) : LdBind params body scope d :=
  fun M A E Q s q cl t v doc pm cv ctv ht hq => by
    obtain ⟨k, e1, e2⟩ := h v q cl t doc pm cv ctv
    exact BindsTo.of_defaults (T := t) (k := k) (binds := [(d, v)]) rfl ht rfl e1 e2 M A E Q hq
end
section
variable {G : GX} {X : Cx} {pins : List (Addr × Obj)} {σ : L2.St} {H H0 : Hp} {s : Shared}
theorem told_rund {sg : Scope} {d : Str} {t0 : Addr} {v0 doc : Value} {a fo er en x1 x2 x : Str} {ret : Expr} {kt k2 kk : Nat} {j1 j2 : Nat} {q : Nat → Pos} {g f c' C1 C2 : Addr} {cdg pm ctv : Value} {params : Arguments} {body : Expr} {scope : Scope} {k : Nat} {hit : Nat → Option Str} {fe : Env → Mo D} {fr : Env → Mo D}
    (tx : ToldTx sg a fo er en x1 x2 kt k2 kk j1 j2 q x) (hit_ok : HitOk G X.K C1 C2 hit) (hm1 : X.mg x1 = some (.ref C1)) (hm2 : X.mg x2 = some (.ref C2))
    (I : Inv X pins σ H s) (L : LamD X.env.scope scope X.N d) (hf : s.heap.get? f = some (ldObj (X.env.qual ++ "<lambda>") params body scope (cloFrom X.env.cells scope.names []) t0 doc pm c' ctv)) (hfn : H f = none) (hfr : f ∉ frs X.stack)
    (hbind : LdBind params body scope d) (ht : s.heap.get? t0 = some (ldTup v0)) (htn : H t0 = none) (htr : t0 ∉ frs X.stack) (hr : Room (k + 1) (X.A.deeper (tenv x sg s g cdg))) (hc : H c' = some (CodeO c' (X.env.qual ++ "<lambda>")))
    (hret : PD G (tcx X [a, fo, er, en] x sg g cdg s H) (wE fun _ _ _ => False) H ret fr)
    (hL : ∀ (s2 : Shared) (H2 : Hp) (E : XK), Room k ((X.A.deeper (tenv x sg s g cdg)).deeper (lamEnv X scope s2.heap.objs.size f c')) → PD G (lamCx X (X.A.deeper (tenv x sg s g cdg)) (tenv x sg s g cdg :: X.stack) s2 H2 E scope f c') (wE E) H0 body fe)
    {r : Env} {st : St} {T : Tg} {al : List Addr} {W : WX} {Q : VK} (S : SL X.K H0 T al H r σ) (wi : WI X.K G.TB T al st H) (post : Post G X.K W (RpD X.K) σ T al H Q (toldM fr hit G.fld (fe r) st)) :
    RdS (tcx X [a, fo, er, en] x sg g cdg s H) (toldB a fo er en x1 x2 ret kt k2 kk j1 j2 q) (L2.start [a, fo, er, en] [.ref f]) H { nx := fun _ H' => Q .non H', rt := Q } := by
  have hd := tx.d
  simp only [List.all_cons, List.all_nil, Bool.and_eq_true, beq_iff_eq, Bool.and_true] at hd
  obtain ⟨⟨da, dca⟩, ⟨dfo, _⟩, ⟨der, _⟩, ⟨den, dcen⟩, ⟨dx1, _⟩, ⟨dx2, _⟩⟩ := hd
  -- the last row, at what was found
  have hlast : ∀ (y z : D) (v u : V) (o p : Option V) (T' : Tg) (al' : List Addr) (H' : Hp) (st' : St), Ext T al H T' al' H' → WI X.K G.TB T' al' st' H' → Rep X.K (fz T' H') al' v y → Rep X.K (fz T' H') al' u z →
      Post G X.K W (RpD X.K) σ T' al' H' Q (nx (fr [none, some (.d y), some (.d z), none]) st') → RdS (tcx X [a, fo, er, en] x sg g cdg s H) [.Return (some ret) (q 20)] [o, some v, some u, p] H' { nx := fun _ H' => Q .non H', rt := Q } := by
    intro y z v u o p T' al' H' st' ex w1 r1 r2 po
    refine rdS (pss_one (ps_ret pe_rd)) (hret [none, some (.d y), some (.d z), none] st' _ T' al' H' _ (sl4 r1 r2) w1 ?_)
    cases e : fr [none, some (.d y), some (.d z), none] st' with
    | ok b st2 =>
      have e2 : nx (fr [none, some (.d y), some (.d z), none]) st' = .ok b st2 := by
        unfold nx
        rw [e]
      rw [e2] at po
      exact fun v2 T2 al2 H2 x2 w2 rr => po v2 T2 al2 H2 x2 w2 rr
    | err c b st2 =>
      have e2 : nx (fr [none, some (.d y), some (.d z), none]) st' = .bad := by
        unfold nx
        rw [e]
      rw [e2] at po
      exact po.elim
    | bad =>
      have e2 : nx (fr [none, some (.d y), some (.d z), none]) st' = .bad := by
        unfold nx
        rw [e]
      rw [e2] at po
      exact po.elim
  refine rdS (pss_cons ps_rd pss_rd) ?_
  have hg2 : PGs (tcx X [a, fo, er, en] x sg g cdg s H) [.Name fo (q 1), .Name er (q 2)] (gTs [1, 2]) := pgs_cons (pg_name (i := 1) tx.nd rfl (.inl tx.l1)) (pgs_cons (pg_name (i := 2) tx.nd rfl (.inl tx.l2)) pgs_nil)
  refine rdS1 (ps_asg (pe_tup (pa_cons pe_non (pa_cons pe_non pa_nil))) (pg_tup (k := kt) (pos := q 3) rfl hg2 (tx.ae _ _ _).1 (tx.ae _ _ _).2) (tx.s _ _ _) (tx.w _ _ _)) ?_
  refine ⟨by rw [line_is]; decide, fun p0 np => ⟨p0, [.non, .non], rfl, .inl (.inl upd_same), rfl, ?_⟩⟩
  refine ⟨_, _, rfl, _, _, rfl, rfl, ?_⟩
  have x0 : Ext T al H T al (upd H p0 (.tup [.non, .non])) := Ext.laid0 np
  have S0 := S.ext x0
  have w0 : WI X.K G.TB T al st (upd H p0 (.tup [.non, .non])) := wi.laid np
  have hc0 : (upd H p0 (.tup [.non, .non])) c' = some (CodeO c' (X.env.qual ++ "<lambda>")) := by rw [upd_ne (ne_of_none hc np)]; exact hc
  show RdS (tcx X [a, fo, er, en] x sg g cdg s H) _ [some (.ref f), some .non, some .non, none] (upd H p0 (.tup [.non, .non])) _
  refine rdS (pss_cons ps_rd pss_rd) ?_
  refine rdS1 (ps_try_keep (X := tcx X [a, fo, er, en] x sg g cdg s H) (i := 3) (j := 2) (n := en) (y := er) (Wout := fun _ _ _ _ => False) (tb := fun W D σ' H' => ∀ (pn : List (Addr × Obj)) (xe : Value → Shared → Prop), Takes ((tcx X [a, fo, er, en] x sg g cdg s H).tr pn xe) W → RdS ((tcx X [a, fo, er, en] x sg g cdg s H).tr pn xe) [.Assign [.Name fo (q 8)] (.Call (.Name a (q 9)) [] [] (q 10)) (q 11)] σ' H' D)
    rfl rfl rfl tx.nd rfl rfl (by decide) tx.l3 tx.l2 tx.g1 tx.g2 hm1 hm2 L2.takes0 (fun W pn xe tk _ => ⟨fun pins s σ H D I h => h pn xe tk pins s I⟩) (tx.s3 _ _ _) dx1 dx2 den dcen) ?_
  intro pn xe tk
  refine rdS (pss_one (ps_set (X := (tcx X [a, fo, er, en] x sg g cdg s H).tr pn xe) (i := 1) tx.nd rfl (.inl tx.l1) pe_rd (tx.s2 _ _ _) (.inl rfl))) ?_
  refine act_rund I L hf hfn hfr hbind ht htn htr tk hr rfl (.inl tx.l0) rfl hc0 (fun s2 hr2 => hL s2 _ _ hr2 r st σ T al _ _ S0 w0 ?_) da dca
  unfold toldM at post
  cases e : fe r st with
  | bad =>
    rw [e] at post
    exact post.elim
  | ok y st' =>
    rw [e] at post
    intro v T' al' H' ex w1 r1
    exact hlast y .non v .non (some (.ref f)) none T' al' H' st' (x0.trans ex) w1 r1 .non (Post.ext back_D post (x0.trans ex))
  | err c y st' =>
    rw [e] at post
    cases eh : hit c with
    | none =>
      simp only [eh] at post
      exact post.elim
    | some n =>
      simp only [eh] at post
      obtain ⟨ec, ex2⟩ := hit_ok c n eh
      intro dx v T' al' H' ex1 w1 nd1 hxd r1
      have ex := x0.trans ex1
      have nd : H dx = none := x0.free nd1
      refine ⟨true, by rw [ec]; exact ex2, fun _ => ⟨dx, rfl, fun b nb => ?_⟩, fun z => by cases z⟩
      obtain ⟨T2, x2, w2, sm, hT2⟩ := frz_any w1 ex nd hxd
      have hb0 : H b = none := ex.free nb
      have nT2 : T2 b = none := w2.free nb
      have nbd : dx ≠ b := fun z => by
        rw [z, nb] at hxd
        cases hxd
      have ex3 : Ext T al H (tset T2 b .frz) al' (upd H' b (ExcO (.ref (G.cls c)) dx b)) := (x2.trans (Ext.laid0 nb)).retag hb0 .frz
      have w3 : WI X.K G.TB (tset T2 b .frz) al' st' (upd H' b (ExcO (.ref (G.cls c)) dx b)) := (w2.laid nb).tag (by rw [nT2]; decide) (by rw [nT2]; decide) upd_same
      have sm2 : Same (fz T2 H') (fz (tset T2 b .frz) (upd H' b (ExcO (.ref (G.cls c)) dx b))) := fun p o z => fz_tset (by rw [nT2]; decide) _ _ ((Ext.laid0 (al := al') nb).fz p o z)
      have hr3 : Rep X.K (fz (tset T2 b .frz) (upd H' b (ExcO (.ref (G.cls c)) dx b))) al' (.ref b) (.exc n (G.fld c) y) := by
        refine .exc (d := dx) (v := v) (fz_of tset_same (by rw [upd_same, ec]) (by intro ps z; unfold ExcO at z; cases z)) (fz_of (by rw [tset_ne nbd]; exact hT2) (by rw [upd_ne nbd]; exact hxd)) ?_
        have r2 : Rep X.K (fz T2 H') al' v y := r1.mono sm ⟨[], by simp⟩
        exact r2.mono sm2 ⟨[], by simp⟩
      exact hlast .non (.exc n (G.fld c) y) .non (.ref b) (some (.ref f)) none _ al' _ st' ex3 w3 .non hr3 (Post.ext back_D post ex3)
/-- told(lambda d=i: body) -/
theorem pd_toldd {W : WX} {sg : Scope} {d : Str} {i0 : Int} {j0 : Nat} {p0 : Pos} {a fo er en x1 x2 x : Str} {ret : Expr} {kt k2 kk : Nat} {j1 j2 : Nat} {q : Nat → Pos} {g c P C1 C2 : Addr} {fd : FuncData} {pg : Arguments} {kws : List (Str × V)} {params : Arguments} {body : Expr} {scope : Scope} {k : Nat} {hit : Nat → Option Str} {fe : Env → Mo D} {fr : Env → Mo D} {p lpos pos : Pos}
    (tx : ToldTx sg a fo er en x1 x2 kt k2 kk j1 j2 q x) (hit_ok : HitOk G X.K C1 C2 hit) (hm1 : X.mg x1 = some (.ref C1)) (hm2 : X.mg x2 = some (.ref C2)) (hg : Gl X x) (hm : X.mg x = some (.ref g)) (hk : PySem.W.keepIn X.K (.ref g) = true)
    (F : FunD X.K x x pg (toldB a fo er en x1 x2 ret kt k2 kk j1 j2 q) sg [] kws g fd) (hb : Binds X.K fd [a] []) (Sg : FnScope [a, fo, er, en] [a] sg) (gd : X.A.guards = some [])
    (TB : TabB X.base X.mg c P) (hcode : X.env.code = .ref c) (hmT : (P, X.env.qual ++ "<lambda>") ∈ G.TB) (hu : ∀ p ∈ G.TB, p.1 = P → p.2 = X.env.qual ++ "<lambda>") (hr : Room (k + 2) X.A) (L : LamD X.env.scope scope X.N d) (hdf : params.defaults = [.Constant (.int i0) j0 p0]) (hk0 : params.kw_defaults = [])
    (hbind : LdBind params body scope d)
    (hret : ∀ (cdg : Value) (s : Shared) (H : Hp), Room (k + 1) (X.A.deeper (tenv x sg s g cdg)) → PD G (tcx X [a, fo, er, en] x sg g cdg s H) (wE fun _ _ _ => False) H ret fr)
    (hL : ∀ (A : Around) (outer : List PySem.Env) (s2 : Shared) (H : Hp) (E : XK) (f c' : Addr), A.guards = some [] → Room k (A.deeper (lamEnv X scope s2.heap.objs.size f c')) → PD G (lamCx X A outer s2 H E scope f c') (wE E) H0 body fe)
    (hdb : (x == ("__debug__" : Str)) = false := by decide) : PD G X W H0 (.Call (.Name x p) [.Lambda params body scope lpos] [] pos) (eTold G fr hit fe) := by
  intro r st σ T al H Q S w po pins s I
  refine wpAny_Call_Name_kw (ld_glob I hg hm ?_ hdb)
  refine PySem.W.callWith_K (h₀ := X.base) I.ok.mod.kin hk ?_ (by rfl) (by rfl)
  show wpAny _ _ (spliced ((false, eval (.Lambda params body scope lpos) X.env) :: backTo pos (starEach [] X.env))) _ _ s
  refine Calls.spliced_cons (lam_newd I TB hcode hmT hu w.tabs hdf hk0 (L.has I.ok) fun f c' t0 v0 pm' ctv doc' H1 s' I1 lh T1 hf hfn hfr hco ht htn htr => ?_)
  refine Calls.spliced_nil ⟨I1.kIn, ?_⟩
  have b := hb s' [.ref f] I1.kIn rfl
  have rc : codeAny (model X.prog X.w) X.A (.call (.ref g) ⟨[.ref f], []⟩) (CR (L2.CX X.prog X.w) X.stack X.prog X.w H1 s' Q (fun _ _ _ => False)) s' := by
    obtain ⟨oc, od, dV, kV, doc, pm, an, cdv, ct, osl, rfl, lk, hcd, _, _⟩ := F.ex
    refine run_ofS (N := [a, fo, er, en]) (ps := [a]) (us := [.ref f]) (vs := [.ref f]) lk hcd Sg hr I1.env0 b (.cons rfl .nil) rfl fun hr' => ⟨_, pss_rd, ?_⟩
    exact told_rund tx hit_ok hm1 hm2 I1 L hf hfn hfr hbind ht htn htr hr' hco (hret cdv s' H1 hr') (fun s2 H2 E hr2 => hL _ _ s2 H2 E f c' gd hr2) (S.ext lh.ext) (lh.wi T1 w) (Post.ext back_D po lh.ext)
  refine wpAny_call (codeAny_mono rc fun r s2 hq => ?_)
  cases r with
  | error e =>
    obtain ⟨_, _, _, _, _, _, _, _, _, _, _, _, z⟩ := hq
    exact z.elim
  | ok fl =>
    cases fl with
    | ret u => exact I1.after hq
    | next => exact False.elim hq
    | brk => exact False.elim hq
    | cont => exact False.elim hq
end
section
variable {G : GX} {X : Cx} {W : WX} {H0 : Hp} {p lpos pos : Pos}
theorem pd_tolddK {x d : Str} {i0 : Int} {j0 : Nat} {p0 : Pos} {params : Arguments} {body : Expr} {scope : Scope} {j : Nat} (k : Nat) {hit : Nat → Option Str} {fe : Env → Mo D} {fr : Env → Mo D} (t : ToldF G X.prog X.w X.K X.mg X.base x hit fr j) (l : LamK G X) (gd : X.A.guards = some []) (hr : Room (k + 2) X.A) (hj : j ≤ k + 1) (hg : Gl X x)
    (hL : ∀ (A : Around) (outer : List PySem.Env) (s2 : Shared) (H : Hp) (E : XK) (f c' : Addr), A.guards = some [] → Room k (lamCx X A outer s2 H E scope f c').A → PD G (lamCx X A outer s2 H E scope f c') (wE E) H0 body fe)
    (L : LamD X.env.scope scope X.N d) (hdf : params.defaults = [.Constant (.int i0) j0 p0] := by rfl) (hk0 : params.kw_defaults = [] := by rfl)
    (hbind : LdBind params body scope d)
    (hdb : (x == ("__debug__" : Str)) = false := by decide) : PD G X W H0 (.Call (.Name x p) [.Lambda params body scope lpos] [] pos) (eTold G fr hit fe) := by
  obtain ⟨sg, a, fo, er, en, x1, x2, ret, kt, k2, kk, j1, j2, q, g, C1, C2, fd, pg, t1, t2, t3, t4, t5, t6, t7, t8, t9, t10⟩ := t.ex
  obtain ⟨c, P, l1, l2, l3, l4⟩ := l.ex
  exact pd_toldd t1 t2 t3 t4 hg t5 t6 t7 t8 t9 gd l1 l2 l3 l4 hr L hdf hk0 hbind (fun cdg s H r => t10 X.A X.stack cdg s H gd (r.mono hj)) (fun A outer s2 H E f c' hg2 r => hL A outer s2 H E f c' hg2 r) hdb
end
end Pi
namespace Pi
open PySem PySem.Spec PyProof.Rows L2 LamX

/-- the things of l at the places is -/
def pk {α : Type} (is : List Nat) (l : List α) : List α := is.filterMap fun i => l[i]?
theorem pk_nil {α : Type} (l : List α) : pk [] l = [] := rfl
theorem pk_cons {α : Type} (i : Nat) (is : List Nat) (l : List α) : pk (i :: is) l = (match l[i]? with | some x => x :: pk is l | none => pk is l) := by
  unfold pk
  rw [List.filterMap_cons]
  cases l[i]? <;> rfl
theorem pk_len {α : Type} (is : List Nat) (l : List α) (h : ∀ i ∈ is, i < l.length) : (pk is l).length = is.length := by
  induction is with
  | nil => rfl
  | cons i is ih =>
    rw [pk_cons, List.getElem?_eq_getElem (h i (.head _))]
    exact congrArg (· + 1) (ih fun j hj => h j (.tail _ hj))
theorem vals_pk {vs : List V} {us : List Value} (r : Vals vs us) (is : List Nat) : Vals (pk is vs) (pk is us) := by
  induction is with
  | nil => exact .nil
  | cons i is ih =>
    rw [pk_cons, pk_cons]
    cases e : vs[i]? with
    | none =>
      have e2 : us[i]? = none := by
        rw [List.getElem?_eq_none_iff, ← Vals.length r]
        exact List.getElem?_eq_none_iff.mp e
      rw [e2]
      exact ih
    | some x =>
      obtain ⟨u, e2, ru⟩ := Vals.get r e
      rw [e2]
      exact .cons ru ih
theorem rep_pk {K : PySem.W.Frag} {F : Hp} {al : List Addr} {vs : List V} {ds : List D} (r : RepAll K F al vs ds) (is : List Nat) : RepAll K F al (pk is vs) (pk is ds) := by
  induction is with
  | nil => exact .nil
  | cons i is ih =>
    rw [pk_cons, pk_cons]
    cases e : ds[i]? with
    | none =>
      have e2 : vs[i]? = none := by
        rw [List.getElem?_eq_none_iff, r.length]
        exact List.getElem?_eq_none_iff.mp e
      rw [e2]
      exact ih
    | some x =>
      obtain ⟨u, e2, ru⟩ := RepAll.get r e
      rw [e2]
      exact .cons ru ih

/-- the values of the keywords of a call -/
def RdK (X : Cx) (kws : List Keyword) (σ : L2.St) (H : Hp) (Q : List V → Hp → Prop) : Prop := ∀ (pos : Pos) (pins : List (Addr × Obj)) (s : Shared), Inv X pins σ H s → wpAny (model X.prog X.w) X.A (evalAll ((backToKw pos (keywordEach kws X.env)).map (·.2))) (AP X pins σ Q) X.xe s
def PKL (G : GX) (X : Cx) (W : WX) (H0 : Hp) (kws : List Keyword) (f : Env → Mo (List D)) : Prop := ∀ (r : Env) (st : St) (σ : L2.St) (T : Tg) (al : List Addr) (H : Hp) (Q : List V → Hp → Prop), SL X.K H0 T al H r σ → WI X.K G.TB T al st H → Post G X.K W (RpL X.K) σ T al H Q (f r st) → RdK X kws σ H Q
section
variable {G : GX} {X : Cx} {W : WX} {H0 : Hp}
theorem pkl_nil : PKL G X W H0 [] aNil := fun r st σ T al H Q S w q pos pins s I => kwAll_nil ⟨[], H, I, .nil, q [] T al H .refl w .nil⟩
theorem pkl_cons {e : Expr} {y : Str} {p : Pos} {kws : List Keyword} {f : Env → Mo D} {g : Env → Mo (List D)} (ha : PD G X W H0 e f) (hr : PKL G X W H0 kws g) : PKL G X W H0 (⟨some y, e, p⟩ :: kws) (aCons f g) := by
  intro r st σ T al H Q S w q pos pins s I
  refine kwAll_cons (thn (ha r st σ T al H (fun v H1 => RdK X kws σ H1 fun vs H2 => Q (v :: vs) H2) S w (seqP back_L q fun x st1 v T1 al1 H1 _ x1 w1 r1 q1 => ?_) pins s I) fun u s1 ⟨v, H1, I1, r1, q1⟩ => thn (q1 pos pins s1 I1) fun us s2 ⟨vs, H2, I2, r2, q2⟩ => ⟨v :: vs, H2, I2, .cons r1 r2, q2⟩)
  refine hr r st1 σ T1 al1 H1 _ (S.ext x1) w1 (seqP back_L q1 fun xs st2 vs T2 al2 H2 _ x2 w2 r2 q2 => ?_)
  exact q2 (v :: vs) T2 al2 H2 .refl w2 (.cons (r1.ext x2) r2)
end
/-- a def of the text that is called by names -/
structure FKW (G : GX) (P : Program) (w : World) (K : PySem.W.Frag) (mg : Str → Option Value) (base : Heap) (x : Str) (n : Nat) (m : List D → Mo D) (k : Nat) (names : List Str) (is : List Nat) : Prop where
  ex : ∃ (f : Addr) (fd : FuncData) (ps : List Str), ps.length = n ∧ FnG P w K mg base k f fd ps (spM G K n m) ∧ mg x = some (.ref f) ∧ PySem.W.keepIn K (.ref f) = true ∧ ∀ (s : Shared) (us : List Value), us.length = n → BindsTo s fd ⟨[], names.zip us⟩ (ps.zip (pk is us))
section
variable {G : GX} {P : Program} {w : World} {K : PySem.W.Frag} {mg : Str → Option Value} {base : Heap} {k : Nat} {f : Addr} {fd : FuncData} {N ps names : List Str} {is : List Nat} {x : Str} {st : Stmt}
theorem fkw_of {n : Nat} {g : Stm} {m : List D → Mo D} (F : FunD K x x (defArgs st) (defBody st) (defScope st) [] [] f fd) (hm : mg x = some (.ref f)) (hs : ∃ o, K.lookup sysModules = some o) (S : FnScope N ps (defScope st)) (hn : ps.length = n) (hM : ∀ ds, ds.length = n → m ds = runD N.length g ds)
    (bd : ∀ (kV doc pm : Value) (an : Option Addr) (cdv ct : Value) (us : List Value), us.length = ps.length → bindArgs (PySem.W.fnOf x x (defArgs st) (defBody st) (defScope st) .none kV doc pm an cdv ct) ⟨[], names.zip us⟩ = pure (ps.zip (pk is us)))
    (hb : ∀ (cdv : Value) (A : Around) (outer : List PySem.Env) (s : Shared) (H : Hp) (E : XK), fd.code = cdv → Room k (dcx P w K mg base N x (defScope st) f cdv A outer s H E).A → COk (dcx P w K mg base N x (defScope st) f cdv A outer s H E) → PBl G (dcx P w K mg base N x (defScope st) f cdv A outer s H E) E H (defBody st) g) :
    FKW G P w K mg base x n m (k + 1) names is := by
  refine ⟨f, fd, ps, hn, fg_of F hs S hn hM hb, hm, F.kp, fun s us hl => ?_⟩
  obtain ⟨oc, od, dV, kV, doc, pm, an, cdv, ct, osl, rfl, lk, hcd, hD, hK⟩ := F.ex
  rcases hD with ⟨_, rfl⟩ | ⟨e, _⟩
  · exact .of_eq (bd kV doc pm an cdv ct us (hl.trans hn.symm))
  · exact absurd rfl e
end
section
variable {G : GX} {X : Cx} {W : WX} {H0 : Hp} {x : Str} {n k : Nat} {m : List D → Mo D} {p pos : Pos} {names : List Str} {is : List Nat} {kws : List Keyword}
/-- x(y=.., z=..) -/
theorem pd_callW {f : Env → Mo (List D)} (kn : FKW G X.prog X.w X.K X.mg X.base x n m k names is) (hr : Room k X.A) (gd : X.A.guards = some []) (tk : Takes X W) (hg : Gl X x) (hi : is.length = n) (hi2 : ∀ i ∈ is, i < n) (hn : ∀ r st ds st1, f r st = .ok ds st1 → ds.length = n) (ha : PKL G X W H0 kws f)
    (hdb : (x == ("__debug__" : Str)) = false := by decide) (hall : (backToKw pos (keywordEach kws X.env)).all (·.1.isSome) = true := by rfl) (hnm : (backToKw pos (keywordEach kws X.env)).filterMap (·.1) = names := by rfl)
    (hpl : ((backTo pos (starEach [] X.env)).any (·.1) || (backToKw pos (keywordEach kws X.env)).any (·.1.isNone)) = false := by rfl) :
    PD G X W H0 (.Call (.Name x p) [] kws pos) (eCall (fun ds => m (pk is ds)) f) := by
  intro r st σ T al H Q S w q pins s I
  obtain ⟨f0, fd, ps, hn0, F, hm, hk, hb⟩ := kn.ex
  refine wpAny_Call_Name_kw (ld_glob I hg hm ?_ hdb)
  refine PySem.W.callWith_KW0 (h₀ := X.base) I.ok.mod.kin hk hall (thn (ha r st σ T al H (fun vs H1 => ∃ T1 al1 st1 ds, vs.length = n ∧ WI X.K G.TB T1 al1 st1 H1 ∧ RepAll X.K (fz T1 H1) al1 vs ds ∧ Post G X.K W (RpD X.K) σ T1 al1 H1 Q (m (pk is ds) st1)) S w ?_ pos pins s I) fun us s1 ⟨vs, H1, I1, r1, T1, al1, st1, ds, hl, w1, rs, q1⟩ => ⟨I1.kIn, ?_⟩) hpl
  · refine seqP back_D q fun ds st1 vs T1 al1 H1 ef x1 w1 r1 q1 => ?_
    exact ⟨T1, al1, st1, ds, by rw [RepAll.length r1]; exact hn r st ds st1 ef, w1, r1, q1⟩
  · rw [hnm]
    have hl2 : (pk is vs).length = n := by rw [pk_len is vs fun i h => by rw [hl]; exact hi2 i h]; exact hi
    have q' : Post G X.K (wE (WE W σ)) (RpD X.K) [] T1 al1 H1 Q (m (pk is ds) st1) := by
      cases em : m (pk is ds) st1 with
      | ok y st2 => rw [em] at q1; exact q1
      | err c y st2 => rw [em] at q1; exact q1
      | bad => rw [em] at q1; exact q1
    refine wpAny_call (codeAny_mono (F.run X.A X.stack s1 H1 ⟨[], names.zip us⟩ (pk is us) (pk is vs) Q (WE W σ) hr gd I1.env0 (hb s1 us (by rw [← Vals.length r1, hl])) (vals_pk r1 is) ⟨hl2, T1, al1, st1, pk is ds, w1, rep_pk rs is, q'⟩) fun r s' hq => ?_)
    cases r with
    | error e => exact passAt tk σ pins H1 s1 e s' I1 hq
    | ok fl =>
      cases fl with
      | ret u => exact I1.after hq
      | next => exact False.elim hq
      | brk => exact False.elim hq
      | cont => exact False.elim hq
end
end Pi
namespace Pi
open PySem PySem.Spec PyProof.Rows L2
section
variable {b c : Type}
@[simp] theorem q_ret (x : b) (st : St) : (pure x : Mo b) st = .ok x st := rfl
@[simp] theorem q_bind (f : Mo b) (g : b → Mo c) (st : St) : (f >>= g) st = match f st with
  | .ok x st' => g x st'
  | .err k x st' => .err k x st'
  | .bad => .bad := rfl
@[simp] theorem q_some (x : b) (st : St) : Mo.opt (some x) st = .ok x st := rfl
@[simp] theorem q_none (st : St) : Mo.opt (none : Option b) st = .bad := rfl
@[simp] theorem q_bad (st : St) : (Mo.bad : Mo b) st = .bad := rfl
@[simp] theorem q_errM (k : Nat) (x : D) (st : St) : (Mo.err k x : Mo b) st = .err k x st := rfl
theorem q_lim {n : Nat} {x : b} {st : St} (h : n ≤ 16777216) : lim n x st = .ok x st := by
  unfold lim
  rw [Nat.ble_eq_true_of_le h]
end
/-- the ways of a def's end -/
def endD : Res Fl → Res D
  | .ok (.nx _) st => .ok .non st
  | .ok (.ret x) st => .ok x st
  | .ok _ _ => .bad
  | .err c x st => .err c x st
  | .bad => .bad
@[simp] theorem endD_nx (r : Env) (st : St) : endD (.ok (.nx r) st) = .ok .non st := rfl
@[simp] theorem endD_ret (x : D) (st : St) : endD (.ok (.ret x) st) = .ok x st := rfl
@[simp] theorem endD_err (c : Nat) (x : D) (st : St) : endD (.err c x st) = .err c x st := rfl
theorem q_run (n : Nat) (g : Stm) (ds : List D) (st : St) : runD n g ds st = endD (g (ds.map (fun x => some (.d x)) ++ List.replicate (n - ds.length) none) st) := by
  unfold runD
  rw [q_bind]
  cases g (ds.map (fun x => some (.d x)) ++ List.replicate (n - ds.length) none) st with
  | ok x st' => cases x <;> rfl
  | err c x st' => rfl
  | bad => rfl
/-- statements in turn -/
def seqR (h : Stm) : Res Fl → Res Fl
  | .ok (.nx r) st => h r st
  | y => y
@[simp] theorem seqR_nx (h : Stm) (r : Env) (st : St) : seqR h (.ok (.nx r) st) = h r st := rfl
@[simp] theorem seqR_ret (h : Stm) (x : D) (st : St) : seqR h (.ok (.ret x) st) = .ok (.ret x) st := rfl
@[simp] theorem seqR_err (h : Stm) (c : Nat) (x : D) (st : St) : seqR h (.err c x st) = .err c x st := rfl
section
variable (r : Env) (st : St)
@[simp] theorem q_seq (g h : Stm) : sSeq g h r st = seqR h (g r st) := by
  unfold sSeq
  rw [q_bind]
  cases g r st with
  | ok x st' => cases x <;> rfl
  | err c x st' => rfl
  | bad => rfl
@[simp] theorem q_next : sNext r st = .ok (.nx r) st := rfl
@[simp] theorem q_sRet (f : Env → Mo D) : sRet f r st = match f r st with
  | .ok x st' => .ok (.ret x) st'
  | .err k x st' => .err k x st'
  | .bad => .bad := by
  unfold sRet
  rw [q_bind]
  cases f r st <;> rfl
@[simp] theorem q_sSet (i : Nat) (f : Env → Mo D) : sSet i f r st = match f r st with
  | .ok x st' => .ok (.nx (r.set i (some (.d x)))) st'
  | .err k x st' => .err k x st'
  | .bad => .bad := by
  unfold sSet
  rw [q_bind]
  cases f r st <;> rfl
@[simp] theorem q_sOwn (i : Nat) (f : Env → Mo (List D)) : sOwn i f r st = match f r st with
  | .ok x st' => .ok (.nx (r.set i (some (.own x)))) st'
  | .err k x st' => .err k x st'
  | .bad => .bad := by
  unfold sOwn
  rw [q_bind]
  cases f r st <;> rfl
@[simp] theorem q_sRaise (c : Nat) (f : Env → Mo D) : sRaise c f r st = match f r st with
  | .ok x st' => .err c x st'
  | .err k x st' => .err k x st'
  | .bad => .bad := by
  unfold sRaise
  rw [q_bind]
  cases f r st <;> rfl
@[simp] theorem q_sExpr (f : Env → Mo D) : sExpr f r st = match f r st with
  | .ok x st' => .ok (.nx r) st'
  | .err k x st' => .err k x st'
  | .bad => .bad := by
  unfold sExpr
  rw [q_bind]
  cases f r st <;> rfl
def ifR (g h : Stm) (r : Env) : Res Bool → Res Fl
  | .ok true st => g r st
  | .ok false st => h r st
  | .err k x st => .err k x st
  | .bad => .bad
@[simp] theorem ifR_t (g h : Stm) : ifR g h r (.ok true st) = g r st := rfl
@[simp] theorem ifR_f (g h : Stm) : ifR g h r (.ok false st) = h r st := rfl
@[simp] theorem q_sIf (c : Env → Mo Bool) (g h : Stm) : sIf c g h r st = ifR g h r (c r st) := by
  unfold sIf
  rw [q_bind]
  cases c r st with
  | ok x st' => cases x <;> rfl
  | err c x st' => rfl
  | bad => rfl
def condR {b : Type} (g h : Env → Mo b) (r : Env) : Res Bool → Res b
  | .ok true st => g r st
  | .ok false st => h r st
  | .err k x st => .err k x st
  | .bad => .bad
@[simp] theorem condR_t {b : Type} (g h : Env → Mo b) : condR g h r (.ok true st) = g r st := rfl
@[simp] theorem condR_f {b : Type} (g h : Env → Mo b) : condR g h r (.ok false st) = h r st := rfl
@[simp] theorem q_eIf {b : Type} (c : Env → Mo Bool) (g h : Env → Mo b) : eIf c g h r st = condR g h r (c r st) := by
  unfold eIf
  rw [q_bind]
  cases c r st with
  | ok x st' => cases x <;> rfl
  | err c x st' => rfl
  | bad => rfl
@[simp] theorem q_bAnd (g h : Env → Mo Bool) : bAnd g h r st = condR h (fun _ => pure false) r (g r st) := by
  unfold bAnd
  rw [q_bind]
  cases g r st with
  | ok x st' => cases x <;> rfl
  | err c x st' => rfl
  | bad => rfl
@[simp] theorem q_bOr (g h : Env → Mo Bool) : bOr g h r st = condR (fun _ => pure true) h r (g r st) := by
  unfold bOr
  rw [q_bind]
  cases g r st with
  | ok x st' => cases x <;> rfl
  | err c x st' => rfl
  | bad => rfl
@[simp] theorem q_bNot (g : Env → Mo Bool) : bNot g r st = match g r st with
  | .ok x st' => .ok (!x) st'
  | .err k x st' => .err k x st'
  | .bad => .bad := by
  unfold bNot
  rw [q_bind]
  cases g r st <;> rfl
@[simp] theorem q_bOf (f : Env → Mo D) : bOf f r st = match f r st with
  | .ok x st' => Mo.opt x.toB st'
  | .err k x st' => .err k x st'
  | .bad => .bad := by
  unfold bOf
  rw [q_bind]
  cases f r st <;> rfl
@[simp] theorem q_bTru (f : Env → Mo D) : bTru f r st = match f r st with
  | .ok x st' => Mo.opt x.truth st'
  | .err k x st' => .err k x st'
  | .bad => .bad := by
  unfold bTru
  rw [q_bind]
  cases f r st <;> rfl
@[simp] theorem q_bYes : bYes r st = .ok true st := rfl
@[simp] theorem q_eC (x : D) : eC x r st = .ok x st := rfl
@[simp] theorem q_nC (x : List D) : nC x r st = .ok x st := rfl
@[simp] theorem q_aNil : aNil r st = .ok [] st := rfl
@[simp] theorem q_aCons (f : Env → Mo D) (g : Env → Mo (List D)) : aCons f g r st = match f r st with
  | .ok x st' => (match g r st' with
    | .ok xs st2 => .ok (x :: xs) st2
    | .err k x st' => .err k x st'
    | .bad => .bad)
  | .err k x st' => .err k x st'
  | .bad => .bad := by
  unfold aCons
  rw [q_bind]
  cases f r st with
  | ok x st' =>
    dsimp only
    rw [q_bind]
    cases g r st' <;> rfl
  | err c x st' => rfl
  | bad => rfl
@[simp] theorem q_eCall (m : List D → Mo D) (f : Env → Mo (List D)) : eCall m f r st = match f r st with
  | .ok x st' => m x st'
  | .err k x st' => .err k x st'
  | .bad => .bad := by
  unfold eCall
  rw [q_bind]
  cases f r st <;> rfl
@[simp] theorem q_nFz (f : Env → Mo (List D)) : nFz f r st = match f r st with
  | .ok x st' => .ok (.lst x) st'
  | .err k x st' => .err k x st'
  | .bad => .bad := by
  unfold nFz
  rw [q_bind]
  cases f r st <;> rfl
@[simp] theorem q_eBin (o : D → D → Option D) (f g : Env → Mo D) : eBin o f g r st = match f r st with
  | .ok x st' => (match g r st' with
    | .ok y st2 => Mo.opt (o x y) st2
    | .err k x st' => .err k x st'
    | .bad => .bad)
  | .err k x st' => .err k x st'
  | .bad => .bad := by
  unfold eBin
  rw [q_bind]
  cases f r st with
  | ok x st' =>
    dsimp only
    rw [q_bind]
    cases g r st' <;> rfl
  | err c x st' => rfl
  | bad => rfl
@[simp] theorem q_eUn (o : D → Option D) (f : Env → Mo D) : eUn o f r st = match f r st with
  | .ok x st' => Mo.opt (o x) st'
  | .err k x st' => .err k x st'
  | .bad => .bad := by
  unfold eUn
  rw [q_bind]
  cases f r st <;> rfl
@[simp] theorem q_eBlt {b : Type} (o : List D → Option b) (f : Env → Mo (List D)) : eBlt o f r st = match f r st with
  | .ok x st' => Mo.opt (o x) st'
  | .err k x st' => .err k x st'
  | .bad => .bad := by
  unfold eBlt
  rw [q_bind]
  cases f r st <;> rfl
@[simp] theorem q_eIsB (T : BTy) (f : Env → Mo D) : eIsB T f r st = match f r st with
  | .ok x st' => Mo.opt ((isB T x).map .bl) st'
  | .err k x st' => .err k x st'
  | .bad => .bad := by
  unfold eIsB
  rw [q_bind]
  cases f r st <;> rfl
@[simp] theorem q_bCmp (o : D → D → Option D) (f g : Env → Mo D) : bCmp o f g r st = match eBin o f g r st with
  | .ok x st' => Mo.opt x.toB st'
  | .err k x st' => .err k x st'
  | .bad => .bad := by
  unfold bCmp
  rw [q_bind]
  cases eBin o f g r st <;> rfl
@[simp] theorem q_iDat (f : Env → Mo D) : iDat f r st = match f r st with
  | .ok x st' => Mo.opt x.items st'
  | .err k x st' => .err k x st'
  | .bad => .bad := by
  unfold iDat
  rw [q_bind]
  cases f r st <;> rfl
@[simp] theorem q_iFun (o : List D → Option (List D)) (f : Env → Mo (List D)) : iFun o f r st = match f r st with
  | .ok x st' => Mo.opt (o x) st'
  | .err k x st' => .err k x st'
  | .bad => .bad := by
  unfold iFun
  rw [q_bind]
  cases f r st <;> rfl
@[simp] theorem q_iRng1 (f : Env → Mo (List D)) : iRng1 f r st = match f r st with
  | .ok x st' => Mo.opt (rng1 x) st'
  | .err k x st' => .err k x st'
  | .bad => .bad := by
  unfold iRng1
  rw [q_bind]
  cases f r st <;> rfl
@[simp] theorem q_iRng2 (f : Env → Mo (List D)) : iRng2 f r st = match f r st with
  | .ok x st' => Mo.opt (rng2 x) st'
  | .err k x st' => .err k x st'
  | .bad => .bad := by
  unfold iRng2
  rw [q_bind]
  cases f r st <;> rfl
@[simp] theorem q_sFor (f : Env → Mo (List D)) (b : D → Env → Option Env) (g : Stm) : sFor f b g r st = match f r st with
  | .ok xs st' => forL b g xs r st'
  | .err k x st' => .err k x st'
  | .bad => .bad := by
  unfold sFor
  rw [q_bind]
  cases f r st <;> rfl
@[simp] theorem q_pNone : pNone r st = .ok none st := rfl
@[simp] theorem q_pSome (f : Env → Mo D) : pSome f r st = match f r st with
  | .ok x st' => Mo.opt (partD x) st'
  | .err k x st' => .err k x st'
  | .bad => .bad := by
  unfold pSome
  rw [q_bind]
  cases f r st <;> rfl
@[simp] theorem q_prNil : prNil r st = .ok [] st := rfl
@[simp] theorem q_prCons (f g : Env → Mo D) (h : Env → Mo (List (D × D))) : prCons f g h r st = match f r st with
  | .ok x st' => (match g r st' with
    | .ok y st2 => (match h r st2 with
      | .ok l st3 => .ok ((x, y) :: l) st3
      | .err k x st' => .err k x st'
      | .bad => .bad)
    | .err k x st' => .err k x st'
    | .bad => .bad)
  | .err k x st' => .err k x st'
  | .bad => .bad := by
  unfold prCons
  rw [q_bind]
  cases f r st with
  | ok x st' =>
    dsimp only
    rw [q_bind]
    cases g r st' with
    | ok y st2 =>
      dsimp only
      rw [q_bind]
      cases h r st2 <;> rfl
    | err c x st' => rfl
    | bad => rfl
  | err c x st' => rfl
  | bad => rfl
def boolR (g : Env → Mo D) (d : Bool) (r : Env) (st : St) : Option Bool → Res D
  | some b => bif (b == d) then g r st else .ok (.bl b) st
  | none => .bad
@[simp] theorem boolR_tt (g : Env → Mo D) : boolR g true r st (some true) = g r st := rfl
@[simp] theorem boolR_tf (g : Env → Mo D) : boolR g true r st (some false) = .ok (.bl false) st := rfl
@[simp] theorem boolR_ff (g : Env → Mo D) : boolR g false r st (some false) = g r st := rfl
@[simp] theorem boolR_ft (g : Env → Mo D) : boolR g false r st (some true) = .ok (.bl true) st := rfl
@[simp] theorem q_eAnd (f g : Env → Mo D) : eAnd f g r st = match f r st with
  | .ok x st' => boolR g true r st' x.toB
  | .err k x st' => .err k x st'
  | .bad => .bad := by
  unfold eAnd
  rw [q_bind]
  cases f r st with
  | ok x st' =>
    dsimp only
    rw [q_bind]
    cases x.toB with
    | none => rfl
    | some b => cases b <;> rfl
  | err c x st' => rfl
  | bad => rfl
@[simp] theorem q_eOr (f g : Env → Mo D) : eOr f g r st = match f r st with
  | .ok x st' => boolR g false r st' x.toB
  | .err k x st' => .err k x st'
  | .bad => .bad := by
  unfold eOr
  rw [q_bind]
  cases f r st with
  | ok x st' =>
    dsimp only
    rw [q_bind]
    cases x.toB with
    | none => rfl
    | some b => cases b <;> rfl
  | err c x st' => rfl
  | bad => rfl
def chainR (o2 : D → D → Option D) (h : Env → Mo D) (r : Env) (y : D) (st : St) : Option Bool → Res D
  | some true => (match h r st with
    | .ok z st' => Mo.opt (o2 y z) st'
    | .err k x st' => .err k x st'
    | .bad => .bad)
  | some false => .ok (.bl false) st
  | none => .bad
@[simp] theorem chainR_t (o2 : D → D → Option D) (h : Env → Mo D) (y : D) : chainR o2 h r y st (some true) = (match h r st with
    | .ok z st' => Mo.opt (o2 y z) st'
    | .err k x st' => .err k x st'
    | .bad => .bad) := rfl
@[simp] theorem chainR_f (o2 : D → D → Option D) (h : Env → Mo D) (y : D) : chainR o2 h r y st (some false) = .ok (.bl false) st := rfl
@[simp] theorem q_eChain (o o2 : D → D → Option D) (f g h : Env → Mo D) : eChain o o2 f g h r st = match f r st with
  | .ok x st' => (match g r st' with
    | .ok y st2 => chainR o2 h r y st2 ((o x y).bind D.toB)
    | .err k x st' => .err k x st'
    | .bad => .bad)
  | .err k x st' => .err k x st'
  | .bad => .bad := by
  unfold eChain
  rw [q_bind]
  cases f r st with
  | ok x st' =>
    dsimp only
    rw [q_bind]
    cases g r st' with
    | ok y st2 =>
      dsimp only
      rw [q_bind]
      cases (o x y).bind D.toB with
      | none => rfl
      | some b =>
        cases b with
        | false => rfl
        | true =>
          show (h r >>= fun z => Mo.opt (o2 y z)) st2 = _
          rw [q_bind]
          show _ = (match h r st2 with
            | .ok z st' => Mo.opt (o2 y z) st'
            | .err k x st' => .err k x st'
            | .bad => .bad)
          cases h r st2 <;> rfl
    | err c x st' => rfl
    | bad => rfl
  | err c x st' => rfl
  | bad => rfl
def unpR (is : List Nat) (r : Env) (st : St) : Option (List D) → Res Fl
  | some xs => .ok (.nx (setAll is xs r)) st
  | none => .bad
@[simp] theorem q_unpS (is : List Nat) (xs : List D) : unpR is r st (some xs) = .ok (.nx (setAll is xs r)) st := rfl
@[simp] theorem q_sUnp (is : List Nat) (f : Env → Mo D) : sUnp is f r st = match f r st with
  | .ok x st' => unpR is r st' (unpack is.length x)
  | .err k x st' => .err k x st'
  | .bad => .bad := by
  unfold sUnp
  rw [q_bind]
  cases f r st with
  | ok x st' =>
    dsimp only
    rw [q_bind]
    cases unpack is.length x <;> rfl
  | err c x st' => rfl
  | bad => rfl
end
@[simp] theorem q_vCons0 (i : Nat) (x : Option SV) (r : Env) (st : St) : eVar (i + 1) (x :: r) st = eVar i r st := rfl
@[simp] theorem q_vZero (x : D) (r : Env) (st : St) : eVar 0 (some (.d x) :: r) st = .ok x st := rfl
@[simp] theorem q_hCons0 (i : Nat) (x : Option SV) (r : Env) (st : St) : hVar (i + 1) (x :: r) st = hVar i r st := rfl
@[simp] theorem q_hZero (x : D) (r : Env) (st : St) : hVar 0 (some (.d x) :: r) st = .ok x st := rfl
@[simp] theorem q_hOwn (x : List D) (r : Env) (st : St) : hVar 0 (some (.own x) :: r) st = .ok (.lst x) st := rfl
@[simp] theorem toB_bl (b : Bool) : D.toB (.bl b) = some b := rfl

@[simp] theorem q_leI (i j : Int) : oLe (.int i) (.int j) = some (.bl (decide (i ≤ j))) := rfl
@[simp] theorem q_ltI (i j : Int) : oLt (.int i) (.int j) = some (.bl (decide (i < j))) := rfl
@[simp] theorem q_gtI (i j : Int) : oGt (.int i) (.int j) = some (.bl (decide (j < i))) := rfl
@[simp] theorem q_geI (i j : Int) : oGe (.int i) (.int j) = some (.bl (decide (j ≤ i))) := rfl
@[simp] theorem q_eqI (i j : Int) : oEqX (.int i) (.int j) = some (.bl (i == j)) := rfl
@[simp] theorem q_neI (i j : Int) : oNeX (.int i) (.int j) = some (.bl (!(i == j))) := rfl
@[simp] theorem q_eqS (a b : Str) : oEqX (.str a) (.str b) = some (.bl (a == b)) := rfl
@[simp] theorem q_neS (a b : Str) : oNeX (.str a) (.str b) = some (.bl (!(a == b))) := rfl
@[simp] theorem q_eqT0 (xs : List D) : oEqX (.tup xs) (.tup []) = some (.bl xs.isEmpty) := by cases xs <;> rfl
@[simp] theorem q_eqL0 (xs : List D) : oEqX (.lst xs) (.lst []) = some (.bl xs.isEmpty) := by cases xs <;> rfl
@[simp] theorem q_neL0 (xs : List D) : oNeX (.lst xs) (.lst []) = some (.bl (!xs.isEmpty)) := by cases xs <;> rfl
@[simp] theorem q_is (x : D) : oIs x .non = some (.bl x.isNon) := rfl
@[simp] theorem q_isNot (x : D) : oIsNot x .non = some (.bl (!x.isNon)) := rfl
@[simp] theorem q_addI (i j : Int) : oAdd (.int i) (.int j) = some (.int (i + j)) := rfl
@[simp] theorem q_subI (i j : Int) : oSub (.int i) (.int j) = some (.int (i - j)) := rfl
theorem q_mulI {i j : Int} (h : smallI i = true ∨ smallI j = true) : oMul (.int i) (.int j) = some (.int (i * j)) := by
  have e : (smallI i || smallI j) = true := Bool.or_eq_true_iff.mpr h
  show (match smallI i || smallI j with
    | true => some (D.int (i * j))
    | false => none) = _
  rw [e]
theorem q_modI {i j : Int} (h : 0 < j) : oMod (.int i) (.int j) = some (.int (i % j)) := by
  show (match decide (0 < j) with
    | true => some (D.int (i % j))
    | false => none) = _
  rw [decide_eq_true h]
theorem q_fdivI {i j : Int} (h : 0 < j) (h2 : j < 1073741824) : oFdiv (.int i) (.int j) = some (.int (i / j)) := by
  show (match decide (0 < j) && decide (j < 1073741824) with
    | true => some (D.int (i / j))
    | false => none) = _
  rw [decide_eq_true h, decide_eq_true h2]
  rfl
theorem q_ixT {xs : List D} {n : Nat} (h : n < xs.length) : oIx (.tup xs) (.int n) = some xs[n] := by
  show (place xs.length n).bind (fun j => xs[j]?) = _
  unfold place
  rw [decide_eq_true (by omega), decide_eq_true (by omega)]
  simp [h]
theorem q_ixL {xs : List D} {n : Nat} (h : n < xs.length) : oIx (.lst xs) (.int n) = some xs[n] := by
  show (place xs.length n).bind (fun j => xs[j]?) = _
  unfold place
  rw [decide_eq_true (by omega), decide_eq_true (by omega)]
  simp [h]
@[simp] theorem q_lenT (xs : List D) : oLen [.tup xs] = some (.int xs.length) := rfl
@[simp] theorem q_lenL (xs : List D) : oLen [.lst xs] = some (.int xs.length) := rfl
@[simp] theorem q_lenK (xs : List D) : oLen [.kls xs] = some (.int xs.length) := rfl
@[simp] theorem q_isB_non (b : Bool) : D.isNon (.bl b) = false := rfl

@[simp] theorem forL_nil (b : D → Env → Option Env) (g : Stm) (r : Env) (st : St) : forL b g [] r st = .ok (.nx r) st := rfl
def loopR (b : D → Env → Option Env) (g : Stm) (xs : List D) : Res Fl → Res Fl
  | .ok (.nx r) st => forL b g xs r st
  | .ok (.ct r) st => forL b g xs r st
  | .ok (.brk r) st => .ok (.nx r) st
  | .ok (.ret v) st => .ok (.ret v) st
  | .err c x st => .err c x st
  | .bad => .bad
@[simp] theorem loopR_nx (b : D → Env → Option Env) (g : Stm) (xs : List D) (r : Env) (st : St) : loopR b g xs (.ok (.nx r) st) = forL b g xs r st := rfl
@[simp] theorem loopR_ret (b : D → Env → Option Env) (g : Stm) (xs : List D) (x : D) (st : St) : loopR b g xs (.ok (.ret x) st) = .ok (.ret x) st := rfl
@[simp] theorem loopR_err (b : D → Env → Option Env) (g : Stm) (xs : List D) (c : Nat) (x : D) (st : St) : loopR b g xs (.err c x st) = .err c x st := rfl
theorem forL_cons {b : D → Env → Option Env} {g : Stm} {x : D} {xs : List D} {r r1 : Env} {st : St} (h : b x r = some r1) : forL b g (x :: xs) r st = loopR b g xs (g r1 st) := by
  show (Mo.opt (b x r) >>= fun r1 => g r1 >>= fun fl => match fl with
    | .nx r2 => forL b g xs r2
    | .ct r2 => forL b g xs r2
    | .brk r2 => pure (.nx r2)
    | .ret v => pure (.ret v)) st = _
  rw [h, q_bind, q_some]
  dsimp only
  rw [q_bind]
  cases g r1 st with
  | ok x st' => cases x <;> rfl
  | err c x st' => rfl
  | bad => rfl
/-- a loop whose body only goes on, by an invariant of the slots and the store -/
theorem forL_all {b : D → Env → Option Env} {g : Stm} {I : Nat → Env → St → Prop} : ∀ (xs : List D) (r : Env) (st : St) (n : Nat), I n r st →
    (∀ k x r st, xs[k]? = some x → I (n + k) r st → ∃ r1 r2 st2, b x r = some r1 ∧ g r1 st = .ok (.nx r2) st2 ∧ I (n + k + 1) r2 st2) →
    ∃ r2 st2, forL b g xs r st = .ok (.nx r2) st2 ∧ I (n + xs.length) r2 st2
  | [], r, st, n, i, _ => ⟨r, st, rfl, i⟩
  | x :: xs, r, st, n, i, h => by
    obtain ⟨r1, r2, st2, h1, h2, h3⟩ := h 0 x r st rfl i
    obtain ⟨r3, st3, h4, h5⟩ := forL_all (b := b) (g := g) (I := I) xs r2 st2 (n + 1) h3 fun k y r st e i => by
      have := h (k + 1) y r st (by simpa using e) (by rw [show n + (k + 1) = n + 1 + k by omega]; exact i)
      rw [show n + (k + 1) + 1 = n + 1 + k + 1 by omega] at this
      exact this
    refine ⟨r3, st3, ?_, by rw [List.length_cons, show n + (xs.length + 1) = n + 1 + xs.length by omega]; exact h5⟩
    rw [forL_cons h1, h2, loopR_nx, h4]
/-- a comprehension without effects -/
theorem lcL_pure {b : D → Env → Option Env} {c : Env → Mo Bool} {e : Env → Mo D} {r : Env} {st : St} {p : D → Bool} {F : D → D} : ∀ xs : List D,
    (∀ x ∈ xs, ∃ r1, b x r = some r1 ∧ c r1 st = .ok (p x) st ∧ (p x = true → e r1 st = .ok (F x) st)) → lcL b c e r xs st = .ok ((xs.filter p).map F) st
  | [], _ => rfl
  | x :: xs, h => by
    obtain ⟨r1, h1, h2, h3⟩ := h x (List.mem_cons_self ..)
    have ih := lcL_pure (b := b) (c := c) (e := e) (r := r) (st := st) (p := p) (F := F) xs fun y hy => h y (List.mem_cons_of_mem _ hy)
    show (Mo.opt (b x r) >>= fun r1 => nx (c r1) >>= fun k => match k with
      | true => nx (e r1) >>= fun y => lcL b c e r xs >>= fun ys => pure (y :: ys)
      | false => lcL b c e r xs) st = _
    rw [h1, q_bind, q_some]
    dsimp only
    rw [q_bind]
    have z : nx (c r1) st = .ok (p x) st := by
      unfold nx
      rw [h2]
    rw [z]
    dsimp only
    cases q : p x with
    | true =>
      have z2 : nx (e r1) st = .ok (F x) st := by
        unfold nx
        rw [h3 q]
      dsimp only
      rw [q_bind, z2]
      dsimp only
      rw [q_bind, ih, List.filter_cons_of_pos q]
      rfl
    | false =>
      dsimp only
      rw [ih, List.filter_cons_of_neg (by rw [q]; decide)]
/-- a comprehension that draws -/
theorem lcL_draw {b : D → Env → Option Env} {c : Env → Mo Bool} {e : Env → Mo D} {r : Env} {I : Nat → St → Prop} {P : D → Prop} : ∀ (xs : List D) (st : St) (n : Nat), I n st →
    (∀ k x st, xs[k]? = some x → I (n + k) st → ∃ r1 st1, b x r = some r1 ∧ ((c r1 st = .ok false st1 ∧ I (n + k + 1) st1) ∨ ∃ y st2, c r1 st = .ok true st1 ∧ e r1 st1 = .ok y st2 ∧ P y ∧ I (n + k + 1) st2)) →
    ∃ ys st2, lcL b c e r xs st = .ok ys st2 ∧ ys.length ≤ xs.length ∧ (∀ y ∈ ys, P y) ∧ I (n + xs.length) st2
  | [], st, n, i, _ => ⟨[], st, rfl, Nat.le_refl _, (by intro y h; cases h), i⟩
  | x :: xs, st, n, i, h => by
    have rec_ := fun st1 (j : I (n + 1) st1) => lcL_draw (b := b) (c := c) (e := e) (r := r) (I := I) (P := P) xs st1 (n + 1) j fun k y st e i => by
      have := h (k + 1) y st (by simpa using e) (by rw [show n + (k + 1) = n + 1 + k by omega]; exact i)
      rw [show n + (k + 1) + 1 = n + 1 + k + 1 by omega] at this
      exact this
    have go : lcL b c e r (x :: xs) st = (Mo.opt (b x r) >>= fun r1 => nx (c r1) >>= fun k => match k with
      | true => nx (e r1) >>= fun y => lcL b c e r xs >>= fun ys => pure (y :: ys)
      | false => lcL b c e r xs) st := rfl
    obtain ⟨r1, st1, h1, ⟨h2, h3⟩ | ⟨y, st2, h2, h3, h4, h5⟩⟩ := h 0 x st rfl i
    · obtain ⟨ys, st3, a1, a2, a3, a4⟩ := rec_ st1 h3
      refine ⟨ys, st3, ?_, by simp; omega, a3, by rw [List.length_cons, show n + (xs.length + 1) = n + 1 + xs.length by omega]; exact a4⟩
      rw [go, h1, q_bind, q_some]
      dsimp only
      have z : nx (c r1) st = .ok false st1 := by
        unfold nx
        rw [h2]
      rw [q_bind, z]
      exact a1
    · obtain ⟨ys, st3, a1, a2, a3, a4⟩ := rec_ st2 h5
      refine ⟨y :: ys, st3, ?_, by simp; omega, fun z hz => by
        rcases List.mem_cons.mp hz with rfl | hz
        · exact h4
        · exact a3 z hz, by rw [List.length_cons, show n + (xs.length + 1) = n + 1 + xs.length by omega]; exact a4⟩
      rw [go, h1, q_bind, q_some]
      dsimp only
      have z : nx (c r1) st = .ok true st1 := by
        unfold nx
        rw [h2]
      have z2 : nx (e r1) st1 = .ok y st2 := by
        unfold nx
        rw [h3]
      rw [q_bind, z]
      dsimp only
      rw [q_bind, z2]
      dsimp only
      rw [q_bind, a1]
      rfl
end Pi
namespace Pi
open PySem PySem.Spec PyProof.Rows L2 LamX
section
abbrev progT : Program := PySem.Challenge.pw_primezeros_k02_whole_values
def top (i : Nat) : Stmt := PySem.Challenge.pw_primezeros_k02_whole_values.main.body.getD i (.Pass ⟨0, 0, 0, 0⟩)
def cPRIMES : D := .ktp [.int 2, .int 3, .int 5, .int 7]
def cMOST_UNKNOWNS : D := .int 4
def cMOST_POINTS : D := .int 700
def cMOST_TERMS : D := .int 700
def cMOST_POWER : D := .int 30
abbrev eBadField : Nat := 0
abbrev eBadPoly : Nat := 1
abbrev eBadPoint : Nat := 2
def errNames : List Str := ["BadField", "BadPoly", "BadPoint"]
def errFlds : List Str := ["place", "place", "value"]
abbrev tb (y : Str) : Str → Option Bool := tblOf y errNames
def okE : Str → Bool := fun n => decide (n ∈ errNames)
def hitT : Nat → Option Str := fun c => errNames[c]?
def GG : GX := ⟨fun _ => 0, fun c => errFlds.getD c "", []⟩
def lamDefs : List Str := []
def GK (K : PySem.W.Frag) : GX := ⟨fun c => He.ga K (errNames.getD c ""), fun c => errFlds.getD c "", tbsOf K lamDefs⟩
def n_is_integer : List Str := ["thing"]
theorem nd_is_integer : n_is_integer.Nodup := by decide
theorem sc_is_integer : FnScope n_is_integer ["thing"] (defScope (top 9)) := ⟨rfl, rfl, rfl, by decide +kernel, rfl, by decide +kernel, by decide +kernel⟩
def g_is_integer : Stm := sRet (eAnd (eIsB .int (hVar 0)) (eUn oNot (eIsB .bool (hVar 0))))
def m_is_integer : List D → Mo D := runD 1 g_is_integer
def n_is_integer_in : List Str := ["thing", "least", "most"]
theorem nd_is_integer_in : n_is_integer_in.Nodup := by decide
theorem sc_is_integer_in : FnScope n_is_integer_in ["thing", "least", "most"] (defScope (top 10)) := ⟨rfl, rfl, rfl, by decide +kernel, rfl, by decide +kernel, by decide +kernel⟩
def g_is_integer_in : Stm := sRet (eAnd (eCall m_is_integer (aCons (eVar 0) (aNil))) (eChain oLe oLe (hVar 1) (hVar 0) (hVar 2)))
def m_is_integer_in : List D → Mo D := runD 3 g_is_integer_in
def n_is_prime : List Str := ["thing"]
theorem nd_is_prime : n_is_prime.Nodup := by decide
theorem sc_is_prime : FnScope n_is_prime ["thing"] (defScope (top 11)) := ⟨rfl, rfl, rfl, by decide +kernel, rfl, by decide +kernel, by decide +kernel⟩
def g_is_prime : Stm := sRet (eAnd (eCall m_is_integer (aCons (eVar 0) (aNil))) (eBin oIn (hVar 0) (eC cPRIMES)))
def m_is_prime : List D → Mo D := runD 1 g_is_prime
def n_is_tuple_of : List Str := ["thing", "many"]
theorem nd_is_tuple_of : n_is_tuple_of.Nodup := by decide
theorem sc_is_tuple_of : FnScope n_is_tuple_of ["thing", "many"] (defScope (top 12)) := ⟨rfl, rfl, rfl, by decide +kernel, rfl, by decide +kernel, by decide +kernel⟩
def g_is_tuple_of : Stm := sRet (eAnd (eIsB .tuple (hVar 0)) (eBin oEqX (eBlt oLen (aCons (hVar 0) (aNil))) (hVar 1)))
def m_is_tuple_of : List D → Mo D := runD 2 g_is_tuple_of
def n_are_rests : List Str := ["prime", "thing", "many", "item"]
theorem nd_are_rests : n_are_rests.Nodup := by decide
theorem sc_are_rests : FnScope n_are_rests ["prime", "thing", "many"] (defScope (top 13)) := ⟨rfl, rfl, rfl, by decide +kernel, rfl, by decide +kernel, by decide +kernel⟩
def g_are_rests : Stm := sRet (eAnd (eCall m_is_tuple_of (aCons (eVar 1) (aCons (eVar 2) (aNil)))) (eBlt oAll (aCons (nFz (nLc (iDat (eVar 1)) (tgN 3) [3] (bYes) (eCall m_is_integer_in (aCons (eVar 3) (aCons (eC (.int 0)) (aCons (eBin oSub (hVar 0) (eC (.int 1))) (aNil))))))) (aNil))))
def m_are_rests : List D → Mo D := runD 4 g_are_rests
def n_power_of : List Str := ["number", "power", "result", "_"]
theorem nd_power_of : n_power_of.Nodup := by decide
theorem sc_power_of : FnScope n_power_of ["number", "power"] (defScope (top 14)) := ⟨rfl, rfl, rfl, by decide +kernel, rfl, by decide +kernel, by decide +kernel⟩
def g_power_of : Stm := sSeq (sSet 2 (eC (.int 1))) (sSeq (sFor (iRng1 (aCons (eVar 1) (aNil))) (tgN 3) (sSet 2 (eBin oMul (hVar 2) (hVar 0)))) (sRet (eVar 2)))
def m_power_of : List D → Mo D := runD 4 g_power_of
def n_need_field : List Str := ["thing", "prime", "many"]
theorem nd_need_field : n_need_field.Nodup := by decide
theorem sc_need_field : FnScope n_need_field ["thing"] (defScope (top 15)) := ⟨rfl, rfl, rfl, by decide +kernel, rfl, by decide +kernel, by decide +kernel⟩
def g_need_field : Stm := sSeq (sIf (bNot (bOf (eCall m_is_tuple_of (aCons (eVar 0) (aCons (eC (.int 2)) (aNil)))))) (sRaise eBadField (eC (.tup []))) (sNext)) (sSeq (sUnp [1, 2] (eVar 0)) (sSeq (sIf (bNot (bOf (eCall m_is_prime (aCons (eVar 1) (aNil))))) (sRaise eBadField (eC (.tup [.int 0]))) (sNext)) (sSeq (sIf (bNot (bOf (eCall m_is_integer_in (aCons (eVar 2) (aCons (eC (.int 1)) (aCons (eC cMOST_UNKNOWNS) (aNil))))))) (sRaise eBadField (eC (.tup [.int 1]))) (sNext)) (sSeq (sIf (bCmp oGt (eCall m_power_of (aCons (eVar 1) (aCons (eVar 2) (aNil)))) (eC cMOST_POINTS)) (sRaise eBadField (eC (.tup []))) (sNext)) (sRet (eVar 0))))))
def m_need_field : List D → Mo D := runD 3 g_need_field
def n_is_point : List Str := ["field", "thing", "prime", "many"]
theorem nd_is_point : n_is_point.Nodup := by decide
theorem sc_is_point : FnScope n_is_point ["field", "thing"] (defScope (top 16)) := ⟨rfl, rfl, rfl, by decide +kernel, rfl, by decide +kernel, by decide +kernel⟩
def g_is_point : Stm := sSeq (sUnp [2, 3] (eVar 0)) (sRet (eCall m_are_rests (aCons (eVar 2) (aCons (eVar 1) (aCons (eVar 3) (aNil))))))
def m_is_point : List D → Mo D := runD 4 g_is_point
def n_need_point : List Str := ["field", "thing"]
theorem nd_need_point : n_need_point.Nodup := by decide
theorem sc_need_point : FnScope n_need_point ["field", "thing"] (defScope (top 17)) := ⟨rfl, rfl, rfl, by decide +kernel, rfl, by decide +kernel, by decide +kernel⟩
def g_need_point : Stm := sSeq (sIf (bNot (bOf (eCall m_is_point (aCons (eCall m_need_field (aCons (eVar 0) (aNil))) (aCons (eVar 1) (aNil)))))) (sRaise eBadPoint (eVar 1)) (sNext)) (sRet (eVar 1))
def m_need_point : List D → Mo D := runD 2 g_need_point
def n_points : List Str := ["field", "begun", "_", "prime", "many", "point", "item"]
theorem nd_points : n_points.Nodup := by decide
theorem sc_points : FnScope n_points ["field"] (defScope (top 18)) := ⟨rfl, rfl, rfl, by decide +kernel, rfl, by decide +kernel, by decide +kernel⟩
def g_points : Stm := sSeq (sUnp [3, 4] (eCall m_need_field (aCons (eVar 0) (aNil)))) (sSeq (sSet 1 (eC (.lst [.tup []]))) (sSeq (sFor (iRng1 (aCons (eVar 4) (aNil))) (tgN 2) (sSet 1 (nFz (nLc2 (iDat (eVar 1)) (tgN 5) [5, 6] (bYes) (iRng1 (aCons (eVar 3) (aNil))) (tgN 6) [6] (bYes) (eBin oAdd (hVar 5) (eTup (aCons (eVar 6) (aNil)))))))) (sRet (eBlt oTuple (aCons (hVar 1) (aNil))))))
def m_points : List D → Mo D := runD 7 g_points
def n__are_powers : List Str := ["thing", "many", "power"]
theorem nd__are_powers : n__are_powers.Nodup := by decide
theorem sc__are_powers : FnScope n__are_powers ["thing", "many"] (defScope (top 22)) := ⟨rfl, rfl, rfl, by decide +kernel, rfl, by decide +kernel, by decide +kernel⟩
def g__are_powers : Stm := sRet (eAnd (eCall m_is_tuple_of (aCons (eVar 0) (aCons (eVar 1) (aNil)))) (eBlt oAll (aCons (nFz (nLc (iDat (eVar 0)) (tgN 2) [2] (bYes) (eCall m_is_integer_in (aCons (eVar 2) (aCons (eC (.int 0)) (aCons (eC cMOST_POWER) (aNil))))))) (aNil))))
def m__are_powers : List D → Mo D := runD 3 g__are_powers
def n__is_term : List Str := ["field", "thing", "prime", "many", "powers", "factor"]
theorem nd__is_term : n__is_term.Nodup := by decide
theorem sc__is_term : FnScope n__is_term ["field", "thing"] (defScope (top 23)) := ⟨rfl, rfl, rfl, by decide +kernel, rfl, by decide +kernel, by decide +kernel⟩
def g__is_term : Stm := sSeq (sUnp [2, 3] (eVar 0)) (sSeq (sIf (bNot (bOf (eCall m_is_tuple_of (aCons (eVar 1) (aCons (eC (.int 2)) (aNil)))))) (sRet (eC (.bl false))) (sNext)) (sSeq (sUnp [4, 5] (eVar 1)) (sRet (eAnd (eCall m__are_powers (aCons (eVar 4) (aCons (eVar 3) (aNil)))) (eCall m_is_integer_in (aCons (eVar 5) (aCons (eC (.int 1)) (aCons (eBin oSub (hVar 2) (eC (.int 1))) (aNil)))))))))
def m__is_term : List D → Mo D := runD 6 g__is_term
def n_poly_fault : List Str := ["field", "thing", "ahead", "number", "term"]
theorem nd_poly_fault : n_poly_fault.Nodup := by decide
theorem sc_poly_fault : FnScope n_poly_fault ["field", "thing"] (defScope (top 24)) := ⟨rfl, rfl, rfl, by decide +kernel, rfl, by decide +kernel, by decide +kernel⟩
def g_poly_fault : Stm := sSeq (sIf (bOr (bNot (bOf (eIsB .tuple (hVar 1)))) (bCmp oGt (eBlt oLen (aCons (hVar 1) (aNil))) (eC cMOST_TERMS))) (sRet (eC (.tup []))) (sNext)) (sSeq (sSet 2 (eC (.tup []))) (sSeq (sFor (iFun enumT (aCons (eVar 1) (aNil))) (tgT [3, 4]) (sSeq (sIf (bOr (bNot (bOf (eCall m__is_term (aCons (eVar 0) (aCons (eVar 4) (aNil)))))) (bCmp oLe (eBin oIx (hVar 4) (eC (.int 0))) (hVar 2))) (sRet (eTup (aCons (eVar 3) (aNil)))) (sNext)) (sSet 2 (eBin oIx (hVar 4) (eC (.int 0)))))) (sRet (eC (.non)))))
def m_poly_fault : List D → Mo D := runD 5 g_poly_fault
def n_need_poly : List Str := ["field", "thing", "place"]
theorem nd_need_poly : n_need_poly.Nodup := by decide
theorem sc_need_poly : FnScope n_need_poly ["field", "thing"] (defScope (top 25)) := ⟨rfl, rfl, rfl, by decide +kernel, rfl, by decide +kernel, by decide +kernel⟩
def g_need_poly : Stm := sSeq (sSet 2 (eCall m_poly_fault (aCons (eCall m_need_field (aCons (eVar 0) (aNil))) (aCons (eVar 1) (aNil))))) (sSeq (sIf (bCmp oIsNot (hVar 2) (eC (.non))) (sRaise eBadPoly (eVar 2)) (sNext)) (sRet (eVar 1)))
def m_need_poly : List D → Mo D := runD 3 g_need_poly
def n_value_at : List Str := ["field", "poly", "point", "total", "powers", "factor", "worth", "item", "power"]
theorem nd_value_at : n_value_at.Nodup := by decide
theorem sc_value_at : FnScope n_value_at ["field", "poly", "point"] (defScope (top 26)) := ⟨rfl, rfl, rfl, by decide +kernel, rfl, by decide +kernel, by decide +kernel⟩
def g_value_at : Stm := sSeq (sExpr (eCall m_need_poly (aCons (eVar 0) (aCons (eVar 1) (aNil))))) (sSeq (sExpr (eCall m_need_point (aCons (eVar 0) (aCons (eVar 2) (aNil))))) (sSeq (sSet 3 (eC (.int 0))) (sSeq (sFor (iDat (eVar 1)) (tgT [4, 5]) (sSeq (sSet 6 (eVar 5)) (sSeq (sFor (iFun zipO (aCons (eVar 2) (aCons (eVar 4) (aNil)))) (tgT [7, 8]) (sSet 6 (eBin oMul (hVar 6) (eCall m_power_of (aCons (eVar 7) (aCons (eVar 8) (aNil))))))) (sSet 3 (eBin oAdd (hVar 3) (hVar 6)))))) (sRet (eBin oMod (hVar 3) (eBin oIx (hVar 0) (eC (.int 0))))))))
def m_value_at : List D → Mo D := runD 9 g_value_at
def n__along_each_unknown : List Str := ["field", "worths", "table", "size", "_", "prime", "many", "turned", "at", "line", "row", "one", "two"]
theorem nd__along_each_unknown : n__along_each_unknown.Nodup := by decide
theorem sc__along_each_unknown : FnScope n__along_each_unknown ["field", "worths", "table"] (defScope (top 32)) := ⟨rfl, rfl, rfl, by decide +kernel, rfl, by decide +kernel, by decide +kernel⟩
def g__along_each_unknown : Stm := sSeq (sUnp [5, 6] (eVar 0)) (sSeq (sSet 3 (eBin oFdiv (eBlt oLen (aCons (hVar 1) (aNil))) (hVar 5))) (sSeq (sFor (iRng1 (aCons (eVar 6) (aNil))) (tgN 4) (sSeq (sOwn 7 (nLst (aNil))) (sSeq (sFor (iRng1 (aCons (eVar 3) (aNil))) (tgN 8) (sSeq (sSet 9 (nFz (nStep (hVar 1) (pSome (eVar 8)) (pNone) (eVar 3)))) (sFor (iDat (eVar 2)) (tgN 10) (sApp 7 (eBin oMod (eBlt oSumX (aCons (nFz (nLc (iFun zipO (aCons (eVar 10) (aCons (eVar 9) (aNil)))) (tgT [11, 12]) [11, 12] (bYes) (eBin oMul (hVar 11) (hVar 12)))) (aNil))) (hVar 5)))))) (sSeq (sFrzT 7) (sSet 1 (eVar 7)))))) (sRet (eVar 1))))
def m__along_each_unknown : List D → Mo D := runD 13 g__along_each_unknown
def n__lessened : List Str := ["prime", "power"]
theorem nd__lessened : n__lessened.Nodup := by decide
theorem sc__lessened : FnScope n__lessened ["prime", "power"] (defScope (top 29)) := ⟨rfl, rfl, rfl, by decide +kernel, rfl, by decide +kernel, by decide +kernel⟩
def g__lessened : Stm := sSeq (sIf (bCmp oEqX (hVar 1) (eC (.int 0))) (sRet (eC (.int 0))) (sNext)) (sRet (eBin oAdd (eBin oMod (eBin oSub (hVar 1) (eC (.int 1))) (eBin oSub (hVar 0) (eC (.int 1)))) (eC (.int 1))))
def m__lessened : List D → Mo D := runD 2 g__lessened
def n__factors : List Str := ["field", "poly", "factors", "prime", "many", "powers", "factor", "at", "power"]
theorem nd__factors : n__factors.Nodup := by decide
theorem sc__factors : FnScope n__factors ["field", "poly"] (defScope (top 30)) := ⟨rfl, rfl, rfl, by decide +kernel, rfl, by decide +kernel, by decide +kernel⟩
def g__factors : Stm := sSeq (sUnp [3, 4] (eVar 0)) (sSeq (sOwn 2 (nRep (eC (.lst [.int 0])) (eCall m_power_of (aCons (eVar 3) (aCons (eVar 4) (aNil)))))) (sSeq (sFor (iDat (eVar 1)) (tgT [5, 6]) (sSeq (sSet 7 (eC (.int 0))) (sSeq (sFor (iDat (eVar 5)) (tgN 8) (sSet 7 (eBin oAdd (eBin oMul (hVar 7) (hVar 3)) (eCall m__lessened (aCons (eVar 3) (aCons (eVar 8) (aNil))))))) (sAt 2 (eBin oMod (eBin oAdd (eBin oIx (hVar 2) (hVar 7)) (hVar 6)) (hVar 3)) (eVar 7))))) (sSeq (sFrzT 2) (sRet (eVar 2)))))
def m__factors : List D → Mo D := runD 9 g__factors
def n__table_of_values : List Str := ["prime", "item", "power"]
theorem nd__table_of_values : n__table_of_values.Nodup := by decide
theorem sc__table_of_values : FnScope n__table_of_values ["prime"] (defScope (top 31)) := ⟨rfl, rfl, rfl, by decide +kernel, rfl, by decide +kernel, by decide +kernel⟩
def g__table_of_values : Stm := sRet (nFz (nLc (iRng1 (aCons (eVar 0) (aNil))) (tgN 1) [1] (bYes) (nFz (nLc (iRng1 (aCons (eVar 0) (aNil))) (tgN 2) [2] (bYes) (eBin oMod (eCall m_power_of (aCons (eVar 1) (aCons (eVar 2) (aNil)))) (hVar 0))))))
def m__table_of_values : List D → Mo D := runD 3 g__table_of_values
def n_values : List Str := ["field", "poly"]
theorem nd_values : n_values.Nodup := by decide
theorem sc_values : FnScope n_values ["field", "poly"] (defScope (top 27)) := ⟨rfl, rfl, rfl, by decide +kernel, rfl, by decide +kernel, by decide +kernel⟩
def g_values : Stm := sSeq (sExpr (eCall m_need_poly (aCons (eVar 0) (aCons (eVar 1) (aNil))))) (sRet (eBlt oTuple (aCons (eCall m__along_each_unknown (aCons (eVar 0) (aCons (eCall m__factors (aCons (eVar 0) (aCons (eVar 1) (aNil)))) (aCons (eCall m__table_of_values (aCons (eBin oIx (hVar 0) (eC (.int 0))) (aNil))) (aNil))))) (aNil))))
def m_values : List D → Mo D := runD 2 g_values
def n_degree : List Str := ["field", "poly", "powers", "_"]
theorem nd_degree : n_degree.Nodup := by decide
theorem sc_degree : FnScope n_degree ["field", "poly"] (defScope (top 28)) := ⟨rfl, rfl, rfl, by decide +kernel, rfl, by decide +kernel, by decide +kernel⟩
def g_degree : Stm := sSeq (sExpr (eCall m_need_poly (aCons (eVar 0) (aCons (eVar 1) (aNil))))) (sRet (eMaxD (nFz (nLc (iDat (eVar 1)) (tgT [2, 3]) [2, 3] (bYes) (eBlt oSumX (aCons (hVar 2) (aNil))))) (eUn oNeg (eC (.int 1)))))
def m_degree : List D → Mo D := runD 4 g_degree
def n__law_begun : List Str := ["script", "k", "cells", "great", "seed", "cell"]
theorem nd__law_begun : n__law_begun.Nodup := by decide
theorem sc__law_begun : FnScope n__law_begun ["script", "k"] (defScope (top 34)) := ⟨rfl, rfl, rfl, by decide +kernel, rfl, by decide +kernel, by decide +kernel⟩
def g__law_begun : Stm := sSeq (sSet 2 (nFz (nCat (nFz (nSlice (hVar 0) (pSome (eVar 1)) (pNone))) (nFz (nSlice (hVar 0) (pNone) (pSome (eVar 1))))))) (sSeq (sSet 3 (nFz (nLc (iDat (eVar 2)) (tgN 5) [5] (bCmp oGe (hVar 5) (eBin oPow (eC (.int 10)) (eC (.int 18)))) (eVar 5)))) (sSeq (sSet 4 (eBin oAdd (eC (.int 59)) (hVar 1))) (sSeq (sFor (iDat (eVar 2)) (tgN 5) (sSet 4 (eBin oMod (eBlt oInt (aCons (eBin oAdd (eBin oMul (hVar 4) (eC (.int 48271))) (hVar 5)) (aNil))) (eC (.int 2147483647))))) (sRet (eObj (prCons (eC (.str "left")) (eIf (bCmp oNeX (hVar 3) (eC (.lst []))) (eBin oIx (hVar 3) (eC (.int 0))) (eC (.int 0))) (prCons (eC (.str "seed")) (eVar 4) (prCons (eC (.str "cells")) (nFz (nCat (hVar 2) (nFz (nLst (aCons (eBin oAdd (eBin oMul (eC (.int 43)) (hVar 1)) (eC (.int 13))) (aNil)))))) (prCons (eC (.str "spot")) (eC (.int 0)) (prNil))))))))))
def m__law_begun : List D → Mo D := runD 6 g__law_begun
def n__law_draw : List Str := ["m", "many", "spot", "cell", "blend", "found", "cells", "extra"]
theorem nd__law_draw : n__law_draw.Nodup := by decide
theorem sc__law_draw : FnScope n__law_draw ["m", "many"] (defScope (top 35)) := ⟨rfl, rfl, rfl, by decide +kernel, rfl, by decide +kernel, by decide +kernel⟩
def g__law_draw : Stm := sSeq (sIf (bCmp oGt (eGet (eVar 0) (eC (.str "left"))) (eC (.int 0))) (sSeq (sSet 5 (eBin oMod (eBlt oInt (aCons (eGet (eVar 0) (eC (.str "left"))) (aNil))) (hVar 1))) (sSeq (sPut (eVar 0) (eC (.str "left")) (eBin oFdiv (eGet (eVar 0) (eC (.str "left"))) (hVar 1))) (sRet (eVar 5)))) (sNext)) (sSeq (sSet 2 (eGet (eVar 0) (eC (.str "spot")))) (sSeq (sPut (eVar 0) (eC (.str "spot")) (eBin oAdd (hVar 2) (eC (.int 1)))) (sSeq (sPar 6 7 (aCons (eGet (eVar 0) (eC (.str "cells"))) (aCons (eBin oAdd (eGet (eVar 0) (eC (.str "seed"))) (eBin oMul (eBin oMul (eC (.int 40503)) (hVar 2)) (hVar 2))) (aNil)))) (sSeq (sSet 3 (eBin oIx (hVar 6) (eBin oMod (eBlt oInt (aCons (hVar 2) (aNil))) (eBlt oLen (aCons (hVar 6) (aNil)))))) (sSeq (sSet 4 (eBin oMod (eBlt oInt (aCons (eBin oAdd (eBin oMul (hVar 3) (eBin oAdd (eBin oMul (eC (.int 2)) (hVar 2)) (eC (.int 3)))) (hVar 7)) (aNil))) (eC (.int 2147483647)))) (sSeq (sSet 4 (eBin oMod (eBlt oInt (aCons (eBin oAdd (eBin oAdd (eBin oMul (hVar 4) (hVar 4)) (eBin oMul (eC (.int 69621)) (hVar 2))) (eGet (eVar 0) (eC (.str "seed")))) (aNil))) (eC (.int 2147483629)))) (sRet (eBin oMod (eBin oFdiv (eBin oMod (eBlt oInt (aCons (eBin oAdd (eBin oMul (hVar 4) (eC (.int 48271))) (hVar 2)) (aNil))) (eC (.int 2147483647))) (eC (.int 11))) (hVar 1)))))))))
def m__law_draw : List D → Mo D := runD 8 g__law_draw
def n__law_of : List Str := ["m", "some"]
theorem nd__law_of : n__law_of.Nodup := by decide
theorem sc__law_of : FnScope n__law_of ["m", "some"] (defScope (top 36)) := ⟨rfl, rfl, rfl, by decide +kernel, rfl, by decide +kernel, by decide +kernel⟩
def g__law_of : Stm := sRet (eBin oIx (hVar 1) (eCall m__law_draw (aCons (eVar 0) (aCons (eBlt oLen (aCons (hVar 1) (aNil))) (aNil)))))
def m__law_of : List D → Mo D := runD 2 g__law_of
def n__law_size : List Str := ["frame", "found", "turn"]
theorem nd__law_size : n__law_size.Nodup := by decide
theorem sc__law_size : FnScope n__law_size ["frame"] (defScope (top 38)) := ⟨rfl, rfl, rfl, by decide +kernel, rfl, by decide +kernel, by decide +kernel⟩
def g__law_size : Stm := sSeq (sSet 1 (eC (.int 1))) (sSeq (sFor (iRng1 (aCons (eBin oIx (hVar 0) (eC (.int 1))) (aNil))) (tgN 2) (sSet 1 (eBin oMul (hVar 1) (eBin oIx (hVar 0) (eC (.int 0)))))) (sRet (eVar 1)))
def m__law_size : List D → Mo D := runD 3 g__law_size
def n__law_frame : List Str := ["m", "most", "some", "pair"]
theorem nd__law_frame : n__law_frame.Nodup := by decide
theorem sc__law_frame : FnScope n__law_frame ["m", "most"] (defScope (top 37)) := ⟨rfl, rfl, rfl, by decide +kernel, rfl, by decide +kernel, by decide +kernel⟩
def g__law_frame : Stm := sSeq (sSet 2 (eC (.lst [.tup [.int 2, .int 1], .tup [.int 2, .int 2], .tup [.int 2, .int 3], .tup [.int 2, .int 4], .tup [.int 3, .int 1], .tup [.int 3, .int 2], .tup [.int 3, .int 3], .tup [.int 3, .int 4], .tup [.int 5, .int 1], .tup [.int 5, .int 2], .tup [.int 5, .int 3], .tup [.int 7, .int 1], .tup [.int 7, .int 2]]))) (sRet (eCall m__law_of (aCons (eVar 0) (aCons (nFz (nLc (iDat (eVar 2)) (tgN 3) [3] (bCmp oLe (eCall m__law_size (aCons (eVar 3) (aNil))) (hVar 1)) (eVar 3))) (aNil)))))
def m__law_frame : List D → Mo D := runD 4 g__law_frame
def n__law_spots : List Str := ["frame", "rows", "turn", "longer", "row", "rest"]
theorem nd__law_spots : n__law_spots.Nodup := by decide
theorem sc__law_spots : FnScope n__law_spots ["frame"] (defScope (top 39)) := ⟨rfl, rfl, rfl, by decide +kernel, rfl, by decide +kernel, by decide +kernel⟩
def g__law_spots : Stm := sSeq (sSet 1 (eC (.lst [.tup []]))) (sSeq (sFor (iRng1 (aCons (eBin oIx (hVar 0) (eC (.int 1))) (aNil))) (tgN 2) (sSeq (sSet 3 (eC (.lst []))) (sSeq (sFor (iDat (eVar 1)) (tgN 4) (sSet 3 (nFz (nCat (hVar 3) (nFz (nLc (iRng1 (aCons (eBin oIx (hVar 0) (eC (.int 0))) (aNil))) (tgN 5) [5] (bYes) (eBin oAdd (hVar 4) (eTup (aCons (eVar 5) (aNil)))))))))) (sSet 1 (eVar 3))))) (sRet (eVar 1)))
def m__law_spots : List D → Mo D := runD 6 g__law_spots
def n__law_sheet : List Str := ["m", "frame", "many", "high", "found", "turn", "key", "turn_so"]
theorem nd__law_sheet : n__law_sheet.Nodup := by decide
theorem sc__law_sheet : FnScope n__law_sheet ["m", "frame", "many", "high"] (defScope (top 40)) := ⟨rfl, rfl, rfl, by decide +kernel, rfl, by decide +kernel, by decide +kernel⟩
def g__law_sheet : Stm := sSeq (sDct 4) (sSeq (sFor (iRng1 (aCons (eCall m__law_draw (aCons (eVar 0) (aCons (eBin oAdd (hVar 2) (eC (.int 1))) (aNil)))) (aNil))) (tgN 5) (sSeq (sSet 6 (eBlt oTuple (aCons (nFz (nLc (iRng1 (aCons (eBin oIx (hVar 1) (eC (.int 1))) (aNil))) (tgN 7) [7] (bYes) (eIf (bCmp oGt (eCall m__law_draw (aCons (eVar 0) (aCons (eC (.int 3)) (aNil)))) (eC (.int 0))) (eCall m__law_draw (aCons (eVar 0) (aCons (eBin oAdd (hVar 3) (eC (.int 1))) (aNil)))) (eC (.int 0))))) (aNil)))) (sPutT 4 (eVar 6) (eBin oAdd (eC (.int 1)) (eCall m__law_draw (aCons (eVar 0) (aCons (eBin oSub (eBin oIx (hVar 1) (eC (.int 0))) (eC (.int 1))) (aNil)))))))) (sRet (eBlt oTuple (aCons (nFz (nLc (iDat (nFz (nSortT 4))) (tgN 6) [6] (bYes) (eTup (aCons (eVar 6) (aCons (eGetT 4 (eVar 6)) (aNil)))))) (aNil)))))
def m__law_sheet : List D → Mo D := runD 8 g__law_sheet
def n__law_high : List Str := ["sheet", "key", "rest"]
theorem nd__law_high : n__law_high.Nodup := by decide
theorem sc__law_high : FnScope n__law_high ["sheet"] (defScope (top 41)) := ⟨rfl, rfl, rfl, by decide +kernel, rfl, by decide +kernel, by decide +kernel⟩
def g__law_high : Stm := sRet (eBlt oMaxL (aCons (nFz (nCat (nFz (nLc (iDat (eVar 0)) (tgT [1, 2]) [1, 2] (bYes) (eBlt oSumX (aCons (hVar 1) (aNil))))) (nFz (nLst (aCons (eUn oNeg (eC (.int 1))) (aNil)))))) (aNil)))
def m__law_high : List D → Mo D := runD 3 g__law_high
def n__law_raised : List Str := ["base", "power", "prime", "found", "turn"]
theorem nd__law_raised : n__law_raised.Nodup := by decide
theorem sc__law_raised : FnScope n__law_raised ["base", "power", "prime"] (defScope (top 42)) := ⟨rfl, rfl, rfl, by decide +kernel, rfl, by decide +kernel, by decide +kernel⟩
def g__law_raised : Stm := sSeq (sSet 3 (eC (.int 1))) (sSeq (sFor (iRng1 (aCons (eVar 1) (aNil))) (tgN 4) (sSet 3 (eBin oMod (eBlt oInt (aCons (eBin oMul (hVar 3) (hVar 0)) (aNil))) (hVar 2)))) (sRet (eVar 3)))
def m__law_raised : List D → Mo D := runD 5 g__law_raised
def n__law_worth : List Str := ["frame", "sheet", "spot", "total", "key", "rest", "part", "power", "item"]
theorem nd__law_worth : n__law_worth.Nodup := by decide
theorem sc__law_worth : FnScope n__law_worth ["frame", "sheet", "spot"] (defScope (top 43)) := ⟨rfl, rfl, rfl, by decide +kernel, rfl, by decide +kernel, by decide +kernel⟩
def g__law_worth : Stm := sSeq (sSet 3 (eC (.int 0))) (sSeq (sFor (iDat (eVar 1)) (tgT [4, 5]) (sSeq (sSet 6 (eVar 5)) (sSeq (sFor (iFun zipO (aCons (eVar 4) (aCons (eVar 2) (aNil)))) (tgT [7, 8]) (sSet 6 (eBin oMod (eBlt oInt (aCons (eBin oMul (hVar 6) (eCall m__law_raised (aCons (eVar 8) (aCons (eVar 7) (aCons (eBin oIx (hVar 0) (eC (.int 0))) (aNil)))))) (aNil))) (eBin oIx (hVar 0) (eC (.int 0)))))) (sSet 3 (eBin oMod (eBlt oInt (aCons (eBin oAdd (hVar 3) (hVar 6)) (aNil))) (eBin oIx (hVar 0) (eC (.int 0)))))))) (sRet (eVar 3)))
def m__law_worth : List D → Mo D := runD 9 g__law_worth
def n__law_sheet_right : List Str := ["m", "frame", "sheet", "due", "turn", "spots", "kept_so", "at", "spot"]
theorem nd__law_sheet_right : n__law_sheet_right.Nodup := by decide
theorem sc__law_sheet_right : FnScope n__law_sheet_right ["m", "frame", "sheet"] (defScope (top 44)) := ⟨rfl, rfl, rfl, by decide +kernel, rfl, by decide +kernel, by decide +kernel⟩
def g__law_sheet_right : Stm := sSeq (sPar 5 6 (aCons (eCall m__law_spots (aCons (eVar 1) (aNil))) (aCons (eBlt oRepr (aCons (nFz (nLst (aCons (eVar 1) (aCons (eVar 2) (aNil))))) (aNil))) (aNil)))) (sSeq (sSet 3 (nFz (nLc (iDat (eVar 5)) (tgN 8) [8] (bYes) (eCall m__law_worth (aCons (eVar 1) (aCons (eVar 2) (aCons (eVar 8) (aNil)))))))) (sSeq (sFor (iRng1 (aCons (eC (.int 2)) (aNil))) (tgN 4) (sIf (bOr (bCmp oNeX (eBlt oRepr (aCons (eCall m_values (aCons (eVar 1) (aCons (eVar 2) (aNil)))) (aNil))) (eBlt oRepr (aCons (eBlt oTuple (aCons (hVar 3) (aNil))) (aNil)))) (bCmp oNeX (eBlt oRepr (aCons (eCall m_degree (aCons (eVar 1) (aCons (eVar 2) (aNil)))) (aNil))) (eBlt oRepr (aCons (eCall m__law_high (aCons (eVar 2) (aNil))) (aNil))))) (sRet (eC (.bl false))) (sNext))) (sSeq (sFor (iRng1 (aCons (eC (.int 6)) (aNil))) (tgN 4) (sSeq (sSet 7 (eBin oIx (nFz (nLst (aCons (eC (.int 0)) (aCons (eBin oSub (eBlt oLen (aCons (hVar 5) (aNil))) (eC (.int 1))) (aCons (eCall m__law_draw (aCons (eVar 0) (aCons (eBlt oLen (aCons (hVar 5) (aNil))) (aNil)))) (aNil)))))) (eBin oMod (hVar 4) (eC (.int 3))))) (sIf (bCmp oNeX (eBlt oRepr (aCons (eCall m_value_at (aCons (eVar 1) (aCons (eVar 2) (aCons (eBin oIx (hVar 5) (hVar 7)) (aNil))))) (aNil))) (eBlt oRepr (aCons (eBin oIx (hVar 3) (hVar 7)) (aNil)))) (sRet (eC (.bl false))) (sNext)))) (sRet (eBin oEqX (eBlt oRepr (aCons (nFz (nLst (aCons (eVar 1) (aCons (eVar 2) (aNil))))) (aNil))) (hVar 6))))))
def m__law_sheet_right : List D → Mo D := runD 9 g__law_sheet_right
def n__law_points_right : List Str := ["frame", "due"]
theorem nd__law_points_right : n__law_points_right.Nodup := by decide
theorem sc__law_points_right : FnScope n__law_points_right ["frame"] (defScope (top 45)) := ⟨rfl, rfl, rfl, by decide +kernel, rfl, by decide +kernel, by decide +kernel⟩
def g__law_points_right : Stm := sSeq (sSet 1 (eBlt oRepr (aCons (eBlt oTuple (aCons (eCall m__law_spots (aCons (eVar 0) (aNil))) (aNil))) (aNil)))) (sRet (eAnd (eBin oEqX (eBlt oRepr (aCons (eCall m_points (aCons (eVar 0) (aNil))) (aNil))) (hVar 1)) (eBin oEqX (eBlt oRepr (aCons (eCall m_points (aCons (eVar 0) (aNil))) (aNil))) (hVar 1))))
def m__law_points_right : List D → Mo D := runD 2 g__law_points_right
def n__law_hand_right : List Str := ["told", "last", "some", "due", "spot"]
theorem nd__law_hand_right : n__law_hand_right.Nodup := by decide
theorem sc__law_hand_right : FnScope n__law_hand_right [] (defScope (top 46)) := ⟨rfl, rfl, rfl, by decide +kernel, rfl, by decide +kernel, by decide +kernel⟩
def g__law_hand_right : Stm := sSeq (sOwn 0 (nLst (aCons (eCall m_values (aCons (eC (.tup [.int 3, .int 1])) (aCons (eC (.tup [.tup [.tup [.int 4], .int 1]])) (aNil)))) (aCons (eCall m_values (aCons (eC (.tup [.int 2, .int 1])) (aCons (eC (.tup [.tup [.tup [.int 0], .int 1]])) (aNil)))) (aCons (eCall m_values (aCons (eC (.tup [.int 2, .int 1])) (aCons (eC (.tup [.tup [.tup [.int 30], .int 1]])) (aNil)))) (aNil)))))) (sSeq (sOwn 0 (nCat (hVar 0) (nFz (nLst (aCons (eCall m_values (aCons (eC (.tup [.int 3, .int 1])) (aCons (eC (.tup [])) (aNil)))) (aCons (eCall m_value_at (aCons (eC (.tup [.int 7, .int 1])) (aCons (eC (.tup [.tup [.tup [.int 30], .int 1]])) (aCons (eC (.tup [.int 2])) (aNil))))) (aCons (eCall m_value_at (aCons (eC (.tup [.int 7, .int 1])) (aCons (eC (.tup [.tup [.tup [.int 29], .int 3]])) (aCons (eC (.tup [.int 3])) (aNil))))) (aNil)))))))) (sSeq (sOwn 0 (nCat (hVar 0) (nFz (nLst (aCons (eCall m_value_at (aCons (eC (.tup [.int 5, .int 1])) (aCons (eC (.tup [.tup [.tup [.int 0], .int 4]])) (aCons (eC (.tup [.int 0])) (aNil))))) (aCons (eCall m_value_at (aCons (eC (.tup [.int 5, .int 1])) (aCons (eC (.tup [.tup [.tup [.int 1], .int 4]])) (aCons (eC (.tup [.int 0])) (aNil))))) (aNil))))))) (sSeq (sIf (bCmp oNeX (hVar 0) (eC (.lst [.tup [.int 0, .int 1, .int 1], .tup [.int 1, .int 1], .tup [.int 0, .int 1], .tup [.int 0, .int 0, .int 0], .int 1, .int 1, .int 4, .int 0]))) (sRet (eC (.bl false))) (sNext)) (sSeq (sSet 1 (eC (.tup [.tup [.tup [.int 0, .int 0, .int 0, .int 0], .int 3], .tup [.tup [.int 0, .int 0, .int 0, .int 4], .int 2]]))) (sSeq (sSet 0 (eCall m_values (aCons (eC (.tup [.int 5, .int 4])) (aCons (eVar 1) (aNil))))) (sSeq (sIf (bOr (bCmp oNeX (hVar 0) (eBlt oTuple (aCons (nFz (nLc (iDat (eCall m__law_spots (aCons (eC (.tup [.int 5, .int 4])) (aNil)))) (tgN 4) [4] (bYes) (eBin oIx (eC (.lst [.int 3, .int 0])) (eBlt oInt (aCons (eBin oGt (eBin oIx (hVar 4) (eC (.int 3))) (eC (.int 0))) (aNil)))))) (aNil)))) (bCmp oNeX (eBlt oLen (aCons (hVar 0) (aNil))) (eC (.int 625)))) (sRet (eC (.bl false))) (sNext)) (sSeq (sOwn 0 (nLst (aCons (eCall m_degree (aCons (eC (.tup [.int 2, .int 4])) (aCons (eC (.tup [.tup [.tup [.int 30, .int 30, .int 30, .int 30], .int 1]])) (aNil)))) (aCons (eCall m_degree (aCons (eC (.tup [.int 3, .int 2])) (aCons (eC (.tup [])) (aNil)))) (aCons (eCall m_degree (aCons (eC (.tup [.int 3, .int 2])) (aCons (eC (.tup [.tup [.tup [.int 0, .int 0], .int 2]])) (aNil)))) (aNil)))))) (sSeq (sApp 0 (eCall m_degree (aCons (eC (.tup [.int 3, .int 2])) (aCons (eC (.tup [.tup [.tup [.int 0, .int 5], .int 1], .tup [.tup [.int 4, .int 0], .int 1]])) (aNil))))) (sSeq (sApp 0 (eCall m_value_at (aCons (eC (.tup [.int 2, .int 4])) (aCons (eC (.tup [.tup [.tup [.int 30, .int 30, .int 30, .int 30], .int 1]])) (aCons (eC (.tup [.int 1, .int 1, .int 1, .int 0])) (aNil)))))) (sSeq (sSet 2 (nFz (nLst (aCons (eCall m_points (aCons (eC (.tup [.int 2, .int 2])) (aNil))) (aCons (eCall m_points (aCons (eC (.tup [.int 3, .int 1])) (aNil))) (aCons (eSlice (eCall m_points (aCons (eC (.tup [.int 3, .int 2])) (aNil))) (pSome (eC (.int 4))) (pSome (eC (.int 6)))) (aCons (eBlt oLen (aCons (eCall m_points (aCons (eC (.tup [.int 7, .int 3])) (aNil))) (aNil))) (aCons (eBin oIx (eCall m_points (aCons (eC (.tup [.int 5, .int 4])) (aNil))) (eC (.int 624))) (aNil))))))))) (sSeq (sSet 3 (eC (.lst [.tup [.tup [.int 0, .int 0], .tup [.int 0, .int 1], .tup [.int 1, .int 0], .tup [.int 1, .int 1]], .tup [.tup [.int 0], .tup [.int 1], .tup [.int 2]], .tup [.tup [.int 1, .int 1], .tup [.int 1, .int 2]], .int 343, .tup [.int 4, .int 4, .int 4, .int 4]]))) (sRet (eAnd (eBin oEqX (hVar 2) (hVar 3)) (eBin oEqX (hVar 0) (nFz (nLst (aCons (eC (.int 120)) (aCons (eUn oNeg (eC (.int 1))) (aCons (eC (.int 0)) (aCons (eC (.int 5)) (aCons (eC (.int 0)) (aNil))))))))))))))))))))))
def m__law_hand_right : List D → Mo D := runD 5 g__law_hand_right
def n_law : List Str := ["script", "k", "m", "frame", "high", "some", "wrong", "sheet"]
theorem nd_law : n_law.Nodup := by decide
theorem sc_law : FnScope n_law ["script"] (defScope (top 47)) := ⟨rfl, rfl, rfl, by decide +kernel, rfl, by decide +kernel, by decide +kernel⟩
def g_law : Stm := sSeq (sFor (iRng1 (aCons (eBin oAdd (eC (.int 3)) (eBlt oMin2 (aCons (eBlt oLen (aCons (hVar 0) (aNil))) (aCons (eC (.int 6)) (aNil))))) (aNil))) (tgN 1) (sSeq (sSet 2 (eCall m__law_begun (aCons (eVar 0) (aCons (eVar 1) (aNil))))) (sSeq (sSet 3 (eCall m__law_frame (aCons (eVar 2) (aCons (eC (.int 130)) (aNil))))) (sSeq (sSet 4 (eIf (bCmp oLt (eCall m__law_size (aCons (eVar 3) (aNil))) (eC (.int 30))) (eC (.int 30)) (eC (.int 3)))) (sSeq (sSet 5 (nFz (nLst (aCons (eCall m__law_sheet (aCons (eVar 2) (aCons (eVar 3) (aCons (eC (.int 6)) (aCons (eVar 4) (aNil)))))) (aCons (eCall m__law_sheet (aCons (eVar 2) (aCons (eVar 3) (aCons (eC (.int 3)) (aCons (eBin oIx (hVar 3) (eC (.int 0))) (aNil)))))) (aNil)))))) (sSeq (sSet 6 (nFz (nLc (iDat (eVar 5)) (tgN 7) [7] (bNot (bOf (eCall m__law_sheet_right (aCons (eVar 2) (aCons (eVar 3) (aCons (eVar 7) (aNil))))))) (eVar 7)))) (sIf (bOr (bCmp oNeX (hVar 6) (eC (.lst []))) (bNot (bOf (eCall m__law_points_right (aCons (eVar 3) (aNil)))))) (sRet (eC (.bl false))) (sNext)))))))) (sRet (eCall m__law_hand_right aNil))
def m_law : List D → Mo D := runD 8 g_law
end
end Pi
namespace Pi
open PySem PySem.Spec PyProof.Rows L2 LamX
section
variable {P : Program} {w : World} {K : PySem.W.Frag} {mg : Str → Option Value} {base : Heap} {f : Addr} {cd : Value} {A : Around} {outer : List PySem.Env} {s : Shared} {H : Hp} {E : XK}
theorem b_is_integer (hb : Blt mg) (ns : NoSys K) (ok : COk (dcx P w K mg base n_is_integer "is_integer" (defScope (top 9)) f cd A outer s H E)) (rm : Room 0 (dcx P w K mg base n_is_integer "is_integer" (defScope (top 9)) f cd A outer s H E).A) : PBl (GK K) (dcx P w K mg base n_is_integer "is_integer" (defScope (top 9)) f cd A outer s H E) E H (defBody (top 9)) g_is_integer := by
  have nd := nd_is_integer
  have hu : (dcx P w K mg base n_is_integer "is_integer" (defScope (top 9)) f cd A outer s H E).A.units + 1 < cLine := by have := ok.un; omega
  refine pbl_one ?_
  refine pst_ret ?_
  refine pd_and ?_ ?_
  · refine pd_isB .int ?_ rfl hb.isinstance rfl hb.int rfl
    exact ph_var
  · refine pd_one ?_
    refine pd_not ?_
    refine pd_isB .bool ?_ rfl hb.isinstance rfl hb.bool rfl
    exact ph_var
end
end Pi
namespace Pi
open PySem PySem.Spec PyProof.Rows L2 LamX
section
variable {P : Program} {w : World} {K : PySem.W.Frag} {mg : Str → Option Value} {base : Heap} {f : Addr} {cd : Value} {A : Around} {outer : List PySem.Env} {s : Shared} {H : Hp} {E : XK}
theorem b_is_integer_in (hb : Blt mg) (ns : NoSys K) (ok : COk (dcx P w K mg base n_is_integer_in "is_integer_in" (defScope (top 10)) f cd A outer s H E)) (rm : Room 1 (dcx P w K mg base n_is_integer_in "is_integer_in" (defScope (top 10)) f cd A outer s H E).A) (f_is_integer : FK (GK K) P w K mg base "is_integer" 1 m_is_integer 1) : PBl (GK K) (dcx P w K mg base n_is_integer_in "is_integer_in" (defScope (top 10)) f cd A outer s H E) E H (defBody (top 10)) g_is_integer_in := by
  have nd := nd_is_integer_in
  have hu : (dcx P w K mg base n_is_integer_in "is_integer_in" (defScope (top 10)) f cd A outer s H E).A.units + 1 < cLine := by have := ok.un; omega
  refine pbl_one ?_
  refine pst_ret ?_
  refine pd_and ?_ ?_
  · refine pd_call (n := 1) (f_is_integer.kn (rm.mono (by decide))) ok.gd (takes_of rfl rfl rfl rfl) rfl ((acons_len anil_len)) ?_
    refine pl_cons ?_ ?_
    · exact pd_var
    · exact pl_nil
  · refine pd_one ?_
    refine pd_chain (bin_le ok) (bin_le ok) ?_ ?_ ?_
    · exact ph_var
    · exact ph_var
    · exact ph_var
end
end Pi
namespace Pi
open PySem PySem.Spec PyProof.Rows L2 LamX
section
variable {P : Program} {w : World} {K : PySem.W.Frag} {mg : Str → Option Value} {base : Heap} {f : Addr} {cd : Value} {A : Around} {outer : List PySem.Env} {s : Shared} {H : Hp} {E : XK}
theorem b_is_prime (hb : Blt mg) (ns : NoSys K) (ok : COk (dcx P w K mg base n_is_prime "is_prime" (defScope (top 11)) f cd A outer s H E)) (rm : Room 1 (dcx P w K mg base n_is_prime "is_prime" (defScope (top 11)) f cd A outer s H E).A) (c_PRIMES : GlC K mg "PRIMES" cPRIMES) (f_is_integer : FK (GK K) P w K mg base "is_integer" 1 m_is_integer 1) : PBl (GK K) (dcx P w K mg base n_is_prime "is_prime" (defScope (top 11)) f cd A outer s H E) E H (defBody (top 11)) g_is_prime := by
  have nd := nd_is_prime
  have hu : (dcx P w K mg base n_is_prime "is_prime" (defScope (top 11)) f cd A outer s H E).A.units + 1 < cLine := by have := ok.un; omega
  refine pbl_one ?_
  refine pst_ret ?_
  refine pd_and ?_ ?_
  · refine pd_call (n := 1) (f_is_integer.kn (rm.mono (by decide))) ok.gd (takes_of rfl rfl rfl rfl) rfl ((acons_len anil_len)) ?_
    refine pl_cons ?_ ?_
    · exact pd_var
    · exact pl_nil
  · refine pd_one ?_
    refine pd_cmp (bin_in ok ns) ?_ ?_
    · exact ph_var
    · refine PD.toH ?_
      exact pd_glo ⟨c_PRIMES.ex⟩ rfl
end
end Pi
namespace Pi
open PySem PySem.Spec PyProof.Rows L2 LamX
section
variable {P : Program} {w : World} {K : PySem.W.Frag} {mg : Str → Option Value} {base : Heap} {f : Addr} {cd : Value} {A : Around} {outer : List PySem.Env} {s : Shared} {H : Hp} {E : XK}
theorem b_is_tuple_of (hb : Blt mg) (ns : NoSys K) (ok : COk (dcx P w K mg base n_is_tuple_of "is_tuple_of" (defScope (top 12)) f cd A outer s H E)) (rm : Room 0 (dcx P w K mg base n_is_tuple_of "is_tuple_of" (defScope (top 12)) f cd A outer s H E).A) : PBl (GK K) (dcx P w K mg base n_is_tuple_of "is_tuple_of" (defScope (top 12)) f cd A outer s H E) E H (defBody (top 12)) g_is_tuple_of := by
  have nd := nd_is_tuple_of
  have hu : (dcx P w K mg base n_is_tuple_of "is_tuple_of" (defScope (top 12)) f cd A outer s H E).A.units + 1 < cLine := by have := ok.un; omega
  refine pbl_one ?_
  refine pst_ret ?_
  refine pd_and ?_ ?_
  · refine pd_isB .tuple ?_ rfl hb.isinstance rfl hb.tuple rfl
    exact ph_var
  · refine pd_one ?_
    refine pd_cmp (bin_eqX ok ns) ?_ ?_
    · refine PD.toH ?_
      refine pd_blt call_lenX cal_len rfl hb.len rfl ?_
      refine plh_cons ?_ ?_
      · exact ph_var
      · exact plh_nil
    · exact ph_var
end
end Pi
namespace Pi
open PySem PySem.Spec PyProof.Rows L2 LamX
section
variable {P : Program} {w : World} {K : PySem.W.Frag} {mg : Str → Option Value} {base : Heap} {f : Addr} {cd : Value} {A : Around} {outer : List PySem.Env} {s : Shared} {H : Hp} {E : XK}
theorem b_are_rests (hb : Blt mg) (ns : NoSys K) (ok : COk (dcx P w K mg base n_are_rests "are_rests" (defScope (top 13)) f cd A outer s H E)) (rm : Room 2 (dcx P w K mg base n_are_rests "are_rests" (defScope (top 13)) f cd A outer s H E).A) (f_is_integer_in : FK (GK K) P w K mg base "is_integer_in" 3 m_is_integer_in 2) (f_is_tuple_of : FK (GK K) P w K mg base "is_tuple_of" 2 m_is_tuple_of 1) : PBl (GK K) (dcx P w K mg base n_are_rests "are_rests" (defScope (top 13)) f cd A outer s H E) E H (defBody (top 13)) g_are_rests := by
  have nd := nd_are_rests
  have hu : (dcx P w K mg base n_are_rests "are_rests" (defScope (top 13)) f cd A outer s H E).A.units + 1 < cLine := by have := ok.un; omega
  refine pbl_one ?_
  refine pst_ret ?_
  refine pd_and ?_ ?_
  · refine pd_call (n := 2) (f_is_tuple_of.kn (rm.mono (by decide))) ok.gd (takes_of rfl rfl rfl rfl) rfl ((acons_len (acons_len anil_len))) ?_
    refine pl_cons ?_ ?_
    · exact pd_var
    · refine pl_cons ?_ ?_
      · exact pd_var
      · exact pl_nil
  · refine pd_one ?_
    refine pd_blt (cr_all rfl) cal_all rfl hb.all rfl ?_
    refine plh_cons ?_ ?_
    · refine PN.toH ?_
      refine pn_lc [("item", 3)] rfl nd ?_ (blkOk_by rfl) tgok_name (fun s0 H1 C cl fp => (pg_name nd rfl (.inl rfl))) (fun s0 H1 C cl fp => ?_) (fun s0 H1 C cl fp => ?_)
      · refine pit_dat ?_
        exact pd_var
      · exact pbs_nil
      · refine pd_call (n := 3) (f_is_integer_in.kn (rm.mono (by decide))) (okb ok).gd L2.takes0 rfl ((acons_len (acons_len (acons_len anil_len)))) ?_
        refine pl_cons ?_ ?_
        · exact pd_var
        · refine pl_cons ?_ ?_
          · exact pd_int
          · refine pl_cons ?_ ?_
            · refine pd_bin bin_sub ?_ ?_
              · exact ph_var
              · refine PD.toH ?_
                exact pd_int
            · exact pl_nil
    · exact plh_nil
end
end Pi
namespace Pi
open PySem PySem.Spec PyProof.Rows L2 LamX
section
variable {P : Program} {w : World} {K : PySem.W.Frag} {mg : Str → Option Value} {base : Heap} {f : Addr} {cd : Value} {A : Around} {outer : List PySem.Env} {s : Shared} {H : Hp} {E : XK}
theorem b_power_of (hb : Blt mg) (ns : NoSys K) (ok : COk (dcx P w K mg base n_power_of "power_of" (defScope (top 14)) f cd A outer s H E)) (rm : Room 0 (dcx P w K mg base n_power_of "power_of" (defScope (top 14)) f cd A outer s H E).A) : PBl (GK K) (dcx P w K mg base n_power_of "power_of" (defScope (top 14)) f cd A outer s H E) E H (defBody (top 14)) g_power_of := by
  have nd := nd_power_of
  have hu : (dcx P w K mg base n_power_of "power_of" (defScope (top 14)) f cd A outer s H E).A.units + 1 < cLine := by have := ok.un; omega
  refine pbl_cons ?_ ?_
  · refine @pst_set _ _ _ _ _ _ _ 2 "result" _ nd ?_ rfl (by first | exact Or.inl rfl | exact Or.inr rfl) ?_ (by first | exact .inl rfl | exact .inr rfl)
    · exact pd_int
    · rfl
  · refine pbl_cons ?_ ?_
    · refine pst_for (passes_of rfl) rfl ?_ (pg_name nd rfl (by first | exact Or.inl rfl | exact Or.inr rfl)) tgok_name ?_
      · refine pit_range1 hb.range ?_
        refine pl_cons ?_ ?_
        · exact pd_var
        · exact pl_nil
      · refine pbl_one ?_
        refine @pst_set _ _ _ _ _ _ _ 2 "result" _ nd ?_ rfl (by first | exact Or.inl rfl | exact Or.inr rfl) ?_ (by first | exact .inl rfl | exact .inr rfl)
        · refine pd_bin bin_mul ?_ ?_
          · exact ph_var
          · exact ph_var
        · rfl
    · refine pbl_one ?_
      refine pst_ret ?_
      exact pd_var
end
end Pi
namespace Pi
open PySem PySem.Spec PyProof.Rows L2 LamX
section
variable {P : Program} {w : World} {K : PySem.W.Frag} {mg : Str → Option Value} {base : Heap} {f : Addr} {cd : Value} {A : Around} {outer : List PySem.Env} {s : Shared} {H : Hp} {E : XK}
theorem b_need_field (hb : Blt mg) (ns : NoSys K) (ok : COk (dcx P w K mg base n_need_field "need_field" (defScope (top 15)) f cd A outer s H E)) (rm : Room 2 (dcx P w K mg base n_need_field "need_field" (defScope (top 15)) f cd A outer s H E).A) (c_MOST_POINTS : GlC K mg "MOST_POINTS" cMOST_POINTS) (c_MOST_UNKNOWNS : GlC K mg "MOST_UNKNOWNS" cMOST_UNKNOWNS) (f_is_integer_in : FK (GK K) P w K mg base "is_integer_in" 3 m_is_integer_in 2) (f_is_prime : FK (GK K) P w K mg base "is_prime" 1 m_is_prime 2) (f_is_tuple_of : FK (GK K) P w K mg base "is_tuple_of" 2 m_is_tuple_of 1) (f_power_of : FK (GK K) P w K mg base "power_of" 2 m_power_of 1) (x_BadField : XF (GK K) P w K mg base "BadField" eBadField) : PBl (GK K) (dcx P w K mg base n_need_field "need_field" (defScope (top 15)) f cd A outer s H E) E H (defBody (top 15)) g_need_field := by
  have nd := nd_need_field
  have hu : (dcx P w K mg base n_need_field "need_field" (defScope (top 15)) f cd A outer s H E).A.units + 1 < cLine := by have := ok.un; omega
  refine pbl_cons ?_ ?_
  · refine pst_if ?_ ?_ ?_
    · refine pb_not ?_
      refine pb_of ?_
      refine pd_call (n := 2) (f_is_tuple_of.kn (rm.mono (by decide))) ok.gd (takes_of rfl rfl rfl rfl) rfl ((acons_len (acons_len anil_len))) ?_
      refine pl_cons ?_ ?_
      · exact pd_var
      · refine pl_cons ?_ ?_
        · exact pd_int
        · exact pl_nil
    · refine pbl_one ?_
      refine pst_raise rfl (x_BadField.kn (rm.mono (by decide))) (takes_of rfl rfl rfl rfl) rfl ?_
      refine @pd_cst _ _ _ _ _ _ ?_
      kernel_rfl
    · exact pbl_nil
  · refine pbl_cons ?_ ?_
    · refine pst_unp rfl ?_ (pgs_cons (pg_name nd rfl (by first | exact Or.inl rfl | exact Or.inr rfl)) (pgs_cons (pg_name nd rfl (by first | exact Or.inl rfl | exact Or.inr rfl)) pgs_nil))
      exact pd_var
    · refine pbl_cons ?_ ?_
      · refine pst_if ?_ ?_ ?_
        · refine pb_not ?_
          refine pb_of ?_
          refine pd_call (n := 1) (f_is_prime.kn (rm.mono (by decide))) ok.gd (takes_of rfl rfl rfl rfl) rfl ((acons_len anil_len)) ?_
          refine pl_cons ?_ ?_
          · exact pd_var
          · exact pl_nil
        · refine pbl_one ?_
          refine pst_raise rfl (x_BadField.kn (rm.mono (by decide))) (takes_of rfl rfl rfl rfl) rfl ?_
          refine @pd_cst _ _ _ _ _ _ ?_
          kernel_rfl
        · exact pbl_nil
      · refine pbl_cons ?_ ?_
        · refine pst_if ?_ ?_ ?_
          · refine pb_not ?_
            refine pb_of ?_
            refine pd_call (n := 3) (f_is_integer_in.kn (rm.mono (by decide))) ok.gd (takes_of rfl rfl rfl rfl) rfl ((acons_len (acons_len (acons_len anil_len)))) ?_
            refine pl_cons ?_ ?_
            · exact pd_var
            · refine pl_cons ?_ ?_
              · exact pd_int
              · refine pl_cons ?_ ?_
                · exact pd_glo ⟨c_MOST_UNKNOWNS.ex⟩ rfl
                · exact pl_nil
          · refine pbl_one ?_
            refine pst_raise rfl (x_BadField.kn (rm.mono (by decide))) (takes_of rfl rfl rfl rfl) rfl ?_
            refine @pd_cst _ _ _ _ _ _ ?_
            kernel_rfl
          · exact pbl_nil
        · refine pbl_cons ?_ ?_
          · refine pst_if ?_ ?_ ?_
            · refine pb_cmp (bin_gt ok) ?_ ?_
              · refine PD.toH ?_
                refine pd_call (n := 2) (f_power_of.kn (rm.mono (by decide))) ok.gd (takes_of rfl rfl rfl rfl) rfl ((acons_len (acons_len anil_len))) ?_
                refine pl_cons ?_ ?_
                · exact pd_var
                · refine pl_cons ?_ ?_
                  · exact pd_var
                  · exact pl_nil
              · refine PD.toH ?_
                exact pd_glo ⟨c_MOST_POINTS.ex⟩ rfl
            · refine pbl_one ?_
              refine pst_raise rfl (x_BadField.kn (rm.mono (by decide))) (takes_of rfl rfl rfl rfl) rfl ?_
              refine @pd_cst _ _ _ _ _ _ ?_
              kernel_rfl
            · exact pbl_nil
          · refine pbl_one ?_
            refine pst_ret ?_
            exact pd_var
end
end Pi
namespace Pi
open PySem PySem.Spec PyProof.Rows L2 LamX
section
variable {P : Program} {w : World} {K : PySem.W.Frag} {mg : Str → Option Value} {base : Heap} {f : Addr} {cd : Value} {A : Around} {outer : List PySem.Env} {s : Shared} {H : Hp} {E : XK}
theorem b_is_point (hb : Blt mg) (ns : NoSys K) (ok : COk (dcx P w K mg base n_is_point "is_point" (defScope (top 16)) f cd A outer s H E)) (rm : Room 3 (dcx P w K mg base n_is_point "is_point" (defScope (top 16)) f cd A outer s H E).A) (f_are_rests : FK (GK K) P w K mg base "are_rests" 3 m_are_rests 3) : PBl (GK K) (dcx P w K mg base n_is_point "is_point" (defScope (top 16)) f cd A outer s H E) E H (defBody (top 16)) g_is_point := by
  have nd := nd_is_point
  have hu : (dcx P w K mg base n_is_point "is_point" (defScope (top 16)) f cd A outer s H E).A.units + 1 < cLine := by have := ok.un; omega
  refine pbl_cons ?_ ?_
  · refine pst_unp rfl ?_ (pgs_cons (pg_name nd rfl (by first | exact Or.inl rfl | exact Or.inr rfl)) (pgs_cons (pg_name nd rfl (by first | exact Or.inl rfl | exact Or.inr rfl)) pgs_nil))
    exact pd_var
  · refine pbl_one ?_
    refine pst_ret ?_
    refine pd_call (n := 3) (f_are_rests.kn (rm.mono (by decide))) ok.gd (takes_of rfl rfl rfl rfl) rfl ((acons_len (acons_len (acons_len anil_len)))) ?_
    refine pl_cons ?_ ?_
    · exact pd_var
    · refine pl_cons ?_ ?_
      · exact pd_var
      · refine pl_cons ?_ ?_
        · exact pd_var
        · exact pl_nil
end
end Pi
namespace Pi
open PySem PySem.Spec PyProof.Rows L2 LamX
section
variable {P : Program} {w : World} {K : PySem.W.Frag} {mg : Str → Option Value} {base : Heap} {f : Addr} {cd : Value} {A : Around} {outer : List PySem.Env} {s : Shared} {H : Hp} {E : XK}
theorem b_need_point (hb : Blt mg) (ns : NoSys K) (ok : COk (dcx P w K mg base n_need_point "need_point" (defScope (top 17)) f cd A outer s H E)) (rm : Room 4 (dcx P w K mg base n_need_point "need_point" (defScope (top 17)) f cd A outer s H E).A) (f_is_point : FK (GK K) P w K mg base "is_point" 2 m_is_point 4) (f_need_field : FK (GK K) P w K mg base "need_field" 1 m_need_field 3) (x_BadPoint : XF (GK K) P w K mg base "BadPoint" eBadPoint) : PBl (GK K) (dcx P w K mg base n_need_point "need_point" (defScope (top 17)) f cd A outer s H E) E H (defBody (top 17)) g_need_point := by
  have nd := nd_need_point
  have hu : (dcx P w K mg base n_need_point "need_point" (defScope (top 17)) f cd A outer s H E).A.units + 1 < cLine := by have := ok.un; omega
  refine pbl_cons ?_ ?_
  · refine pst_if ?_ ?_ ?_
    · refine pb_not ?_
      refine pb_of ?_
      refine pd_call (n := 2) (f_is_point.kn (rm.mono (by decide))) ok.gd (takes_of rfl rfl rfl rfl) rfl ((acons_len (acons_len anil_len))) ?_
      refine pl_cons ?_ ?_
      · refine pd_call (n := 1) (f_need_field.kn (rm.mono (by decide))) ok.gd (takes_of rfl rfl rfl rfl) rfl ((acons_len anil_len)) ?_
        refine pl_cons ?_ ?_
        · exact pd_var
        · exact pl_nil
      · refine pl_cons ?_ ?_
        · exact pd_var
        · exact pl_nil
    · refine pbl_one ?_
      refine pst_raise rfl (x_BadPoint.kn (rm.mono (by decide))) (takes_of rfl rfl rfl rfl) rfl ?_
      exact pd_var
    · exact pbl_nil
  · refine pbl_one ?_
    refine pst_ret ?_
    exact pd_var
end
end Pi
namespace Pi
open PySem PySem.Spec PyProof.Rows L2 LamX
section
variable {P : Program} {w : World} {K : PySem.W.Frag} {mg : Str → Option Value} {base : Heap} {f : Addr} {cd : Value} {A : Around} {outer : List PySem.Env} {s : Shared} {H : Hp} {E : XK}
theorem b_points (hb : Blt mg) (ns : NoSys K) (ok : COk (dcx P w K mg base n_points "points" (defScope (top 18)) f cd A outer s H E)) (rm : Room 3 (dcx P w K mg base n_points "points" (defScope (top 18)) f cd A outer s H E).A) (f_need_field : FK (GK K) P w K mg base "need_field" 1 m_need_field 3) : PBl (GK K) (dcx P w K mg base n_points "points" (defScope (top 18)) f cd A outer s H E) E H (defBody (top 18)) g_points := by
  have nd := nd_points
  have hu : (dcx P w K mg base n_points "points" (defScope (top 18)) f cd A outer s H E).A.units + 1 < cLine := by have := ok.un; omega
  refine pbl_cons ?_ ?_
  · refine pst_unp rfl ?_ (pgs_cons (pg_name nd rfl (by first | exact Or.inl rfl | exact Or.inr rfl)) (pgs_cons (pg_name nd rfl (by first | exact Or.inl rfl | exact Or.inr rfl)) pgs_nil))
    refine pd_call (n := 1) (f_need_field.kn (rm.mono (by decide))) ok.gd (takes_of rfl rfl rfl rfl) rfl ((acons_len anil_len)) ?_
    refine pl_cons ?_ ?_
    · exact pd_var
    · exact pl_nil
  · refine pbl_cons ?_ ?_
    · refine @pst_set _ _ _ _ _ _ _ 1 "begun" _ nd ?_ rfl (by first | exact Or.inl rfl | exact Or.inr rfl) ?_ (by first | exact .inl rfl | exact .inr rfl)
      · refine @pd_cst _ _ _ _ _ _ ?_
        kernel_rfl
      · rfl
    · refine pbl_cons ?_ ?_
      · refine pst_for (passes_of rfl) rfl ?_ (pg_name nd rfl (by first | exact Or.inl rfl | exact Or.inr rfl)) tgok_name ?_
        · refine pit_range1 hb.range ?_
          refine pl_cons ?_ ?_
          · exact pd_var
          · exact pl_nil
        · refine pbl_one ?_
          refine pst_setLc2 (vs1 := [6]) [("point", 5), ("item", 6)] rfl nd ?_ (blkOk_by rfl) tgok_name tgok_name (fun s0 H1 C cl fp => (pg_name nd rfl (.inl rfl))) (fun s0 H1 C cl fp => (pg_name nd rfl (.inl rfl))) (fun s0 H1 C cl fp => ?_) (fun s0 H1 C cl fp => ?_) (fun s0 H1 C cl fp => ?_) (fun s0 H1 C cl fp => ?_)
          · refine pit_dat ?_
            exact pd_var
          · exact pbs_nil
          · refine pit_range1 hb.range ?_
            refine pl_cons ?_ ?_
            · exact pd_var
            · exact pl_nil
          · exact pbs_nil
          · refine pd_bin bin_add ?_ ?_
            · exact ph_var
            · refine PD.toH ?_
              refine pd_tup ?_
              refine pl_cons ?_ ?_
              · exact pd_var
              · exact pl_nil
      · refine pbl_one ?_
        refine pst_ret ?_
        refine pd_bty call_tuple_of cal_tuple rfl hb.tuple rfl ?_
        refine plh_cons ?_ ?_
        · exact ph_var
        · exact plh_nil
end
end Pi
namespace Pi
open PySem PySem.Spec PyProof.Rows L2 LamX
section
variable {P : Program} {w : World} {K : PySem.W.Frag} {mg : Str → Option Value} {base : Heap} {f : Addr} {cd : Value} {A : Around} {outer : List PySem.Env} {s : Shared} {H : Hp} {E : XK}
theorem b__are_powers (hb : Blt mg) (ns : NoSys K) (ok : COk (dcx P w K mg base n__are_powers "_are_powers" (defScope (top 22)) f cd A outer s H E)) (rm : Room 2 (dcx P w K mg base n__are_powers "_are_powers" (defScope (top 22)) f cd A outer s H E).A) (c_MOST_POWER : GlC K mg "MOST_POWER" cMOST_POWER) (f_is_integer_in : FK (GK K) P w K mg base "is_integer_in" 3 m_is_integer_in 2) (f_is_tuple_of : FK (GK K) P w K mg base "is_tuple_of" 2 m_is_tuple_of 1) : PBl (GK K) (dcx P w K mg base n__are_powers "_are_powers" (defScope (top 22)) f cd A outer s H E) E H (defBody (top 22)) g__are_powers := by
  have nd := nd__are_powers
  have hu : (dcx P w K mg base n__are_powers "_are_powers" (defScope (top 22)) f cd A outer s H E).A.units + 1 < cLine := by have := ok.un; omega
  refine pbl_one ?_
  refine pst_ret ?_
  refine pd_and ?_ ?_
  · refine pd_call (n := 2) (f_is_tuple_of.kn (rm.mono (by decide))) ok.gd (takes_of rfl rfl rfl rfl) rfl ((acons_len (acons_len anil_len))) ?_
    refine pl_cons ?_ ?_
    · exact pd_var
    · refine pl_cons ?_ ?_
      · exact pd_var
      · exact pl_nil
  · refine pd_one ?_
    refine pd_blt (cr_all rfl) cal_all rfl hb.all rfl ?_
    refine plh_cons ?_ ?_
    · refine PN.toH ?_
      refine pn_lc [("power", 2)] rfl nd ?_ (blkOk_by rfl) tgok_name (fun s0 H1 C cl fp => (pg_name nd rfl (.inl rfl))) (fun s0 H1 C cl fp => ?_) (fun s0 H1 C cl fp => ?_)
      · refine pit_dat ?_
        exact pd_var
      · exact pbs_nil
      · refine pd_call (n := 3) (f_is_integer_in.kn (rm.mono (by decide))) (okb ok).gd L2.takes0 rfl ((acons_len (acons_len (acons_len anil_len)))) ?_
        refine pl_cons ?_ ?_
        · exact pd_var
        · refine pl_cons ?_ ?_
          · exact pd_int
          · refine pl_cons ?_ ?_
            · exact pd_glo ⟨c_MOST_POWER.ex⟩ rfl
            · exact pl_nil
    · exact plh_nil
end
end Pi
namespace Pi
open PySem PySem.Spec PyProof.Rows L2 LamX
section
variable {P : Program} {w : World} {K : PySem.W.Frag} {mg : Str → Option Value} {base : Heap} {f : Addr} {cd : Value} {A : Around} {outer : List PySem.Env} {s : Shared} {H : Hp} {E : XK}
theorem b__is_term (hb : Blt mg) (ns : NoSys K) (ok : COk (dcx P w K mg base n__is_term "_is_term" (defScope (top 23)) f cd A outer s H E)) (rm : Room 3 (dcx P w K mg base n__is_term "_is_term" (defScope (top 23)) f cd A outer s H E).A) (f__are_powers : FK (GK K) P w K mg base "_are_powers" 2 m__are_powers 3) (f_is_integer_in : FK (GK K) P w K mg base "is_integer_in" 3 m_is_integer_in 2) (f_is_tuple_of : FK (GK K) P w K mg base "is_tuple_of" 2 m_is_tuple_of 1) : PBl (GK K) (dcx P w K mg base n__is_term "_is_term" (defScope (top 23)) f cd A outer s H E) E H (defBody (top 23)) g__is_term := by
  have nd := nd__is_term
  have hu : (dcx P w K mg base n__is_term "_is_term" (defScope (top 23)) f cd A outer s H E).A.units + 1 < cLine := by have := ok.un; omega
  refine pbl_cons ?_ ?_
  · refine pst_unp rfl ?_ (pgs_cons (pg_name nd rfl (by first | exact Or.inl rfl | exact Or.inr rfl)) (pgs_cons (pg_name nd rfl (by first | exact Or.inl rfl | exact Or.inr rfl)) pgs_nil))
    exact pd_var
  · refine pbl_cons ?_ ?_
    · refine pst_if ?_ ?_ ?_
      · refine pb_not ?_
        refine pb_of ?_
        refine pd_call (n := 2) (f_is_tuple_of.kn (rm.mono (by decide))) ok.gd (takes_of rfl rfl rfl rfl) rfl ((acons_len (acons_len anil_len))) ?_
        refine pl_cons ?_ ?_
        · exact pd_var
        · refine pl_cons ?_ ?_
          · exact pd_int
          · exact pl_nil
      · refine pbl_one ?_
        refine pst_ret ?_
        exact pd_bl
      · exact pbl_nil
    · refine pbl_cons ?_ ?_
      · refine pst_unp rfl ?_ (pgs_cons (pg_name nd rfl (by first | exact Or.inl rfl | exact Or.inr rfl)) (pgs_cons (pg_name nd rfl (by first | exact Or.inl rfl | exact Or.inr rfl)) pgs_nil))
        exact pd_var
      · refine pbl_one ?_
        refine pst_ret ?_
        refine pd_and ?_ ?_
        · refine pd_call (n := 2) (f__are_powers.kn (rm.mono (by decide))) ok.gd (takes_of rfl rfl rfl rfl) rfl ((acons_len (acons_len anil_len))) ?_
          refine pl_cons ?_ ?_
          · exact pd_var
          · refine pl_cons ?_ ?_
            · exact pd_var
            · exact pl_nil
        · refine pd_one ?_
          refine pd_call (n := 3) (f_is_integer_in.kn (rm.mono (by decide))) ok.gd (takes_of rfl rfl rfl rfl) rfl ((acons_len (acons_len (acons_len anil_len)))) ?_
          refine pl_cons ?_ ?_
          · exact pd_var
          · refine pl_cons ?_ ?_
            · exact pd_int
            · refine pl_cons ?_ ?_
              · refine pd_bin bin_sub ?_ ?_
                · exact ph_var
                · refine PD.toH ?_
                  exact pd_int
              · exact pl_nil
end
end Pi
namespace Pi
open PySem PySem.Spec PyProof.Rows L2 LamX
section
variable {P : Program} {w : World} {K : PySem.W.Frag} {mg : Str → Option Value} {base : Heap} {f : Addr} {cd : Value} {A : Around} {outer : List PySem.Env} {s : Shared} {H : Hp} {E : XK}
theorem b_poly_fault (hb : Blt mg) (ns : NoSys K) (ok : COk (dcx P w K mg base n_poly_fault "poly_fault" (defScope (top 24)) f cd A outer s H E)) (rm : Room 4 (dcx P w K mg base n_poly_fault "poly_fault" (defScope (top 24)) f cd A outer s H E).A) (c_MOST_TERMS : GlC K mg "MOST_TERMS" cMOST_TERMS) (f__is_term : FK (GK K) P w K mg base "_is_term" 2 m__is_term 4) : PBl (GK K) (dcx P w K mg base n_poly_fault "poly_fault" (defScope (top 24)) f cd A outer s H E) E H (defBody (top 24)) g_poly_fault := by
  have nd := nd_poly_fault
  have hu : (dcx P w K mg base n_poly_fault "poly_fault" (defScope (top 24)) f cd A outer s H E).A.units + 1 < cLine := by have := ok.un; omega
  refine pbl_cons ?_ ?_
  · refine pst_if ?_ ?_ ?_
    · refine PBW.pb ?_
      refine pb_or ?_ ?_
      · refine pb_not ?_
        refine pb_of ?_
        refine pd_isB .tuple ?_ rfl hb.isinstance rfl hb.tuple rfl
        exact ph_var
      · refine pb_or1 ?_
        refine pb_cmp (bin_gt ok) ?_ ?_
        · refine PD.toH ?_
          refine pd_blt call_lenX cal_len rfl hb.len rfl ?_
          refine plh_cons ?_ ?_
          · exact ph_var
          · exact plh_nil
        · refine PD.toH ?_
          exact pd_glo ⟨c_MOST_TERMS.ex⟩ rfl
    · refine pbl_one ?_
      refine pst_ret ?_
      refine @pd_cst _ _ _ _ _ _ ?_
      kernel_rfl
    · exact pbl_nil
  · refine pbl_cons ?_ ?_
    · refine @pst_set _ _ _ _ _ _ _ 2 "ahead" _ nd ?_ rfl (by first | exact Or.inl rfl | exact Or.inr rfl) ?_ (by first | exact .inl rfl | exact .inr rfl)
      · refine @pd_cst _ _ _ _ _ _ ?_
        kernel_rfl
      · rfl
    · refine pbl_cons ?_ ?_
      · refine pst_for (passes_of rfl) rfl ?_ (pg_tupN rfl (pgs_cons (pg_name nd rfl (by first | exact Or.inl rfl | exact Or.inr rfl)) (pgs_cons (pg_name nd rfl (by first | exact Or.inl rfl | exact Or.inr rfl)) pgs_nil))) tgok_tup ?_
        · refine pit_enumT rfl hb.enumerate ?_
          refine pl_cons ?_ ?_
          · exact pd_var
          · exact pl_nil
        · refine pbl_cons ?_ ?_
          · refine pst_if ?_ ?_ ?_
            · refine PBW.pb ?_
              refine pb_or ?_ ?_
              · refine pb_not ?_
                refine pb_of ?_
                refine pd_call (n := 2) (f__is_term.kn (rm.mono (by decide))) ok.gd (takes_of rfl rfl rfl rfl) rfl ((acons_len (acons_len anil_len))) ?_
                refine pl_cons ?_ ?_
                · exact pd_var
                · refine pl_cons ?_ ?_
                  · exact pd_var
                  · exact pl_nil
              · refine pb_or1 ?_
                refine pb_cmp (bin_le ok) ?_ ?_
                · refine PD.toH ?_
                  refine pd_ix ?_ ?_
                  · exact ph_var
                  · refine PD.toH ?_
                    exact pd_int
                · exact ph_var
            · refine pbl_one ?_
              refine pst_ret ?_
              refine pd_tup ?_
              refine pl_cons ?_ ?_
              · exact pd_var
              · exact pl_nil
            · exact pbl_nil
          · refine pbl_one ?_
            refine @pst_set _ _ _ _ _ _ _ 2 "ahead" _ nd ?_ rfl (by first | exact Or.inl rfl | exact Or.inr rfl) ?_ (by first | exact .inl rfl | exact .inr rfl)
            · refine pd_ix ?_ ?_
              · exact ph_var
              · refine PD.toH ?_
                exact pd_int
            · rfl
      · refine pbl_one ?_
        refine pst_ret ?_
        exact pd_non
end
end Pi
namespace Pi
open PySem PySem.Spec PyProof.Rows L2 LamX
section
variable {P : Program} {w : World} {K : PySem.W.Frag} {mg : Str → Option Value} {base : Heap} {f : Addr} {cd : Value} {A : Around} {outer : List PySem.Env} {s : Shared} {H : Hp} {E : XK}
theorem b_need_poly (hb : Blt mg) (ns : NoSys K) (ok : COk (dcx P w K mg base n_need_poly "need_poly" (defScope (top 25)) f cd A outer s H E)) (rm : Room 5 (dcx P w K mg base n_need_poly "need_poly" (defScope (top 25)) f cd A outer s H E).A) (f_need_field : FK (GK K) P w K mg base "need_field" 1 m_need_field 3) (f_poly_fault : FK (GK K) P w K mg base "poly_fault" 2 m_poly_fault 5) (x_BadPoly : XF (GK K) P w K mg base "BadPoly" eBadPoly) : PBl (GK K) (dcx P w K mg base n_need_poly "need_poly" (defScope (top 25)) f cd A outer s H E) E H (defBody (top 25)) g_need_poly := by
  have nd := nd_need_poly
  have hu : (dcx P w K mg base n_need_poly "need_poly" (defScope (top 25)) f cd A outer s H E).A.units + 1 < cLine := by have := ok.un; omega
  refine pbl_cons ?_ ?_
  · refine @pst_set _ _ _ _ _ _ _ 2 "place" _ nd ?_ rfl (by first | exact Or.inl rfl | exact Or.inr rfl) ?_ (by first | exact .inl rfl | exact .inr rfl)
    · refine pd_call (n := 2) (f_poly_fault.kn (rm.mono (by decide))) ok.gd (takes_of rfl rfl rfl rfl) rfl ((acons_len (acons_len anil_len))) ?_
      refine pl_cons ?_ ?_
      · refine pd_call (n := 1) (f_need_field.kn (rm.mono (by decide))) ok.gd (takes_of rfl rfl rfl rfl) rfl ((acons_len anil_len)) ?_
        refine pl_cons ?_ ?_
        · exact pd_var
        · exact pl_nil
      · refine pl_cons ?_ ?_
        · exact pd_var
        · exact pl_nil
    · rfl
  · refine pbl_cons ?_ ?_
    · refine pst_if ?_ ?_ ?_
      · refine pb_cmp bin_isNot ?_ ?_
        · exact ph_var
        · refine PD.toH ?_
          exact pd_non
      · refine pbl_one ?_
        refine pst_raise rfl (x_BadPoly.kn (rm.mono (by decide))) (takes_of rfl rfl rfl rfl) rfl ?_
        exact pd_var
      · exact pbl_nil
    · refine pbl_one ?_
      refine pst_ret ?_
      exact pd_var
end
end Pi
namespace Pi
open PySem PySem.Spec PyProof.Rows L2 LamX
section
variable {P : Program} {w : World} {K : PySem.W.Frag} {mg : Str → Option Value} {base : Heap} {f : Addr} {cd : Value} {A : Around} {outer : List PySem.Env} {s : Shared} {H : Hp} {E : XK}
theorem b_value_at (hb : Blt mg) (ns : NoSys K) (ok : COk (dcx P w K mg base n_value_at "value_at" (defScope (top 26)) f cd A outer s H E)) (rm : Room 6 (dcx P w K mg base n_value_at "value_at" (defScope (top 26)) f cd A outer s H E).A) (f_need_point : FK (GK K) P w K mg base "need_point" 2 m_need_point 5) (f_need_poly : FK (GK K) P w K mg base "need_poly" 2 m_need_poly 6) (f_power_of : FK (GK K) P w K mg base "power_of" 2 m_power_of 1) : PBl (GK K) (dcx P w K mg base n_value_at "value_at" (defScope (top 26)) f cd A outer s H E) E H (defBody (top 26)) g_value_at := by
  have nd := nd_value_at
  have hu : (dcx P w K mg base n_value_at "value_at" (defScope (top 26)) f cd A outer s H E).A.units + 1 < cLine := by have := ok.un; omega
  refine pbl_cons ?_ ?_
  · refine pst_expr ?_
    refine pd_call (n := 2) (f_need_poly.kn (rm.mono (by decide))) ok.gd (takes_of rfl rfl rfl rfl) rfl ((acons_len (acons_len anil_len))) ?_
    refine pl_cons ?_ ?_
    · exact pd_var
    · refine pl_cons ?_ ?_
      · exact pd_var
      · exact pl_nil
  · refine pbl_cons ?_ ?_
    · refine pst_expr ?_
      refine pd_call (n := 2) (f_need_point.kn (rm.mono (by decide))) ok.gd (takes_of rfl rfl rfl rfl) rfl ((acons_len (acons_len anil_len))) ?_
      refine pl_cons ?_ ?_
      · exact pd_var
      · refine pl_cons ?_ ?_
        · exact pd_var
        · exact pl_nil
    · refine pbl_cons ?_ ?_
      · refine @pst_set _ _ _ _ _ _ _ 3 "total" _ nd ?_ rfl (by first | exact Or.inl rfl | exact Or.inr rfl) ?_ (by first | exact .inl rfl | exact .inr rfl)
        · exact pd_int
        · rfl
      · refine pbl_cons ?_ ?_
        · refine pst_for (passes_of rfl) rfl ?_ (pg_tupN rfl (pgs_cons (pg_name nd rfl (by first | exact Or.inl rfl | exact Or.inr rfl)) (pgs_cons (pg_name nd rfl (by first | exact Or.inl rfl | exact Or.inr rfl)) pgs_nil))) tgok_tup ?_
          · refine pit_dat ?_
            exact pd_var
          · refine pbl_cons ?_ ?_
            · refine @pst_set _ _ _ _ _ _ _ 6 "worth" _ nd ?_ rfl (by first | exact Or.inl rfl | exact Or.inr rfl) ?_ (by first | exact .inl rfl | exact .inr rfl)
              · exact pd_var
              · rfl
            · refine pbl_cons ?_ ?_
              · refine pst_for (passes_of rfl) rfl ?_ (pg_tupN rfl (pgs_cons (pg_name nd rfl (by first | exact Or.inl rfl | exact Or.inr rfl)) (pgs_cons (pg_name nd rfl (by first | exact Or.inl rfl | exact Or.inr rfl)) pgs_nil))) tgok_tup ?_
                · refine pit_zip rfl hb.zip ?_
                  refine pl_cons ?_ ?_
                  · exact pd_var
                  · refine pl_cons ?_ ?_
                    · exact pd_var
                    · exact pl_nil
                · refine pbl_one ?_
                  refine @pst_set _ _ _ _ _ _ _ 6 "worth" _ nd ?_ rfl (by first | exact Or.inl rfl | exact Or.inr rfl) ?_ (by first | exact .inl rfl | exact .inr rfl)
                  · refine pd_bin bin_mul ?_ ?_
                    · exact ph_var
                    · refine PD.toH ?_
                      refine pd_call (n := 2) (f_power_of.kn (rm.mono (by decide))) ok.gd (takes_of rfl rfl rfl rfl) rfl ((acons_len (acons_len anil_len))) ?_
                      refine pl_cons ?_ ?_
                      · exact pd_var
                      · refine pl_cons ?_ ?_
                        · exact pd_var
                        · exact pl_nil
                  · rfl
              · refine pbl_one ?_
                refine @pst_set _ _ _ _ _ _ _ 3 "total" _ nd ?_ rfl (by first | exact Or.inl rfl | exact Or.inr rfl) ?_ (by first | exact .inl rfl | exact .inr rfl)
                · refine pd_bin bin_add ?_ ?_
                  · exact ph_var
                  · exact ph_var
                · rfl
        · refine pbl_one ?_
          refine pst_ret ?_
          refine pd_bin bin_mod ?_ ?_
          · exact ph_var
          · refine PD.toH ?_
            refine pd_ix ?_ ?_
            · exact ph_var
            · refine PD.toH ?_
              exact pd_int
end
end Pi
namespace Pi
open PySem PySem.Spec PyProof.Rows L2 LamX
section
variable {P : Program} {w : World} {K : PySem.W.Frag} {mg : Str → Option Value} {base : Heap} {f : Addr} {cd : Value} {A : Around} {outer : List PySem.Env} {s : Shared} {H : Hp} {E : XK}
theorem b__along_each_unknown (hb : Blt mg) (ns : NoSys K) (ok : COk (dcx P w K mg base n__along_each_unknown "_along_each_unknown" (defScope (top 32)) f cd A outer s H E)) (rm : Room 0 (dcx P w K mg base n__along_each_unknown "_along_each_unknown" (defScope (top 32)) f cd A outer s H E).A) : PBl (GK K) (dcx P w K mg base n__along_each_unknown "_along_each_unknown" (defScope (top 32)) f cd A outer s H E) E H (defBody (top 32)) g__along_each_unknown := by
  have nd := nd__along_each_unknown
  have hu : (dcx P w K mg base n__along_each_unknown "_along_each_unknown" (defScope (top 32)) f cd A outer s H E).A.units + 1 < cLine := by have := ok.un; omega
  refine pbl_cons ?_ ?_
  · refine pst_unp rfl ?_ (pgs_cons (pg_name nd rfl (by first | exact Or.inl rfl | exact Or.inr rfl)) (pgs_cons (pg_name nd rfl (by first | exact Or.inl rfl | exact Or.inr rfl)) pgs_nil))
    exact pd_var
  · refine pbl_cons ?_ ?_
    · refine @pst_set _ _ _ _ _ _ _ 3 "size" _ nd ?_ rfl (by first | exact Or.inl rfl | exact Or.inr rfl) ?_ (by first | exact .inl rfl | exact .inr rfl)
      · refine pd_bin bin_fdiv ?_ ?_
        · refine PD.toH ?_
          refine pd_blt call_lenX cal_len rfl hb.len rfl ?_
          refine plh_cons ?_ ?_
          · exact ph_var
          · exact plh_nil
        · exact ph_var
      · rfl
    · refine pbl_cons ?_ ?_
      · refine pst_for (passes_of rfl) rfl ?_ (pg_name nd rfl (by first | exact Or.inl rfl | exact Or.inr rfl)) tgok_name ?_
        · refine pit_range1 hb.range ?_
          refine pl_cons ?_ ?_
          · exact pd_var
          · exact pl_nil
        · refine pbl_cons ?_ ?_
          · refine @pst_own _ _ _ _ _ _ _ 7 "turned" _ nd ?_ rfl (by first | exact Or.inl rfl | exact Or.inr rfl) ?_ (by first | exact .inl rfl | exact .inr rfl)
            · refine pn_lst ?_
              exact pl_nil
            · rfl
          · refine pbl_cons ?_ ?_
            · refine pst_for (passes_of rfl) rfl ?_ (pg_name nd rfl (by first | exact Or.inl rfl | exact Or.inr rfl)) tgok_name ?_
              · refine pit_range1 hb.range ?_
                refine pl_cons ?_ ?_
                · exact pd_var
                · exact pl_nil
              · refine pbl_cons ?_ ?_
                · refine @pst_set _ _ _ _ _ _ _ 9 "line" _ nd ?_ rfl (by first | exact Or.inl rfl | exact Or.inr rfl) ?_ (by first | exact .inl rfl | exact .inr rfl)
                  · refine PN.toD ?_
                    refine pn_step ?_ ?_ ?_ ?_
                    · exact ph_var
                    · refine ppt_some ?_
                      exact pd_var
                    · exact ppt_none
                    · exact pd_var
                  · rfl
                · refine pbl_one ?_
                  refine pst_for (passes_of rfl) rfl ?_ (pg_name nd rfl (by first | exact Or.inl rfl | exact Or.inr rfl)) tgok_name ?_
                  · refine pit_dat ?_
                    exact pd_var
                  · refine pbl_one ?_
                    refine pst_app (i := 7) ?_
                    refine pd_bin bin_mod ?_ ?_
                    · refine PD.toH ?_
                      refine pd_blt (cr_sumX rfl) cal_sumX rfl hb.sum rfl ?_
                      refine plh_cons ?_ ?_
                      · refine PN.toH ?_
                        refine pn_lc [("one", 11), ("two", 12)] rfl nd ?_ (blkOk_by rfl) tgok_tup (fun s0 H1 C cl fp => (pg_tupN rfl (pgs_cons (pg_name nd rfl (.inl rfl)) (pgs_cons (pg_name nd rfl (.inl rfl)) pgs_nil)))) (fun s0 H1 C cl fp => ?_) (fun s0 H1 C cl fp => ?_)
                        · refine pit_zip rfl hb.zip ?_
                          refine pl_cons ?_ ?_
                          · exact pd_var
                          · refine pl_cons ?_ ?_
                            · exact pd_var
                            · exact pl_nil
                        · exact pbs_nil
                        · refine pd_bin bin_mul ?_ ?_
                          · exact ph_var
                          · exact ph_var
                      · exact plh_nil
                    · exact ph_var
            · refine pbl_frzT 7 ?_
              refine pbl_one ?_
              refine @pst_set _ _ _ _ _ _ _ 1 "worths" _ nd ?_ rfl (by first | exact Or.inl rfl | exact Or.inr rfl) ?_ (by first | exact .inl rfl | exact .inr rfl)
              · exact pd_var
              · rfl
      · refine pbl_one ?_
        refine pst_ret ?_
        exact pd_var
end
end Pi
namespace Pi
open PySem PySem.Spec PyProof.Rows L2 LamX
section
variable {P : Program} {w : World} {K : PySem.W.Frag} {mg : Str → Option Value} {base : Heap} {f : Addr} {cd : Value} {A : Around} {outer : List PySem.Env} {s : Shared} {H : Hp} {E : XK}
theorem b__lessened (hb : Blt mg) (ns : NoSys K) (ok : COk (dcx P w K mg base n__lessened "_lessened" (defScope (top 29)) f cd A outer s H E)) (rm : Room 0 (dcx P w K mg base n__lessened "_lessened" (defScope (top 29)) f cd A outer s H E).A) : PBl (GK K) (dcx P w K mg base n__lessened "_lessened" (defScope (top 29)) f cd A outer s H E) E H (defBody (top 29)) g__lessened := by
  have nd := nd__lessened
  have hu : (dcx P w K mg base n__lessened "_lessened" (defScope (top 29)) f cd A outer s H E).A.units + 1 < cLine := by have := ok.un; omega
  refine pbl_cons ?_ ?_
  · refine pst_if ?_ ?_ ?_
    · refine pb_cmp (bin_eqX ok ns) ?_ ?_
      · exact ph_var
      · refine PD.toH ?_
        exact pd_int
    · refine pbl_one ?_
      refine pst_ret ?_
      exact pd_int
    · exact pbl_nil
  · refine pbl_one ?_
    refine pst_ret ?_
    refine pd_bin bin_add ?_ ?_
    · refine PD.toH ?_
      refine pd_bin bin_mod ?_ ?_
      · refine PD.toH ?_
        refine pd_bin bin_sub ?_ ?_
        · exact ph_var
        · refine PD.toH ?_
          exact pd_int
      · refine PD.toH ?_
        refine pd_bin bin_sub ?_ ?_
        · exact ph_var
        · refine PD.toH ?_
          exact pd_int
    · refine PD.toH ?_
      exact pd_int
end
end Pi
namespace Pi
open PySem PySem.Spec PyProof.Rows L2 LamX
section
variable {P : Program} {w : World} {K : PySem.W.Frag} {mg : Str → Option Value} {base : Heap} {f : Addr} {cd : Value} {A : Around} {outer : List PySem.Env} {s : Shared} {H : Hp} {E : XK}
theorem b__factors (hb : Blt mg) (ns : NoSys K) (ok : COk (dcx P w K mg base n__factors "_factors" (defScope (top 30)) f cd A outer s H E)) (rm : Room 1 (dcx P w K mg base n__factors "_factors" (defScope (top 30)) f cd A outer s H E).A) (f__lessened : FK (GK K) P w K mg base "_lessened" 2 m__lessened 1) (f_power_of : FK (GK K) P w K mg base "power_of" 2 m_power_of 1) : PBl (GK K) (dcx P w K mg base n__factors "_factors" (defScope (top 30)) f cd A outer s H E) E H (defBody (top 30)) g__factors := by
  have nd := nd__factors
  have hu : (dcx P w K mg base n__factors "_factors" (defScope (top 30)) f cd A outer s H E).A.units + 1 < cLine := by have := ok.un; omega
  refine pbl_cons ?_ ?_
  · refine pst_unp rfl ?_ (pgs_cons (pg_name nd rfl (by first | exact Or.inl rfl | exact Or.inr rfl)) (pgs_cons (pg_name nd rfl (by first | exact Or.inl rfl | exact Or.inr rfl)) pgs_nil))
    exact pd_var
  · refine pbl_cons ?_ ?_
    · refine @pst_own _ _ _ _ _ _ _ 2 "factors" _ nd ?_ rfl (by first | exact Or.inl rfl | exact Or.inr rfl) ?_ (by first | exact .inl rfl | exact .inr rfl)
      · refine pn_rep ?_ ?_
        · refine PD.toH ?_
          refine @pd_cst _ _ _ _ _ _ ?_
          kernel_rfl
        · refine PD.toH ?_
          refine pd_call (n := 2) (f_power_of.kn (rm.mono (by decide))) ok.gd (takes_of rfl rfl rfl rfl) rfl ((acons_len (acons_len anil_len))) ?_
          refine pl_cons ?_ ?_
          · exact pd_var
          · refine pl_cons ?_ ?_
            · exact pd_var
            · exact pl_nil
      · rfl
    · refine pbl_cons ?_ ?_
      · refine pst_for (passes_of rfl) rfl ?_ (pg_tupN rfl (pgs_cons (pg_name nd rfl (by first | exact Or.inl rfl | exact Or.inr rfl)) (pgs_cons (pg_name nd rfl (by first | exact Or.inl rfl | exact Or.inr rfl)) pgs_nil))) tgok_tup ?_
        · refine pit_dat ?_
          exact pd_var
        · refine pbl_cons ?_ ?_
          · refine @pst_set _ _ _ _ _ _ _ 7 "at" _ nd ?_ rfl (by first | exact Or.inl rfl | exact Or.inr rfl) ?_ (by first | exact .inl rfl | exact .inr rfl)
            · exact pd_int
            · rfl
          · refine pbl_cons ?_ ?_
            · refine pst_for (passes_of rfl) rfl ?_ (pg_name nd rfl (by first | exact Or.inl rfl | exact Or.inr rfl)) tgok_name ?_
              · refine pit_dat ?_
                exact pd_var
              · refine pbl_one ?_
                refine @pst_set _ _ _ _ _ _ _ 7 "at" _ nd ?_ rfl (by first | exact Or.inl rfl | exact Or.inr rfl) ?_ (by first | exact .inl rfl | exact .inr rfl)
                · refine pd_bin bin_add ?_ ?_
                  · refine PD.toH ?_
                    refine pd_bin bin_mul ?_ ?_
                    · exact ph_var
                    · exact ph_var
                  · refine PD.toH ?_
                    refine pd_call (n := 2) (f__lessened.kn (rm.mono (by decide))) ok.gd (takes_of rfl rfl rfl rfl) rfl ((acons_len (acons_len anil_len))) ?_
                    refine pl_cons ?_ ?_
                    · exact pd_var
                    · refine pl_cons ?_ ?_
                      · exact pd_var
                      · exact pl_nil
                · rfl
            · refine pbl_one ?_
              refine pst_at (i := 2) ?_ ?_
              · refine pd_bin bin_mod ?_ ?_
                · refine PD.toH ?_
                  refine pd_bin bin_add ?_ ?_
                  · refine PD.toH ?_
                    refine pd_ix ?_ ?_
                    · exact ph_var
                    · exact ph_var
                  · exact ph_var
                · exact ph_var
              · exact pd_var
      · refine pbl_frzT 2 ?_
        refine pbl_one ?_
        refine pst_ret ?_
        exact pd_var
end
end Pi
namespace Pi
open PySem PySem.Spec PyProof.Rows L2 LamX
section
variable {P : Program} {w : World} {K : PySem.W.Frag} {mg : Str → Option Value} {base : Heap} {f : Addr} {cd : Value} {A : Around} {outer : List PySem.Env} {s : Shared} {H : Hp} {E : XK}
theorem b__table_of_values (hb : Blt mg) (ns : NoSys K) (ok : COk (dcx P w K mg base n__table_of_values "_table_of_values" (defScope (top 31)) f cd A outer s H E)) (rm : Room 1 (dcx P w K mg base n__table_of_values "_table_of_values" (defScope (top 31)) f cd A outer s H E).A) (f_power_of : FK (GK K) P w K mg base "power_of" 2 m_power_of 1) : PBl (GK K) (dcx P w K mg base n__table_of_values "_table_of_values" (defScope (top 31)) f cd A outer s H E) E H (defBody (top 31)) g__table_of_values := by
  have nd := nd__table_of_values
  have hu : (dcx P w K mg base n__table_of_values "_table_of_values" (defScope (top 31)) f cd A outer s H E).A.units + 1 < cLine := by have := ok.un; omega
  refine pbl_one ?_
  refine pst_ret ?_
  refine PN.toD ?_
  refine pn_lc [("item", 1)] rfl nd ?_ (blkOk_by rfl) tgok_name (fun s0 H1 C cl fp => (pg_name nd rfl (by first | exact Or.inl rfl | exact Or.inr rfl))) (fun s0 H1 C cl fp => ?_) (fun s0 H1 C cl fp => ?_)
  · refine pit_range1 hb.range ?_
    refine pl_cons ?_ ?_
    · exact pd_var
    · exact pl_nil
  · exact pbs_nil
  · refine PN.toD ?_
    refine pn_lc [("power", 2)] rfl nd ?_ (blkOk_by rfl) tgok_name (fun s0 H1 C cl fp => (pg_name nd rfl (.inl rfl))) (fun s0 H1 C cl fp => ?_) (fun s0 H1 C cl fp => ?_)
    · refine pit_range1 hb.range ?_
      refine pl_cons ?_ ?_
      · exact pd_var
      · exact pl_nil
    · exact pbs_nil
    · refine pd_bin bin_mod ?_ ?_
      · refine PD.toH ?_
        refine pd_call (n := 2) (f_power_of.kn (rm.mono (by decide))) (okb (okb ok)).gd L2.takes0 rfl ((acons_len (acons_len anil_len))) ?_
        refine pl_cons ?_ ?_
        · exact pd_var
        · refine pl_cons ?_ ?_
          · exact pd_var
          · exact pl_nil
      · exact ph_var
end
end Pi
namespace Pi
open PySem PySem.Spec PyProof.Rows L2 LamX
section
variable {P : Program} {w : World} {K : PySem.W.Frag} {mg : Str → Option Value} {base : Heap} {f : Addr} {cd : Value} {A : Around} {outer : List PySem.Env} {s : Shared} {H : Hp} {E : XK}
theorem b_values (hb : Blt mg) (ns : NoSys K) (ok : COk (dcx P w K mg base n_values "values" (defScope (top 27)) f cd A outer s H E)) (rm : Room 6 (dcx P w K mg base n_values "values" (defScope (top 27)) f cd A outer s H E).A) (f__along_each_unknown : FK (GK K) P w K mg base "_along_each_unknown" 3 m__along_each_unknown 1) (f__factors : FK (GK K) P w K mg base "_factors" 2 m__factors 2) (f__table_of_values : FK (GK K) P w K mg base "_table_of_values" 1 m__table_of_values 2) (f_need_poly : FK (GK K) P w K mg base "need_poly" 2 m_need_poly 6) : PBl (GK K) (dcx P w K mg base n_values "values" (defScope (top 27)) f cd A outer s H E) E H (defBody (top 27)) g_values := by
  have nd := nd_values
  have hu : (dcx P w K mg base n_values "values" (defScope (top 27)) f cd A outer s H E).A.units + 1 < cLine := by have := ok.un; omega
  refine pbl_cons ?_ ?_
  · refine pst_expr ?_
    refine pd_call (n := 2) (f_need_poly.kn (rm.mono (by decide))) ok.gd (takes_of rfl rfl rfl rfl) rfl ((acons_len (acons_len anil_len))) ?_
    refine pl_cons ?_ ?_
    · exact pd_var
    · refine pl_cons ?_ ?_
      · exact pd_var
      · exact pl_nil
  · refine pbl_one ?_
    refine pst_ret ?_
    refine pd_bty call_tuple_of cal_tuple rfl hb.tuple rfl ?_
    refine plh_cons ?_ ?_
    · refine PD.toH ?_
      refine pd_call (n := 3) (f__along_each_unknown.kn (rm.mono (by decide))) ok.gd (takes_of rfl rfl rfl rfl) rfl ((acons_len (acons_len (acons_len anil_len)))) ?_
      refine pl_cons ?_ ?_
      · exact pd_var
      · refine pl_cons ?_ ?_
        · refine pd_call (n := 2) (f__factors.kn (rm.mono (by decide))) ok.gd (takes_of rfl rfl rfl rfl) rfl ((acons_len (acons_len anil_len))) ?_
          refine pl_cons ?_ ?_
          · exact pd_var
          · refine pl_cons ?_ ?_
            · exact pd_var
            · exact pl_nil
        · refine pl_cons ?_ ?_
          · refine pd_call (n := 1) (f__table_of_values.kn (rm.mono (by decide))) ok.gd (takes_of rfl rfl rfl rfl) rfl ((acons_len anil_len)) ?_
            refine pl_cons ?_ ?_
            · refine pd_ix ?_ ?_
              · exact ph_var
              · refine PD.toH ?_
                exact pd_int
            · exact pl_nil
          · exact pl_nil
    · exact plh_nil
end
end Pi
namespace Pi
open PySem PySem.Spec PyProof.Rows L2 LamX
section
variable {P : Program} {w : World} {K : PySem.W.Frag} {mg : Str → Option Value} {base : Heap} {f : Addr} {cd : Value} {A : Around} {outer : List PySem.Env} {s : Shared} {H : Hp} {E : XK}
theorem b_degree (hb : Blt mg) (ns : NoSys K) (ok : COk (dcx P w K mg base n_degree "degree" (defScope (top 28)) f cd A outer s H E)) (rm : Room 6 (dcx P w K mg base n_degree "degree" (defScope (top 28)) f cd A outer s H E).A) (f_need_poly : FK (GK K) P w K mg base "need_poly" 2 m_need_poly 6) : PBl (GK K) (dcx P w K mg base n_degree "degree" (defScope (top 28)) f cd A outer s H E) E H (defBody (top 28)) g_degree := by
  have nd := nd_degree
  have hu : (dcx P w K mg base n_degree "degree" (defScope (top 28)) f cd A outer s H E).A.units + 1 < cLine := by have := ok.un; omega
  refine pbl_cons ?_ ?_
  · refine pst_expr ?_
    refine pd_call (n := 2) (f_need_poly.kn (rm.mono (by decide))) ok.gd (takes_of rfl rfl rfl rfl) rfl ((acons_len (acons_len anil_len))) ?_
    refine pl_cons ?_ ?_
    · exact pd_var
    · refine pl_cons ?_ ?_
      · exact pd_var
      · exact pl_nil
  · refine pbl_one ?_
    refine pst_ret ?_
    refine pd_maxD rfl ok.un rfl hb.max ?_ ?_
    · refine PN.toH ?_
      refine pn_lc [("powers", 2), ("_", 3)] rfl nd ?_ (blkOk_by rfl) tgok_tup (fun s0 H1 C cl fp => (pg_tupN rfl (pgs_cons (pg_name nd rfl (.inl rfl)) (pgs_cons (pg_name nd rfl (.inl rfl)) pgs_nil)))) (fun s0 H1 C cl fp => ?_) (fun s0 H1 C cl fp => ?_)
      · refine pit_dat ?_
        exact pd_var
      · exact pbs_nil
      · refine pd_blt (cr_sumX rfl) cal_sumX rfl hb.sum rfl ?_
        refine plh_cons ?_ ?_
        · exact ph_var
        · exact plh_nil
    · refine pd_neg ?_
      refine PD.toH ?_
      exact pd_int
end
end Pi
namespace Pi
open PySem PySem.Spec PyProof.Rows L2 LamX
section
variable {P : Program} {w : World} {K : PySem.W.Frag} {mg : Str → Option Value} {base : Heap} {f : Addr} {cd : Value} {A : Around} {outer : List PySem.Env} {s : Shared} {H : Hp} {E : XK}
theorem b__law_begun (hb : Blt mg) (ns : NoSys K) (ok : COk (dcx P w K mg base n__law_begun "_law_begun" (defScope (top 34)) f cd A outer s H E)) (rm : Room 0 (dcx P w K mg base n__law_begun "_law_begun" (defScope (top 34)) f cd A outer s H E).A) : PBl (GK K) (dcx P w K mg base n__law_begun "_law_begun" (defScope (top 34)) f cd A outer s H E) E H (defBody (top 34)) g__law_begun := by
  have nd := nd__law_begun
  have hu : (dcx P w K mg base n__law_begun "_law_begun" (defScope (top 34)) f cd A outer s H E).A.units + 1 < cLine := by have := ok.un; omega
  refine pbl_cons ?_ ?_
  · refine @pst_set _ _ _ _ _ _ _ 2 "cells" _ nd ?_ rfl (by first | exact Or.inl rfl | exact Or.inr rfl) ?_ (by first | exact .inl rfl | exact .inr rfl)
    · refine PN.toD ?_
      refine pn_cat ?_ ?_
      · refine PN.toH ?_
        refine pn_slice ?_ ?_ ?_
        · exact ph_var
        · refine ppt_some ?_
          exact pd_var
        · exact ppt_none
      · refine PN.toH ?_
        refine pn_slice ?_ ?_ ?_
        · exact ph_var
        · exact ppt_none
        · refine ppt_some ?_
          exact pd_var
    · rfl
  · refine pbl_cons ?_ ?_
    · refine pst_setLc [("cell", 5)] rfl nd ?_ (blkOk_by rfl) tgok_name (fun s0 H1 C cl fp => (pg_name nd rfl (.inl rfl))) (fun s0 H1 C cl fp => ?_) (fun s0 H1 C cl fp => ?_)
      · refine pit_dat ?_
        exact pd_var
      · refine pbs_one ?_
        refine pb_cmp (bin_ge (okb ok)) ?_ ?_
        · exact ph_var
        · refine PD.toH ?_
          refine pd_bin bin_pow ?_ ?_
          · refine PD.toH ?_
            exact pd_int
          · refine PD.toH ?_
            exact pd_int
      · exact pd_var
    · refine pbl_cons ?_ ?_
      · refine @pst_set _ _ _ _ _ _ _ 4 "seed" _ nd ?_ rfl (by first | exact Or.inl rfl | exact Or.inr rfl) ?_ (by first | exact .inl rfl | exact .inr rfl)
        · refine pd_bin bin_add ?_ ?_
          · refine PD.toH ?_
            exact pd_int
          · exact ph_var
        · rfl
      · refine pbl_cons ?_ ?_
        · refine pst_for (passes_of rfl) rfl ?_ (pg_name nd rfl (by first | exact Or.inl rfl | exact Or.inr rfl)) tgok_name ?_
          · refine pit_dat ?_
            exact pd_var
          · refine pbl_one ?_
            refine @pst_set _ _ _ _ _ _ _ 4 "seed" _ nd ?_ rfl (by first | exact Or.inl rfl | exact Or.inr rfl) ?_ (by first | exact .inl rfl | exact .inr rfl)
            · refine pd_bin bin_mod ?_ ?_
              · refine PD.toH ?_
                refine pd_bty call_int1 cal_int rfl hb.int rfl ?_
                refine plh_cons ?_ ?_
                · refine PD.toH ?_
                  refine pd_bin bin_add ?_ ?_
                  · refine PD.toH ?_
                    refine pd_bin bin_mul ?_ ?_
                    · exact ph_var
                    · refine PD.toH ?_
                      exact pd_int
                  · exact ph_var
                · exact plh_nil
              · refine PD.toH ?_
                exact pd_int
            · rfl
        · refine pbl_one ?_
          refine pst_ret ?_
          refine pd_obj ?_ (pps_cons pe_rd pe_rd (pps_cons pe_rd pe_rd (pps_cons pe_rd pe_rd (pps_cons pe_rd pe_rd pps_nil))))
          refine ppr_cons ?_ ?_ ?_
          · exact pd_str
          · refine pd_if ?_ ?_ ?_
            · refine pb_cmp (bin_neX ok ns) ?_ ?_
              · exact ph_var
              · refine PD.toH ?_
                refine @pd_cst _ _ _ _ _ _ ?_
                kernel_rfl
            · refine pd_ix ?_ ?_
              · exact ph_var
              · refine PD.toH ?_
                exact pd_int
            · exact pd_int
          · refine ppr_cons ?_ ?_ ?_
            · exact pd_str
            · exact pd_var
            · refine ppr_cons ?_ ?_ ?_
              · exact pd_str
              · refine PN.toD ?_
                refine pn_cat ?_ ?_
                · exact ph_var
                · refine PN.toH ?_
                  refine pn_lst ?_
                  refine pl_cons ?_ ?_
                  · refine pd_bin bin_add ?_ ?_
                    · refine PD.toH ?_
                      refine pd_bin bin_mul ?_ ?_
                      · refine PD.toH ?_
                        exact pd_int
                      · exact ph_var
                    · refine PD.toH ?_
                      exact pd_int
                  · exact pl_nil
              · refine ppr_cons ?_ ?_ ?_
                · exact pd_str
                · exact pd_int
                · exact ppr_nil
end
end Pi
namespace Pi
open PySem PySem.Spec PyProof.Rows L2 LamX
section
variable {P : Program} {w : World} {K : PySem.W.Frag} {mg : Str → Option Value} {base : Heap} {f : Addr} {cd : Value} {A : Around} {outer : List PySem.Env} {s : Shared} {H : Hp} {E : XK}
theorem b__law_draw (hb : Blt mg) (ns : NoSys K) (ok : COk (dcx P w K mg base n__law_draw "_law_draw" (defScope (top 35)) f cd A outer s H E)) (rm : Room 0 (dcx P w K mg base n__law_draw "_law_draw" (defScope (top 35)) f cd A outer s H E).A) : PBl (GK K) (dcx P w K mg base n__law_draw "_law_draw" (defScope (top 35)) f cd A outer s H E) E H (defBody (top 35)) g__law_draw := by
  have nd := nd__law_draw
  have hu : (dcx P w K mg base n__law_draw "_law_draw" (defScope (top 35)) f cd A outer s H E).A.units + 1 < cLine := by have := ok.un; omega
  refine pbl_cons ?_ ?_
  · refine pst_if ?_ ?_ ?_
    · refine pb_cmp (bin_gt ok) ?_ ?_
      · refine PD.toH ?_
        refine pd_get hu ?_ ?_
        · exact pd_var
        · exact pd_str
      · refine PD.toH ?_
        exact pd_int
    · refine pbl_cons ?_ ?_
      · refine @pst_set _ _ _ _ _ _ _ 5 "found" _ nd ?_ rfl (by first | exact Or.inl rfl | exact Or.inr rfl) ?_ (by first | exact .inl rfl | exact .inr rfl)
        · refine pd_bin bin_mod ?_ ?_
          · refine PD.toH ?_
            refine pd_bty call_int1 cal_int rfl hb.int rfl ?_
            refine plh_cons ?_ ?_
            · refine PD.toH ?_
              refine pd_get hu ?_ ?_
              · exact pd_var
              · exact pd_str
            · exact plh_nil
          · exact ph_var
        · rfl
      · refine pbl_cons ?_ ?_
        · refine pst_put hu ?_ ?_ ?_
          · exact pd_var
          · exact pd_str
          · refine pd_bin bin_fdiv ?_ ?_
            · refine PD.toH ?_
              refine pd_get hu ?_ ?_
              · exact pd_var
              · exact pd_str
            · exact ph_var
        · refine pbl_one ?_
          refine pst_ret ?_
          exact pd_var
    · exact pbl_nil
  · refine pbl_cons ?_ ?_
    · refine @pst_set _ _ _ _ _ _ _ 2 "spot" _ nd ?_ rfl (by first | exact Or.inl rfl | exact Or.inr rfl) ?_ (by first | exact .inl rfl | exact .inr rfl)
      · refine pd_get hu ?_ ?_
        · exact pd_var
        · exact pd_str
      · rfl
    · refine pbl_cons ?_ ?_
      · refine pst_put hu ?_ ?_ ?_
        · exact pd_var
        · exact pd_str
        · refine pd_bin bin_add ?_ ?_
          · exact ph_var
          · refine PD.toH ?_
            exact pd_int
      · refine pbl_cons ?_ ?_
        · refine pst_par rfl nd ?_
          refine pl_cons ?_ ?_
          · refine pd_get hu ?_ ?_
            · exact pd_var
            · exact pd_str
          · refine pl_cons ?_ ?_
            · refine pd_bin bin_add ?_ ?_
              · refine PD.toH ?_
                refine pd_get hu ?_ ?_
                · exact pd_var
                · exact pd_str
              · refine PD.toH ?_
                refine pd_bin bin_mul ?_ ?_
                · refine PD.toH ?_
                  refine pd_bin bin_mul ?_ ?_
                  · refine PD.toH ?_
                    exact pd_int
                  · exact ph_var
                · exact ph_var
            · exact pl_nil
        · refine pbl_cons ?_ ?_
          · refine @pst_set _ _ _ _ _ _ _ 3 "cell" _ nd ?_ rfl (by first | exact Or.inl rfl | exact Or.inr rfl) ?_ (by first | exact .inl rfl | exact .inr rfl)
            · refine pd_ix ?_ ?_
              · exact ph_var
              · refine PD.toH ?_
                refine pd_bin bin_mod ?_ ?_
                · refine PD.toH ?_
                  refine pd_bty call_int1 cal_int rfl hb.int rfl ?_
                  refine plh_cons ?_ ?_
                  · exact ph_var
                  · exact plh_nil
                · refine PD.toH ?_
                  refine pd_blt call_lenX cal_len rfl hb.len rfl ?_
                  refine plh_cons ?_ ?_
                  · exact ph_var
                  · exact plh_nil
            · rfl
          · refine pbl_cons ?_ ?_
            · refine @pst_set _ _ _ _ _ _ _ 4 "blend" _ nd ?_ rfl (by first | exact Or.inl rfl | exact Or.inr rfl) ?_ (by first | exact .inl rfl | exact .inr rfl)
              · refine pd_bin bin_mod ?_ ?_
                · refine PD.toH ?_
                  refine pd_bty call_int1 cal_int rfl hb.int rfl ?_
                  refine plh_cons ?_ ?_
                  · refine PD.toH ?_
                    refine pd_bin bin_add ?_ ?_
                    · refine PD.toH ?_
                      refine pd_bin bin_mul ?_ ?_
                      · exact ph_var
                      · refine PD.toH ?_
                        refine pd_bin bin_add ?_ ?_
                        · refine PD.toH ?_
                          refine pd_bin bin_mul ?_ ?_
                          · refine PD.toH ?_
                            exact pd_int
                          · exact ph_var
                        · refine PD.toH ?_
                          exact pd_int
                    · exact ph_var
                  · exact plh_nil
                · refine PD.toH ?_
                  exact pd_int
              · rfl
            · refine pbl_cons ?_ ?_
              · refine @pst_set _ _ _ _ _ _ _ 4 "blend" _ nd ?_ rfl (by first | exact Or.inl rfl | exact Or.inr rfl) ?_ (by first | exact .inl rfl | exact .inr rfl)
                · refine pd_bin bin_mod ?_ ?_
                  · refine PD.toH ?_
                    refine pd_bty call_int1 cal_int rfl hb.int rfl ?_
                    refine plh_cons ?_ ?_
                    · refine PD.toH ?_
                      refine pd_bin bin_add ?_ ?_
                      · refine PD.toH ?_
                        refine pd_bin bin_add ?_ ?_
                        · refine PD.toH ?_
                          refine pd_bin bin_mul ?_ ?_
                          · exact ph_var
                          · exact ph_var
                        · refine PD.toH ?_
                          refine pd_bin bin_mul ?_ ?_
                          · refine PD.toH ?_
                            exact pd_int
                          · exact ph_var
                      · refine PD.toH ?_
                        refine pd_get hu ?_ ?_
                        · exact pd_var
                        · exact pd_str
                    · exact plh_nil
                  · refine PD.toH ?_
                    exact pd_int
                · rfl
              · refine pbl_one ?_
                refine pst_ret ?_
                refine pd_bin bin_mod ?_ ?_
                · refine PD.toH ?_
                  refine pd_bin bin_fdiv ?_ ?_
                  · refine PD.toH ?_
                    refine pd_bin bin_mod ?_ ?_
                    · refine PD.toH ?_
                      refine pd_bty call_int1 cal_int rfl hb.int rfl ?_
                      refine plh_cons ?_ ?_
                      · refine PD.toH ?_
                        refine pd_bin bin_add ?_ ?_
                        · refine PD.toH ?_
                          refine pd_bin bin_mul ?_ ?_
                          · exact ph_var
                          · refine PD.toH ?_
                            exact pd_int
                        · exact ph_var
                      · exact plh_nil
                    · refine PD.toH ?_
                      exact pd_int
                  · refine PD.toH ?_
                    exact pd_int
                · exact ph_var
end
end Pi
namespace Pi
open PySem PySem.Spec PyProof.Rows L2 LamX
section
variable {P : Program} {w : World} {K : PySem.W.Frag} {mg : Str → Option Value} {base : Heap} {f : Addr} {cd : Value} {A : Around} {outer : List PySem.Env} {s : Shared} {H : Hp} {E : XK}
theorem b__law_of (hb : Blt mg) (ns : NoSys K) (ok : COk (dcx P w K mg base n__law_of "_law_of" (defScope (top 36)) f cd A outer s H E)) (rm : Room 1 (dcx P w K mg base n__law_of "_law_of" (defScope (top 36)) f cd A outer s H E).A) (f__law_draw : FK (GK K) P w K mg base "_law_draw" 2 m__law_draw 1) : PBl (GK K) (dcx P w K mg base n__law_of "_law_of" (defScope (top 36)) f cd A outer s H E) E H (defBody (top 36)) g__law_of := by
  have nd := nd__law_of
  have hu : (dcx P w K mg base n__law_of "_law_of" (defScope (top 36)) f cd A outer s H E).A.units + 1 < cLine := by have := ok.un; omega
  refine pbl_one ?_
  refine pst_ret ?_
  refine pd_ix ?_ ?_
  · exact ph_var
  · refine PD.toH ?_
    refine pd_call (n := 2) (f__law_draw.kn (rm.mono (by decide))) ok.gd (takes_of rfl rfl rfl rfl) rfl ((acons_len (acons_len anil_len))) ?_
    refine pl_cons ?_ ?_
    · exact pd_var
    · refine pl_cons ?_ ?_
      · refine pd_blt call_lenX cal_len rfl hb.len rfl ?_
        refine plh_cons ?_ ?_
        · exact ph_var
        · exact plh_nil
      · exact pl_nil
end
end Pi
namespace Pi
open PySem PySem.Spec PyProof.Rows L2 LamX
section
variable {P : Program} {w : World} {K : PySem.W.Frag} {mg : Str → Option Value} {base : Heap} {f : Addr} {cd : Value} {A : Around} {outer : List PySem.Env} {s : Shared} {H : Hp} {E : XK}
theorem b__law_size (hb : Blt mg) (ns : NoSys K) (ok : COk (dcx P w K mg base n__law_size "_law_size" (defScope (top 38)) f cd A outer s H E)) (rm : Room 0 (dcx P w K mg base n__law_size "_law_size" (defScope (top 38)) f cd A outer s H E).A) : PBl (GK K) (dcx P w K mg base n__law_size "_law_size" (defScope (top 38)) f cd A outer s H E) E H (defBody (top 38)) g__law_size := by
  have nd := nd__law_size
  have hu : (dcx P w K mg base n__law_size "_law_size" (defScope (top 38)) f cd A outer s H E).A.units + 1 < cLine := by have := ok.un; omega
  refine pbl_cons ?_ ?_
  · refine @pst_set _ _ _ _ _ _ _ 1 "found" _ nd ?_ rfl (by first | exact Or.inl rfl | exact Or.inr rfl) ?_ (by first | exact .inl rfl | exact .inr rfl)
    · exact pd_int
    · rfl
  · refine pbl_cons ?_ ?_
    · refine pst_for (passes_of rfl) rfl ?_ (pg_name nd rfl (by first | exact Or.inl rfl | exact Or.inr rfl)) tgok_name ?_
      · refine pit_range1 hb.range ?_
        refine pl_cons ?_ ?_
        · refine pd_ix ?_ ?_
          · exact ph_var
          · refine PD.toH ?_
            exact pd_int
        · exact pl_nil
      · refine pbl_one ?_
        refine @pst_set _ _ _ _ _ _ _ 1 "found" _ nd ?_ rfl (by first | exact Or.inl rfl | exact Or.inr rfl) ?_ (by first | exact .inl rfl | exact .inr rfl)
        · refine pd_bin bin_mul ?_ ?_
          · exact ph_var
          · refine PD.toH ?_
            refine pd_ix ?_ ?_
            · exact ph_var
            · refine PD.toH ?_
              exact pd_int
        · rfl
    · refine pbl_one ?_
      refine pst_ret ?_
      exact pd_var
end
end Pi
namespace Pi
open PySem PySem.Spec PyProof.Rows L2 LamX
section
variable {P : Program} {w : World} {K : PySem.W.Frag} {mg : Str → Option Value} {base : Heap} {f : Addr} {cd : Value} {A : Around} {outer : List PySem.Env} {s : Shared} {H : Hp} {E : XK}
theorem b__law_frame (hb : Blt mg) (ns : NoSys K) (ok : COk (dcx P w K mg base n__law_frame "_law_frame" (defScope (top 37)) f cd A outer s H E)) (rm : Room 2 (dcx P w K mg base n__law_frame "_law_frame" (defScope (top 37)) f cd A outer s H E).A) (f__law_of : FK (GK K) P w K mg base "_law_of" 2 m__law_of 2) (f__law_size : FK (GK K) P w K mg base "_law_size" 1 m__law_size 1) : PBl (GK K) (dcx P w K mg base n__law_frame "_law_frame" (defScope (top 37)) f cd A outer s H E) E H (defBody (top 37)) g__law_frame := by
  have nd := nd__law_frame
  have hu : (dcx P w K mg base n__law_frame "_law_frame" (defScope (top 37)) f cd A outer s H E).A.units + 1 < cLine := by have := ok.un; omega
  refine pbl_cons ?_ ?_
  · refine @pst_set _ _ _ _ _ _ _ 2 "some" _ nd ?_ rfl (by first | exact Or.inl rfl | exact Or.inr rfl) ?_ (by first | exact .inl rfl | exact .inr rfl)
    · refine @pd_cst _ _ _ _ _ _ ?_
      kernel_rfl
    · rfl
  · refine pbl_one ?_
    refine pst_ret ?_
    refine pd_call (n := 2) (f__law_of.kn (rm.mono (by decide))) ok.gd (takes_of rfl rfl rfl rfl) rfl ((acons_len (acons_len anil_len))) ?_
    refine pl_cons ?_ ?_
    · exact pd_var
    · refine pl_cons ?_ ?_
      · refine PN.toD ?_
        refine pn_lc [("pair", 3)] rfl nd ?_ (blkOk_by rfl) tgok_name (fun s0 H1 C cl fp => (pg_name nd rfl (.inl rfl))) (fun s0 H1 C cl fp => ?_) (fun s0 H1 C cl fp => ?_)
        · refine pit_dat ?_
          exact pd_var
        · refine pbs_one ?_
          refine pb_cmp (bin_le (okb ok)) ?_ ?_
          · refine PD.toH ?_
            refine pd_call (n := 1) (f__law_size.kn (rm.mono (by decide))) (okb ok).gd L2.takes0 rfl ((acons_len anil_len)) ?_
            refine pl_cons ?_ ?_
            · exact pd_var
            · exact pl_nil
          · exact ph_var
        · exact pd_var
      · exact pl_nil
end
end Pi
namespace Pi
open PySem PySem.Spec PyProof.Rows L2 LamX
section
variable {P : Program} {w : World} {K : PySem.W.Frag} {mg : Str → Option Value} {base : Heap} {f : Addr} {cd : Value} {A : Around} {outer : List PySem.Env} {s : Shared} {H : Hp} {E : XK}
theorem b__law_spots (hb : Blt mg) (ns : NoSys K) (ok : COk (dcx P w K mg base n__law_spots "_law_spots" (defScope (top 39)) f cd A outer s H E)) (rm : Room 0 (dcx P w K mg base n__law_spots "_law_spots" (defScope (top 39)) f cd A outer s H E).A) : PBl (GK K) (dcx P w K mg base n__law_spots "_law_spots" (defScope (top 39)) f cd A outer s H E) E H (defBody (top 39)) g__law_spots := by
  have nd := nd__law_spots
  have hu : (dcx P w K mg base n__law_spots "_law_spots" (defScope (top 39)) f cd A outer s H E).A.units + 1 < cLine := by have := ok.un; omega
  refine pbl_cons ?_ ?_
  · refine @pst_set _ _ _ _ _ _ _ 1 "rows" _ nd ?_ rfl (by first | exact Or.inl rfl | exact Or.inr rfl) ?_ (by first | exact .inl rfl | exact .inr rfl)
    · refine @pd_cst _ _ _ _ _ _ ?_
      kernel_rfl
    · rfl
  · refine pbl_cons ?_ ?_
    · refine pst_for (passes_of rfl) rfl ?_ (pg_name nd rfl (by first | exact Or.inl rfl | exact Or.inr rfl)) tgok_name ?_
      · refine pit_range1 hb.range ?_
        refine pl_cons ?_ ?_
        · refine pd_ix ?_ ?_
          · exact ph_var
          · refine PD.toH ?_
            exact pd_int
        · exact pl_nil
      · refine pbl_cons ?_ ?_
        · refine @pst_set _ _ _ _ _ _ _ 3 "longer" _ nd ?_ rfl (by first | exact Or.inl rfl | exact Or.inr rfl) ?_ (by first | exact .inl rfl | exact .inr rfl)
          · refine @pd_cst _ _ _ _ _ _ ?_
            kernel_rfl
          · rfl
        · refine pbl_cons ?_ ?_
          · refine pst_for (passes_of rfl) rfl ?_ (pg_name nd rfl (by first | exact Or.inl rfl | exact Or.inr rfl)) tgok_name ?_
            · refine pit_dat ?_
              exact pd_var
            · refine pbl_one ?_
              refine @pst_set _ _ _ _ _ _ _ 3 "longer" _ nd ?_ rfl (by first | exact Or.inl rfl | exact Or.inr rfl) ?_ (by first | exact .inl rfl | exact .inr rfl)
              · refine PN.toD ?_
                refine pn_cat ?_ ?_
                · exact ph_var
                · refine PN.toH ?_
                  refine pn_lc [("rest", 5)] rfl nd ?_ (blkOk_by rfl) tgok_name (fun s0 H1 C cl fp => (pg_name nd rfl (.inl rfl))) (fun s0 H1 C cl fp => ?_) (fun s0 H1 C cl fp => ?_)
                  · refine pit_range1 hb.range ?_
                    refine pl_cons ?_ ?_
                    · refine pd_ix ?_ ?_
                      · exact ph_var
                      · refine PD.toH ?_
                        exact pd_int
                    · exact pl_nil
                  · exact pbs_nil
                  · refine pd_bin bin_add ?_ ?_
                    · exact ph_var
                    · refine PD.toH ?_
                      refine pd_tup ?_
                      refine pl_cons ?_ ?_
                      · exact pd_var
                      · exact pl_nil
              · rfl
          · refine pbl_one ?_
            refine @pst_set _ _ _ _ _ _ _ 1 "rows" _ nd ?_ rfl (by first | exact Or.inl rfl | exact Or.inr rfl) ?_ (by first | exact .inl rfl | exact .inr rfl)
            · exact pd_var
            · rfl
    · refine pbl_one ?_
      refine pst_ret ?_
      exact pd_var
end
end Pi
namespace Pi
open PySem PySem.Spec PyProof.Rows L2 LamX
section
variable {P : Program} {w : World} {K : PySem.W.Frag} {mg : Str → Option Value} {base : Heap} {f : Addr} {cd : Value} {A : Around} {outer : List PySem.Env} {s : Shared} {H : Hp} {E : XK}
theorem b__law_sheet (hb : Blt mg) (ns : NoSys K) (ok : COk (dcx P w K mg base n__law_sheet "_law_sheet" (defScope (top 40)) f cd A outer s H E)) (rm : Room 1 (dcx P w K mg base n__law_sheet "_law_sheet" (defScope (top 40)) f cd A outer s H E).A) (f__law_draw : FK (GK K) P w K mg base "_law_draw" 2 m__law_draw 1) : PBl (GK K) (dcx P w K mg base n__law_sheet "_law_sheet" (defScope (top 40)) f cd A outer s H E) E H (defBody (top 40)) g__law_sheet := by
  have nd := nd__law_sheet
  have hu : (dcx P w K mg base n__law_sheet "_law_sheet" (defScope (top 40)) f cd A outer s H E).A.units + 1 < cLine := by have := ok.un; omega
  refine pbl_cons ?_ ?_
  · exact pst_dct (i := 4) nd
  · refine pbl_cons ?_ ?_
    · refine pst_for (passes_of rfl) rfl ?_ (pg_name nd rfl (by first | exact Or.inl rfl | exact Or.inr rfl)) tgok_name ?_
      · refine pit_range1 hb.range ?_
        refine pl_cons ?_ ?_
        · refine pd_call (n := 2) (f__law_draw.kn (rm.mono (by decide))) ok.gd (takes_of rfl rfl rfl rfl) rfl ((acons_len (acons_len anil_len))) ?_
          refine pl_cons ?_ ?_
          · exact pd_var
          · refine pl_cons ?_ ?_
            · refine pd_bin bin_add ?_ ?_
              · exact ph_var
              · refine PD.toH ?_
                exact pd_int
            · exact pl_nil
        · exact pl_nil
      · refine pbl_cons ?_ ?_
        · refine @pst_set _ _ _ _ _ _ _ 6 "key" _ nd ?_ rfl (by first | exact Or.inl rfl | exact Or.inr rfl) ?_ (by first | exact .inl rfl | exact .inr rfl)
          · refine pd_bty call_tuple_of cal_tuple rfl hb.tuple rfl ?_
            refine plh_cons ?_ ?_
            · refine PN.toH ?_
              refine pn_lc [("turn_so", 7)] rfl nd ?_ (blkOk_by rfl) tgok_name (fun s0 H1 C cl fp => (pg_name nd rfl (.inl rfl))) (fun s0 H1 C cl fp => ?_) (fun s0 H1 C cl fp => ?_)
              · refine pit_range1 hb.range ?_
                refine pl_cons ?_ ?_
                · refine pd_ix ?_ ?_
                  · exact ph_var
                  · refine PD.toH ?_
                    exact pd_int
                · exact pl_nil
              · exact pbs_nil
              · refine pd_if ?_ ?_ ?_
                · refine pb_cmp (bin_gt (okb ok)) ?_ ?_
                  · refine PD.toH ?_
                    refine pd_call (n := 2) (f__law_draw.kn (rm.mono (by decide))) (okb ok).gd L2.takes0 rfl ((acons_len (acons_len anil_len))) ?_
                    refine pl_cons ?_ ?_
                    · exact pd_var
                    · refine pl_cons ?_ ?_
                      · exact pd_int
                      · exact pl_nil
                  · refine PD.toH ?_
                    exact pd_int
                · refine pd_call (n := 2) (f__law_draw.kn (rm.mono (by decide))) (okb ok).gd L2.takes0 rfl ((acons_len (acons_len anil_len))) ?_
                  refine pl_cons ?_ ?_
                  · exact pd_var
                  · refine pl_cons ?_ ?_
                    · refine pd_bin bin_add ?_ ?_
                      · exact ph_var
                      · refine PD.toH ?_
                        exact pd_int
                    · exact pl_nil
                · exact pd_int
            · exact plh_nil
          · rfl
        · refine pbl_one ?_
          refine pst_putT (i := 4) hu ?_ ?_
          · exact pd_var
          · refine pd_bin bin_add ?_ ?_
            · refine PD.toH ?_
              exact pd_int
            · refine PD.toH ?_
              refine pd_call (n := 2) (f__law_draw.kn (rm.mono (by decide))) ok.gd (takes_of rfl rfl rfl rfl) rfl ((acons_len (acons_len anil_len))) ?_
              refine pl_cons ?_ ?_
              · exact pd_var
              · refine pl_cons ?_ ?_
                · refine pd_bin bin_sub ?_ ?_
                  · refine PD.toH ?_
                    refine pd_ix ?_ ?_
                    · exact ph_var
                    · refine PD.toH ?_
                      exact pd_int
                  · refine PD.toH ?_
                    exact pd_int
                · exact pl_nil
    · refine pbl_one ?_
      refine pst_ret ?_
      refine pd_bty call_tuple_of cal_tuple rfl hb.tuple rfl ?_
      refine plh_cons ?_ ?_
      · refine PN.toH ?_
        refine pn_lc [("key", 6)] rfl nd ?_ (blkOk_by rfl) tgok_name (fun s0 H1 C cl fp => (pg_name nd rfl (.inl rfl))) (fun s0 H1 C cl fp => ?_) (fun s0 H1 C cl fp => ?_)
        · refine pit_dat ?_
          refine PN.toD ?_
          exact pn_sortT rfl rfl hb.sorted
        · exact pbs_nil
        · refine pd_tup ?_
          refine pl_cons ?_ ?_
          · exact pd_var
          · refine pl_cons ?_ ?_
            · refine pd_getT hu ?_
              exact pd_var
            · exact pl_nil
      · exact plh_nil
end
end Pi
namespace Pi
open PySem PySem.Spec PyProof.Rows L2 LamX
section
variable {P : Program} {w : World} {K : PySem.W.Frag} {mg : Str → Option Value} {base : Heap} {f : Addr} {cd : Value} {A : Around} {outer : List PySem.Env} {s : Shared} {H : Hp} {E : XK}
theorem b__law_high (hb : Blt mg) (ns : NoSys K) (ok : COk (dcx P w K mg base n__law_high "_law_high" (defScope (top 41)) f cd A outer s H E)) (rm : Room 0 (dcx P w K mg base n__law_high "_law_high" (defScope (top 41)) f cd A outer s H E).A) : PBl (GK K) (dcx P w K mg base n__law_high "_law_high" (defScope (top 41)) f cd A outer s H E) E H (defBody (top 41)) g__law_high := by
  have nd := nd__law_high
  have hu : (dcx P w K mg base n__law_high "_law_high" (defScope (top 41)) f cd A outer s H E).A.units + 1 < cLine := by have := ok.un; omega
  refine pbl_one ?_
  refine pst_ret ?_
  refine pd_blt (cr_max rfl) cal_maxL rfl hb.max rfl ?_
  refine plh_cons ?_ ?_
  · refine PN.toH ?_
    refine pn_cat ?_ ?_
    · refine PN.toH ?_
      refine pn_lc [("key", 1), ("rest", 2)] rfl nd ?_ (blkOk_by rfl) tgok_tup (fun s0 H1 C cl fp => (pg_tupN rfl (pgs_cons (pg_name nd rfl (.inl rfl)) (pgs_cons (pg_name nd rfl (.inl rfl)) pgs_nil)))) (fun s0 H1 C cl fp => ?_) (fun s0 H1 C cl fp => ?_)
      · refine pit_dat ?_
        exact pd_var
      · exact pbs_nil
      · refine pd_blt (cr_sumX rfl) cal_sumX rfl hb.sum rfl ?_
        refine plh_cons ?_ ?_
        · exact ph_var
        · exact plh_nil
    · refine PN.toH ?_
      refine pn_lst ?_
      refine pl_cons ?_ ?_
      · refine pd_neg ?_
        refine PD.toH ?_
        exact pd_int
      · exact pl_nil
  · exact plh_nil
end
end Pi
namespace Pi
open PySem PySem.Spec PyProof.Rows L2 LamX
section
variable {P : Program} {w : World} {K : PySem.W.Frag} {mg : Str → Option Value} {base : Heap} {f : Addr} {cd : Value} {A : Around} {outer : List PySem.Env} {s : Shared} {H : Hp} {E : XK}
theorem b__law_raised (hb : Blt mg) (ns : NoSys K) (ok : COk (dcx P w K mg base n__law_raised "_law_raised" (defScope (top 42)) f cd A outer s H E)) (rm : Room 0 (dcx P w K mg base n__law_raised "_law_raised" (defScope (top 42)) f cd A outer s H E).A) : PBl (GK K) (dcx P w K mg base n__law_raised "_law_raised" (defScope (top 42)) f cd A outer s H E) E H (defBody (top 42)) g__law_raised := by
  have nd := nd__law_raised
  have hu : (dcx P w K mg base n__law_raised "_law_raised" (defScope (top 42)) f cd A outer s H E).A.units + 1 < cLine := by have := ok.un; omega
  refine pbl_cons ?_ ?_
  · refine @pst_set _ _ _ _ _ _ _ 3 "found" _ nd ?_ rfl (by first | exact Or.inl rfl | exact Or.inr rfl) ?_ (by first | exact .inl rfl | exact .inr rfl)
    · exact pd_int
    · rfl
  · refine pbl_cons ?_ ?_
    · refine pst_for (passes_of rfl) rfl ?_ (pg_name nd rfl (by first | exact Or.inl rfl | exact Or.inr rfl)) tgok_name ?_
      · refine pit_range1 hb.range ?_
        refine pl_cons ?_ ?_
        · exact pd_var
        · exact pl_nil
      · refine pbl_one ?_
        refine @pst_set _ _ _ _ _ _ _ 3 "found" _ nd ?_ rfl (by first | exact Or.inl rfl | exact Or.inr rfl) ?_ (by first | exact .inl rfl | exact .inr rfl)
        · refine pd_bin bin_mod ?_ ?_
          · refine PD.toH ?_
            refine pd_bty call_int1 cal_int rfl hb.int rfl ?_
            refine plh_cons ?_ ?_
            · refine PD.toH ?_
              refine pd_bin bin_mul ?_ ?_
              · exact ph_var
              · exact ph_var
            · exact plh_nil
          · exact ph_var
        · rfl
    · refine pbl_one ?_
      refine pst_ret ?_
      exact pd_var
end
end Pi
namespace Pi
open PySem PySem.Spec PyProof.Rows L2 LamX
section
variable {P : Program} {w : World} {K : PySem.W.Frag} {mg : Str → Option Value} {base : Heap} {f : Addr} {cd : Value} {A : Around} {outer : List PySem.Env} {s : Shared} {H : Hp} {E : XK}
theorem b__law_worth (hb : Blt mg) (ns : NoSys K) (ok : COk (dcx P w K mg base n__law_worth "_law_worth" (defScope (top 43)) f cd A outer s H E)) (rm : Room 1 (dcx P w K mg base n__law_worth "_law_worth" (defScope (top 43)) f cd A outer s H E).A) (f__law_raised : FK (GK K) P w K mg base "_law_raised" 3 m__law_raised 1) : PBl (GK K) (dcx P w K mg base n__law_worth "_law_worth" (defScope (top 43)) f cd A outer s H E) E H (defBody (top 43)) g__law_worth := by
  have nd := nd__law_worth
  have hu : (dcx P w K mg base n__law_worth "_law_worth" (defScope (top 43)) f cd A outer s H E).A.units + 1 < cLine := by have := ok.un; omega
  refine pbl_cons ?_ ?_
  · refine @pst_set _ _ _ _ _ _ _ 3 "total" _ nd ?_ rfl (by first | exact Or.inl rfl | exact Or.inr rfl) ?_ (by first | exact .inl rfl | exact .inr rfl)
    · exact pd_int
    · rfl
  · refine pbl_cons ?_ ?_
    · refine pst_for (passes_of rfl) rfl ?_ (pg_tupN rfl (pgs_cons (pg_name nd rfl (by first | exact Or.inl rfl | exact Or.inr rfl)) (pgs_cons (pg_name nd rfl (by first | exact Or.inl rfl | exact Or.inr rfl)) pgs_nil))) tgok_tup ?_
      · refine pit_dat ?_
        exact pd_var
      · refine pbl_cons ?_ ?_
        · refine @pst_set _ _ _ _ _ _ _ 6 "part" _ nd ?_ rfl (by first | exact Or.inl rfl | exact Or.inr rfl) ?_ (by first | exact .inl rfl | exact .inr rfl)
          · exact pd_var
          · rfl
        · refine pbl_cons ?_ ?_
          · refine pst_for (passes_of rfl) rfl ?_ (pg_tupN rfl (pgs_cons (pg_name nd rfl (by first | exact Or.inl rfl | exact Or.inr rfl)) (pgs_cons (pg_name nd rfl (by first | exact Or.inl rfl | exact Or.inr rfl)) pgs_nil))) tgok_tup ?_
            · refine pit_zip rfl hb.zip ?_
              refine pl_cons ?_ ?_
              · exact pd_var
              · refine pl_cons ?_ ?_
                · exact pd_var
                · exact pl_nil
            · refine pbl_one ?_
              refine @pst_set _ _ _ _ _ _ _ 6 "part" _ nd ?_ rfl (by first | exact Or.inl rfl | exact Or.inr rfl) ?_ (by first | exact .inl rfl | exact .inr rfl)
              · refine pd_bin bin_mod ?_ ?_
                · refine PD.toH ?_
                  refine pd_bty call_int1 cal_int rfl hb.int rfl ?_
                  refine plh_cons ?_ ?_
                  · refine PD.toH ?_
                    refine pd_bin bin_mul ?_ ?_
                    · exact ph_var
                    · refine PD.toH ?_
                      refine pd_call (n := 3) (f__law_raised.kn (rm.mono (by decide))) ok.gd (takes_of rfl rfl rfl rfl) rfl ((acons_len (acons_len (acons_len anil_len)))) ?_
                      refine pl_cons ?_ ?_
                      · exact pd_var
                      · refine pl_cons ?_ ?_
                        · exact pd_var
                        · refine pl_cons ?_ ?_
                          · refine pd_ix ?_ ?_
                            · exact ph_var
                            · refine PD.toH ?_
                              exact pd_int
                          · exact pl_nil
                  · exact plh_nil
                · refine PD.toH ?_
                  refine pd_ix ?_ ?_
                  · exact ph_var
                  · refine PD.toH ?_
                    exact pd_int
              · rfl
          · refine pbl_one ?_
            refine @pst_set _ _ _ _ _ _ _ 3 "total" _ nd ?_ rfl (by first | exact Or.inl rfl | exact Or.inr rfl) ?_ (by first | exact .inl rfl | exact .inr rfl)
            · refine pd_bin bin_mod ?_ ?_
              · refine PD.toH ?_
                refine pd_bty call_int1 cal_int rfl hb.int rfl ?_
                refine plh_cons ?_ ?_
                · refine PD.toH ?_
                  refine pd_bin bin_add ?_ ?_
                  · exact ph_var
                  · exact ph_var
                · exact plh_nil
              · refine PD.toH ?_
                refine pd_ix ?_ ?_
                · exact ph_var
                · refine PD.toH ?_
                  exact pd_int
            · rfl
    · refine pbl_one ?_
      refine pst_ret ?_
      exact pd_var
end
end Pi
namespace Pi
open PySem PySem.Spec PyProof.Rows L2 LamX
section
variable {P : Program} {w : World} {K : PySem.W.Frag} {mg : Str → Option Value} {base : Heap} {f : Addr} {cd : Value} {A : Around} {outer : List PySem.Env} {s : Shared} {H : Hp} {E : XK}
theorem b__law_sheet_right (hb : Blt mg) (ns : NoSys K) (ok : COk (dcx P w K mg base n__law_sheet_right "_law_sheet_right" (defScope (top 44)) f cd A outer s H E)) (rm : Room 7 (dcx P w K mg base n__law_sheet_right "_law_sheet_right" (defScope (top 44)) f cd A outer s H E).A) (f__law_draw : FK (GK K) P w K mg base "_law_draw" 2 m__law_draw 1) (f__law_high : FK (GK K) P w K mg base "_law_high" 1 m__law_high 1) (f__law_spots : FK (GK K) P w K mg base "_law_spots" 1 m__law_spots 1) (f__law_worth : FK (GK K) P w K mg base "_law_worth" 3 m__law_worth 2) (f_degree : FK (GK K) P w K mg base "degree" 2 m_degree 7) (f_value_at : FK (GK K) P w K mg base "value_at" 3 m_value_at 7) (f_values : FK (GK K) P w K mg base "values" 2 m_values 7) : PBl (GK K) (dcx P w K mg base n__law_sheet_right "_law_sheet_right" (defScope (top 44)) f cd A outer s H E) E H (defBody (top 44)) g__law_sheet_right := by
  have nd := nd__law_sheet_right
  have hu : (dcx P w K mg base n__law_sheet_right "_law_sheet_right" (defScope (top 44)) f cd A outer s H E).A.units + 1 < cLine := by have := ok.un; omega
  refine pbl_cons ?_ ?_
  · refine pst_par rfl nd ?_
    refine pl_cons ?_ ?_
    · refine pd_call (n := 1) (f__law_spots.kn (rm.mono (by decide))) ok.gd (takes_of rfl rfl rfl rfl) rfl ((acons_len anil_len)) ?_
      refine pl_cons ?_ ?_
      · exact pd_var
      · exact pl_nil
    · refine pl_cons ?_ ?_
      · refine pd_blt (call_repr ok ns) cal_repr rfl hb.repr rfl ?_
        refine plh_cons ?_ ?_
        · refine PN.toH ?_
          refine pn_lst ?_
          refine pl_cons ?_ ?_
          · exact pd_var
          · refine pl_cons ?_ ?_
            · exact pd_var
            · exact pl_nil
        · exact plh_nil
      · exact pl_nil
  · refine pbl_cons ?_ ?_
    · refine pst_setLc [("spot", 8)] rfl nd ?_ (blkOk_by rfl) tgok_name (fun s0 H1 C cl fp => (pg_name nd rfl (.inl rfl))) (fun s0 H1 C cl fp => ?_) (fun s0 H1 C cl fp => ?_)
      · refine pit_dat ?_
        exact pd_var
      · exact pbs_nil
      · refine pd_call (n := 3) (f__law_worth.kn (rm.mono (by decide))) (okb ok).gd L2.takes0 rfl ((acons_len (acons_len (acons_len anil_len)))) ?_
        refine pl_cons ?_ ?_
        · exact pd_var
        · refine pl_cons ?_ ?_
          · exact pd_var
          · refine pl_cons ?_ ?_
            · exact pd_var
            · exact pl_nil
    · refine pbl_cons ?_ ?_
      · refine pst_for (passes_of rfl) rfl ?_ (pg_name nd rfl (by first | exact Or.inl rfl | exact Or.inr rfl)) tgok_name ?_
        · refine pit_range1 hb.range ?_
          refine pl_cons ?_ ?_
          · exact pd_int
          · exact pl_nil
        · refine pbl_one ?_
          refine pst_if ?_ ?_ ?_
          · refine PBW.pb ?_
            refine pb_or ?_ ?_
            · refine pb_cmp (bin_neX ok ns) ?_ ?_
              · refine PD.toH ?_
                refine pd_blt (call_repr ok ns) cal_repr rfl hb.repr rfl ?_
                refine plh_cons ?_ ?_
                · refine PD.toH ?_
                  refine pd_call (n := 2) (f_values.kn (rm.mono (by decide))) ok.gd (takes_of rfl rfl rfl rfl) rfl ((acons_len (acons_len anil_len))) ?_
                  refine pl_cons ?_ ?_
                  · exact pd_var
                  · refine pl_cons ?_ ?_
                    · exact pd_var
                    · exact pl_nil
                · exact plh_nil
              · refine PD.toH ?_
                refine pd_blt (call_repr ok ns) cal_repr rfl hb.repr rfl ?_
                refine plh_cons ?_ ?_
                · refine PD.toH ?_
                  refine pd_bty call_tuple_of cal_tuple rfl hb.tuple rfl ?_
                  refine plh_cons ?_ ?_
                  · exact ph_var
                  · exact plh_nil
                · exact plh_nil
            · refine pb_or1 ?_
              refine pb_cmp (bin_neX ok ns) ?_ ?_
              · refine PD.toH ?_
                refine pd_blt (call_repr ok ns) cal_repr rfl hb.repr rfl ?_
                refine plh_cons ?_ ?_
                · refine PD.toH ?_
                  refine pd_call (n := 2) (f_degree.kn (rm.mono (by decide))) ok.gd (takes_of rfl rfl rfl rfl) rfl ((acons_len (acons_len anil_len))) ?_
                  refine pl_cons ?_ ?_
                  · exact pd_var
                  · refine pl_cons ?_ ?_
                    · exact pd_var
                    · exact pl_nil
                · exact plh_nil
              · refine PD.toH ?_
                refine pd_blt (call_repr ok ns) cal_repr rfl hb.repr rfl ?_
                refine plh_cons ?_ ?_
                · refine PD.toH ?_
                  refine pd_call (n := 1) (f__law_high.kn (rm.mono (by decide))) ok.gd (takes_of rfl rfl rfl rfl) rfl ((acons_len anil_len)) ?_
                  refine pl_cons ?_ ?_
                  · exact pd_var
                  · exact pl_nil
                · exact plh_nil
          · refine pbl_one ?_
            refine pst_ret ?_
            exact pd_bl
          · exact pbl_nil
      · refine pbl_cons ?_ ?_
        · refine pst_for (passes_of rfl) rfl ?_ (pg_name nd rfl (by first | exact Or.inl rfl | exact Or.inr rfl)) tgok_name ?_
          · refine pit_range1 hb.range ?_
            refine pl_cons ?_ ?_
            · exact pd_int
            · exact pl_nil
          · refine pbl_cons ?_ ?_
            · refine @pst_set _ _ _ _ _ _ _ 7 "at" _ nd ?_ rfl (by first | exact Or.inl rfl | exact Or.inr rfl) ?_ (by first | exact .inl rfl | exact .inr rfl)
              · refine pd_ix ?_ ?_
                · refine PN.toH ?_
                  refine pn_lst ?_
                  refine pl_cons ?_ ?_
                  · exact pd_int
                  · refine pl_cons ?_ ?_
                    · refine pd_bin bin_sub ?_ ?_
                      · refine PD.toH ?_
                        refine pd_blt call_lenX cal_len rfl hb.len rfl ?_
                        refine plh_cons ?_ ?_
                        · exact ph_var
                        · exact plh_nil
                      · refine PD.toH ?_
                        exact pd_int
                    · refine pl_cons ?_ ?_
                      · refine pd_call (n := 2) (f__law_draw.kn (rm.mono (by decide))) ok.gd (takes_of rfl rfl rfl rfl) rfl ((acons_len (acons_len anil_len))) ?_
                        refine pl_cons ?_ ?_
                        · exact pd_var
                        · refine pl_cons ?_ ?_
                          · refine pd_blt call_lenX cal_len rfl hb.len rfl ?_
                            refine plh_cons ?_ ?_
                            · exact ph_var
                            · exact plh_nil
                          · exact pl_nil
                      · exact pl_nil
                · refine PD.toH ?_
                  refine pd_bin bin_mod ?_ ?_
                  · exact ph_var
                  · refine PD.toH ?_
                    exact pd_int
              · rfl
            · refine pbl_one ?_
              refine pst_if ?_ ?_ ?_
              · refine pb_cmp (bin_neX ok ns) ?_ ?_
                · refine PD.toH ?_
                  refine pd_blt (call_repr ok ns) cal_repr rfl hb.repr rfl ?_
                  refine plh_cons ?_ ?_
                  · refine PD.toH ?_
                    refine pd_call (n := 3) (f_value_at.kn (rm.mono (by decide))) ok.gd (takes_of rfl rfl rfl rfl) rfl ((acons_len (acons_len (acons_len anil_len)))) ?_
                    refine pl_cons ?_ ?_
                    · exact pd_var
                    · refine pl_cons ?_ ?_
                      · exact pd_var
                      · refine pl_cons ?_ ?_
                        · refine pd_ix ?_ ?_
                          · exact ph_var
                          · exact ph_var
                        · exact pl_nil
                  · exact plh_nil
                · refine PD.toH ?_
                  refine pd_blt (call_repr ok ns) cal_repr rfl hb.repr rfl ?_
                  refine plh_cons ?_ ?_
                  · refine PD.toH ?_
                    refine pd_ix ?_ ?_
                    · exact ph_var
                    · exact ph_var
                  · exact plh_nil
              · refine pbl_one ?_
                refine pst_ret ?_
                exact pd_bl
              · exact pbl_nil
        · refine pbl_one ?_
          refine pst_ret ?_
          refine pd_cmp (bin_eqX ok ns) ?_ ?_
          · refine PD.toH ?_
            refine pd_blt (call_repr ok ns) cal_repr rfl hb.repr rfl ?_
            refine plh_cons ?_ ?_
            · refine PN.toH ?_
              refine pn_lst ?_
              refine pl_cons ?_ ?_
              · exact pd_var
              · refine pl_cons ?_ ?_
                · exact pd_var
                · exact pl_nil
            · exact plh_nil
          · exact ph_var
end
end Pi
namespace Pi
open PySem PySem.Spec PyProof.Rows L2 LamX
section
variable {P : Program} {w : World} {K : PySem.W.Frag} {mg : Str → Option Value} {base : Heap} {f : Addr} {cd : Value} {A : Around} {outer : List PySem.Env} {s : Shared} {H : Hp} {E : XK}
theorem b__law_points_right (hb : Blt mg) (ns : NoSys K) (ok : COk (dcx P w K mg base n__law_points_right "_law_points_right" (defScope (top 45)) f cd A outer s H E)) (rm : Room 4 (dcx P w K mg base n__law_points_right "_law_points_right" (defScope (top 45)) f cd A outer s H E).A) (f__law_spots : FK (GK K) P w K mg base "_law_spots" 1 m__law_spots 1) (f_points : FK (GK K) P w K mg base "points" 1 m_points 4) : PBl (GK K) (dcx P w K mg base n__law_points_right "_law_points_right" (defScope (top 45)) f cd A outer s H E) E H (defBody (top 45)) g__law_points_right := by
  have nd := nd__law_points_right
  have hu : (dcx P w K mg base n__law_points_right "_law_points_right" (defScope (top 45)) f cd A outer s H E).A.units + 1 < cLine := by have := ok.un; omega
  refine pbl_cons ?_ ?_
  · refine @pst_set _ _ _ _ _ _ _ 1 "due" _ nd ?_ rfl (by first | exact Or.inl rfl | exact Or.inr rfl) ?_ (by first | exact .inl rfl | exact .inr rfl)
    · refine pd_blt (call_repr ok ns) cal_repr rfl hb.repr rfl ?_
      refine plh_cons ?_ ?_
      · refine PD.toH ?_
        refine pd_bty call_tuple_of cal_tuple rfl hb.tuple rfl ?_
        refine plh_cons ?_ ?_
        · refine PD.toH ?_
          refine pd_call (n := 1) (f__law_spots.kn (rm.mono (by decide))) ok.gd (takes_of rfl rfl rfl rfl) rfl ((acons_len anil_len)) ?_
          refine pl_cons ?_ ?_
          · exact pd_var
          · exact pl_nil
        · exact plh_nil
      · exact plh_nil
    · rfl
  · refine pbl_one ?_
    refine pst_ret ?_
    refine pd_and ?_ ?_
    · refine pd_cmp (bin_eqX ok ns) ?_ ?_
      · refine PD.toH ?_
        refine pd_blt (call_repr ok ns) cal_repr rfl hb.repr rfl ?_
        refine plh_cons ?_ ?_
        · refine PD.toH ?_
          refine pd_call (n := 1) (f_points.kn (rm.mono (by decide))) ok.gd (takes_of rfl rfl rfl rfl) rfl ((acons_len anil_len)) ?_
          refine pl_cons ?_ ?_
          · exact pd_var
          · exact pl_nil
        · exact plh_nil
      · exact ph_var
    · refine pd_one ?_
      refine pd_cmp (bin_eqX ok ns) ?_ ?_
      · refine PD.toH ?_
        refine pd_blt (call_repr ok ns) cal_repr rfl hb.repr rfl ?_
        refine plh_cons ?_ ?_
        · refine PD.toH ?_
          refine pd_call (n := 1) (f_points.kn (rm.mono (by decide))) ok.gd (takes_of rfl rfl rfl rfl) rfl ((acons_len anil_len)) ?_
          refine pl_cons ?_ ?_
          · exact pd_var
          · exact pl_nil
        · exact plh_nil
      · exact ph_var
end
end Pi
namespace Pi
open PySem PySem.Spec PyProof.Rows L2 LamX
section
variable {P : Program} {w : World} {K : PySem.W.Frag} {mg : Str → Option Value} {base : Heap} {f : Addr} {cd : Value} {A : Around} {outer : List PySem.Env} {s : Shared} {H : Hp} {E : XK}
theorem b__law_hand_right (hb : Blt mg) (ns : NoSys K) (ok : COk (dcx P w K mg base n__law_hand_right "_law_hand_right" (defScope (top 46)) f cd A outer s H E)) (rm : Room 7 (dcx P w K mg base n__law_hand_right "_law_hand_right" (defScope (top 46)) f cd A outer s H E).A) (f__law_spots : FK (GK K) P w K mg base "_law_spots" 1 m__law_spots 1) (f_degree : FK (GK K) P w K mg base "degree" 2 m_degree 7) (f_points : FK (GK K) P w K mg base "points" 1 m_points 4) (f_value_at : FK (GK K) P w K mg base "value_at" 3 m_value_at 7) (f_values : FK (GK K) P w K mg base "values" 2 m_values 7) : PBl (GK K) (dcx P w K mg base n__law_hand_right "_law_hand_right" (defScope (top 46)) f cd A outer s H E) E H (defBody (top 46)) g__law_hand_right := by
  have nd := nd__law_hand_right
  have hu : (dcx P w K mg base n__law_hand_right "_law_hand_right" (defScope (top 46)) f cd A outer s H E).A.units + 1 < cLine := by have := ok.un; omega
  refine pbl_cons ?_ ?_
  · refine @pst_own _ _ _ _ _ _ _ 0 "told" _ nd ?_ rfl (by first | exact Or.inl rfl | exact Or.inr rfl) ?_ (by first | exact .inl rfl | exact .inr rfl)
    · refine pn_lst ?_
      refine pl_cons ?_ ?_
      · refine pd_call (n := 2) (f_values.kn (rm.mono (by decide))) ok.gd (takes_of rfl rfl rfl rfl) rfl ((acons_len (acons_len anil_len))) ?_
        refine pl_cons ?_ ?_
        · refine @pd_cst _ _ _ _ _ _ ?_
          kernel_rfl
        · refine pl_cons ?_ ?_
          · refine @pd_cst _ _ _ _ _ _ ?_
            kernel_rfl
          · exact pl_nil
      · refine pl_cons ?_ ?_
        · refine pd_call (n := 2) (f_values.kn (rm.mono (by decide))) ok.gd (takes_of rfl rfl rfl rfl) rfl ((acons_len (acons_len anil_len))) ?_
          refine pl_cons ?_ ?_
          · refine @pd_cst _ _ _ _ _ _ ?_
            kernel_rfl
          · refine pl_cons ?_ ?_
            · refine @pd_cst _ _ _ _ _ _ ?_
              kernel_rfl
            · exact pl_nil
        · refine pl_cons ?_ ?_
          · refine pd_call (n := 2) (f_values.kn (rm.mono (by decide))) ok.gd (takes_of rfl rfl rfl rfl) rfl ((acons_len (acons_len anil_len))) ?_
            refine pl_cons ?_ ?_
            · refine @pd_cst _ _ _ _ _ _ ?_
              kernel_rfl
            · refine pl_cons ?_ ?_
              · refine @pd_cst _ _ _ _ _ _ ?_
                kernel_rfl
              · exact pl_nil
          · exact pl_nil
    · rfl
  · refine pbl_cons ?_ ?_
    · refine @pst_own _ _ _ _ _ _ _ 0 "told" _ nd ?_ rfl (by first | exact Or.inl rfl | exact Or.inr rfl) ?_ (by first | exact .inl rfl | exact .inr rfl)
      · refine pn_cat ?_ ?_
        · exact ph_var
        · refine PN.toH ?_
          refine pn_lst ?_
          refine pl_cons ?_ ?_
          · refine pd_call (n := 2) (f_values.kn (rm.mono (by decide))) ok.gd (takes_of rfl rfl rfl rfl) rfl ((acons_len (acons_len anil_len))) ?_
            refine pl_cons ?_ ?_
            · refine @pd_cst _ _ _ _ _ _ ?_
              kernel_rfl
            · refine pl_cons ?_ ?_
              · refine @pd_cst _ _ _ _ _ _ ?_
                kernel_rfl
              · exact pl_nil
          · refine pl_cons ?_ ?_
            · refine pd_call (n := 3) (f_value_at.kn (rm.mono (by decide))) ok.gd (takes_of rfl rfl rfl rfl) rfl ((acons_len (acons_len (acons_len anil_len)))) ?_
              refine pl_cons ?_ ?_
              · refine @pd_cst _ _ _ _ _ _ ?_
                kernel_rfl
              · refine pl_cons ?_ ?_
                · refine @pd_cst _ _ _ _ _ _ ?_
                  kernel_rfl
                · refine pl_cons ?_ ?_
                  · refine @pd_cst _ _ _ _ _ _ ?_
                    kernel_rfl
                  · exact pl_nil
            · refine pl_cons ?_ ?_
              · refine pd_call (n := 3) (f_value_at.kn (rm.mono (by decide))) ok.gd (takes_of rfl rfl rfl rfl) rfl ((acons_len (acons_len (acons_len anil_len)))) ?_
                refine pl_cons ?_ ?_
                · refine @pd_cst _ _ _ _ _ _ ?_
                  kernel_rfl
                · refine pl_cons ?_ ?_
                  · refine @pd_cst _ _ _ _ _ _ ?_
                    kernel_rfl
                  · refine pl_cons ?_ ?_
                    · refine @pd_cst _ _ _ _ _ _ ?_
                      kernel_rfl
                    · exact pl_nil
              · exact pl_nil
      · rfl
    · refine pbl_cons ?_ ?_
      · refine @pst_own _ _ _ _ _ _ _ 0 "told" _ nd ?_ rfl (by first | exact Or.inl rfl | exact Or.inr rfl) ?_ (by first | exact .inl rfl | exact .inr rfl)
        · refine pn_cat ?_ ?_
          · exact ph_var
          · refine PN.toH ?_
            refine pn_lst ?_
            refine pl_cons ?_ ?_
            · refine pd_call (n := 3) (f_value_at.kn (rm.mono (by decide))) ok.gd (takes_of rfl rfl rfl rfl) rfl ((acons_len (acons_len (acons_len anil_len)))) ?_
              refine pl_cons ?_ ?_
              · refine @pd_cst _ _ _ _ _ _ ?_
                kernel_rfl
              · refine pl_cons ?_ ?_
                · refine @pd_cst _ _ _ _ _ _ ?_
                  kernel_rfl
                · refine pl_cons ?_ ?_
                  · refine @pd_cst _ _ _ _ _ _ ?_
                    kernel_rfl
                  · exact pl_nil
            · refine pl_cons ?_ ?_
              · refine pd_call (n := 3) (f_value_at.kn (rm.mono (by decide))) ok.gd (takes_of rfl rfl rfl rfl) rfl ((acons_len (acons_len (acons_len anil_len)))) ?_
                refine pl_cons ?_ ?_
                · refine @pd_cst _ _ _ _ _ _ ?_
                  kernel_rfl
                · refine pl_cons ?_ ?_
                  · refine @pd_cst _ _ _ _ _ _ ?_
                    kernel_rfl
                  · refine pl_cons ?_ ?_
                    · refine @pd_cst _ _ _ _ _ _ ?_
                      kernel_rfl
                    · exact pl_nil
              · exact pl_nil
        · rfl
      · refine pbl_cons ?_ ?_
        · refine pst_if ?_ ?_ ?_
          · refine pb_cmp (bin_neX ok ns) ?_ ?_
            · exact ph_var
            · refine PD.toH ?_
              refine @pd_cst _ _ _ _ _ _ ?_
              kernel_rfl
          · refine pbl_one ?_
            refine pst_ret ?_
            exact pd_bl
          · exact pbl_nil
        · refine pbl_cons ?_ ?_
          · refine @pst_set _ _ _ _ _ _ _ 1 "last" _ nd ?_ rfl (by first | exact Or.inl rfl | exact Or.inr rfl) ?_ (by first | exact .inl rfl | exact .inr rfl)
            · refine @pd_cst _ _ _ _ _ _ ?_
              kernel_rfl
            · rfl
          · refine pbl_cons ?_ ?_
            · refine @pst_set _ _ _ _ _ _ _ 0 "told" _ nd ?_ rfl (by first | exact Or.inl rfl | exact Or.inr rfl) ?_ (by first | exact .inl rfl | exact .inr rfl)
              · refine pd_call (n := 2) (f_values.kn (rm.mono (by decide))) ok.gd (takes_of rfl rfl rfl rfl) rfl ((acons_len (acons_len anil_len))) ?_
                refine pl_cons ?_ ?_
                · refine @pd_cst _ _ _ _ _ _ ?_
                  kernel_rfl
                · refine pl_cons ?_ ?_
                  · exact pd_var
                  · exact pl_nil
              · rfl
            · refine pbl_cons ?_ ?_
              · refine pst_if ?_ ?_ ?_
                · refine PBW.pb ?_
                  refine pb_or ?_ ?_
                  · refine pb_cmp (bin_neX ok ns) ?_ ?_
                    · exact ph_var
                    · refine PD.toH ?_
                      refine pd_bty call_tuple_of cal_tuple rfl hb.tuple rfl ?_
                      refine plh_cons ?_ ?_
                      · refine PN.toH ?_
                        refine pn_lc [("spot", 4)] rfl nd ?_ (blkOk_by rfl) tgok_name (fun s0 H1 C cl fp => (pg_name nd rfl (.inl rfl))) (fun s0 H1 C cl fp => ?_) (fun s0 H1 C cl fp => ?_)
                        · refine pit_dat ?_
                          refine pd_call (n := 1) (f__law_spots.kn (rm.mono (by decide))) ok.gd (takes_of rfl rfl rfl rfl) rfl ((acons_len anil_len)) ?_
                          refine pl_cons ?_ ?_
                          · refine @pd_cst _ _ _ _ _ _ ?_
                            kernel_rfl
                          · exact pl_nil
                        · exact pbs_nil
                        · refine pd_ix ?_ ?_
                          · refine PD.toH ?_
                            refine @pd_cst _ _ _ _ _ _ ?_
                            kernel_rfl
                          · refine PD.toH ?_
                            refine pd_bty call_int1 cal_int rfl hb.int rfl ?_
                            refine plh_cons ?_ ?_
                            · refine PD.toH ?_
                              refine pd_cmp (bin_gt (okb ok)) ?_ ?_
                              · refine PD.toH ?_
                                refine pd_ix ?_ ?_
                                · exact ph_var
                                · refine PD.toH ?_
                                  exact pd_int
                              · refine PD.toH ?_
                                exact pd_int
                            · exact plh_nil
                      · exact plh_nil
                  · refine pb_or1 ?_
                    refine pb_cmp (bin_neX ok ns) ?_ ?_
                    · refine PD.toH ?_
                      refine pd_blt call_lenX cal_len rfl hb.len rfl ?_
                      refine plh_cons ?_ ?_
                      · exact ph_var
                      · exact plh_nil
                    · refine PD.toH ?_
                      exact pd_int
                · refine pbl_one ?_
                  refine pst_ret ?_
                  exact pd_bl
                · exact pbl_nil
              · refine pbl_cons ?_ ?_
                · refine @pst_own _ _ _ _ _ _ _ 0 "told" _ nd ?_ rfl (by first | exact Or.inl rfl | exact Or.inr rfl) ?_ (by first | exact .inl rfl | exact .inr rfl)
                  · refine pn_lst ?_
                    refine pl_cons ?_ ?_
                    · refine pd_call (n := 2) (f_degree.kn (rm.mono (by decide))) ok.gd (takes_of rfl rfl rfl rfl) rfl ((acons_len (acons_len anil_len))) ?_
                      refine pl_cons ?_ ?_
                      · refine @pd_cst _ _ _ _ _ _ ?_
                        kernel_rfl
                      · refine pl_cons ?_ ?_
                        · refine @pd_cst _ _ _ _ _ _ ?_
                          kernel_rfl
                        · exact pl_nil
                    · refine pl_cons ?_ ?_
                      · refine pd_call (n := 2) (f_degree.kn (rm.mono (by decide))) ok.gd (takes_of rfl rfl rfl rfl) rfl ((acons_len (acons_len anil_len))) ?_
                        refine pl_cons ?_ ?_
                        · refine @pd_cst _ _ _ _ _ _ ?_
                          kernel_rfl
                        · refine pl_cons ?_ ?_
                          · refine @pd_cst _ _ _ _ _ _ ?_
                            kernel_rfl
                          · exact pl_nil
                      · refine pl_cons ?_ ?_
                        · refine pd_call (n := 2) (f_degree.kn (rm.mono (by decide))) ok.gd (takes_of rfl rfl rfl rfl) rfl ((acons_len (acons_len anil_len))) ?_
                          refine pl_cons ?_ ?_
                          · refine @pd_cst _ _ _ _ _ _ ?_
                            kernel_rfl
                          · refine pl_cons ?_ ?_
                            · refine @pd_cst _ _ _ _ _ _ ?_
                              kernel_rfl
                            · exact pl_nil
                        · exact pl_nil
                  · rfl
                · refine pbl_cons ?_ ?_
                  · refine pst_app (i := 0) ?_
                    refine pd_call (n := 2) (f_degree.kn (rm.mono (by decide))) ok.gd (takes_of rfl rfl rfl rfl) rfl ((acons_len (acons_len anil_len))) ?_
                    refine pl_cons ?_ ?_
                    · refine @pd_cst _ _ _ _ _ _ ?_
                      kernel_rfl
                    · refine pl_cons ?_ ?_
                      · refine @pd_cst _ _ _ _ _ _ ?_
                        kernel_rfl
                      · exact pl_nil
                  · refine pbl_cons ?_ ?_
                    · refine pst_app (i := 0) ?_
                      refine pd_call (n := 3) (f_value_at.kn (rm.mono (by decide))) ok.gd (takes_of rfl rfl rfl rfl) rfl ((acons_len (acons_len (acons_len anil_len)))) ?_
                      refine pl_cons ?_ ?_
                      · refine @pd_cst _ _ _ _ _ _ ?_
                        kernel_rfl
                      · refine pl_cons ?_ ?_
                        · refine @pd_cst _ _ _ _ _ _ ?_
                          kernel_rfl
                        · refine pl_cons ?_ ?_
                          · refine @pd_cst _ _ _ _ _ _ ?_
                            kernel_rfl
                          · exact pl_nil
                    · refine pbl_cons ?_ ?_
                      · refine @pst_set _ _ _ _ _ _ _ 2 "some" _ nd ?_ rfl (by first | exact Or.inl rfl | exact Or.inr rfl) ?_ (by first | exact .inl rfl | exact .inr rfl)
                        · refine PN.toD ?_
                          refine pn_lst ?_
                          refine pl_cons ?_ ?_
                          · refine pd_call (n := 1) (f_points.kn (rm.mono (by decide))) ok.gd (takes_of rfl rfl rfl rfl) rfl ((acons_len anil_len)) ?_
                            refine pl_cons ?_ ?_
                            · refine @pd_cst _ _ _ _ _ _ ?_
                              kernel_rfl
                            · exact pl_nil
                          · refine pl_cons ?_ ?_
                            · refine pd_call (n := 1) (f_points.kn (rm.mono (by decide))) ok.gd (takes_of rfl rfl rfl rfl) rfl ((acons_len anil_len)) ?_
                              refine pl_cons ?_ ?_
                              · refine @pd_cst _ _ _ _ _ _ ?_
                                kernel_rfl
                              · exact pl_nil
                            · refine pl_cons ?_ ?_
                              · refine pd_slice ?_ ?_ ?_
                                · refine pd_call (n := 1) (f_points.kn (rm.mono (by decide))) ok.gd (takes_of rfl rfl rfl rfl) rfl ((acons_len anil_len)) ?_
                                  refine pl_cons ?_ ?_
                                  · refine @pd_cst _ _ _ _ _ _ ?_
                                    kernel_rfl
                                  · exact pl_nil
                                · refine ppt_some ?_
                                  exact pd_int
                                · refine ppt_some ?_
                                  exact pd_int
                              · refine pl_cons ?_ ?_
                                · refine pd_blt call_lenX cal_len rfl hb.len rfl ?_
                                  refine plh_cons ?_ ?_
                                  · refine PD.toH ?_
                                    refine pd_call (n := 1) (f_points.kn (rm.mono (by decide))) ok.gd (takes_of rfl rfl rfl rfl) rfl ((acons_len anil_len)) ?_
                                    refine pl_cons ?_ ?_
                                    · refine @pd_cst _ _ _ _ _ _ ?_
                                      kernel_rfl
                                    · exact pl_nil
                                  · exact plh_nil
                                · refine pl_cons ?_ ?_
                                  · refine pd_ix ?_ ?_
                                    · refine PD.toH ?_
                                      refine pd_call (n := 1) (f_points.kn (rm.mono (by decide))) ok.gd (takes_of rfl rfl rfl rfl) rfl ((acons_len anil_len)) ?_
                                      refine pl_cons ?_ ?_
                                      · refine @pd_cst _ _ _ _ _ _ ?_
                                        kernel_rfl
                                      · exact pl_nil
                                    · refine PD.toH ?_
                                      exact pd_int
                                  · exact pl_nil
                        · rfl
                      · refine pbl_cons ?_ ?_
                        · refine @pst_set _ _ _ _ _ _ _ 3 "due" _ nd ?_ rfl (by first | exact Or.inl rfl | exact Or.inr rfl) ?_ (by first | exact .inl rfl | exact .inr rfl)
                          · refine @pd_cst _ _ _ _ _ _ ?_
                            kernel_rfl
                          · rfl
                        · refine pbl_one ?_
                          refine pst_ret ?_
                          refine pd_and ?_ ?_
                          · refine pd_cmp (bin_eqX ok ns) ?_ ?_
                            · exact ph_var
                            · exact ph_var
                          · refine pd_one ?_
                            refine pd_cmp (bin_eqX ok ns) ?_ ?_
                            · exact ph_var
                            · refine PN.toH ?_
                              refine pn_lst ?_
                              refine pl_cons ?_ ?_
                              · exact pd_int
                              · refine pl_cons ?_ ?_
                                · refine pd_neg ?_
                                  refine PD.toH ?_
                                  exact pd_int
                                · refine pl_cons ?_ ?_
                                  · exact pd_int
                                  · refine pl_cons ?_ ?_
                                    · exact pd_int
                                    · refine pl_cons ?_ ?_
                                      · exact pd_int
                                      · exact pl_nil
end
end Pi
namespace Pi
open PySem PySem.Spec PyProof.Rows L2 LamX
section
variable {P : Program} {w : World} {K : PySem.W.Frag} {mg : Str → Option Value} {base : Heap} {f : Addr} {cd : Value} {A : Around} {outer : List PySem.Env} {s : Shared} {H : Hp} {E : XK}
theorem b_law (hb : Blt mg) (ns : NoSys K) (ok : COk (dcx P w K mg base n_law "law" (defScope (top 47)) f cd A outer s H E)) (rm : Room 8 (dcx P w K mg base n_law "law" (defScope (top 47)) f cd A outer s H E).A) (f__law_begun : FK (GK K) P w K mg base "_law_begun" 2 m__law_begun 1) (f__law_frame : FK (GK K) P w K mg base "_law_frame" 2 m__law_frame 3) (f__law_hand_right : FK (GK K) P w K mg base "_law_hand_right" 0 m__law_hand_right 8) (f__law_points_right : FK (GK K) P w K mg base "_law_points_right" 1 m__law_points_right 5) (f__law_sheet : FK (GK K) P w K mg base "_law_sheet" 4 m__law_sheet 2) (f__law_sheet_right : FK (GK K) P w K mg base "_law_sheet_right" 3 m__law_sheet_right 8) (f__law_size : FK (GK K) P w K mg base "_law_size" 1 m__law_size 1) : PBl (GK K) (dcx P w K mg base n_law "law" (defScope (top 47)) f cd A outer s H E) E H (defBody (top 47)) g_law := by
  have nd := nd_law
  have hu : (dcx P w K mg base n_law "law" (defScope (top 47)) f cd A outer s H E).A.units + 1 < cLine := by have := ok.un; omega
  refine pbl_cons ?_ ?_
  · refine pst_for (passes_of rfl) rfl ?_ (pg_name nd rfl (by first | exact Or.inl rfl | exact Or.inr rfl)) tgok_name ?_
    · refine pit_range1 hb.range ?_
      refine pl_cons ?_ ?_
      · refine pd_bin bin_add ?_ ?_
        · refine PD.toH ?_
          exact pd_int
        · refine PD.toH ?_
          refine pd_blt (call_min2 rfl) cal_min2 rfl hb.min rfl ?_
          refine plh_cons ?_ ?_
          · refine PD.toH ?_
            refine pd_blt call_lenX cal_len rfl hb.len rfl ?_
            refine plh_cons ?_ ?_
            · exact ph_var
            · exact plh_nil
          · refine plh_cons ?_ ?_
            · refine PD.toH ?_
              exact pd_int
            · exact plh_nil
      · exact pl_nil
    · refine pbl_cons ?_ ?_
      · refine @pst_set _ _ _ _ _ _ _ 2 "m" _ nd ?_ rfl (by first | exact Or.inl rfl | exact Or.inr rfl) ?_ (by first | exact .inl rfl | exact .inr rfl)
        · refine pd_call (n := 2) (f__law_begun.kn (rm.mono (by decide))) ok.gd (takes_of rfl rfl rfl rfl) rfl ((acons_len (acons_len anil_len))) ?_
          refine pl_cons ?_ ?_
          · exact pd_var
          · refine pl_cons ?_ ?_
            · exact pd_var
            · exact pl_nil
        · rfl
      · refine pbl_cons ?_ ?_
        · refine @pst_set _ _ _ _ _ _ _ 3 "frame" _ nd ?_ rfl (by first | exact Or.inl rfl | exact Or.inr rfl) ?_ (by first | exact .inl rfl | exact .inr rfl)
          · refine pd_call (n := 2) (f__law_frame.kn (rm.mono (by decide))) ok.gd (takes_of rfl rfl rfl rfl) rfl ((acons_len (acons_len anil_len))) ?_
            refine pl_cons ?_ ?_
            · exact pd_var
            · refine pl_cons ?_ ?_
              · exact pd_int
              · exact pl_nil
          · rfl
        · refine pbl_cons ?_ ?_
          · refine @pst_set _ _ _ _ _ _ _ 4 "high" _ nd ?_ rfl (by first | exact Or.inl rfl | exact Or.inr rfl) ?_ (by first | exact .inl rfl | exact .inr rfl)
            · refine pd_if ?_ ?_ ?_
              · refine pb_cmp (bin_lt ok) ?_ ?_
                · refine PD.toH ?_
                  refine pd_call (n := 1) (f__law_size.kn (rm.mono (by decide))) ok.gd (takes_of rfl rfl rfl rfl) rfl ((acons_len anil_len)) ?_
                  refine pl_cons ?_ ?_
                  · exact pd_var
                  · exact pl_nil
                · refine PD.toH ?_
                  exact pd_int
              · exact pd_int
              · exact pd_int
            · rfl
          · refine pbl_cons ?_ ?_
            · refine @pst_set _ _ _ _ _ _ _ 5 "some" _ nd ?_ rfl (by first | exact Or.inl rfl | exact Or.inr rfl) ?_ (by first | exact .inl rfl | exact .inr rfl)
              · refine PN.toD ?_
                refine pn_lst ?_
                refine pl_cons ?_ ?_
                · refine pd_call (n := 4) (f__law_sheet.kn (rm.mono (by decide))) ok.gd (takes_of rfl rfl rfl rfl) rfl ((acons_len (acons_len (acons_len (acons_len anil_len))))) ?_
                  refine pl_cons ?_ ?_
                  · exact pd_var
                  · refine pl_cons ?_ ?_
                    · exact pd_var
                    · refine pl_cons ?_ ?_
                      · exact pd_int
                      · refine pl_cons ?_ ?_
                        · exact pd_var
                        · exact pl_nil
                · refine pl_cons ?_ ?_
                  · refine pd_call (n := 4) (f__law_sheet.kn (rm.mono (by decide))) ok.gd (takes_of rfl rfl rfl rfl) rfl ((acons_len (acons_len (acons_len (acons_len anil_len))))) ?_
                    refine pl_cons ?_ ?_
                    · exact pd_var
                    · refine pl_cons ?_ ?_
                      · exact pd_var
                      · refine pl_cons ?_ ?_
                        · exact pd_int
                        · refine pl_cons ?_ ?_
                          · refine pd_ix ?_ ?_
                            · exact ph_var
                            · refine PD.toH ?_
                              exact pd_int
                          · exact pl_nil
                  · exact pl_nil
              · rfl
            · refine pbl_cons ?_ ?_
              · refine pst_setLc [("sheet", 7)] rfl nd ?_ (blkOk_by rfl) tgok_name (fun s0 H1 C cl fp => (pg_name nd rfl (.inl rfl))) (fun s0 H1 C cl fp => ?_) (fun s0 H1 C cl fp => ?_)
                · refine pit_dat ?_
                  exact pd_var
                · refine pbs_one ?_
                  refine pb_not ?_
                  refine pb_of ?_
                  refine pd_call (n := 3) (f__law_sheet_right.kn (rm.mono (by decide))) (okb ok).gd L2.takes0 rfl ((acons_len (acons_len (acons_len anil_len)))) ?_
                  refine pl_cons ?_ ?_
                  · exact pd_var
                  · refine pl_cons ?_ ?_
                    · exact pd_var
                    · refine pl_cons ?_ ?_
                      · exact pd_var
                      · exact pl_nil
                · exact pd_var
              · refine pbl_one ?_
                refine pst_if ?_ ?_ ?_
                · refine PBW.pb ?_
                  refine pb_or ?_ ?_
                  · refine pb_cmp (bin_neX ok ns) ?_ ?_
                    · exact ph_var
                    · refine PD.toH ?_
                      refine @pd_cst _ _ _ _ _ _ ?_
                      kernel_rfl
                  · refine pb_or1 ?_
                    refine pb_not ?_
                    refine pb_of ?_
                    refine pd_call (n := 1) (f__law_points_right.kn (rm.mono (by decide))) ok.gd (takes_of rfl rfl rfl rfl) rfl ((acons_len anil_len)) ?_
                    refine pl_cons ?_ ?_
                    · exact pd_var
                    · exact pl_nil
                · refine pbl_one ?_
                  refine pst_ret ?_
                  exact pd_bl
                · exact pbl_nil
  · refine pbl_one ?_
    refine pst_ret ?_
    exact pd_call0 (f__law_hand_right.kn (rm.mono (by decide))) ok.gd (takes_of rfl rfl rfl rfl) rfl
end
end Pi
namespace Pi
open PySem PySem.Spec PyProof.Rows L2
def isI : D → Bool
  | .int _ => true
  | _ => false
def inR (lo hi : Int) : D → Bool
  | .int i => decide (lo ≤ i) && decide (i ≤ hi)
  | _ => false
def topB : D → Bool
  | .obj _ => false
  | .exc _ _ _ => false
  | .ktp _ => false
  | .kls _ => false
  | _ => true
theorem is_integer_q (x : D) (h : topB x = true) (st : St) : m_is_integer [x] st = .ok (.bl (isI x)) st := by
  cases x <;> first | rfl | cases h
theorem is_integer_in_q (x : D) (h : topB x = true) (lo hi : Int) (st : St) : m_is_integer_in [x, .int lo, .int hi] st = .ok (.bl (inR lo hi x)) st := by
  cases x with
  | int i =>
    simp [m_is_integer_in, q_run, g_is_integer_in, is_integer_q _ h, isI, inR, D.toB]
    by_cases z : lo ≤ i <;> simp [z]
  | _ => first | rfl | cases h
def isTup (n : Int) : D → Bool
  | .tup xs => (xs.length : Int) == n
  | _ => false
theorem is_tuple_of_q (x : D) (h : topB x = true) (n : Int) (st : St) : m_is_tuple_of [x, .int n] st = .ok (.bl (isTup n x)) st := by
  cases x <;> first | rfl | cases h
theorem isTup_iff {n : Nat} {x : D} (h : isTup n x = true) : ∃ xs, x = .tup xs ∧ xs.length = n := by
  cases x with
  | tup xs =>
    refine ⟨xs, rfl, ?_⟩
    have : (xs.length : Int) = n := by simpa [isTup] using h
    omega
  | _ => cases h
theorem inR_iff {lo hi : Int} {x : D} (h : inR lo hi x = true) : ∃ i, x = .int i ∧ lo ≤ i ∧ i ≤ hi := by
  cases x with
  | int i => exact ⟨i, rfl, by simpa [inR] using h⟩
  | _ => cases h
def isPrm : D → Bool
  | .int i => decide (i = 2) || decide (i = 3) || decide (i = 5) || decide (i = 7)
  | _ => false
def sizeF : D → D → Option D
  | .int 7, .int 4 => some (.tup [])
  | _, _ => none
def pairF (p m : D) : Option D := match isPrm p with
  | false => some (.tup [.int 0])
  | true => match inR 1 4 m with
    | false => some (.tup [.int 1])
    | true => sizeF p m
def ffault : D → Option D
  | .tup [p, m] => pairF p m
  | _ => some (.tup [])
theorem isPrm_iff {x : D} (h : isPrm x = true) : x = .int 2 ∨ x = .int 3 ∨ x = .int 5 ∨ x = .int 7 := by
  cases x with
  | int i =>
    have : ((i = 2 ∨ i = 3) ∨ i = 5) ∨ i = 7 := by simpa [isPrm] using h
    rcases this with ((rfl | rfl) | rfl) | rfl
    · exact .inl rfl
    · exact .inr (.inl rfl)
    · exact .inr (.inr (.inl rfl))
    · exact .inr (.inr (.inr rfl))
  | _ => cases h
theorem in14 {x : D} (h : inR 1 4 x = true) : x = .int 1 ∨ x = .int 2 ∨ x = .int 3 ∨ x = .int 4 := by
  obtain ⟨i, rfl, h1, h2⟩ := inR_iff h
  have : i = 1 ∨ i = 2 ∨ i = 3 ∨ i = 4 := by omega
  rcases this with rfl | rfl | rfl | rfl <;> simp
theorem q_prm (i : Int) : oIn (.int i) cPRIMES = some (.bl (isPrm (.int i))) := by
  have e : oIn (.int i) cPRIMES = some (.bl (([.int 2, .int 3, .int 5, .int 7] : List D).any fun z => PyData.eqv z.py (.int i))) := rfl
  rw [e]
  simp [D.py, PyData.eqv, isPrm]
  have f : ∀ k : Int, (k == i) = decide (i = k) := fun k => by
    by_cases h : i = k
    · subst h; simp
    · simp [h]; exact fun z => h z.symm
  simp only [f]
  cases decide (i = 2) <;> cases decide (i = 3) <;> cases decide (i = 5) <;> cases decide (i = 7) <;> rfl
theorem is_prime_q (x : D) (h : topB x = true) (st : St) : m_is_prime [x] st = .ok (.bl (isPrm x)) st := by
  cases x with
  | int i => simp [m_is_prime, q_run, g_is_prime, is_integer_q _ h, isI, q_prm]
  | _ => first | (simp [m_is_prime, q_run, g_is_prime, is_integer_q _ h, isI, isPrm]; done) | cases h
theorem need_field_q (x : D) (h : topB x = true) (h2 : ∀ p m, x = .tup [p, m] → topB p = true ∧ topB m = true) (st : St) :
    m_need_field [x] st = match ffault x with
      | none => Res.ok x st
      | some pl => Res.err 0 pl st := by
  have e0 : isTup 2 x = false → m_need_field [x] st = .err 0 (.tup []) st := fun z => by
    simp [m_need_field, q_run, g_need_field, is_tuple_of_q x h, z]
  cases x with
  | tup xs =>
    match xs, e0, h2 with
    | [], e0, _ => exact e0 rfl
    | [_], e0, _ => exact e0 rfl
    | _ :: _ :: _ :: l, e0, _ => exact e0 (by simp [isTup]; omega)
    | [p, m], _, h2 =>
      obtain ⟨hp, hm⟩ := h2 p m rfl
      have z : isTup 2 (.tup [p, m]) = true := rfl
      show _ = match pairF p m with
        | none => Res.ok (D.tup [p, m]) st
        | some pl => Res.err 0 pl st
      unfold pairF
      cases a : isPrm p with
      | false =>
        cases p with
        | int i => simp [m_need_field, q_run, g_need_field, is_tuple_of_q _ h, z, unpack, setAll, is_prime_q _ hp, a]
        | _ => first | (simp [m_need_field, q_run, g_need_field, is_tuple_of_q _ h, z, unpack, setAll, is_prime_q _ hp, a]; done) | cases hp
      | true =>
        cases b : inR 1 4 m with
        | false =>
          have ip : isI p = true := by rcases isPrm_iff a with rfl | rfl | rfl | rfl <;> rfl
          rcases isPrm_iff a with rfl | rfl | rfl | rfl <;> simp [m_need_field, q_run, g_need_field, is_tuple_of_q _ h, z, unpack, setAll, is_prime_q _ hp, isPrm, is_integer_in_q _ hm, b, cMOST_UNKNOWNS]
        | true => rcases isPrm_iff a with rfl | rfl | rfl | rfl <;> rcases in14 b with rfl | rfl | rfl | rfl <;> rfl
  | _ => first | exact e0 rfl | cases h
mutual
def D.pl : D → Bool
  | .tup xs => D.plAll xs
  | .lst xs => D.plAll xs
  | .dct kvs => D.plKv kvs
  | .obj _ => false
  | .exc _ _ _ => false
  | .ktp _ => false
  | .kls _ => false
  | _ => true
def D.plAll : List D → Bool
  | [] => true
  | x :: xs => D.pl x && D.plAll xs
def D.plKv : List (Key × D) → Bool
  | [] => true
  | (_, x) :: xs => D.pl x && D.plKv xs
end
theorem pl_top {x : D} (h : x.pl = true) : topB x = true := by
  cases x <;> first | rfl | (simp [D.pl] at h)
theorem plAll_iff {xs : List D} : D.plAll xs = true ↔ ∀ x ∈ xs, x.pl = true := by
  induction xs with
  | nil => simp [D.plAll]
  | cons x xs ih => simp [D.plAll, ih]
theorem pl_tup {xs : List D} : (D.tup xs).pl = true ↔ ∀ x ∈ xs, x.pl = true := by
  rw [← plAll_iff]
  simp [D.pl]
theorem pl_lst {xs : List D} : (D.lst xs).pl = true ↔ ∀ x ∈ xs, x.pl = true := by
  rw [← plAll_iff]
  simp [D.pl]
mutual
theorem pl_still : ∀ x : D, x.pl = true → x.still = true
  | .non, _ => by simp [D.still]
  | .bl _, _ => by simp [D.still]
  | .int _, _ => by simp [D.still]
  | .str _, _ => by simp [D.still]
  | .tup xs, h => by simp only [D.still]; exact pl_stillAll xs (by simpa [D.pl] using h)
  | .lst xs, h => by simp only [D.still]; exact pl_stillAll xs (by simpa [D.pl] using h)
  | .dct kvs, h => by simp only [D.still]; exact pl_stillKv kvs (by simpa [D.pl] using h)
  | .obj _, h => by simp [D.pl] at h
  | .exc _ _ _, h => by simp [D.pl] at h
  | .ktp _, h => by simp [D.pl] at h
  | .kls _, h => by simp [D.pl] at h
theorem pl_stillAll : ∀ xs : List D, D.plAll xs = true → D.stillAll xs = true
  | [], _ => by simp [D.stillAll]
  | x :: xs, h => by
    have h' : x.pl = true ∧ D.plAll xs = true := by simpa [D.plAll] using h
    simp [D.stillAll, pl_still x h'.1, pl_stillAll xs h'.2]
theorem pl_stillKv : ∀ xs : List (Key × D), D.plKv xs = true → D.stillKv xs = true
  | [], _ => by simp [D.stillKv]
  | (_, x) :: xs, h => by
    have h' : x.pl = true ∧ D.plKv xs = true := by simpa [D.plKv] using h
    simp [D.stillKv, pl_still x h'.1, pl_stillKv xs h'.2]
end
def faultL : Option D → D
  | none => .non
  | some pl => .lst [pl]
theorem in27 {x : D} (h : inR 2 7 x = true) : x = .int 2 ∨ x = .int 3 ∨ x = .int 4 ∨ x = .int 5 ∨ x = .int 6 ∨ x = .int 7 := by
  obtain ⟨i, rfl, h1, h2⟩ := inR_iff h
  have : i = 2 ∨ i = 3 ∨ i = 4 ∨ i = 5 ∨ i = 6 ∨ i = 7 := by omega
  rcases this with rfl | rfl | rfl | rfl | rfl | rfl <;> simp
theorem prm_of27 {x : D} (h : inR 2 7 x = false) : isPrm x = false := by
  cases e : isPrm x with
  | false => rfl
  | true => rcases isPrm_iff e with rfl | rfl | rfl | rfl <;> cases h
def isKey (n : Int) : D → Bool
  | .tup xs => (xs.length : Int) == n && xs.all (inR 0 30)
  | _ => false
theorem bols_map (p : D → Bool) : ∀ xs : List D, bolsOf (xs.map fun x => .bl (p x)) = some (xs.map p)
  | [] => rfl
  | x :: xs => by
    show (bolsOf (xs.map fun x => .bl (p x))).map (p x :: ·) = _
    rw [bols_map p xs]
    rfl
theorem are_powers_q (x : D) (h : x.pl = true) (n : Int) (st : St) (hl : ∀ xs, x = .tup xs → xs.length ≤ 16777216) : m__are_powers [x, .int n] st = .ok (.bl (isKey n x)) st := by
  cases e : isTup n x with
  | false =>
    have e2 : isKey n x = false := by
      cases x <;> first | rfl | (simp [isTup] at e; simp [isKey, e])
    simp [m__are_powers, q_run, g__are_powers, is_tuple_of_q _ (pl_top h), e, e2]
  | true =>
    cases x with
    | tup xs =>
      have e3 : ((xs.length : Int) == n) = true := e
      have hp := pl_tup.mp h
      have l := lcL_pure (b := tgN 2) (c := bYes) (e := eCall m_is_integer_in (aCons (eVar 2) (aCons (eC (.int 0)) (aCons (eC cMOST_POWER) (aNil))))) (r := wipeE [2] [some (.d (.tup xs)), some (.d (.int n)), none]) (st := st) (p := fun _ => true) (F := fun y => .bl (inR 0 30 y)) xs fun y hy => ⟨_, rfl, rfl, fun _ => by
        simp [wipeE, tgN, cMOST_POWER, is_integer_in_q _ (pl_top (hp y hy))]⟩
      have l2 : (nLc (iDat (eVar 0)) (tgN 2) [2] (bYes) (eCall m_is_integer_in (aCons (eVar 2) (aCons (eC (.int 0)) (aCons (eC cMOST_POWER) (aNil)))))) [some (.d (.tup xs)), some (.d (.int n)), none] st = .ok (xs.map fun y => .bl (inR 0 30 y)) st := by
        unfold nLc
        rw [q_bind, q_iDat, q_vZero]
        show (lim xs.length xs >>= _) st = _
        rw [q_bind, q_lim (hl xs rfl)]
        dsimp only
        rw [l, show List.filter (fun _ => true) xs = xs from List.filter_eq_self.mpr fun _ _ => rfl]
      simp [m__are_powers, q_run, g__are_powers, is_tuple_of_q _ (pl_top h), e, isKey, e3, l2, oAll, D.lstOf, bols_map]
    | _ => cases e
theorem filter_emp (p : D → Bool) (xs : List D) : (xs.filter fun y => !p y).isEmpty = xs.all p := by
  induction xs with
  | nil => rfl
  | cons x xs ih =>
    cases e : p x with
    | true => simp [List.filter_cons, e] at ih ⊢; exact ih
    | false => simp [List.filter_cons, e]
def isTerm (p n : Int) : D → Bool
  | .tup [k, c] => isKey n k && inR 1 (p - 1) c
  | _ => false
/- lengths that the model lets pass -/
mutual
def D.short : D → Bool
  | .tup xs => decide (xs.length ≤ 16777216) && D.shortAll xs
  | .lst xs => decide (xs.length ≤ 16777216) && D.shortAll xs
  | _ => true
def D.shortAll : List D → Bool
  | [] => true
  | x :: xs => D.short x && D.shortAll xs
end
theorem shortAll_iff {xs : List D} : D.shortAll xs = true ↔ ∀ x ∈ xs, x.short = true := by
  induction xs with
  | nil => simp [D.shortAll]
  | cons x xs ih => simp [D.shortAll, ih]
theorem short_tup {xs : List D} : (D.tup xs).short = true ↔ xs.length ≤ 16777216 ∧ ∀ x ∈ xs, x.short = true := by
  rw [← shortAll_iff]
  simp [D.short]
theorem short_len {x : D} (h : x.short = true) : ∀ xs, x = .tup xs → xs.length ≤ 16777216 := fun xs e => by
  subst e
  exact (short_tup.mp h).1
abbrev frm (p n : Int) : D := .tup [.int p, .int n]
theorem is_term_q (p n : Int) (x : D) (h : x.pl = true) (hs : x.short = true) (st : St) : m__is_term [frm p n, x] st = .ok (.bl (isTerm p n x)) st := by
  cases e : isTup 2 x with
  | false =>
    have e2 : isTerm p n x = false := by
      cases x with
      | tup xs =>
        match xs with
        | [] => rfl
        | [_] => rfl
        | [_, _] => simp [isTup] at e
        | _ :: _ :: _ :: _ => rfl
      | _ => rfl
    simp [m__is_term, q_run, g__is_term, unpack, setAll, is_tuple_of_q _ (pl_top h), e, e2]
  | true =>
    obtain ⟨xs, rfl, hl⟩ := isTup_iff (n := 2) e
    match xs, hl with
    | [k, c], _ =>
      have hh := pl_tup.mp h
      have hk := hh k (by simp)
      have hc := hh c (by simp)
      have sk := (short_tup.mp hs).2 k (by simp)
      simp [m__is_term, q_run, g__is_term, unpack, setAll, is_tuple_of_q _ (pl_top h), e, are_powers_q _ hk _ _ (short_len sk), is_integer_in_q _ (pl_top hc), isTerm]
      cases isKey n k <;> simp [is_integer_in_q _ (pl_top hc)]
def keyOf : D → D
  | .tup (k :: _) => k
  | _ => .non
def ltK (a b : D) : Bool := match a.ints, b.ints with
  | some x, some y => lexI x y
  | _, _ => false
def goP (p n : Int) : Nat → D → List D → Option Nat
  | _, _, [] => none
  | i, a, t :: ts => match isTerm p n t && ltK a (keyOf t) with
    | true => goP p n (i + 1) (keyOf t) ts
    | false => some i
/-- powers that are known to be whole numbers -/
def intsB (d : D) : Bool := match d with
  | .tup xs => (intsOf xs).isSome
  | _ => false
theorem ints_all : ∀ {xs : List D}, xs.all (inR 0 30) = true → (intsOf xs).isSome = true
  | [], _ => rfl
  | x :: xs, h => by
    have h' : inR 0 30 x = true ∧ ∀ y ∈ xs, inR 0 30 y = true := by simpa using h
    obtain ⟨i, rfl, _⟩ := inR_iff h'.1
    have ih := ints_all (xs := xs) (by simpa using h'.2)
    show ((intsOf xs).map (i :: ·)).isSome = true
    simp [ih]
theorem isKey_ints {n : Int} {k : D} (h : isKey n k = true) : intsB k = true := by
  cases k with
  | tup xs =>
    simp only [isKey, Bool.and_eq_true] at h
    exact ints_all h.2
  | _ => cases h
theorem isTerm_iff {p n : Int} {x : D} (h : isTerm p n x = true) : ∃ k c, x = .tup [k, c] ∧ isKey n k = true ∧ inR 1 (p - 1) c = true := by
  unfold isTerm at h
  split at h
  · rename_i k c
    rw [Bool.and_eq_true] at h
    exact ⟨k, c, rfl, h⟩
  · cases h
theorem ord_ints {p : Int → Int → Bool} {q : List Int → List Int → Bool} {a b : D} (ha : intsB a = true) (hb : intsB b = true) : ∃ x y, a.ints = some x ∧ b.ints = some y ∧ oOrd p q a b = some (.bl (q x y)) := by
  cases a with
  | tup xs =>
    cases b with
    | tup ys =>
      have h1 : (intsOf xs).isSome = true := ha
      have h2 : (intsOf ys).isSome = true := hb
      obtain ⟨x, e1⟩ := Option.isSome_iff_exists.mp h1
      obtain ⟨y, e2⟩ := Option.isSome_iff_exists.mp h2
      refine ⟨x, y, e1, e2, ?_⟩
      show (match intsOf xs, intsOf ys with
        | some a, some b => some (D.bl (q a b))
        | _, _ => none) = _
      rw [e1, e2]
    | _ => cases hb
  | _ => cases ha
theorem le_q {a b : D} (ha : intsB a = true) (hb : intsB b = true) : oLe a b = some (.bl (!ltK b a)) := by
  obtain ⟨x, y, e1, e2, e3⟩ := ord_ints (p := fun i j => decide (i ≤ j)) (q := fun a b => !lexI b a) ha hb
  unfold oLe
  rw [e3]
  unfold ltK
  rw [e1, e2]
theorem ge_q {a b : D} (ha : intsB a = true) (hb : intsB b = true) : oGe a b = some (.bl (!ltK a b)) := by
  obtain ⟨x, y, e1, e2, e3⟩ := ord_ints (p := fun i j => decide (j ≤ i)) (q := fun a b => !lexI a b) ha hb
  unfold oGe
  rw [e3]
  unfold ltK
  rw [e1, e2]
def tgE (i : Nat) (x : D) : D := .tup [.int i, x]
theorem enum_at : ∀ (xs : List D) (i : Nat), (xs.zipIdx i).map (fun p => D.tup [.int (p.2 : Nat), p.1]) = (match xs with
    | [] => []
    | x :: xs => tgE i x :: (xs.zipIdx (i + 1)).map (fun p => D.tup [.int (p.2 : Nat), p.1]))
  | [], i => rfl
  | x :: xs, i => rfl
abbrev bodyP : Stm := sSeq (sIf (bOr (bNot (bOf (eCall m__is_term (aCons (eVar 0) (aCons (eVar 4) (aNil)))))) (bCmp oLe (eBin oIx (hVar 4) (eC (.int 0))) (hVar 2))) (sRet (eTup (aCons (eVar 3) (aNil)))) (sNext)) (sSet 2 (eBin oIx (hVar 4) (eC (.int 0))))
theorem lim1 {b : Type} (x : b) (st : St) : lim 1 x st = .ok x st := q_lim (by decide)
theorem lim2 {b : Type} (x : b) (st : St) : lim 2 x st = .ok x st := q_lim (by decide)
@[simp] theorem q_eTup (f : Env → Mo (List D)) (r : Env) (st : St) : eTup f r st = match f r st with
  | .ok x st' => lim x.length (D.tup x) st'
  | .err k x st' => .err k x st'
  | .bad => .bad := by
  unfold eTup
  rw [q_bind]
  cases f r st <;> rfl
@[simp] theorem q_nLst (f : Env → Mo (List D)) (r : Env) (st : St) : nLst f r st = match f r st with
  | .ok x st' => lim x.length x st'
  | .err k x st' => .err k x st'
  | .bad => .bad := by
  unfold nLst
  rw [q_bind]
  cases f r st <;> rfl
theorem key_ix (k c : D) : oIx (.tup [k, c]) (.int 0) = some k := rfl
theorem loopP (p n : Int) (thing : D) (st : St) : ∀ (ts : List D) (i : Nat) (a : D) (a3 a4 : Option SV), (∀ t ∈ ts, t.pl = true ∧ t.short = true) → intsB a = true →
    match goP p n i a ts with
    | none => ∃ r2, forL (tgT [3, 4]) bodyP ((ts.zipIdx i).map (fun p => D.tup [.int (p.2 : Nat), p.1])) [some (.d (frm p n)), some (.d thing), some (.d a), a3, a4] st = .ok (.nx r2) st
    | some j => forL (tgT [3, 4]) bodyP ((ts.zipIdx i).map (fun p => D.tup [.int (p.2 : Nat), p.1])) [some (.d (frm p n)), some (.d thing), some (.d a), a3, a4] st = .ok (.ret (.tup [.int j])) st
  | [], i, a, a3, a4, _, _ => ⟨_, rfl⟩
  | t :: ts, i, a, a3, a4, hp, ha => by
    obtain ⟨h1, h2⟩ := hp t (by simp)
    have ih := fun a3 a4 (z : intsB (keyOf t) = true) => loopP p n thing st ts (i + 1) (keyOf t) a3 a4 (fun u hu => hp u (by simp [hu])) z
    have step := forL_cons (b := tgT [3, 4]) (g := bodyP) (x := tgE i t) (xs := (ts.zipIdx (i + 1)).map (fun p => D.tup [.int (p.2 : Nat), p.1])) (r := [some (.d (frm p n)), some (.d thing), some (.d a), a3, a4]) (r1 := [some (.d (frm p n)), some (.d thing), some (.d a), some (.d (.int i)), some (.d t)]) (st := st) rfl
    rw [enum_at]
    dsimp only
    rw [step]
    have it := is_term_q p n t h1 h2 st
    cases e : isTerm p n t with
    | false =>
      have g : goP p n i a (t :: ts) = some i := by
        unfold goP
        rw [e]
        rfl
      rw [g]
      simp [bodyP, it, e, lim1]
    | true =>
      obtain ⟨k, c, rfl, hk, hc⟩ := isTerm_iff e
      have ik := isKey_ints hk
      cases e2 : ltK a k with
      | false =>
        have g : goP p n i a (.tup [k, c] :: ts) = some i := by
          unfold goP
          rw [e]
          show (match true && ltK a k with
            | true => _
            | false => some i) = _
          rw [e2]
          rfl
        rw [g]
        simp [bodyP, it, e, lim1, key_ix, le_q ik ha, e2]
      | true =>
        have g : goP p n i a (.tup [k, c] :: ts) = goP p n (i + 1) k ts := by
          conv => lhs; unfold goP
          rw [e]
          show (match true && ltK a k with
            | true => _
            | false => some i) = _
          rw [e2]
          rfl
        rw [g]
        have b : bodyP [some (.d (frm p n)), some (.d thing), some (.d a), some (.d (.int i)), some (.d (.tup [k, c]))] st = .ok (.nx [some (.d (frm p n)), some (.d thing), some (.d k), some (.d (.int i)), some (.d (.tup [k, c]))]) st := by
          simp [bodyP, it, e, lim1, key_ix, le_q ik ha, e2]
        rw [b, loopR_nx]
        exact ih _ _ ik
def pfault (p n : Int) : D → Option D
  | .tup ts => match decide (ts.length ≤ 700) with
    | true => (goP p n 0 (.tup []) ts).map fun (i : Nat) => D.tup [.int (i : Int)]
    | false => some (.tup [])
  | _ => some (.tup [])
theorem poly_fault_q (p n : Int) (x : D) (h : x.pl = true) (hs : x.short = true) (st : St) : m_poly_fault [frm p n, x] st = .ok ((pfault p n x).getD .non) st := by
  cases x with
  | tup ts =>
    cases e : decide (ts.length ≤ 700) with
    | false =>
      have e1 : ¬ ts.length ≤ 700 := of_decide_eq_false e
      have z : decide (700 < (ts.length : Int)) = true := decide_eq_true (by omega)
      simp [m_poly_fault, q_run, g_poly_fault, isB, cMOST_TERMS, pfault, e1, z]
    | true =>
      have e1 : ts.length ≤ 700 := of_decide_eq_true e
      have z : decide (700 < (ts.length : Int)) = false := decide_eq_false (by omega)
      have L := loopP p n (.tup ts) st ts 0 (.tup []) none none (fun t ht => ⟨pl_tup.mp h t ht, (short_tup.mp hs).2 t ht⟩) rfl
      have en : enumT [.tup ts] = some ((ts.zipIdx 0).map (fun p => D.tup [.int (p.2 : Nat), p.1])) := rfl
      cases g : goP p n 0 (.tup []) ts with
      | none =>
        rw [g] at L
        obtain ⟨r2, L⟩ := L
        simp [m_poly_fault, q_run, g_poly_fault, isB, cMOST_TERMS, pfault, e1, z, en, g]
        unfold bodyP at L
        rw [L]
        simp
      | some j =>
        rw [g] at L
        dsimp only at L
        simp [m_poly_fault, q_run, g_poly_fault, isB, cMOST_TERMS, pfault, e1, z, en, g]
        unfold bodyP at L
        rw [L]
        simp
  | _ => first | rfl | (simp [D.pl] at h)
theorem textFrom_le {n : Nat} : ∀ (ts : List Str) (k : Nat) (acc : Str), (∀ t ∈ ts, t.length ≤ n) → (textFrom k acc ts).length ≤ acc.length + (n + 2) * ts.length
  | [], k, acc, _ => by show acc.length ≤ acc.length + (n + 2) * 0; omega
  | t :: r, k, acc, h => by
    have ih := textFrom_le r (k + 1) (acc ++ (if k > 0 then ", " else "" : String) ++ t) fun u hu => h u (by simp [hu])
    have e : (acc ++ (if k > 0 then ", " else "" : String) ++ t).length = acc.length + (if k > 0 then 2 else 0) + t.length := by
      rw [strLen_append, strLen_append]
      split <;> rfl
    have ht := h t (by simp)
    rw [e] at ih
    show (textFrom (k + 1) _ r).length ≤ _
    have d1 : (if k > 0 then 2 else 0 : Nat) ≤ 2 := by split <;> omega
    have m : (n + 2) * (t :: r).length = (n + 2) * r.length + (n + 2) := by rw [List.length_cons, Nat.mul_succ]
    rw [m]
    omega
theorem join_le {n : Nat} {sep : Str} (hs : sep.length = 2) : ∀ (ts : List Str), (∀ t ∈ ts, t.length ≤ n) → (Str.join sep ts).length ≤ (n + 2) * ts.length
  | [], _ => Nat.zero_le _
  | [t], h => by
    have ht := h t (by simp)
    show t.length ≤ (n + 2) * 1
    omega
  | t :: u :: r, h => by
    have ih := join_le hs (u :: r) fun v hv => h v (by simp only [List.mem_cons] at hv ⊢; exact .inr hv)
    have ht := h t (by simp)
    show (t ++ sep ++ Str.join sep (u :: r)).length ≤ _
    rw [strLen_append, strLen_append]
    have m : (n + 2) * (t :: u :: r).length = (n + 2) * (u :: r).length + (n + 2) := by rw [List.length_cons (a := t), Nat.mul_succ]
    rw [m]
    omega
theorem shownAll_len : ∀ xs : List D, (PyData.shownAll (D.pyAll xs)).length = xs.length
  | [] => by simp [D.pyAll, PyData.shownAll]
  | x :: xs => by simp [D.pyAll, PyData.shownAll, shownAll_len xs]
theorem shownAll_le {n : Nat} : ∀ xs : List D, (∀ x ∈ xs, x.py.shown.length ≤ n) → ∀ t ∈ PyData.shownAll (D.pyAll xs), t.length ≤ n
  | [], _, t, h => by simp [D.pyAll, PyData.shownAll] at h
  | x :: xs, hx, t, h => by
    simp only [D.pyAll, PyData.shownAll, List.mem_cons] at h
    rcases h with rfl | h
    · exact hx x (by simp)
    · exact shownAll_le xs (fun y hy => hx y (by simp [hy])) t h
theorem showableAll_of : ∀ xs : List D, (∀ x ∈ xs, x.py.showable = true) → PyData.showableAll (D.pyAll xs) = true
  | [], _ => by simp [D.pyAll, PyData.showableAll]
  | x :: xs, h => by simp [D.pyAll, PyData.showableAll, h x (by simp), showableAll_of xs fun y hy => h y (by simp [hy])]
theorem depthAll_le {k : Nat} : ∀ xs : List D, (∀ x ∈ xs, x.py.depth ≤ k) → PyData.depthAll (D.pyAll xs) ≤ k
  | [], _ => by simp [D.pyAll, PyData.depthAll]
  | x :: xs, h => by
    have h1 := h x (by simp)
    have h2 := depthAll_le xs fun y hy => h y (by simp [hy])
    simp only [D.pyAll, PyData.depthAll]
    omega
structure Bd (n k : Nat) (d : D) : Prop where
  pl : d.pl = true
  ss : d.short = true
  sh : d.py.showable = true
  dp : d.py.depth ≤ k
  ln : d.py.shown.length ≤ n
theorem Bd.mono {n k n' k' : Nat} {d : D} (h : Bd n k d) (hn : n ≤ n') (hk : k ≤ k') : Bd n' k' d := ⟨h.pl, h.ss, h.sh, Nat.le_trans h.dp hk, Nat.le_trans h.ln hn⟩
theorem Bd.top {n k : Nat} {d : D} (h : Bd n k d) : topB d = true := pl_top h.pl
theorem bd_tup {n k l : Nat} {xs : List D} (h : ∀ x ∈ xs, Bd n k x) (hl : xs.length ≤ l) (hm : l ≤ 16777216) : Bd ((n + 2) * l + 3) (k + 1) (.tup xs) where
  pl := pl_tup.mpr fun x hx => (h x hx).pl
  ss := short_tup.mpr ⟨by omega, fun x hx => (h x hx).ss⟩
  sh := by
    show (PyData.tuple (D.pyAll xs)).showable = true
    simp only [PyData.showable]
    exact showableAll_of xs fun x hx => (h x hx).sh
  dp := by
    have := depthAll_le (k := k) xs fun x hx => (h x hx).dp
    show (PyData.tuple (D.pyAll xs)).depth ≤ _
    simp only [PyData.depth]
    omega
  ln := by
    show (PyData.tuple (D.pyAll xs)).shown.length ≤ _
    simp only [PyData.shown]
    unfold tupleText
    rw [strLen_append, strLen_append]
    have j := join_le (n := n) (sep := ", ") rfl (PyData.shownAll (D.pyAll xs)) (shownAll_le xs fun x hx => (h x hx).ln)
    rw [shownAll_len] at j
    have m := Nat.mul_le_mul_left (n + 2) hl
    have a1 : (("(" : String) : Str).length = 1 := rfl
    have a2 : (((if (PyData.shownAll (D.pyAll xs)).length == 1 then ",)" else ")" : String)) : Str).length ≤ 2 := by split <;> decide +kernel
    omega
theorem bd_lst {n k l : Nat} {xs : List D} (h : ∀ x ∈ xs, Bd n k x) (hl : xs.length ≤ l) (hm : l ≤ 16777216) : Bd ((n + 2) * l + 3) (k + 1) (.lst xs) where
  pl := pl_lst.mpr fun x hx => (h x hx).pl
  ss := by
    have : D.shortAll xs = true := shortAll_iff.mpr fun x hx => (h x hx).ss
    simp only [D.short, this, Bool.and_true, decide_eq_true_eq]
    omega
  sh := by
    show (PyData.list (D.pyAll xs)).showable = true
    simp only [PyData.showable]
    exact showableAll_of xs fun x hx => (h x hx).sh
  dp := by
    have := depthAll_le (k := k) xs fun x hx => (h x hx).dp
    show (PyData.list (D.pyAll xs)).depth ≤ _
    simp only [PyData.depth]
    omega
  ln := by
    show (PyData.list (D.pyAll xs)).shown.length ≤ _
    simp only [PyData.shown]
    unfold listText
    rw [strLen_append]
    have j := textFrom_le (n := n) (PyData.shownAll (D.pyAll xs)) 0 "[" (shownAll_le xs fun x hx => (h x hx).ln)
    rw [shownAll_len] at j
    have m := Nat.mul_le_mul_left (n + 2) hl
    have a1 : (("[" : String) : Str).length = 1 := rfl
    have a2 : (("]" : String) : Str).length = 1 := rfl
    omega
/-- a Bool that tells of one written value -/
def bdB (n k : Nat) (d : D) : Bool := d.pl && (d.short && (d.py.showable && (Nat.ble d.py.depth k && Nat.ble d.py.shown.length n)))
theorem bd_of {n k : Nat} {d : D} (h : bdB n k d = true) : Bd n k d := by
  unfold bdB at h
  simp only [Bool.and_eq_true] at h
  exact ⟨h.1, h.2.1, h.2.2.1, Nat.le_of_ble_eq_true h.2.2.2.1, Nat.le_of_ble_eq_true h.2.2.2.2⟩
theorem small_tab : ∀ i : _root_.Fin 2001, bdB 5 0 (.int ((i.val : Int) - 1000)) = true := by decide +kernel
theorem bd_int {i : Int} (h1 : -1000 ≤ i) (h2 : i ≤ 1000) : Bd 5 0 (.int i) := by
  have := bd_of (small_tab ⟨(i + 1000).toNat, by omega⟩)
  have e : (((i + 1000).toNat : Nat) : Int) - 1000 = i := by omega
  dsimp only at this
  rw [e] at this
  exact this
theorem repr_q {d : D} {n k : Nat} (h : Bd n k d) (hn : n ≤ 16777216) (hk : k ≤ 190) : oRepr [d] = some (.str d.py.shown) := by
  have e : reprOk d = true := by
    unfold reprOk
    rw [pl_still d h.pl, h.sh, Nat.ble_eq_true_of_le (Nat.le_trans h.dp hk), Nat.ble_eq_true_of_le (Nat.le_trans h.ln hn)]
    rfl
  show (match reprOk d with
    | true => some (D.str d.py.shown)
    | false => none) = _
  rw [e]
theorem bd_dct1 {n k : Nat} {i : Int} {x : D} (h1 : -1000 ≤ i) (h2 : i ≤ 1000) (h : Bd n k x) : Bd (n + 10) (k + 1) (.dct [(.inl i, x)]) where
  pl := by simp [D.pl, D.plKv, h.pl]
  ss := rfl
  sh := by
    have b := (bd_int h1 h2).sh
    show (PyData.dict (D.pyKv [(.inl i, x)])).showable = true
    simp only [D.pyKv, PyData.showable, PyData.showableKv, h.sh, keyPy, Bool.and_true]
    exact b
  dp := by
    have b := h.dp
    show (PyData.dict (D.pyKv [(.inl i, x)])).depth ≤ _
    simp only [D.pyKv, PyData.depth, PyData.depthKv, keyPy]
    omega
  ln := by
    have b := (bd_int h1 h2).ln
    have c := h.ln
    show (PyData.dict (D.pyKv [(.inl i, x)])).shown.length ≤ _
    simp only [D.pyKv, PyData.shown, PyData.shownKv, keyPy]
    unfold dictText
    show (("{" : Str) ++ (PyData.shown (.int i) ++ ": " ++ x.py.shown) ++ "}").length ≤ _
    rw [strLen_append, strLen_append, strLen_append, strLen_append]
    have a1 : (("{" : String) : Str).length = 1 := rfl
    have a2 : (("}" : String) : Str).length = 1 := rfl
    have a3 : ((": " : String) : Str).length = 2 := rfl
    have b' : (PyData.shown (.int i)).length ≤ 5 := b
    omega
theorem loopR_cong {b : D → Env → Option Env} {g : Stm} {xs : List D} {r r1 : Env} {st : St} {x : D} {z : Res Fl} (h : b x r = some r1) (e : g r1 st = z) : forL b g (x :: xs) r st = loopR b g xs z := by
  rw [forL_cons h, e]
theorem ix_last {pre ts : List D} {t : D} : oIx (.tup ((pre ++ [t]) ++ ts)) (.int (((pre ++ [t]).length : Nat) - 1 : Int)) = some t := by
  have e : ((((pre ++ [t]).length : Nat) : Int) - 1) = ((pre.length : Nat) : Int) := by simp
  rw [e, q_ixT (by simp)]
  simp
theorem lexI_nil {xs : List Int} (h : xs ≠ []) : lexI [] xs = true := by
  cases xs with
  | nil => exact absurd rfl h
  | cons x xs => rfl
theorem ints_len : ∀ {xs : List D} {ns : List Int}, intsOf xs = some ns → ns.length = xs.length
  | [], ns, h => by cases h; rfl
  | x :: xs, ns, h => by
    cases x with
    | int i =>
      have h' : (intsOf xs).map (i :: ·) = some ns := h
      obtain ⟨ms, e, rfl⟩ := Option.map_eq_some_iff.mp h'
      simp [ints_len e]
    | _ => cases h
theorem ltK_nil {n : Int} {k : D} (hn : 1 ≤ n) (h : isKey n k = true) : ltK (.tup []) k = true := by
  have hi := isKey_ints h
  cases k with
  | tup xs =>
    simp only [isKey, Bool.and_eq_true] at h
    have h1 : (xs.length : Int) = n := by simpa using h.1
    have hi' : (intsOf xs).isSome = true := hi
    obtain ⟨ns, e⟩ := Option.isSome_iff_exists.mp hi'
    have l := ints_len e
    show (match some ([] : List Int), intsOf xs with
      | some x, some y => lexI x y
      | _, _ => false) = true
    rw [e]
    refine lexI_nil fun z => ?_
    rw [z] at l
    simp at l
    omega
  | _ => cases h
theorem ffault_none {x : D} (h : ffault x = none) : ∃ p n, x = frm p n ∧ 2 ≤ p ∧ p ≤ 7 ∧ 1 ≤ n ∧ n ≤ 4 := by
  unfold ffault at h
  split at h
  · rename_i p m
    unfold pairF at h
    cases a : isPrm p with
    | false => rw [a] at h; cases h
    | true =>
      rw [a] at h
      cases b : inR 1 4 m with
      | false => rw [b] at h; cases h
      | true =>
        obtain ⟨n, rfl, n1, n2⟩ := inR_iff b
        rcases isPrm_iff a with rfl | rfl | rfl | rfl
        · exact ⟨2, n, rfl, by omega, by omega, n1, n2⟩
        · exact ⟨3, n, rfl, by omega, by omega, n1, n2⟩
        · exact ⟨5, n, rfl, by omega, by omega, n1, n2⟩
        · exact ⟨7, n, rfl, by omega, by omega, n1, n2⟩
  · cases h
theorem goP_le {p n : Int} : ∀ {ts : List D} {i : Nat} {a : D} {j : Nat}, goP p n i a ts = some j → j < i + ts.length
  | [], _, _, _, h => by cases h
  | t :: ts, i, a, j, h => by
    unfold goP at h
    split at h
    · have := goP_le h
      simp only [List.length_cons]
      omega
    · cases h
      simp
theorem bd_tab1 : ∀ i : _root_.Fin 701, bdB 8 1 (.tup [.int (i.val : Nat)]) = true := by decide +kernel
theorem bd_pfault {p n : Int} {x pl : D} (h : pfault p n x = some pl) : Bd 8 1 pl := by
  unfold pfault at h
  split at h
  · rename_i ts
    cases e : decide (ts.length ≤ 700) with
    | true =>
      rw [e] at h
      obtain ⟨j, g, rfl⟩ := Option.map_eq_some_iff.mp h
      have := goP_le g
      have l := of_decide_eq_true e
      exact bd_of (bd_tab1 ⟨j, by omega⟩)
    | false =>
      rw [e] at h
      cases h
      exact bd_of (by decide +kernel)
  · cases h
    exact bd_of (by decide +kernel)
theorem bd_ffault {x pl : D} (h : ffault x = some pl) : Bd 8 1 pl := by
  unfold ffault at h
  split at h
  · rename_i p m
    unfold pairF at h
    cases a : isPrm p with
    | false =>
      rw [a] at h
      cases h
      exact bd_of (by decide +kernel)
    | true =>
      rw [a] at h
      cases b : inR 1 4 m with
      | false =>
        rw [b] at h
        cases h
        exact bd_of (by decide +kernel)
      | true =>
        rw [b] at h
        have h' : sizeF p m = some pl := h
        unfold sizeF at h'
        split at h'
        · cases h'
          exact bd_of (by decide +kernel)
        · cases h'
  · cases h
    exact bd_of (by decide +kernel)
theorem pl_pair {x p m : D} (h : x.pl = true) : x = .tup [p, m] → topB p = true ∧ topB m = true := fun e => by
  subst e
  have hh := pl_tup.mp h
  exact ⟨pl_top (hh p (by simp)), pl_top (hh m (by simp))⟩
theorem need_field_qq (x : D) (h : x.pl = true) (st : St) : m_need_field [x] st = match ffault x with
    | none => Res.ok x st
    | some pl => Res.err 0 pl st := need_field_q x (pl_top h) (fun p m => pl_pair h) st
/-- what is wrong with a polynomial of a value: the class, the place -/
def nfault (f x : D) : Option (Nat × D) := match ffault f with
  | some pl => some (0, pl)
  | none => (match f with
    | .tup [.int p, .int n] => (pfault p n x).map fun pl => (1, pl)
    | _ => none)
theorem need_poly_q (f x : D) (hf : f.pl = true) (h : x.pl = true) (hs : x.short = true) (st : St) : m_need_poly [f, x] st = match nfault f x with
    | none => Res.ok x st
    | some (c, pl) => Res.err c pl st := by
  have nf := need_field_qq f hf st
  cases e : ffault f with
  | some pl =>
    rw [e] at nf
    simp [m_need_poly, q_run, g_need_poly, nf, nfault, e]
  | none =>
    rw [e] at nf
    obtain ⟨p, n, rfl, _⟩ := ffault_none e
    have pq := poly_fault_q p n x h hs st
    cases g : pfault p n x with
    | none =>
      rw [g] at pq
      simp [m_need_poly, q_run, g_need_poly, nf, nfault, e, pq, g, D.isNon, D.toB]
    | some pl =>
      rw [g] at pq
      have np : pl.isNon = false := by
        unfold pfault at g
        split at g
        · split at g
          · obtain ⟨j, _, rfl⟩ := Option.map_eq_some_iff.mp g
            rfl
          · cases g
            rfl
        · cases g
          rfl
      simp [m_need_poly, q_run, g_need_poly, nf, nfault, e, pq, g, np]
def wordR (w : Str) (pl : D) : D := .tup [.str w, pl]
def parR (i j : Nat) (r : Env) : Res (List D) → Res Fl
  | .ok [x, y] st => .ok (.nx ((r.set i (some (.d x))).set j (some (.d y)))) st
  | .ok _ _ => .bad
  | .err c x st => .err c x st
  | .bad => .bad
@[simp] theorem parR_ok (i j : Nat) (r : Env) (x y : D) (st : St) : parR i j r (.ok [x, y] st) = .ok (.nx ((r.set i (some (.d x))).set j (some (.d y)))) st := rfl
@[simp] theorem q_sPar (i j : Nat) (f : Env → Mo (List D)) (r : Env) (st : St) : sPar i j f r st = parR i j r (f r st) := by
  unfold sPar
  rw [q_bind]
  cases f r st with
  | ok x st' =>
    match x with
    | [] => rfl
    | [_] => rfl
    | [_, _] => rfl
    | _ :: _ :: _ :: _ => rfl
  | err c x st' => rfl
  | bad => rfl
def parR3 (i j l : Nat) (r : Env) : Res (List D) → Res Fl
  | .ok [x, y, z] st => .ok (.nx (((r.set i (some (.d x))).set j (some (.d y))).set l (some (.d z)))) st
  | .ok _ _ => .bad
  | .err c x st => .err c x st
  | .bad => .bad
@[simp] theorem parR3_ok (i j l : Nat) (r : Env) (x y z : D) (st : St) : parR3 i j l r (.ok [x, y, z] st) = .ok (.nx (((r.set i (some (.d x))).set j (some (.d y))).set l (some (.d z)))) st := rfl
@[simp] theorem q_sPar3 (i j l : Nat) (f : Env → Mo (List D)) (r : Env) (st : St) : sPar3 i j l f r st = parR3 i j l r (f r st) := by
  unfold sPar3
  rw [q_bind]
  cases f r st with
  | ok x st' =>
    match x with
    | [] => rfl
    | [_] => rfl
    | [_, _] => rfl
    | [_, _, _] => rfl
    | _ :: _ :: _ :: _ :: _ => rfl
  | err c x st' => rfl
  | bad => rfl
theorem twice_q {e : Env → Mo D} {r : Env} {st : St} {v : D} {i : Nat} (h : ∀ w, e ((wipeE [i] r).set i (some (.d w))) st = .ok v st) : nLc (iRng1 (aCons (eC (.int 2)) (aNil))) (tgN i) [i] (bYes) e r st = .ok [v, v] st := by
  unfold nLc
  have e1 : iRng1 (aCons (eC (.int 2)) (aNil)) r st = .ok [.int 0, .int 1] st := rfl
  rw [q_bind, e1]
  dsimp only
  show (lim 2 [D.int 0, D.int 1] >>= _) st = _
  rw [q_bind, lim2]
  dsimp only
  exact lcL_pure (b := tgN i) (c := bYes) (e := e) (r := wipeE [i] r) (st := st) (p := fun _ => true) (F := fun _ => v) [.int 0, .int 1] fun x _ => ⟨_, rfl, rfl, fun _ => h x⟩
theorem bd_word {w : Str} (hw : Bd 10 0 (.str w)) {pl : D} (h : Bd 8 1 pl) : Bd 27 2 (wordR w pl) := bd_tup (n := 10) (k := 1) (l := 2) (xs := [.str w, pl]) (fun x hx => by
  simp only [List.mem_cons, List.not_mem_nil, or_false] at hx
  rcases hx with rfl | rfl
  · exact hw.mono (by omega) (by omega)
  · exact h.mono (by omega) (by omega)) (by simp) (by omega)
theorem bd_one {n k : Nat} {x : D} (h : Bd n k x) : Bd (n + 5) (k + 1) (.lst [x]) := (bd_lst (l := 1) (xs := [x]) (fun y hy => by
  simp only [List.mem_cons, List.not_mem_nil, or_false] at hy
  subst hy
  exact h) (by simp) (by omega)).mono (by omega) (by omega)
theorem bd_two {n k : Nat} {x y : D} (h : Bd n k x) (h2 : Bd n k y) : Bd (2 * n + 7) (k + 1) (.lst [x, y]) := (bd_lst (l := 2) (xs := [x, y]) (fun z hy => by
  simp only [List.mem_cons, List.not_mem_nil, or_false] at hy
  rcases hy with rfl | rfl
  · exact h
  · exact h2) (by simp) (by omega)).mono (by omega) (by omega)
theorem bd_sField : Bd 10 0 (.str "field") := bd_of (by decide +kernel)
theorem bd_sPoly : Bd 10 0 (.str "poly") := bd_of (by decide +kernel)
def dueF (x : D) : Option D → D
  | none => .lst [x]
  | some pl => wordR "field" pl
def duePl (x : D) : Option D → D
  | none => .lst [x]
  | some pl => wordR "poly" pl
def dueP (f x : D) : D := match ffault f with
  | some pl => wordR "field" pl
  | none => (match f with
    | .tup [.int p, .int n] => duePl x (pfault p n x)
    | _ => .non)
/-- the state of the draws of a turn -/
def cell (l s : Int) (c : List Int) (p : Int) : MO := .dk [(.inr "left", .int l), (.inr "seed", .int s), (.inr "cells", .lst (c.map .int)), (.inr "spot", .int p)]
structure Gd (st : St) (n b : Nat) : Prop where
  ex : ∃ (l s : Int) (c : List Int) (p : Int), st[n]? = some (cell l s c p) ∧ c ≠ [] ∧ 0 ≤ p ∧ p ≤ b
theorem Gd.mono {st : St} {n b b' : Nat} (h : Gd st n b) (e : b ≤ b') : Gd st n b' := by
  obtain ⟨l, s, c, p, h1, h2, h3, h4⟩ := h.ex
  exact ⟨l, s, c, p, h1, h2, h3, by omega⟩
def getR (x y : D) : Mo D := Mo.opt x.at >>= fun n => Mo.opt y.key >>= fun k => stGet n k
def putR (x y z : D) (r : Env) : Mo Fl := Mo.opt x.at >>= fun n => Mo.opt y.key >>= fun k => stPut n k z >>= fun _ => pure (.nx r)
section
variable (r : Env) (st : St)
@[simp] theorem q_eGet (f g : Env → Mo D) : eGet f g r st = match f r st with
  | .ok x st' => (match g r st' with
    | .ok y st2 => getR x y st2
    | .err k x st' => .err k x st'
    | .bad => .bad)
  | .err k x st' => .err k x st'
  | .bad => .bad := by
  unfold eGet
  rw [q_bind]
  cases f r st with
  | ok x st' =>
    dsimp only
    rw [q_bind]
    cases g r st' <;> rfl
  | err c x st' => rfl
  | bad => rfl
@[simp] theorem q_sPut (f g h : Env → Mo D) : sPut f g h r st = match h r st with
  | .ok z st' => (match f r st' with
    | .ok x st2 => (match g r st2 with
      | .ok y st3 => putR x y z r st3
      | .err k x st' => .err k x st'
      | .bad => .bad)
    | .err k x st' => .err k x st'
    | .bad => .bad)
  | .err k x st' => .err k x st'
  | .bad => .bad := by
  unfold sPut
  rw [q_bind]
  cases h r st with
  | ok x st' =>
    dsimp only
    rw [q_bind]
    cases f r st' with
    | ok y st2 =>
      dsimp only
      rw [q_bind]
      cases g r st2 <;> rfl
    | err c x st' => rfl
    | bad => rfl
  | err c x st' => rfl
  | bad => rfl
end
section
variable {l s : Int} {c : List Int} {p : Int} {n : Nat} {st : St}
theorem getR_cell {k : Str} {x : D} (h : st[n]? = some (cell l s c p)) (e : getD (.inr k) [(.inr "left", .int l), (.inr "seed", .int s), (.inr "cells", .lst (c.map .int)), (.inr "spot", .int p)] = some x) : getR (.obj n) (.str k) st = .ok x st := by
  show stGet n (.inr k) st = _
  unfold stGet
  rw [h]
  show (match getD (.inr k) [(.inr "left", .int l), (.inr "seed", .int s), (.inr "cells", .lst (c.map .int)), (.inr "spot", .int p)] with
    | some x => Res.ok x st
    | none => .bad) = _
  rw [e]
theorem putR_cell {k : Str} {z : D} {r : Env} {m : MO} (h : st[n]? = some (cell l s c p)) (e : MO.dk (putD [(.inr "left", .int l), (.inr "seed", .int s), (.inr "cells", .lst (c.map .int)), (.inr "spot", .int p)] (.inr k) z) = m) : putR (.obj n) (.str k) z r st = .ok (.nx r) (st.set n m) := by
  show (stPut n (.inr k) z >>= fun _ => pure (Fl.nx r)) st = _
  rw [q_bind]
  have : stPut n (.inr k) z st = .ok () (st.set n m) := by
    unfold stPut
    rw [h]
    show Res.ok () (st.set n (MO.dk (putD [(.inr "left", .int l), (.inr "seed", .int s), (.inr "cells", .lst (c.map .int)), (.inr "spot", .int p)] (.inr k) z))) = _
    rw [e]
  rw [this]
  rfl
theorem get_left (h : st[n]? = some (cell l s c p)) : getR (.obj n) (.str "left") st = .ok (.int l) st := getR_cell h (by kernel_rfl)
theorem get_seed (h : st[n]? = some (cell l s c p)) : getR (.obj n) (.str "seed") st = .ok (.int s) st := getR_cell h (by kernel_rfl)
theorem get_cells (h : st[n]? = some (cell l s c p)) : getR (.obj n) (.str "cells") st = .ok (.lst (c.map .int)) st := getR_cell h (by kernel_rfl)
theorem get_spot (h : st[n]? = some (cell l s c p)) : getR (.obj n) (.str "spot") st = .ok (.int p) st := getR_cell h (by kernel_rfl)
theorem put_left {z : Int} {r : Env} (h : st[n]? = some (cell l s c p)) : putR (.obj n) (.str "left") (.int z) r st = .ok (.nx r) (st.set n (cell z s c p)) := putR_cell h (by kernel_rfl)
theorem put_spot {z : Int} {r : Env} (h : st[n]? = some (cell l s c p)) : putR (.obj n) (.str "spot") (.int z) r st = .ok (.nx r) (st.set n (cell l s c z)) := putR_cell h (by kernel_rfl)
theorem set_cell {m : MO} (h : st[n]? = some (cell l s c p)) : (st.set n m)[n]? = some m := by
  rw [List.getElem?_set_self (List.getElem?_eq_some_iff.mp h).1]
end
theorem small_of {i : Int} (h1 : -18446744073709551616 < i) (h2 : i < 18446744073709551616) : smallI i = true := by
  unfold smallI big
  simp only [Bool.and_eq_true, decide_eq_true_eq]
  exact ⟨h1, h2⟩
@[simp] theorem q_intI (i : Int) : oInt [.int i] = some (.int i) := rfl
theorem ix_mod {c : List Int} (hc : c ≠ []) (p : Int) : ∃ v, oIx (.lst (c.map .int)) (.int (p % (c.length : Nat))) = some (.int v) := by
  have l0 : 0 < c.length := List.length_pos_iff.mpr hc
  have h1 : 0 ≤ p % (c.length : Nat) := Int.emod_nonneg _ (by omega)
  have h2 : p % (c.length : Nat) < (c.length : Nat) := Int.emod_lt_of_pos _ (by omega)
  obtain ⟨k, hk⟩ := Int.eq_ofNat_of_zero_le h1
  rw [hk] at h2 ⊢
  have h3 : k < (c.map D.int).length := by
    rw [List.length_map]
    omega
  refine ⟨c[k]'(by simpa using h3), ?_⟩
  rw [q_ixL h3]
  simp
def top0 : Nat := 1000000000
theorem draw_q {st : St} {n b : Nat} {many : Int} (g : Gd st n b) (hb : b ≤ top0) (m1 : 1 ≤ many) (m2 : many ≤ 1000000) : ∃ (v : Int) (st' : St), m__law_draw [.obj n, .int many] st = .ok (.int v) st' ∧ 0 ≤ v ∧ v < many ∧ Gd st' n (b + 1) := by
  obtain ⟨l, s, c, p, h, hc, p0, p1⟩ := g.ex
  unfold top0 at hb
  have hm : 0 < many := by omega
  by_cases hl : 0 < l
  · refine ⟨l % many, st.set n (cell (l / many) s c p), ?_, Int.emod_nonneg _ (by omega), Int.emod_lt_of_pos _ hm, ⟨_, _, _, _, set_cell h, hc, p0, by omega⟩⟩
    simp [m__law_draw, q_run, g__law_draw, get_left h, hl, q_modI hm, q_fdivI hm (by omega), put_left h]
  · obtain ⟨v, hv⟩ := ix_mod hc p
    have h2 := set_cell (m := cell l s c (p + 1)) h
    have k1 : smallI 40503 = true := by decide
    have k2 : smallI p = true := small_of (by omega) (by omega)
    have k3 : smallI (2 * p + 3) = true := small_of (by omega) (by omega)
    have k4 : smallI 2 = true := by decide
    have k5 : smallI 69621 = true := by decide
    have k6 : smallI 48271 = true := by decide
    have lenc : 0 < ((c.length : Nat) : Int) := by
      have := List.length_pos_iff.mpr hc
      omega
    generalize hB : (v * (2 * p + 3) + (s + 40503 * p * p)) % 2147483647 = B
    have B0 : 0 ≤ B := by
      rw [← hB]
      exact Int.emod_nonneg _ (by decide)
    have B1 : B < 2147483647 := by
      rw [← hB]
      exact Int.emod_lt_of_pos _ (by decide)
    have k7 : smallI B = true := small_of (by omega) (by omega)
    generalize hC : (B * B + 69621 * p + s) % 2147483629 = C
    have dl : decide (0 < l) = false := decide_eq_false hl
    refine ⟨(C * 48271 + p) % 2147483647 / 11 % many, st.set n (cell l s c (p + 1)), ?_, Int.emod_nonneg _ (by omega), Int.emod_lt_of_pos _ hm, ⟨_, _, _, _, h2, hc, by omega, by omega⟩⟩
    simp [m__law_draw, q_run, g__law_draw, get_left h, dl, get_spot h, put_spot h, get_cells h2, get_seed h2, q_mulI (.inl k1), q_mulI (.inr k2), q_mulI (.inl k4), q_mulI (.inr k3), q_mulI (.inl k5), q_mulI (.inr k6), q_modI lenc, hv, q_modI (show (0 : Int) < 2147483647 by decide), hB, q_mulI (.inl k7), q_modI (show (0 : Int) < 2147483629 by decide), hC, q_fdivI (show (0 : Int) < 11 by decide) (by decide), q_modI hm]
theorem law_of_q {st : St} {n b : Nat} {xs : List D} (g : Gd st n b) (hb : b ≤ top0) (h : xs ≠ []) (l : xs.length ≤ 1000000) : ∃ (x : D) (st' : St), m__law_of [.obj n, .lst xs] st = .ok x st' ∧ x ∈ xs ∧ Gd st' n (b + 1) := by
  have l0 : 0 < xs.length := List.length_pos_iff.mpr h
  obtain ⟨v, st', e, v0, v1, g'⟩ := draw_q (many := (xs.length : Nat)) g hb (by omega) (by omega)
  obtain ⟨k, hk⟩ := Int.eq_ofNat_of_zero_le v0
  subst hk
  have hk : k < xs.length := by omega
  refine ⟨xs[k], st', ?_, List.getElem_mem hk, g'⟩
  simp [m__law_of, q_run, g__law_of, e, q_ixL hk]
theorem cut_ints (ns : List Int) (lo hi : Option Int) : ∃ ms : List Int, cutD (ns.map D.int) lo hi = ms.map D.int ∧ ms.length ≤ ns.length := by
  refine ⟨(ns.drop (sx ns.length 0 lo)).take (sx ns.length ns.length hi - sx ns.length 0 lo), ?_, ?_⟩
  · unfold cutD
    rw [List.length_map, List.map_take, List.map_drop]
  · rw [List.length_take, List.length_drop]
    omega
@[simp] theorem q_nSliceK (xs : List D) (f : Env → Mo D) (lo hi : Env → Mo (Option Int)) (r : Env) (st : St) (l u : Option Int) (h1 : f r st = .ok (.kls xs) st) (h2 : lo r st = .ok l st) (h3 : hi r st = .ok u st) : nSlice f lo hi r st = .ok (cutD xs l u) st := by
  unfold nSlice
  rw [q_bind, h1]
  dsimp only
  rw [q_bind, h2]
  dsimp only
  rw [q_bind, h3]
  rfl
theorem q_nCat {f g : Env → Mo D} {r : Env} {st st1 st2 : St} {xs ys : List D} (h1 : f r st = .ok (.lst xs) st1) (h2 : g r st1 = .ok (.lst ys) st2) (h : xs.length + ys.length ≤ 16777216) : nCat f g r st = .ok (xs ++ ys) st2 := by
  unfold nCat
  rw [q_bind, h1]
  dsimp only
  rw [q_bind, h2]
  exact q_lim h
theorem filter_ints (p : D → Bool) : ∀ ns : List Int, ∃ ms : List Int, (List.filter p (ns.map D.int)).map id = ms.map D.int ∧ ms.length ≤ ns.length
  | [] => ⟨[], rfl, Nat.le_refl _⟩
  | n :: ns => by
    obtain ⟨ms, h1, h2⟩ := filter_ints p ns
    rw [List.map_cons]
    cases e : p (.int n) with
    | true =>
      refine ⟨n :: ms, ?_, by simp; omega⟩
      rw [List.filter_cons_of_pos e, List.map_cons, h1]
      rfl
    | false =>
      refine ⟨ms, ?_, by simp; omega⟩
      rw [List.filter_cons_of_neg (by rw [e]; decide), h1]
def geP : D → Bool
  | .int i => decide (1000000000000000000 ≤ i)
  | _ => false
theorem begun_q {ns : List Int} (hl : ns.length ≤ 1000) {k : Int} (k0 : 0 ≤ k) (k1 : k ≤ 1000) (st : St) : ∃ st', m__law_begun [.kls (ns.map .int), .int k] st = .ok (.obj st.length) st' ∧ Gd st' st.length 0 := by
  obtain ⟨as, ha, la⟩ := cut_ints ns (some k) none
  obtain ⟨bs, hb, lb⟩ := cut_ints ns none (some k)
  have cells : ∀ a2 a3 a4 a5 : Option SV, (nCat (nFz (nSlice (hVar 0) (pSome (eVar 1)) (pNone))) (nFz (nSlice (hVar 0) (pNone) (pSome (eVar 1))))) [some (.d (.kls (ns.map .int))), some (.d (.int k)), a2, a3, a4, a5] st = .ok ((as ++ bs).map D.int) st := fun a2 a3 a4 a5 => by
    rw [List.map_append]
    refine q_nCat (st1 := st) ?_ ?_ (by simp; omega)
    · rw [q_nFz, q_nSliceK (ns.map D.int) _ _ _ _ _ (some k) none rfl rfl rfl, ha]
    · rw [q_nFz, q_nSliceK (ns.map D.int) _ _ _ _ _ none (some k) rfl rfl rfl, hb]
  generalize hC : as ++ bs = cs at cells
  have lc : cs.length ≤ 2000 := by
    rw [← hC, List.length_append]
    omega
  obtain ⟨gs, hg, lg⟩ := filter_ints geP cs
  have great : ∀ a3 a4 a5 : Option SV, (nLc (iDat (eVar 2)) (tgN 5) [5] (bCmp oGe (hVar 5) (eBin oPow (eC (.int 10)) (eC (.int 18)))) (eVar 5)) [some (.d (.kls (ns.map .int))), some (.d (.int k)), some (.d (.lst (cs.map D.int))), a3, a4, a5] st = .ok (gs.map D.int) st := fun a3 a4 a5 => by
    unfold nLc
    rw [q_bind, q_iDat]
    show (lim (cs.map D.int).length (cs.map D.int) >>= _) st = _
    rw [q_bind, q_lim (by rw [List.length_map]; omega)]
    dsimp only
    rw [← hg]
    refine lcL_pure (p := geP) (F := id) _ fun x hx => ?_
    obtain ⟨i, _, rfl⟩ := List.mem_map.mp hx
    exact ⟨_, rfl, rfl, fun _ => rfl⟩
  have left : ∀ a4 a5 : Option SV, ∃ l : Int, (eIf (bCmp oNeX (hVar 3) (eC (.lst []))) (eBin oIx (hVar 3) (eC (.int 0))) (eC (.int 0))) [some (.d (.kls (ns.map .int))), some (.d (.int k)), some (.d (.lst (cs.map D.int))), some (.d (.lst (gs.map D.int))), a4, a5] st = .ok (.int l) st := fun a4 a5 => by
    cases gs with
    | nil => exact ⟨0, by simp⟩
    | cons g gs => exact ⟨g, by simp [oIx, place]⟩
  have loop := forL_all (b := tgN 5) (g := sSet 4 (eBin oMod (eBlt oInt (aCons (eBin oAdd (eBin oMul (hVar 4) (eC (.int 48271))) (hVar 5)) (aNil))) (eC (.int 2147483647))))
    (I := fun _ r s => s = st ∧ ∃ (s : Int) (a5 : Option SV), r = [some (.d (.kls (ns.map .int))), some (.d (.int k)), some (.d (.lst (cs.map D.int))), some (.d (.lst (gs.map D.int))), some (.d (.int s)), a5]) (cs.map D.int) [some (.d (.kls (ns.map .int))), some (.d (.int k)), some (.d (.lst (cs.map D.int))), some (.d (.lst (gs.map D.int))), some (.d (.int (59 + k))), none] st 0 ⟨rfl, _, _, rfl⟩ fun j x r s0 hx ⟨hs, s, a5, hr⟩ => by
      obtain ⟨i, _, rfl⟩ := List.mem_map.mp (List.mem_of_getElem? hx)
      subst hs hr
      refine ⟨_, _, _, rfl, ?_, rfl, (s * 48271 + i) % 2147483647, some (.d (.int i)), rfl⟩
      simp [q_mulI (j := 48271) (i := s) (.inr (by decide)), q_modI (show (0 : Int) < 2147483647 by decide)]
  obtain ⟨r2, st2, hloop, hst, s, a5, hr⟩ := loop
  subst hst hr
  obtain ⟨l, hl2⟩ := left (some (.d (.int s))) a5
  have last : (nCat (hVar 2) (nFz (nLst (aCons (eBin oAdd (eBin oMul (eC (.int 43)) (hVar 1)) (eC (.int 13))) (aNil))))) [some (.d (.kls (ns.map .int))), some (.d (.int k)), some (.d (.lst (cs.map D.int))), some (.d (.lst (gs.map D.int))), some (.d (.int s)), a5] st2 = .ok ((cs ++ [43 * k + 13]).map D.int) st2 := by
    rw [List.map_append]
    refine q_nCat (st1 := st2) rfl ?_ (by simp; omega)
    simp [lim1, q_mulI (i := 43) (j := k) (.inl (by decide))]
  refine ⟨st2 ++ [cell l s (cs ++ [43 * k + 13]) 0], ?_, ⟨l, s, cs ++ [43 * k + 13], 0, by simp, by simp, by omega, by omega⟩⟩
  have ob : ∀ {f : Env → Mo (List (D × D))} {r : Env}, f r st2 = .ok [(.str "left", .int l), (.str "seed", .int s), (.str "cells", .lst ((cs ++ [43 * k + 13]).map D.int)), (.str "spot", .int 0)] st2 → eObj f r st2 = .ok (.obj st2.length) (st2 ++ [cell l s (cs ++ [43 * k + 13]) 0]) := fun {f r} e => by
    unfold eObj
    rw [q_bind, e]
    have d : dispD [(D.str "left", .int l), (.str "seed", .int s), (.str "cells", .lst ((cs ++ [43 * k + 13]).map D.int)), (.str "spot", .int 0)] = some [(.inr "left", .int l), (.inr "seed", .int s), (.inr "cells", .lst ((cs ++ [43 * k + 13]).map D.int)), (.inr "spot", .int 0)] := by kernel_rfl
    show (Mo.opt (dispD _) >>= _) st2 = _
    rw [q_bind, d]
    rfl
  simp only [m__law_begun, q_run, g__law_begun]
  simp [cells, great, D.items]
  rw [hloop]
  simp only [seqR_nx, q_sRet]
  rw [ob (by simp only [q_prCons, q_eC, hl2, q_nFz, last, q_vCons0, q_vZero, q_prNil])]
  rfl
def sz : D → Int
  | .tup [.int p, .int m] => p ^ m.toNat
  | _ => 0
def pairs13 : List D := [.tup [.int 2, .int 1], .tup [.int 2, .int 2], .tup [.int 2, .int 3], .tup [.int 2, .int 4], .tup [.int 3, .int 1], .tup [.int 3, .int 2], .tup [.int 3, .int 3], .tup [.int 3, .int 4], .tup [.int 5, .int 1], .tup [.int 5, .int 2], .tup [.int 5, .int 3], .tup [.int 7, .int 1], .tup [.int 7, .int 2]]
theorem size13 {x : D} (h : x ∈ pairs13) (st : St) : m__law_size [x] st = .ok (.int (sz x)) st := by
  simp only [pairs13, List.mem_cons, List.not_mem_nil, or_false] at h
  rcases h with rfl | rfl | rfl | rfl | rfl | rfl | rfl | rfl | rfl | rfl | rfl | rfl | rfl <;> rfl
/-- a field as the law draws it -/
def IsF (x : D) : Prop := ∃ p m, x = frm p m ∧ (p = 2 ∨ p = 3 ∨ p = 5 ∨ p = 7) ∧ 1 ≤ m ∧ m ≤ 4 ∧ ffault x = none
theorem isF13 {x : D} (h : x ∈ pairs13) : IsF x := by
  simp only [pairs13, List.mem_cons, List.not_mem_nil, or_false] at h
  rcases h with rfl | rfl | rfl | rfl | rfl | rfl | rfl | rfl | rfl | rfl | rfl | rfl | rfl <;> exact ⟨_, _, rfl, by simp, by decide, by decide, rfl⟩
theorem frame_q {st : St} {n b : Nat} {most : Int} (g : Gd st n b) (hb : b ≤ top0) (hm : 2 ≤ most) : ∃ (x : D) (st' : St), m__law_frame [.obj n, .int most] st = .ok x st' ∧ (IsF x ∧ sz x ≤ most) ∧ Gd st' n (b + 1) := by
  have few : ∀ a3 : Option SV, (nLc (iDat (eVar 2)) (tgN 3) [3] (bCmp oLe (eCall m__law_size (aCons (eVar 3) (aNil))) (hVar 1)) (eVar 3)) [some (.d (.obj n)), some (.d (.int most)), some (.d (.lst pairs13)), a3] st = .ok ((pairs13.filter fun x => decide (sz x ≤ most)).map id) st := fun a3 => by
    unfold nLc
    rw [q_bind, q_iDat]
    show (lim pairs13.length pairs13 >>= _) st = _
    rw [q_bind, q_lim (by decide)]
    dsimp only
    refine lcL_pure (p := fun x => decide (sz x ≤ most)) (F := id) _ fun x hx => ⟨_, rfl, ?_, fun _ => rfl⟩
    simp [wipeE, tgN, size13 hx]
  have ne : (pairs13.filter fun x => decide (sz x ≤ most)).map id ≠ [] := by
    have : D.tup [.int 2, .int 1] ∈ pairs13.filter fun x => decide (sz x ≤ most) := by
      refine List.mem_filter.mpr ⟨by simp [pairs13], ?_⟩
      show decide ((2 : Int) ^ (1 : Int).toNat ≤ most) = true
      exact decide_eq_true (by simpa using hm)
    intro z
    rw [List.map_id] at z
    rw [z] at this
    cases this
  have le : ((pairs13.filter fun x => decide (sz x ≤ most)).map id).length ≤ 1000000 := by
    rw [List.length_map]
    refine Nat.le_trans (List.length_filter_le _ _) (by decide)
  obtain ⟨x, st', e, hx, g'⟩ := law_of_q g hb ne le
  rw [List.map_id] at hx
  have hx' := List.mem_filter.mp hx
  refine ⟨x, st', ?_, ⟨isF13 hx'.1, of_decide_eq_true hx'.2⟩, g'⟩
  have s0 : sSet 2 (eC (.lst pairs13)) [some (.d (.obj n)), some (.d (.int most)), none, none] st = .ok (.nx [some (.d (.obj n)), some (.d (.int most)), some (.d (.lst pairs13)), none]) st := rfl
  show m__law_frame [.obj n, .int most] st = _
  unfold m__law_frame
  rw [q_run]
  show endD (g__law_frame [some (.d (.obj n)), some (.d (.int most)), none, none] st) = _
  unfold g__law_frame
  rw [q_seq]
  show endD (seqR _ (sSet 2 (eC (.lst pairs13)) [some (.d (.obj n)), some (.d (.int most)), none, none] st)) = _
  rw [s0, seqR_nx, q_sRet, q_eCall, q_aCons, q_vZero]
  dsimp only
  rw [q_aCons, q_nFz, few]
  dsimp only
  rw [q_aNil]
  dsimp only
  rw [e]
  rfl
/-- a part that draws at most c times from the n-th store and gives what P says -/
def Wd_ (n c : Nat) (f : Mo D) (P : D → Prop) : Prop := ∀ (st : St) (b : Nat), Gd st n b → b + c ≤ top0 → ∃ (x : D) (st' : St), f st = .ok x st' ∧ P x ∧ Gd st' n (b + c)
def Wl_ (n c : Nat) (f : Mo (List D)) (l : Nat) (P : D → Prop) : Prop := ∀ (st : St) (b : Nat), Gd st n b → b + c ≤ top0 → ∃ (xs : List D) (st' : St), f st = .ok xs st' ∧ (∀ x ∈ xs, P x) ∧ xs.length = l ∧ Gd st' n (b + c)
section
variable {n c c1 c2 c' l : Nat} {r : Env} {P Q : D → Prop}
theorem Wd_.mono {f : Mo D} (h : Wd_ n c f P) (hc : c ≤ c') (hp : ∀ x, P x → Q x) : Wd_ n c' f Q := fun st b g hb => by
  obtain ⟨x, st', e, p, g'⟩ := h st b g (by omega)
  exact ⟨x, st', e, hp x p, g'.mono (by omega)⟩
theorem w_pure {f : Mo D} {x : D} (h : ∀ st, f st = .ok x st) (p : P x) : Wd_ n 0 f P := fun st b g _ => ⟨x, st, h st, p, g⟩
theorem w_nil : Wl_ n 0 (aNil r) 0 P := fun st b g _ => ⟨[], st, rfl, (fun x h => by cases h), rfl, g⟩
theorem w_cons {f : Env → Mo D} {g : Env → Mo (List D)} (h1 : Wd_ n c1 (f r) P) (h2 : Wl_ n c2 (g r) l P) : Wl_ n (c1 + c2) (aCons f g r) (l + 1) P := fun st b gd hb => by
  obtain ⟨x, st1, e1, p1, g1⟩ := h1 st b gd (by omega)
  obtain ⟨xs, st2, e2, p2, l2, g2⟩ := h2 st1 (b + c1) g1 (by omega)
  refine ⟨x :: xs, st2, ?_, fun y hy => ?_, by simp [l2], by rw [show b + (c1 + c2) = b + c1 + c2 by omega]; exact g2⟩
  · rw [q_aCons, e1]
    dsimp only
    rw [e2]
  · rcases List.mem_cons.mp hy with rfl | hy
    · exact p1
    · exact p2 y hy
/-- a tuple of at most l items as P says -/
def Tp (l : Nat) (P : D → Prop) (d : D) : Prop := ∃ xs, d = .tup xs ∧ xs.length ≤ l ∧ ∀ x ∈ xs, P x
def Lp (l : Nat) (P : D → Prop) (d : D) : Prop := ∃ xs, d = .lst xs ∧ xs.length ≤ l ∧ ∀ x ∈ xs, P x
theorem w_tup {f : Env → Mo (List D)} (h : Wl_ n c (f r) l P) (hl : l ≤ 16777216) : Wd_ n c (eTup f r) (Tp l P) := fun st b g hb => by
  obtain ⟨xs, st1, e1, p1, l1, g1⟩ := h st b g hb
  refine ⟨.tup xs, st1, ?_, ⟨xs, rfl, by omega, p1⟩, g1⟩
  rw [q_eTup, e1]
  exact q_lim (by omega)
theorem w_lst {f : Env → Mo (List D)} (h : Wl_ n c (f r) l P) (hl : l ≤ 16777216) : Wl_ n c (nLst f r) l P := fun st b g hb => by
  obtain ⟨xs, st1, e1, p1, l1, g1⟩ := h st b g hb
  refine ⟨xs, st1, ?_, p1, l1, g1⟩
  rw [q_nLst, e1]
  exact q_lim (by omega)
theorem w_fz {f : Env → Mo (List D)} (h : Wl_ n c (f r) l P) : Wd_ n c (nFz f r) (Lp l P) := fun st b g hb => by
  obtain ⟨xs, st1, e1, p1, l1, g1⟩ := h st b g hb
  refine ⟨.lst xs, st1, ?_, ⟨xs, rfl, by omega, p1⟩, g1⟩
  rw [q_nFz, e1]
theorem w_cat {f g : Env → Mo D} {l1 l2 : Nat} (h1 : Wd_ n c1 (f r) (fun d => ∃ xs, d = .lst xs ∧ xs.length = l1 ∧ ∀ x ∈ xs, P x)) (h2 : Wd_ n c2 (g r) (fun d => ∃ xs, d = .lst xs ∧ xs.length = l2 ∧ ∀ x ∈ xs, P x)) (hl : l1 + l2 ≤ 16777216) : Wl_ n (c1 + c2) (nCat f g r) (l1 + l2) P := fun st b gd hb => by
  obtain ⟨_, st1, e1, ⟨xs, rfl, n1, p1⟩, g1⟩ := h1 st b gd (by omega)
  obtain ⟨_, st2, e2, ⟨ys, rfl, n2, p2⟩, g2⟩ := h2 st1 (b + c1) g1 (by omega)
  refine ⟨xs ++ ys, st2, q_nCat e1 e2 (by omega), fun x hx => ?_, by simp [n1, n2], by rw [show b + (c1 + c2) = b + c1 + c2 by omega]; exact g2⟩
  rcases List.mem_append.mp hx with h | h
  · exact p1 x h
  · exact p2 x h
theorem w_fzE {f : Env → Mo (List D)} (h : Wl_ n c (f r) l P) : Wd_ n c (nFz f r) (fun d => ∃ xs, d = .lst xs ∧ xs.length = l ∧ ∀ x ∈ xs, P x) := fun st b g hb => by
  obtain ⟨xs, st1, e1, p1, l1, g1⟩ := h st b g hb
  refine ⟨.lst xs, st1, ?_, ⟨xs, rfl, l1, p1⟩, g1⟩
  rw [q_nFz, e1]
theorem w_addT {f g : Env → Mo D} {l1 l2 : Nat} (h1 : Wd_ n c1 (f r) (Tp l1 P)) (h2 : Wd_ n c2 (g r) (Tp l2 P)) (hl : l1 + l2 ≤ 16777216) : Wd_ n (c1 + c2) (eBin oAdd f g r) (Tp (l1 + l2) P) := fun st b gd hb => by
  obtain ⟨_, st1, e1, ⟨xs, rfl, n1, p1⟩, g1⟩ := h1 st b gd (by omega)
  obtain ⟨_, st2, e2, ⟨ys, rfl, n2, p2⟩, g2⟩ := h2 st1 (b + c1) g1 (by omega)
  refine ⟨.tup (xs ++ ys), st2, ?_, ⟨xs ++ ys, rfl, by simp; omega, fun x hx => ?_⟩, by rw [show b + (c1 + c2) = b + c1 + c2 by omega]; exact g2⟩
  · rw [q_eBin, e1]
    dsimp only
    rw [e2]
    dsimp only
    show Mo.opt (guardN (xs.length + ys.length) (D.tup (xs ++ ys))) st2 = _
    unfold guardN
    rw [Nat.ble_eq_true_of_le (by omega)]
    rfl
  · rcases List.mem_append.mp hx with h | h
    · exact p1 x h
    · exact p2 x h
theorem w_draw {i : Nat} {f : Env → Mo D} {many : Int} (hi : ∀ st, eVar i r st = .ok (.obj n) st) (hf : ∀ st, f r st = .ok (.int many) st) (m1 : 1 ≤ many) (m2 : many ≤ 1000000) : Wd_ n 1 (eCall m__law_draw (aCons (eVar i) (aCons f (aNil))) r) (fun x => ∃ v, x = .int v ∧ 0 ≤ v ∧ v < many) := fun st b g hb => by
  obtain ⟨v, st', e, v0, v1, g'⟩ := draw_q g (by omega) m1 m2
  refine ⟨.int v, st', ?_, ⟨v, rfl, v0, v1⟩, g'⟩
  rw [q_eCall, q_aCons, hi st]
  dsimp only
  rw [q_aCons, hf st]
  dsimp only
  rw [q_aNil]
  exact e
theorem w_of {i : Nat} {f : Env → Mo D} {P : D → Prop} (hi : ∀ st, eVar i r st = .ok (.obj n) st) (hf : Wd_ n c (f r) (fun d => ∃ xs, d = .lst xs ∧ xs ≠ [] ∧ xs.length ≤ 1000000 ∧ ∀ x ∈ xs, P x)) : Wd_ n (c + 1) (eCall m__law_of (aCons (eVar i) (aCons f (aNil))) r) P := fun st b g hb => by
  obtain ⟨_, st1, e1, ⟨xs, rfl, n1, n2, p1⟩, g1⟩ := hf st b g (by omega)
  obtain ⟨x, st', e, hx, g'⟩ := law_of_q g1 (by omega) n1 n2
  refine ⟨x, st', ?_, p1 x hx, by rw [show b + (c + 1) = b + c + 1 by omega]; exact g'⟩
  rw [q_eCall, q_aCons, hi st]
  dsimp only
  rw [q_aCons, e1]
  dsimp only
  rw [q_aNil]
  exact e
end
def Ws_ (n c : Nat) (g : Mo Fl) (P : D → Prop) : Prop := ∀ (st : St) (b : Nat), Gd st n b → b + c ≤ top0 → ∃ (x : D) (st' : St), g st = .ok (.ret x) st' ∧ P x ∧ Gd st' n (b + c)
section
variable {n c c1 c2 c' l : Nat} {r : Env} {P Q : D → Prop}
theorem Ws_.mono {g : Mo Fl} (h : Ws_ n c g P) (hc : c ≤ c') : Ws_ n c' g P := fun st b gd hb => by
  obtain ⟨x, st', e, p, g'⟩ := h st b gd (by omega)
  exact ⟨x, st', e, p, g'.mono (by omega)⟩
theorem s_ret {f : Env → Mo D} (h : Wd_ n c (f r) P) : Ws_ n c (sRet f r) P := fun st b g hb => by
  obtain ⟨x, st', e, p, g'⟩ := h st b g hb
  refine ⟨x, st', ?_, p, g'⟩
  rw [q_sRet, e]
theorem s_set {i : Nat} {f : Env → Mo D} {g : Stm} (h1 : Wd_ n c1 (f r) Q) (h2 : ∀ x, Q x → Ws_ n c2 (g (r.set i (some (.d x)))) P) : Ws_ n (c1 + c2) (sSeq (sSet i f) g r) P := fun st b gd hb => by
  obtain ⟨x, st1, e1, p1, g1⟩ := h1 st b gd (by omega)
  obtain ⟨y, st2, e2, p2, g2⟩ := h2 x p1 st1 (b + c1) g1 (by omega)
  refine ⟨y, st2, ?_, p2, by rw [show b + (c1 + c2) = b + c1 + c2 by omega]; exact g2⟩
  rw [q_seq, q_sSet, e1]
  exact e2
theorem s_own {i : Nat} {f : Env → Mo (List D)} {g : Stm} (h1 : Wl_ n c1 (f r) l Q) (h2 : ∀ xs, (∀ x ∈ xs, Q x) → xs.length = l → Ws_ n c2 (g (r.set i (some (.own xs)))) P) : Ws_ n (c1 + c2) (sSeq (sOwn i f) g r) P := fun st b gd hb => by
  obtain ⟨xs, st1, e1, p1, l1, g1⟩ := h1 st b gd (by omega)
  obtain ⟨y, st2, e2, p2, g2⟩ := h2 xs p1 l1 st1 (b + c1) g1 (by omega)
  refine ⟨y, st2, ?_, p2, by rw [show b + (c1 + c2) = b + c1 + c2 by omega]; exact g2⟩
  rw [q_seq, q_sOwn, e1]
  exact e2
theorem s_app {i : Nat} {f : Env → Mo D} {g : Stm} {xs : List D} (ho : r[i]? = some (some (.own xs))) (hl : xs.length < 16777216) (h1 : Wd_ n c1 (f r) Q) (h2 : ∀ x, Q x → Ws_ n c2 (g (r.set i (some (.own (xs ++ [x]))))) P) : Ws_ n (c1 + c2) (sSeq (sApp i f) g r) P := fun st b gd hb => by
  obtain ⟨x, st1, e1, p1, g1⟩ := h1 st b gd (by omega)
  obtain ⟨y, st2, e2, p2, g2⟩ := h2 x p1 st1 (b + c1) g1 (by omega)
  refine ⟨y, st2, ?_, p2, by rw [show b + (c1 + c2) = b + c1 + c2 by omega]; exact g2⟩
  have e : sApp i f r st = .ok (.nx (r.set i (some (.own (xs ++ [x]))))) st1 := by
    unfold sApp ownAt
    rw [ho]
    dsimp only
    rw [q_bind, e1]
    dsimp only
    have : Nat.blt xs.length 16777216 = true := Nat.ble_eq_true_of_le hl
    rw [this]
    rfl
  rw [q_seq, e]
  exact e2
theorem s_unp {is : List Nat} {f : Env → Mo D} {g : Stm} {xs : List D} (hf : ∀ st, f r st = .ok (.tup xs) st) (hl : xs.length = is.length) (h2 : Ws_ n c (g (setAll is xs r)) P) : Ws_ n c (sSeq (sUnp is f) g r) P := fun st b gd hb => by
  obtain ⟨y, st2, e2, p2, g2⟩ := h2 st b gd hb
  refine ⟨y, st2, ?_, p2, g2⟩
  have u : unpack is.length (.tup xs) = some xs := by
    show (match Nat.beq xs.length is.length with
      | true => some xs
      | false => none) = some xs
    rw [hl, Nat.beq_refl]
  rw [q_seq, q_sUnp, hf st]
  dsimp only
  rw [u]
  exact e2
/-- a test without draws -/
theorem s_if {t : Env → Mo Bool} {f : Stm} {g : Stm} {v : Bool} (ht : ∀ st, t r st = .ok v st) (h1 : v = true → Ws_ n c (f r) P) (h2 : v = false → Ws_ n c (g r) P) : Ws_ n c (sSeq (sIf t f sNext) g r) P := fun st b gd hb => by
  cases v with
  | false =>
    obtain ⟨x, st', e, p, g'⟩ := h2 rfl st b gd hb
    refine ⟨x, st', ?_, p, g'⟩
    rw [q_seq, q_sIf, ht st, ifR_f, q_next, seqR_nx]
    exact e
  | true =>
    obtain ⟨x, st', e, p, g'⟩ := h1 rfl st b gd hb
    refine ⟨x, st', ?_, p, g'⟩
    rw [q_seq, q_sIf, ht st, ifR_t, e]
    rfl
theorem s_ifRet {t : Env → Mo Bool} {f : Env → Mo D} {g : Stm} {v : Bool} (ht : ∀ st, t r st = .ok v st) (h1 : v = true → Wd_ n c (f r) P) (h2 : v = false → Ws_ n c (g r) P) : Ws_ n c (sSeq (sIf t (sRet f) sNext) g r) P :=
  s_if ht (fun e => s_ret (h1 e)) h2
theorem s_ifSet {t : Env → Mo Bool} {i : Nat} {f : Env → Mo D} {g : Stm} {v : Bool} (ht : ∀ st, t r st = .ok v st) (h1 : v = true → Wd_ n c1 (f r) Q) (h3 : v = true → ∀ x, Q x → Ws_ n c2 (g (r.set i (some (.d x)))) P) (h2 : v = false → Ws_ n c2 (g r) P) : Ws_ n (c1 + c2) (sSeq (sIf t (sSet i f) sNext) g r) P := by
  cases v with
  | false =>
      intro st b gd hb
      obtain ⟨x, st', e, p, g'⟩ := h2 rfl st b gd (by omega)
      refine ⟨x, st', ?_, p, g'.mono (by omega)⟩
      rw [q_seq, q_sIf, ht st, ifR_f, q_next, seqR_nx]
      exact e
  | true =>
      intro st b gd hb
      obtain ⟨x, st', e, p, g'⟩ := s_set (h1 rfl) (h3 rfl) st b gd hb
      refine ⟨x, st', ?_, p, g'⟩
      rw [q_seq] at e
      rw [q_seq, q_sIf, ht st, ifR_t]
      exact e
theorem w_def {k : Nat} {g : Stm} {ds : List D} (h : Ws_ n c (g (ds.map (fun x => some (.d x)) ++ List.replicate (k - ds.length) none)) P) : Wd_ n c (runD k g ds) P := fun st b gd hb => by
  obtain ⟨x, st', e, p, g'⟩ := h st b gd hb
  exact ⟨x, st', by rw [q_run, e]; rfl, p, g'⟩
end
/-- a comprehension that draws, of the items of a range or a list -/
theorem lcL_gen {b : D → Env → Option Env} {e : Env → Mo D} {r : Env} {n c : Nat} {P : D → Prop} : ∀ (xs : List D), (∀ x ∈ xs, ∃ r1, b x r = some r1 ∧ Wd_ n c (e r1) P) → Wl_ n (c * xs.length) (lcL b bYes e r xs) xs.length P
  | [], _ => fun st b g _ => ⟨[], st, rfl, (fun x h => by cases h), rfl, g⟩
  | x :: xs, h => fun st b' g hb => by
    obtain ⟨r1, h1, h2⟩ := h x (by simp)
    have m : c * (x :: xs).length = c + c * xs.length := by rw [List.length_cons, Nat.mul_succ]; omega
    rw [m] at hb ⊢
    obtain ⟨y, st1, e1, p1, g1⟩ := h2 st b' g (by omega)
    obtain ⟨ys, st2, e2, p2, l2, g2⟩ := lcL_gen xs (fun z hz => h z (by simp [hz])) st1 (b' + c) g1 (by omega)
    refine ⟨y :: ys, st2, ?_, fun z hz => ?_, by simp [l2], by rw [show b' + (c + c * xs.length) = b' + c + c * xs.length by omega]; exact g2⟩
    · show (Mo.opt (b x r) >>= fun r1 => nx (bYes r1) >>= fun k => match k with
        | true => nx (e r1) >>= fun y => lcL b bYes e r xs >>= fun ys => pure (y :: ys)
        | false => lcL b bYes e r xs) st = _
      rw [h1, q_bind, q_some]
      dsimp only
      have z : nx (bYes r1) st = .ok true st := rfl
      have z2 : nx (e r1) st = .ok y st1 := by
        unfold nx
        rw [e1]
      rw [q_bind, z]
      dsimp only
      rw [q_bind, z2]
      dsimp only
      rw [q_bind, e2]
      rfl
    · rcases List.mem_cons.mp hz with rfl | hz
      · exact p1
      · exact p2 z hz
theorem w_lc {it : Env → Mo (List D)} {b : D → Env → Option Env} {vs : List Nat} {e : Env → Mo D} {r : Env} {n c : Nat} {P : D → Prop} {xs : List D} (hi : ∀ st, it r st = .ok xs st) (hl : xs.length ≤ 16777216) (h : ∀ x ∈ xs, ∃ r1, b x (wipeE vs r) = some r1 ∧ Wd_ n c (e r1) P) : Wl_ n (c * xs.length) (nLc it b vs bYes e r) xs.length P := fun st b' g hb => by
  obtain ⟨ys, st2, e2, p2, l2, g2⟩ := lcL_gen xs h st b' g hb
  refine ⟨ys, st2, ?_, p2, l2, g2⟩
  unfold nLc
  rw [q_bind, hi st]
  dsimp only
  rw [q_bind, q_lim hl]
  exact e2
def tlen : D → Nat
  | .tup xs => xs.length
  | _ => 0
/-- bounded data; a tuple has at most L items -/
structure Bl (L N K : Nat) (x : D) : Prop where
  bd : Bd N K x
  tl : tlen x ≤ L
theorem Bl.mono {L N K L' N' K' : Nat} {x : D} (h : Bl L N K x) (h1 : L ≤ L') (h2 : N ≤ N') (h3 : K ≤ K') : Bl L' N' K' x := ⟨h.bd.mono h2 h3, Nat.le_trans h.tl h1⟩
def Od : D → Prop := Bl 3 300 40
theorem bd_t1 {n k : Nat} {x : D} (h : Bd n k x) : Bd (n + 5) (k + 1) (.tup [x]) := (bd_tup (l := 1) (xs := [x]) (fun y hy => by
  simp only [List.mem_cons, List.not_mem_nil, or_false] at hy
  subst hy
  exact h) (by simp) (by omega)).mono (by omega) (by omega)
def odds21 : List D := [.non, .bl true, .bl false, .int 0, .int 1, .int 2, .int 4, .int 6, .int 8, .int (-1), .int 31, .int 10000000000000000000000000000000000000000, .str "2", .str "", .str "x0", .lst [], .dct [], .tup [], .tup [.int 1], .lst [.int 1, .int 2], .tup [.int 0, .int 1, .int 2]]
def odds2 (x : D) : List D := [.dct [(.inr "P", .int 3)], .tup [.tup [.int 0], .int 1], x]
def blB (L N K : Nat) (x : D) : Bool := bdB N K x && Nat.ble (tlen x) L
theorem bl_of {L N K : Nat} {x : D} (h : blB L N K x = true) : Bl L N K x := by
  unfold blB at h
  rw [Bool.and_eq_true] at h
  exact ⟨bd_of h.1, Nat.le_of_ble_eq_true h.2⟩
theorem odds21_bd : odds21.all (blB 3 300 40) = true := by decide +kernel
theorem odds2_bd : ([.dct [(.inr "P", .int 3)], .tup [.tup [.int 0], .int 1]] : List D).all (blB 3 300 40) = true := by decide +kernel
theorem join_mem {sep : Str} : ∀ (ts : List Str) (t : Str), t ∈ ts → t.length ≤ (Str.join sep ts).length
  | [], t, h => by cases h
  | [u], t, h => by
    simp only [List.mem_cons, List.not_mem_nil, or_false] at h
    subst h
    exact Nat.le_refl _
  | u :: v :: r, t, h => by
    show t.length ≤ (u ++ sep ++ Str.join sep (v :: r)).length
    rw [strLen_append, strLen_append]
    rcases List.mem_cons.mp h with rfl | h
    · omega
    · have := join_mem (sep := sep) (v :: r) t h
      omega
theorem shownAll_mem : ∀ (xs : List D) (x : D), x ∈ xs → x.py.shown ∈ PyData.shownAll (D.pyAll xs)
  | y :: ys, x, h => by
    simp only [D.pyAll, PyData.shownAll, List.mem_cons]
    rcases List.mem_cons.mp h with rfl | h
    · exact .inl rfl
    · exact .inr (shownAll_mem ys x h)
theorem showable_mem : ∀ (xs : List D), PyData.showableAll (D.pyAll xs) = true → ∀ x ∈ xs, x.py.showable = true
  | y :: ys, h, x, hx => by
    simp only [D.pyAll, PyData.showableAll, Bool.and_eq_true] at h
    rcases List.mem_cons.mp hx with rfl | hx
    · exact h.1
    · exact showable_mem ys h.2 x hx
theorem depth_mem : ∀ (xs : List D) (x : D), x ∈ xs → x.py.depth ≤ PyData.depthAll (D.pyAll xs)
  | y :: ys, x, hx => by
    simp only [D.pyAll, PyData.depthAll]
    rcases List.mem_cons.mp hx with rfl | hx
    · omega
    · have := depth_mem ys x hx
      omega
theorem bd_items {n k : Nat} {xs : List D} (h : Bd n k (.tup xs)) : ∀ x ∈ xs, Bd n k x := fun x hx => by
  refine ⟨pl_tup.mp h.pl x hx, (short_tup.mp h.ss).2 x hx, ?_, ?_, ?_⟩
  · have := h.sh
    have e : (PyData.tuple (D.pyAll xs)).showable = true := this
    simp only [PyData.showable] at e
    exact showable_mem xs e x hx
  · have e : (PyData.tuple (D.pyAll xs)).depth ≤ k := h.dp
    simp only [PyData.depth] at e
    have := depth_mem xs x hx
    omega
  · have e : (PyData.tuple (D.pyAll xs)).shown.length ≤ n := h.ln
    simp only [PyData.shown] at e
    unfold tupleText at e
    rw [strLen_append, strLen_append] at e
    have := join_mem (sep := ", ") _ _ (shownAll_mem xs x hx)
    omega
theorem bl_tup {n k l L : Nat} {xs : List D} (h : ∀ x ∈ xs, Bd n k x) (hl : xs.length ≤ l) (hm : l ≤ 1000) : Bl l ((n + 2) * l + 3) (k + 1) (.tup xs) := ⟨bd_tup h hl (by omega), hl⟩
theorem w_cutT {n : Nat} {r : Env} {f : Env → Mo D} {lo hi : Env → Mo (Option Int)} {xs : List D} {l u : Option Int} {P : D → Prop} (h1 : ∀ st, f r st = .ok (.tup xs) st) (h2 : ∀ st, lo r st = .ok l st) (h3 : ∀ st, hi r st = .ok u st) (hp : ∀ x ∈ xs, P x) (m : Nat) (hm : (cutD xs l u).length ≤ m) : Wd_ n 0 (eSlice f lo hi r) (Tp m P) := w_pure (x := .tup (cutD xs l u)) (fun st => by
  unfold eSlice
  rw [q_bind, h1]
  dsimp only
  rw [q_bind, h2]
  dsimp only
  rw [q_bind, h3]
  rfl) ⟨_, rfl, hm, fun x hx => hp x (List.mem_of_mem_drop (List.mem_of_mem_take hx))⟩
theorem sx_nat {n d i : Nat} (h : i ≤ n) : sx n d (some (i : Int)) = i := by
  show (match decide ((i : Int) < 0) with
    | true => ((i : Int) + n).toNat
    | false => (match decide ((i : Int) < n) with
      | true => (i : Int).toNat
      | false => n)) = i
  rw [decide_eq_false (show ¬ ((i : Int) < 0) by omega)]
  by_cases e : i = n
  · rw [decide_eq_false (show ¬ ((i : Int) < (n : Int)) by omega)]
    exact e.symm
  · rw [decide_eq_true (show ((i : Int) < (n : Int)) by omega)]
    rfl
theorem cut_lo (xs : List D) (v : Nat) (h : v ≤ xs.length) : (cutD xs none (some (v : Int))).length = v := by
  unfold cutD
  rw [sx_nat h]
  show (List.take (v - 0) (List.drop 0 xs)).length = v
  simp
  omega
theorem cut_hi (xs : List D) (v : Nat) (h : v < xs.length) : (cutD xs (some ((v : Int) + 1)) none).length = xs.length - (v + 1) := by
  have e : ((v : Int) + 1) = ((v + 1 : Nat) : Int) := by omega
  unfold cutD
  rw [e, sx_nat (by omega)]
  show (List.take (xs.length - (v + 1)) (List.drop (v + 1) xs)).length = _
  simp
theorem cut_at (xs : List D) (v : Nat) (h : v < xs.length) : cutD xs (some (v : Int)) (some ((v : Int) + 1)) = [xs[v]] := by
  have e : ((v : Int) + 1) = ((v + 1 : Nat) : Int) := by omega
  unfold cutD
  rw [e, sx_nat (by omega), sx_nat (by omega), show v + 1 - v = 1 by omega, List.drop_eq_getElem_cons h]
  rfl
def ints11 : List D := [.int 2, .int 3, .int 5, .int 7, .int 2, .int 3, .int 1, .int 4, .int 6, .int 9, .int 11]
def SmI (d : D) : Prop := ∃ i, d = .int i ∧ -100 ≤ i ∧ i ≤ 100
theorem smI_bd {d : D} (h : SmI d) : Bd 5 0 d := by
  obtain ⟨i, rfl, h1, h2⟩ := h
  exact bd_int (by omega) (by omega)
theorem ints11_sm : ∀ x ∈ ints11, SmI x := fun x hx => by
  simp only [ints11, List.mem_cons, List.not_mem_nil, or_false] at hx
  rcases hx with rfl | rfl | rfl | rfl | rfl | rfl | rfl | rfl | rfl | rfl | rfl <;> exact ⟨_, rfl, by decide, by decide⟩
def Pr (d : D) : Prop := Bl 8 2000 45 d
theorem od_pr {x : D} (h : Od x) : Pr x := Bl.mono h (by omega) (by omega) (by omega)
theorem tp_pr {l : Nat} {d : D} (h : Tp l Od d) (hl : l ≤ 4) : Pr d := by
  obtain ⟨xs, rfl, n1, p⟩ := h
  exact Bl.mono (bl_tup (L := 0) (fun x hx => (p x hx).bd) (Nat.le_trans n1 hl) (by omega)) (by omega) (by omega) (by omega)
theorem sm_od {x : D} (h : SmI x) : Od x := ⟨(smI_bd h).mono (by omega) (by omega), by obtain ⟨i, rfl, _⟩ := h; simp [tlen]⟩
theorem seven_q (i j : Int) (a0 a2 a3 : Option SV) (st : St) : nFz (nLst (aCons (nFz (eBlt nList (aCons (hVar 1) (aNil)))) (aCons (eBin oAdd (hVar 1) (eC (.tup [.int 0]))) (aCons (eSlice (eVar 1) (pNone) (pSome (eC (.int 1)))) (aCons (eDisp (prCons (eBin oIx (hVar 1) (eC (.int 0))) (eBin oIx (hVar 1) (eC (.int 1))) (prNil))) (aCons (eBin oAdd (hVar 1) (hVar 1)) (aCons (eTup (aCons (eVar 1) (aNil))) (aCons (eRev (eVar 1) (eUn oNeg (eC (.int 1)))) (aNil))))))))) [a0, some (.d (.tup [.int i, .int j])), a2, a3] st = .ok (.lst [.lst [.int i, .int j], .tup [.int i, .int j, .int 0], .tup [.int i], .dct [(.inl i, .int j)], .tup [.int i, .int j, .int i, .int j], .tup [.tup [.int i, .int j]], .tup [.int j, .int i]]) st := by kernel_rfl
theorem pick_mem {b : Type} {xs : List b} {is : List Nat} {x : b} (h : x ∈ pickL xs is) : x ∈ xs := by
  unfold pickL at h
  obtain ⟨i, _, e⟩ := List.mem_filterMap.mp h
  exact List.mem_of_getElem? e
theorem pick_le {b : Type} (xs : List b) (is : List Nat) : (pickL xs is).length ≤ is.length := List.length_filterMap_le _ _
theorem rev_len (n : Nat) : (revIx n).length = n := by simp [revIx]
theorem q_eRev {f : Env → Mo D} {r : Env} {st : St} {xs : List D} (h : f r st = .ok (.tup xs) st) : eRev f (eUn oNeg (eC (.int 1))) r st = .ok (.tup (pickL xs (revIx xs.length))) st := by
  unfold eRev
  rw [q_bind, h]
  rfl
section
variable {n L N K : Nat} {p m : Int}
def Bt (L N K : Nat) : D → Prop := Bl (L + 8) ((N + 8002) * (L + 8) + 3) (K + 46)
theorem bt_list {L N K : Nat} {xs : List D} (h : ∀ x ∈ xs, Bd (N + 8000) (K + 45) x) (hl : xs.length ≤ L + 8) (hL : L ≤ 100) : Bt L N K (.tup xs) := (bl_tup (L := 0) (l := L + 8) h hl (by omega)).mono (Nat.le_refl _) (Nat.le_refl _) (by omega)
theorem bt_lst {L N K : Nat} {xs : List D} (h : ∀ x ∈ xs, Bd (N + 8000) (K + 45) x) (hl : xs.length ≤ L + 8) (hL : L ≤ 100) : Bt L N K (.lst xs) := ⟨(bd_lst h hl (by omega)).mono (Nat.le_refl _) (by omega), Nat.zero_le _⟩
theorem mul_ge (a b : Nat) (h : 1 ≤ b) : a ≤ a * b := Nat.le_mul_of_pos_right a h
theorem bt_of {x : D} (h : Bl 3 300 40 x) : Bt L N K x := by
  have := mul_ge (N + 8002) (L + 8) (by omega)
  exact h.mono (by omega) (by omega) (by omega)
theorem bt_one {x : D} (h : Bd (N + 8000) (K + 45) x) : Bt L N K (.tup [x]) := by
  have := mul_ge (N + 8002) (L + 8) (by omega)
  exact ⟨(bd_t1 h).mono (by omega) (by omega), by simp [tlen]⟩
end
/-- the terms of a drawn polynomial: powers, factor -/
abbrev Tms := List (List Int × Int)
def kI (k : List Int) : List Key := k.map Sum.inl
def enc (ms : Tms) : List (List Key × D) := ms.map fun q => (kI q.1, .int q.2)
def TmOk (p m high : Int) (q : List Int × Int) : Prop := (q.1.length : Int) = m ∧ (∀ i ∈ q.1, 0 ≤ i ∧ i ≤ high) ∧ 1 ≤ q.2 ∧ q.2 ≤ p - 1
def termD (q : List Int × Int) : D := .tup [.tup (q.1.map .int), .int q.2]
theorem kI_inj {a b : List Int} (h : kI a = kI b) : a = b := by
  unfold kI at h
  exact (List.map_inj_right (fun x y e => by cases e; rfl)).mp h
theorem put_enc (k : List Int) (c : Int) (ms : Tms) (nd : (ms.map (·.1)).Nodup) : ∃ ns : Tms, putT (enc ms) (kI k) (.int c) = enc ns ∧ ns.length ≤ ms.length + 1 ∧ (ns.map (·.1)).Nodup ∧ ∀ q ∈ ns, q ∈ ms ∨ q = (k, c) := by
  have rep : ∀ ms : Tms, ∃ ns : Tms, repT (kI k) (.int c) (enc ms) = enc ns ∧ ns.map (·.1) = ms.map (·.1) ∧ ∀ q ∈ ns, q ∈ ms ∨ q = (k, c) := fun ms => by
    induction ms with
    | nil => exact ⟨[], rfl, rfl, fun q h => by cases h⟩
    | cons q ms ih =>
      obtain ⟨ns, h1, h2, h3⟩ := ih
      show ∃ ns : Tms, (match decide (kI q.1 = kI k) with
        | true => (kI q.1, D.int c) :: repT (kI k) (.int c) (enc ms)
        | false => (kI q.1, .int q.2) :: repT (kI k) (.int c) (enc ms)) = enc ns ∧ _
      by_cases e : kI q.1 = kI k
      · have e' := kI_inj e
        rw [decide_eq_true e]
        refine ⟨(k, c) :: ns, ?_, by simp [h2, e'], fun z hz => ?_⟩
        · dsimp only
          rw [h1, e]
          rfl
        · rcases List.mem_cons.mp hz with rfl | hz
          · exact .inr rfl
          · rcases h3 z hz with h | h
            · exact .inl (List.mem_cons_of_mem _ h)
            · exact .inr h
      · rw [decide_eq_false e]
        refine ⟨q :: ns, ?_, by simp [h2], fun z hz => ?_⟩
        · dsimp only
          rw [h1]
          rfl
        · rcases List.mem_cons.mp hz with rfl | hz
          · exact .inl (List.mem_cons_self ..)
          · rcases h3 z hz with h | h
            · exact .inl (List.mem_cons_of_mem _ h)
            · exact .inr h
  have has : ∀ ms : Tms, hasT (kI k) (enc ms) = false → k ∉ ms.map (·.1) := fun ms => by
    induction ms with
    | nil => simp
    | cons q ms ih =>
      intro h
      have h' : (match decide (kI q.1 = kI k) with
        | true => true
        | false => hasT (kI k) (enc ms)) = false := h
      by_cases e : kI q.1 = kI k
      · rw [decide_eq_true e] at h'
        cases h'
      · rw [decide_eq_false e] at h'
        have := ih h'
        simp only [List.map_cons, List.mem_cons, not_or]
        exact ⟨fun z => e (by rw [z]), this⟩
  unfold putT
  cases e : hasT (kI k) (enc ms) with
  | true =>
    obtain ⟨ns, h1, h2, h3⟩ := rep ms
    refine ⟨ns, h1, ?_, by rw [h2]; exact nd, h3⟩
    have := congrArg List.length h2
    simp at this
    omega
  | false =>
    refine ⟨ms ++ [(k, c)], by simp [enc], by simp, ?_, fun q hq => ?_⟩
    · have := has ms e
      rw [List.map_append]
      exact List.nodup_append.mpr ⟨nd, by simp, fun a ha b hb => by simp at hb; subst hb; intro z; subst z; exact this ha⟩
    · rcases List.mem_append.mp hq with h | h
      · exact .inl h
      · simp at h
        exact .inr h
theorem intKs_enc : ∀ ms : Tms, intKs (enc ms) = some (ms.map (·.1))
  | [] => rfl
  | q :: ms => by
    have e : ∀ k : List Int, intK (kI k) = some k := fun k => by
      induction k with
      | nil => rfl
      | cons i k ih =>
        show (intK (kI k)).map (fun l => i :: l) = _
        rw [ih]
        rfl
    show (intK (kI q.1)).bind (fun j => (intKs (enc ms)).map fun l => j :: l) = _
    rw [e, intKs_enc ms]
    rfl
theorem mem_insK {k x : List Int} : ∀ {l : List (List Int)}, x ∈ insK k l → x = k ∨ x ∈ l
  | [], h => by
    have h' : x ∈ [k] := h
    simp at h'
    exact .inl h'
  | j :: r, h => by
    unfold insK at h
    split at h
    · rcases List.mem_cons.mp h with h | h
      · exact .inl h
      · exact .inr h
    · rcases List.mem_cons.mp h with h | h
      · exact .inr (by simp [h])
      · rcases mem_insK h with h | h
        · exact .inl h
        · exact .inr (by simp [h])
theorem len_insK {k : List Int} : ∀ {l : List (List Int)}, (insK k l).length = l.length + 1
  | [] => rfl
  | j :: r => by
    unfold insK
    split
    · rfl
    · simp [len_insK]
theorem mem_sortK {x : List Int} : ∀ {l : List (List Int)}, x ∈ sortK l → x ∈ l
  | k :: r, h => by
    rcases mem_insK (show x ∈ insK k (sortK r) from h) with h | h
    · simp [h]
    · simp [mem_sortK h]
theorem len_sortK : ∀ {l : List (List Int)}, (sortK l).length = l.length
  | [] => rfl
  | k :: r => by
    show (insK k (sortK r)).length = _
    rw [len_insK, len_sortK]
    rfl
theorem getT_mem {k : List Int} : ∀ {ms : Tms}, k ∈ ms.map (·.1) → ∃ c, getT (kI k) (enc ms) = some (.int c) ∧ (k, c) ∈ ms
  | q :: ms, h => by
    show ∃ c, (match decide (kI q.1 = kI k) with
      | true => some (D.int q.2)
      | false => getT (kI k) (enc ms)) = some (.int c) ∧ _
    by_cases e : kI q.1 = kI k
    · rw [decide_eq_true e]
      have e' := kI_inj e
      exact ⟨q.2, rfl, by rw [← e']; exact List.mem_cons_self ..⟩
    · rw [decide_eq_false e]
      rcases List.mem_cons.mp h with h | h
      · exact absurd (by rw [h]) e
      · obtain ⟨c, h1, h2⟩ := getT_mem h
        exact ⟨c, h1, List.mem_cons_of_mem _ h2⟩
theorem tkey_ints : ∀ k : List Int, tkey (.tup (k.map .int)) = some (kI k) := fun k => by
  show keysOf (k.map .int) = _
  induction k with
  | nil => rfl
  | cons i k ih =>
    show (D.key (.int i)).bind (fun k' => (keysOf (k.map .int)).map fun l => k' :: l) = _
    rw [ih]
    rfl
theorem rng1_q {u : Int} (h0 : 0 ≤ u) (h1 : u ≤ 1000000) : rng1 [.int u] = some (rangeD 0 u.toNat) := by
  show (match decide (-4611686018427387904 ≤ u) && decide (u < 4611686018427387904) with
    | true => some (rangeD 0 u.toNat)
    | false => none) = _
  rw [decide_eq_true (by omega), decide_eq_true (by omega)]
  rfl
theorem putT_q {i : Nat} {f g : Env → Mo D} {r : Env} {st st1 st2 : St} {kvs : List (List Key × D)} {x y : D} {k : List Key} (hr : r[i]? = some (some (.odT kvs))) (hg : g r st = .ok y st1) (hf : f r st1 = .ok x st2) (hk : tkey x = some k) (hl : kvs.length < 16777216) : sPutT i f g r st = .ok (.nx (r.set i (some (.odT (putT kvs k y))))) st2 := by
  unfold sPutT dtAt
  rw [hr]
  dsimp only
  rw [q_bind, hg]
  dsimp only
  rw [q_bind, hf]
  dsimp only
  rw [q_bind, hk, q_some]
  dsimp only
  rw [show Nat.blt kvs.length 16777216 = true from Nat.ble_eq_true_of_le hl]
  rfl
section
variable {n : Nat} {p m high many : Int}
/-- powers that are drawn -/
theorem key_q (hm : 1 ≤ m ∧ m ≤ 4) (hh : 0 ≤ high ∧ high ≤ 1000) {a2 a4 a5 a6 : Option SV} : Wd_ n 8 (eBlt oTuple (aCons (nFz (nLc (iRng1 (aCons (eBin oIx (hVar 1) (eC (.int 1))) (aNil))) (tgN 7) [7] (bYes) (eIf (bCmp oGt (eCall m__law_draw (aCons (eVar 0) (aCons (eC (.int 3)) (aNil)))) (eC (.int 0))) (eCall m__law_draw (aCons (eVar 0) (aCons (eBin oAdd (hVar 3) (eC (.int 1))) (aNil)))) (eC (.int 0))))) (aNil)) [some (.d (.obj n)), some (.d (frm p m)), a2, some (.d (.int high)), a4, a5, a6, none]) (fun d => ∃ k : List Int, d = .tup (k.map .int) ∧ (k.length : Int) = m ∧ ∀ i ∈ k, 0 ≤ i ∧ i ≤ high) := fun st b g hb => by
  obtain ⟨M, hM⟩ := Int.eq_ofNat_of_zero_le (show 0 ≤ m by omega)
  have rl : (rangeD 0 M).length = M := by simp [rangeD]
  have lc := w_lc (n := n) (c := 2) (b := tgN 7) (vs := [7]) (r := [some (.d (.obj n)), some (.d (frm p m)), a2, some (.d (.int high)), a4, a5, a6, none]) (it := iRng1 (aCons (eBin oIx (hVar 1) (eC (.int 1))) (aNil))) (e := eIf (bCmp oGt (eCall m__law_draw (aCons (eVar 0) (aCons (eC (.int 3)) (aNil)))) (eC (.int 0))) (eCall m__law_draw (aCons (eVar 0) (aCons (eBin oAdd (hVar 3) (eC (.int 1))) (aNil)))) (eC (.int 0))) (xs := rangeD 0 M)
    (P := fun y => ∃ i : Int, y = .int i ∧ 0 ≤ i ∧ i ≤ high) (fun st => by
      have rg : rng1 [.int m] = some (rangeD 0 M) := by
        rw [rng1_q (by omega) (by omega), hM]
        rfl
      simp [oIx, place, rg]) (by rw [rl]; omega) (fun x _ => ⟨_, rfl, fun st b g hb => by
      obtain ⟨v, st1, e1, v0, v1, g1⟩ := draw_q (many := 3) g (by omega) (by omega) (by omega)
      by_cases z : 0 < v
      · obtain ⟨u, st2, e2, u0, u1, g2⟩ := draw_q (many := high + 1) g1 (by omega) (by omega) (by omega)
        exact ⟨.int u, st2, by simp [wipeE, e1, e2, z], ⟨u, rfl, u0, by omega⟩, g2⟩
      · exact ⟨.int 0, st1, by simp [wipeE, e1, z], ⟨0, rfl, by omega, by omega⟩, g1.mono (by omega)⟩⟩)
  rw [rl] at lc
  have hc : 2 * M ≤ 8 := by omega
  obtain ⟨ys, st2, e2, py, ly, g2⟩ := lc st b g (by omega)
  have hints : ∃ k : List Int, ys = k.map D.int ∧ ∀ i ∈ k, 0 ≤ i ∧ i ≤ high := by
    clear e2 ly
    induction ys with
    | nil => exact ⟨[], rfl, fun i h => by cases h⟩
    | cons y ys ih =>
      obtain ⟨k, hk, pk⟩ := ih fun x hx => py x (List.mem_cons_of_mem _ hx)
      obtain ⟨i, hi, i0, i1⟩ := py y (List.mem_cons_self ..)
      exact ⟨i :: k, by rw [hk, hi]; rfl, fun j hj => by
        rcases List.mem_cons.mp hj with rfl | hj
        · exact ⟨i0, i1⟩
        · exact pk j hj⟩
  obtain ⟨k, rfl, pk⟩ := hints
  refine ⟨.tup (k.map .int), st2, ?_, ⟨k, rfl, by rw [List.length_map] at ly; omega, pk⟩, g2.mono (by omega)⟩
  rw [q_eBlt, q_aCons, q_nFz, e2]
  rfl
theorem lex_code : ∀ (a b : List Int), a.length = b.length → TS.Bd 1024 a → TS.Bd 1024 b → TS.code 1024 a ≤ TS.code 1024 b → a ≠ b → lexI a b = true
  | [], [], _, _, _, _, ne => absurd rfl ne
  | x :: a, y :: b, hl, ha, hb, hc, ne => by
    show (if x = y then lexI a b else decide (x < y)) = true
    have hl' : a.length = b.length := by simpa using hl
    by_cases e : x = y
    · subst e
      rw [if_pos rfl]
      have hc' : x * 1024 ^ a.length + TS.code 1024 a ≤ x * 1024 ^ b.length + TS.code 1024 b := hc
      rw [hl'] at hc'
      exact lex_code a b hl' ha.tail hb.tail (by omega) fun z => ne (by rw [z])
    · rw [if_neg e]
      refine decide_eq_true ?_
      by_cases l : x < y
      · exact l
      · have := TS.code_lt hl'.symm hb.tail ha.tail (show y < x by omega)
        omega
  | [], _ :: _, h, _, _, _, _ => by simp at h
  | _ :: _, [], h, _, _, _, _ => by simp at h
theorem sortK_lex {d : Nat} {l : List (List Int)} (nd : l.Nodup) (h : ∀ k ∈ l, k.length = d ∧ TS.Bd 1024 k) : (sortK l).Pairwise fun a b => lexI a b = true := by
  have hp := sortK_perm l
  have nd2 : (sortK l).Pairwise (fun a b => a ≠ b) := hp.nodup_iff.mpr nd
  have up2 := sortK_up l
  have both_ := up2.and nd2
  refine both_.imp_of_mem fun {a b} ha hb z => ?_
  obtain ⟨a1, a2⟩ := h a (hp.mem_iff.mp ha)
  obtain ⟨b1, b2⟩ := h b (hp.mem_iff.mp hb)
  exact lex_code a b (by omega) a2 b2 z.1 z.2
def ShOk (p m high : Int) (many : Nat) (x : D) : Prop := ∃ ns : Tms, x = .tup (ns.map termD) ∧ ns.length ≤ many ∧ (∀ q ∈ ns, TmOk p m high q) ∧ ns.Pairwise fun a b => lexI a.1 b.1 = true
theorem sheet_q {M : Nat} (hp : 2 ≤ p ∧ p ≤ 7) (hm : 1 ≤ m ∧ m ≤ 4) (hh : 0 ≤ high ∧ high ≤ 1000) (hM : M ≤ 60) : Wd_ n (1 + 9 * M) (m__law_sheet [.obj n, frm p m, .int M, .int high]) (ShOk p m high M) := fun st b g hb => by
  obtain ⟨v, st1, e1, v0, v1, g1⟩ := draw_q (many := (M : Int) + 1) g (by omega) (by omega) (by omega)
  obtain ⟨V, rfl⟩ := Int.eq_ofNat_of_zero_le v0
  have rg : rng1 [.int (V : Int)] = some (rangeD 0 V) := by
    rw [rng1_q (by omega) (by omega), Int.toNat_natCast]
  have rl : (rangeD 0 V).length = V := by simp [rangeD]
  have loop := forL_all (b := tgN 5) (g := sSeq (sSet 6 (eBlt oTuple (aCons (nFz (nLc (iRng1 (aCons (eBin oIx (hVar 1) (eC (.int 1))) (aNil))) (tgN 7) [7] (bYes) (eIf (bCmp oGt (eCall m__law_draw (aCons (eVar 0) (aCons (eC (.int 3)) (aNil)))) (eC (.int 0))) (eCall m__law_draw (aCons (eVar 0) (aCons (eBin oAdd (hVar 3) (eC (.int 1))) (aNil)))) (eC (.int 0))))) (aNil)))) (sPutT 4 (eVar 6) (eBin oAdd (eC (.int 1)) (eCall m__law_draw (aCons (eVar 0) (aCons (eBin oSub (eBin oIx (hVar 1) (eC (.int 0))) (eC (.int 1))) (aNil)))))))
    (I := fun k r s => Gd s n (b + 1 + 9 * k) ∧ ∃ (ms : Tms) (a5 a6 : Option SV), r = [some (.d (.obj n)), some (.d (frm p m)), some (.d (.int M)), some (.d (.int high)), some (.odT (enc ms)), a5, a6, none] ∧ ms.length ≤ k ∧ (ms.map (·.1)).Nodup ∧ ∀ q ∈ ms, TmOk p m high q) (rangeD 0 V) [some (.d (.obj n)), some (.d (frm p m)), some (.d (.int M)), some (.d (.int high)), some (.odT []), none, none, none] st1 0
    ⟨g1.mono (by omega), [], none, none, rfl, by simp, by simp, fun q h => by cases h⟩ fun k x r s hx ⟨gs, ms, a5, a6, hr, hl, nd, ok⟩ => by
      subst hr
      have hk : k < V := by
        have := (List.getElem?_eq_some_iff.mp hx).1
        omega
      obtain ⟨_, s1, f1, ⟨key, rfl, kl, kb⟩, gs1⟩ := key_q (n := n) (p := p) hm hh (a2 := some (.d (.int M))) (a4 := some (.odT (enc ms))) (a5 := some (.d x)) (a6 := a6) s _ gs (by omega)
      obtain ⟨u, s2, f2, u0, u1, gs2⟩ := draw_q (many := p - 1) gs1 (by omega) (by omega) (by omega)
      obtain ⟨ns, n1, n2, n3, n4⟩ := put_enc key (1 + u) ms nd
      refine ⟨_, [some (.d (.obj n)), some (.d (frm p m)), some (.d (.int M)), some (.d (.int high)), some (.odT (enc ns)), some (.d x), some (.d (.tup (key.map .int))), none], s2, rfl, ?_, gs2.mono (by omega), ns, _, _, rfl, by omega, n3, fun q hq => ?_⟩
      · rw [q_seq, q_sSet]
        show seqR _ (match eBlt oTuple _ [some (.d (.obj n)), some (.d (frm p m)), some (.d (.int M)), some (.d (.int high)), some (.odT (enc ms)), some (.d x), a6, none] s with
          | .ok x st' => _
          | .err k x st' => _
          | .bad => _) = _
        rw [f1]
        show sPutT 4 _ _ [some (.d (.obj n)), some (.d (frm p m)), some (.d (.int M)), some (.d (.int high)), some (.odT (enc ms)), some (.d x), some (.d (.tup (key.map .int))), none] s1 = _
        have fv : (eBin oAdd (eC (.int 1)) (eCall m__law_draw (aCons (eVar 0) (aCons (eBin oSub (eBin oIx (hVar 1) (eC (.int 0))) (eC (.int 1))) (aNil))))) [some (.d (.obj n)), some (.d (frm p m)), some (.d (.int M)), some (.d (.int high)), some (.odT (enc ms)), some (.d x), some (.d (.tup (key.map .int))), none] s1 = .ok (.int (1 + u)) s2 := by
          simp [oIx, place, f2]
        rw [putT_q rfl fv (x := .tup (key.map .int)) rfl (tkey_ints key) (by simp [enc]; omega), n1]
        rfl
      · rcases n4 q hq with h | h
        · exact ok q h
        · subst h
          exact ⟨kl, kb, by dsimp only; omega, by dsimp only; omega⟩
  obtain ⟨r2, st2, hloop, g2, ms, a5, a6, hr, hl, nd, ok⟩ := loop
  rw [rl] at hl g2
  subst hr
  have sorted : nSortT 4 [some (.d (.obj n)), some (.d (frm p m)), some (.d (.int M)), some (.d (.int high)), some (.odT (enc ms)), a5, a6, none] st2 = .ok ((sortK (ms.map (·.1))).map fun k => D.tup (k.map .int)) st2 := by
    unfold nSortT dtAt
    show Mo.opt (match enc ms with
      | [] => some []
      | (k, _) :: _ => sortT k.length (enc ms)) st2 = _
    cases hms : ms with
    | nil => rfl
    | cons q0 ms0 =>
      show Mo.opt (sortT (kI q0.1).length (enc (q0 :: ms0))) st2 = _
      have q0ok := ok q0 (by rw [hms]; exact List.mem_cons_self ..)
      have kl : (kI q0.1).length = q0.1.length := by simp [kI]
      have okk : okK q0.1.length ((q0 :: ms0).map (·.1)) = true := by
        unfold okK
        rw [List.all_eq_true]
        intro k hk
        obtain ⟨q, hq, rfl⟩ := List.mem_map.mp hk
        obtain ⟨o1, o2, _⟩ := ok q (by rw [hms]; exact hq)
        rw [Bool.and_eq_true, List.all_eq_true]
        refine ⟨?_, fun i hi => ?_⟩
        · have e0 : q.1.length = q0.1.length := by
            have := q0ok.1
            omega
          rw [e0]
          exact Nat.beq_refl _
        · have := o2 i hi
          rw [decide_eq_true (by omega), decide_eq_true (by omega)]
          rfl
      unfold sortT
      rw [intKs_enc, kl]
      show Mo.opt (match Nat.blt 0 q0.1.length && (Nat.blt ((q0 :: ms0).map (·.1)).length 64 && okK q0.1.length ((q0 :: ms0).map (·.1))) with
        | true => some ((sortK ((q0 :: ms0).map (·.1))).map fun k => D.tup (k.map .int))
        | false => none) st2 = _
      have b1 : Nat.blt 0 q0.1.length = true := Nat.ble_eq_true_of_le (by have := q0ok.1; omega)
      have b2 : Nat.blt ((q0 :: ms0).map (·.1)).length 64 = true := Nat.ble_eq_true_of_le (by
        have : ms.length ≤ 60 := by omega
        rw [hms] at this
        rw [List.length_map]
        omega)
      rw [okk, b1, b2]
      rfl
  generalize hS : sortK (ms.map (·.1)) = S at sorted
  have sl : S.length = ms.length := by rw [← hS, len_sortK, List.length_map]
  have sm : ∀ k ∈ S, k ∈ ms.map (·.1) := fun k hk => by
    rw [← hS] at hk
    exact mem_sortK hk
  -- the terms
  have val : ∃ val : List Int → Int, ∀ k ∈ S, getT (kI k) (enc ms) = some (.int (val k)) ∧ (k, val k) ∈ ms := by
    refine ⟨fun k => match getT (kI k) (enc ms) with
      | some (.int c) => c
      | _ => 0, fun k hk => ?_⟩
    obtain ⟨c, h1, h2⟩ := getT_mem (sm k hk)
    dsimp only
    rw [h1]
    exact ⟨rfl, h2⟩
  obtain ⟨val, hval⟩ := val
  have lcq : (nLc (iDat (nFz (nSortT 4))) (tgN 6) [6] (bYes) (eTup (aCons (eVar 6) (aCons (eGetT 4 (eVar 6)) (aNil))))) [some (.d (.obj n)), some (.d (frm p m)), some (.d (.int M)), some (.d (.int high)), some (.odT (enc ms)), a5, a6, none] st2 = .ok (S.map fun k => termD (k, val k)) st2 := by
    unfold nLc
    rw [q_bind, q_iDat, q_nFz, sorted]
    show (lim (S.map fun k => D.tup (k.map .int)).length (S.map fun k => D.tup (k.map .int)) >>= _) st2 = _
    rw [q_bind, q_lim (by rw [List.length_map]; omega)]
    dsimp only
    have L := lcL_pure (b := tgN 6) (c := bYes) (e := eTup (aCons (eVar 6) (aCons (eGetT 4 (eVar 6)) (aNil)))) (r := wipeE [6] [some (.d (.obj n)), some (.d (frm p m)), some (.d (.int M)), some (.d (.int high)), some (.odT (enc ms)), a5, a6, none]) (st := st2) (p := fun _ => true)
      (F := fun x => match x.ints with
        | some k => termD (k, val k)
        | none => .non) (S.map fun k => D.tup (k.map .int)) fun x hx => by
          obtain ⟨k, hk, rfl⟩ := List.mem_map.mp hx
          refine ⟨_, rfl, rfl, fun _ => ?_⟩
          have ik : ∀ k : List Int, intsOf (k.map .int) = some k := fun k => by
            induction k with
            | nil => rfl
            | cons i k ih =>
              show (intsOf (k.map .int)).map (i :: ·) = _
              rw [ih]
              rfl
          have gt : eGetT 4 (eVar 6) [some (.d (.obj n)), some (.d (frm p m)), some (.d (.int M)), some (.d (.int high)), some (.odT (enc ms)), a5, some (.d (.tup (k.map .int))), none] st2 = .ok (.int (val k)) st2 := by
            unfold eGetT dtAt
            show Mo.opt ((tkey (.tup (k.map .int))).bind fun k => getT k (enc ms)) st2 = _
            rw [tkey_ints]
            show Mo.opt (getT (kI k) (enc ms)) st2 = _
            rw [(hval k hk).1]
            rfl
          show eTup _ [some (.d (.obj n)), some (.d (frm p m)), some (.d (.int M)), some (.d (.int high)), some (.odT (enc ms)), a5, some (.d (.tup (k.map .int))), none] st2 = .ok (match intsOf (k.map .int) with
            | some k => termD (k, val k)
            | none => .non) st2
          rw [ik]
          simp [gt, lim2, termD]
    rw [L, List.filter_eq_self.mpr (fun _ _ => rfl), List.map_map]
    refine congrArg (fun z => Res.ok z st2) ?_
    refine List.map_congr_left fun k hk => ?_
    have ik : ∀ k : List Int, intsOf (k.map .int) = some k := fun k => by
      induction k with
      | nil => rfl
      | cons i k ih =>
        show (intsOf (k.map .int)).map (i :: ·) = _
        rw [ih]
        rfl
    show (match intsOf (k.map .int) with
      | some k => termD (k, val k)
      | none => .non) = _
    rw [ik]
  refine ⟨.tup (S.map fun k => termD (k, val k)), st2, ?_, ⟨S.map fun k => (k, val k), by rw [List.map_map]; rfl, by rw [List.length_map]; omega, fun q hq => ?_, ?_⟩, g2.mono (by omega)⟩
  · have d0 : sDct 4 [some (.d (.obj n)), some (.d (frm p m)), some (.d (.int M)), some (.d (.int high)), none, none, none, none] st = .ok (.nx [some (.d (.obj n)), some (.d (frm p m)), some (.d (.int M)), some (.d (.int high)), some (.odT []), none, none, none]) st := rfl
    unfold m__law_sheet
    rw [q_run]
    show endD (g__law_sheet [some (.d (.obj n)), some (.d (frm p m)), some (.d (.int M)), some (.d (.int high)), none, none, none, none] st) = _
    unfold g__law_sheet
    rw [q_seq, d0, seqR_nx, q_seq, q_sFor]
    have it : iRng1 (aCons (eCall m__law_draw (aCons (eVar 0) (aCons (eBin oAdd (hVar 2) (eC (.int 1))) (aNil)))) (aNil)) [some (.d (.obj n)), some (.d (frm p m)), some (.d (.int M)), some (.d (.int high)), some (.odT []), none, none, none] st = .ok (rangeD 0 V) st1 := by
      simp [e1, rg]
    rw [it]
    dsimp only
    rw [hloop, seqR_nx, q_sRet, q_eBlt, q_aCons, q_nFz, lcq]
    rfl
  · obtain ⟨k, hk, rfl⟩ := List.mem_map.mp hq
    exact ok _ (hval k hk).2
  · rw [List.pairwise_map]
    have := sortK_lex (d := m.toNat) nd fun k hk => by
      obtain ⟨q, hq, rfl⟩ := List.mem_map.mp hk
      obtain ⟨o1, o2, _⟩ := ok q hq
      exact ⟨by omega, fun i hi => by have := o2 i hi; omega⟩
    rw [hS] at this
    exact this
theorem shOk_bl {M : Nat} {x : D} (h : ShOk p m high M x) (hp : 2 ≤ p ∧ p ≤ 7) (hm : 1 ≤ m ∧ m ≤ 4) (hh : 0 ≤ high ∧ high ≤ 1000) (hM : M ≤ 60) : Bl M (71 * M + 3) 3 x := by
  obtain ⟨ns, rfl, hl, ok, _⟩ := h
  refine bl_tup (n := 69) (k := 2) (L := M) (fun x hx => ?_) (by rw [List.length_map]; exact hl) (by omega)
  obtain ⟨q, hq, rfl⟩ := List.mem_map.mp hx
  obtain ⟨o1, o2, o3, o4⟩ := ok q hq
  refine (bd_tup (n := 31) (k := 1) (l := 2) (fun y hy => ?_) (by simp) (by omega)).mono (by omega) (by omega)
  simp only [List.mem_cons, List.not_mem_nil, or_false] at hy
  rcases hy with rfl | rfl
  · refine (bd_tup (n := 5) (k := 0) (l := 4) (fun z hz => ?_) (by rw [List.length_map]; omega) (by omega)).mono (by omega) (by omega)
    obtain ⟨i, hi, rfl⟩ := List.mem_map.mp hz
    have := o2 i hi
    exact bd_int (by omega) (by omega)
  · exact (bd_int (by omega) (by omega)).mono (by omega) (by omega)
end
theorem rangeD_at {lo : Int} {n k : Nat} {x : D} (h : (rangeD lo n)[k]? = some x) : x = .int (lo + (k : Int)) ∧ k < n := by
  unfold rangeD at h
  rw [List.getElem?_map] at h
  obtain ⟨j, hj, rfl⟩ := Option.map_eq_some_iff.mp h
  have := List.getElem?_eq_some_iff.mp hj
  obtain ⟨hk, e⟩ := this
  rw [List.getElem_range] at e
  subst e
  exact ⟨rfl, by simpa using hk⟩
theorem bd_two_ints {i j : Int} (i1 : -1000 ≤ i) (i2 : i ≤ 1000) (j1 : -1000 ≤ j) (j2 : j ≤ 1000) : Bd 20 1 (.tup [.int i, .int j]) := (bd_tup (n := 5) (k := 0) (l := 2) (fun y hy => by
  simp only [List.mem_cons, List.not_mem_nil, or_false] at hy
  rcases hy with rfl | rfl
  · exact bd_int i1 i2
  · exact bd_int j1 j2) (by simp) (by omega)).mono (by omega) (by omega)
def keysL : List D := (List.range 31).flatMap fun (i : Nat) => (List.range 31).map fun (j : Nat) => D.tup [.int (i : Int), .int (j : Int)]
def greatL : List D := (keysL.take 701).map fun k => D.tup [k, .int 1]
def rows1 : List D := [.tup [.tup [.int 2, .int 2], .tup (greatL.take 700), .non], .tup [.tup [.int 2, .int 2], .tup greatL, .tup []], .tup [.tup [.int 7, .int 4], .tup greatL, .str "field"]]
def rows2 : List D := [.tup [.tup [.int 2, .int 2], .tup [], .non], .tup [.tup [.int 5, .int 4], .tup [.tup [.tup [.int 30, .int 30, .int 30, .int 30], .int 4]], .non], .tup [.tup [.int 5, .int 4], .tup [.tup [.tup [.int 0, .int 0, .int 0, .int 31], .int 1]], .tup [.int 0]], .tup [.tup [.int 5, .int 4], .tup [.tup [.tup [.int 0, .int 0, .int 0, .int 0], .int 5]], .tup [.int 0]], .tup [.tup [.int 2, .int 1], .tup [.tup [.tup [.int 0], .int 0]], .tup [.int 0]], .tup [.tup [.int 2, .int 1], .tup [.tup [.lst [.int 0], .int 1]], .tup [.int 0]], .tup [.tup [.int 2, .int 1], .tup [.tup [.tup [.int 0], .int 1], .tup [.tup [.int 0], .int 1]], .tup [.int 1]], .tup [.tup [.int 3, .int 1], .tup [.tup [.tup [.int 1], .int 1], .tup [.tup [.int 0], .int 1]], .tup [.int 1]], .tup [.tup [.int 3, .int 1], .tup [.tup [.tup [.int 0], .bl true]], .tup [.int 0]], .tup [.tup [.int 3, .int 1], .lst [.tup [.tup [.int 0], .int 1]], .tup []], .tup [.tup [.int 3, .int 1], .tup [.tup [.tup [.int 0], .int 1], .non], .tup [.int 1]]]
def dueH (x : D) : D → D
  | .non => .lst [x]
  | .str _ => wordR "field" (.tup [])
  | pl => wordR "poly" pl
theorem bd_dueP {n k : Nat} {f x : D} (h : Bd n k x) : Bd (n + 40) (k + 3) (dueP f x) := by
  unfold dueP
  cases e : ffault f with
  | some pl => exact (bd_word bd_sField (bd_ffault e)).mono (by omega) (by omega)
  | none =>
    obtain ⟨p, m, rfl, _⟩ := ffault_none e
    show Bd _ _ (duePl x (pfault p m x))
    cases g : pfault p m x with
    | none => exact (bd_one h).mono (by omega) (by omega)
    | some pl => exact (bd_word bd_sPoly (bd_pfault g)).mono (by omega) (by omega)
end Pi
namespace Pi
open PySem
def pts (p : Nat) : Nat → List (List Int)
  | 0 => [[]]
  | n + 1 => (pts p n).flatMap fun r => (List.range p).map fun (i : Nat) => r ++ [(i : Int)]
theorem pts_cons (p : Nat) : ∀ n, pts p (n + 1) = (List.range p).flatMap fun (i : Nat) => (pts p n).map fun r => (i : Int) :: r
  | 0 => by
    show ([[]] : List (List Int)).flatMap _ = (List.range p).flatMap fun (i : Nat) => [[]].map fun r => (i : Int) :: r
    simp only [List.flatMap_cons, List.flatMap_nil, List.append_nil, List.nil_append, List.map_cons, List.map_nil]
    induction List.range p with
    | nil => rfl
    | cons x xs ih => simp [ih]
  | n + 1 => by
    have ih := pts_cons p n
    show (pts p (n + 1)).flatMap _ = _
    conv => lhs; rw [ih]
    rw [List.flatMap_assoc]
    congr 1
    funext i
    rw [List.flatMap_map]
    show _ = ((pts p n).flatMap _).map _
    rw [List.map_flatMap]
    congr 1
    funext r
    rw [List.map_map]
    rfl
theorem flat_len {a b : Type} {f : a → List b} {m : Nat} : ∀ {S : List a}, (∀ x ∈ S, (f x).length = m) → (S.flatMap f).length = S.length * m
  | [], _ => by simp
  | x :: S, h => by
    rw [List.flatMap_cons, List.length_append, h x (by simp), flat_len fun y hy => h y (by simp [hy]), List.length_cons, Nat.succ_mul]
    omega
theorem pts_len (p : Nat) : ∀ n, (pts p n).length = p ^ n
  | 0 => rfl
  | n + 1 => by
    show ((pts p n).flatMap _).length = _
    rw [flat_len (m := p) fun r _ => by simp, pts_len p n, Nat.pow_succ]
theorem pts_ok (p : Nat) : ∀ n, ∀ v ∈ pts p n, v.length = n ∧ ∀ x ∈ v, 0 ≤ x ∧ x < p
  | 0, v, h => by
    have : v = [] := by simpa [pts] using h
    subst this
    simp
  | n + 1, v, h => by
    obtain ⟨r, hr, h⟩ := List.mem_flatMap.mp h
    obtain ⟨i, hi, rfl⟩ := List.mem_map.mp h
    obtain ⟨h1, h2⟩ := pts_ok p n r hr
    refine ⟨by simp [h1], fun x hx => ?_⟩
    rcases List.mem_append.mp hx with h | h
    · exact h2 x h
    · simp at h
      subst h
      have := List.mem_range.mp hi
      omega
theorem flat_get {a b : Type} {f : a → List b} {m : Nat} : ∀ {S : List a} (_ : ∀ x ∈ S, (f x).length = m) (k i : Nat) (x : a), S[k]? = some x → i < m → (S.flatMap f)[k * m + i]? = (f x)[i]?
  | [], _, k, i, x, e, _ => by simp at e
  | y :: S, h, 0, i, x, e, hi => by
    simp at e
    subst e
    rw [List.flatMap_cons, Nat.zero_mul, Nat.zero_add, List.getElem?_append_left (by rw [h y (by simp)]; exact hi)]
  | y :: S, h, k + 1, i, x, e, hi => by
    rw [List.flatMap_cons, List.getElem?_append_right (by rw [h y (by simp), Nat.succ_mul]; omega), h y (by simp), show (k + 1) * m + i - m = k * m + i by rw [Nat.succ_mul]; omega]
    exact flat_get (fun z hz => h z (by simp [hz])) k i x (by simpa using e) hi
/-- the place of digits -/
def idx (p : Nat) (v : List Nat) : Nat := v.foldl (fun a d => a * p + d) 0
def up (v : List Nat) : List Int := v.map Int.ofNat
theorem idx_snoc (p : Nat) (v : List Nat) (d : Nat) : idx p (v ++ [d]) = idx p v * p + d := by
  unfold idx
  rw [List.foldl_append]
  rfl
theorem pts_idx (p : Nat) : ∀ (n : Nat) (v : List Nat), v.length = n → (∀ d ∈ v, d < p) → (pts p n)[idx p v]? = some (up v)
  | 0, v, hl, _ => by
    have : v = [] := List.eq_nil_of_length_eq_zero hl
    subst this
    rfl
  | n + 1, v, hl, hd => by
    have hne : v ≠ [] := fun z => by rw [z] at hl; cases hl
    have e : v = v.dropLast ++ [v.getLast hne] := (List.dropLast_concat_getLast hne).symm
    rw [e, idx_snoc]
    have hl2 : v.dropLast.length = n := by rw [List.length_dropLast, hl]; rfl
    have ih := pts_idx p n v.dropLast hl2 fun d h => hd d (List.dropLast_subset v h)
    have hi := hd _ (List.getLast_mem hne)
    show ((pts p n).flatMap _)[idx p v.dropLast * p + v.getLast hne]? = _
    rw [flat_get (m := p) (fun r _ => by simp) _ _ _ ih hi]
    simp [up, hi]
theorem pts_inj (p : Nat) : ∀ (n : Nat) (k k' : Nat) (v : List Int), (pts p n)[k]? = some v → (pts p n)[k']? = some v → k = k'
  | 0, k, k', v, h, h' => by
    have h1 : k < 1 := by
      have := (List.getElem?_eq_some_iff.mp h).1
      simpa [pts] using this
    have h2 : k' < 1 := by
      have := (List.getElem?_eq_some_iff.mp h').1
      simpa [pts] using this
    omega
  | n + 1, k, k', v, h, h' => by
    have lt : ∀ k, (pts p (n + 1))[k]? = some v → 0 < p ∧ k / p < (pts p n).length := fun k h => by
      have h1 := (List.getElem?_eq_some_iff.mp h).1
      rw [pts_len, Nat.pow_succ] at h1
      have p0 : 0 < p := Nat.pos_of_ne_zero fun z => by rw [z] at h1; simp at h1
      refine ⟨p0, ?_⟩
      rw [pts_len]
      exact (Nat.div_lt_iff_lt_mul p0).mpr h1
    have at_ : ∀ k, (pts p (n + 1))[k]? = some v → (pts p n)[k / p]? = some v.dropLast ∧ v.getLast? = some (((k % p : Nat)) : Int) := fun k h => by
      obtain ⟨p0, h1⟩ := lt k h
      have e : k = k / p * p + k % p := by
        have := Nat.div_add_mod k p
        rw [Nat.mul_comm] at this
        omega
      have hg : (pts p n)[k / p]? = some ((pts p n)[k / p]'h1) := List.getElem?_eq_getElem h1
      have hm := Nat.mod_lt k p0
      have f : ((pts p n).flatMap fun r => (List.range p).map fun (i : Nat) => r ++ [(i : Int)])[k / p * p + k % p]? = _ := flat_get (m := p) (fun r _ => by simp) _ _ _ hg hm
      rw [← e] at f
      have h2 : ((pts p n).flatMap fun r => (List.range p).map fun (i : Nat) => r ++ [(i : Int)])[k]? = some v := h
      rw [f] at h2
      rw [List.getElem?_map, List.getElem?_range hm] at h2
      have h3 : (pts p n)[k / p]'h1 ++ [((k % p : Nat) : Int)] = v := by simpa using h2
      rw [hg, ← h3]
      simp
    obtain ⟨a1, a2⟩ := at_ k h
    obtain ⟨b1, b2⟩ := at_ k' h'
    have q1 := pts_inj p n _ _ _ a1 b1
    rw [a2] at b2
    have q2 : k % p = k' % p := by
      have := Option.some.inj b2
      omega
    have e1 := Nat.div_add_mod k p
    have e2 := Nat.div_add_mod k' p
    rw [q1, q2] at e1
    omega
theorem slice_pick {b : Type} {p n : Nat} (p0 : 0 < p) (g : List Int → b) {k : Nat} {r : List Int} (hr : (pts p n)[k]? = some r) :
    pickL ((pts p (n + 1)).map g) (stepIx ((pts p (n + 1)).map g).length (some (k : Int)) none ((p ^ n : Nat) : Int)) = (List.range p).map fun (j : Nat) => g ((j : Int) :: r) := by
  have hk : k < p ^ n := by
    have := (List.getElem?_eq_some_iff.mp hr).1
    rwa [pts_len] at this
  have len : ((pts p (n + 1)).map g).length = p ^ n * p := by rw [List.length_map, pts_len, Nat.pow_succ]
  generalize hm : p ^ n = m at hk len
  have m0 : 0 < m := by omega
  have pm : m ≤ m * p := Nat.le_mul_of_pos_right m p0
  have ix : stepIx (m * p) (some (k : Int)) none ((m : Nat) : Int) = (List.range p).map fun (j : Nat) => j * m + k := by
    have bd : sliceBounds (some (k : Int)) none (some ((m : Nat) : Int)) (m * p) = ((k : Int), ((m * p : Nat) : Int), (m : Int)) := by
      unfold sliceBounds
      simp
      omega
    unfold stepIx sliceRange
    rw [bd]
    dsimp only
    rw [if_pos (by omega), if_pos (by omega)]
    have cnt : ((((m * p : Nat) : Int) - (k : Int) + (m : Int) - 1) / (m : Int)) = (p : Int) := by
      have e : (((m * p : Nat) : Int) - (k : Int) + (m : Int) - 1) = ((m : Int) - 1 - k) + (m : Int) * (p : Int) := by
        rw [Int.natCast_mul]
        omega
      rw [e, Int.add_mul_ediv_left _ _ (by omega), Int.ediv_eq_zero_of_lt (by omega) (by omega)]
      omega
    rw [cnt, Int.toNat_natCast]
    refine List.map_congr_left fun j _ => ?_
    rw [← Int.natCast_mul, ← Int.natCast_add, Int.toNat_natCast, Nat.mul_comm m j]
    omega
  rw [len, ix]
  unfold pickL
  have blk : (pts p (n + 1)).map g = (List.range p).flatMap fun (i : Nat) => (pts p n).map fun r => g ((i : Int) :: r) := by
    rw [pts_cons, List.map_flatMap]
    congr 1
    funext i
    rw [List.map_map]
    rfl
  rw [blk]
  have all_ : ∀ js : List Nat, (∀ j ∈ js, j < p) → List.filterMap (fun i => ((List.range p).flatMap fun (i : Nat) => (pts p n).map fun r => g ((i : Int) :: r))[i]?) (js.map fun (j : Nat) => j * m + k) = js.map fun (j : Nat) => g ((j : Int) :: r) := fun js => by
    induction js with
    | nil => intro _; rfl
    | cons j js ih =>
      intro h
      have hj := h j (by simp)
      have e : ((List.range p).flatMap fun (i : Nat) => (pts p n).map fun r => g ((i : Int) :: r))[j * m + k]? = some (g ((j : Int) :: r)) := by
        rw [flat_get (m := m) (fun x _ => by rw [List.length_map, pts_len, hm]) j k j (List.getElem?_range hj) hk, List.getElem?_map, hr]
        rfl
      rw [List.map_cons, List.filterMap_cons, e]
      dsimp only
      rw [ih fun x hx => h x (by simp [hx])]
      rfl
  exact all_ (List.range p) fun j hj => List.mem_range.mp hj
end Pi
namespace Pi
open PySem
theorem sum_mod {a : Type} {p : Int} {f g : a → Int} : ∀ {l : List a}, (∀ x ∈ l, f x % p = g x % p) → (l.map f).sum % p = (l.map g).sum % p
  | [], _ => rfl
  | x :: l, h => by
    rw [List.map_cons, List.map_cons, List.sum_cons, List.sum_cons, Int.add_emod, h x (by simp), sum_mod fun y hy => h y (by simp [hy]), ← Int.add_emod]
theorem sum_add {a : Type} {f g : a → Int} : ∀ {l : List a}, (l.map fun x => f x + g x).sum = (l.map f).sum + (l.map g).sum
  | [] => rfl
  | x :: l => by
    simp only [List.map_cons, List.sum_cons, sum_add (l := l)]
    omega
theorem sum_zero {a : Type} : ∀ {l : List a}, (l.map fun _ => (0 : Int)).sum = 0
  | [] => rfl
  | x :: l => by
    rw [List.map_cons, List.sum_cons, sum_zero]
    rfl
theorem sum_swap {a b : Type} {f : a → b → Int} {js : List b} : ∀ {ts : List a}, (js.map fun j => (ts.map fun t => f t j).sum).sum = (ts.map fun t => (js.map fun j => f t j).sum).sum
  | [] => by
    simp only [List.map_nil, List.sum_nil]
    exact sum_zero
  | t :: ts => by
    simp only [List.map_cons, List.sum_cons]
    rw [sum_add, sum_swap]
theorem mul_sum {a : Type} {c : Int} {f : a → Int} : ∀ {l : List a}, c * (l.map f).sum = (l.map fun x => c * f x).sum
  | [] => by simp
  | x :: l => by
    simp only [List.map_cons, List.sum_cons]
    rw [Int.mul_add, mul_sum]
theorem sum_none {a : Type} {f : a → Int} : ∀ {l : List a}, (∀ x ∈ l, f x = 0) → (l.map f).sum = 0
  | [], _ => rfl
  | x :: l, h => by
    rw [List.map_cons, List.sum_cons, h x (by simp), sum_none fun y hy => h y (by simp [hy])]
    rfl
theorem sum_delta {p : Nat} {a : Nat} {f : Nat → Int} (h : a < p) : ((List.range p).map fun j => if j = a then f j else 0).sum = f a := by
  induction p with
  | zero => omega
  | succ p ih =>
    rw [List.range_succ, List.map_append, List.sum_append]
    by_cases e : a = p
    · subst e
      rw [sum_none fun j hj => by
        have := List.mem_range.mp hj
        rw [if_neg (by omega)]]
      simp
    · rw [ih (by omega), List.map_cons, List.map_nil, if_neg (fun z => e z.symm)]
      simp
def mon : List Int → List Int → Int
  | e :: es, x :: xs => x ^ e.toNat * mon es xs
  | _, _ => 1
def lesI (p e : Int) : Int := if e = 0 then 0 else (e - 1) % (p - 1) + 1
theorem mon_snoc : ∀ (es xs : List Int) (e x : Int), es.length = xs.length → mon (es ++ [e]) (xs ++ [x]) = mon es xs * x ^ e.toNat
  | [], [], e, x, _ => by
    show x ^ e.toNat * 1 = 1 * x ^ e.toNat
    omega
  | f :: es, y :: xs, e, x, h => by
    show y ^ f.toNat * mon (es ++ [e]) (xs ++ [x]) = y ^ f.toNat * mon es xs * x ^ e.toNat
    rw [mon_snoc es xs e x (by simpa using h), Int.mul_assoc]
  | [], _ :: _, _, _, h => by simp at h
  | _ :: _, [], _, _, h => by simp at h
/-- a prime of the document -/
def Pm (p : Nat) : Prop := p = 2 ∨ p = 3 ∨ p = 5 ∨ p = 7
theorem les_lt {p : Nat} (hp : Pm p) {e : Int} (h : 0 ≤ e) : 0 ≤ lesI p e ∧ lesI p e < p := by
  unfold lesI
  split
  · rcases hp with rfl | rfl | rfl | rfl <;> decide
  · rcases hp with rfl | rfl | rfl | rfl
    all_goals omega
theorem fermat2 : ∀ (i : _root_.Fin 2) (e : _root_.Fin 31), ((i.val : Int) ^ (lesI 2 (e.val : Int)).toNat) % 2 = ((i.val : Int) ^ e.val) % 2 := by decide +kernel
theorem fermat3 : ∀ (i : _root_.Fin 3) (e : _root_.Fin 31), ((i.val : Int) ^ (lesI 3 (e.val : Int)).toNat) % 3 = ((i.val : Int) ^ e.val) % 3 := by decide +kernel
theorem fermat5 : ∀ (i : _root_.Fin 5) (e : _root_.Fin 31), ((i.val : Int) ^ (lesI 5 (e.val : Int)).toNat) % 5 = ((i.val : Int) ^ e.val) % 5 := by decide +kernel
theorem fermat7 : ∀ (i : _root_.Fin 7) (e : _root_.Fin 31), ((i.val : Int) ^ (lesI 7 (e.val : Int)).toNat) % 7 = ((i.val : Int) ^ e.val) % 7 := by decide +kernel
theorem fermat {p : Nat} (hp : Pm p) {i e : Int} (i0 : 0 ≤ i) (i1 : i < p) (e0 : 0 ≤ e) (e1 : e ≤ 30) : (i ^ (lesI p e).toNat) % (p : Int) = (i ^ e.toNat) % (p : Int) := by
  obtain ⟨I, rfl⟩ := Int.eq_ofNat_of_zero_le i0
  obtain ⟨E, rfl⟩ := Int.eq_ofNat_of_zero_le e0
  rcases hp with rfl | rfl | rfl | rfl
  · exact fermat2 ⟨I, by omega⟩ ⟨E, by omega⟩
  · exact fermat3 ⟨I, by omega⟩ ⟨E, by omega⟩
  · exact fermat5 ⟨I, by omega⟩ ⟨E, by omega⟩
  · exact fermat7 ⟨I, by omega⟩ ⟨E, by omega⟩
/-- what a term adds where the last k unknowns of v are worths, the others powers -/
def phi (p k : Nat) (q : List Int × Int) (rest xs : List Int) : Int := if rest = (q.1.drop k).map (lesI p) then q.2 * mon (q.1.take k) xs else 0
def Gk (p N k : Nat) (ms : List (List Int × Int)) (v : List Int) : Int := ((ms.map fun q => phi p k q (v.take (N - k)) (v.drop (N - k))).sum) % p
theorem emod_mul {p a b : Int} : (a % p) * (b % p) % p = a * b % p := by rw [← Int.mul_emod]
theorem round_q {p N k : Nat} (hp : Pm p) (hk : k < N) {ms : List (List Int × Int)} (ok : ∀ q ∈ ms, q.1.length = N ∧ ∀ e ∈ q.1, 0 ≤ e ∧ e ≤ 30) {r : List Int} (hr : r.length + 1 = N) {i : Int} (i0 : 0 ≤ i) (i1 : i < p) :
    (((List.range p).map fun (j : Nat) => (i ^ j % p) * Gk p N k ms ((j : Int) :: r)).sum) % p = Gk p N (k + 1) ms (r ++ [i]) := by
  have tk : ∀ j : Nat, ((j : Int) :: r).take (N - k) = (j : Int) :: r.take (N - (k + 1)) ∧ ((j : Int) :: r).drop (N - k) = r.drop (N - (k + 1)) := fun j => by
    have : N - k = (N - (k + 1)) + 1 := by omega
    rw [this]
    exact ⟨rfl, rfl⟩
  have tk2 : (r ++ [i]).take (N - (k + 1)) = r.take (N - (k + 1)) ∧ (r ++ [i]).drop (N - (k + 1)) = r.drop (N - (k + 1)) ++ [i] := by
    rw [List.take_append_of_le_length (by omega), List.drop_append_of_le_length (by omega)]
    exact ⟨rfl, rfl⟩
  unfold Gk
  rw [tk2.1, tk2.2]
  generalize hrest : r.take (N - (k + 1)) = rest at *
  generalize hxs : r.drop (N - (k + 1)) = xs at *
  have lx : xs.length = k := by
    rw [← hxs, List.length_drop]
    omega
  rw [sum_mod (g := fun (j : Nat) => (ms.map fun q => i ^ j * phi p k q ((j : Int) :: rest) xs).sum) fun j _ => by
    rw [(tk j).1, (tk j).2, emod_mul, mul_sum]]
  rw [sum_swap]
  refine sum_mod fun q hq => ?_
  obtain ⟨ql, qe⟩ := ok q hq
  have hd : q.1.drop k = q.1[k]'(by omega) :: q.1.drop (k + 1) := List.drop_eq_getElem_cons (by omega)
  have ht : q.1.take (k + 1) = q.1.take k ++ [q.1[k]'(by omega)] := by rw [List.take_succ_eq_append_getElem]
  obtain ⟨e0, e1⟩ := qe _ (List.getElem_mem (by omega : k < q.1.length))
  generalize he : q.1[k]'(by omega) = e at *
  obtain ⟨l0, l1⟩ := les_lt hp e0
  obtain ⟨a, ha⟩ := Int.eq_ofNat_of_zero_le l0
  have a1 : a < p := by
    rw [ha] at l1
    have : ((a : Nat) : Int) < p := l1
    omega
  have mt : (q.1.take k).length = xs.length := by rw [List.length_take, lx, ql]; omega
  unfold phi
  rw [hd, ht, mon_snoc _ _ _ _ mt, List.map_cons, ha]
  by_cases z : rest = (q.1.drop (k + 1)).map (lesI p)
  · rw [if_pos z]
    have e2 : ((List.range p).map fun (j : Nat) => i ^ j * (if (j : Int) :: rest = ((a : Nat) : Int) :: (q.1.drop (k + 1)).map (lesI p) then q.2 * mon (q.1.take k) xs else 0)) = (List.range p).map fun (j : Nat) => if j = a then i ^ j * (q.2 * mon (q.1.take k) xs) else 0 := by
      refine List.map_congr_left fun j _ => ?_
      by_cases w : j = a
      · rw [if_pos w, if_pos (by rw [w, z])]
      · rw [if_neg w, if_neg (fun y => w (by
          have := (List.cons.inj y).1
          have : ((j : Nat) : Int) = ((a : Nat) : Int) := this
          omega)), Int.mul_zero]
    rw [e2, sum_delta a1]
    have f := fermat hp i0 i1 e0 e1
    rw [ha] at f
    have f' : (i ^ a) % (p : Int) = (i ^ e.toNat) % (p : Int) := f
    rw [← Int.mul_assoc q.2, Int.mul_comm (i ^ a), Int.mul_emod, f', ← Int.mul_emod]
  · rw [if_neg z, sum_none fun j _ => by
      rw [if_neg (fun y => z (List.cons.inj y).2), Int.mul_zero]]
end Pi
namespace Pi
open PySem PySem.Spec PyProof.Rows L2
/-- a field as the law draws it, in numbers -/
structure Fd (p n : Nat) : Prop where
  pm : Pm p
  n1 : 1 ≤ n
  n4 : n ≤ 4
  no : ¬ (p = 7 ∧ n = 4)
theorem Fd.p2 {p n : Nat} (h : Fd p n) : 2 ≤ p ∧ p ≤ 7 := by
  rcases h.pm with rfl | rfl | rfl | rfl <;> omega
theorem isF_fd {x : D} (h : IsF x) : ∃ p n : Nat, x = frm (p : Int) (n : Int) ∧ Fd p n := by
  obtain ⟨p, m, rfl, hp, m1, m4, ff⟩ := h
  obtain ⟨P, rfl⟩ := Int.eq_ofNat_of_zero_le (show 0 ≤ p by omega)
  obtain ⟨M, rfl⟩ := Int.eq_ofNat_of_zero_le (show 0 ≤ m by omega)
  refine ⟨P, M, rfl, ⟨?_, by omega, by omega, fun ⟨a, b⟩ => ?_⟩⟩
  · unfold Pm
    omega
  · subst a b
    cases ff
theorem fd_ff {p n : Nat} (h : Fd p n) : ffault (frm (p : Int) (n : Int)) = none := by
  have n14 : n = 1 ∨ n = 2 ∨ n = 3 ∨ n = 4 := by have := h.n1; have := h.n4; omega
  have no := h.no
  rcases h.pm with rfl | rfl | rfl | rfl <;> rcases n14 with rfl | rfl | rfl | rfl <;> first | rfl | exact absurd ⟨rfl, rfl⟩ no
theorem fd_need {p n : Nat} (h : Fd p n) (st : St) : m_need_field [frm (p : Int) (n : Int)] st = .ok (frm (p : Int) (n : Int)) st := by
  have := need_field_qq (frm (p : Int) (n : Int)) rfl st
  rw [fd_ff h] at this
  exact this
theorem fd_le {p n : Nat} (h : Fd p n) : p ^ n ≤ 700 := by
  have n14 : n = 1 ∨ n = 2 ∨ n = 3 ∨ n = 4 := by have := h.n1; have := h.n4; omega
  have no := h.no
  rcases h.pm with rfl | rfl | rfl | rfl <;> rcases n14 with rfl | rfl | rfl | rfl <;> first | decide | exact absurd ⟨rfl, rfl⟩ no
abbrev ptD (v : List Int) : D := .tup (v.map .int)
def spts (p n : Nat) : List D := (pts p n).map ptD
theorem range1_q {r : Env} {f : Env → Mo D} {st : St} {n : Nat} (h : f r st = .ok (.int (n : Int)) st) (hn : n ≤ 1000000) : iRng1 (aCons f (aNil)) r st = .ok (rangeD 0 n) st := by
  rw [q_iRng1, q_aCons, h]
  dsimp only
  rw [q_aNil]
  dsimp only
  rw [rng1_q (by omega) (by omega), Int.toNat_natCast]
  rfl
theorem rangeD0 (n : Nat) : rangeD 0 n = (List.range n).map fun (i : Nat) => D.int (i : Int) := by
  unfold rangeD
  refine List.map_congr_left fun i _ => ?_
  rw [Int.zero_add]
/-- a comprehension of two clauses without effects -/
theorem lcO_pure {b : D → Env → Option Env} {c : Env → Mo Bool} {f1 : Env → Mo (List D)} {b1 : D → Env → Option Env} {c1 : Env → Mo Bool} {e : Env → Mo D} {vs1 : List Nat} {r : Env} {st : St} {Y : D → List D} {F : D → D → D} {m : Nat} : ∀ (xs : List D) (n : Nat), n + xs.length * m ≤ 16777216 →
    (∀ x ∈ xs, ∃ r1, b x r = some r1 ∧ c r1 st = .ok true st ∧ f1 r1 st = .ok (Y x) st ∧ (Y x).length = m ∧ ∀ y ∈ Y x, ∃ r2, b1 y (wipeE vs1 r1) = some r2 ∧ c1 r2 st = .ok true st ∧ e r2 st = .ok (F x y) st) →
    lcO b c f1 b1 c1 e vs1 r n xs st = .ok (xs.flatMap fun x => (Y x).map (F x)) st
  | [], n, _, _ => rfl
  | x :: xs, n, hn, h => by
    obtain ⟨r1, h1, h2, h3, h4, h5⟩ := h x (by simp)
    rw [List.length_cons, Nat.succ_mul] at hn
    have ih := lcO_pure (b := b) (c := c) (f1 := f1) (b1 := b1) (c1 := c1) (e := e) (vs1 := vs1) (r := r) (st := st) (Y := Y) (F := F) (m := m) xs (n + m) (by omega) fun y hy => h y (by simp [hy])
    have inner := lcL_pure (b := b1) (c := c1) (e := e) (r := wipeE vs1 r1) (st := st) (p := fun _ => true) (F := F x) (Y x) fun y hy => by
      obtain ⟨r2, a1, a2, a3⟩ := h5 y hy
      exact ⟨r2, a1, a2, fun _ => a3⟩
    rw [List.filter_eq_self.mpr fun _ _ => rfl] at inner
    show (Mo.opt (b x r) >>= fun r1 => nx (c r1) >>= fun k => match k with
      | true => nx (f1 r1) >>= fun ys => lim (n + ys.length) ys >>= fun zs => lcL b1 c1 e (wipeE vs1 r1) zs >>= fun us => lcO b c f1 b1 c1 e vs1 r (n + ys.length) xs >>= fun ws => pure (us ++ ws)
      | false => lcO b c f1 b1 c1 e vs1 r n xs) st = _
    have z1 : nx (c r1) st = .ok true st := by unfold nx; rw [h2]
    have z2 : nx (f1 r1) st = .ok (Y x) st := by unfold nx; rw [h3]
    rw [h1, q_bind, q_some]
    dsimp only
    rw [q_bind, z1]
    dsimp only
    rw [q_bind, z2]
    dsimp only
    rw [q_bind, h4, q_lim (by omega)]
    dsimp only
    rw [q_bind, inner]
    dsimp only
    rw [q_bind, ih]
    rfl
theorem snocD (v : List Int) (i : Nat) : ptD (v ++ [(i : Int)]) = .tup (v.map D.int ++ [.int (i : Int)]) := by
  show D.tup ((v ++ [(i : Int)]).map .int) = _
  rw [List.map_append]
  rfl
theorem add_snoc {v : List Int} {i : Int} (h : v.length ≤ 1000) : oAdd (ptD v) (.tup [.int i]) = some (ptD (v ++ [i])) := by
  show guardN ((v.map D.int).length + 1) (D.tup (v.map .int ++ [.int i])) = _
  unfold guardN
  rw [Nat.ble_eq_true_of_le (by rw [List.length_map]; omega), show ptD (v ++ [i]) = D.tup ((v ++ [i]).map .int) from rfl, List.map_append]
  rfl
theorem spts_succ (p n : Nat) : spts p (n + 1) = (spts p n).flatMap fun x => (rangeD 0 p).map fun y => match x, y with
    | .tup xs, .int i => D.tup (xs ++ [.int i])
    | _, _ => .non := by
  unfold spts
  show ((pts p n).flatMap _).map ptD = _
  rw [List.map_flatMap, List.flatMap_map]
  congr 1
  funext r
  rw [List.map_map, rangeD0, List.map_map]
  refine List.map_congr_left fun i _ => ?_
  exact snocD r i
theorem points_q {p n : Nat} (h : Fd p n) (st : St) : m_points [frm (p : Int) (n : Int)] st = .ok (.tup (spts p n)) st := by
  have hp := h.p2
  have h4 := h.n4
  have loop := forL_all (b := tgN 2) (g := sSet 1 (nFz (nLc2 (iDat (eVar 1)) (tgN 5) [5, 6] (bYes) (iRng1 (aCons (eVar 3) (aNil))) (tgN 6) [6] (bYes) (eBin oAdd (hVar 5) (eTup (aCons (eVar 6) (aNil)))))))
    (I := fun k r s => s = st ∧ k ≤ n ∧ ∃ a2 : Option SV, r = [some (.d (frm (p : Int) (n : Int))), some (.d (.lst (spts p k))), a2, some (.d (.int (p : Int))), some (.d (.int (n : Int))), none, none]) (rangeD 0 n) [some (.d (frm (p : Int) (n : Int))), some (.d (.lst [.tup []])), none, some (.d (.int (p : Int))), some (.d (.int (n : Int))), none, none] st 0 ⟨rfl, Nat.zero_le _, _, rfl⟩ fun k x r s hx ⟨hs, hk, a2, hr⟩ => by
      subst hs hr
      obtain ⟨rfl, hk2⟩ := rangeD_at hx
      rw [Nat.zero_add] at hk ⊢
      refine ⟨_, [some (.d (frm (p : Int) (n : Int))), some (.d (.lst (spts p (k + 1)))), some (.d (.int (0 + (k : Int)))), some (.d (.int (p : Int))), some (.d (.int (n : Int))), none, none], s, rfl, ?_, rfl, by omega, _, rfl⟩
      have lc : (nLc2 (iDat (eVar 1)) (tgN 5) [5, 6] (bYes) (iRng1 (aCons (eVar 3) (aNil))) (tgN 6) [6] (bYes) (eBin oAdd (hVar 5) (eTup (aCons (eVar 6) (aNil))))) [some (.d (frm (p : Int) (n : Int))), some (.d (.lst (spts p k))), some (.d (.int (0 + (k : Int)))), some (.d (.int (p : Int))), some (.d (.int (n : Int))), none, none] s = .ok (spts p (k + 1)) s := by
        unfold nLc2
        rw [q_bind, q_iDat]
        show lcO _ _ _ _ _ _ _ _ 0 (spts p k) s = _
        have small : (spts p k).length * p ≤ 16777216 := by
          have e : (spts p k).length = p ^ k := by unfold spts; rw [List.length_map, pts_len]
          have e2 : p ^ k * p = p ^ (k + 1) := (Nat.pow_succ ..).symm
          rw [e, e2]
          have : p ^ (k + 1) ≤ p ^ n := Nat.pow_le_pow_right (by omega) (by omega)
          have := fd_le h
          omega
        rw [lcO_pure (Y := fun _ => rangeD 0 p) (m := p) (F := fun x y => match x, y with
          | .tup xs, .int i => D.tup (xs ++ [.int i])
          | _, _ => .non) (spts p k) 0 (by omega) fun x hx => ?_, spts_succ]
        obtain ⟨v, hv, rfl⟩ := List.mem_map.mp hx
        have vl := (pts_ok p k v hv).1
        refine ⟨_, rfl, rfl, range1_q rfl (by omega), by simp [rangeD], fun y hy => ⟨_, rfl, rfl, ?_⟩⟩
        rw [rangeD0] at hy
        obtain ⟨i, hi, rfl⟩ := List.mem_map.mp hy
        simp [wipeE, lim1, add_snoc (show v.length ≤ 1000 by omega)]
      rw [q_sSet, q_nFz]
      show (match (match nLc2 _ _ _ _ _ _ _ _ _ [some (.d (frm (p : Int) (n : Int))), some (.d (.lst (spts p k))), some (.d (.int (0 + (k : Int)))), some (.d (.int (p : Int))), some (.d (.int (n : Int))), none, none] s with
        | .ok x st' => Res.ok (D.lst x) st'
        | .err k x st' => .err k x st'
        | .bad => .bad) with
        | .ok x st' => _
        | .err k x st' => _
        | .bad => _) = _
      rw [lc]
      rfl
  obtain ⟨r2, st2, e, hs, _, a2, hr⟩ := loop
  have rl : (rangeD 0 n).length = n := by simp [rangeD]
  rw [Nat.zero_add, rl] at hr
  subst hs hr
  have u1 : sUnp [3, 4] (eCall m_need_field (aCons (eVar 0) (aNil))) [some (.d (frm (p : Int) (n : Int))), none, none, none, none, none, none] st2 = .ok (.nx [some (.d (frm (p : Int) (n : Int))), none, none, some (.d (.int (p : Int))), some (.d (.int (n : Int))), none, none]) st2 := by
    simp [fd_need h, unpack, setAll]
  unfold m_points
  rw [q_run]
  show endD (g_points [some (.d (frm (p : Int) (n : Int))), none, none, none, none, none, none] st2) = _
  unfold g_points
  rw [q_seq, u1, seqR_nx, q_seq]
  show endD (seqR _ (Res.ok (Fl.nx [some (.d (frm (p : Int) (n : Int))), some (.d (.lst [.tup []])), none, some (.d (.int (p : Int))), some (.d (.int (n : Int))), none, none]) st2)) = _
  rw [seqR_nx, q_seq, q_sFor, range1_q (n := n) rfl (by omega)]
  dsimp only
  rw [e, seqR_nx]
  rfl
end Pi
namespace Pi
open PySem PySem.Spec PyProof.Rows L2
def snoc1 : D → D → D
  | .tup xs, .int i => D.tup (xs ++ [.int i])
  | _, _ => .non
def snocs (p : Nat) (x : D) : List D := (rangeD 0 p).map (snoc1 x)
theorem spts_next (p n : Nat) : spts p (n + 1) = (spts p n).flatMap (snocs p) := by
  rw [spts_succ]
  unfold snocs
  rfl
theorem snocs_len (p : Nat) (x : D) : (snocs p x).length = p := by simp [snocs, rangeD]
theorem spts_len (p k : Nat) : (spts p k).length = p ^ k := by
  unfold spts
  rw [List.length_map, pts_len]
theorem nLc_q {f : Env → Mo (List D)} {b : D → Env → Option Env} {vs : List Nat} {c : Env → Mo Bool} {e : Env → Mo D} {r : Env} {st st' : St} {xs : List D} {z : Res (List D)} (h1 : f r st = .ok xs st') (hl : xs.length ≤ 16777216) (h2 : lcL b c e (wipeE vs r) xs st' = z) : nLc f b vs c e r st = z := by
  unfold nLc
  rw [q_bind, h1]
  dsimp only
  rw [q_bind, q_lim hl]
  exact h2
theorem spots_in {p n : Nat} (h : Fd p n) {rows t : Option SV} {st : St} (xs : List D) : ∀ (acc : List D) (a4 : Option SV), (∀ x ∈ xs, ∃ v : List Int, x = ptD v ∧ v.length ≤ 1000) → acc.length + xs.length * p ≤ 16777216 →
    ∃ a4', forL (tgN 4) (sSet 3 (nFz (nCat (hVar 3) (nFz (nLc (iRng1 (aCons (eBin oIx (hVar 0) (eC (.int 0))) (aNil))) (tgN 5) [5] (bYes) (eBin oAdd (hVar 4) (eTup (aCons (eVar 5) (aNil))))))))) xs [some (.d (frm (p : Int) (n : Int))), rows, t, some (.d (.lst acc)), a4, none] st = .ok (.nx [some (.d (frm (p : Int) (n : Int))), rows, t, some (.d (.lst (acc ++ xs.flatMap (snocs p)))), a4', none]) st := by
  induction xs with
  | nil => exact fun acc a4 _ _ => ⟨a4, by simp⟩
  | cons x xs rec_ =>
    intro acc a4 hx hl
    obtain ⟨v, rfl, vl⟩ := hx x (by simp)
    rw [List.length_cons, Nat.succ_mul] at hl
    obtain ⟨a4', ih⟩ := rec_ (acc ++ snocs p (ptD v)) (some (.d (ptD v))) (fun y hy => hx y (by simp [hy])) (by rw [List.length_append, snocs_len]; omega)
    refine ⟨a4', ?_⟩
    have hp := h.p2
    have lc : (nLc (iRng1 (aCons (eBin oIx (hVar 0) (eC (.int 0))) (aNil))) (tgN 5) [5] (bYes) (eBin oAdd (hVar 4) (eTup (aCons (eVar 5) (aNil))))) [some (.d (frm (p : Int) (n : Int))), rows, t, some (.d (.lst acc)), some (.d (ptD v)), none] st = .ok (snocs p (ptD v)) st := by
      refine nLc_q (st' := st) (range1_q (n := p) (by simp [oIx, place]) (by omega)) (by simp [rangeD]; omega) ?_
      have L := lcL_pure (b := tgN 5) (c := bYes) (e := eBin oAdd (hVar 4) (eTup (aCons (eVar 5) (aNil)))) (r := wipeE [5] [some (.d (frm (p : Int) (n : Int))), rows, t, some (.d (.lst acc)), some (.d (ptD v)), none]) (st := st) (p := fun _ => true) (F := snoc1 (ptD v)) (rangeD 0 p) fun y hy => by
        rw [rangeD0] at hy
        obtain ⟨i, hi, rfl⟩ := List.mem_map.mp hy
        refine ⟨[some (.d (frm (p : Int) (n : Int))), rows, t, some (.d (.lst acc)), some (.d (ptD v)), some (.d (.int (i : Int)))], rfl, rfl, fun _ => ?_⟩
        have e1 : (eTup (aCons (eVar 5) (aNil))) [some (.d (frm (p : Int) (n : Int))), rows, t, some (.d (.lst acc)), some (.d (ptD v)), some (.d (.int (i : Int)))] st = .ok (.tup [.int (i : Int)]) st := by
          rw [q_eTup, q_aCons]
          exact lim1 _ _
        rw [q_eBin]
        show (match eTup (aCons (eVar 5) (aNil)) [some (.d (frm (p : Int) (n : Int))), rows, t, some (.d (.lst acc)), some (.d (ptD v)), some (.d (.int (i : Int)))] st with
          | .ok y st2 => Mo.opt (oAdd (ptD v) y) st2
          | .err k x st' => .err k x st'
          | .bad => .bad) = _
        rw [e1]
        dsimp only
        rw [add_snoc vl, snocD]
        rfl
      rw [L, List.filter_eq_self.mpr fun _ _ => rfl]
      rfl
    rw [forL_cons (r1 := [some (.d (frm (p : Int) (n : Int))), rows, t, some (.d (.lst acc)), some (.d (ptD v)), none]) rfl, q_sSet, q_nFz, q_nCat (st1 := st) (st2 := st) (xs := acc) (ys := snocs p (ptD v)) rfl (by rw [q_nFz, lc]) (by rw [snocs_len]; omega)]
    dsimp only
    rw [loopR_nx]
    show forL _ _ xs [some (.d (frm (p : Int) (n : Int))), rows, t, some (.d (.lst (acc ++ snocs p (ptD v)))), some (.d (ptD v)), none] st = _
    rw [ih, List.flatMap_cons, List.append_assoc]
theorem spots_q {p n : Nat} (h : Fd p n) (st : St) : m__law_spots [frm (p : Int) (n : Int)] st = .ok (.lst (spts p n)) st := by
  have hp := h.p2
  have h4 := h.n4
  have loop := forL_all (b := tgN 2) (g := sSeq (sSet 3 (eC (.lst []))) (sSeq (sFor (iDat (eVar 1)) (tgN 4) (sSet 3 (nFz (nCat (hVar 3) (nFz (nLc (iRng1 (aCons (eBin oIx (hVar 0) (eC (.int 0))) (aNil))) (tgN 5) [5] (bYes) (eBin oAdd (hVar 4) (eTup (aCons (eVar 5) (aNil)))))))))) (sSet 1 (eVar 3))))
    (I := fun k r s => s = st ∧ k ≤ n ∧ ∃ a2 a3 a4 : Option SV, r = [some (.d (frm (p : Int) (n : Int))), some (.d (.lst (spts p k))), a2, a3, a4, none]) (rangeD 0 n) [some (.d (frm (p : Int) (n : Int))), some (.d (.lst [.tup []])), none, none, none, none] st 0 ⟨rfl, Nat.zero_le _, _, _, _, rfl⟩ fun k x r s hx ⟨hs, hk, a2, a3, a4, hr⟩ => by
      subst hs hr
      obtain ⟨rfl, hk2⟩ := rangeD_at hx
      rw [Nat.zero_add] at hk ⊢
      have small : (spts p k).length * p ≤ 16777216 := by
        have e2 : p ^ k * p = p ^ (k + 1) := (Nat.pow_succ ..).symm
        rw [spts_len, e2]
        have : p ^ (k + 1) ≤ p ^ n := Nat.pow_le_pow_right (by omega) (by omega)
        have := fd_le h
        omega
      obtain ⟨a4', inner⟩ := spots_in h (rows := some (.d (.lst (spts p k)))) (t := some (.d (.int (0 + (k : Int))))) (st := s) (spts p k) [] a4 (fun x hx => by
        obtain ⟨v, hv, rfl⟩ := List.mem_map.mp hx
        exact ⟨v, rfl, by have := (pts_ok p k v hv).1; omega⟩) (by simp only [List.length_nil]; omega)
      refine ⟨_, [some (.d (frm (p : Int) (n : Int))), some (.d (.lst (spts p (k + 1)))), some (.d (.int (0 + (k : Int)))), some (.d (.lst (spts p (k + 1)))), a4', none], s, rfl, ?_, rfl, by omega, _, _, _, rfl⟩
      show (sSeq _ _) [some (.d (frm (p : Int) (n : Int))), some (.d (.lst (spts p k))), some (.d (.int (0 + (k : Int)))), a3, a4, none] s = _
      rw [q_seq]
      show seqR _ (Res.ok (Fl.nx [some (.d (frm (p : Int) (n : Int))), some (.d (.lst (spts p k))), some (.d (.int (0 + (k : Int)))), some (.d (.lst [])), a4, none]) s) = _
      rw [seqR_nx, q_seq, q_sFor]
      show seqR _ (forL _ _ (spts p k) [some (.d (frm (p : Int) (n : Int))), some (.d (.lst (spts p k))), some (.d (.int (0 + (k : Int)))), some (.d (.lst [])), a4, none] s) = _
      rw [inner, seqR_nx, spts_next]
      rfl
  obtain ⟨r2, st2, e, hs, _, a2, a3, a4, hr⟩ := loop
  have rl : (rangeD 0 n).length = n := by simp [rangeD]
  rw [Nat.zero_add, rl] at hr
  subst hs hr
  unfold m__law_spots
  rw [q_run]
  show endD (g__law_spots [some (.d (frm (p : Int) (n : Int))), none, none, none, none, none] st2) = _
  unfold g__law_spots
  rw [q_seq]
  show endD (seqR _ (Res.ok (Fl.nx [some (.d (frm (p : Int) (n : Int))), some (.d (.lst [.tup []])), none, none, none, none]) st2)) = _
  rw [seqR_nx, q_seq, q_sFor, range1_q (n := n) (by simp [oIx, place]) (by omega)]
  dsimp only
  rw [e, seqR_nx]
  rfl
theorem power_q {a : Int} {e : Nat} (ha : smallI a = true) (he : e ≤ 1000000) (st : St) : m_power_of [.int a, .int (e : Int)] st = .ok (.int (a ^ e)) st := by
  have loop := forL_all (b := tgN 3) (g := sSet 2 (eBin oMul (hVar 2) (hVar 0))) (I := fun k r s => s = st ∧ ∃ a3 : Option SV, r = [some (.d (.int a)), some (.d (.int (e : Int))), some (.d (.int (a ^ k))), a3]) (rangeD 0 e) [some (.d (.int a)), some (.d (.int (e : Int))), some (.d (.int 1)), none] st 0 ⟨rfl, none, by rw [Int.pow_zero]⟩ fun k x r s hx ⟨hs, a3, hr⟩ => by
    subst hs hr
    rw [Nat.zero_add]
    refine ⟨_, [some (.d (.int a)), some (.d (.int (e : Int))), some (.d (.int (a ^ (k + 1)))), some (.d x)], s, rfl, ?_, rfl, _, rfl⟩
    simp [q_mulI (i := a ^ k) (j := a) (.inr ha), Int.pow_succ]
  obtain ⟨r2, st2, e1, hs, a3, hr⟩ := loop
  have rl : (rangeD 0 e).length = e := by simp [rangeD]
  rw [Nat.zero_add, rl] at hr
  subst hs hr
  unfold m_power_of
  rw [q_run]
  show endD (g_power_of [some (.d (.int a)), some (.d (.int (e : Int))), none, none] st2) = _
  unfold g_power_of
  rw [q_seq]
  show endD (seqR _ (Res.ok (Fl.nx [some (.d (.int a)), some (.d (.int (e : Int))), some (.d (.int 1)), none]) st2)) = _
  rw [seqR_nx, q_seq, q_sFor, range1_q (n := e) rfl he]
  dsimp only
  rw [e1, seqR_nx]
  rfl
def dig (p : Nat) (e : Int) : Nat := (lesI p e).toNat
theorem dig_lt {p : Nat} (hp : Pm p) {e : Int} (h : 0 ≤ e) : dig p e < p := by
  have := les_lt hp h
  unfold dig
  omega
theorem up_dig {p : Nat} (hp : Pm p) : ∀ {k : List Int}, (∀ e ∈ k, 0 ≤ e) → up (k.map (dig p)) = k.map (lesI p)
  | [], _ => rfl
  | e :: k, h => by
    have ih := up_dig hp (k := k) fun x hx => h x (by simp [hx])
    have := (les_lt hp (h e (by simp))).1
    show ((dig p e : Nat) : Int) :: up (k.map (dig p)) = _
    rw [ih]
    unfold dig
    rw [Int.toNat_of_nonneg this]
    rfl
theorem pm_small {p : Nat} (hp : Pm p) : smallI (p : Int) = true := by rcases hp with rfl | rfl | rfl | rfl <;> decide
theorem lessened_q {p : Nat} (hp : Pm p) {e : Int} (h : 0 ≤ e) (st : St) : m__lessened [.int (p : Int), .int e] st = .ok (.int (dig p e : Nat)) st := by
  have hd : ((dig p e : Nat) : Int) = lesI p e := Int.toNat_of_nonneg (les_lt hp h).1
  rw [hd]
  unfold lesI
  by_cases z : e = 0
  · subst z
    simp [m__lessened, q_run, g__lessened]
  · have zb : (e == 0) = false := beq_eq_false_iff_ne.mpr z
    have pp : (0 : Int) < (p : Int) - 1 := by rcases hp with rfl | rfl | rfl | rfl <;> decide
    simp [m__lessened, q_run, g__lessened, zb, z, q_modI pp]
theorem set_map {p n : Nat} {g g' : List Int → D} {d : List Nat} {val : D} (hl : d.length = n) (hd : ∀ x ∈ d, x < p) (h1 : g' (up d) = val) (h2 : ∀ v, v ≠ up d → g' v = g v) : ((pts p n).map g).set (idx p d) val = (pts p n).map g' := by
  refine List.ext_getElem? fun i => ?_
  rw [List.getElem?_set]
  have at_ := pts_idx p n d hl hd
  by_cases e : idx p d = i
  · rw [if_pos e]
    subst e
    have := (List.getElem?_eq_some_iff.mp at_).1
    rw [if_pos (by rw [List.length_map]; exact this), List.getElem?_map, at_]
    simp [h1]
  · rw [if_neg e, List.getElem?_map, List.getElem?_map]
    cases z : (pts p n)[i]? with
    | none => rfl
    | some v =>
      have : v ≠ up d := fun w => e (by
        rw [w] at z
        exact pts_inj p n _ _ _ at_ z)
      simp [h2 v this]
def G0D (p n : Nat) (ms : Tms) (v : List Int) : D := .int (Gk p n 0 ms v)
theorem gk0 (p n : Nat) (ms : Tms) (v : List Int) (hv : v.length = n) : Gk p n 0 ms v = ((ms.map fun q => if v = q.1.map (lesI p) then q.2 else 0).sum) % p := by
  unfold Gk
  have e1 : v.take (n - 0) = v := List.take_of_length_le (by omega)
  have e2 : v.drop (n - 0) = [] := List.drop_of_length_le (by omega)
  rw [e1, e2]
  congr 2
  refine List.map_congr_left fun q _ => ?_
  unfold phi
  show (if v = q.1.map (lesI p) then q.2 * mon [] [] else 0) = _
  have : mon [] [] = 1 := rfl
  rw [this, Int.mul_one]
end Pi
namespace Pi
open PySem PySem.Spec PyProof.Rows L2
theorem seq_step {g h : Stm} {r r' : Env} {st st' : St} {z : Res Fl} (e : g r st = .ok (.nx r') st') (k : h r' st' = z) : sSeq g h r st = z := by
  rw [q_seq, e]
  exact k
def s0 (p : Nat) (ms : Tms) (v : List Int) : Int := ((ms.map fun q => if v = q.1.map (lesI p) then q.2 else 0).sum) % p
theorem s0_gk {p n : Nat} {ms : Tms} {v : List Int} (hv : v.length = n) : s0 p ms v = Gk p n 0 ms v := (gk0 p n ms v hv).symm
theorem sAt_q {i : Nat} {f g : Env → Mo D} {r : Env} {st : St} {xs : List D} {y : D} {k : Nat} (hr : r[i]? = some (some (.own xs))) (hf : f r st = .ok y st) (hg : g r st = .ok (.int (k : Int)) st) (hk : k < xs.length) : sAt i f g r st = .ok (.nx (r.set i (some (.own (xs.set k y))))) st := by
  have pl : place xs.length ((k : Nat) : Int) = some k := by
    unfold place
    rw [decide_eq_true (by omega), decide_eq_true (by omega)]
    rfl
  unfold sAt ownAt
  rw [hr]
  dsimp only
  rw [q_bind, hf]
  dsimp only
  rw [q_bind, hg]
  dsimp only
  rw [pl]
  rfl
theorem nRep_q {f g : Env → Mo D} {r : Env} {st : St} {x : D} {k : Nat} (hf : f r st = .ok (.lst [x]) st) (hg : g r st = .ok (.int (k : Int)) st) (hk : k ≤ 16777216) : nRep f g r st = .ok (List.replicate k x) st := by
  unfold nRep
  rw [q_bind, hf]
  dsimp only
  rw [q_bind, hg]
  dsimp only
  rw [decide_eq_true (show 0 ≤ ((k : Nat) : Int) by omega), Int.toNat_natCast, Nat.ble_eq_true_of_le hk]
  show lim ([x].length * k) (List.replicate k [x]).flatten st = _
  rw [q_lim (by simp; omega)]
  have fl : ∀ k : Nat, (List.replicate k [x]).flatten = List.replicate k x := fun k => by
    induction k with
    | zero => rfl
    | succ k ih =>
      rw [List.replicate_succ, List.flatten_cons, List.replicate_succ, ih]
      rfl
  rw [fl]
theorem at_in {p n : Nat} (h : Fd p n) {a1 a2 a5 a6 : Option SV} {st : St} (es : List Int) : ∀ (acc : Nat) (a8 : Option SV), (∀ e ∈ es, 0 ≤ e) →
    ∃ a8', forL (tgN 8) (sSet 7 (eBin oAdd (eBin oMul (hVar 7) (hVar 3)) (eCall m__lessened (aCons (eVar 3) (aCons (eVar 8) (aNil)))))) (es.map D.int) [some (.d (frm (p : Int) (n : Int))), a1, a2, some (.d (.int (p : Int))), some (.d (.int (n : Int))), a5, a6, some (.d (.int (acc : Int))), a8] st = .ok (.nx [some (.d (frm (p : Int) (n : Int))), a1, a2, some (.d (.int (p : Int))), some (.d (.int (n : Int))), a5, a6, some (.d (.int ((es.foldl (fun a e => a * p + dig p e) acc : Nat) : Int))), a8']) st := by
  induction es with
  | nil => exact fun acc a8 _ => ⟨a8, rfl⟩
  | cons e es rec_ =>
    intro acc a8 he
    obtain ⟨a8', ih⟩ := rec_ (acc * p + dig p e) (some (.d (.int e))) fun x hx => he x (by simp [hx])
    refine ⟨a8', ?_⟩
    have le := lessened_q h.pm (he e (by simp)) st
    have b : (sSet 7 (eBin oAdd (eBin oMul (hVar 7) (hVar 3)) (eCall m__lessened (aCons (eVar 3) (aCons (eVar 8) (aNil)))))) [some (.d (frm (p : Int) (n : Int))), a1, a2, some (.d (.int (p : Int))), some (.d (.int (n : Int))), a5, a6, some (.d (.int (acc : Int))), some (.d (.int e))] st = .ok (.nx [some (.d (frm (p : Int) (n : Int))), a1, a2, some (.d (.int (p : Int))), some (.d (.int (n : Int))), a5, a6, some (.d (.int ((acc * p + dig p e : Nat) : Int))), some (.d (.int e))]) st := by
      have ml := q_mulI (i := (acc : Int)) (j := (p : Int)) (.inr (pm_small h.pm))
      simp [ml, le]
    rw [List.map_cons]
    exact (loopR_cong rfl b).trans ih
end Pi
namespace Pi
open PySem PySem.Spec PyProof.Rows L2
/-- terms of a field with n unknowns -/
def Tk (p n : Nat) (ms : Tms) : Prop := ∀ q ∈ ms, q.1.length = n ∧ (∀ e ∈ q.1, 0 ≤ e ∧ e ≤ 30) ∧ 1 ≤ q.2 ∧ q.2 ≤ (p : Int) - 1
def sL (p n : Nat) (ms : Tms) : List D := (pts p n).map fun v => .int (s0 p ms v)
theorem idx_fold (p : Nat) (es : List Int) : es.foldl (fun a e => a * p + dig p e) 0 = idx p (es.map (dig p)) := by
  unfold idx
  rw [List.foldl_map]
theorem sL_set {p n : Nat} (h : Fd p n) {ms : Tms} {q : List Int × Int} (hq : q.1.length = n ∧ (∀ e ∈ q.1, 0 ≤ e ∧ e ≤ 30)) : (sL p n ms).set (idx p (q.1.map (dig p))) (.int ((s0 p ms (q.1.map (lesI p)) + q.2) % p)) = sL p n (ms ++ [q]) := by
  have ud := up_dig h.pm (k := q.1) fun e he => (hq.2 e he).1
  refine set_map (by rw [List.length_map]; exact hq.1) (fun x hx => ?_) ?_ fun v hv => ?_
  · obtain ⟨e, he, rfl⟩ := List.mem_map.mp hx
    exact dig_lt h.pm (hq.2 e he).1
  · rw [ud]
    unfold s0
    rw [List.map_append, List.sum_append, List.map_cons, List.map_nil, List.sum_cons, List.sum_nil, if_pos rfl, Int.emod_add_emod, Int.add_zero]
  · rw [ud] at hv
    unfold s0
    rw [List.map_append, List.sum_append, List.map_cons, List.map_nil, List.sum_cons, List.sum_nil, if_neg hv, Int.add_zero, Int.add_zero]
theorem factors_q {p n : Nat} (h : Fd p n) {ms : Tms} (ok : Tk p n ms) (st : St) : m__factors [frm (p : Int) (n : Int), .tup (ms.map termD)] st = .ok (.lst (sL p n ms)) st := by
  have h4 := h.n4
  have hp := h.p2
  have pw : m_power_of [.int (p : Int), .int (n : Int)] st = .ok (.int ((p ^ n : Nat) : Int)) st := by
    rw [power_q (pm_small h.pm) (by omega), Int.natCast_pow]
  have le := fd_le h
  have first : sL p n [] = List.replicate (p ^ n) (.int 0) := by
    unfold sL
    have : ∀ v : List Int, s0 p [] v = 0 := fun v => rfl
    rw [show (fun v : List Int => D.int (s0 p [] v)) = fun _ => .int 0 from funext fun v => by rw [this], List.map_const', pts_len]
  have loop := forL_all (b := tgT [5, 6]) (g := sSeq (sSet 7 (eC (.int 0))) (sSeq (sFor (iDat (eVar 5)) (tgN 8) (sSet 7 (eBin oAdd (eBin oMul (hVar 7) (hVar 3)) (eCall m__lessened (aCons (eVar 3) (aCons (eVar 8) (aNil))))))) (sAt 2 (eBin oMod (eBin oAdd (eBin oIx (hVar 2) (hVar 7)) (hVar 6)) (hVar 3)) (eVar 7))))
    (I := fun k r s => s = st ∧ ∃ a5 a6 a7 a8 : Option SV, r = [some (.d (frm (p : Int) (n : Int))), some (.d (.tup (ms.map termD))), some (.own (sL p n (ms.take k))), some (.d (.int (p : Int))), some (.d (.int (n : Int))), a5, a6, a7, a8]) (ms.map termD) [some (.d (frm (p : Int) (n : Int))), some (.d (.tup (ms.map termD))), some (.own (sL p n [])), some (.d (.int (p : Int))), some (.d (.int (n : Int))), none, none, none, none] st 0 ⟨rfl, _, _, _, _, rfl⟩ fun k x r s hx ⟨hs, a5, a6, a7, a8, hr⟩ => by
      subst hs hr
      rw [Nat.zero_add]
      rw [List.getElem?_map] at hx
      obtain ⟨q, hq, rfl⟩ := Option.map_eq_some_iff.mp hx
      have qm := List.mem_of_getElem? hq
      obtain ⟨q1, q2, q3, q4⟩ := ok q qm
      have tk1 : ms.take (k + 1) = ms.take k ++ [q] := by
        obtain ⟨hk, e⟩ := List.getElem?_eq_some_iff.mp hq
        rw [List.take_succ_eq_append_getElem hk, e]
      obtain ⟨a8', inner⟩ := at_in h (a1 := some (.d (.tup (ms.map termD)))) (a2 := some (.own (sL p n (ms.take k)))) (a5 := some (.d (.tup (q.1.map .int)))) (a6 := some (.d (.int q.2))) (st := s) q.1 0 a8 fun e he => (q2 e he).1
      rw [idx_fold] at inner
      have dl : (q.1.map (dig p)).length = n := by rw [List.length_map]; exact q1
      have dd : ∀ x ∈ q.1.map (dig p), x < p := fun x hx => by
        obtain ⟨e, he, rfl⟩ := List.mem_map.mp hx
        exact dig_lt h.pm (q2 e he).1
      have at_ := pts_idx p n _ dl dd
      have ltI : idx p (q.1.map (dig p)) < (sL p n (ms.take k)).length := by
        have := (List.getElem?_eq_some_iff.mp at_).1
        unfold sL
        rw [List.length_map]
        exact this
      have val : (sL p n (ms.take k))[idx p (q.1.map (dig p))]? = some (.int (s0 p (ms.take k) (q.1.map (lesI p)))) := by
        unfold sL
        rw [List.getElem?_map, at_, up_dig h.pm fun e he => (q2 e he).1]
        rfl
      have val2 : (sL p n (ms.take k))[idx p (q.1.map (dig p))]'ltI = .int (s0 p (ms.take k) (q.1.map (lesI p))) := by
        have := List.getElem?_eq_getElem ltI
        rw [val] at this
        exact (Option.some.inj this).symm
      have p0 : (0 : Int) < (p : Int) := by omega
      refine ⟨[some (.d (frm (p : Int) (n : Int))), some (.d (.tup (ms.map termD))), some (.own (sL p n (ms.take k))), some (.d (.int (p : Int))), some (.d (.int (n : Int))), some (.d (.tup (q.1.map .int))), some (.d (.int q.2)), a7, a8], [some (.d (frm (p : Int) (n : Int))), some (.d (.tup (ms.map termD))), some (.own (sL p n (ms.take (k + 1)))), some (.d (.int (p : Int))), some (.d (.int (n : Int))), some (.d (.tup (q.1.map .int))), some (.d (.int q.2)), some (.d (.int (idx p (q.1.map (dig p)) : Nat))), a8'], s, rfl, ?_, rfl, _, _, _, _, rfl⟩
      refine seq_step (r' := [some (.d (frm (p : Int) (n : Int))), some (.d (.tup (ms.map termD))), some (.own (sL p n (ms.take k))), some (.d (.int (p : Int))), some (.d (.int (n : Int))), some (.d (.tup (q.1.map .int))), some (.d (.int q.2)), some (.d (.int 0)), a8]) (st' := s) rfl ?_
      refine seq_step (r' := [some (.d (frm (p : Int) (n : Int))), some (.d (.tup (ms.map termD))), some (.own (sL p n (ms.take k))), some (.d (.int (p : Int))), some (.d (.int (n : Int))), some (.d (.tup (q.1.map .int))), some (.d (.int q.2)), some (.d (.int (idx p (q.1.map (dig p)) : Nat))), a8']) (st' := s) (by
        rw [q_sFor]
        exact inner) ?_
      rw [tk1, ← sL_set h ⟨q1, q2⟩]
      refine sAt_q (xs := sL p n (ms.take k)) (k := idx p (q.1.map (dig p))) rfl ?_ rfl ltI
      have ix := q_ixL ltI
      rw [val2] at ix
      simp [ix, q_modI p0]
  obtain ⟨r2, st2, e, hs, a5, a6, a7, a8, hr⟩ := loop
  rw [Nat.zero_add, List.length_map, List.take_length] at hr
  subst hs hr
  have go : g__factors [some (.d (frm (p : Int) (n : Int))), some (.d (.tup (ms.map termD))), none, none, none, none, none, none, none] st2 = .ok (.ret (.lst (sL p n ms))) st2 := by
    unfold g__factors
    refine seq_step (r' := [some (.d (frm (p : Int) (n : Int))), some (.d (.tup (ms.map termD))), none, some (.d (.int (p : Int))), some (.d (.int (n : Int))), none, none, none, none]) (st' := st2) rfl ?_
    refine seq_step (r' := [some (.d (frm (p : Int) (n : Int))), some (.d (.tup (ms.map termD))), some (.own (sL p n [])), some (.d (.int (p : Int))), some (.d (.int (n : Int))), none, none, none, none]) (st' := st2) (by
      have rp := nRep_q (f := eC (.lst [.int 0])) (g := eCall m_power_of (aCons (eVar 3) (aCons (eVar 4) (aNil)))) (r := [some (.d (frm (p : Int) (n : Int))), some (.d (.tup (ms.map termD))), none, some (.d (.int (p : Int))), some (.d (.int (n : Int))), none, none, none, none]) (st := st2) (x := .int 0) (k := p ^ n) rfl (by
        rw [q_eCall]
        exact pw) (by omega)
      rw [q_sOwn, rp, first]
      rfl) ?_
    refine seq_step (r' := [some (.d (frm (p : Int) (n : Int))), some (.d (.tup (ms.map termD))), some (.own (sL p n ms)), some (.d (.int (p : Int))), some (.d (.int (n : Int))), a5, a6, a7, a8]) (st' := st2) (by
      rw [q_sFor]
      exact e) ?_
    rfl
  unfold m__factors
  rw [q_run]
  show endD (g__factors [some (.d (frm (p : Int) (n : Int))), some (.d (.tup (ms.map termD))), none, none, none, none, none, none, none] st2) = _
  rw [go]
  rfl
end Pi
namespace Pi
open PySem PySem.Spec PyProof.Rows L2
theorem flat_congr {a b : Type} {f g : a → List b} : ∀ {S : List a}, (∀ x ∈ S, f x = g x) → S.flatMap f = S.flatMap g
  | [], _ => rfl
  | x :: S, h => by rw [List.flatMap_cons, List.flatMap_cons, h x (by simp), flat_congr fun y hy => h y (by simp [hy])]
theorem sApp_q {i : Nat} {f : Env → Mo D} {r : Env} {st : St} {xs : List D} {x : D} (hr : r[i]? = some (some (.own xs))) (hf : f r st = .ok x st) (hl : xs.length < 16777216) : sApp i f r st = .ok (.nx (r.set i (some (.own (xs ++ [x]))))) st := by
  unfold sApp ownAt
  rw [hr]
  dsimp only
  rw [q_bind, hf]
  dsimp only
  rw [show Nat.blt xs.length 16777216 = true from Nat.ble_eq_true_of_le hl]
  rfl
theorem nStep_q {f : Env → Mo D} {lo hi : Env → Mo (Option Int)} {g : Env → Mo D} {r : Env} {st : St} {xs : List D} {l u : Option Int} {k : Int} (hf : f r st = .ok (.lst xs) st) (hl : lo r st = .ok l st) (hu : hi r st = .ok u st) (hg : g r st = .ok (.int k) st) (hk : k ≠ 0) : nStep f lo hi g r st = .ok (pickL xs (stepIx xs.length l u k)) st := by
  unfold nStep
  rw [q_bind, hf]
  dsimp only
  rw [q_bind, hl]
  dsimp only
  rw [q_bind, hu]
  dsimp only
  rw [q_bind, hg]
  dsimp only
  rw [decide_eq_false hk]
  rfl
theorem eMod_q {f g : Env → Mo D} {r : Env} {st : St} {a b : Int} (hf : f r st = .ok (.int a) st) (hg : g r st = .ok (.int b) st) (hb : 0 < b) : eBin oMod f g r st = .ok (.int (a % b)) st := by
  rw [q_eBin, hf]
  dsimp only
  rw [hg]
  dsimp only
  rw [q_modI hb]
  rfl
theorem eMul_q {f g : Env → Mo D} {r : Env} {st : St} {a b : Int} (hf : f r st = .ok (.int a) st) (hg : g r st = .ok (.int b) st) (hb : smallI a = true ∨ smallI b = true) : eBin oMul f g r st = .ok (.int (a * b)) st := by
  rw [q_eBin, hf]
  dsimp only
  rw [hg]
  dsimp only
  rw [q_mulI hb]
  rfl
theorem eBlt1_q {o : List D → Option D} {f : Env → Mo D} {r : Env} {st st1 : St} {x y : D} (hf : f r st = .ok x st1) (ho : o [x] = some y) : eBlt o (aCons f (aNil)) r st = .ok y st1 := by
  rw [q_eBlt, q_aCons, hf]
  dsimp only
  rw [q_aNil]
  dsimp only
  rw [ho]
  rfl
theorem ints_map {a : Type} (f : a → Int) : ∀ l : List a, intsOf (l.map fun x => .int (f x)) = some (l.map f)
  | [] => rfl
  | x :: l => by
    show (intsOf (l.map fun x => .int (f x))).map (f x :: ·) = _
    rw [ints_map f l]
    rfl
def rowT_ (p : Nat) (i : Nat) : D := .lst ((List.range p).map fun (j : Nat) => .int ((i : Int) ^ j % (p : Int)))
def tabD (p : Nat) : List D := (List.range p).map (rowT_ p)
theorem table_q {p : Nat} (hp : Pm p) (st : St) : m__table_of_values [.int (p : Int)] st = .ok (.lst (tabD p)) st := by
  rcases hp with rfl | rfl | rfl | rfl <;> kernel_rfl
abbrev rowB : Stm := sApp 7 (eBin oMod (eBlt oSumX (aCons (nFz (nLc (iFun zipO (aCons (eVar 10) (aCons (eVar 9) (aNil)))) (tgT [11, 12]) [11, 12] (bYes) (eBin oMul (hVar 11) (hVar 12)))) (aNil))) (hVar 5))
def rowV (p : Nat) (L : Nat → Int) (i : Nat) : Int := ((List.range p).map fun (j : Nat) => ((i : Int) ^ j % (p : Int)) * L j).sum % p
theorem pow_small {p : Nat} (hp : Pm p) (i j : Nat) : smallI ((i : Int) ^ j % (p : Int)) = true := by
  have h0 : (0 : Int) < p := by rcases hp with rfl | rfl | rfl | rfl <;> decide
  have h7 : (p : Int) ≤ 7 := by rcases hp with rfl | rfl | rfl | rfl <;> decide
  have h1 := Int.emod_nonneg ((i : Int) ^ j) (show (p : Int) ≠ 0 by omega)
  have h2 := Int.emod_lt_of_pos ((i : Int) ^ j) h0
  exact small_of (by omega) (by omega)
theorem row_one {p : Nat} (hp : Pm p) (L : Nat → Int) (i : Nat) {a0 a1 a2 a3 a4 a6 a8 : Option SV} {acc : List D} {st : St} (hl : acc.length < 16777216) :
    rowB [a0, a1, a2, a3, a4, some (.d (.int (p : Int))), a6, some (.own acc), a8, some (.d (.lst ((List.range p).map fun (j : Nat) => .int (L j)))), some (.d (rowT_ p i)), none, none] st = .ok (.nx [a0, a1, a2, a3, a4, some (.d (.int (p : Int))), a6, some (.own (acc ++ [.int (rowV p L i)])), a8, some (.d (.lst ((List.range p).map fun (j : Nat) => .int (L j)))), some (.d (rowT_ p i)), none, none]) st := by
  have p0 : (0 : Int) < p := by rcases hp with rfl | rfl | rfl | rfl <;> decide
  have p7 : p ≤ 7 := by rcases hp with rfl | rfl | rfl | rfl <;> omega
  have zp : zipO [rowT_ p i, .lst ((List.range p).map fun (j : Nat) => .int (L j))] = some ((List.range p).map fun (j : Nat) => D.tup [.int ((i : Int) ^ j % (p : Int)), .int (L j)]) := by
    show some (((List.map _ (List.range p)).zip (List.map _ (List.range p))).map fun q => D.tup [q.1, q.2]) = _
    rw [List.zip_map', List.map_map]
    rfl
  have lc : (nLc (iFun zipO (aCons (eVar 10) (aCons (eVar 9) (aNil)))) (tgT [11, 12]) [11, 12] (bYes) (eBin oMul (hVar 11) (hVar 12))) [a0, a1, a2, a3, a4, some (.d (.int (p : Int))), a6, some (.own acc), a8, some (.d (.lst ((List.range p).map fun (j : Nat) => .int (L j)))), some (.d (rowT_ p i)), none, none] st = .ok ((List.range p).map fun (j : Nat) => .int (((i : Int) ^ j % (p : Int)) * L j)) st := by
    refine nLc_q (st' := st) (xs := (List.range p).map fun (j : Nat) => D.tup [.int ((i : Int) ^ j % (p : Int)), .int (L j)]) ?_ (by simp; omega) ?_
    · rw [q_iFun]
      show Mo.opt (zipO [rowT_ p i, .lst ((List.range p).map fun (j : Nat) => .int (L j))]) st = _
      rw [zp]
      rfl
    · have Lq := lcL_pure (b := tgT [11, 12]) (c := bYes) (e := eBin oMul (hVar 11) (hVar 12)) (r := wipeE [11, 12] [a0, a1, a2, a3, a4, some (.d (.int (p : Int))), a6, some (.own acc), a8, some (.d (.lst ((List.range p).map fun (j : Nat) => .int (L j)))), some (.d (rowT_ p i)), none, none]) (st := st) (p := fun _ => true) (F := fun x => match x with
        | .tup [.int a, .int b] => .int (a * b)
        | _ => .non) ((List.range p).map fun (j : Nat) => D.tup [.int ((i : Int) ^ j % (p : Int)), .int (L j)]) fun x hx => by
          obtain ⟨j, _, rfl⟩ := List.mem_map.mp hx
          refine ⟨[a0, a1, a2, a3, a4, some (.d (.int (p : Int))), a6, some (.own acc), a8, some (.d (.lst ((List.range p).map fun (j : Nat) => .int (L j)))), some (.d (rowT_ p i)), some (.d (.int ((i : Int) ^ j % (p : Int)))), some (.d (.int (L j)))], rfl, rfl, fun _ => ?_⟩
          exact eMul_q rfl rfl (.inl (pow_small hp i j))
      rw [Lq, List.filter_eq_self.mpr fun _ _ => rfl, List.map_map]
      rfl
  refine sApp_q rfl ?_ hl
  have sm : oSumX [.lst ((List.range p).map fun (j : Nat) => .int (((i : Int) ^ j % (p : Int)) * L j))] = some (.int ((List.range p).map fun (j : Nat) => ((i : Int) ^ j % (p : Int)) * L j).sum) := by
    show (intsOf ((List.range p).map fun (j : Nat) => .int (((i : Int) ^ j % (p : Int)) * L j))).map (fun ns => D.int ns.sum) = _
    rw [ints_map]
    rfl
  exact eMod_q (eBlt1_q (by rw [q_nFz, lc]) sm) rfl p0
theorem rows_in {p : Nat} (hp : Pm p) (L : Nat → Int) {a0 a1 a2 a3 a4 a6 a8 : Option SV} {st : St} (is : List Nat) : ∀ (acc : List D) (a10 : Option SV), acc.length + is.length < 16777216 →
    ∃ a10', forL (tgN 10) rowB (is.map (rowT_ p)) [a0, a1, a2, a3, a4, some (.d (.int (p : Int))), a6, some (.own acc), a8, some (.d (.lst ((List.range p).map fun (j : Nat) => .int (L j)))), a10, none, none] st = .ok (.nx [a0, a1, a2, a3, a4, some (.d (.int (p : Int))), a6, some (.own (acc ++ is.map fun i => .int (rowV p L i))), a8, some (.d (.lst ((List.range p).map fun (j : Nat) => .int (L j)))), a10', none, none]) st := by
  induction is with
  | nil => exact fun acc a10 _ => ⟨a10, by simp⟩
  | cons i is rec_ =>
    intro acc a10 hl
    rw [List.length_cons] at hl
    obtain ⟨a10', ih⟩ := rec_ (acc ++ [.int (rowV p L i)]) (some (.d (rowT_ p i))) (by rw [List.length_append]; simp; omega)
    refine ⟨a10', ?_⟩
    rw [List.map_cons]
    refine (loopR_cong rfl (row_one hp L i (by omega))).trans ?_
    rw [loopR_nx, ih, List.append_assoc]
    rfl
abbrev innerB : Stm := sSeq (sSet 9 (nFz (nStep (hVar 1) (pSome (eVar 8)) (pNone) (eVar 3)))) (sFor (iDat (eVar 2)) (tgN 10) rowB)
def gL (p n k : Nat) (ms : Tms) (m : Nat) : List D := (pts p m).map fun v => .int (Gk p n k ms v)
theorem gL_next {p M k : Nat} (hp : Pm p) (hk : k < M + 1) {ms : Tms} (ok : Tk p (M + 1) ms) : gL p (M + 1) (k + 1) ms (M + 1) = (pts p M).flatMap fun r => (List.range p).map fun (i : Nat) => .int (rowV p (fun j => Gk p (M + 1) k ms ((j : Int) :: r)) i) := by
  unfold gL
  show ((pts p M).flatMap _).map _ = _
  rw [List.map_flatMap]
  refine flat_congr fun r hr => ?_
  rw [List.map_map]
  refine List.map_congr_left fun i hi => ?_
  have rl := (pts_ok p M r hr).1
  have := List.mem_range.mp hi
  show D.int (Gk p (M + 1) (k + 1) ms (r ++ [(i : Int)])) = D.int (rowV p _ i)
  unfold rowV
  rw [← round_q hp hk (fun q hq => ⟨(ok q hq).1, (ok q hq).2.1⟩) (by omega) (by omega) (by omega)]
theorem inner_q {p M k : Nat} (h : Fd p (M + 1)) (hk : k < M + 1) {ms : Tms} (ok : Tk p (M + 1) ms) {a4 : Option SV} {st : St} {a8 a9 a10 : Option SV} :
    ∃ a8' a9' a10' : Option SV, forL (tgN 8) innerB (rangeD 0 (p ^ M)) [some (.d (frm (p : Int) ((M + 1 : Nat) : Int))), some (.d (.lst (gL p (M + 1) k ms (M + 1)))), some (.d (.lst (tabD p))), some (.d (.int ((p ^ M : Nat) : Int))), a4, some (.d (.int (p : Int))), some (.d (.int ((M + 1 : Nat) : Int))), some (.own []), a8, a9, a10, none, none] st
      = .ok (.nx [some (.d (frm (p : Int) ((M + 1 : Nat) : Int))), some (.d (.lst (gL p (M + 1) k ms (M + 1)))), some (.d (.lst (tabD p))), some (.d (.int ((p ^ M : Nat) : Int))), a4, some (.d (.int (p : Int))), some (.d (.int ((M + 1 : Nat) : Int))), some (.own (gL p (M + 1) (k + 1) ms (M + 1))), a8', a9', a10', none, none]) st := by
  have hp := h.p2
  have le := fd_le h
  have p0 : 0 < p := by omega
  have pM : p ^ M * p = p ^ (M + 1) := (Nat.pow_succ ..).symm
  have m0 : 0 < p ^ M := Nat.pow_pos p0
  let blk : List Int → List D := fun r => (List.range p).map fun (i : Nat) => .int (rowV p (fun j => Gk p (M + 1) k ms ((j : Int) :: r)) i)
  have bl : ∀ r, (blk r).length = p := fun r => by simp [blk]
  have loop := forL_all (b := tgN 8) (g := innerB) (I := fun a r s => s = st ∧ a ≤ p ^ M ∧ ∃ a8 a9 a10 : Option SV, r = [some (.d (frm (p : Int) ((M + 1 : Nat) : Int))), some (.d (.lst (gL p (M + 1) k ms (M + 1)))), some (.d (.lst (tabD p))), some (.d (.int ((p ^ M : Nat) : Int))), a4, some (.d (.int (p : Int))), some (.d (.int ((M + 1 : Nat) : Int))), some (.own (((pts p M).take a).flatMap blk)), a8, a9, a10, none, none])
    (rangeD 0 (p ^ M)) [some (.d (frm (p : Int) ((M + 1 : Nat) : Int))), some (.d (.lst (gL p (M + 1) k ms (M + 1)))), some (.d (.lst (tabD p))), some (.d (.int ((p ^ M : Nat) : Int))), a4, some (.d (.int (p : Int))), some (.d (.int ((M + 1 : Nat) : Int))), some (.own []), a8, a9, a10, none, none] st 0 ⟨rfl, Nat.zero_le _, _, _, _, rfl⟩ fun a x r s hx ⟨hs, _, a8, a9, a10, hr⟩ => by
      subst hs hr
      obtain ⟨rfl, ha⟩ := rangeD_at hx
      rw [Nat.zero_add, Int.zero_add]
      have hlt : a < (pts p M).length := by rw [pts_len]; exact ha
      have hg : (pts p M)[a]? = some ((pts p M)[a]'hlt) := List.getElem?_eq_getElem hlt
      generalize hr0 : (pts p M)[a]'hlt = r0 at hg
      have tk1 : (pts p M).take (a + 1) = (pts p M).take a ++ [r0] := by rw [List.take_succ_eq_append_getElem hlt, hr0]
      have accL : (((pts p M).take a).flatMap blk).length ≤ 700 := by
        rw [flat_len (m := p) fun r _ => bl r, List.length_take, pts_len]
        have : min a (p ^ M) * p ≤ p ^ M * p := Nat.mul_le_mul_right p (Nat.min_le_right _ _)
        omega
      obtain ⟨a10', rows⟩ := rows_in h.pm (fun j => Gk p (M + 1) k ms ((j : Int) :: r0)) (a0 := some (.d (frm (p : Int) ((M + 1 : Nat) : Int)))) (a1 := some (.d (.lst (gL p (M + 1) k ms (M + 1))))) (a2 := some (.d (.lst (tabD p)))) (a3 := some (.d (.int ((p ^ M : Nat) : Int)))) (a4 := a4) (a6 := some (.d (.int ((M + 1 : Nat) : Int)))) (a8 := some (.d (.int (a : Int)))) (st := s) (List.range p) (((pts p M).take a).flatMap blk) a10 (by rw [List.length_range]; omega)
      refine ⟨_, [some (.d (frm (p : Int) ((M + 1 : Nat) : Int))), some (.d (.lst (gL p (M + 1) k ms (M + 1)))), some (.d (.lst (tabD p))), some (.d (.int ((p ^ M : Nat) : Int))), a4, some (.d (.int (p : Int))), some (.d (.int ((M + 1 : Nat) : Int))), some (.own (((pts p M).take (a + 1)).flatMap blk)), some (.d (.int (a : Int))), some (.d (.lst ((List.range p).map fun (j : Nat) => .int (Gk p (M + 1) k ms ((j : Int) :: r0))))), a10', none, none], s, rfl, ?_, rfl, by omega, _, _, _, rfl⟩
      refine seq_step (r' := [some (.d (frm (p : Int) ((M + 1 : Nat) : Int))), some (.d (.lst (gL p (M + 1) k ms (M + 1)))), some (.d (.lst (tabD p))), some (.d (.int ((p ^ M : Nat) : Int))), a4, some (.d (.int (p : Int))), some (.d (.int ((M + 1 : Nat) : Int))), some (.own (((pts p M).take a).flatMap blk)), some (.d (.int (a : Int))), some (.d (.lst ((List.range p).map fun (j : Nat) => .int (Gk p (M + 1) k ms ((j : Int) :: r0))))), a10, none, none]) (st' := s) ?_ ?_
      · have sp := nStep_q (f := hVar 1) (lo := pSome (eVar 8)) (hi := pNone) (g := eVar 3) (r := [some (.d (frm (p : Int) ((M + 1 : Nat) : Int))), some (.d (.lst (gL p (M + 1) k ms (M + 1)))), some (.d (.lst (tabD p))), some (.d (.int ((p ^ M : Nat) : Int))), a4, some (.d (.int (p : Int))), some (.d (.int ((M + 1 : Nat) : Int))), some (.own (((pts p M).take a).flatMap blk)), some (.d (.int (a : Int))), a9, a10, none, none]) (st := s) (xs := gL p (M + 1) k ms (M + 1)) (l := some (a : Int)) (u := none) (k := ((p ^ M : Nat) : Int)) rfl rfl rfl rfl (by omega)
        have pk := slice_pick p0 (fun v => D.int (Gk p (M + 1) k ms v)) hg
        rw [q_sSet, q_nFz]
        show (match (match nStep (hVar 1) (pSome (eVar 8)) (pNone) (eVar 3) [some (.d (frm (p : Int) ((M + 1 : Nat) : Int))), some (.d (.lst (gL p (M + 1) k ms (M + 1)))), some (.d (.lst (tabD p))), some (.d (.int ((p ^ M : Nat) : Int))), a4, some (.d (.int (p : Int))), some (.d (.int ((M + 1 : Nat) : Int))), some (.own (((pts p M).take a).flatMap blk)), some (.d (.int (a : Int))), a9, a10, none, none] s with
          | .ok x st' => Res.ok (D.lst x) st'
          | .err k x st' => .err k x st'
          | .bad => .bad) with
          | .ok x st' => _
          | .err k x st' => _
          | .bad => _) = _
        rw [sp]
        have pk' : pickL (gL p (M + 1) k ms (M + 1)) (stepIx (gL p (M + 1) k ms (M + 1)).length (some (a : Int)) none ((p ^ M : Nat) : Int)) = (List.range p).map fun (j : Nat) => .int (Gk p (M + 1) k ms ((j : Int) :: r0)) := pk
        rw [pk']
        rfl
      · rw [q_sFor]
        refine (show forL (tgN 10) rowB (tabD p) [some (.d (frm (p : Int) ((M + 1 : Nat) : Int))), some (.d (.lst (gL p (M + 1) k ms (M + 1)))), some (.d (.lst (tabD p))), some (.d (.int ((p ^ M : Nat) : Int))), a4, some (.d (.int (p : Int))), some (.d (.int ((M + 1 : Nat) : Int))), some (.own (((pts p M).take a).flatMap blk)), some (.d (.int (a : Int))), some (.d (.lst ((List.range p).map fun (j : Nat) => .int (Gk p (M + 1) k ms ((j : Int) :: r0))))), a10, none, none] s = _ from rows).trans ?_
        have fb : ((pts p M).take (a + 1)).flatMap blk = ((pts p M).take a).flatMap blk ++ (List.range p).map fun (i : Nat) => .int (rowV p (fun j => Gk p (M + 1) k ms ((j : Int) :: r0)) i) := by
          rw [tk1, List.flatMap_append, List.flatMap_cons, List.flatMap_nil, List.append_nil]
        rw [fb]
  obtain ⟨r2, st2, e, hs, _, a8', a9', a10', hr⟩ := loop
  have rl : (rangeD 0 (p ^ M)).length = p ^ M := by simp [rangeD]
  rw [Nat.zero_add, rl, List.take_of_length_le (by rw [pts_len]; exact Nat.le_refl _)] at hr
  subst hs hr
  refine ⟨a8', a9', a10', ?_⟩
  rw [e, gL_next h.pm hk ok]
end Pi
namespace Pi
open PySem PySem.Spec PyProof.Rows L2
theorem eFdiv_q {f g : Env → Mo D} {r : Env} {st : St} {a b : Int} (hf : f r st = .ok (.int a) st) (hg : g r st = .ok (.int b) st) (hb : 0 < b) (h2 : b < 1073741824) : eBin oFdiv f g r st = .ok (.int (a / b)) st := by
  rw [q_eBin, hf]
  dsimp only
  rw [hg]
  dsimp only
  rw [q_fdivI hb h2]
  rfl
abbrev outB : Stm := sSeq (sOwn 7 (nLst (aNil))) (sSeq (sFor (iRng1 (aCons (eVar 3) (aNil))) (tgN 8) innerB) (sSeq (sFrzT 7) (sSet 1 (eVar 7))))
theorem along_q {p M : Nat} (h : Fd p (M + 1)) {ms : Tms} (ok : Tk p (M + 1) ms) (st : St) : m__along_each_unknown [frm (p : Int) ((M + 1 : Nat) : Int), .lst (gL p (M + 1) 0 ms (M + 1)), .lst (tabD p)] st = .ok (.lst (gL p (M + 1) (M + 1) ms (M + 1))) st := by
  have hp := h.p2
  have h4 := h.n4
  have le := fd_le h
  have p0 : (0 : Int) < (p : Int) := by omega
  have pM : p ^ (M + 1) = p ^ M * p := Nat.pow_succ ..
  have mle : p ^ M ≤ 700 := by
    have : p ^ M * 1 ≤ p ^ M * p := Nat.mul_le_mul_left _ (by omega)
    omega
  have loop := forL_all (b := tgN 4) (g := outB) (I := fun k r s => s = st ∧ k ≤ M + 1 ∧ ∃ a4 a7 a8 a9 a10 : Option SV, r = [some (.d (frm (p : Int) ((M + 1 : Nat) : Int))), some (.d (.lst (gL p (M + 1) k ms (M + 1)))), some (.d (.lst (tabD p))), some (.d (.int ((p ^ M : Nat) : Int))), a4, some (.d (.int (p : Int))), some (.d (.int ((M + 1 : Nat) : Int))), a7, a8, a9, a10, none, none])
    (rangeD 0 (M + 1)) [some (.d (frm (p : Int) ((M + 1 : Nat) : Int))), some (.d (.lst (gL p (M + 1) 0 ms (M + 1)))), some (.d (.lst (tabD p))), some (.d (.int ((p ^ M : Nat) : Int))), none, some (.d (.int (p : Int))), some (.d (.int ((M + 1 : Nat) : Int))), none, none, none, none, none, none] st 0 ⟨rfl, Nat.zero_le _, _, _, _, _, _, rfl⟩ fun k x r s hx ⟨hs, _, a4, a7, a8, a9, a10, hr⟩ => by
      subst hs hr
      obtain ⟨rfl, hk⟩ := rangeD_at hx
      rw [Nat.zero_add]
      obtain ⟨b8, b9, b10, inner⟩ := inner_q h hk ok (a4 := some (.d (.int (0 + (k : Int))))) (st := s) (a8 := a8) (a9 := a9) (a10 := a10)
      refine ⟨[some (.d (frm (p : Int) ((M + 1 : Nat) : Int))), some (.d (.lst (gL p (M + 1) k ms (M + 1)))), some (.d (.lst (tabD p))), some (.d (.int ((p ^ M : Nat) : Int))), some (.d (.int (0 + (k : Int)))), some (.d (.int (p : Int))), some (.d (.int ((M + 1 : Nat) : Int))), a7, a8, a9, a10, none, none], [some (.d (frm (p : Int) ((M + 1 : Nat) : Int))), some (.d (.lst (gL p (M + 1) (k + 1) ms (M + 1)))), some (.d (.lst (tabD p))), some (.d (.int ((p ^ M : Nat) : Int))), some (.d (.int (0 + (k : Int)))), some (.d (.int (p : Int))), some (.d (.int ((M + 1 : Nat) : Int))), some (.d (.lst (gL p (M + 1) (k + 1) ms (M + 1)))), b8, b9, b10, none, none], s, rfl, ?_, rfl, by omega, _, _, _, _, _, rfl⟩
      refine seq_step (r' := [some (.d (frm (p : Int) ((M + 1 : Nat) : Int))), some (.d (.lst (gL p (M + 1) k ms (M + 1)))), some (.d (.lst (tabD p))), some (.d (.int ((p ^ M : Nat) : Int))), some (.d (.int (0 + (k : Int)))), some (.d (.int (p : Int))), some (.d (.int ((M + 1 : Nat) : Int))), some (.own []), a8, a9, a10, none, none]) (st' := s) rfl ?_
      refine seq_step (r' := [some (.d (frm (p : Int) ((M + 1 : Nat) : Int))), some (.d (.lst (gL p (M + 1) k ms (M + 1)))), some (.d (.lst (tabD p))), some (.d (.int ((p ^ M : Nat) : Int))), some (.d (.int (0 + (k : Int)))), some (.d (.int (p : Int))), some (.d (.int ((M + 1 : Nat) : Int))), some (.own (gL p (M + 1) (k + 1) ms (M + 1))), b8, b9, b10, none, none]) (st' := s) ?_ ?_
      · rw [q_sFor, range1_q (n := p ^ M) rfl (by omega)]
        exact inner
      · rfl
  obtain ⟨r2, st2, e, hs, _, a4, a7, a8, a9, a10, hr⟩ := loop
  have rl : (rangeD 0 (M + 1)).length = M + 1 := by simp [rangeD]
  rw [Nat.zero_add, rl] at hr
  subst hs hr
  have go : g__along_each_unknown [some (.d (frm (p : Int) ((M + 1 : Nat) : Int))), some (.d (.lst (gL p (M + 1) 0 ms (M + 1)))), some (.d (.lst (tabD p))), none, none, none, none, none, none, none, none, none, none] st2 = .ok (.ret (.lst (gL p (M + 1) (M + 1) ms (M + 1)))) st2 := by
    unfold g__along_each_unknown
    refine seq_step (r' := [some (.d (frm (p : Int) ((M + 1 : Nat) : Int))), some (.d (.lst (gL p (M + 1) 0 ms (M + 1)))), some (.d (.lst (tabD p))), none, none, some (.d (.int (p : Int))), some (.d (.int ((M + 1 : Nat) : Int))), none, none, none, none, none, none]) (st' := st2) rfl ?_
    refine seq_step (r' := [some (.d (frm (p : Int) ((M + 1 : Nat) : Int))), some (.d (.lst (gL p (M + 1) 0 ms (M + 1)))), some (.d (.lst (tabD p))), some (.d (.int ((p ^ M : Nat) : Int))), none, some (.d (.int (p : Int))), some (.d (.int ((M + 1 : Nat) : Int))), none, none, none, none, none, none]) (st' := st2) ?_ ?_
    · have gl : ((gL p (M + 1) 0 ms (M + 1)).length : Nat) = p ^ (M + 1) := by
        unfold gL
        rw [List.length_map, pts_len]
      have fd := eFdiv_q (f := eBlt oLen (aCons (hVar 1) (aNil))) (g := hVar 5) (r := [some (.d (frm (p : Int) ((M + 1 : Nat) : Int))), some (.d (.lst (gL p (M + 1) 0 ms (M + 1)))), some (.d (.lst (tabD p))), none, none, some (.d (.int (p : Int))), some (.d (.int ((M + 1 : Nat) : Int))), none, none, none, none, none, none]) (st := st2) (a := ((p ^ (M + 1) : Nat) : Int)) (b := (p : Int)) (eBlt1_q (x := .lst (gL p (M + 1) 0 ms (M + 1))) rfl (by rw [q_lenL, gl])) rfl p0 (by omega)
      have dv : ((p ^ (M + 1) : Nat) : Int) / (p : Int) = ((p ^ M : Nat) : Int) := by
        rw [pM, Int.natCast_mul, Int.mul_ediv_cancel _ (by omega)]
      rw [dv] at fd
      rw [q_sSet, fd]
      rfl
    · rw [q_seq, q_sFor, range1_q (n := M + 1) rfl (by omega)]
      dsimp only
      rw [e, seqR_nx]
      rfl
  unfold m__along_each_unknown
  rw [q_run]
  show endD (g__along_each_unknown [some (.d (frm (p : Int) ((M + 1 : Nat) : Int))), some (.d (.lst (gL p (M + 1) 0 ms (M + 1)))), some (.d (.lst (tabD p))), none, none, none, none, none, none, none, none, none, none] st2) = _
  rw [go]
  rfl
def evI (p : Nat) (ms : Tms) (v : List Int) : Int := ((ms.map fun q => q.2 * mon q.1 v).sum) % p
structure Sh (p n : Nat) (ms : Tms) : Prop where
  tk : Tk p n ms
  up : ms.Pairwise fun a b => lexI a.1 b.1 = true
  le : ms.length ≤ 700
theorem gk_end {p n : Nat} {ms : Tms} (ok : Tk p n ms) {v : List Int} : Gk p n n ms v = evI p ms v := by
  unfold Gk evI
  congr 2
  refine List.map_congr_left fun q hq => ?_
  have l := (ok q hq).1
  unfold phi
  rw [Nat.sub_self, List.take_zero, List.drop_zero, List.drop_of_length_le (by omega), List.take_of_length_le (by omega)]
  simp
theorem ints_self (k : List Int) : (D.tup (k.map .int)).ints = some k := by
  have := ints_map id k
  rw [List.map_id] at this
  exact this
theorem key_ok {p n : Nat} {q : List Int × Int} (h : q.1.length = n ∧ (∀ e ∈ q.1, 0 ≤ e ∧ e ≤ 30) ∧ 1 ≤ q.2 ∧ q.2 ≤ (p : Int) - 1) : isTerm (p : Int) (n : Int) (termD q) = true := by
  obtain ⟨h1, h2, h3, h4⟩ := h
  show ((((q.1.map D.int).length : Int) == (n : Int) && (q.1.map D.int).all (inR 0 30)) && inR 1 ((p : Int) - 1) (.int q.2)) = true
  rw [Bool.and_eq_true, Bool.and_eq_true]
  refine ⟨⟨by rw [List.length_map, h1]; simp, ?_⟩, ?_⟩
  · rw [List.all_eq_true]
    intro x hx
    obtain ⟨e, he, rfl⟩ := List.mem_map.mp hx
    have := h2 e he
    show (decide ((0 : Int) ≤ e) && decide (e ≤ 30)) = true
    rw [decide_eq_true this.1, decide_eq_true this.2]
    rfl
  · show (decide ((1 : Int) ≤ q.2) && decide (q.2 ≤ (p : Int) - 1)) = true
    rw [decide_eq_true h3, decide_eq_true h4]
    rfl
theorem go_none {p n : Nat} : ∀ (ms : Tms) (i : Nat) (a : List Int), Tk p n ms → (∀ q ∈ ms, lexI a q.1 = true) → ms.Pairwise (fun a b => lexI a.1 b.1 = true) → goP (p : Int) (n : Int) i (.tup (a.map .int)) (ms.map termD) = none
  | [], _, _, _, _, _ => rfl
  | q :: ms, i, a, ok, ha, up => by
    obtain ⟨u1, u2⟩ := List.pairwise_cons.mp up
    have ih := go_none ms (i + 1) q.1 (fun x hx => ok x (by simp [hx])) (fun x hx => u1 x hx) u2
    rw [List.map_cons]
    unfold goP
    have lt : ltK (.tup (a.map .int)) (keyOf (termD q)) = true := by
      show (match (D.tup (a.map .int)).ints, (D.tup (q.1.map .int)).ints with
        | some x, some y => lexI x y
        | _, _ => false) = true
      rw [ints_self, ints_self]
      exact ha q (by simp)
    rw [key_ok (ok q (by simp)), lt]
    exact ih
theorem sh_pf {p n : Nat} (h : Fd p n) {ms : Tms} (s : Sh p n ms) : pfault (p : Int) (n : Int) (.tup (ms.map termD)) = none := by
  show (match decide ((ms.map termD).length ≤ 700) with
    | true => (goP (p : Int) (n : Int) 0 (.tup []) (ms.map termD)).map fun (i : Nat) => D.tup [.int (i : Int)]
    | false => some (.tup [])) = none
  rw [decide_eq_true (by rw [List.length_map]; exact s.le)]
  have := go_none ms 0 [] s.tk (fun q hq => lexI_nil fun z => by
    have l := (s.tk q hq).1
    rw [z] at l
    have := h.n1
    simp at l
    omega) s.up
  show (goP (p : Int) (n : Int) 0 (.tup ([].map D.int)) (ms.map termD)).map _ = none
  rw [this]
  rfl
theorem sh_pl {p n : Nat} (h : Fd p n) {ms : Tms} (s : Sh p n ms) : (D.tup (ms.map termD)).pl = true ∧ (D.tup (ms.map termD)).short = true := by
  have pk : ∀ k : List Int, (D.tup (k.map .int)).pl = true := fun k => pl_tup.mpr fun x hx => by
    obtain ⟨e, _, rfl⟩ := List.mem_map.mp hx
    rfl
  refine ⟨pl_tup.mpr fun x hx => ?_, short_tup.mpr ⟨by rw [List.length_map]; have := s.le; omega, fun x hx => ?_⟩⟩
  · obtain ⟨q, hq, rfl⟩ := List.mem_map.mp hx
    refine pl_tup.mpr fun y hy => ?_
    simp only [List.mem_cons, List.not_mem_nil, or_false] at hy
    rcases hy with rfl | rfl
    · exact pk q.1
    · rfl
  · obtain ⟨q, hq, rfl⟩ := List.mem_map.mp hx
    refine short_tup.mpr ⟨by simp, fun y hy => ?_⟩
    simp only [List.mem_cons, List.not_mem_nil, or_false] at hy
    rcases hy with rfl | rfl
    · refine short_tup.mpr ⟨?_, fun z hz => ?_⟩
      · rw [List.length_map, (s.tk q hq).1]
        have := h.n4
        omega
      · obtain ⟨e, _, rfl⟩ := List.mem_map.mp hz
        rfl
    · rfl
theorem need_sh {p n : Nat} (h : Fd p n) {ms : Tms} (s : Sh p n ms) (st : St) : m_need_poly [frm (p : Int) (n : Int), .tup (ms.map termD)] st = .ok (.tup (ms.map termD)) st := by
  obtain ⟨h1, h2⟩ := sh_pl h s
  have np := need_poly_q (frm (p : Int) (n : Int)) (.tup (ms.map termD)) rfl h1 h2 st
  have e : nfault (frm (p : Int) (n : Int)) (.tup (ms.map termD)) = none := by
    unfold nfault
    rw [fd_ff h]
    show (pfault (p : Int) (n : Int) (.tup (ms.map termD))).map _ = none
    rw [sh_pf h s]
    rfl
  rw [e] at np
  exact np
def valsD (p n : Nat) (ms : Tms) : List D := (pts p n).map fun v => .int (evI p ms v)
theorem sExpr_q {f : Env → Mo D} {r : Env} {st st' : St} {x : D} (h : f r st = .ok x st') : sExpr f r st = .ok (.nx r) st' := by
  rw [q_sExpr, h]
theorem call1_q {m : List D → Mo D} {f : Env → Mo D} {r : Env} {st s1 : St} {x : D} {z : Res D} (hf : f r st = .ok x s1) (hm : m [x] s1 = z) : eCall m (aCons f (aNil)) r st = z := by
  rw [q_eCall, q_aCons, hf]
  dsimp only
  rw [q_aNil]
  exact hm
theorem call2_q {m : List D → Mo D} {f g : Env → Mo D} {r : Env} {st s1 s2 : St} {x y : D} {z : Res D} (hf : f r st = .ok x s1) (hg : g r s1 = .ok y s2) (hm : m [x, y] s2 = z) : eCall m (aCons f (aCons g (aNil))) r st = z := by
  rw [q_eCall, q_aCons, hf]
  dsimp only
  rw [q_aCons, hg]
  dsimp only
  rw [q_aNil]
  exact hm
theorem call3_q {m : List D → Mo D} {f g h : Env → Mo D} {r : Env} {st s1 s2 s3 : St} {x y w : D} {z : Res D} (hf : f r st = .ok x s1) (hg : g r s1 = .ok y s2) (hh : h r s2 = .ok w s3) (hm : m [x, y, w] s3 = z) : eCall m (aCons f (aCons g (aCons h (aNil)))) r st = z := by
  rw [q_eCall, q_aCons, hf]
  dsimp only
  rw [q_aCons, hg]
  dsimp only
  rw [q_aCons, hh]
  dsimp only
  rw [q_aNil]
  exact hm
theorem run_q {n : Nat} {g : Stm} {ds : List D} {st st' : St} {x : D} (h : g (ds.map (fun x => some (.d x)) ++ List.replicate (n - ds.length) none) st = .ok (.ret x) st') : runD n g ds st = .ok x st' := by
  rw [q_run, h]
  rfl
theorem sRet_q {f : Env → Mo D} {r : Env} {st st' : St} {x : D} (h : f r st = .ok x st') : sRet f r st = .ok (.ret x) st' := by
  rw [q_sRet, h]
theorem values_q {p n : Nat} (h : Fd p n) {ms : Tms} (s : Sh p n ms) (st : St) : m_values [frm (p : Int) (n : Int), .tup (ms.map termD)] st = .ok (.tup (valsD p n ms)) st := by
  obtain ⟨M, rfl⟩ : ∃ M, n = M + 1 := ⟨n - 1, by have := h.n1; omega⟩
  have g0 : sL p (M + 1) ms = gL p (M + 1) 0 ms (M + 1) := by
    unfold sL gL
    refine List.map_congr_left fun v hv => ?_
    rw [s0_gk (pts_ok p (M + 1) v hv).1]
  have g1 : gL p (M + 1) (M + 1) ms (M + 1) = valsD p (M + 1) ms := by
    unfold gL valsD
    refine List.map_congr_left fun v hv => ?_
    rw [gk_end s.tk]
  have fq := factors_q h s.tk st
  rw [g0] at fq
  have aq := along_q h s.tk st
  rw [g1] at aq
  have tq := table_q h.pm st
  have nq := need_sh h s st
  have go : g_values [some (.d (frm (p : Int) ((M + 1 : Nat) : Int))), some (.d (.tup (ms.map termD)))] st = .ok (.ret (.tup (valsD p (M + 1) ms))) st := by
    unfold g_values
    refine seq_step (r' := [some (.d (frm (p : Int) ((M + 1 : Nat) : Int))), some (.d (.tup (ms.map termD)))]) (st' := st) (sExpr_q (call2_q rfl rfl nq)) ?_
    exact sRet_q (eBlt1_q (call3_q rfl (call2_q rfl rfl fq) (call1_q (by simp [oIx, place]) tq) aq) rfl)
  exact run_q go
end Pi
namespace Pi
open PySem PySem.Spec PyProof.Rows L2
theorem eOp_q {o : D → D → Option D} {f g : Env → Mo D} {r : Env} {st s1 s2 : St} {x y z : D} (hf : f r st = .ok x s1) (hg : g r s1 = .ok y s2) (ho : o x y = some z) : eBin o f g r st = .ok z s2 := by
  rw [q_eBin, hf]
  dsimp only
  rw [hg]
  dsimp only
  rw [ho]
  rfl
theorem sSet_q {i : Nat} {f : Env → Mo D} {r : Env} {st s1 : St} {x : D} (h : f r st = .ok x s1) : sSet i f r st = .ok (.nx (r.set i (some (.d x)))) s1 := by
  rw [q_sSet, h]
theorem eInt_q {f : Env → Mo D} {r : Env} {st s1 : St} {i : Int} (h : f r st = .ok (.int i) s1) : eBlt oInt (aCons f (aNil)) r st = .ok (.int i) s1 := eBlt1_q h rfl
theorem pp0 {p : Nat} (hp : Pm p) : (0 : Int) < (p : Int) := by rcases hp with rfl | rfl | rfl | rfl <;> decide
theorem mod_small {p : Nat} (hp : Pm p) (a : Int) : smallI (a % (p : Int)) = true := by
  have h7 : (p : Int) ≤ 7 := by rcases hp with rfl | rfl | rfl | rfl <;> decide
  have h1 := Int.emod_nonneg a (show (p : Int) ≠ 0 by have := pp0 hp; omega)
  have h2 := Int.emod_lt_of_pos a (pp0 hp)
  exact small_of (by omega) (by omega)
theorem mod_l {p a b : Int} : (a % p) * b % p = a * b % p := by rw [Int.mul_emod, Int.emod_emod, ← Int.mul_emod]
theorem one_mod {p : Nat} (hp : Pm p) : (1 : Int) % (p : Int) = 1 := by rcases hp with rfl | rfl | rfl | rfl <;> decide
theorem raised_q {p : Nat} (hp : Pm p) (x : Int) (e : Nat) (he : e ≤ 1000) (st : St) : m__law_raised [.int x, .int (e : Int), .int (p : Int)] st = .ok (.int (x ^ e % (p : Int))) st := by
  have loop := forL_all (b := tgN 4) (g := sSet 3 (eBin oMod (eBlt oInt (aCons (eBin oMul (hVar 3) (hVar 0)) (aNil))) (hVar 2))) (I := fun k r s => s = st ∧ ∃ a4 : Option SV, r = [some (.d (.int x)), some (.d (.int (e : Int))), some (.d (.int (p : Int))), some (.d (.int (x ^ k % (p : Int)))), a4]) (rangeD 0 e) [some (.d (.int x)), some (.d (.int (e : Int))), some (.d (.int (p : Int))), some (.d (.int 1)), none] st 0 ⟨rfl, none, by rw [Int.pow_zero, one_mod hp]⟩ fun k y r s hy ⟨hs, a4, hr⟩ => by
    subst hs hr
    rw [Nat.zero_add]
    refine ⟨_, [some (.d (.int x)), some (.d (.int (e : Int))), some (.d (.int (p : Int))), some (.d (.int (x ^ (k + 1) % (p : Int)))), some (.d y)], s, rfl, ?_, rfl, _, rfl⟩
    have mo := eMod_q (f := eBlt oInt (aCons (eBin oMul (hVar 3) (hVar 0)) (aNil))) (g := hVar 2) (r := [some (.d (.int x)), some (.d (.int (e : Int))), some (.d (.int (p : Int))), some (.d (.int (x ^ k % (p : Int)))), some (.d y)]) (st := s) (eInt_q (eMul_q rfl rfl (.inl (mod_small hp _)))) rfl (pp0 hp)
    rw [mod_l, ← Int.pow_succ] at mo
    exact sSet_q mo
  obtain ⟨r2, st2, e1, hs, a4, hr⟩ := loop
  have rl : (rangeD 0 e).length = e := by simp [rangeD]
  rw [Nat.zero_add, rl] at hr
  subst hs hr
  refine run_q (st' := st2) ?_
  show g__law_raised [some (.d (.int x)), some (.d (.int (e : Int))), some (.d (.int (p : Int))), none, none] st2 = _
  unfold g__law_raised
  refine seq_step (r' := [some (.d (.int x)), some (.d (.int (e : Int))), some (.d (.int (p : Int))), some (.d (.int 1)), none]) (st' := st2) rfl ?_
  refine seq_step (r' := [some (.d (.int x)), some (.d (.int (e : Int))), some (.d (.int (p : Int))), some (.d (.int (x ^ e % (p : Int)))), a4]) (st' := st2) ?_ rfl
  rw [q_sFor, range1_q (n := e) rfl (by omega)]
  exact e1
def zipI (es xs : List Int) : List D := (es.zip xs).map fun q => D.tup [.int q.1, .int q.2]
theorem zipO_ints (es xs : List Int) : zipO [.tup (es.map .int), .tup (xs.map .int)] = some (zipI es xs) := by
  show some (((es.map D.int).zip (xs.map D.int)).map fun q => D.tup [q.1, q.2]) = _
  rw [List.zip_map, List.map_map]
  rfl
abbrev worthB : Stm := sSet 6 (eBin oMod (eBlt oInt (aCons (eBin oMul (hVar 6) (eCall m__law_raised (aCons (eVar 8) (aCons (eVar 7) (aCons (eBin oIx (hVar 0) (eC (.int 0))) (aNil)))))) (aNil))) (eBin oIx (hVar 0) (eC (.int 0))))
theorem frm_ix0 {p n : Int} {r : Env} {st : St} : eBin oIx (hVar 0) (eC (.int 0)) (some (.d (frm p n)) :: r) st = .ok (.int p) st := rfl
theorem worth_in {p n : Nat} (hp : Pm p) {a1 a2 a3 a4 a5 : Option SV} {st : St} (es : List Int) : ∀ (xs : List Int) (a : Int) (a7 a8 : Option SV), (∀ e ∈ es, 0 ≤ e ∧ e ≤ 30) →
    ∃ a7' a8' : Option SV, forL (tgT [7, 8]) worthB (zipI es xs) [some (.d (frm (p : Int) (n : Int))), a1, a2, a3, a4, a5, some (.d (.int (a % (p : Int)))), a7, a8] st = .ok (.nx [some (.d (frm (p : Int) (n : Int))), a1, a2, a3, a4, a5, some (.d (.int (a * mon es xs % (p : Int)))), a7', a8']) st := by
  induction es with
  | nil =>
    intro xs a a7 a8 _
    refine ⟨a7, a8, ?_⟩
    have : mon [] xs = 1 := by cases xs <;> rfl
    rw [this, Int.mul_one]
    rfl
  | cons e es rec_ =>
    intro xs a a7 a8 he
    cases xs with
    | nil =>
      refine ⟨a7, a8, ?_⟩
      have : mon (e :: es) [] = 1 := rfl
      rw [this, Int.mul_one]
      rfl
    | cons x xs =>
      obtain ⟨e0, e1⟩ := he e (by simp)
      obtain ⟨E, rfl⟩ := Int.eq_ofNat_of_zero_le e0
      obtain ⟨b7, b8, ih⟩ := rec_ xs (a * x ^ E) (some (.d (.int (E : Int)))) (some (.d (.int x))) fun y hy => he y (by simp [hy])
      refine ⟨b7, b8, ?_⟩
      have rq := raised_q hp x E (by omega) st
      have b : worthB [some (.d (frm (p : Int) (n : Int))), a1, a2, a3, a4, a5, some (.d (.int (a % (p : Int)))), some (.d (.int (E : Int))), some (.d (.int x))] st = .ok (.nx [some (.d (frm (p : Int) (n : Int))), a1, a2, a3, a4, a5, some (.d (.int (a * x ^ E % (p : Int)))), some (.d (.int (E : Int))), some (.d (.int x))]) st := by
        have mo := eMod_q (f := eBlt oInt (aCons (eBin oMul (hVar 6) (eCall m__law_raised (aCons (eVar 8) (aCons (eVar 7) (aCons (eBin oIx (hVar 0) (eC (.int 0))) (aNil)))))) (aNil))) (g := eBin oIx (hVar 0) (eC (.int 0))) (r := [some (.d (frm (p : Int) (n : Int))), a1, a2, a3, a4, a5, some (.d (.int (a % (p : Int)))), some (.d (.int (E : Int))), some (.d (.int x))]) (st := st) (eInt_q (eMul_q rfl (call3_q rfl rfl frm_ix0 rq) (.inl (mod_small hp _)))) frm_ix0 (pp0 hp)
        rw [← Int.mul_emod] at mo
        exact sSet_q mo
      have m1 : a * mon (((E : Nat) : Int) :: es) (x :: xs) = a * x ^ E * mon es xs := by
        show a * (x ^ (E : Int).toNat * mon es xs) = _
        rw [Int.toNat_natCast, Int.mul_assoc]
      show forL _ _ (D.tup [.int ((E : Nat) : Int), .int x] :: zipI es xs) _ st = _
      refine (loopR_cong (r1 := [some (.d (frm (p : Int) (n : Int))), a1, a2, a3, a4, a5, some (.d (.int (a % (p : Int)))), some (.d (.int (E : Int))), some (.d (.int x))]) rfl b).trans ?_
      rw [loopR_nx, ih]
      show _ = Res.ok (Fl.nx [some (.d (frm (p : Int) (n : Int))), a1, a2, a3, a4, a5, some (.d (.int (a * mon (((E : Nat) : Int) :: es) (x :: xs) % (p : Int)))), b7, b8]) st
      rw [m1]
theorem rest_mod {p : Nat} {c : Int} (h1 : 1 ≤ c) (h2 : c ≤ (p : Int) - 1) : c % (p : Int) = c := Int.emod_eq_of_lt (by omega) (by omega)
theorem worth_q {p n : Nat} (h : Fd p n) {ms : Tms} (ok : Tk p n ms) (v : List Int) (st : St) : m__law_worth [frm (p : Int) (n : Int), .tup (ms.map termD), ptD v] st = .ok (.int (evI p ms v)) st := by
  have loop := forL_all (b := tgT [4, 5]) (g := sSeq (sSet 6 (eVar 5)) (sSeq (sFor (iFun zipO (aCons (eVar 4) (aCons (eVar 2) (aNil)))) (tgT [7, 8]) worthB) (sSet 3 (eBin oMod (eBlt oInt (aCons (eBin oAdd (hVar 3) (hVar 6)) (aNil))) (eBin oIx (hVar 0) (eC (.int 0)))))))
    (I := fun k r s => s = st ∧ ∃ a4 a5 a6 a7 a8 : Option SV, r = [some (.d (frm (p : Int) (n : Int))), some (.d (.tup (ms.map termD))), some (.d (ptD v)), some (.d (.int (evI p (ms.take k) v))), a4, a5, a6, a7, a8]) (ms.map termD) [some (.d (frm (p : Int) (n : Int))), some (.d (.tup (ms.map termD))), some (.d (ptD v)), some (.d (.int 0)), none, none, none, none, none] st 0 ⟨rfl, _, _, _, _, _, rfl⟩ fun k x r s hx ⟨hs, a4, a5, a6, a7, a8, hr⟩ => by
      subst hs hr
      rw [Nat.zero_add]
      rw [List.getElem?_map] at hx
      obtain ⟨q, hq, rfl⟩ := Option.map_eq_some_iff.mp hx
      obtain ⟨q1, q2, q3, q4⟩ := ok q (List.mem_of_getElem? hq)
      have tk1 : ms.take (k + 1) = ms.take k ++ [q] := by
        obtain ⟨hk, e⟩ := List.getElem?_eq_some_iff.mp hq
        rw [List.take_succ_eq_append_getElem hk, e]
      obtain ⟨b7, b8, inner⟩ := worth_in (n := n) h.pm (a1 := some (.d (.tup (ms.map termD)))) (a2 := some (.d (ptD v))) (a3 := some (.d (.int (evI p (ms.take k) v)))) (a4 := some (.d (.tup (q.1.map .int)))) (a5 := some (.d (.int q.2))) (st := s) q.1 v q.2 a7 a8 q2
      rw [rest_mod q3 q4] at inner
      refine ⟨[some (.d (frm (p : Int) (n : Int))), some (.d (.tup (ms.map termD))), some (.d (ptD v)), some (.d (.int (evI p (ms.take k) v))), some (.d (.tup (q.1.map .int))), some (.d (.int q.2)), a6, a7, a8], [some (.d (frm (p : Int) (n : Int))), some (.d (.tup (ms.map termD))), some (.d (ptD v)), some (.d (.int (evI p (ms.take (k + 1)) v))), some (.d (.tup (q.1.map .int))), some (.d (.int q.2)), some (.d (.int (q.2 * mon q.1 v % (p : Int)))), b7, b8], s, rfl, ?_, rfl, _, _, _, _, _, rfl⟩
      refine seq_step (r' := [some (.d (frm (p : Int) (n : Int))), some (.d (.tup (ms.map termD))), some (.d (ptD v)), some (.d (.int (evI p (ms.take k) v))), some (.d (.tup (q.1.map .int))), some (.d (.int q.2)), some (.d (.int q.2)), a7, a8]) (st' := s) rfl ?_
      refine seq_step (r' := [some (.d (frm (p : Int) (n : Int))), some (.d (.tup (ms.map termD))), some (.d (ptD v)), some (.d (.int (evI p (ms.take k) v))), some (.d (.tup (q.1.map .int))), some (.d (.int q.2)), some (.d (.int (q.2 * mon q.1 v % (p : Int)))), b7, b8]) (st' := s) ?_ ?_
      · have zq : iFun zipO (aCons (eVar 4) (aCons (eVar 2) (aNil))) [some (.d (frm (p : Int) (n : Int))), some (.d (.tup (ms.map termD))), some (.d (ptD v)), some (.d (.int (evI p (ms.take k) v))), some (.d (.tup (q.1.map .int))), some (.d (.int q.2)), some (.d (.int q.2)), a7, a8] s = .ok (zipI q.1 v) s := by
          rw [q_iFun]
          show Mo.opt (zipO [.tup (q.1.map .int), .tup (v.map .int)]) s = _
          rw [zipO_ints]
          rfl
        rw [q_sFor, zq]
        exact inner
      · have mo := eMod_q (f := eBlt oInt (aCons (eBin oAdd (hVar 3) (hVar 6)) (aNil))) (g := eBin oIx (hVar 0) (eC (.int 0))) (r := [some (.d (frm (p : Int) (n : Int))), some (.d (.tup (ms.map termD))), some (.d (ptD v)), some (.d (.int (evI p (ms.take k) v))), some (.d (.tup (q.1.map .int))), some (.d (.int q.2)), some (.d (.int (q.2 * mon q.1 v % (p : Int)))), b7, b8]) (st := s) (eInt_q (eOp_q rfl rfl (q_addI _ _))) frm_ix0 (pp0 h.pm)
        have ev : (evI p (ms.take k) v + q.2 * mon q.1 v % (p : Int)) % (p : Int) = evI p (ms.take (k + 1)) v := by
          rw [tk1]
          unfold evI
          rw [List.map_append, List.sum_append, ← Int.add_emod]
          simp
        rw [ev] at mo
        exact sSet_q mo
  obtain ⟨r2, st2, e, hs, a4, a5, a6, a7, a8, hr⟩ := loop
  rw [Nat.zero_add, List.length_map, List.take_length] at hr
  subst hs hr
  refine run_q (st' := st2) ?_
  show g__law_worth [some (.d (frm (p : Int) (n : Int))), some (.d (.tup (ms.map termD))), some (.d (ptD v)), none, none, none, none, none, none] st2 = _
  unfold g__law_worth
  refine seq_step (r' := [some (.d (frm (p : Int) (n : Int))), some (.d (.tup (ms.map termD))), some (.d (ptD v)), some (.d (.int 0)), none, none, none, none, none]) (st' := st2) rfl ?_
  refine seq_step (r' := [some (.d (frm (p : Int) (n : Int))), some (.d (.tup (ms.map termD))), some (.d (ptD v)), some (.d (.int (evI p ms v))), a4, a5, a6, a7, a8]) (st' := st2) ?_ rfl
  rw [q_sFor]
  exact e
end Pi
namespace Pi
open PySem PySem.Spec PyProof.Rows L2
/-- a point -/
def Pt (p n : Nat) (v : List Int) : Prop := v.length = n ∧ ∀ x ∈ v, 0 ≤ x ∧ x < p
theorem eAnd_tt {f g : Env → Mo D} {r : Env} {st s1 : St} {z : Res D} (hf : f r st = .ok (.bl true) s1) (hg : g r s1 = z) : eAnd f g r st = z := by
  rw [q_eAnd, hf]
  exact hg
theorem are_rests_pt {p n : Nat} (h : Fd p n) {v : List Int} (hv : Pt p n v) (st : St) : m_are_rests [.int (p : Int), ptD v, .int (n : Int)] st = .ok (.bl true) st := by
  have h4 := h.n4
  have it := is_tuple_of_q (ptD v) rfl (n : Int) st
  have e : isTup (n : Int) (ptD v) = true := by
    show (((v.map D.int).length : Int) == (n : Int)) = true
    rw [List.length_map, hv.1]
    simp
  rw [e] at it
  have lc : (nLc (iDat (eVar 1)) (tgN 3) [3] (bYes) (eCall m_is_integer_in (aCons (eVar 3) (aCons (eC (.int 0)) (aCons (eBin oSub (hVar 0) (eC (.int 1))) (aNil)))))) [some (.d (.int (p : Int))), some (.d (ptD v)), some (.d (.int (n : Int))), none] st = .ok ((v.map D.int).map fun _ => .bl true) st := by
    refine nLc_q (st' := st) (xs := v.map D.int) rfl (by rw [List.length_map, hv.1]; omega) ?_
    have L := lcL_pure (b := tgN 3) (c := bYes) (e := eCall m_is_integer_in (aCons (eVar 3) (aCons (eC (.int 0)) (aCons (eBin oSub (hVar 0) (eC (.int 1))) (aNil))))) (r := wipeE [3] [some (.d (.int (p : Int))), some (.d (ptD v)), some (.d (.int (n : Int))), none]) (st := st) (p := fun _ => true) (F := fun _ => .bl true) (v.map D.int) fun x hx => by
      obtain ⟨i, hi, rfl⟩ := List.mem_map.mp hx
      have b := hv.2 i hi
      refine ⟨[some (.d (.int (p : Int))), some (.d (ptD v)), some (.d (.int (n : Int))), some (.d (.int i))], rfl, rfl, fun _ => ?_⟩
      have ii := is_integer_in_q (.int i) rfl 0 ((p : Int) - 1) st
      have e2 : inR 0 ((p : Int) - 1) (.int i) = true := by
        show (decide ((0 : Int) ≤ i) && decide (i ≤ (p : Int) - 1)) = true
        rw [decide_eq_true b.1, decide_eq_true (by omega)]
        rfl
      rw [e2] at ii
      exact call3_q rfl rfl (eOp_q rfl rfl (q_subI _ _)) ii
    rw [L, List.filter_eq_self.mpr fun _ _ => rfl]
  have al : oAll [.lst ((v.map D.int).map fun _ => .bl true)] = some (.bl true) := by
    have bo : ∀ l : List D, bolsOf (l.map fun _ => .bl true) = some (l.map fun _ => true) := fun l => bols_map (fun _ => true) l
    show (bolsOf ((v.map D.int).map fun _ => .bl true)).map (fun bs => D.bl (bs.all id)) = _
    rw [bo]
    have : ∀ l : List D, (l.map fun _ => true).all id = true := fun l => by
      induction l with
      | nil => rfl
      | cons x l ih => simp
    show some (D.bl _) = _
    rw [this]
  refine run_q (st' := st) ?_
  show g_are_rests [some (.d (.int (p : Int))), some (.d (ptD v)), some (.d (.int (n : Int))), none] st = _
  unfold g_are_rests
  exact sRet_q (eAnd_tt (call2_q rfl rfl it) (eBlt1_q (by rw [q_nFz, lc]) al))
theorem need_point_q {p n : Nat} (h : Fd p n) {v : List Int} (hv : Pt p n v) (st : St) : m_need_point [frm (p : Int) (n : Int), ptD v] st = .ok (ptD v) st := by
  have ar := are_rests_pt h hv st
  have ip : m_is_point [frm (p : Int) (n : Int), ptD v] st = .ok (.bl true) st := by
    refine run_q (st' := st) ?_
    show g_is_point [some (.d (frm (p : Int) (n : Int))), some (.d (ptD v)), none, none] st = _
    unfold g_is_point
    refine seq_step (r' := [some (.d (frm (p : Int) (n : Int))), some (.d (ptD v)), some (.d (.int (p : Int))), some (.d (.int (n : Int)))]) (st' := st) rfl ?_
    exact sRet_q (call3_q rfl rfl rfl ar)
  have nf := fd_need h st
  have ev : eCall m_is_point (aCons (eCall m_need_field (aCons (eVar 0) (aNil))) (aCons (eVar 1) (aNil))) [some (.d (frm (p : Int) (n : Int))), some (.d (ptD v))] st = .ok (.bl true) st := call2_q (call1_q rfl nf) rfl ip
  refine run_q (st' := st) ?_
  show g_need_point [some (.d (frm (p : Int) (n : Int))), some (.d (ptD v))] st = _
  unfold g_need_point
  rw [q_seq, q_sIf, q_bNot, q_bOf, ev]
  rfl
/-- products that the model takes: all powers are small, or there is one alone -/
def Few (es xs : List Int) (a : Int) : Prop := (∀ e ∈ es, ∀ x ∈ xs, smallI (x ^ e.toNat) = true) ∨ (es.length ≤ 1 ∧ smallI a = true)
abbrev valB : Stm := sSet 6 (eBin oMul (hVar 6) (eCall m_power_of (aCons (eVar 7) (aCons (eVar 8) (aNil)))))
theorem val_in {a0 a1 a2 a3 a4 a5 : Option SV} {st : St} (es : List Int) : ∀ (xs : List Int) (a : Int) (a7 a8 : Option SV), (∀ e ∈ es, 0 ≤ e ∧ e ≤ 30) → (∀ x ∈ xs, smallI x = true) → Few es xs a →
    ∃ a7' a8' : Option SV, forL (tgT [7, 8]) valB (zipI xs es) [a0, a1, a2, a3, a4, a5, some (.d (.int a)), a7, a8] st = .ok (.nx [a0, a1, a2, a3, a4, a5, some (.d (.int (a * mon es xs))), a7', a8']) st := by
  induction es with
  | nil =>
    intro xs a a7 a8 _ _ _
    refine ⟨a7, a8, ?_⟩
    have : mon [] xs = 1 := by cases xs <;> rfl
    rw [this, Int.mul_one]
    cases xs <;> rfl
  | cons e es rec_ =>
    intro xs a a7 a8 he hx few
    cases xs with
    | nil =>
      refine ⟨a7, a8, ?_⟩
      have : mon (e :: es) [] = 1 := rfl
      rw [this, Int.mul_one]
      rfl
    | cons x xs =>
      obtain ⟨e0, e1⟩ := he e (by simp)
      obtain ⟨E, rfl⟩ := Int.eq_ofNat_of_zero_le e0
      have sm : smallI a = true ∨ smallI (x ^ E) = true := by
        rcases few with f | f
        · have z := f ((E : Nat) : Int) (by simp) x (by simp)
          rw [Int.toNat_natCast] at z
          exact .inr z
        · exact .inl f.2
      have few2 : Few es xs (a * x ^ E) := by
        rcases few with f | f
        · exact .inl fun e' he' y hy => f e' (by simp [he']) y (by simp [hy])
        · left
          have : es = [] := by
            have := f.1
            simp at this
            exact this
          subst this
          intro e' he'
          cases he'
      obtain ⟨b7, b8, ih⟩ := rec_ xs (a * x ^ E) (some (.d (.int x))) (some (.d (.int (E : Int)))) (fun y hy => he y (by simp [hy])) (fun y hy => hx y (by simp [hy])) few2
      refine ⟨b7, b8, ?_⟩
      have pq := power_q (hx x (by simp)) (show E ≤ 1000000 by omega) st
      have b : valB [a0, a1, a2, a3, a4, a5, some (.d (.int a)), some (.d (.int x)), some (.d (.int (E : Int)))] st = .ok (.nx [a0, a1, a2, a3, a4, a5, some (.d (.int (a * x ^ E))), some (.d (.int x)), some (.d (.int (E : Int)))]) st := sSet_q (eMul_q rfl (call2_q rfl rfl pq) sm)
      have m1 : a * mon (((E : Nat) : Int) :: es) (x :: xs) = a * x ^ E * mon es xs := by
        show a * (x ^ (E : Int).toNat * mon es xs) = _
        rw [Int.toNat_natCast, Int.mul_assoc]
      show forL _ _ (D.tup [.int x, .int ((E : Nat) : Int)] :: zipI xs es) _ st = _
      refine (loopR_cong (r1 := [a0, a1, a2, a3, a4, a5, some (.d (.int a)), some (.d (.int x)), some (.d (.int (E : Int)))]) rfl b).trans ?_
      rw [loopR_nx, ih]
      show _ = Res.ok (Fl.nx [a0, a1, a2, a3, a4, a5, some (.d (.int (a * mon (((E : Nat) : Int) :: es) (x :: xs)))), b7, b8]) st
      rw [m1]
def sumI (ms : Tms) (v : List Int) : Int := (ms.map fun q => q.2 * mon q.1 v).sum
theorem value_at_q {p n : Nat} (h : Fd p n) {ms : Tms} (s : Sh p n ms) {v : List Int} (hv : Pt p n v) (few : ∀ q ∈ ms, Few q.1 v q.2) (st : St) : m_value_at [frm (p : Int) (n : Int), .tup (ms.map termD), ptD v] st = .ok (.int (evI p ms v)) st := by
  have hp := h.p2
  have nq := need_sh h s st
  have np := need_point_q h hv st
  have sx : ∀ x ∈ v, smallI x = true := fun x hx => by
    have := hv.2 x hx
    exact small_of (by omega) (by omega)
  have loop := forL_all (b := tgT [4, 5]) (g := sSeq (sSet 6 (eVar 5)) (sSeq (sFor (iFun zipO (aCons (eVar 2) (aCons (eVar 4) (aNil)))) (tgT [7, 8]) valB) (sSet 3 (eBin oAdd (hVar 3) (hVar 6)))))
    (I := fun k r s => s = st ∧ ∃ a4 a5 a6 a7 a8 : Option SV, r = [some (.d (frm (p : Int) (n : Int))), some (.d (.tup (ms.map termD))), some (.d (ptD v)), some (.d (.int (sumI (ms.take k) v))), a4, a5, a6, a7, a8]) (ms.map termD) [some (.d (frm (p : Int) (n : Int))), some (.d (.tup (ms.map termD))), some (.d (ptD v)), some (.d (.int 0)), none, none, none, none, none] st 0 ⟨rfl, _, _, _, _, _, rfl⟩ fun k x r s' hx ⟨hs, a4, a5, a6, a7, a8, hr⟩ => by
      subst hs hr
      rw [Nat.zero_add]
      rw [List.getElem?_map] at hx
      obtain ⟨q, hq, rfl⟩ := Option.map_eq_some_iff.mp hx
      have qm := List.mem_of_getElem? hq
      obtain ⟨q1, q2, q3, q4⟩ := s.tk q qm
      have tk1 : ms.take (k + 1) = ms.take k ++ [q] := by
        obtain ⟨hk, e⟩ := List.getElem?_eq_some_iff.mp hq
        rw [List.take_succ_eq_append_getElem hk, e]
      obtain ⟨b7, b8, inner⟩ := val_in (a0 := some (.d (frm (p : Int) (n : Int)))) (a1 := some (.d (.tup (ms.map termD)))) (a2 := some (.d (ptD v))) (a3 := some (.d (.int (sumI (ms.take k) v)))) (a4 := some (.d (.tup (q.1.map .int)))) (a5 := some (.d (.int q.2))) (st := s') q.1 v q.2 a7 a8 q2 sx (few q qm)
      refine ⟨[some (.d (frm (p : Int) (n : Int))), some (.d (.tup (ms.map termD))), some (.d (ptD v)), some (.d (.int (sumI (ms.take k) v))), some (.d (.tup (q.1.map .int))), some (.d (.int q.2)), a6, a7, a8], [some (.d (frm (p : Int) (n : Int))), some (.d (.tup (ms.map termD))), some (.d (ptD v)), some (.d (.int (sumI (ms.take (k + 1)) v))), some (.d (.tup (q.1.map .int))), some (.d (.int q.2)), some (.d (.int (q.2 * mon q.1 v))), b7, b8], s', rfl, ?_, rfl, _, _, _, _, _, rfl⟩
      refine seq_step (r' := [some (.d (frm (p : Int) (n : Int))), some (.d (.tup (ms.map termD))), some (.d (ptD v)), some (.d (.int (sumI (ms.take k) v))), some (.d (.tup (q.1.map .int))), some (.d (.int q.2)), some (.d (.int q.2)), a7, a8]) (st' := s') rfl ?_
      refine seq_step (r' := [some (.d (frm (p : Int) (n : Int))), some (.d (.tup (ms.map termD))), some (.d (ptD v)), some (.d (.int (sumI (ms.take k) v))), some (.d (.tup (q.1.map .int))), some (.d (.int q.2)), some (.d (.int (q.2 * mon q.1 v))), b7, b8]) (st' := s') ?_ ?_
      · have zq : iFun zipO (aCons (eVar 2) (aCons (eVar 4) (aNil))) [some (.d (frm (p : Int) (n : Int))), some (.d (.tup (ms.map termD))), some (.d (ptD v)), some (.d (.int (sumI (ms.take k) v))), some (.d (.tup (q.1.map .int))), some (.d (.int q.2)), some (.d (.int q.2)), a7, a8] s' = .ok (zipI v q.1) s' := by
          rw [q_iFun]
          show Mo.opt (zipO [.tup (v.map .int), .tup (q.1.map .int)]) s' = _
          rw [zipO_ints]
          rfl
        rw [q_sFor, zq]
        exact inner
      · have ev : sumI (ms.take k) v + q.2 * mon q.1 v = sumI (ms.take (k + 1)) v := by
          rw [tk1]
          unfold sumI
          rw [List.map_append, List.sum_append]
          simp
        rw [← ev]
        exact sSet_q (eOp_q rfl rfl (q_addI _ _))
  obtain ⟨r2, st2, e, hs, a4, a5, a6, a7, a8, hr⟩ := loop
  rw [Nat.zero_add, List.length_map, List.take_length] at hr
  subst hs hr
  refine run_q (st' := st2) ?_
  show g_value_at [some (.d (frm (p : Int) (n : Int))), some (.d (.tup (ms.map termD))), some (.d (ptD v)), none, none, none, none, none, none] st2 = _
  unfold g_value_at
  refine seq_step (r' := [some (.d (frm (p : Int) (n : Int))), some (.d (.tup (ms.map termD))), some (.d (ptD v)), none, none, none, none, none, none]) (st' := st2) (sExpr_q (call2_q rfl rfl nq)) ?_
  refine seq_step (r' := [some (.d (frm (p : Int) (n : Int))), some (.d (.tup (ms.map termD))), some (.d (ptD v)), none, none, none, none, none, none]) (st' := st2) (sExpr_q (call2_q rfl rfl np)) ?_
  refine seq_step (r' := [some (.d (frm (p : Int) (n : Int))), some (.d (.tup (ms.map termD))), some (.d (ptD v)), some (.d (.int 0)), none, none, none, none, none]) (st' := st2) rfl ?_
  refine seq_step (r' := [some (.d (frm (p : Int) (n : Int))), some (.d (.tup (ms.map termD))), some (.d (ptD v)), some (.d (.int (sumI ms v))), a4, a5, a6, a7, a8]) (st' := st2) ?_ ?_
  · rw [q_sFor]
    exact e
  · exact sRet_q (eMod_q rfl frm_ix0 (pp0 h.pm))
theorem maxI_snoc (z : Int) : ∀ (ys : List Int) (y : Int), z ≤ y → maxI y (ys ++ [z]) = maxI y ys
  | [], y, h => by
    show (match decide (y < z) with
      | true => z
      | false => y) = y
    rw [decide_eq_false (by omega)]
  | x :: ys, y, h => by
    show maxI (match decide (y < x) with
      | true => x
      | false => y) (ys ++ [z]) = maxI (match decide (y < x) with
      | true => x
      | false => y) ys
    refine maxI_snoc z ys _ ?_
    by_cases e : y < x
    · rw [decide_eq_true e]
      dsimp only
      omega
    · rw [decide_eq_false e]
      exact h
theorem maxI_in : ∀ (ys : List Int) (y : Int), maxI y ys = y ∨ maxI y ys ∈ ys
  | [], y => .inl rfl
  | x :: ys, y => by
    have e1 : maxI y (x :: ys) = maxI (match decide (y < x) with
      | true => x
      | false => y) ys := rfl
    rw [e1]
    by_cases e : y < x
    · rw [decide_eq_true e]
      rcases maxI_in ys x with h | h
      · dsimp only
        rw [h]
        exact .inr (by simp)
      · exact .inr (by simp [h])
    · rw [decide_eq_false e]
      rcases maxI_in ys y with h | h
      · exact .inl h
      · exact .inr (by simp [h])
def degI (ms : Tms) : Int := maxDef (ms.map fun q => q.1.sum) (-1)
theorem sums_q {p n : Nat} {ms : Tms} (ok : Tk p n ms) (hl : ms.length ≤ 700) {r : Env} {st : St} {i : Nat} {vs : List Nat} {it : Env → Mo (List D)} (hi : it r st = .ok (ms.map termD) st)
    (hb : ∀ q : List Int × Int, ∃ r1, tgT vs (termD q) (wipeE vs r) = some r1 ∧ hVar i r1 st = .ok (.tup (q.1.map .int)) st) : (nLc it (tgT vs) vs (bYes) (eBlt oSumX (aCons (hVar i) (aNil)))) r st = .ok ((ms.map fun q => q.1.sum).map .int) st := by
  refine nLc_q (st' := st) hi (by rw [List.length_map]; omega) ?_
  have L := lcL_pure (b := tgT vs) (c := bYes) (e := eBlt oSumX (aCons (hVar i) (aNil))) (r := wipeE vs r) (st := st) (p := fun _ => true) (F := fun x => match (keyOf x).ints with
    | some k => .int k.sum
    | none => .non) (ms.map termD) fun x hx => by
      obtain ⟨q, hq, rfl⟩ := List.mem_map.mp hx
      obtain ⟨r1, h1, h2⟩ := hb q
      refine ⟨r1, h1, rfl, fun _ => ?_⟩
      show _ = Res.ok (match (D.tup (q.1.map .int)).ints with
        | some k => D.int k.sum
        | none => .non) st
      rw [ints_self]
      refine eBlt1_q h2 ?_
      show (intsOf (q.1.map .int)).map (fun ns => D.int ns.sum) = _
      have := ints_self q.1
      have this' : intsOf (q.1.map .int) = some q.1 := this
      rw [this']
      rfl
  rw [L, List.filter_eq_self.mpr fun _ _ => rfl, List.map_map, List.map_map]
  refine congrArg (fun z => Res.ok z st) ?_
  refine List.map_congr_left fun q _ => ?_
  show (match (D.tup (q.1.map .int)).ints with
    | some k => D.int k.sum
    | none => .non) = D.int q.1.sum
  rw [ints_self]
theorem degree_q {p n : Nat} (h : Fd p n) {ms : Tms} (s : Sh p n ms) (st : St) : m_degree [frm (p : Int) (n : Int), .tup (ms.map termD)] st = .ok (.int (degI ms)) st := by
  have nq := need_sh h s st
  have sq := sums_q s.tk s.le (r := [some (.d (frm (p : Int) (n : Int))), some (.d (.tup (ms.map termD))), none, none]) (st := st) (i := 2) (vs := [2, 3]) (it := iDat (eVar 1)) rfl fun q => ⟨_, rfl, rfl⟩
  refine run_q (st' := st) ?_
  show g_degree [some (.d (frm (p : Int) (n : Int))), some (.d (.tup (ms.map termD))), none, none] st = _
  unfold g_degree
  refine seq_step (r' := [some (.d (frm (p : Int) (n : Int))), some (.d (.tup (ms.map termD))), none, none]) (st' := st) (sExpr_q (call2_q rfl rfl nq)) ?_
  refine sRet_q ?_
  have im := ints_map id (ms.map fun q => q.1.sum)
  rw [List.map_id] at im
  unfold eMaxD
  rw [q_bind, q_nFz, sq]
  dsimp only
  rw [q_bind]
  show Mo.opt ((intsOf ((ms.map fun q => q.1.sum).map .int)).map fun ns => D.int (maxDef ns (-1))) st = _
  have im' : intsOf ((ms.map fun q => q.1.sum).map .int) = some (ms.map fun q => q.1.sum) := im
  rw [im']
  rfl
theorem sum_nn : ∀ {k : List Int}, (∀ e ∈ k, 0 ≤ e ∧ e ≤ 30) → 0 ≤ k.sum ∧ k.sum ≤ 30 * k.length
  | [], _ => by simp
  | e :: k, h => by
    have h1 := h e (by simp)
    have h2 := sum_nn (k := k) fun x hx => h x (by simp [hx])
    rw [List.sum_cons, List.length_cons]
    omega
theorem high_q {p n : Nat} {ms : Tms} (ok : Tk p n ms) (hl : ms.length ≤ 700) (st : St) : m__law_high [.tup (ms.map termD)] st = .ok (.int (degI ms)) st := by
  have sq := sums_q ok hl (r := [some (.d (.tup (ms.map termD))), none, none]) (st := st) (i := 1) (vs := [1, 2]) (it := iDat (eVar 0)) rfl fun q => ⟨_, rfl, rfl⟩
  refine run_q (st' := st) ?_
  show g__law_high [some (.d (.tup (ms.map termD))), none, none] st = _
  unfold g__law_high
  refine sRet_q (eBlt1_q (x := .lst ((ms.map fun q => q.1.sum).map .int ++ [.int (-1)])) ?_ ?_)
  · rw [q_nFz, q_nCat (st1 := st) (st2 := st) (xs := (ms.map fun q => q.1.sum).map .int) (ys := [.int (-1)]) (by rw [q_nFz, sq]) rfl (by rw [List.length_map, List.length_map]; simp; omega)]
  · have im := ints_map id ((ms.map fun q => q.1.sum) ++ [-1])
    rw [List.map_id, List.map_append] at im
    have im' : intsOf ((ms.map fun q => q.1.sum).map .int ++ [.int (-1)]) = some ((ms.map fun q => q.1.sum) ++ [-1]) := im
    show (intsOf ((ms.map fun q => q.1.sum).map .int ++ [.int (-1)])).bind _ = _
    rw [im']
    unfold degI
    cases ms with
    | nil => rfl
    | cons q ms =>
      have q0 := (sum_nn (ok q (by simp)).2.1).1
      show some (D.int (maxI q.1.sum ((ms.map fun q => q.1.sum) ++ [-1]))) = some (D.int (maxI q.1.sum (ms.map fun q => q.1.sum)))
      rw [maxI_snoc _ _ _ (by omega)]
theorem deg_bd {p n : Nat} (h : Fd p n) {ms : Tms} (ok : Tk p n ms) : -1 ≤ degI ms ∧ degI ms ≤ 120 := by
  have h4 := h.n4
  unfold degI
  cases ms with
  | nil => exact ⟨by decide, by decide⟩
  | cons q ms =>
    have all_ : ∀ z ∈ (q :: ms).map (fun q => q.1.sum), 0 ≤ z ∧ z ≤ 120 := fun z hz => by
      obtain ⟨t, ht, rfl⟩ := List.mem_map.mp hz
      obtain ⟨t1, t2, _⟩ := ok t ht
      have := sum_nn t2
      omega
    show -1 ≤ maxI q.1.sum (ms.map fun q => q.1.sum) ∧ maxI q.1.sum (ms.map fun q => q.1.sum) ≤ 120
    rcases maxI_in (ms.map fun q => q.1.sum) q.1.sum with e | e
    · rw [e]
      have := all_ q.1.sum (by simp)
      omega
    · have := all_ _ (List.mem_cons_of_mem _ e)
      omega
end Pi
namespace Pi
open PySem PySem.Spec PyProof.Rows L2
theorem bNe_q {f g : Env → Mo D} {r : Env} {st s1 s2 : St} {a : Str} (hf : f r st = .ok (.str a) s1) (hg : g r s1 = .ok (.str a) s2) : bCmp oNeX f g r st = .ok false s2 := by
  rw [q_bCmp, q_eBin, hf]
  dsimp only
  rw [hg]
  dsimp only
  rw [q_neS]
  simp
theorem eEq_q {f g : Env → Mo D} {r : Env} {st s1 s2 : St} {a : Str} (hf : f r st = .ok (.str a) s1) (hg : g r s1 = .ok (.str a) s2) : eBin oEqX f g r st = .ok (.bl true) s2 := eOp_q hf hg (by rw [q_eqS]; simp)
theorem eRepr_q {f : Env → Mo D} {r : Env} {st s1 : St} {x : D} {n k : Nat} (h : f r st = .ok x s1) (b : Bd n k x) (hn : n ≤ 16777216) (hk : k ≤ 190) : eBlt oRepr (aCons f (aNil)) r st = .ok (.str x.py.shown) s1 := eBlt1_q h (repr_q b hn hk)
theorem ifNo_q {c : Env → Mo Bool} {g h : Stm} {r : Env} {st s1 : St} {z : Res Fl} (hc : c r st = .ok false s1) (hh : h r s1 = z) : sIf c g h r st = z := by
  rw [q_sIf, hc]
  exact hh
theorem orNo_q {c d : Env → Mo Bool} {r : Env} {st s1 s2 : St} (hc : c r st = .ok false s1) (hd : d r s1 = .ok false s2) : bOr c d r st = .ok false s2 := by
  rw [q_bOr, hc]
  exact hd
theorem bd_pt {p N : Nat} (h : Fd p N) {v : List Int} (hv : Pt p N v) : Bd 40 1 (ptD v) := by
  have h4 := h.n4
  have hp := h.p2
  refine (bd_tup (n := 5) (k := 0) (l := 4) (fun x hx => ?_) (by rw [List.length_map, hv.1]; exact h4) (by omega)).mono (by omega) (by omega)
  obtain ⟨i, hi, rfl⟩ := List.mem_map.mp hx
  have := hv.2 i hi
  exact bd_int (by omega) (by omega)
theorem bd_spts {p N : Nat} (h : Fd p N) : Bd 30000 2 (.tup (spts p N)) := by
  have le := fd_le h
  refine (bd_tup (n := 40) (k := 1) (l := 700) (fun x hx => ?_) (by rw [spts_len]; exact le) (by omega)).mono (by omega) (by omega)
  obtain ⟨v, hv, rfl⟩ := List.mem_map.mp hx
  exact bd_pt h (pts_ok p N v hv)
theorem ev_bd {p : Nat} (hp : Pm p) (ms : Tms) (v : List Int) : Bd 5 0 (.int (evI p ms v)) := by
  have p7 : p ≤ 7 := by rcases hp with rfl | rfl | rfl | rfl <;> omega
  have h1 := Int.emod_nonneg (sumI ms v) (show (p : Int) ≠ 0 by have := pp0 hp; omega)
  have h2 := Int.emod_lt_of_pos (sumI ms v) (pp0 hp)
  exact bd_int (show -1000 ≤ evI p ms v from by show -1000 ≤ sumI ms v % (p : Int); omega) (show evI p ms v ≤ 1000 from by show sumI ms v % (p : Int) ≤ 1000; omega)
theorem bd_vals {p N : Nat} (h : Fd p N) (ms : Tms) : Bd 6000 1 (.tup (valsD p N ms)) := by
  have le := fd_le h
  refine (bd_tup (n := 5) (k := 0) (l := 700) (fun x hx => ?_) (by unfold valsD; rw [List.length_map, pts_len]; exact le) (by omega)).mono (by omega) (by omega)
  obtain ⟨v, hv, rfl⟩ := List.mem_map.mp hx
  exact ev_bd h.pm ms v
theorem points_right_q {p N : Nat} (h : Fd p N) (st : St) : m__law_points_right [frm (p : Int) (N : Int)] st = .ok (.bl true) st := by
  have bs := bd_spts h
  have sq := spots_q h st
  have pq := points_q h st
  refine run_q (st' := st) ?_
  show g__law_points_right [some (.d (frm (p : Int) (N : Int))), none] st = _
  unfold g__law_points_right
  refine seq_step (r' := [some (.d (frm (p : Int) (N : Int))), some (.d (.str (D.tup (spts p N)).py.shown))]) (st' := st) (sSet_q (eRepr_q (eBlt1_q (call1_q rfl sq) rfl) bs (by omega) (by omega))) ?_
  have one : (eBin oEqX (eBlt oRepr (aCons (eCall m_points (aCons (eVar 0) (aNil))) (aNil))) (hVar 1)) [some (.d (frm (p : Int) (N : Int))), some (.d (.str (D.tup (spts p N)).py.shown))] st = .ok (.bl true) st := eEq_q (eRepr_q (call1_q rfl pq) bs (by omega) (by omega)) rfl
  exact sRet_q (eAnd_tt one one)
theorem pick3 {k L d : Nat} (hk : k < 6) (hL : 0 < L) (hd : d < L) : ∃ A : Nat, A < L ∧ oIx (.lst [.int 0, .int ((L : Int) - 1), .int (d : Int)]) (.int ((k : Int) % 3)) = some (.int (A : Int)) := by
  have e : ((L : Int) - 1) = ((L - 1 : Nat) : Int) := by omega
  rw [e]
  have : k = 0 ∨ k = 1 ∨ k = 2 ∨ k = 3 ∨ k = 4 ∨ k = 5 := by omega
  rcases this with rfl | rfl | rfl | rfl | rfl | rfl
  · exact ⟨0, hL, rfl⟩
  · exact ⟨L - 1, by omega, rfl⟩
  · exact ⟨d, hd, rfl⟩
  · exact ⟨0, hL, rfl⟩
  · exact ⟨L - 1, by omega, rfl⟩
  · exact ⟨d, hd, rfl⟩
theorem sheet_right_q {n p N : Nat} (h : Fd p N) {ms : Tms} (s : Sh p N ms) (few : ∀ v, Pt p N v → ∀ q ∈ ms, Few q.1 v q.2) (bs : Bd 1000 3 (.tup (ms.map termD))) : Wd_ n 6 (m__law_sheet_right [.obj n, frm (p : Int) (N : Int), .tup (ms.map termD)]) (fun x => x = .bl true) := fun st b g hb => by
  have le := fd_le h
  have hp := h.p2
  have bf : Bd 1000 3 (frm (p : Int) (N : Int)) := (bd_two_ints (by omega) (by omega) (by have := h.n4; omega) (by have := h.n4; omega)).mono (by omega) (by omega)
  have bfs := bd_two bf bs
  have bv := bd_vals h ms
  have dg := deg_bd h s.tk
  have bd_ : Bd 5 0 (.int (degI ms)) := bd_int (by omega) (by omega)
  have L0 : 0 < p ^ N := Nat.pow_pos (by omega)
  have due : (nLc (iDat (eVar 5)) (tgN 8) [8] (bYes) (eCall m__law_worth (aCons (eVar 1) (aCons (eVar 2) (aCons (eVar 8) (aNil)))))) [some (.d (.obj n)), some (.d (frm (p : Int) (N : Int))), some (.d (.tup (ms.map termD))), none, none, some (.d (.lst (spts p N))), some (.d (.str (D.lst [frm (p : Int) (N : Int), .tup (ms.map termD)]).py.shown)), none, none] st = .ok (valsD p N ms) st := by
    refine nLc_q (st' := st) (xs := spts p N) rfl (by rw [spts_len]; omega) ?_
    have Lq := lcL_pure (b := tgN 8) (c := bYes) (e := eCall m__law_worth (aCons (eVar 1) (aCons (eVar 2) (aCons (eVar 8) (aNil))))) (r := wipeE [8] [some (.d (.obj n)), some (.d (frm (p : Int) (N : Int))), some (.d (.tup (ms.map termD))), none, none, some (.d (.lst (spts p N))), some (.d (.str (D.lst [frm (p : Int) (N : Int), .tup (ms.map termD)]).py.shown)), none, none]) (st := st) (p := fun _ => true) (F := fun x => match x.ints with
      | some v => .int (evI p ms v)
      | none => .non) (spts p N) fun x hx => by
        obtain ⟨v, hv, rfl⟩ := List.mem_map.mp hx
        have wq := worth_q h s.tk v st
        refine ⟨[some (.d (.obj n)), some (.d (frm (p : Int) (N : Int))), some (.d (.tup (ms.map termD))), none, none, some (.d (.lst (spts p N))), some (.d (.str (D.lst [frm (p : Int) (N : Int), .tup (ms.map termD)]).py.shown)), none, some (.d (ptD v))], rfl, rfl, fun _ => ?_⟩
        show _ = Res.ok (match (D.tup (v.map .int)).ints with
          | some v => D.int (evI p ms v)
          | none => .non) st
        rw [ints_self]
        exact call3_q rfl rfl rfl wq
    rw [Lq, List.filter_eq_self.mpr fun _ _ => rfl]
    unfold spts valsD
    rw [List.map_map]
    refine congrArg (fun z => Res.ok z st) (List.map_congr_left fun v _ => ?_)
    show (match (D.tup (v.map .int)).ints with
      | some v => D.int (evI p ms v)
      | none => .non) = _
    rw [ints_self]
  -- the env behind the first statements
  let R : Option SV → Option SV → Env := fun a4 a7 => [some (.d (.obj n)), some (.d (frm (p : Int) (N : Int))), some (.d (.tup (ms.map termD))), some (.d (.lst (valsD p N ms))), a4, some (.d (.lst (spts p N))), some (.d (.str (D.lst [frm (p : Int) (N : Int), .tup (ms.map termD)]).py.shown)), a7, none]
  have loop2 := forL_all (b := tgN 4) (g := sIf (bOr (bCmp oNeX (eBlt oRepr (aCons (eCall m_values (aCons (eVar 1) (aCons (eVar 2) (aNil)))) (aNil))) (eBlt oRepr (aCons (eBlt oTuple (aCons (hVar 3) (aNil))) (aNil)))) (bCmp oNeX (eBlt oRepr (aCons (eCall m_degree (aCons (eVar 1) (aCons (eVar 2) (aNil)))) (aNil))) (eBlt oRepr (aCons (eCall m__law_high (aCons (eVar 2) (aNil))) (aNil))))) (sRet (eC (.bl false))) (sNext))
    (I := fun _ r s' => s' = st ∧ ∃ a4 : Option SV, r = R a4 none) (rangeD 0 2) (R none none) st 0 ⟨rfl, _, rfl⟩ fun k x r s' hx ⟨hs, a4, hr⟩ => by
      subst hs hr
      have vq := values_q h s s'
      have dq := degree_q h s s'
      have hq := high_q s.tk s.le s'
      refine ⟨_, R (some (.d x)) none, s', rfl, ?_, rfl, _, rfl⟩
      exact ifNo_q (orNo_q (bNe_q (eRepr_q (call2_q rfl rfl vq) bv (by omega) (by omega)) (eRepr_q (eBlt1_q rfl rfl) bv (by omega) (by omega))) (bNe_q (eRepr_q (call2_q rfl rfl dq) bd_ (by omega) (by omega)) (eRepr_q (call1_q rfl hq) bd_ (by omega) (by omega)))) rfl
  obtain ⟨r2, st2, e2, hs2, a4, hr2⟩ := loop2
  subst hs2 hr2
  have loop6 := forL_all (b := tgN 4) (g := sSeq (sSet 7 (eBin oIx (nFz (nLst (aCons (eC (.int 0)) (aCons (eBin oSub (eBlt oLen (aCons (hVar 5) (aNil))) (eC (.int 1))) (aCons (eCall m__law_draw (aCons (eVar 0) (aCons (eBlt oLen (aCons (hVar 5) (aNil))) (aNil)))) (aNil)))))) (eBin oMod (hVar 4) (eC (.int 3))))) (sIf (bCmp oNeX (eBlt oRepr (aCons (eCall m_value_at (aCons (eVar 1) (aCons (eVar 2) (aCons (eBin oIx (hVar 5) (hVar 7)) (aNil))))) (aNil))) (eBlt oRepr (aCons (eBin oIx (hVar 3) (hVar 7)) (aNil)))) (sRet (eC (.bl false))) (sNext)))
    (I := fun k r s' => Gd s' n (b + k) ∧ ∃ a4 a7 : Option SV, r = R a4 a7) (rangeD 0 6) (R a4 none) st2 0 ⟨g, _, _, rfl⟩ fun k x r s' hx ⟨gs, a4, a7, hr⟩ => by
      subst hr
      obtain ⟨rfl, hk⟩ := rangeD_at hx
      rw [Nat.zero_add] at gs ⊢
      obtain ⟨v, s1, ed, v0, v1, gs1⟩ := draw_q (many := ((p ^ N : Nat) : Int)) gs (by omega) (by omega) (by omega)
      obtain ⟨d, rfl⟩ := Int.eq_ofNat_of_zero_le v0
      obtain ⟨A, hA, ix⟩ := pick3 hk L0 (show d < p ^ N by omega)
      have hA1 : A < (pts p N).length := by rw [pts_len]; exact hA
      have pA := pts_ok p N _ (List.getElem_mem hA1)
      have sA : (spts p N)[A]'(by rw [spts_len]; exact hA) = ptD ((pts p N)[A]'hA1) := by simp [spts]
      have dA : (valsD p N ms)[A]'(by unfold valsD; rw [List.length_map]; exact hA1) = .int (evI p ms ((pts p N)[A]'hA1)) := by simp [valsD]
      have i1 := q_ixL (xs := spts p N) (n := A) (by rw [spts_len]; exact hA)
      have i2 := q_ixL (xs := valsD p N ms) (n := A) (by unfold valsD; rw [List.length_map]; exact hA1)
      rw [sA] at i1
      rw [dA] at i2
      generalize hv : (pts p N)[A]'hA1 = vA at *
      have vq := value_at_q h s pA (few vA pA) s1
      have be := ev_bd h.pm ms vA
      refine ⟨R (some (.d (.int (k : Int)))) a7, R (some (.d (.int (k : Int)))) (some (.d (.int (A : Int)))), s1, by rw [Int.zero_add]; rfl, ?_, gs1.mono (by omega), _, _, rfl⟩
      have ln : ∀ a7 s, (eBlt oLen (aCons (hVar 5) (aNil))) (R (some (.d (.int (k : Int)))) a7) s = .ok (.int ((p ^ N : Nat) : Int)) s := fun a7 s => eBlt1_q (x := .lst (spts p N)) rfl (by rw [q_lenL, spts_len])
      have ls : (nFz (nLst (aCons (eC (.int 0)) (aCons (eBin oSub (eBlt oLen (aCons (hVar 5) (aNil))) (eC (.int 1))) (aCons (eCall m__law_draw (aCons (eVar 0) (aCons (eBlt oLen (aCons (hVar 5) (aNil))) (aNil)))) (aNil)))))) (R (some (.d (.int (k : Int)))) a7) s' = .ok (.lst [.int 0, .int (((p ^ N : Nat) : Int) - 1), .int (d : Int)]) s1 := by
        have c1 := eOp_q (o := oSub) (g := eC (.int 1)) (ln a7 s') rfl (q_subI _ _)
        have c2 := call2_q (m := m__law_draw) (f := eVar 0) (r := R (some (.d (.int (k : Int)))) a7) (x := .obj n) rfl (ln a7 s') ed
        rw [q_nFz, q_nLst, q_aCons, q_eC]
        dsimp only
        rw [q_aCons, c1]
        dsimp only
        rw [q_aCons, c2]
        dsimp only
        rw [q_aNil]
        dsimp only
        rw [q_lim (by simp)]
      refine seq_step (r' := R (some (.d (.int (k : Int)))) (some (.d (.int (A : Int))))) (st' := s1) (sSet_q (eOp_q ls (eMod_q (a := (k : Int)) (b := 3) rfl rfl (by decide)) ix)) ?_
      exact ifNo_q (bNe_q (eRepr_q (call3_q rfl rfl (eOp_q rfl rfl i1) vq) be (by omega) (by omega)) (eRepr_q (eOp_q rfl rfl i2) be (by omega) (by omega))) rfl
  obtain ⟨r6, st6, e6, g6, a4', a7, hr6⟩ := loop6
  subst hr6
  refine ⟨.bl true, st6, ?_, rfl, g6⟩
  refine run_q (st' := st6) ?_
  show g__law_sheet_right [some (.d (.obj n)), some (.d (frm (p : Int) (N : Int))), some (.d (.tup (ms.map termD))), none, none, none, none, none, none] st2 = _
  unfold g__law_sheet_right
  have sp := spots_q h st2
  refine seq_step (r' := [some (.d (.obj n)), some (.d (frm (p : Int) (N : Int))), some (.d (.tup (ms.map termD))), none, none, some (.d (.lst (spts p N))), some (.d (.str (D.lst [frm (p : Int) (N : Int), .tup (ms.map termD)]).py.shown)), none, none]) (st' := st2) ?_ ?_
  · have c1 := call1_q (m := m__law_spots) (f := eVar 1) (r := [some (.d (.obj n)), some (.d (frm (p : Int) (N : Int))), some (.d (.tup (ms.map termD))), none, none, none, none, none, none]) (x := frm (p : Int) (N : Int)) (st := st2) rfl sp
    have c2 := eRepr_q (f := nFz (nLst (aCons (eVar 1) (aCons (eVar 2) (aNil))))) (r := [some (.d (.obj n)), some (.d (frm (p : Int) (N : Int))), some (.d (.tup (ms.map termD))), none, none, none, none, none, none]) (st := st2) (s1 := st2) (x := .lst [frm (p : Int) (N : Int), .tup (ms.map termD)]) (by simp [lim2]) bfs (by omega) (by omega)
    rw [q_sPar, q_aCons, c1]
    dsimp only
    rw [q_aCons, c2]
    dsimp only
    rw [q_aNil]
    rfl
  refine seq_step (r' := R none none) (st' := st2) (sSet_q (by rw [q_nFz, due])) ?_
  refine seq_step (r' := R a4 none) (st' := st2) ?_ ?_
  · rw [q_sFor, range1_q (n := 2) rfl (by omega)]
    exact e2
  refine seq_step (r' := R a4' a7) (st' := st6) ?_ ?_
  · rw [q_sFor, range1_q (n := 6) rfl (by omega)]
    exact e6
  exact sRet_q (eEq_q (eRepr_q (f := nFz (nLst (aCons (eVar 1) (aCons (eVar 2) (aNil))))) (x := .lst [frm (p : Int) (N : Int), .tup (ms.map termD)]) (by show nFz _ (R a4' a7) st6 = _; simp [R, lim2]) bfs (by omega) (by omega)) rfl)
end Pi
namespace Pi
open PySem PySem.Spec PyProof.Rows L2
theorem call4_q {m : List D → Mo D} {f g h i : Env → Mo D} {r : Env} {st s1 s2 s3 s4 : St} {x y w v : D} {z : Res D} (hf : f r st = .ok x s1) (hg : g r s1 = .ok y s2) (hh : h r s2 = .ok w s3) (hi : i r s3 = .ok v s4) (hm : m [x, y, w, v] s4 = z) : eCall m (aCons f (aCons g (aCons h (aCons i (aNil))))) r st = z := by
  rw [q_eCall, q_aCons, hf]
  dsimp only
  rw [q_aCons, hg]
  dsimp only
  rw [q_aCons, hh]
  dsimp only
  rw [q_aCons, hi]
  dsimp only
  rw [q_aNil]
  exact hm
theorem size_q {p N : Nat} (h : Fd p N) (st : St) : m__law_size [frm (p : Int) (N : Int)] st = .ok (.int ((p ^ N : Nat) : Int)) st := by
  have n14 : N = 1 ∨ N = 2 ∨ N = 3 ∨ N = 4 := by have := h.n1; have := h.n4; omega
  rcases h.pm with rfl | rfl | rfl | rfl <;> rcases n14 with rfl | rfl | rfl | rfl <;> rfl
theorem small7 : ∀ (x : _root_.Fin 7) (e : _root_.Fin 8), smallI ((x.val : Int) ^ e.val) = true := by decide +kernel
theorem small5 : ∀ (x : _root_.Fin 5) (e : _root_.Fin 31), smallI ((x.val : Int) ^ e.val) = true := by decide +kernel
theorem few_of {p N : Nat} {high : Int} (h : Fd p N) (hh : high ≤ 7 ∨ (p ≤ 5 ∧ high ≤ 30) ∨ N = 1) {q : List Int × Int} (hq : TmOk (p : Int) (N : Int) high q) {v : List Int} (hv : Pt p N v) : Few q.1 v q.2 := by
  have hp := h.p2
  obtain ⟨q1, q2, q3, q4⟩ := hq
  rcases hh with hh | ⟨h5, hh⟩ | hh
  · left
    intro e he x hx
    have b := q2 e he
    have c := hv.2 x hx
    obtain ⟨E, rfl⟩ := Int.eq_ofNat_of_zero_le b.1
    obtain ⟨X, rfl⟩ := Int.eq_ofNat_of_zero_le c.1
    rw [Int.toNat_natCast]
    exact small7 ⟨X, by omega⟩ ⟨E, by omega⟩
  · left
    intro e he x hx
    have b := q2 e he
    have c := hv.2 x hx
    obtain ⟨E, rfl⟩ := Int.eq_ofNat_of_zero_le b.1
    obtain ⟨X, rfl⟩ := Int.eq_ofNat_of_zero_le c.1
    rw [Int.toNat_natCast]
    exact small5 ⟨X, by omega⟩ ⟨E, by omega⟩
  · right
    refine ⟨by omega, small_of (by omega) (by omega)⟩
theorem sh_of {p N : Nat} {high : Int} {M : Nat} {x : D} (hh : high ≤ 30) (hM : M ≤ 60) (h : ShOk (p : Int) (N : Int) high M x) : ∃ ms : Tms, x = .tup (ms.map termD) ∧ Sh p N ms ∧ (∀ q ∈ ms, TmOk (p : Int) (N : Int) high q) := by
  obtain ⟨ms, e, hl, ok, up⟩ := h
  refine ⟨ms, e, ⟨fun q hq => ?_, up, by omega⟩, ok⟩
  obtain ⟨q1, q2, q3, q4⟩ := ok q hq
  exact ⟨by omega, fun e he => by have := q2 e he; omega, q3, q4⟩
theorem turn_k02 {ns : List Int} (hl : ns.length ≤ 1000) {k : Int} (k0 : 0 ≤ k) (k1 : k ≤ 1000) (a2 a3 a4 a5 a6 a7 : Option SV) (st : St) :
    ∃ (b2 b3 b4 b5 b6 b7 : Option SV) (st' : St), (sSeq (sSet 2 (eCall m__law_begun (aCons (eVar 0) (aCons (eVar 1) (aNil))))) (sSeq (sSet 3 (eCall m__law_frame (aCons (eVar 2) (aCons (eC (.int 130)) (aNil))))) (sSeq (sSet 4 (eIf (bCmp oLt (eCall m__law_size (aCons (eVar 3) (aNil))) (eC (.int 30))) (eC (.int 30)) (eC (.int 3)))) (sSeq (sSet 5 (nFz (nLst (aCons (eCall m__law_sheet (aCons (eVar 2) (aCons (eVar 3) (aCons (eC (.int 6)) (aCons (eVar 4) (aNil)))))) (aCons (eCall m__law_sheet (aCons (eVar 2) (aCons (eVar 3) (aCons (eC (.int 3)) (aCons (eBin oIx (hVar 3) (eC (.int 0))) (aNil)))))) (aNil)))))) (sSeq (sSet 6 (nFz (nLc (iDat (eVar 5)) (tgN 7) [7] (bNot (bOf (eCall m__law_sheet_right (aCons (eVar 2) (aCons (eVar 3) (aCons (eVar 7) (aNil))))))) (eVar 7)))) (sIf (bOr (bCmp oNeX (hVar 6) (eC (.lst []))) (bNot (bOf (eCall m__law_points_right (aCons (eVar 3) (aNil)))))) (sRet (eC (.bl false))) (sNext))))))) [some (.d (.kls (ns.map .int))), some (.d (.int k)), a2, a3, a4, a5, a6, a7] st = .ok (.nx [some (.d (.kls (ns.map .int))), some (.d (.int k)), b2, b3, b4, b5, b6, b7]) st' := by
  obtain ⟨st1, e1, g1⟩ := begun_q hl k0 k1 st
  generalize hn : st.length = n at e1 g1
  obtain ⟨F, st2, e2, ⟨isf, _⟩, g2⟩ := frame_q (most := 130) g1 (by unfold top0; omega) (by omega)
  obtain ⟨p, N, rfl, h⟩ := isF_fd isf
  have hp := h.p2
  have n1 := h.n1
  have n4 := h.n4
  obtain ⟨high, hhq, hh0, hh30, hcase⟩ : ∃ high : Int, (∀ a5 a6 a7 s, (eIf (bCmp oLt (eCall m__law_size (aCons (eVar 3) (aNil))) (eC (.int 30))) (eC (.int 30)) (eC (.int 3))) [some (.d (.kls (ns.map .int))), some (.d (.int k)), some (.d (.obj n)), some (.d (frm (p : Int) (N : Int))), a4, a5, a6, a7] s = .ok (.int high) s) ∧ 0 ≤ high ∧ high ≤ 30 ∧ (high ≤ 7 ∨ (p ≤ 5 ∧ high ≤ 30) ∨ N = 1) := by
    have sq := fun s => size_q h s
    by_cases c : p ^ N < 30
    · refine ⟨30, fun a5 a6 a7 s => ?_, by omega, by omega, ?_⟩
      · have z : decide (((p ^ N : Nat) : Int) < 30) = true := decide_eq_true (by omega)
        have cq := call1_q (m := m__law_size) (f := eVar 3) (r := [some (.d (.kls (ns.map .int))), some (.d (.int k)), some (.d (.obj n)), some (.d (frm (p : Int) (N : Int))), a4, a5, a6, a7]) (st := s) rfl (sq s)
        rw [q_eIf, q_bCmp, q_eBin, cq]
        dsimp only
        rw [q_eC]
        dsimp only
        rw [q_ltI, z]
        rfl
      · by_cases p7 : p ≤ 5
        · exact .inr (.inl ⟨p7, by omega⟩)
        · right
          right
          have pe : p = 7 := by
            rcases h.pm with rfl | rfl | rfl | rfl <;> omega
          subst pe
          have : N = 1 ∨ N = 2 ∨ N = 3 ∨ N = 4 := by omega
          rcases this with rfl | rfl | rfl | rfl
          · rfl
          · exact absurd c (by decide)
          · exact absurd c (by decide)
          · exact absurd c (by decide)
    · refine ⟨3, fun a5 a6 a7 s => ?_, by omega, by omega, .inl (by omega)⟩
      have z : decide (((p ^ N : Nat) : Int) < 30) = false := decide_eq_false (by omega)
      have cq := call1_q (m := m__law_size) (f := eVar 3) (r := [some (.d (.kls (ns.map .int))), some (.d (.int k)), some (.d (.obj n)), some (.d (frm (p : Int) (N : Int))), a4, a5, a6, a7]) (st := s) rfl (sq s)
      rw [q_eIf, q_bCmp, q_eBin, cq]
      dsimp only
      rw [q_eC]
      dsimp only
      rw [q_ltI, z]
      rfl
  obtain ⟨S1, st3, e3, sh1, g3⟩ := sheet_q (p := (p : Int)) (m := (N : Int)) (high := high) (M := 6) (by omega) (by omega) ⟨hh0, by omega⟩ (by omega) st2 _ g2 (by unfold top0; omega)
  obtain ⟨S2, st4, e4, sh2, g4⟩ := sheet_q (p := (p : Int)) (m := (N : Int)) (high := (p : Int)) (M := 3) (by omega) (by omega) (by omega) (by omega) st3 _ g3 (by unfold top0; omega)
  have b1 := shOk_bl sh1 (by omega) (by omega) ⟨hh0, by omega⟩ (by omega)
  have b2 := shOk_bl sh2 (by omega) (by omega) (by omega) (by omega)
  obtain ⟨ms1, rfl, s1, ok1⟩ := sh_of hh30 (by omega) sh1
  obtain ⟨ms2, rfl, s2, ok2⟩ := sh_of (by omega) (by omega) sh2
  have r1 := sheet_right_q (n := n) h s1 (fun v hv q hq => few_of h hcase (ok1 q hq) hv) (b1.bd.mono (by omega) (by omega))
  have r2 := sheet_right_q (n := n) h s2 (fun v hv q hq => few_of h (.inl (by omega)) (ok2 q hq) hv) (b2.bd.mono (by omega) (by omega))
  have each : ∀ x ∈ [D.tup (ms1.map termD), D.tup (ms2.map termD)], Wd_ n 6 (m__law_sheet_right [.obj n, frm (p : Int) (N : Int), x]) (fun x => x = .bl true) := fun x hx => by
    simp only [List.mem_cons, List.not_mem_nil, or_false] at hx
    rcases hx with rfl | rfl
    · exact r1
    · exact r2
  obtain ⟨ys, st5, e5, _, none_, g5⟩ := lcL_draw (b := tgN 7) (c := bNot (bOf (eCall m__law_sheet_right (aCons (eVar 2) (aCons (eVar 3) (aCons (eVar 7) (aNil))))))) (e := eVar 7) (r := wipeE [7] [some (.d (.kls (ns.map .int))), some (.d (.int k)), some (.d (.obj n)), some (.d (frm (p : Int) (N : Int))), some (.d (.int high)), some (.d (.lst [.tup (ms1.map termD), .tup (ms2.map termD)])), a6, a7])
    (I := fun j s => Gd s n (1000 + 6 * j)) (P := fun _ => False) [.tup (ms1.map termD), .tup (ms2.map termD)] st4 0 (g4.mono (by omega)) fun j x s hx gs => by
      obtain ⟨y, s', ey, rfl, gs'⟩ := each x (List.mem_of_getElem? hx) s _ gs (by
        have := (List.getElem?_eq_some_iff.mp hx).1
        simp at this
        unfold top0
        omega)
      refine ⟨[some (.d (.kls (ns.map .int))), some (.d (.int k)), some (.d (.obj n)), some (.d (frm (p : Int) (N : Int))), some (.d (.int high)), some (.d (.lst [.tup (ms1.map termD), .tup (ms2.map termD)])), a6, some (.d x)], s', rfl, .inl ⟨?_, gs'.mono (by omega)⟩⟩
      have cq := call3_q (m := m__law_sheet_right) (f := eVar 2) (g := eVar 3) (h := eVar 7) (r := [some (.d (.kls (ns.map .int))), some (.d (.int k)), some (.d (.obj n)), some (.d (frm (p : Int) (N : Int))), some (.d (.int high)), some (.d (.lst [.tup (ms1.map termD), .tup (ms2.map termD)])), a6, some (.d x)]) (st := s) rfl rfl rfl ey
      rw [q_bNot, q_bOf, cq]
      rfl
  have ys0 : ys = [] := by
    cases ys with
    | nil => rfl
    | cons y ys => exact (none_ y (by simp)).elim
  subst ys0
  have pr := points_right_q h st5
  refine ⟨some (.d (.obj n)), some (.d (frm (p : Int) (N : Int))), some (.d (.int high)), some (.d (.lst [.tup (ms1.map termD), .tup (ms2.map termD)])), some (.d (.lst [])), a7, st5, ?_⟩
  refine seq_step (r' := [some (.d (.kls (ns.map .int))), some (.d (.int k)), some (.d (.obj n)), a3, a4, a5, a6, a7]) (st' := st1) (sSet_q (call2_q rfl rfl e1)) ?_
  refine seq_step (r' := [some (.d (.kls (ns.map .int))), some (.d (.int k)), some (.d (.obj n)), some (.d (frm (p : Int) (N : Int))), a4, a5, a6, a7]) (st' := st2) (sSet_q (call2_q rfl rfl e2)) ?_
  refine seq_step (r' := [some (.d (.kls (ns.map .int))), some (.d (.int k)), some (.d (.obj n)), some (.d (frm (p : Int) (N : Int))), some (.d (.int high)), a5, a6, a7]) (st' := st2) (sSet_q (hhq a5 a6 a7 st2)) ?_
  refine seq_step (r' := [some (.d (.kls (ns.map .int))), some (.d (.int k)), some (.d (.obj n)), some (.d (frm (p : Int) (N : Int))), some (.d (.int high)), some (.d (.lst [.tup (ms1.map termD), .tup (ms2.map termD)])), a6, a7]) (st' := st4) ?_ ?_
  · have c1 := call4_q (m := m__law_sheet) (f := eVar 2) (g := eVar 3) (h := eC (.int 6)) (i := eVar 4) (r := [some (.d (.kls (ns.map .int))), some (.d (.int k)), some (.d (.obj n)), some (.d (frm (p : Int) (N : Int))), some (.d (.int high)), a5, a6, a7]) (st := st2) rfl rfl rfl rfl e3
    have c2 := call4_q (m := m__law_sheet) (f := eVar 2) (g := eVar 3) (h := eC (.int 3)) (i := eBin oIx (hVar 3) (eC (.int 0))) (r := [some (.d (.kls (ns.map .int))), some (.d (.int k)), some (.d (.obj n)), some (.d (frm (p : Int) (N : Int))), some (.d (.int high)), a5, a6, a7]) (st := st3) rfl rfl rfl rfl e4
    refine sSet_q ?_
    rw [q_nFz, q_nLst, q_aCons, c1]
    dsimp only
    rw [q_aCons, c2]
    dsimp only
    rw [q_aNil]
    dsimp only
    rw [q_lim (by simp)]
  refine seq_step (r' := [some (.d (.kls (ns.map .int))), some (.d (.int k)), some (.d (.obj n)), some (.d (frm (p : Int) (N : Int))), some (.d (.int high)), some (.d (.lst [.tup (ms1.map termD), .tup (ms2.map termD)])), some (.d (.lst [])), a7]) (st' := st5) (sSet_q (by
    rw [q_nFz, nLc_q (f := iDat (eVar 5)) (st' := st4) (xs := [.tup (ms1.map termD), .tup (ms2.map termD)]) rfl (by simp) e5])) ?_
  refine ifNo_q (orNo_q (s1 := st5) (s2 := st5) rfl ?_) rfl
  have cq := call1_q (m := m__law_points_right) (f := eVar 3) (r := [some (.d (.kls (ns.map .int))), some (.d (.int k)), some (.d (.obj n)), some (.d (frm (p : Int) (N : Int))), some (.d (.int high)), some (.d (.lst [.tup (ms1.map termD), .tup (ms2.map termD)])), some (.d (.lst [])), a7]) (st := st5) rfl pr
  rw [q_bNot, q_bOf, cq]
  rfl
end Pi
namespace Pi
open PySem PySem.Spec PyProof.Rows L2
def lastM : Tms := [([0, 0, 0, 0], 3), ([0, 0, 0, 4], 2)]
def v54 : List D := (pts 5 4).map fun v => match decide ((0 : Int) < v.getD 3 0) with
  | true => D.int 0
  | false => D.int 3
theorem v54_eq : valsD 5 4 lastM = v54 := by kernel_rfl
theorem fd54 : Fd 5 4 := ⟨.inr (.inr (.inl rfl)), by decide, by decide, by decide⟩
theorem last_sh : Sh 5 4 lastM := by
  refine ⟨fun q hq => ?_, ?_, by decide⟩
  · simp only [lastM, List.mem_cons, List.not_mem_nil, or_false] at hq
    rcases hq with rfl | rfl <;> exact ⟨rfl, by decide, by decide, by decide⟩
  · exact List.pairwise_cons.mpr ⟨fun b hb => by
      simp at hb
      subst hb
      rfl, List.pairwise_singleton _ _⟩
theorem v54_q (st : St) : m_values [.tup [.int 5, .int 4], .tup [.tup [.tup [.int 0, .int 0, .int 0, .int 0], .int 3], .tup [.tup [.int 0, .int 0, .int 0, .int 4], .int 2]]] st = .ok (.tup v54) st := by
  rw [← v54_eq]
  exact values_q fd54 last_sh st
abbrev lastD : D := .tup [.tup [.tup [.int 0, .int 0, .int 0, .int 0], .int 3], .tup [.tup [.int 0, .int 0, .int 0, .int 4], .int 2]]
abbrev some5 : List D := [.tup [.tup [.int 0, .int 0], .tup [.int 0, .int 1], .tup [.int 1, .int 0], .tup [.int 1, .int 1]], .tup [.tup [.int 0], .tup [.int 1], .tup [.int 2]], .tup [.tup [.int 1, .int 1], .tup [.int 1, .int 2]], .int 343, .tup [.int 4, .int 4, .int 4, .int 4]]
theorem hand_k02 (st : St) : m__law_hand_right [] st = .ok (.bl true) st := by
  refine run_q (st' := st) ?_
  show g__law_hand_right [none, none, none, none, none] st = _
  unfold g__law_hand_right
  refine seq_step (r' := [some (.own [.tup [.int 0, .int 1, .int 1], .tup [.int 1, .int 1], .tup [.int 0, .int 1]]), none, none, none, none]) (st' := st) (by kernel_rfl) ?_
  refine seq_step (r' := [some (.own [.tup [.int 0, .int 1, .int 1], .tup [.int 1, .int 1], .tup [.int 0, .int 1], .tup [.int 0, .int 0, .int 0], .int 1, .int 1]), none, none, none, none]) (st' := st) (by kernel_rfl) ?_
  refine seq_step (r' := [some (.own [.tup [.int 0, .int 1, .int 1], .tup [.int 1, .int 1], .tup [.int 0, .int 1], .tup [.int 0, .int 0, .int 0], .int 1, .int 1, .int 4, .int 0]), none, none, none, none]) (st' := st) (by kernel_rfl) ?_
  refine seq_step (r' := [some (.own [.tup [.int 0, .int 1, .int 1], .tup [.int 1, .int 1], .tup [.int 0, .int 1], .tup [.int 0, .int 0, .int 0], .int 1, .int 1, .int 4, .int 0]), none, none, none, none]) (st' := st) (by kernel_rfl) ?_
  refine seq_step (r' := [some (.own [.tup [.int 0, .int 1, .int 1], .tup [.int 1, .int 1], .tup [.int 0, .int 1], .tup [.int 0, .int 0, .int 0], .int 1, .int 1, .int 4, .int 0]), some (.d lastD), none, none, none]) (st' := st) (by kernel_rfl) ?_
  refine seq_step (r' := [some (.d (.tup v54)), some (.d lastD), none, none, none]) (st' := st) (sSet_q (call2_q rfl rfl (v54_q st))) ?_
  refine seq_step (r' := [some (.d (.tup v54)), some (.d lastD), none, none, none]) (st' := st) (by kernel_rfl) ?_
  refine seq_step (r' := [some (.own [.int 120, .int (-1), .int 0]), some (.d lastD), none, none, none]) (st' := st) (by kernel_rfl) ?_
  refine seq_step (r' := [some (.own [.int 120, .int (-1), .int 0, .int 5]), some (.d lastD), none, none, none]) (st' := st) (by kernel_rfl) ?_
  refine seq_step (r' := [some (.own [.int 120, .int (-1), .int 0, .int 5, .int 0]), some (.d lastD), none, none, none]) (st' := st) (by kernel_rfl) ?_
  refine seq_step (r' := [some (.own [.int 120, .int (-1), .int 0, .int 5, .int 0]), some (.d lastD), some (.d (.lst some5)), none, none]) (st' := st) (by kernel_rfl) ?_
  refine seq_step (r' := [some (.own [.int 120, .int (-1), .int 0, .int 5, .int 0]), some (.d lastD), some (.d (.lst some5)), some (.d (.lst some5)), none]) (st' := st) (by kernel_rfl) ?_
  kernel_rfl
theorem cnt_q (ns : List Int) (hl : ns.length ≤ 63) : ∃ c : Nat, c ≤ 9 ∧ ∀ (r : Env) (st : St), iRng1 (aCons (eBin oAdd (eC (.int 3)) (eBlt oMin2 (aCons (eBlt oLen (aCons (hVar 0) (aNil))) (aCons (eC (.int 6)) (aNil))))) (aNil)) (some (.d (.kls (ns.map .int))) :: r) st = .ok (rangeD 0 c) st := by
  have z : ∃ c : Nat, c ≤ 9 ∧ (3 + (match decide ((6 : Int) < (ns.length : Nat)) with
    | true => (6 : Int)
    | false => (ns.length : Nat))) = (c : Int) := by
    cases e : decide ((6 : Int) < (ns.length : Nat)) with
    | true => exact ⟨9, by omega, rfl⟩
    | false =>
      have := of_decide_eq_false e
      exact ⟨3 + ns.length, by omega, by dsimp only; omega⟩
  obtain ⟨c, hc, e⟩ := z
  refine ⟨c, hc, fun r st => ?_⟩
  have rg : rng1 [.int (c : Int)] = some (rangeD 0 c) := by
    rw [rng1_q (by omega) (by omega), Int.toNat_natCast]
  have mn : oMin2 [.int (ns.length : Nat), .int 6] = some (.int (match decide ((6 : Int) < (ns.length : Nat)) with
    | true => (6 : Int)
    | false => (ns.length : Nat))) := rfl
  simp only [q_iRng1, q_aCons, q_eBin, q_eC, q_eBlt, q_hZero, q_aNil, q_lenK, List.length_map, q_some, mn, q_addI, e, rg]
theorem call0_q {m : List D → Mo D} {r : Env} {st : St} {z : Res D} (hm : m [] st = z) : eCall m aNil r st = z := by
  rw [q_eCall, q_aNil]
  exact hm
theorem law_k02 (ns : List Int) (hl : ns.length ≤ 63) : ∃ st', m_law [.kls (ns.map .int)] [] = .ok (.bl true) st' := by
  obtain ⟨c, hc, hit⟩ := cnt_q ns hl
  have loop := forL_all (b := tgN 1) (g := (sSeq (sSet 2 (eCall m__law_begun (aCons (eVar 0) (aCons (eVar 1) (aNil))))) (sSeq (sSet 3 (eCall m__law_frame (aCons (eVar 2) (aCons (eC (.int 130)) (aNil))))) (sSeq (sSet 4 (eIf (bCmp oLt (eCall m__law_size (aCons (eVar 3) (aNil))) (eC (.int 30))) (eC (.int 30)) (eC (.int 3)))) (sSeq (sSet 5 (nFz (nLst (aCons (eCall m__law_sheet (aCons (eVar 2) (aCons (eVar 3) (aCons (eC (.int 6)) (aCons (eVar 4) (aNil)))))) (aCons (eCall m__law_sheet (aCons (eVar 2) (aCons (eVar 3) (aCons (eC (.int 3)) (aCons (eBin oIx (hVar 3) (eC (.int 0))) (aNil)))))) (aNil)))))) (sSeq (sSet 6 (nFz (nLc (iDat (eVar 5)) (tgN 7) [7] (bNot (bOf (eCall m__law_sheet_right (aCons (eVar 2) (aCons (eVar 3) (aCons (eVar 7) (aNil))))))) (eVar 7)))) (sIf (bOr (bCmp oNeX (hVar 6) (eC (.lst []))) (bNot (bOf (eCall m__law_points_right (aCons (eVar 3) (aNil)))))) (sRet (eC (.bl false))) (sNext))))))))
    (I := fun _ r _ => ∃ a1 a2 a3 a4 a5 a6 a7 : Option SV, r = [some (.d (.kls (ns.map .int))), a1, a2, a3, a4, a5, a6, a7]) (rangeD 0 c) [some (.d (.kls (ns.map .int))), none, none, none, none, none, none, none] [] 0 ⟨_, _, _, _, _, _, _, rfl⟩ fun k x r s hx ⟨a1, a2, a3, a4, a5, a6, a7, hr⟩ => by
      subst hr
      obtain ⟨rfl, hk⟩ := rangeD_at hx
      obtain ⟨b2, b3, b4, b5, b6, b7, st', e⟩ := turn_k02 (ns := ns) (by omega) (k := 0 + (k : Int)) (by omega) (by omega) a2 a3 a4 a5 a6 a7 s
      exact ⟨_, _, st', rfl, e, _, b2, b3, b4, b5, b6, b7, rfl⟩
  obtain ⟨r2, st2, e, a1, a2, a3, a4, a5, a6, a7, hr⟩ := loop
  subst hr
  refine ⟨st2, run_q ?_⟩
  show g_law [some (.d (.kls (ns.map .int))), none, none, none, none, none, none, none] [] = _
  unfold g_law
  refine seq_step (r' := [some (.d (.kls (ns.map .int))), a1, a2, a3, a4, a5, a6, a7]) (st' := st2) ?_ (sRet_q (call0_q (hand_k02 st2)))
  rw [q_sFor, hit]
  exact e
end Pi
namespace Pi
open PySem PySem.Spec PyProof.Rows L2 LamX
def gloNames : List Str := (["is_integer", "is_integer_in", "is_prime", "is_tuple_of", "are_rests", "power_of", "need_field", "is_point", "need_point", "points", "_are_powers", "_is_term", "poly_fault", "need_poly", "value_at", "_along_each_unknown", "_lessened", "_factors", "_table_of_values", "values", "degree", "_law_begun", "_law_draw", "_law_of", "_law_size", "_law_frame", "_law_spots", "_law_sheet", "_law_high", "_law_raised"] : List Str) ++ (["_law_worth", "_law_sheet_right", "_law_points_right", "_law_hand_right", "law", "RestError", "BadField", "BadPoly", "BadPoint"] : List Str)
def faT : List He.Fa := gloNames.map .glo ++ bltNames.map .free
def dd_is_integer : He.DefD := ⟨("is_integer", none), "is_integer", "is_integer", defArgs (top 9), defBody (top 9), defScope (top 9), [], []⟩
def dd_is_integer_in : He.DefD := ⟨("is_integer_in", none), "is_integer_in", "is_integer_in", defArgs (top 10), defBody (top 10), defScope (top 10), [], []⟩
def dd_is_prime : He.DefD := ⟨("is_prime", none), "is_prime", "is_prime", defArgs (top 11), defBody (top 11), defScope (top 11), [], []⟩
def dd_is_tuple_of : He.DefD := ⟨("is_tuple_of", none), "is_tuple_of", "is_tuple_of", defArgs (top 12), defBody (top 12), defScope (top 12), [], []⟩
def dd_are_rests : He.DefD := ⟨("are_rests", none), "are_rests", "are_rests", defArgs (top 13), defBody (top 13), defScope (top 13), [], []⟩
def dd_power_of : He.DefD := ⟨("power_of", none), "power_of", "power_of", defArgs (top 14), defBody (top 14), defScope (top 14), [], []⟩
def dd_need_field : He.DefD := ⟨("need_field", none), "need_field", "need_field", defArgs (top 15), defBody (top 15), defScope (top 15), [], []⟩
def dd_is_point : He.DefD := ⟨("is_point", none), "is_point", "is_point", defArgs (top 16), defBody (top 16), defScope (top 16), [], []⟩
def dd_need_point : He.DefD := ⟨("need_point", none), "need_point", "need_point", defArgs (top 17), defBody (top 17), defScope (top 17), [], []⟩
def dd_points : He.DefD := ⟨("points", none), "points", "points", defArgs (top 18), defBody (top 18), defScope (top 18), [], []⟩
def dd__are_powers : He.DefD := ⟨("_are_powers", none), "_are_powers", "_are_powers", defArgs (top 22), defBody (top 22), defScope (top 22), [], []⟩
def dd__is_term : He.DefD := ⟨("_is_term", none), "_is_term", "_is_term", defArgs (top 23), defBody (top 23), defScope (top 23), [], []⟩
def dd_poly_fault : He.DefD := ⟨("poly_fault", none), "poly_fault", "poly_fault", defArgs (top 24), defBody (top 24), defScope (top 24), [], []⟩
def dd_need_poly : He.DefD := ⟨("need_poly", none), "need_poly", "need_poly", defArgs (top 25), defBody (top 25), defScope (top 25), [], []⟩
def dd_value_at : He.DefD := ⟨("value_at", none), "value_at", "value_at", defArgs (top 26), defBody (top 26), defScope (top 26), [], []⟩
def dd__along_each_unknown : He.DefD := ⟨("_along_each_unknown", none), "_along_each_unknown", "_along_each_unknown", defArgs (top 32), defBody (top 32), defScope (top 32), [], []⟩
def dd__lessened : He.DefD := ⟨("_lessened", none), "_lessened", "_lessened", defArgs (top 29), defBody (top 29), defScope (top 29), [], []⟩
def dd__factors : He.DefD := ⟨("_factors", none), "_factors", "_factors", defArgs (top 30), defBody (top 30), defScope (top 30), [], []⟩
def dd__table_of_values : He.DefD := ⟨("_table_of_values", none), "_table_of_values", "_table_of_values", defArgs (top 31), defBody (top 31), defScope (top 31), [], []⟩
def dd_values : He.DefD := ⟨("values", none), "values", "values", defArgs (top 27), defBody (top 27), defScope (top 27), [], []⟩
def dd_degree : He.DefD := ⟨("degree", none), "degree", "degree", defArgs (top 28), defBody (top 28), defScope (top 28), [], []⟩
def dd__law_begun : He.DefD := ⟨("_law_begun", none), "_law_begun", "_law_begun", defArgs (top 34), defBody (top 34), defScope (top 34), [], []⟩
def dd__law_draw : He.DefD := ⟨("_law_draw", none), "_law_draw", "_law_draw", defArgs (top 35), defBody (top 35), defScope (top 35), [], []⟩
def dd__law_of : He.DefD := ⟨("_law_of", none), "_law_of", "_law_of", defArgs (top 36), defBody (top 36), defScope (top 36), [], []⟩
def dd__law_size : He.DefD := ⟨("_law_size", none), "_law_size", "_law_size", defArgs (top 38), defBody (top 38), defScope (top 38), [], []⟩
def dd__law_frame : He.DefD := ⟨("_law_frame", none), "_law_frame", "_law_frame", defArgs (top 37), defBody (top 37), defScope (top 37), [], []⟩
def dd__law_spots : He.DefD := ⟨("_law_spots", none), "_law_spots", "_law_spots", defArgs (top 39), defBody (top 39), defScope (top 39), [], []⟩
def dd__law_sheet : He.DefD := ⟨("_law_sheet", none), "_law_sheet", "_law_sheet", defArgs (top 40), defBody (top 40), defScope (top 40), [], []⟩
def dd__law_high : He.DefD := ⟨("_law_high", none), "_law_high", "_law_high", defArgs (top 41), defBody (top 41), defScope (top 41), [], []⟩
def dd__law_raised : He.DefD := ⟨("_law_raised", none), "_law_raised", "_law_raised", defArgs (top 42), defBody (top 42), defScope (top 42), [], []⟩
def dd__law_worth : He.DefD := ⟨("_law_worth", none), "_law_worth", "_law_worth", defArgs (top 43), defBody (top 43), defScope (top 43), [], []⟩
def dd__law_sheet_right : He.DefD := ⟨("_law_sheet_right", none), "_law_sheet_right", "_law_sheet_right", defArgs (top 44), defBody (top 44), defScope (top 44), [], []⟩
def dd__law_points_right : He.DefD := ⟨("_law_points_right", none), "_law_points_right", "_law_points_right", defArgs (top 45), defBody (top 45), defScope (top 45), [], []⟩
def dd__law_hand_right : He.DefD := ⟨("_law_hand_right", none), "_law_hand_right", "_law_hand_right", defArgs (top 46), defBody (top 46), defScope (top 46), [], []⟩
def dd_law : He.DefD := ⟨("law", none), "law", "law", defArgs (top 47), defBody (top 47), defScope (top 47), [], []⟩
def di_BadField : He.DefD := ⟨("BadField", some "__init__"), "__init__", "BadField.__init__", defArgs (methOf (top 2)), defBody (methOf (top 2)), defScope (methOf (top 2)), [], []⟩
def di_BadPoint : He.DefD := ⟨("BadPoint", some "__init__"), "__init__", "BadPoint.__init__", defArgs (methOf (top 4)), defBody (methOf (top 4)), defScope (methOf (top 4)), [], []⟩
def di_BadPoly : He.DefD := ⟨("BadPoly", some "__init__"), "__init__", "BadPoly.__init__", defArgs (methOf (top 3)), defBody (methOf (top 3)), defScope (methOf (top 3)), [], []⟩
def fnT : List He.DefD := [dd_is_integer, dd_is_integer_in, dd_is_prime, dd_is_tuple_of, dd_are_rests, dd_power_of, dd_need_field, dd_is_point, dd_need_point, dd_points, dd__are_powers, dd__is_term, dd_poly_fault, dd_need_poly, dd_value_at, dd__along_each_unknown, dd__lessened, dd__factors, dd__table_of_values, dd_values, dd_degree, dd__law_begun, dd__law_draw, dd__law_of, dd__law_size, dd__law_frame, dd__law_spots, dd__law_sheet, dd__law_high, dd__law_raised, dd__law_worth, dd__law_sheet_right, dd__law_points_right, dd__law_hand_right, dd_law, di_BadField, di_BadPoint, di_BadPoly]
def cxT : List (Str × D) := [("MOST_POINTS", cMOST_POINTS), ("MOST_POWER", cMOST_POWER), ("MOST_TERMS", cMOST_TERMS), ("MOST_UNKNOWNS", cMOST_UNKNOWNS), ("PRIMES", cPRIMES)]
def exT (K : PySem.W.Frag) : Bool := sysB K && (tabsOk K lamDefs && (cxT.all (fun q => glcB K q.1 q.2) && (kinB K errNames ["place", "value"] && (raisB K "BadField" "place" && (raisB K "BadPoint" "value" && (raisB K "BadPoly" "place"))))))
/-- the text as it stands at the law's call -/
structure Wd (K : PySem.W.Frag) (h base : Heap) (mg : Str → Option Value) : Prop where
  X : K.In h
  G : h.Ns mainGlobals mg
  c : SaysP faT fnT (lamDefs.map fun z => (z, none)) exT h K
  tb : ∀ z ∈ lamDefs, TabB base mg (He.cT K (z, none)).1 (He.cT K (z, none)).2
section
variable {P : Program} {w : World} {K : PySem.W.Frag} {h base : Heap} {mg : Str → Option Value}
theorem Wd.hg (W : Wd K h base mg) : ∀ x ∈ gloNames, mg x = some (.ref (He.ga K x)) := fun x hx => He.glo_ok W.X W.G (W.c.d.facts (f := .glo x) (List.mem_append_left _ (List.mem_map.mpr ⟨x, hx, rfl⟩)))
theorem Wd.hf (W : Wd K h base mg) : ∀ x ∈ gloNames, mg x = some (.ref (He.fAd K (x, none))) := W.hg
theorem Wd.b (W : Wd K h base mg) : Blt mg := blt_of fun x hx => He.free_ok W.X W.G (W.c.d.facts (f := .free x) (List.mem_append_right _ (List.mem_map.mpr ⟨x, hx, rfl⟩)))
theorem Wd.sy (W : Wd K h base mg) : sysB K = true := (both W.c.more).1
theorem Wd.tok (W : Wd K h base mg) : tabsOk K lamDefs = true := (both (both W.c.more).2).1
theorem Wd.kcs (W : Wd K h base mg) : cxT.all (fun q => glcB K q.1 q.2) = true := (both (both (both W.c.more).2).2).1
theorem Wd.kin (W : Wd K h base mg) : kinB K errNames ["place", "value"] = true := (both (both (both (both W.c.more).2).2).2).1
theorem Wd.rs_BadField (W : Wd K h base mg) : raisB K "BadField" "place" = true := (both (both (both (both (both W.c.more).2).2).2).2).1
theorem Wd.rs_BadPoint (W : Wd K h base mg) : raisB K "BadPoint" "value" = true := (both (both (both (both (both (both W.c.more).2).2).2).2).2).1
theorem Wd.rs_BadPoly (W : Wd K h base mg) : raisB K "BadPoly" "place" = true := (both (both (both (both (both (both W.c.more).2).2).2).2).2).2
theorem Wd.sys (W : Wd K h base mg) : ∃ o, K.lookup sysModules = some o := (sysB_ok W.sy).1
theorem Wd.ns (W : Wd K h base mg) : NoSys K := (sysB_ok W.sy).2
theorem Wd.kc_MOST_POINTS (W : Wd K h base mg) : GlC K mg "MOST_POINTS" cMOST_POINTS := glc_of W.X W.G (List.all_eq_true.mp W.kcs ("MOST_POINTS", cMOST_POINTS) (by simp [cxT]))
theorem Wd.kc_MOST_POWER (W : Wd K h base mg) : GlC K mg "MOST_POWER" cMOST_POWER := glc_of W.X W.G (List.all_eq_true.mp W.kcs ("MOST_POWER", cMOST_POWER) (by simp [cxT]))
theorem Wd.kc_MOST_TERMS (W : Wd K h base mg) : GlC K mg "MOST_TERMS" cMOST_TERMS := glc_of W.X W.G (List.all_eq_true.mp W.kcs ("MOST_TERMS", cMOST_TERMS) (by simp [cxT]))
theorem Wd.kc_MOST_UNKNOWNS (W : Wd K h base mg) : GlC K mg "MOST_UNKNOWNS" cMOST_UNKNOWNS := glc_of W.X W.G (List.all_eq_true.mp W.kcs ("MOST_UNKNOWNS", cMOST_UNKNOWNS) (by simp [cxT]))
theorem Wd.kc_PRIMES (W : Wd K h base mg) : GlC K mg "PRIMES" cPRIMES := glc_of W.X W.G (List.all_eq_true.mp W.kcs ("PRIMES", cPRIMES) (by simp [cxT]))
theorem Wd.F_is_integer (W : Wd K h base mg) : ∃ fd, FunD K "is_integer" "is_integer" (defArgs (top 9)) (defBody (top 9)) (defScope (top 9)) [] [] (He.fAd K ("is_integer", none)) fd := W.c.d.def_ 0 (d := dd_is_integer) rfl
theorem Wd.F_is_integer_in (W : Wd K h base mg) : ∃ fd, FunD K "is_integer_in" "is_integer_in" (defArgs (top 10)) (defBody (top 10)) (defScope (top 10)) [] [] (He.fAd K ("is_integer_in", none)) fd := W.c.d.def_ 1 (d := dd_is_integer_in) rfl
theorem Wd.F_is_prime (W : Wd K h base mg) : ∃ fd, FunD K "is_prime" "is_prime" (defArgs (top 11)) (defBody (top 11)) (defScope (top 11)) [] [] (He.fAd K ("is_prime", none)) fd := W.c.d.def_ 2 (d := dd_is_prime) rfl
theorem Wd.F_is_tuple_of (W : Wd K h base mg) : ∃ fd, FunD K "is_tuple_of" "is_tuple_of" (defArgs (top 12)) (defBody (top 12)) (defScope (top 12)) [] [] (He.fAd K ("is_tuple_of", none)) fd := W.c.d.def_ 3 (d := dd_is_tuple_of) rfl
theorem Wd.F_are_rests (W : Wd K h base mg) : ∃ fd, FunD K "are_rests" "are_rests" (defArgs (top 13)) (defBody (top 13)) (defScope (top 13)) [] [] (He.fAd K ("are_rests", none)) fd := W.c.d.def_ 4 (d := dd_are_rests) rfl
theorem Wd.F_power_of (W : Wd K h base mg) : ∃ fd, FunD K "power_of" "power_of" (defArgs (top 14)) (defBody (top 14)) (defScope (top 14)) [] [] (He.fAd K ("power_of", none)) fd := W.c.d.def_ 5 (d := dd_power_of) rfl
theorem Wd.F_need_field (W : Wd K h base mg) : ∃ fd, FunD K "need_field" "need_field" (defArgs (top 15)) (defBody (top 15)) (defScope (top 15)) [] [] (He.fAd K ("need_field", none)) fd := W.c.d.def_ 6 (d := dd_need_field) rfl
theorem Wd.F_is_point (W : Wd K h base mg) : ∃ fd, FunD K "is_point" "is_point" (defArgs (top 16)) (defBody (top 16)) (defScope (top 16)) [] [] (He.fAd K ("is_point", none)) fd := W.c.d.def_ 7 (d := dd_is_point) rfl
theorem Wd.F_need_point (W : Wd K h base mg) : ∃ fd, FunD K "need_point" "need_point" (defArgs (top 17)) (defBody (top 17)) (defScope (top 17)) [] [] (He.fAd K ("need_point", none)) fd := W.c.d.def_ 8 (d := dd_need_point) rfl
theorem Wd.F_points (W : Wd K h base mg) : ∃ fd, FunD K "points" "points" (defArgs (top 18)) (defBody (top 18)) (defScope (top 18)) [] [] (He.fAd K ("points", none)) fd := W.c.d.def_ 9 (d := dd_points) rfl
theorem Wd.F__are_powers (W : Wd K h base mg) : ∃ fd, FunD K "_are_powers" "_are_powers" (defArgs (top 22)) (defBody (top 22)) (defScope (top 22)) [] [] (He.fAd K ("_are_powers", none)) fd := W.c.d.def_ 10 (d := dd__are_powers) rfl
theorem Wd.F__is_term (W : Wd K h base mg) : ∃ fd, FunD K "_is_term" "_is_term" (defArgs (top 23)) (defBody (top 23)) (defScope (top 23)) [] [] (He.fAd K ("_is_term", none)) fd := W.c.d.def_ 11 (d := dd__is_term) rfl
theorem Wd.F_poly_fault (W : Wd K h base mg) : ∃ fd, FunD K "poly_fault" "poly_fault" (defArgs (top 24)) (defBody (top 24)) (defScope (top 24)) [] [] (He.fAd K ("poly_fault", none)) fd := W.c.d.def_ 12 (d := dd_poly_fault) rfl
theorem Wd.F_need_poly (W : Wd K h base mg) : ∃ fd, FunD K "need_poly" "need_poly" (defArgs (top 25)) (defBody (top 25)) (defScope (top 25)) [] [] (He.fAd K ("need_poly", none)) fd := W.c.d.def_ 13 (d := dd_need_poly) rfl
theorem Wd.F_value_at (W : Wd K h base mg) : ∃ fd, FunD K "value_at" "value_at" (defArgs (top 26)) (defBody (top 26)) (defScope (top 26)) [] [] (He.fAd K ("value_at", none)) fd := W.c.d.def_ 14 (d := dd_value_at) rfl
theorem Wd.F__along_each_unknown (W : Wd K h base mg) : ∃ fd, FunD K "_along_each_unknown" "_along_each_unknown" (defArgs (top 32)) (defBody (top 32)) (defScope (top 32)) [] [] (He.fAd K ("_along_each_unknown", none)) fd := W.c.d.def_ 15 (d := dd__along_each_unknown) rfl
theorem Wd.F__lessened (W : Wd K h base mg) : ∃ fd, FunD K "_lessened" "_lessened" (defArgs (top 29)) (defBody (top 29)) (defScope (top 29)) [] [] (He.fAd K ("_lessened", none)) fd := W.c.d.def_ 16 (d := dd__lessened) rfl
theorem Wd.F__factors (W : Wd K h base mg) : ∃ fd, FunD K "_factors" "_factors" (defArgs (top 30)) (defBody (top 30)) (defScope (top 30)) [] [] (He.fAd K ("_factors", none)) fd := W.c.d.def_ 17 (d := dd__factors) rfl
theorem Wd.F__table_of_values (W : Wd K h base mg) : ∃ fd, FunD K "_table_of_values" "_table_of_values" (defArgs (top 31)) (defBody (top 31)) (defScope (top 31)) [] [] (He.fAd K ("_table_of_values", none)) fd := W.c.d.def_ 18 (d := dd__table_of_values) rfl
theorem Wd.F_values (W : Wd K h base mg) : ∃ fd, FunD K "values" "values" (defArgs (top 27)) (defBody (top 27)) (defScope (top 27)) [] [] (He.fAd K ("values", none)) fd := W.c.d.def_ 19 (d := dd_values) rfl
theorem Wd.F_degree (W : Wd K h base mg) : ∃ fd, FunD K "degree" "degree" (defArgs (top 28)) (defBody (top 28)) (defScope (top 28)) [] [] (He.fAd K ("degree", none)) fd := W.c.d.def_ 20 (d := dd_degree) rfl
theorem Wd.F__law_begun (W : Wd K h base mg) : ∃ fd, FunD K "_law_begun" "_law_begun" (defArgs (top 34)) (defBody (top 34)) (defScope (top 34)) [] [] (He.fAd K ("_law_begun", none)) fd := W.c.d.def_ 21 (d := dd__law_begun) rfl
theorem Wd.F__law_draw (W : Wd K h base mg) : ∃ fd, FunD K "_law_draw" "_law_draw" (defArgs (top 35)) (defBody (top 35)) (defScope (top 35)) [] [] (He.fAd K ("_law_draw", none)) fd := W.c.d.def_ 22 (d := dd__law_draw) rfl
theorem Wd.F__law_of (W : Wd K h base mg) : ∃ fd, FunD K "_law_of" "_law_of" (defArgs (top 36)) (defBody (top 36)) (defScope (top 36)) [] [] (He.fAd K ("_law_of", none)) fd := W.c.d.def_ 23 (d := dd__law_of) rfl
theorem Wd.F__law_size (W : Wd K h base mg) : ∃ fd, FunD K "_law_size" "_law_size" (defArgs (top 38)) (defBody (top 38)) (defScope (top 38)) [] [] (He.fAd K ("_law_size", none)) fd := W.c.d.def_ 24 (d := dd__law_size) rfl
theorem Wd.F__law_frame (W : Wd K h base mg) : ∃ fd, FunD K "_law_frame" "_law_frame" (defArgs (top 37)) (defBody (top 37)) (defScope (top 37)) [] [] (He.fAd K ("_law_frame", none)) fd := W.c.d.def_ 25 (d := dd__law_frame) rfl
theorem Wd.F__law_spots (W : Wd K h base mg) : ∃ fd, FunD K "_law_spots" "_law_spots" (defArgs (top 39)) (defBody (top 39)) (defScope (top 39)) [] [] (He.fAd K ("_law_spots", none)) fd := W.c.d.def_ 26 (d := dd__law_spots) rfl
theorem Wd.F__law_sheet (W : Wd K h base mg) : ∃ fd, FunD K "_law_sheet" "_law_sheet" (defArgs (top 40)) (defBody (top 40)) (defScope (top 40)) [] [] (He.fAd K ("_law_sheet", none)) fd := W.c.d.def_ 27 (d := dd__law_sheet) rfl
theorem Wd.F__law_high (W : Wd K h base mg) : ∃ fd, FunD K "_law_high" "_law_high" (defArgs (top 41)) (defBody (top 41)) (defScope (top 41)) [] [] (He.fAd K ("_law_high", none)) fd := W.c.d.def_ 28 (d := dd__law_high) rfl
theorem Wd.F__law_raised (W : Wd K h base mg) : ∃ fd, FunD K "_law_raised" "_law_raised" (defArgs (top 42)) (defBody (top 42)) (defScope (top 42)) [] [] (He.fAd K ("_law_raised", none)) fd := W.c.d.def_ 29 (d := dd__law_raised) rfl
theorem Wd.F__law_worth (W : Wd K h base mg) : ∃ fd, FunD K "_law_worth" "_law_worth" (defArgs (top 43)) (defBody (top 43)) (defScope (top 43)) [] [] (He.fAd K ("_law_worth", none)) fd := W.c.d.def_ 30 (d := dd__law_worth) rfl
theorem Wd.F__law_sheet_right (W : Wd K h base mg) : ∃ fd, FunD K "_law_sheet_right" "_law_sheet_right" (defArgs (top 44)) (defBody (top 44)) (defScope (top 44)) [] [] (He.fAd K ("_law_sheet_right", none)) fd := W.c.d.def_ 31 (d := dd__law_sheet_right) rfl
theorem Wd.F__law_points_right (W : Wd K h base mg) : ∃ fd, FunD K "_law_points_right" "_law_points_right" (defArgs (top 45)) (defBody (top 45)) (defScope (top 45)) [] [] (He.fAd K ("_law_points_right", none)) fd := W.c.d.def_ 32 (d := dd__law_points_right) rfl
theorem Wd.F__law_hand_right (W : Wd K h base mg) : ∃ fd, FunD K "_law_hand_right" "_law_hand_right" (defArgs (top 46)) (defBody (top 46)) (defScope (top 46)) [] [] (He.fAd K ("_law_hand_right", none)) fd := W.c.d.def_ 33 (d := dd__law_hand_right) rfl
theorem Wd.F_law (W : Wd K h base mg) : ∃ fd, FunD K "law" "law" (defArgs (top 47)) (defBody (top 47)) (defScope (top 47)) [] [] (He.fAd K ("law", none)) fd := W.c.d.def_ 34 (d := dd_law) rfl
theorem Wd.I_BadField (W : Wd K h base mg) : ∃ fd, FunD K "__init__" "BadField.__init__" (defArgs (methOf (top 2))) (defBody (methOf (top 2))) (defScope (methOf (top 2))) [] [] (He.ma K (He.ga K "BadField") "__init__") fd := W.c.d.def_ 35 (d := di_BadField) rfl
theorem Wd.kx_BadField (W : Wd K h base mg) : XF (GK K) P w K mg base "BadField" eBadField := by
  obtain ⟨fd, I⟩ := W.I_BadField
  exact xf_of (y := "place") (p1 := ⟨7, 8, 7, 12⟩) (p2 := ⟨7, 8, 7, 18⟩) (p3 := ⟨7, 21, 7, 26⟩) (p4 := ⟨7, 8, 7, 26⟩) (scope := defScope (methOf (top 2))) (params := defArgs (methOf (top 2))) W.rs_BadField rfl rfl (W.hg "BadField" (by decide +kernel)) I ⟨rfl, rfl, rfl, by decide +kernel, rfl, by decide +kernel, by decide +kernel⟩ rfl rfl rfl rfl (fun _ _ _ => rfl) (fun _ _ _ _ _ _ us hl => match us, hl with | [_, _], _ => rfl)
theorem Wd.I_BadPoint (W : Wd K h base mg) : ∃ fd, FunD K "__init__" "BadPoint.__init__" (defArgs (methOf (top 4))) (defBody (methOf (top 4))) (defScope (methOf (top 4))) [] [] (He.ma K (He.ga K "BadPoint") "__init__") fd := W.c.d.def_ 36 (d := di_BadPoint) rfl
theorem Wd.kx_BadPoint (W : Wd K h base mg) : XF (GK K) P w K mg base "BadPoint" eBadPoint := by
  obtain ⟨fd, I⟩ := W.I_BadPoint
  exact xf_of (y := "value") (p1 := ⟨15, 8, 15, 12⟩) (p2 := ⟨15, 8, 15, 18⟩) (p3 := ⟨15, 21, 15, 26⟩) (p4 := ⟨15, 8, 15, 26⟩) (scope := defScope (methOf (top 4))) (params := defArgs (methOf (top 4))) W.rs_BadPoint rfl rfl (W.hg "BadPoint" (by decide +kernel)) I ⟨rfl, rfl, rfl, by decide +kernel, rfl, by decide +kernel, by decide +kernel⟩ rfl rfl rfl rfl (fun _ _ _ => rfl) (fun _ _ _ _ _ _ us hl => match us, hl with | [_, _], _ => rfl)
theorem Wd.I_BadPoly (W : Wd K h base mg) : ∃ fd, FunD K "__init__" "BadPoly.__init__" (defArgs (methOf (top 3))) (defBody (methOf (top 3))) (defScope (methOf (top 3))) [] [] (He.ma K (He.ga K "BadPoly") "__init__") fd := W.c.d.def_ 37 (d := di_BadPoly) rfl
theorem Wd.kx_BadPoly (W : Wd K h base mg) : XF (GK K) P w K mg base "BadPoly" eBadPoly := by
  obtain ⟨fd, I⟩ := W.I_BadPoly
  exact xf_of (y := "place") (p1 := ⟨11, 8, 11, 12⟩) (p2 := ⟨11, 8, 11, 18⟩) (p3 := ⟨11, 21, 11, 26⟩) (p4 := ⟨11, 8, 11, 26⟩) (scope := defScope (methOf (top 3))) (params := defArgs (methOf (top 3))) W.rs_BadPoly rfl rfl (W.hg "BadPoly" (by decide +kernel)) I ⟨rfl, rfl, rfl, by decide +kernel, rfl, by decide +kernel, by decide +kernel⟩ rfl rfl rfl rfl (fun _ _ _ => rfl) (fun _ _ _ _ _ _ us hl => match us, hl with | [_, _], _ => rfl)
theorem Wd.k_is_integer (W : Wd K h base mg) : FK (GK K) P w K mg base "is_integer" 1 m_is_integer 1 := by
  obtain ⟨fd, F⟩ := W.F_is_integer
  refine fk_of (st := top 9) (g := g_is_integer) F (W.hf "is_integer" (by decide +kernel)) W.sys sc_is_integer rfl (fun _ _ => rfl) (fun _ _ _ _ _ _ us hl => match us, hl with | [_], _ => rfl) ?_
  intro cdv A outer s H E e9 rm ok
  have h1 := @b_is_integer P w K mg base (He.fAd K ("is_integer", none)) cdv A outer s H E W.b W.ns ok rm
  assumption
theorem Wd.k_is_integer_in (W : Wd K h base mg) : FK (GK K) P w K mg base "is_integer_in" 3 m_is_integer_in 2 := by
  obtain ⟨fd, F⟩ := W.F_is_integer_in
  refine fk_of (st := top 10) (g := g_is_integer_in) F (W.hf "is_integer_in" (by decide +kernel)) W.sys sc_is_integer_in rfl (fun _ _ => rfl) (fun _ _ _ _ _ _ us hl => match us, hl with | [_, _, _], _ => rfl) ?_
  intro cdv A outer s H E e9 rm ok
  have h1 := @b_is_integer_in P w K mg base (He.fAd K ("is_integer_in", none)) cdv A outer s H E W.b W.ns ok rm (W.k_is_integer)
  assumption
theorem Wd.k_is_prime (W : Wd K h base mg) : FK (GK K) P w K mg base "is_prime" 1 m_is_prime 2 := by
  obtain ⟨fd, F⟩ := W.F_is_prime
  refine fk_of (st := top 11) (g := g_is_prime) F (W.hf "is_prime" (by decide +kernel)) W.sys sc_is_prime rfl (fun _ _ => rfl) (fun _ _ _ _ _ _ us hl => match us, hl with | [_], _ => rfl) ?_
  intro cdv A outer s H E e9 rm ok
  have h1 := @b_is_prime P w K mg base (He.fAd K ("is_prime", none)) cdv A outer s H E W.b W.ns ok rm (W.kc_PRIMES) (W.k_is_integer)
  assumption
theorem Wd.k_is_tuple_of (W : Wd K h base mg) : FK (GK K) P w K mg base "is_tuple_of" 2 m_is_tuple_of 1 := by
  obtain ⟨fd, F⟩ := W.F_is_tuple_of
  refine fk_of (st := top 12) (g := g_is_tuple_of) F (W.hf "is_tuple_of" (by decide +kernel)) W.sys sc_is_tuple_of rfl (fun _ _ => rfl) (fun _ _ _ _ _ _ us hl => match us, hl with | [_, _], _ => rfl) ?_
  intro cdv A outer s H E e9 rm ok
  have h1 := @b_is_tuple_of P w K mg base (He.fAd K ("is_tuple_of", none)) cdv A outer s H E W.b W.ns ok rm
  assumption
theorem Wd.k_are_rests (W : Wd K h base mg) : FK (GK K) P w K mg base "are_rests" 3 m_are_rests 3 := by
  obtain ⟨fd, F⟩ := W.F_are_rests
  refine fk_of (st := top 13) (g := g_are_rests) F (W.hf "are_rests" (by decide +kernel)) W.sys sc_are_rests rfl (fun _ _ => rfl) (fun _ _ _ _ _ _ us hl => match us, hl with | [_, _, _], _ => rfl) ?_
  intro cdv A outer s H E e9 rm ok
  have h1 := @b_are_rests P w K mg base (He.fAd K ("are_rests", none)) cdv A outer s H E W.b W.ns ok rm (W.k_is_integer_in) (W.k_is_tuple_of)
  assumption
theorem Wd.k_power_of (W : Wd K h base mg) : FK (GK K) P w K mg base "power_of" 2 m_power_of 1 := by
  obtain ⟨fd, F⟩ := W.F_power_of
  refine fk_of (st := top 14) (g := g_power_of) F (W.hf "power_of" (by decide +kernel)) W.sys sc_power_of rfl (fun _ _ => rfl) (fun _ _ _ _ _ _ us hl => match us, hl with | [_, _], _ => rfl) ?_
  intro cdv A outer s H E e9 rm ok
  have h1 := @b_power_of P w K mg base (He.fAd K ("power_of", none)) cdv A outer s H E W.b W.ns ok rm
  assumption
theorem Wd.k_need_field (W : Wd K h base mg) : FK (GK K) P w K mg base "need_field" 1 m_need_field 3 := by
  obtain ⟨fd, F⟩ := W.F_need_field
  refine fk_of (st := top 15) (g := g_need_field) F (W.hf "need_field" (by decide +kernel)) W.sys sc_need_field rfl (fun _ _ => rfl) (fun _ _ _ _ _ _ us hl => match us, hl with | [_], _ => rfl) ?_
  intro cdv A outer s H E e9 rm ok
  have h1 := @b_need_field P w K mg base (He.fAd K ("need_field", none)) cdv A outer s H E W.b W.ns ok rm (W.kc_MOST_POINTS) (W.kc_MOST_UNKNOWNS) (W.k_is_integer_in) (W.k_is_prime) (W.k_is_tuple_of) (W.k_power_of) (W.kx_BadField)
  assumption
theorem Wd.k_is_point (W : Wd K h base mg) : FK (GK K) P w K mg base "is_point" 2 m_is_point 4 := by
  obtain ⟨fd, F⟩ := W.F_is_point
  refine fk_of (st := top 16) (g := g_is_point) F (W.hf "is_point" (by decide +kernel)) W.sys sc_is_point rfl (fun _ _ => rfl) (fun _ _ _ _ _ _ us hl => match us, hl with | [_, _], _ => rfl) ?_
  intro cdv A outer s H E e9 rm ok
  have h1 := @b_is_point P w K mg base (He.fAd K ("is_point", none)) cdv A outer s H E W.b W.ns ok rm (W.k_are_rests)
  assumption
theorem Wd.k_need_point (W : Wd K h base mg) : FK (GK K) P w K mg base "need_point" 2 m_need_point 5 := by
  obtain ⟨fd, F⟩ := W.F_need_point
  refine fk_of (st := top 17) (g := g_need_point) F (W.hf "need_point" (by decide +kernel)) W.sys sc_need_point rfl (fun _ _ => rfl) (fun _ _ _ _ _ _ us hl => match us, hl with | [_, _], _ => rfl) ?_
  intro cdv A outer s H E e9 rm ok
  have h1 := @b_need_point P w K mg base (He.fAd K ("need_point", none)) cdv A outer s H E W.b W.ns ok rm (W.k_is_point) (W.k_need_field) (W.kx_BadPoint)
  assumption
theorem Wd.k_points (W : Wd K h base mg) : FK (GK K) P w K mg base "points" 1 m_points 4 := by
  obtain ⟨fd, F⟩ := W.F_points
  refine fk_of (st := top 18) (g := g_points) F (W.hf "points" (by decide +kernel)) W.sys sc_points rfl (fun _ _ => rfl) (fun _ _ _ _ _ _ us hl => match us, hl with | [_], _ => rfl) ?_
  intro cdv A outer s H E e9 rm ok
  have h1 := @b_points P w K mg base (He.fAd K ("points", none)) cdv A outer s H E W.b W.ns ok rm (W.k_need_field)
  assumption
theorem Wd.k__are_powers (W : Wd K h base mg) : FK (GK K) P w K mg base "_are_powers" 2 m__are_powers 3 := by
  obtain ⟨fd, F⟩ := W.F__are_powers
  refine fk_of (st := top 22) (g := g__are_powers) F (W.hf "_are_powers" (by decide +kernel)) W.sys sc__are_powers rfl (fun _ _ => rfl) (fun _ _ _ _ _ _ us hl => match us, hl with | [_, _], _ => rfl) ?_
  intro cdv A outer s H E e9 rm ok
  have h1 := @b__are_powers P w K mg base (He.fAd K ("_are_powers", none)) cdv A outer s H E W.b W.ns ok rm (W.kc_MOST_POWER) (W.k_is_integer_in) (W.k_is_tuple_of)
  assumption
theorem Wd.k__is_term (W : Wd K h base mg) : FK (GK K) P w K mg base "_is_term" 2 m__is_term 4 := by
  obtain ⟨fd, F⟩ := W.F__is_term
  refine fk_of (st := top 23) (g := g__is_term) F (W.hf "_is_term" (by decide +kernel)) W.sys sc__is_term rfl (fun _ _ => rfl) (fun _ _ _ _ _ _ us hl => match us, hl with | [_, _], _ => rfl) ?_
  intro cdv A outer s H E e9 rm ok
  have h1 := @b__is_term P w K mg base (He.fAd K ("_is_term", none)) cdv A outer s H E W.b W.ns ok rm (W.k__are_powers) (W.k_is_integer_in) (W.k_is_tuple_of)
  assumption
theorem Wd.k_poly_fault (W : Wd K h base mg) : FK (GK K) P w K mg base "poly_fault" 2 m_poly_fault 5 := by
  obtain ⟨fd, F⟩ := W.F_poly_fault
  refine fk_of (st := top 24) (g := g_poly_fault) F (W.hf "poly_fault" (by decide +kernel)) W.sys sc_poly_fault rfl (fun _ _ => rfl) (fun _ _ _ _ _ _ us hl => match us, hl with | [_, _], _ => rfl) ?_
  intro cdv A outer s H E e9 rm ok
  have h1 := @b_poly_fault P w K mg base (He.fAd K ("poly_fault", none)) cdv A outer s H E W.b W.ns ok rm (W.kc_MOST_TERMS) (W.k__is_term)
  assumption
theorem Wd.k_need_poly (W : Wd K h base mg) : FK (GK K) P w K mg base "need_poly" 2 m_need_poly 6 := by
  obtain ⟨fd, F⟩ := W.F_need_poly
  refine fk_of (st := top 25) (g := g_need_poly) F (W.hf "need_poly" (by decide +kernel)) W.sys sc_need_poly rfl (fun _ _ => rfl) (fun _ _ _ _ _ _ us hl => match us, hl with | [_, _], _ => rfl) ?_
  intro cdv A outer s H E e9 rm ok
  have h1 := @b_need_poly P w K mg base (He.fAd K ("need_poly", none)) cdv A outer s H E W.b W.ns ok rm (W.k_need_field) (W.k_poly_fault) (W.kx_BadPoly)
  assumption
theorem Wd.k_value_at (W : Wd K h base mg) : FK (GK K) P w K mg base "value_at" 3 m_value_at 7 := by
  obtain ⟨fd, F⟩ := W.F_value_at
  refine fk_of (st := top 26) (g := g_value_at) F (W.hf "value_at" (by decide +kernel)) W.sys sc_value_at rfl (fun _ _ => rfl) (fun _ _ _ _ _ _ us hl => match us, hl with | [_, _, _], _ => rfl) ?_
  intro cdv A outer s H E e9 rm ok
  have h1 := @b_value_at P w K mg base (He.fAd K ("value_at", none)) cdv A outer s H E W.b W.ns ok rm (W.k_need_point) (W.k_need_poly) (W.k_power_of)
  assumption
theorem Wd.k__along_each_unknown (W : Wd K h base mg) : FK (GK K) P w K mg base "_along_each_unknown" 3 m__along_each_unknown 1 := by
  obtain ⟨fd, F⟩ := W.F__along_each_unknown
  refine fk_of (st := top 32) (g := g__along_each_unknown) F (W.hf "_along_each_unknown" (by decide +kernel)) W.sys sc__along_each_unknown rfl (fun _ _ => rfl) (fun _ _ _ _ _ _ us hl => match us, hl with | [_, _, _], _ => rfl) ?_
  intro cdv A outer s H E e9 rm ok
  have h1 := @b__along_each_unknown P w K mg base (He.fAd K ("_along_each_unknown", none)) cdv A outer s H E W.b W.ns ok rm
  assumption
theorem Wd.k__lessened (W : Wd K h base mg) : FK (GK K) P w K mg base "_lessened" 2 m__lessened 1 := by
  obtain ⟨fd, F⟩ := W.F__lessened
  refine fk_of (st := top 29) (g := g__lessened) F (W.hf "_lessened" (by decide +kernel)) W.sys sc__lessened rfl (fun _ _ => rfl) (fun _ _ _ _ _ _ us hl => match us, hl with | [_, _], _ => rfl) ?_
  intro cdv A outer s H E e9 rm ok
  have h1 := @b__lessened P w K mg base (He.fAd K ("_lessened", none)) cdv A outer s H E W.b W.ns ok rm
  assumption
theorem Wd.k__factors (W : Wd K h base mg) : FK (GK K) P w K mg base "_factors" 2 m__factors 2 := by
  obtain ⟨fd, F⟩ := W.F__factors
  refine fk_of (st := top 30) (g := g__factors) F (W.hf "_factors" (by decide +kernel)) W.sys sc__factors rfl (fun _ _ => rfl) (fun _ _ _ _ _ _ us hl => match us, hl with | [_, _], _ => rfl) ?_
  intro cdv A outer s H E e9 rm ok
  have h1 := @b__factors P w K mg base (He.fAd K ("_factors", none)) cdv A outer s H E W.b W.ns ok rm (W.k__lessened) (W.k_power_of)
  assumption
theorem Wd.k__table_of_values (W : Wd K h base mg) : FK (GK K) P w K mg base "_table_of_values" 1 m__table_of_values 2 := by
  obtain ⟨fd, F⟩ := W.F__table_of_values
  refine fk_of (st := top 31) (g := g__table_of_values) F (W.hf "_table_of_values" (by decide +kernel)) W.sys sc__table_of_values rfl (fun _ _ => rfl) (fun _ _ _ _ _ _ us hl => match us, hl with | [_], _ => rfl) ?_
  intro cdv A outer s H E e9 rm ok
  have h1 := @b__table_of_values P w K mg base (He.fAd K ("_table_of_values", none)) cdv A outer s H E W.b W.ns ok rm (W.k_power_of)
  assumption
theorem Wd.k_values (W : Wd K h base mg) : FK (GK K) P w K mg base "values" 2 m_values 7 := by
  obtain ⟨fd, F⟩ := W.F_values
  refine fk_of (st := top 27) (g := g_values) F (W.hf "values" (by decide +kernel)) W.sys sc_values rfl (fun _ _ => rfl) (fun _ _ _ _ _ _ us hl => match us, hl with | [_, _], _ => rfl) ?_
  intro cdv A outer s H E e9 rm ok
  have h1 := @b_values P w K mg base (He.fAd K ("values", none)) cdv A outer s H E W.b W.ns ok rm (W.k__along_each_unknown) (W.k__factors) (W.k__table_of_values) (W.k_need_poly)
  assumption
theorem Wd.k_degree (W : Wd K h base mg) : FK (GK K) P w K mg base "degree" 2 m_degree 7 := by
  obtain ⟨fd, F⟩ := W.F_degree
  refine fk_of (st := top 28) (g := g_degree) F (W.hf "degree" (by decide +kernel)) W.sys sc_degree rfl (fun _ _ => rfl) (fun _ _ _ _ _ _ us hl => match us, hl with | [_, _], _ => rfl) ?_
  intro cdv A outer s H E e9 rm ok
  have h1 := @b_degree P w K mg base (He.fAd K ("degree", none)) cdv A outer s H E W.b W.ns ok rm (W.k_need_poly)
  assumption
theorem Wd.k__law_begun (W : Wd K h base mg) : FK (GK K) P w K mg base "_law_begun" 2 m__law_begun 1 := by
  obtain ⟨fd, F⟩ := W.F__law_begun
  refine fk_of (st := top 34) (g := g__law_begun) F (W.hf "_law_begun" (by decide +kernel)) W.sys sc__law_begun rfl (fun _ _ => rfl) (fun _ _ _ _ _ _ us hl => match us, hl with | [_, _], _ => rfl) ?_
  intro cdv A outer s H E e9 rm ok
  have h1 := @b__law_begun P w K mg base (He.fAd K ("_law_begun", none)) cdv A outer s H E W.b W.ns ok rm
  assumption
theorem Wd.k__law_draw (W : Wd K h base mg) : FK (GK K) P w K mg base "_law_draw" 2 m__law_draw 1 := by
  obtain ⟨fd, F⟩ := W.F__law_draw
  refine fk_of (st := top 35) (g := g__law_draw) F (W.hf "_law_draw" (by decide +kernel)) W.sys sc__law_draw rfl (fun _ _ => rfl) (fun _ _ _ _ _ _ us hl => match us, hl with | [_, _], _ => rfl) ?_
  intro cdv A outer s H E e9 rm ok
  have h1 := @b__law_draw P w K mg base (He.fAd K ("_law_draw", none)) cdv A outer s H E W.b W.ns ok rm
  assumption
theorem Wd.k__law_of (W : Wd K h base mg) : FK (GK K) P w K mg base "_law_of" 2 m__law_of 2 := by
  obtain ⟨fd, F⟩ := W.F__law_of
  refine fk_of (st := top 36) (g := g__law_of) F (W.hf "_law_of" (by decide +kernel)) W.sys sc__law_of rfl (fun _ _ => rfl) (fun _ _ _ _ _ _ us hl => match us, hl with | [_, _], _ => rfl) ?_
  intro cdv A outer s H E e9 rm ok
  have h1 := @b__law_of P w K mg base (He.fAd K ("_law_of", none)) cdv A outer s H E W.b W.ns ok rm (W.k__law_draw)
  assumption
theorem Wd.k__law_size (W : Wd K h base mg) : FK (GK K) P w K mg base "_law_size" 1 m__law_size 1 := by
  obtain ⟨fd, F⟩ := W.F__law_size
  refine fk_of (st := top 38) (g := g__law_size) F (W.hf "_law_size" (by decide +kernel)) W.sys sc__law_size rfl (fun _ _ => rfl) (fun _ _ _ _ _ _ us hl => match us, hl with | [_], _ => rfl) ?_
  intro cdv A outer s H E e9 rm ok
  have h1 := @b__law_size P w K mg base (He.fAd K ("_law_size", none)) cdv A outer s H E W.b W.ns ok rm
  assumption
theorem Wd.k__law_frame (W : Wd K h base mg) : FK (GK K) P w K mg base "_law_frame" 2 m__law_frame 3 := by
  obtain ⟨fd, F⟩ := W.F__law_frame
  refine fk_of (st := top 37) (g := g__law_frame) F (W.hf "_law_frame" (by decide +kernel)) W.sys sc__law_frame rfl (fun _ _ => rfl) (fun _ _ _ _ _ _ us hl => match us, hl with | [_, _], _ => rfl) ?_
  intro cdv A outer s H E e9 rm ok
  have h1 := @b__law_frame P w K mg base (He.fAd K ("_law_frame", none)) cdv A outer s H E W.b W.ns ok rm (W.k__law_of) (W.k__law_size)
  assumption
theorem Wd.k__law_spots (W : Wd K h base mg) : FK (GK K) P w K mg base "_law_spots" 1 m__law_spots 1 := by
  obtain ⟨fd, F⟩ := W.F__law_spots
  refine fk_of (st := top 39) (g := g__law_spots) F (W.hf "_law_spots" (by decide +kernel)) W.sys sc__law_spots rfl (fun _ _ => rfl) (fun _ _ _ _ _ _ us hl => match us, hl with | [_], _ => rfl) ?_
  intro cdv A outer s H E e9 rm ok
  have h1 := @b__law_spots P w K mg base (He.fAd K ("_law_spots", none)) cdv A outer s H E W.b W.ns ok rm
  assumption
theorem Wd.k__law_sheet (W : Wd K h base mg) : FK (GK K) P w K mg base "_law_sheet" 4 m__law_sheet 2 := by
  obtain ⟨fd, F⟩ := W.F__law_sheet
  refine fk_of (st := top 40) (g := g__law_sheet) F (W.hf "_law_sheet" (by decide +kernel)) W.sys sc__law_sheet rfl (fun _ _ => rfl) (fun _ _ _ _ _ _ us hl => match us, hl with | [_, _, _, _], _ => rfl) ?_
  intro cdv A outer s H E e9 rm ok
  have h1 := @b__law_sheet P w K mg base (He.fAd K ("_law_sheet", none)) cdv A outer s H E W.b W.ns ok rm (W.k__law_draw)
  assumption
theorem Wd.k__law_high (W : Wd K h base mg) : FK (GK K) P w K mg base "_law_high" 1 m__law_high 1 := by
  obtain ⟨fd, F⟩ := W.F__law_high
  refine fk_of (st := top 41) (g := g__law_high) F (W.hf "_law_high" (by decide +kernel)) W.sys sc__law_high rfl (fun _ _ => rfl) (fun _ _ _ _ _ _ us hl => match us, hl with | [_], _ => rfl) ?_
  intro cdv A outer s H E e9 rm ok
  have h1 := @b__law_high P w K mg base (He.fAd K ("_law_high", none)) cdv A outer s H E W.b W.ns ok rm
  assumption
theorem Wd.k__law_raised (W : Wd K h base mg) : FK (GK K) P w K mg base "_law_raised" 3 m__law_raised 1 := by
  obtain ⟨fd, F⟩ := W.F__law_raised
  refine fk_of (st := top 42) (g := g__law_raised) F (W.hf "_law_raised" (by decide +kernel)) W.sys sc__law_raised rfl (fun _ _ => rfl) (fun _ _ _ _ _ _ us hl => match us, hl with | [_, _, _], _ => rfl) ?_
  intro cdv A outer s H E e9 rm ok
  have h1 := @b__law_raised P w K mg base (He.fAd K ("_law_raised", none)) cdv A outer s H E W.b W.ns ok rm
  assumption
theorem Wd.k__law_worth (W : Wd K h base mg) : FK (GK K) P w K mg base "_law_worth" 3 m__law_worth 2 := by
  obtain ⟨fd, F⟩ := W.F__law_worth
  refine fk_of (st := top 43) (g := g__law_worth) F (W.hf "_law_worth" (by decide +kernel)) W.sys sc__law_worth rfl (fun _ _ => rfl) (fun _ _ _ _ _ _ us hl => match us, hl with | [_, _, _], _ => rfl) ?_
  intro cdv A outer s H E e9 rm ok
  have h1 := @b__law_worth P w K mg base (He.fAd K ("_law_worth", none)) cdv A outer s H E W.b W.ns ok rm (W.k__law_raised)
  assumption
theorem Wd.k__law_sheet_right (W : Wd K h base mg) : FK (GK K) P w K mg base "_law_sheet_right" 3 m__law_sheet_right 8 := by
  obtain ⟨fd, F⟩ := W.F__law_sheet_right
  refine fk_of (st := top 44) (g := g__law_sheet_right) F (W.hf "_law_sheet_right" (by decide +kernel)) W.sys sc__law_sheet_right rfl (fun _ _ => rfl) (fun _ _ _ _ _ _ us hl => match us, hl with | [_, _, _], _ => rfl) ?_
  intro cdv A outer s H E e9 rm ok
  have h1 := @b__law_sheet_right P w K mg base (He.fAd K ("_law_sheet_right", none)) cdv A outer s H E W.b W.ns ok rm (W.k__law_draw) (W.k__law_high) (W.k__law_spots) (W.k__law_worth) (W.k_degree) (W.k_value_at) (W.k_values)
  assumption
theorem Wd.k__law_points_right (W : Wd K h base mg) : FK (GK K) P w K mg base "_law_points_right" 1 m__law_points_right 5 := by
  obtain ⟨fd, F⟩ := W.F__law_points_right
  refine fk_of (st := top 45) (g := g__law_points_right) F (W.hf "_law_points_right" (by decide +kernel)) W.sys sc__law_points_right rfl (fun _ _ => rfl) (fun _ _ _ _ _ _ us hl => match us, hl with | [_], _ => rfl) ?_
  intro cdv A outer s H E e9 rm ok
  have h1 := @b__law_points_right P w K mg base (He.fAd K ("_law_points_right", none)) cdv A outer s H E W.b W.ns ok rm (W.k__law_spots) (W.k_points)
  assumption
theorem Wd.k__law_hand_right (W : Wd K h base mg) : FK (GK K) P w K mg base "_law_hand_right" 0 m__law_hand_right 8 := by
  obtain ⟨fd, F⟩ := W.F__law_hand_right
  refine fk_of (st := top 46) (g := g__law_hand_right) F (W.hf "_law_hand_right" (by decide +kernel)) W.sys sc__law_hand_right rfl (fun _ _ => rfl) (fun _ _ _ _ _ _ us hl => match us, hl with | [], _ => rfl) ?_
  intro cdv A outer s H E e9 rm ok
  have h1 := @b__law_hand_right P w K mg base (He.fAd K ("_law_hand_right", none)) cdv A outer s H E W.b W.ns ok rm (W.k__law_spots) (W.k_degree) (W.k_points) (W.k_value_at) (W.k_values)
  assumption
theorem Wd.law (W : Wd K h base mg) {fd : FuncData} (F : FunD K "law" "law" (defArgs (top 47)) (defBody (top 47)) (defScope (top 47)) [] [] (He.fAd K ("law", none)) fd) : FnG P w K mg base 9 (He.fAd K ("law", none)) fd ["script"] (spM (GK K) K 1 m_law) := by
  refine fg_of (st := top 47) (n := 1) (g := g_law) F W.sys sc_law rfl (fun _ _ => rfl) ?_
  intro cdv A outer s H E e9 rm ok
  have h1 := @b_law P w K mg base (He.fAd K ("law", none)) cdv A outer s H E W.b W.ns ok rm (W.k__law_begun) (W.k__law_frame) (W.k__law_hand_right) (W.k__law_points_right) (W.k__law_sheet) (W.k__law_sheet_right) (W.k__law_size)
  assumption
end
theorem facts {P : Program} {w : World} {K : PySem.W.Frag} {h : Heap} {mg : Str → Option Value} (X : K.In h) (G : h.Ns mainGlobals mg) (c : SaysP faT fnT (lamDefs.map fun z => (z, none)) exT h K) (base0 : Heap) (tb0 : ∀ z ∈ lamDefs, TabB base0 mg (He.cT K (z, none)).1 (He.cT K (z, none)).2) : True := trivial
end Pi
namespace Pi
open PySem PySem.Spec PyProof.Rows L2 LamX
abbrev lawT : PySem.W.OpenLaw := PySem.Challenge.rw_primezeros_k02_whole_values
def loose0 : List Str := ["is_integer", "is_integer_in", "is_prime", "is_tuple_of", "are_rests", "power_of", "need_field", "is_point", "need_point", "points", "_are_powers", "_is_term", "poly_fault", "need_poly", "value_at", "_along_each_unknown", "_lessened", "_factors", "_table_of_values", "values", "degree", "_law_begun", "_law_draw", "_law_of", "_law_size", "_law_frame", "_law_spots", "_law_sheet", "_law_high", "_law_raised"]
def loose1 : List Str := ["_law_worth", "_law_sheet_right", "_law_points_right", "_law_hand_right", "RestError", "BadField", "BadPoly", "BadPoint", "PRIMES", "MOST_UNKNOWNS", "MOST_POINTS", "MOST_TERMS", "MOST_POWER"]
abbrev looseT : List Str := loose0 ++ loose1
abbrev rowT : PySem.W.OpenRow := PySem.W.OpenLaw.row lawT
abbrev hkT : PySem.W.Hook := hookP 5 faT fnT (lamDefs.map fun z => (z, none)) exT
def obT (s : PySem.W.SharedT) : AlP := obsP 5 faT fnT (lamDefs.map fun z => (z, none)) exT (HandSHeadRun.getT s)
theorem obT_eq (s : PySem.W.SharedT) : obT s = hkT.obs s.abs := obsP_eq (HandSHeadRun.getT_eq s)
theorem runT (w : World) : HandSHeadRun.RunEq rowT (PySem.W.view rowT.prog [47]) hkT obT 60000 looseT w := by
  intro os
  kernel_rfl
end Pi
open PySem PySem.W PySem.Calls PyProof.Rows
theorem claimT (math : ∀ ns : List Int, ns.length ≤ 63 → (∀ z ∈ ns, Builtin.Int.intBits z ≤ 1048576) → ∃ st, Pi.m_law [.kls (ns.map .int)] [] = .ok (.bl true) st) : PySem.Challenge.rw_primezeros_k02_whole_values.Holds := by
  w_on; o_law
  refine HandSHeadRun.head_any (r := Pi.rowT) (q := view Pi.rowT.prog [47]) (H := Pi.hkT) (ob := Pi.obT) (M := 60000) (loose := Pi.looseT) (d := HandSHeadRun.topDef Pi.rowT.prog 47) (kwd := []) Pi.obT_eq
    (by kernel_rfl) (fun s => by kernel_rfl) Pi.runT (by kernel_rfl) (by kernel_rfl) (by kernel_rfl) (by rfl) (by first | assumption | decide +kernel) (by decide +kernel) ⟨rfl, rfl, rfl, rfl, rfl, by decide +kernel⟩ ?hw ?hc
  case hw => w_witness2
  case hc =>
    refine Pi.walkG (l := Pi.lawT) (n := 63) (k := 9) (x := "script") rfl (by decide) (by kernel_rfl) ⟨rfl, by decide, by decide⟩ ?F
    intro w mg fa h Y G hmg0
    obtain ⟨K, KX, c⟩ := Y
    obtain ⟨fd, F⟩ : ∃ fd, L2.FunD K "law" "law" (Pi.dd_law).params (Pi.dd_law).body (Pi.dd_law).scope [] [] (He.fAd K ("law", none)) fd := c.d.def_ 34 (d := Pi.dd_law) rfl
    have hm : mg ("law" : PySem.Str) = some (.ref (He.fAd K ("law", none))) := He.glo_ok KX G (c.d.facts (f := .glo "law") (List.mem_append_left _ (List.mem_map.mpr ⟨"law", by decide +kernel, rfl⟩)))
    have hmg : mg ("law" : PySem.Str) = some (.ref fa) := by
      have e : (HandSHeadRun.topDef Pi.rowT.prog 47).name = ("law" : PySem.Str) := by kernel_rfl
      rw [← e]
      exact hmg0
    have e := hmg.symm.trans hm
    cases e
    exact ⟨K, KX, Pi.lawG_of (st := Pi.top 47) (ls := Pi.lamDefs) (G := Pi.GK K) (m := Pi.m_law) KX c rfl F (fun _ _ _ _ _ _ us hl => match us, hl with | [_], _ => rfl) (fun base _ _ tb => Pi.Wd.law (h := h) ⟨KX, G, c, tb⟩ F) math⟩
set_option maxRecDepth 100000 in
set_option maxHeartbeats 8000000 in
theorem PySem.Challenge.cw_primezeros_k02_whole_values_holds : PySem.Challenge.rw_primezeros_k02_whole_values.Holds := by
  exact claimT fun ns hl _ => Pi.law_k02 ns hl
