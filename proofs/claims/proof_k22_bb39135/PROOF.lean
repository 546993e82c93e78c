import PyProof.Rows.All
import Wide.All
import OpenK.AllK
import Wide.FinOn
import HandS.ForMost
import HandS.ForExc
import HandS.CallSlots
import HandS.Lambda
import HandS.HeadHook1
import HandS.ExcIs
import HandS.ExcField
import HandS.Words
import HandS.TupAny
import HandS.TupMul
import HandS.TupLe
import HandS.Defaults
import HandS.Dict
import HandS.ExcInit
import HandS.WordsExc
import HandS.IsInst
import HandS.TryMany
import HandS.Zip
import KE.GoesMore
import HandS.TupSets
import HandS.Conv
import HandS.SortKw
import KE.DatumOrd
import HandS.HeadHook4
import HandS.Style
import HandS.NestedK
import HandS.EndTab
import HandS.HeadWalk
import KE.DataEq
import KE.KTupSum
import HandS.SortOrd
import HandS.SortRule
import PyProof.StrOps2
import KE.KDictZip
import HandS.Star
import HandS.RepeatKit
import HandS.DictComp
import HandS.Iter
import HandS.DictTup
import HandS.ReCall
import KE.KDictWalk
import KE.KDictDisplayH
import KE.KDictOf
import KE.KDictPairs
import KE.KDictKeyed
import KE.KDictCopyH
import KE.SortKeyHeap
import KE.KExcInit
import HandS.ExcOwn
import KE.KExcStr
import HandS.HotCalls
import HandS.HeadEnd
import HandS.Head2
import HandS.Head3
import PyProof.FitsInt
import PySem.Challenge.RW_primezeros_k22_exceptions
set_option Elab.async false
set_option linter.all false
set_option maxRecDepth 100000
set_option maxHeartbeats 2000000
namespace Pi
open PySem PySem.Spec PyProof.Rows L2

inductive D where
  | non | bl (b : Bool) | int (i : Int) | str (x : Str) | tup (xs : List D) | lst (xs : List D) | dct (kvs : List (Key × D)) | obj (n : Nat) | exc (n f : Str) (x : D) | ktp (xs : List D) | kls (xs : List D) | dcx (kvs : List (List Key × D)) | bex (n x : Str)
  deriving Inhabited

def keyPy : Key → PyData
  | .inl i => .int i
  | .inr s => .str s
mutual
def D.py : D → PyData
  | .non => .none
  | .bl b => .bool b
  | .int i => .int i
  | .str x => .str x
  | .tup xs => .tuple (D.pyAll xs)
  | .lst xs => .list (D.pyAll xs)
  | .dct kvs => .dict (D.pyKv kvs)
  | .obj _ => .none
  | .exc _ _ _ => .none
  | .ktp xs => .tuple (D.pyAll xs)
  | .kls _ => .none
  | .dcx _ => .none
  | .bex _ _ => .none
def D.pyAll : List D → List PyData
  | [] => []
  | x :: xs => D.py x :: D.pyAll xs
def D.pyKv : List (Key × D) → List (PyData × PyData)
  | [] => []
  | (k, x) :: xs => (keyPy k, D.py x) :: D.pyKv xs
end
mutual
def D.still : D → Bool
  | .tup xs => D.stillAll xs
  | .lst xs => D.stillAll xs
  | .dct kvs => D.stillKv kvs
  | .obj _ => false
  | .exc _ _ _ => false
  | .ktp xs => D.stillAll xs
  | .kls _ => false
  | .dcx _ => false
  | .bex _ _ => false
  | _ => true
def D.stillAll : List D → Bool
  | [] => true
  | x :: xs => D.still x && D.stillAll xs
def D.stillKv : List (Key × D) → Bool
  | [] => true
  | (_, x) :: xs => D.still x && D.stillKv xs
end

def ExcO (cls : Value) (d a : Addr) : HO := .ext fun h => ∃ (oe : Obj) (vs : Array Value), h.get? a = some oe ∧ Zc cls (some d) oe ∧ oe.data = .fields vs
def BexO (cls : Value) (t a : Addr) : HO := .ext fun h => ∃ (oe : Obj) (vs : Array Value), h.get? a = some oe ∧ Zc cls none oe ∧ oe.data = .fields vs ∧ vs[0]? = some (.ref t)
mutual
inductive Rep (K : PySem.W.Frag) (F : Hp) (al : List Addr) : V → D → Prop
  | non : Rep K F al .non .non
  | bl (b : Bool) : Rep K F al (.bl b) (.bl b)
  | int (i : Int) : Rep K F al (.int i) (.int i)
  | str (x : Str) : Rep K F al (.str x) (.str x)
  | lst {a : Addr} {xs : List V} {ds : List D} : F a = some (.lst xs) → RepAll K F al xs ds → Rep K F al (.ref a) (.lst ds)
  | tup {a : Addr} {xs : List V} {ds : List D} : F a = some (.tup xs) → RepAll K F al xs ds → Rep K F al (.ref a) (.tup ds)
  | ktp {a : Addr} {xs : List V} {ds : List D} : SqT K (fun _ => none) a xs → RepAll K F al xs ds → Rep K F al (.ref a) (.ktp ds)
  | kls {a : Addr} {xs : List V} {ds : List D} : SqL K F a xs → RepAll K F al xs ds → Rep K F al (.ref a) (.kls ds)
  | dcx {a : Addr} {o : Obj} {kvs : List (List Key × V)} {ds : List (List Key × D)} : F a = some (.frz o (.dT kvs)) → RepKx K F al kvs ds → Rep K F al (.ref a) (.dcx ds)
  | dct {a : Addr} {kvs : List (Key × V)} {ds : List (Key × D)} : F a = some (.dK kvs) → RepKv K F al kvs ds → Rep K F al (.ref a) (.dct ds)
  | obj {a : Addr} {n : Nat} : al[n]? = some a → Rep K F al (.ref a) (.obj n)
  | exc {a d : Addr} {n f : Str} {v : V} {x : D} : F a = some (ExcO (.ref (He.ga K n)) d a) → F d = some (.xd [(f, v)]) → Rep K F al v x → Rep K F al (.ref a) (.exc n f x)
  | bex {a t : Addr} {n x : Str} : F a = some (BexO (.ref (He.ga K n)) t a) → F t = some (.tup [.str x]) → Rep K F al (.ref a) (.bex n x)
inductive RepAll (K : PySem.W.Frag) (F : Hp) (al : List Addr) : List V → List D → Prop
  | nil : RepAll K F al [] []
  | cons {v : V} {vs : List V} {d : D} {ds : List D} : Rep K F al v d → RepAll K F al vs ds → RepAll K F al (v :: vs) (d :: ds)
inductive RepKv (K : PySem.W.Frag) (F : Hp) (al : List Addr) : List (Key × V) → List (Key × D) → Prop
  | nil : RepKv K F al [] []
  | cons {k : Key} {v : V} {vs : List (Key × V)} {d : D} {ds : List (Key × D)} : Rep K F al v d → RepKv K F al vs ds → RepKv K F al ((k, v) :: vs) ((k, d) :: ds)
/-- a dict whose keys are tuples, standing still: each key's own tuple stands still, too -/
inductive RepKx (K : PySem.W.Frag) (F : Hp) (al : List Addr) : List (List Key × V) → List (List Key × D) → Prop
  | nil : RepKx K F al [] []
  | cons {k : List Key} {v : V} {vs : List (List Key × V)} {d : D} {ds : List (List Key × D)} : Rep K F al v d → RepKx K F al vs ds → RepKx K F al ((k, v) :: vs) ((k, d) :: ds)
end
theorem Same.seqT {K : PySem.W.Frag} {H H' : Hp} {a : Addr} {xs : List V} (e : Same H H') (h : SqT K H a xs) : SqT K H' a xs := by
  rcases h with (h | ⟨o, h⟩) | h
  · exact .inl (.inl (e _ _ h))
  · exact .inl (.inr ⟨o, e _ _ h⟩)
  · exact .inr h
theorem sqT_k {K : PySem.W.Frag} {H : Hp} {a : Addr} {xs : List V} (h : SqT K (fun _ => none) a xs) : SqT K H a xs := Same.seqT (fun _ _ e => by cases e) h
section
variable {K : PySem.W.Frag} {F F' : Hp} {al al' : List Addr}
theorem pre_get {n : Nat} {a : Addr} (p : ∃ b, al' = al ++ b) (h : al[n]? = some a) : al'[n]? = some a := by
  obtain ⟨b, rfl⟩ := p
  rw [List.getElem?_append_left (List.getElem?_eq_some_iff.mp h).1]
  exact h
mutual
theorem Rep.mono (e : Same F F') (p : ∃ b, al' = al ++ b) : ∀ {v : V} {d : D}, Rep K F al v d → Rep K F' al' v d
  | _, _, .non => .non
  | _, _, .bl b => .bl b
  | _, _, .int i => .int i
  | _, _, .str x => .str x
  | _, _, .lst h r => .lst (e _ _ h) (RepAll.mono e p r)
  | _, _, .tup h r => .tup (e _ _ h) (RepAll.mono e p r)
  | _, _, .ktp h r => .ktp h (RepAll.mono e p r)
  | _, _, .kls h r => .kls (Same.seq e h) (RepAll.mono e p r)
  | _, _, .dcx h r => .dcx (e _ _ h) (RepKx.mono e p r)
  | _, _, .dct h r => .dct (e _ _ h) (RepKv.mono e p r)
  | _, _, .obj h => .obj (pre_get p h)
  | _, _, .exc h1 h2 r => .exc (e _ _ h1) (e _ _ h2) (Rep.mono e p r)
  | _, _, .bex h1 h2 => .bex (e _ _ h1) (e _ _ h2)
theorem RepAll.mono (e : Same F F') (p : ∃ b, al' = al ++ b) : ∀ {v : List V} {d : List D}, RepAll K F al v d → RepAll K F' al' v d
  | _, _, .nil => .nil
  | _, _, .cons r t => .cons (Rep.mono e p r) (RepAll.mono e p t)
theorem RepKv.mono (e : Same F F') (p : ∃ b, al' = al ++ b) : ∀ {v : List (Key × V)} {d : List (Key × D)}, RepKv K F al v d → RepKv K F' al' v d
  | _, _, .nil => .nil
  | _, _, .cons r t => .cons (Rep.mono e p r) (RepKv.mono e p t)
theorem RepKx.mono (e : Same F F') (p : ∃ b, al' = al ++ b) : ∀ {v : List (List Key × V)} {d : List (List Key × D)}, RepKx K F al v d → RepKx K F' al' v d
  | _, _, .nil => .nil
  | _, _, .cons r t => .cons (Rep.mono e p r) (RepKx.mono e p t)
end
theorem RepAll.length : ∀ {v : List V} {d : List D}, RepAll K F al v d → v.length = d.length
  | _, _, .nil => rfl
  | _, _, .cons _ t => congrArg (· + 1) (RepAll.length t)
theorem RepAll.get : ∀ {v : List V} {d : List D} {i : Nat} {x : D}, RepAll K F al v d → d[i]? = some x → ∃ u, v[i]? = some u ∧ Rep K F al u x
  | _, _, _, _, .nil, e => by simp at e
  | _, _, 0, _, .cons r _, e => by simp at e; subst e; exact ⟨_, rfl, r⟩
  | _, _, i + 1, x, .cons _ t, e => by
    obtain ⟨u, h1, h2⟩ := RepAll.get (i := i) (x := x) t (by simpa using e)
    exact ⟨u, by simpa using h1, h2⟩
theorem RepAll.append : ∀ {v w : List V} {d e : List D}, RepAll K F al v d → RepAll K F al w e → RepAll K F al (v ++ w) (d ++ e)
  | _, _, _, _, .nil, s => s
  | _, _, _, _, .cons r t, s => .cons r (RepAll.append t s)
theorem RepAll.take : ∀ {v : List V} {d : List D} (n : Nat), RepAll K F al v d → RepAll K F al (v.take n) (d.take n)
  | _, _, 0, _ => .nil
  | _, _, _ + 1, .nil => .nil
  | _, _, n + 1, .cons r t => .cons r (RepAll.take n t)
theorem RepAll.drop : ∀ {v : List V} {d : List D} (n : Nat), RepAll K F al v d → RepAll K F al (v.drop n) (d.drop n)
  | _, _, 0, r => r
  | _, _, _ + 1, .nil => .nil
  | _, _, n + 1, .cons _ t => RepAll.drop n t
theorem RepAll.reverse : ∀ {v : List V} {d : List D}, RepAll K F al v d → RepAll K F al v.reverse d.reverse
  | _, _, .nil => .nil
  | _, _, .cons r t => by
    rw [List.reverse_cons, List.reverse_cons]
    exact (RepAll.reverse t).append (.cons r .nil)
theorem RepAll.set {x : V} {y : D} (r : Rep K F al x y) : ∀ {v : List V} {d : List D} (i : Nat), RepAll K F al v d → RepAll K F al (v.set i x) (d.set i y)
  | _, _, _, .nil => .nil
  | _, _, 0, .cons _ t => .cons r t
  | _, _, i + 1, .cons q t => .cons q (RepAll.set r i t)
theorem RepAll.snoc {v : List V} {d : List D} {x : V} {y : D} (h : RepAll K F al v d) (r : Rep K F al x y) : RepAll K F al (v ++ [x]) (d ++ [y]) := h.append (.cons r .nil)
theorem RepAll.cons_inv {v : List V} {d : D} {ds : List D} (h : RepAll K F al v (d :: ds)) : ∃ x xs, v = x :: xs ∧ Rep K F al x d ∧ RepAll K F al xs ds := by
  cases h with
  | cons r t => exact ⟨_, _, rfl, r, t⟩
theorem RepAll.nil_inv {v : List V} (h : RepAll K F al v []) : v = [] := by
  cases h
  rfl
end

inductive Tag where
  | frz | own | wld
  deriving DecidableEq
abbrev Tg := Addr → Option Tag
def NT (o : HO) : Prop := ∀ ps, o ≠ .tbl ps
def ntb : Option HO → Option HO
  | some (.tbl _) => none
  | o => o
theorem ntb_some {x : Option HO} {o : HO} (h : ntb x = some o) : x = some o ∧ NT o := by
  unfold ntb at h
  split at h
  · cases h
  · rename_i z
    refine ⟨h, fun ps e => ?_⟩
    subst e
    exact z ps h
theorem ntb_of {o : HO} (t : NT o) : ntb (some o) = some o := by
  unfold ntb
  split
  · rename_i ps e
    exact absurd (Option.some.inj e) (t ps)
  · rfl
def fz (T : Tg) (H : Hp) : Hp := fun a => if T a = some .frz then ntb (H a) else none
theorem fz_all {T : Tg} {H : Hp} {a : Addr} {o : HO} (h : fz T H a = some o) : T a = some .frz ∧ H a = some o ∧ NT o := by
  unfold fz at h
  split at h
  · exact ⟨by assumption, ntb_some h⟩
  · cases h
theorem fz_some {T : Tg} {H : Hp} {a : Addr} {o : HO} (h : fz T H a = some o) : T a = some .frz ∧ H a = some o := ⟨(fz_all h).1, (fz_all h).2.1⟩
theorem fz_of {T : Tg} {H : Hp} {a : Addr} {o : HO} (h : T a = some .frz) (e : H a = some o) (t : NT o := by intro ps z; cases z) : fz T H a = some o := by
  unfold fz
  rw [if_pos h, e]
  exact ntb_of t
theorem fz_same {T : Tg} {H : Hp} : Same (fz T H) H := fun _ _ h => (fz_some h).2
def tset (T : Tg) (a : Addr) (t : Tag) : Tg := fun b => if b = a then some t else T b
theorem tset_same {T : Tg} {a : Addr} {t : Tag} : tset T a t a = some t := if_pos rfl
theorem tset_ne {T : Tg} {a b : Addr} {t : Tag} (h : b ≠ a) : tset T a t b = T b := if_neg h

inductive MO where
  | dk (kvs : List (Key × D))
abbrev St := List MO
def MRep (K : PySem.W.Frag) (F : Hp) (al : List Addr) (o : Option HO) : MO → Prop
  | .dk kvs => ∃ vs, o = some (.dK vs) ∧ RepKv K F al vs kvs

structure WI (K : PySem.W.Frag) (TB : List (Addr × Str)) (T : Tg) (al : List Addr) (st : St) (H : Hp) : Prop where
  tg : ∀ a t, T a = some t → ∃ o, H a = some o
  len : al.length = st.length
  cell : ∀ (n : Nat) (a : Addr) (m : MO), al[n]? = some a → st[n]? = some m → T a = some .wld ∧ MRep K (fz T H) al (H a) m
  inj : al.Nodup
  tabs : LamX.Tabs TB H
  wldo : ∀ a, T a = some .wld → ∃ n : Nat, al[n]? = some a
theorem WI.free {K : PySem.W.Frag} {TB : List (Addr × Str)} {T : Tg} {al : List Addr} {st : St} {H : Hp} (w : WI K TB T al st H) {a : Addr} (h : H a = none) : T a = none := by
  cases e : T a with
  | none => rfl
  | some t =>
    obtain ⟨o, q⟩ := w.tg a t e
    rw [h] at q
    cases q

def NU (o : HO) : Prop := ∀ xs, o ≠ .tup xs
structure Ext (T : Tg) (al : List Addr) (H : Hp) (T' : Tg) (al' : List Addr) (H' : Hp) : Prop where
  tg0 : ∀ a o, H a = some o → NU o → T' a = T a
  tgt : ∀ a xs, H a = some (.tup xs) → T a = some .frz → T' a = some .frz
  tgw : ∀ a xs, H a = some (.tup xs) → T a ≠ some .wld → T' a ≠ some .wld
  hp0 : ∀ a o, H a = some o → T a ≠ some .wld → NT o → H' a = some o
  wl : ∀ a o, H a = some o → ∃ o', H' a = some o' ∧ (NU o → NU o')
  al : ∃ b, al' = al ++ b
section
variable {T T1 T2 : Tg} {al al1 al2 : List Addr} {H H1 H2 : Hp}
theorem Ext.hp (x : Ext T al H T1 al1 H1) (a : Addr) (o : HO) (h : H a = some o) (n : T a ≠ some .wld) (t : NT o := by intro ps z; cases z) : H1 a = some o := x.hp0 a o h n t
theorem Ext.tg (x : Ext T al H T1 al1 H1) (a : Addr) (o : HO) (h : H a = some o) (n : NU o := by intro xs z; cases z) : T1 a = T a := x.tg0 a o h n
theorem Ext.isF (x : Ext T al H T1 al1 H1) {a : Addr} {o : HO} (h : H a = some o) (f : T a = some .frz) : T1 a = some .frz := by
  by_cases z : NU o
  · rw [x.tg0 a o h z]
    exact f
  · have ⟨xs, e⟩ : ∃ xs, o = .tup xs := Classical.byContradiction fun q => z fun xs e => q ⟨xs, e⟩
    rw [e] at h
    exact x.tgt a xs h f
theorem Ext.noW (x : Ext T al H T1 al1 H1) {a : Addr} {o : HO} (h : H a = some o) (f : T a ≠ some .wld) : T1 a ≠ some .wld := by
  by_cases z : NU o
  · rw [x.tg0 a o h z]
    exact f
  · have ⟨xs, e⟩ : ∃ xs, o = .tup xs := Classical.byContradiction fun q => z fun xs e => q ⟨xs, e⟩
    rw [e] at h
    exact x.tgw a xs h f
theorem nt_tup {xs : List V} : NT (.tup xs) := by intro ps z; cases z
theorem Ext.refl : Ext T al H T al H := ⟨fun _ _ _ _ => rfl, fun _ _ _ h => h, fun _ _ _ h => h, fun _ _ e _ _ => e, fun _ o e => ⟨o, e, id⟩, ⟨[], by simp⟩⟩
theorem Ext.trans (a : Ext T al H T1 al1 H1) (b : Ext T1 al1 H1 T2 al2 H2) : Ext T al H T2 al2 H2 where
  tg0 := fun x o e n => by
    obtain ⟨o', e', n'⟩ := a.wl x o e
    rw [b.tg0 x o' e' (n' n), a.tg0 x o e n]
  tgt := fun x xs e f => b.isF (a.hp0 x _ e (by rw [f]; decide) nt_tup) (a.tgt x xs e f)
  tgw := fun x xs e f => b.noW (a.hp0 x _ e f nt_tup) (a.tgw x xs e f)
  hp0 := fun x o e n t => b.hp0 x o (a.hp0 x o e n t) (a.noW e n) t
  wl := fun x o e => by
    obtain ⟨o', e', n'⟩ := a.wl x o e
    obtain ⟨o2, e2, n2⟩ := b.wl x o' e'
    exact ⟨o2, e2, fun n => n2 (n' n)⟩
  al := by
    obtain ⟨p, rfl⟩ := a.al
    obtain ⟨q, rfl⟩ := b.al
    exact ⟨p ++ q, by rw [List.append_assoc]⟩
theorem Ext.fz (x : Ext T al H T1 al1 H1) : Same (fz T H) (fz T1 H1) := fun a o e => by
  obtain ⟨h1, h2, ht⟩ := fz_all e
  exact fz_of (x.isF h2 h1) (x.hp0 a o h2 (by rw [h1]; decide) ht) ht
theorem Ext.free (x : Ext T al H T1 al1 H1) {a : Addr} (h : H1 a = none) : H a = none := by
  cases e : H a with
  | none => rfl
  | some o =>
    obtain ⟨o', q, _⟩ := x.wl a o e
    rw [h] at q
    cases q
theorem Ext.laid {p : Addr} {o : HO} (n : H p = none) (t : Tag) : Ext T al H (tset T p t) al (upd H p o) where
  tg0 := fun a u e _ => tset_ne (ne_of_none e n)
  tgt := fun a xs e f => by rw [tset_ne (ne_of_none e n)]; exact f
  tgw := fun a xs e f => by rw [tset_ne (ne_of_none e n)]; exact f
  hp0 := fun a u e _ _ => by rw [upd_ne (ne_of_none e n)]; exact e
  wl := fun a u e => ⟨u, by rw [upd_ne (ne_of_none e n)]; exact e, id⟩
  al := ⟨[], by simp⟩
theorem Ext.laid0 {p : Addr} {o : HO} (n : H p = none) : Ext T al H T al (upd H p o) where
  tg0 := fun a u e _ => rfl
  tgt := fun a xs e f => f
  tgw := fun a xs e f => f
  hp0 := fun a u e _ _ => by rw [upd_ne (ne_of_none e n)]; exact e
  wl := fun a u e => ⟨u, by rw [upd_ne (ne_of_none e n)]; exact e, id⟩
  al := ⟨[], by simp⟩
theorem Ext.retag {p : Addr} (n : H p = none) (x : Ext T al H T1 al1 H1) (t : Tag) : Ext T al H (tset T1 p t) al1 H1 where
  tg0 := fun a u e m => by rw [tset_ne (ne_of_none e n)]; exact x.tg0 a u e m
  tgt := fun a xs e f => by rw [tset_ne (ne_of_none e n)]; exact x.tgt a xs e f
  tgw := fun a xs e f => by rw [tset_ne (ne_of_none e n)]; exact x.tgw a xs e f
  hp0 := x.hp0
  wl := x.wl
  al := x.al
theorem Ext.still {p : Addr} {xs : List V} (h : H p = some (.tup xs)) : Ext T al H (tset T p .frz) al H where
  tg0 := fun a u e m => tset_ne fun z => by
    rw [z, h] at e
    exact m xs (Option.some.inj e).symm
  tgt := fun a ys e f => by
    by_cases z : a = p
    · rw [z]
      exact tset_same
    · rw [tset_ne z]
      exact f
  tgw := fun a ys e f => by
    by_cases z : a = p
    · rw [z, tset_same]
      decide
    · rw [tset_ne z]
      exact f
  hp0 := fun a o e _ _ => e
  wl := fun a o e => ⟨o, e, id⟩
  al := ⟨[], by simp⟩
variable {K : PySem.W.Frag} {v : V} {d : D} {vs : List V} {ds : List D}
theorem Rep.ext (r : Rep K (Pi.fz T H) al v d) (x : Ext T al H T1 al1 H1) : Rep K (Pi.fz T1 H1) al1 v d := r.mono x.fz x.al
theorem RepAll.ext (r : RepAll K (Pi.fz T H) al vs ds) (x : Ext T al H T1 al1 H1) : RepAll K (Pi.fz T1 H1) al1 vs ds := r.mono x.fz x.al
end
theorem fz_tset {T : Tg} {H : Hp} {p : Addr} {t : Tag} (h : T p ≠ some .frz) : Same (fz T H) (fz (tset T p t) H) := fun a o e => by
  obtain ⟨h1, h2, ht⟩ := fz_all e
  have ne : a ≠ p := fun z => by
    rw [z] at h1
    exact h h1
  exact fz_of (by rw [tset_ne ne]; exact h1) h2 ht
section
variable {K : PySem.W.Frag} {TB : List (Addr × Str)} {T : Tg} {al : List Addr} {st : St} {H : Hp}
theorem WI.laid {p : Addr} {o : HO} (w : WI K TB T al st H) (n : H p = none) : WI K TB T al st (upd H p o) where
  tg := fun a t e => by
    obtain ⟨u, q⟩ := w.tg a t e
    exact ⟨u, by rw [upd_ne (ne_of_none q n)]; exact q⟩
  len := w.len
  cell := fun k a m e1 e2 => by
    obtain ⟨h1, h2⟩ := w.cell k a m e1 e2
    obtain ⟨u, q⟩ := w.tg a _ h1
    refine ⟨h1, ?_⟩
    have hs : Same (fz T H) (fz T (upd H p o)) := (Ext.laid0 (al := al) n).fz
    cases m with
    | dk kvs =>
      obtain ⟨vs, e3, r⟩ := h2
      exact ⟨vs, by rw [upd_ne (ne_of_none q n)]; exact e3, r.mono hs ⟨[], by simp⟩⟩
  inj := w.inj
  tabs := w.tabs.ext fun b u e => by rw [upd_ne (ne_of_none e n)]; exact e
  wldo := w.wldo
theorem WI.tag {p : Addr} {t : Tag} {o : HO} (w : WI K TB T al st H) (n : T p ≠ some .frz) (n2 : T p ≠ some .wld) (h : H p = some o) (ht : t ≠ .wld := by decide) : WI K TB (tset T p t) al st H where
  tg := fun a u e => by
    by_cases z : a = p
    · exact ⟨o, by rw [z]; exact h⟩
    · rw [tset_ne z] at e
      exact w.tg a u e
  len := w.len
  cell := fun k a m e1 e2 => by
    obtain ⟨h1, h2⟩ := w.cell k a m e1 e2
    have ne : a ≠ p := fun z => by
      rw [z] at h1
      exact n2 h1
    refine ⟨by rw [tset_ne ne]; exact h1, ?_⟩
    cases m with
    | dk kvs =>
      obtain ⟨vs, e3, r⟩ := h2
      exact ⟨vs, e3, r.mono (fz_tset n) ⟨[], by simp⟩⟩
  inj := w.inj
  tabs := w.tabs
  wldo := fun a e => by
    by_cases z : a = p
    · rw [z, tset_same] at e
      exact absurd (Option.some.inj e) ht
    · rw [tset_ne z] at e
      exact w.wldo a e
end
end Pi
namespace Pi
open PySem PySem.Spec PyProof.Rows L2

inductive Res (b : Type) where
  | ok (x : b) (st : St)
  | err (c : Nat) (x : D) (st : St)
  | bad
abbrev Mo (b : Type) := St → Res b
@[reducible] def Mo.ret {b : Type} (x : b) : Mo b := fun st => .ok x st
@[reducible] def Mo.bind {b c : Type} (f : Mo b) (g : b → Mo c) : Mo c := fun st => match f st with
  | .ok x st' => g x st'
  | .err k x st' => .err k x st'
  | .bad => .bad
instance : Monad Mo where
  pure := Mo.ret
  bind := Mo.bind
def Mo.bad {b : Type} : Mo b := fun _ => .bad
def Mo.err {b : Type} (c : Nat) (x : D) : Mo b := fun st => .err c x st
def Mo.opt {b : Type} : Option b → Mo b
  | some x => Mo.ret x
  | none => Mo.bad
section
variable {b c : Type}
theorem bind_ap (f : Mo b) (g : b → Mo c) (st : St) : (f >>= g) st = match f st with
  | .ok x st' => g x st'
  | .err k x st' => .err k x st'
  | .bad => .bad := rfl
end

inductive SV where
  | d (x : D)
  | own (xs : List D)
  | odT (kvs : List (List Key × D))
  /-- a list that the caller owns, only read here -/
  | brw (xs : List D)
def SV.isOwn : SV → Bool
  | .d _ => false
  | .brw _ => false
  | _ => true
abbrev Env := List (Option SV)
abbrev KvT (K : PySem.W.Frag) (F : Hp) (al : List Addr) : List (List Key × V) → List (List Key × D) → Prop := Paired fun (p : List Key × V) (q : List Key × D) => p.1 = q.1 ∧ Rep K F al p.2 q.2
def SRep (K : PySem.W.Frag) (H0 : Hp) (T : Tg) (al : List Addr) (H : Hp) (v : V) : SV → Prop
  | .d x => Rep K (fz T H) al v x
  | .own xs => ∃ l vs, v = .ref l ∧ T l = some .own ∧ H0 l = none ∧ H l = some (.lst vs) ∧ RepAll K (fz T H) al vs xs
  | .odT kvs => ∃ l vs, v = .ref l ∧ T l = some .own ∧ H0 l = none ∧ H l = some (.dT vs) ∧ KvT K (fz T H) al vs kvs
  | .brw xs => ∃ l vs, v = .ref l ∧ T l = some .own ∧ H0 l = some (.lst vs) ∧ H l = some (.lst vs) ∧ RepAll K (fz T H) al vs xs
structure SL (K : PySem.W.Frag) (H0 : Hp) (T : Tg) (al : List Addr) (H : Hp) (r : Env) (σ : L2.St) : Prop where
  len : σ.length = r.length
  at_ : ∀ (i : Nat) (x : SV), r[i]? = some (some x) → ∃ v, σ[i]? = some (some v) ∧ SRep K H0 T al H v x
  ap : ∀ (i j : Nat) (x y : SV) (v : V), i ≠ j → r[i]? = some (some x) → r[j]? = some (some y) → x.isOwn = true → y.isOwn = true → σ[i]? = some (some v) → σ[j]? ≠ some (some v)
theorem paired_imp {a b : Type} {F G : a → b → Prop} : ∀ {l : List a} {m : List b}, Paired F l m → (∀ x y, F x y → G x y) → Paired G l m
  | _, _, .nil, _ => .nil
  | _, _, .cons r t, f => .cons (f _ _ r) (paired_imp t f)
section
variable {K : PySem.W.Frag} {H0 : Hp} {T T1 : Tg} {al al1 : List Addr} {H H1 : Hp} {v : V} {x : SV} {r : Env} {σ : L2.St}
theorem SRep.ext (h : SRep K H0 T al H v x) (e : Ext T al H T1 al1 H1) : SRep K H0 T1 al1 H1 v x := by
  cases x with
  | d x => exact Rep.ext h e
  | own xs =>
    obtain ⟨l, vs, rfl, h1, h0, h2, h3⟩ := h
    exact ⟨l, vs, rfl, (e.tg l _ h2).trans h1, h0, e.hp l _ h2 (by rw [h1]; decide), h3.ext e⟩
  | odT kvs =>
    obtain ⟨l, vs, rfl, h1, h0, h2, h3⟩ := h
    exact ⟨l, vs, rfl, (e.tg l _ h2).trans h1, h0, e.hp l _ h2 (by rw [h1]; decide), paired_imp h3 fun p q z => ⟨z.1, z.2.ext e⟩⟩
  | brw xs =>
    obtain ⟨l, vs, rfl, h1, h0, h2, h3⟩ := h
    exact ⟨l, vs, rfl, (e.tg l _ h2).trans h1, h0, e.hp l _ h2 (by rw [h1]; decide), h3.ext e⟩
theorem SL.ext (h : SL K H0 T al H r σ) (e : Ext T al H T1 al1 H1) : SL K H0 T1 al1 H1 r σ :=
  ⟨h.len, fun i x hx => by
    obtain ⟨v, h1, h2⟩ := h.at_ i x hx
    exact ⟨v, h1, h2.ext e⟩, h.ap⟩
end

def nw (T : Tg) (H : Hp) : Hp := fun a => if T a = some .wld then none else ntb (H a)
theorem nw_all {T : Tg} {H : Hp} {a : Addr} {o : HO} (h : nw T H a = some o) : T a ≠ some .wld ∧ H a = some o ∧ NT o := by
  unfold nw at h
  split at h
  · cases h
  · exact ⟨by assumption, ntb_some h⟩
theorem nw_some {T : Tg} {H : Hp} {a : Addr} {o : HO} (h : nw T H a = some o) : T a ≠ some .wld ∧ H a = some o := ⟨(nw_all h).1, (nw_all h).2.1⟩
theorem nw_of {T : Tg} {H : Hp} {a : Addr} {o : HO} (h : T a ≠ some .wld) (e : H a = some o) (t : NT o := by intro ps z; cases z) : nw T H a = some o := by
  unfold nw
  rw [if_neg h, e]
  exact ntb_of t
theorem nw_same {T : Tg} {H : Hp} : Same (nw T H) H := fun _ _ h => (nw_some h).2
theorem fz_nw {T : Tg} {H : Hp} : Same (fz T H) (nw T H) := fun a o e => by
  obtain ⟨h1, h2, ht⟩ := fz_all e
  exact nw_of (by rw [h1]; decide) h2 ht
theorem Ext.nw {T T1 : Tg} {al al1 : List Addr} {H H1 : Hp} (x : Ext T al H T1 al1 H1) : Same (nw T H) (nw T1 H1) := fun a o e => by
  obtain ⟨h1, h2, ht⟩ := nw_all e
  exact nw_of (x.noW h2 h1) (x.hp0 a o h2 h1 ht) ht
def RepH (K : PySem.W.Frag) (T : Tg) (al : List Addr) (H : Hp) (v : V) : D → Prop
  | .lst ds => ∃ a xs, v = .ref a ∧ nw T H a = some (.lst xs) ∧ RepAll K (fz T H) al xs ds
  | d => Rep K (fz T H) al v d
section
variable {K : PySem.W.Frag} {H0 : Hp} {T T1 : Tg} {al al1 : List Addr} {H H1 : Hp} {v : V} {d : D}
theorem Rep.toH (h : Rep K (fz T H) al v d) : RepH K T al H v d := by
  cases d with
  | lst ds =>
    cases h with
    | lst h r => exact ⟨_, _, rfl, fz_nw _ _ h, r⟩
  | _ => exact h
theorem RepH.ext (h : RepH K T al H v d) (e : Ext T al H T1 al1 H1) : RepH K T1 al1 H1 v d := by
  cases d with
  | lst ds =>
    obtain ⟨a, xs, e1, h1, r⟩ := h
    exact ⟨a, xs, e1, e.nw _ _ h1, r.ext e⟩
  | _ => exact Rep.ext (d := _) h e
end

def RdE (X : Cx) (e : Expr) (σ : L2.St) (H : Hp) (Q : VK) : Prop := ∀ (pins : List (Addr × Obj)) (s : Shared), Inv X pins σ H s → wpAny (model X.prog X.w) X.A (eval e X.env) (EP X pins σ Q) X.xe s
def RdA (X : Cx) (es : List Expr) (σ : L2.St) (H : Hp) (Q : List V → Hp → Prop) : Prop := ∀ (pos : Pos) (pins : List (Addr × Obj)) (s : Shared), Inv X pins σ H s → wpAny (model X.prog X.w) X.A (spliced (backTo pos (starEach es X.env))) (AP X pins σ Q) X.xe s
def RdT (X : Cx) (e : Expr) (σ : L2.St) (H : Hp) (Q : Bool → Hp → Prop) : Prop := ∀ (pins : List (Addr × Obj)) (s : Shared), Inv X pins σ H s → wpAny (model X.prog X.w) X.A (isTrue e X.env (eval e X.env)) (TP X pins σ Q) X.xe s
def RdW (X : Cx) (e : Expr) (σ : L2.St) (H : Hp) (Q : Bool → Hp → Prop) : Prop := ∀ (whole : Sem Value) (pins : List (Addr × Obj)) (s : Shared), Inv X pins σ H s → wpAny (model X.prog X.w) X.A (isTrue e X.env whole) (TP X pins σ Q) X.xe s
section
variable {X : Cx} {e : Expr} {es : List Expr} {σ : L2.St} {H : Hp}
theorem pe_rd : PE X e (RdE X e) := ⟨fun pins s _ _ _ I h => h pins s I⟩
theorem pa_rd : PA X es (RdA X es) := ⟨fun pos pins s _ _ _ I h => h pos pins s I⟩
theorem pt_rd : PT X e (RdT X e) := ⟨fun pins s _ _ _ I h => h pins s I⟩
theorem pw_rd : PW X e (RdW X e) := ⟨fun wh pins s _ _ _ I h => h wh pins s I⟩
theorem rdE {t : TE} {Q : VK} (h : PE X e t) (q : t σ H Q) : RdE X e σ H Q := fun pins s I => h.run pins s σ H Q I q
theorem rdA {t : TA} {Q : List V → Hp → Prop} (h : PA X es t) (q : t σ H Q) : RdA X es σ H Q := fun pos pins s I => h.run pos pins s σ H Q I q
theorem rdT {t : TT} {Q : Bool → Hp → Prop} (h : PT X e t) (q : t σ H Q) : RdT X e σ H Q := fun pins s I => h.run pins s σ H Q I q
theorem rdW {t : TT} {Q : Bool → Hp → Prop} (h : PW X e t) (q : t σ H Q) : RdW X e σ H Q := fun wh pins s I => h.run wh pins s σ H Q I q
end

structure GX where
  cls : Nat → Addr
  fld : Nat → Str
  TB : List (Addr × Str)
section
variable (G : GX) (K : PySem.W.Frag) (W : WX)
def ErrW (σ : L2.St) (T : Tg) (al : List Addr) (H : Hp) (c : Nat) (x : D) (st : St) : Prop :=
  ∀ (dx : Addr) (v : V) (T' : Tg) (al' : List Addr) (H' : Hp), Ext T al H T' al' H' → WI K G.TB T' al' st H' → H dx = none → H' dx = some (.xd [(G.fld c, v)]) → Rep K (fz T' H') al' v x → W (.ref (G.cls c)) (some dx) σ H'
def Post {b u : Type} (Rp : Hp → Tg → List Addr → Hp → u → b → Prop) (σ : L2.St) (T : Tg) (al : List Addr) (H : Hp) (Q : u → Hp → Prop) : Res b → Prop
  | .ok x st => ∀ (v : u) (T' : Tg) (al' : List Addr) (H' : Hp), Ext T al H T' al' H' → WI K G.TB T' al' st H' → Rp H T' al' H' v x → Q v H'
  | .err c x st => ErrW G K W σ T al H c x st
  | .bad => False
end
section
variable {G : GX} {K : PySem.W.Frag} {W : WX} {σ : L2.St} {T T1 : Tg} {al al1 : List Addr} {H H1 : Hp}
theorem ErrW.ext {c : Nat} {x : D} {st : St} (h : ErrW G K W σ T al H c x st) (e : Ext T al H T1 al1 H1) : ErrW G K W σ T1 al1 H1 c x st := fun dx v T' al' H' e' w n hd r =>
  h dx v T' al' H' (e.trans e') w (e.free n) hd r
def Back {b u : Type} (Rp : Hp → Tg → List Addr → Hp → u → b → Prop) : Prop := ∀ (H H1 : Hp) (T' : Tg) (al' : List Addr) (H' : Hp) (v : u) (x : b), (∀ a, H1 a = none → H a = none) → Rp H1 T' al' H' v x → Rp H T' al' H' v x
theorem Post.ext {b u : Type} {Rp : Hp → Tg → List Addr → Hp → u → b → Prop} {Q : u → Hp → Prop} {r : Res b} (hb : Back Rp) (h : Post G K W Rp σ T al H Q r) (e : Ext T al H T1 al1 H1) : Post G K W Rp σ T1 al1 H1 Q r := by
  cases r with
  | ok x st => exact fun v T' al' H' e' w q => h v T' al' H' (e.trans e') w (hb H H1 T' al' H' v x (fun a n => e.free n) q)
  | err c x st => exact ErrW.ext h e
  | bad => exact h
end
def RpD (K : PySem.W.Frag) : Hp → Tg → List Addr → Hp → V → D → Prop := fun _ T al H v x => Rep K (fz T H) al v x
def RpH (K : PySem.W.Frag) : Hp → Tg → List Addr → Hp → V → D → Prop := fun _ T al H v x => RepH K T al H v x
def RpN (K : PySem.W.Frag) : Hp → Tg → List Addr → Hp → V → List D → Prop := fun H0 T al H v xs => ∃ p vs, v = .ref p ∧ H0 p = none ∧ T p = none ∧ H p = some (.lst vs) ∧ RepAll K (fz T H) al vs xs
def RpB : Hp → Tg → List Addr → Hp → Bool → Bool → Prop := fun _ _ _ _ v x => v = x
def RpL (K : PySem.W.Frag) : Hp → Tg → List Addr → Hp → List V → List D → Prop := fun _ T al H v x => RepAll K (fz T H) al v x
def RpLH (K : PySem.W.Frag) : Hp → Tg → List Addr → Hp → List V → List D → Prop := fun _ T al H v x => Paired (RepH K T al H) v x
theorem back_D {K : PySem.W.Frag} : Back (RpD K) := fun _ _ _ _ _ _ _ _ h => h
theorem back_H {K : PySem.W.Frag} : Back (RpH K) := fun _ _ _ _ _ _ _ _ h => h
theorem back_B : Back RpB := fun _ _ _ _ _ _ _ _ h => h
theorem back_L {K : PySem.W.Frag} : Back (RpL K) := fun _ _ _ _ _ _ _ _ h => h
theorem back_LH {K : PySem.W.Frag} : Back (RpLH K) := fun _ _ _ _ _ _ _ _ h => h
theorem back_N {K : PySem.W.Frag} : Back (RpN K) := fun _ _ _ _ _ _ _ f ⟨p, vs, h1, h2, h3⟩ => ⟨p, vs, h1, f p h2, h3⟩

section
variable (G : GX) (X : Cx) (W : WX) (H0 : Hp)
def PD (e : Expr) (f : Env → Mo D) : Prop := ∀ (r : Env) (st : St) (σ : L2.St) (T : Tg) (al : List Addr) (H : Hp) (Q : VK), SL X.K H0 T al H r σ → WI X.K G.TB T al st H → Post G X.K W (RpD X.K) σ T al H Q (f r st) → RdE X e σ H Q
def PH (e : Expr) (f : Env → Mo D) : Prop := ∀ (r : Env) (st : St) (σ : L2.St) (T : Tg) (al : List Addr) (H : Hp) (Q : VK), SL X.K H0 T al H r σ → WI X.K G.TB T al st H → Post G X.K W (RpH X.K) σ T al H Q (f r st) → RdE X e σ H Q
def PN (e : Expr) (f : Env → Mo (List D)) : Prop := ∀ (r : Env) (st : St) (σ : L2.St) (T : Tg) (al : List Addr) (H : Hp) (Q : VK), SL X.K H0 T al H r σ → WI X.K G.TB T al st H → Post G X.K W (RpN X.K) σ T al H Q (f r st) → RdE X e σ H Q
def PB (e : Expr) (f : Env → Mo Bool) : Prop := ∀ (r : Env) (st : St) (σ : L2.St) (T : Tg) (al : List Addr) (H : Hp) (Q : Bool → Hp → Prop), SL X.K H0 T al H r σ → WI X.K G.TB T al st H → Post G X.K W RpB σ T al H Q (f r st) → RdT X e σ H Q
def PBW (e : Expr) (f : Env → Mo Bool) : Prop := ∀ (r : Env) (st : St) (σ : L2.St) (T : Tg) (al : List Addr) (H : Hp) (Q : Bool → Hp → Prop), SL X.K H0 T al H r σ → WI X.K G.TB T al st H → Post G X.K W RpB σ T al H Q (f r st) → RdW X e σ H Q
def PL (es : List Expr) (f : Env → Mo (List D)) : Prop := ∀ (r : Env) (st : St) (σ : L2.St) (T : Tg) (al : List Addr) (H : Hp) (Q : List V → Hp → Prop), SL X.K H0 T al H r σ → WI X.K G.TB T al st H → Post G X.K W (RpL X.K) σ T al H Q (f r st) → RdA X es σ H Q
def PLH (es : List Expr) (f : Env → Mo (List D)) : Prop := ∀ (r : Env) (st : St) (σ : L2.St) (T : Tg) (al : List Addr) (H : Hp) (Q : List V → Hp → Prop), SL X.K H0 T al H r σ → WI X.K G.TB T al st H → Post G X.K W (RpLH X.K) σ T al H Q (f r st) → RdA X es σ H Q
end
section
variable {G : GX} {X : Cx} {W : WX} {H0 : Hp}
theorem seqP {b u c w : Type} {Rp : Hp → Tg → List Addr → Hp → u → b → Prop} {Rq : Hp → Tg → List Addr → Hp → w → c → Prop} (hq : Back Rq) {f : Mo b} {g : b → Mo c} {st : St} {σ : L2.St} {T : Tg} {al : List Addr} {H : Hp} {Q : w → Hp → Prop} {Q1 : u → Hp → Prop}
    (h : Post G X.K W Rq σ T al H Q ((f >>= g) st))
    (k : ∀ (x : b) (st1 : St) (v : u) (T1 : Tg) (al1 : List Addr) (H1 : Hp), f st = .ok x st1 → Ext T al H T1 al1 H1 → WI X.K G.TB T1 al1 st1 H1 → Rp H T1 al1 H1 v x → Post G X.K W Rq σ T1 al1 H1 Q (g x st1) → Q1 v H1) :
    Post G X.K W Rp σ T al H Q1 (f st) := by
  rw [bind_ap] at h
  cases e : f st with
  | ok x st1 =>
    rw [e] at h
    exact fun v T1 al1 H1 x1 w1 r1 => k x st1 v T1 al1 H1 e x1 w1 r1 (Post.ext hq h x1)
  | err c x st1 =>
    rw [e] at h
    exact h
  | bad =>
    rw [e] at h
    exact h
variable {e : Expr}
theorem PD.toH {f : Env → Mo D} (h : PD G X W H0 e f) : PH G X W H0 e f := fun r st σ T al H Q S w q => h r st σ T al H Q S w (by
  cases z : f r st with
  | ok x st1 =>
    rw [z] at q
    exact fun v T1 al1 H1 x1 w1 r1 => q v T1 al1 H1 x1 w1 (Rep.toH r1)
  | err c x st1 => rw [z] at q; exact q
  | bad => rw [z] at q; exact q)
def nFz (f : Env → Mo (List D)) : Env → Mo D := fun r => f r >>= fun xs => pure (.lst xs)
theorem PN.toD {f : Env → Mo (List D)} (h : PN G X W H0 e f) : PD G X W H0 e (nFz f) := fun r st σ T al H Q S w q => h r st σ T al H Q S w (by
  refine seqP back_D q fun xs st1 v T1 al1 H1 ex x1 w1 r1 q1 => ?_
  obtain ⟨p, vs, rfl, n0, tp, hp, rs⟩ := r1
  have q2 : Post G X.K W (RpD X.K) σ T al H Q (.ok (.lst xs) st1) := by
    have : (nFz f) r st = .ok (.lst xs) st1 := by
      show (f r >>= _) st = _
      rw [bind_ap, ex]
      rfl
    rw [this] at q
    exact q
  refine q2 (.ref p) (tset T1 p .frz) al1 H1 (x1.retag n0 _) (w1.tag (by rw [tp]; decide) (by rw [tp]; decide) hp) ?_
  exact .lst (fz_of tset_same hp) (rs.mono (fz_tset (by rw [tp]; decide)) ⟨[], by simp⟩))
end
end Pi
namespace Pi
open PySem PySem.Spec PyProof.Rows L2

def eVar (i : Nat) : Env → Mo D := fun r st => match r[i]? with
  | some (some (.d x)) => .ok x st
  | _ => .bad
def hVar (i : Nat) : Env → Mo D := fun r st => match r[i]? with
  | some (some (.d x)) => .ok x st
  | some (some (.own xs)) => .ok (.lst xs) st
  | some (some (.brw xs)) => .ok (.lst xs) st
  | _ => .bad
def eC (x : D) : Env → Mo D := fun _ => pure x
def aNil : Env → Mo (List D) := fun _ => pure []
def aCons (f : Env → Mo D) (g : Env → Mo (List D)) : Env → Mo (List D) := fun r => f r >>= fun x => g r >>= fun xs => pure (x :: xs)
def lim {b : Type} (n : Nat) (x : b) : Mo b := fun st => match Nat.ble n 16777216 with
  | true => .ok x st
  | false => .bad
def eTup (f : Env → Mo (List D)) : Env → Mo D := fun r => f r >>= fun xs => lim xs.length (.tup xs)
def nLst (f : Env → Mo (List D)) : Env → Mo (List D) := fun r => f r >>= fun xs => lim xs.length xs
def eBin (o : D → D → Option D) (f g : Env → Mo D) : Env → Mo D := fun r => f r >>= fun x => g r >>= fun y => Mo.opt (o x y)
def eUn (o : D → Option D) (f : Env → Mo D) : Env → Mo D := fun r => f r >>= fun x => Mo.opt (o x)
def bNot (f : Env → Mo Bool) : Env → Mo Bool := fun r => f r >>= fun x => pure (!x)
def bAnd (f g : Env → Mo Bool) : Env → Mo Bool := fun r => f r >>= fun x => match x with
  | true => g r
  | false => pure false
def bOr (f g : Env → Mo Bool) : Env → Mo Bool := fun r => f r >>= fun x => match x with
  | true => pure true
  | false => g r
def eIf {b : Type} (c : Env → Mo Bool) (f g : Env → Mo b) : Env → Mo b := fun r => c r >>= fun x => match x with
  | true => f r
  | false => g r
def D.truth : D → Option Bool
  | .non => some false
  | .bl b => some b
  | .int i => some (i != 0)
  | .str x => match Nat.ble x.length 16777216 with
    | true => some ((x.length : Int) != 0)
    | false => none
  | .tup xs => some (!xs.isEmpty)
  | .lst xs => some (!xs.isEmpty)
  | .dct xs => some (!xs.isEmpty)
  | .obj _ => none
  | .exc _ _ _ => none
  | .ktp xs => some (!xs.isEmpty)
  | .kls _ => none
  | .dcx _ => none
  | .bex _ _ => none
def bTru (f : Env → Mo D) : Env → Mo Bool := fun r => f r >>= fun x => Mo.opt x.truth
theorem line_is : sizeLine = 16777216 := sizeLine_eq
theorem lim_ok {b : Type} {n : Nat} {x y : b} {st st1 : St} (h : lim n x st = .ok y st1) : n ≤ sizeLine ∧ y = x ∧ st1 = st := by
  unfold lim at h
  cases e : Nat.ble n 16777216 with
  | true =>
    rw [e] at h
    injection h with h1 h2
    rw [line_is]
    exact ⟨Nat.le_of_ble_eq_true e, h1.symm, h2.symm⟩
  | false =>
    rw [e] at h
    cases h
section
variable {G : GX} {X : Cx} {W : WX} {H0 : Hp}
variable {e a b c : Expr} {es : List Expr} {pos : Pos}

theorem pd_var {i : Nat} {x : Str} (hN : X.N[i]? = some x := by rfl) (hv : Vis X.env.scope x := by first | exact Or.inl rfl | exact Or.inr (Or.inl rfl) | exact Or.inr (Or.inr rfl)) (hd : (x == ("__debug__" : Str)) = false := by decide)
    (hcd : (x == ("__classdict__" : Str)) = false := by decide) : PD G X W H0 (.Name x pos) (eVar i) := by
  intro r st σ T al H Q S w q
  unfold eVar at q
  split at q
  · rename_i y hy
    obtain ⟨v, h1, h2⟩ := S.at_ i _ hy
    exact rdE (pe_var hN hv hd hcd) ⟨v, h1, q v T al H .refl w h2⟩
  · exact q.elim
theorem ph_var {i : Nat} {x : Str} (hN : X.N[i]? = some x := by rfl) (hv : Vis X.env.scope x := by first | exact Or.inl rfl | exact Or.inr (Or.inl rfl) | exact Or.inr (Or.inr rfl)) (hd : (x == ("__debug__" : Str)) = false := by decide)
    (hcd : (x == ("__classdict__" : Str)) = false := by decide) : PH G X W H0 (.Name x pos) (hVar i) := by
  intro r st σ T al H Q S w q
  unfold hVar at q
  split at q
  · rename_i y hy
    obtain ⟨v, h1, h2⟩ := S.at_ i _ hy
    exact rdE (pe_var hN hv hd hcd) ⟨v, h1, q v T al H .refl w (Rep.toH h2)⟩
  · rename_i y hy
    obtain ⟨v, h1, h2⟩ := S.at_ i _ hy
    obtain ⟨l, vs, rfl, ht, _, hl, rs⟩ := h2
    exact rdE (pe_var hN hv hd hcd) ⟨_, h1, q _ T al H .refl w ⟨l, vs, rfl, nw_of (by rw [ht]; decide) hl, rs⟩⟩
  · rename_i y hy
    obtain ⟨v, h1, h2⟩ := S.at_ i _ hy
    obtain ⟨l, vs, rfl, ht, _, hl, rs⟩ := h2
    exact rdE (pe_var hN hv hd hcd) ⟨_, h1, q _ T al H .refl w ⟨l, vs, rfl, nw_of (by rw [ht]; decide) hl, rs⟩⟩
  · exact q.elim
theorem pd_c {x : D} {v : V} (h : PE X e (tC v)) (hr : ∀ F al, Rep X.K F al v x) : PD G X W H0 e (eC x) := fun r st σ T al H Q S w q =>
  rdE h (q v T al H .refl w (hr _ _))
theorem pd_int {i j} : PD G X W H0 (.Constant (.int i) j pos) (eC (.int i)) := pd_c pe_int fun _ _ => .int i
theorem pd_bl {i j} : PD G X W H0 (.Constant (.bool i) j pos) (eC (.bl i)) := pd_c pe_bl fun _ _ => .bl i
theorem pd_str {i j} : PD G X W H0 (.Constant (.str i) j pos) (eC (.str i)) := pd_c pe_str fun _ _ => .str i
theorem pd_non {j} : PD G X W H0 (.Constant .none j pos) (eC .non) := pd_c pe_non fun _ _ => .non

theorem pl_nil : PL G X W H0 [] aNil := fun r st σ T al H Q S w q => rdA pa_nil (q [] T al H .refl w .nil)
theorem pl_cons {f : Env → Mo D} {g : Env → Mo (List D)} (ha : PD G X W H0 e f) (hr : PL G X W H0 es g) (hs : starEach (e :: es) X.env = (false, eval e X.env) :: starEach es X.env := by rfl) : PL G X W H0 (e :: es) (aCons f g) := by
  intro r st σ T al H Q S w q
  refine rdA (pa_cons pe_rd pa_rd hs) (ha r st σ T al H _ S w (seqP back_L q fun x st1 v T1 al1 H1 _ x1 w1 r1 q1 => ?_))
  refine hr r st1 σ T1 al1 H1 _ (S.ext x1) w1 (seqP back_L q1 fun xs st2 vs T2 al2 H2 _ x2 w2 r2 q2 => ?_)
  exact q2 (v :: vs) T2 al2 H2 .refl w2 (.cons (r1.ext x2) r2)
theorem plh_nil : PLH G X W H0 [] aNil := fun r st σ T al H Q S w q => rdA pa_nil (q [] T al H .refl w .nil)
theorem plh_cons {f : Env → Mo D} {g : Env → Mo (List D)} (ha : PH G X W H0 e f) (hr : PLH G X W H0 es g) (hs : starEach (e :: es) X.env = (false, eval e X.env) :: starEach es X.env := by rfl) : PLH G X W H0 (e :: es) (aCons f g) := by
  intro r st σ T al H Q S w q
  refine rdA (pa_cons pe_rd pa_rd hs) (ha r st σ T al H _ S w (seqP back_LH q fun x st1 v T1 al1 H1 _ x1 w1 r1 q1 => ?_))
  refine hr r st1 σ T1 al1 H1 _ (S.ext x1) w1 (seqP back_LH q1 fun xs st2 vs T2 al2 H2 _ x2 w2 r2 q2 => ?_)
  exact q2 (v :: vs) T2 al2 H2 .refl w2 (.cons (RepH.ext r1 x2) r2)
theorem pd_tup {f : Env → Mo (List D)} {x1} (h : PL G X W H0 es f) : PD G X W H0 (.Tuple es x1 pos) (eTup f) := by
  intro r st σ T al H Q S w q
  refine rdE (pe_tup pa_rd) (h r st σ T al H _ S w (seqP back_D q fun xs st1 vs T1 al1 H1 _ x1 w1 r1 q1 => ?_))
  cases e : lim xs.length (D.tup xs) st1 with
  | ok y st2 =>
    rw [e] at q1
    obtain ⟨hl, rfl, rfl⟩ := lim_ok e
    refine ⟨by rw [r1.length]; exact hl, fun p n => ?_⟩
    have n' := w1.free n
    refine q1 (.ref p) (tset T1 p .frz) al1 _ (Ext.laid n .frz) ((w1.laid n).tag (by rw [n']; decide) (by rw [n']; decide) upd_same) ?_
    exact .tup (fz_of tset_same upd_same) (RepAll.ext r1 (Ext.laid n .frz))
  | err c x st2 =>
    unfold lim at e
    split at e <;> cases e
  | bad =>
    rw [e] at q1
    exact q1.elim
theorem pn_lst {f : Env → Mo (List D)} (h : PL G X W H0 es f) : PN G X W H0 (.List es pos) (nLst f) := by
  intro r st σ T al H Q S w q
  refine rdE (pe_lst pa_rd) (h r st σ T al H _ S w (seqP back_N q fun xs st1 vs T1 al1 H1 _ x1 w1 r1 q1 => ?_))
  cases e : lim xs.length xs st1 with
  | ok y st2 =>
    rw [e] at q1
    obtain ⟨hl, rfl, rfl⟩ := lim_ok e
    refine ⟨by rw [r1.length]; exact hl, fun p n => ?_⟩
    have n' := w1.free n
    exact q1 (.ref p) T1 al1 _ (Ext.laid0 n) (w1.laid n) ⟨p, vs, rfl, n, n', upd_same, RepAll.ext r1 (Ext.laid0 n)⟩
  | err c x st2 =>
    unfold lim at e
    split at e <;> cases e
  | bad =>
    rw [e] at q1
    exact q1.elim

def BinR (G : GX) (X : Cx) (f : Value → Value → Sem Value) (o : D → D → Option D) : Prop :=
  ∀ (x y z : D), o x y = some z → ∀ (pins : List (Addr × Obj)) (s : Shared) (σ : L2.St) (st : St) (T : Tg) (al : List Addr) (H : Hp) (v u : V) (vv uu : Value) (Q : VK), Inv X pins σ H s → WI X.K G.TB T al st H → RepH X.K T al H v x → RepH X.K T al H u y → RelV v vv → RelV u uu →
    (∀ (t : V) (T' : Tg) (al' : List Addr) (H' : Hp), Ext T al H T' al' H' → WI X.K G.TB T' al' st H' → Rep X.K (fz T' H') al' t z → Q t H') → wpAny (model X.prog X.w) X.A (f vv uu) (EP X pins σ Q) X.xe s
theorem optP {b u : Type} {Rp : Hp → Tg → List Addr → Hp → u → b → Prop} {o : Option b} {st : St} {σ : L2.St} {T : Tg} {al : List Addr} {H : Hp} {Q : u → Hp → Prop} {P : Prop} (q : Post G X.K W Rp σ T al H Q (Mo.opt o st)) (h : ∀ y, o = some y → Post G X.K W Rp σ T al H Q (.ok y st) → P) : P := by
  cases o with
  | none => exact q.elim
  | some y => exact h y rfl q
theorem pd_bin {op : Operator} {o : D → D → Option D} {f g : Env → Mo D} (hr : BinR G X (binaryOp op) o) (ha : PH G X W H0 a f) (hb : PH G X W H0 b g) : PD G X W H0 (.BinOp a op b pos) (eBin o f g) := by
  intro r st σ T al H Q S w q pins s I
  refine wpAny_BinOp (binT (R := fun x y H' => ∀ pins s vv uu, Inv X pins σ H' s → RelV x vv → RelV y uu → wpAny (model X.prog X.w) X.A (binaryOp op vv uu) (EP X pins σ Q) X.xe s) pe_rd pe_rd I ?_ fun v u s2 x y H2 I2 rx ry q => q pins s2 v u I2 rx ry)
  refine ha r st σ T al H _ S w (seqP back_D q fun x st1 v T1 al1 H1 _ x1 w1 r1 q1 => ?_)
  refine hb r st1 σ T1 al1 H1 _ (S.ext x1) w1 (seqP back_D q1 fun y st2 u T2 al2 H2 _ x2 w2 r2 q2 => ?_)
  intro pins s vv uu I rv ru
  exact optP q2 fun z hz q3 => hr x y z hz pins s σ st2 T2 al2 H2 v u vv uu Q I w2 (RepH.ext r1 x2) r2 rv ru fun t T' al' H' e w' rt => q3 t T' al' H' e w' rt
theorem binR_of {f : Value → Value → Sem Value} {o : D → D → Option D} (h : ∀ (x y z : D), o x y = some z → ∃ r : R2, OpR X f r ∧ ∀ (st : St) (T : Tg) (al : List Addr) (H : Hp) (v u : V) (Q : VK), WI X.K G.TB T al st H → RepH X.K T al H v x → RepH X.K T al H u y →
    (∀ (t : V) (T' : Tg) (al' : List Addr) (H' : Hp), Ext T al H T' al' H' → WI X.K G.TB T' al' st H' → Rep X.K (fz T' H') al' t z → Q t H') → r v u H Q) : BinR G X f o := by
  intro x y z hz pins s σ st T al H v u vv uu Q I w rx ry rv ru q
  obtain ⟨r, ho, hr⟩ := h x y z hz
  exact ho pins s σ H v u vv uu Q I rv ru (hr st T al H v u Q w rx ry q)
theorem rep_int {K : PySem.W.Frag} {F : Hp} {al : List Addr} {v : V} {i : Int} (h : Rep K F al v (.int i)) : v = .int i := by
  cases h
  rfl
theorem rep_bl {K : PySem.W.Frag} {F : Hp} {al : List Addr} {v : V} {i : Bool} (h : Rep K F al v (.bl i)) : v = .bl i := by
  cases h
  rfl
theorem rep_str {K : PySem.W.Frag} {F : Hp} {al : List Addr} {v : V} {i : Str} (h : Rep K F al v (.str i)) : v = .str i := by
  cases h
  rfl
theorem rep_non {K : PySem.W.Frag} {F : Hp} {al : List Addr} {v : V} (h : Rep K F al v .non) : v = .non := by
  cases h
  rfl
theorem rep_tup {K : PySem.W.Frag} {F : Hp} {al : List Addr} {v : V} {ds : List D} (h : Rep K F al v (.tup ds)) : ∃ a xs, v = .ref a ∧ SqT K F a xs ∧ RepAll K F al xs ds := by
  cases h with
  | tup h r => exact ⟨_, _, rfl, .inl (.inl h), r⟩
theorem rep_tupP {K : PySem.W.Frag} {F : Hp} {al : List Addr} {v : V} {ds : List D} (h : Rep K F al v (.tup ds)) : ∃ a xs, v = .ref a ∧ F a = some (.tup xs) ∧ RepAll K F al xs ds := by
  cases h with
  | tup h r => exact ⟨_, _, rfl, h, r⟩
theorem rep_kls {K : PySem.W.Frag} {F : Hp} {al : List Addr} {v : V} {ds : List D} (h : Rep K F al v (.kls ds)) : ∃ a xs, v = .ref a ∧ SqL K F a xs ∧ RepAll K F al xs ds := by
  cases h with
  | kls h r => exact ⟨_, _, rfl, h, r⟩
theorem rep_dcx {K : PySem.W.Frag} {F : Hp} {al : List Addr} {v : V} {ds : List (List Key × D)} (h : Rep K F al v (.dcx ds)) : ∃ a o xs, v = .ref a ∧ F a = some (.frz o (.dT xs)) ∧ RepKx K F al xs ds := by
  cases h with
  | dcx h r => exact ⟨_, _, _, rfl, h, r⟩
theorem rep_ktp {K : PySem.W.Frag} {F : Hp} {al : List Addr} {v : V} {ds : List D} (h : Rep K F al v (.ktp ds)) : ∃ a xs, v = .ref a ∧ SqT K (fun _ => none) a xs ∧ RepAll K F al xs ds := by
  cases h with
  | ktp h r => exact ⟨_, _, rfl, h, r⟩
theorem rep_lst {K : PySem.W.Frag} {F : Hp} {al : List Addr} {v : V} {ds : List D} (h : Rep K F al v (.lst ds)) : ∃ a xs, v = .ref a ∧ F a = some (.lst xs) ∧ RepAll K F al xs ds := by
  cases h with
  | lst h r => exact ⟨_, _, rfl, h, r⟩
theorem rep_dct {K : PySem.W.Frag} {F : Hp} {al : List Addr} {v : V} {ds : List (Key × D)} (h : Rep K F al v (.dct ds)) : ∃ a xs, v = .ref a ∧ F a = some (.dK xs) ∧ RepKv K F al xs ds := by
  cases h with
  | dct h r => exact ⟨_, _, rfl, h, r⟩

theorem pb_not {f : Env → Mo Bool} (h : PB G X W H0 a f) : PB G X W H0 (.UnaryOp .Not a pos) (bNot f) := by
  intro r st σ T al H Q S w q
  refine rdT (pt_not pt_rd) (h r st σ T al H _ S w (seqP back_B q fun x st1 v T1 al1 H1 _ x1 w1 r1 q1 => ?_))
  cases r1
  exact q1 (!x) T1 al1 H1 .refl w1 rfl
theorem PBW.pb {f : Env → Mo Bool} (h : PBW G X W H0 e f) : PB G X W H0 e f := fun r st σ T al H Q S w q => rdT pw_rd.pt (h r st σ T al H Q S w q)
variable {rest : List Expr}
theorem pb_or1 {f : Env → Mo Bool} (h : PB G X W H0 a f) : PBW G X W H0 (.BoolOp .Or [a] pos) f := fun r st σ T al H Q S w q => rdW (pw_or1 pt_rd) (h r st σ T al H Q S w q)
theorem pb_or {f g : Env → Mo Bool} (ha : PB G X W H0 a f) (hb : PBW G X W H0 (.BoolOp .Or (b :: rest) pos) g) : PBW G X W H0 (.BoolOp .Or (a :: b :: rest) pos) (bOr f g) := by
  intro r st σ T al H Q S w q
  refine rdW (pw_or pt_rd pw_rd) (ha r st σ T al H _ S w (seqP back_B q fun x st1 v T1 al1 H1 _ x1 w1 r1 q1 => ?_))
  cases r1
  cases x with
  | true => exact iteT (q1 true T1 al1 H1 .refl w1 rfl)
  | false => exact iteF (hb r st1 σ T1 al1 H1 Q (S.ext x1) w1 q1)
theorem pd_if {c : Expr} {t : Env → Mo Bool} {f g : Env → Mo D} (hc : PB G X W H0 c t) (ha : PD G X W H0 a f) (hb : PD G X W H0 b g) : PD G X W H0 (.IfExp c a b pos) (eIf t f g) := by
  intro r st σ T al H Q S w q
  refine rdE (pe_ifExp pt_rd pe_rd pe_rd) (hc r st σ T al H _ S w (seqP back_D q fun x st1 v T1 al1 H1 _ x1 w1 r1 q1 => ?_))
  cases r1
  cases x with
  | true => exact iteT (ha r st1 σ T1 al1 H1 Q (S.ext x1) w1 q1)
  | false => exact iteF (hb r st1 σ T1 al1 H1 Q (S.ext x1) w1 q1)
end
end Pi
namespace Pi
open PySem PySem.Spec PyProof.Rows L2

structure COk (X : Cx) : Prop where
  gd : X.A.guards = some []
  un : X.A.units + 200 < cLine
  sys : ∃ o, X.K.lookup sysModules = some o

section
variable {X : Cx} {pins : List (Addr × Obj)} {σ : L2.St} {H F : Hp} {s : Shared} {al : List Addr}
theorem sys_ne (I : Inv X pins σ H s) (ok : COk X) {a : Addr} {o : HO} (h : H a = some o) : a ≠ sysModules := fun z => by
  obtain ⟨o', e⟩ := ok.sys
  have q := I.bs sysModules o' (I.ok.mod.kin _ _ e)
  rw [z, q.2] at h
  cases h
theorem sqL_sys (I : Inv X pins σ H s) (ok : COk X) {a : Addr} {xs : List V} (h : SqL X.K H a xs) : a ≠ sysModules ∨ ∃ o, X.K.lookup a = some o ∧ o.cls = .type "list" := by
  rcases h with (h | ⟨o, h⟩) | ⟨o, its, n, h, hc, _⟩
  · exact .inl (sys_ne I ok h)
  · exact .inl (sys_ne I ok h)
  · exact .inr ⟨o, h, hc⟩
structure NoSys (K : PySem.W.Frag) : Prop where
  no : ∀ o, K.lookup sysModules = some o → o.cls ≠ .type "list"
theorem sqL_ne (I : Inv X pins σ H s) (ok : COk X) (ns : NoSys X.K) {a : Addr} {xs : List V} (h : SqL X.K H a xs) : a ≠ sysModules := by
  rcases sqL_sys I ok h with z | ⟨o, e, c⟩
  · exact z
  · intro z
    rw [z] at e
    exact ns.no o e c
mutual
theorem Rep.reads (I : Inv X pins σ H s) (ok : COk X) (ns : NoSys X.K) (hF : Same F H) : ∀ (d : D) (v : V) (u : Value), d.still = true → Rep X.K F al v d → RelV v u → ∃ as, Reads s.heap u d.py as ∧ sysModules ∉ as
  | .non, _, _, _, h, r => by
    cases h
    cases r
    exact ⟨_, by rw [D.py]; exact Reads.none, by simp⟩
  | .bl b, _, _, _, h, r => by
    cases h
    cases r
    exact ⟨_, by rw [D.py]; exact Reads.bool b, by simp⟩
  | .int i, _, _, _, h, r => by
    cases h
    obtain ⟨t, rfl⟩ := r
    exact ⟨_, by rw [D.py]; exact Reads.int i t, by simp⟩
  | .str x, _, _, _, h, r => by
    cases h
    obtain ⟨t, rfl⟩ := r
    exact ⟨_, by rw [D.py]; exact Reads.str x t, by simp⟩
  | .lst ds, _, _, hs, h, r => by
    cases h with
    | @lst a _ _ hl ha =>
      cases r
      have hl' : SqL X.K H _ _ := .inl (.inl (hF _ _ hl))
      obtain ⟨its, rv, ⟨o, n, ho, hc, _, hd⟩, _⟩ := I.list hl'
      obtain ⟨as, hr, hn⟩ := RepAll.reads I ok ns hF ds _ its (by simpa [D.still] using hs) ha rv
      refine ⟨_, by rw [D.py]; exact Reads.list ho hc hd hr, fun z => ?_⟩
      rcases List.mem_cons.mp z with z | z
      · exact sqL_ne I ok ns hl' z.symm
      · exact hn z
  | .tup ds, _, _, hs, h, r => by
    cases h with
    | tup hl ha =>
      cases r
      obtain ⟨its, rv, ⟨o, ho, hc, n, hd⟩, _⟩ := I.tuple (.inl (.inl (hF _ _ hl)))
      obtain ⟨as, hr, hn⟩ := RepAll.reads I ok ns hF ds _ its (by simpa [D.still] using hs) ha rv
      exact ⟨_, by rw [D.py]; exact Reads.tuple ho hc hd hr, hn⟩
  | .ktp ds, _, _, hs, h, r => by
    cases h with
    | ktp hl ha =>
      cases r
      obtain ⟨its, rv, ⟨o, ho, hc, n, hd⟩, _⟩ := I.tuple (sqT_k hl)
      obtain ⟨as, hr, hn⟩ := RepAll.reads I ok ns hF ds _ its (by simpa [D.still] using hs) ha rv
      exact ⟨_, by rw [D.py]; exact Reads.tuple ho hc hd hr, hn⟩
  | .dct ds, _, _, hs, h, r => by
    cases h with
    | @dct a kvs _ hl ha =>
      cases r
      have hH := hF _ _ hl
      obtain ⟨hz, hS, vs, rv, o, es, ep, ho, hex, hd, hko, hp, hnd⟩ : kvs.length ≤ sizeLine ∧ (a == sysModules) = false ∧ ∃ vs, KV kvs vs ∧ s.heap.DictOf (mixKind X.prog X.w) a vs := I.hok a _ hH
      obtain ⟨as, bs, h1, h2, n1, n2⟩ := RepKv.reads I ok ns hF ds kvs vs es.toList (by simpa [D.still] using hs) ha rv hp
      refine ⟨_, by rw [D.py]; exact Reads.dict ho hex.1 hd h1 h2, fun z => ?_⟩
      rcases List.mem_append.mp z with z | z
      · rcases List.mem_cons.mp z with z | z
        · rw [z] at hS
          simp at hS
        · exact n1 z
      · exact n2 z
  | .obj n, _, _, hs, _, _ => by simp [D.still] at hs
  | .exc _ _ _, _, _, hs, _, _ => by simp [D.still] at hs
  | .bex _ _, _, _, hs, _, _ => by simp [D.still] at hs
theorem RepAll.reads (I : Inv X pins σ H s) (ok : COk X) (ns : NoSys X.K) (hF : Same F H) : ∀ (ds : List D) (vs : List V) (us : List Value), D.stillAll ds = true → RepAll X.K F al vs ds → Vals vs us → ∃ as, ReadsAll s.heap us (D.pyAll ds) as ∧ sysModules ∉ as
  | [], _, _, _, h, r => by
    cases h
    cases r
    exact ⟨_, by rw [D.pyAll]; exact ReadsAll.nil, by simp⟩
  | d :: ds, _, _, hs, h, r => by
    cases h with
    | cons h1 h2 =>
      cases r with
      | cons r1 r2 =>
        have hs' : d.still = true ∧ D.stillAll ds = true := by simpa [D.stillAll] using hs
        obtain ⟨as, q1, n1⟩ := Rep.reads I ok ns hF d _ _ hs'.1 h1 r1
        obtain ⟨bs, q2, n2⟩ := RepAll.reads I ok ns hF ds _ _ hs'.2 h2 r2
        exact ⟨_, by rw [D.pyAll]; exact ReadsAll.cons q1 q2, fun z => (List.mem_append.mp z).elim n1 n2⟩
theorem RepKv.reads (I : Inv X pins σ H s) (ok : COk X) (ns : NoSys X.K) (hF : Same F H) : ∀ (ds : List (Key × D)) (kvs : List (Key × V)) (vs : List (Key × Value)) (es : List DictEntry), D.stillKv ds = true → RepKv X.K F al kvs ds → KV kvs vs → Pairs (mixKind X.prog X.w) es vs →
    ∃ as bs, ReadsAll s.heap (es.map (·.key)) ((D.pyKv ds).map (·.1)) as ∧ ReadsAll s.heap (es.map (·.val)) ((D.pyKv ds).map (·.2)) bs ∧ sysModules ∉ as ∧ sysModules ∉ bs
  | [], _, _, _, _, h, r, p => by
    cases h
    cases r
    cases p
    exact ⟨_, _, by rw [D.pyKv]; exact ReadsAll.nil, by rw [D.pyKv]; exact ReadsAll.nil, by simp, by simp⟩
  | (k, d) :: ds, _, _, _, hs, h, r, p => by
    cases h with
    | cons h1 h2 =>
      cases r with
      | cons r1 r2 =>
        cases p with
        | @cons e _ _ _ p1 p2 p3 =>
          have hs' : d.still = true ∧ D.stillKv ds = true := by simpa [D.stillKv] using hs
          obtain ⟨e1, e2⟩ := r1
          rw [← p2] at e2
          rw [← e1] at p1
          obtain ⟨as, q1, n1⟩ := Rep.reads I ok ns hF d _ _ hs'.1 h1 e2
          obtain ⟨bs, cs, q2, q3, n2, n3⟩ := RepKv.reads I ok ns hF ds _ _ _ hs'.2 h2 r2 p3
          have hk : Reads s.heap e.key (keyPy k) [] := by
            rcases keyIs_shape p1 with ⟨i, t, rfl, e3⟩ | ⟨x, t, rfl, e3⟩
            · rw [e3]
              exact Reads.int i t
            · rw [e3]
              exact Reads.str x t
          refine ⟨_, _, by rw [D.pyKv]; exact ReadsAll.cons hk q2, by rw [D.pyKv]; exact ReadsAll.cons q1 q3, by simpa using n2, fun z => (List.mem_append.mp z).elim n1 n3⟩
end
theorem RepH.reads {T : Tg} (I : Inv X pins σ H s) (ok : COk X) (ns : NoSys X.K) {d : D} {v : V} {u : Value} (hs : d.still = true) (h : RepH X.K T al H v d) (r : RelV v u) : ∃ as, Reads s.heap u d.py as ∧ sysModules ∉ as := by
  cases d with
  | lst ds =>
    obtain ⟨a, xs, rfl, hl, ha⟩ := h
    cases r
    have hl' : SqL X.K H _ _ := .inl (.inl (nw_same _ _ hl))
    obtain ⟨its, rv, ⟨o, n, ho, hc, _, hd⟩, _⟩ := I.list hl'
    obtain ⟨as, hr, hn⟩ := RepAll.reads I ok ns fz_same ds _ its (by simpa [D.still] using hs) ha rv
    refine ⟨_, by rw [D.py]; exact Reads.list ho hc hd hr, fun z => ?_⟩
    rcases List.mem_cons.mp z with z | z
    · exact sqL_ne I ok ns hl' z.symm
    · exact hn z
  | _ => exact Rep.reads I ok ns fz_same _ _ _ hs h r
end
end Pi
namespace Pi
open PySem PySem.Spec PyProof.Rows L2

def guardN {b : Type} (n : Nat) (x : b) : Option b := match Nat.ble n 16777216 with
  | true => some x
  | false => none
theorem guardN_ok {b : Type} {n : Nat} {x y : b} (h : guardN n x = some y) : n ≤ sizeLine ∧ y = x := by
  unfold guardN at h
  cases e : Nat.ble n 16777216 with
  | true =>
    rw [e] at h
    rw [line_is]
    exact ⟨Nat.le_of_ble_eq_true e, (Option.some.inj h).symm⟩
  | false =>
    rw [e] at h
    cases h
def big : Int := 18446744073709551616
def smallI (i : Int) : Bool := decide (-big < i) && decide (i < big)
def oAdd : D → D → Option D
  | .int i, .int j => some (.int (i + j))
  | .str a, .str b => guardN (a.length + b.length) (.str (a ++ b))
  | .tup xs, .tup ys => guardN (xs.length + ys.length) (.tup (xs ++ ys))
  | _, _ => none
def oSub : D → D → Option D
  | .int i, .int j => some (.int (i - j))
  | _, _ => none
def oFdiv : D → D → Option D
  | .int i, .int j => match decide (0 < j) && decide (j < 1073741824) with
    | true => some (.int (i / j))
    | false => none
  | _, _ => none
def oMod : D → D → Option D
  | .int i, .int j => match decide (0 < j) with
    | true => some (.int (i % j))
    | false => none
  | _, _ => none
def oPow : D → D → Option D
  | .int i, .int j => match decide (0 ≤ j) && decide (j ≤ 1000) && decide (i.natAbs < 18446744073709551616) with
    | true => some (.int (i ^ j.toNat))
    | false => none
  | _, _ => none
def oNeg : D → Option D
  | .int i => some (.int (-i))
  | _ => none
def intsOf : List D → Option (List Int)
  | [] => some []
  | .int i :: r => (intsOf r).map (i :: ·)
  | _ => none
def D.ints : D → Option (List Int)
  | .tup xs => intsOf xs
  | _ => none
def oOrd (p : Int → Int → Bool) (q : List Int → List Int → Bool) : D → D → Option D
  | .int i, .int j => some (.bl (p i j))
  | .tup xs, .tup ys => match intsOf xs, intsOf ys with
    | some a, some b => some (.bl (q a b))
    | _, _ => none
  | _, _ => none
def lexI : List Int → List Int → Bool
  | [], [] => false
  | [], _ :: _ => true
  | _ :: _, [] => false
  | x :: xs, y :: ys => if x = y then lexI xs ys else decide (x < y)
def oLt := oOrd (fun i j => decide (i < j)) fun a b => lexI a b
def oLe := oOrd (fun i j => decide (i ≤ j)) fun a b => !lexI b a
def oGt := oOrd (fun i j => decide (j < i)) fun a b => lexI b a
def oGe := oOrd (fun i j => decide (j ≤ i)) fun a b => !lexI a b
def D.cmpOk (d : D) : Bool := d.still && SeqAt.shaped d.py
def oEq (x y : D) : Option D := match x.cmpOk && y.cmpOk with
  | true => some (.bl (PyData.eqv x.py y.py))
  | false => none
def oNe (x y : D) : Option D := match x.cmpOk && y.cmpOk with
  | true => some (.bl (!PyData.eqv x.py y.py))
  | false => none
def D.isNon : D → Bool
  | .non => true
  | _ => false

theorem ints_rep {K : PySem.W.Frag} {F : Hp} {al : List Addr} : ∀ {ds : List D} {vs : List V} {ns : List Int}, RepAll K F al vs ds → intsOf ds = some ns → vs = ns.map V.int
  | [], _, ns, r, e => by
    cases r
    have e' : ([] : List Int) = ns := Option.some.inj e
    rw [← e']
    rfl
  | d :: ds, _, ns, r, e => by
    cases r with
    | cons r t =>
      cases d with
      | int i =>
        have e' : (intsOf ds).map (i :: ·) = some ns := e
        obtain ⟨m, hm, hn⟩ := Option.map_eq_some_iff.mp e'
        rw [← hn, rep_int r, ints_rep t hm]
        rfl
      | _ => cases e
theorem lexAt_shift {e r : Nat → Bool} {z : Bool} : ∀ (k i : Nat), Ob.lexAt e r z (i + 1) k = Ob.lexAt (fun j => e (j + 1)) (fun j => r (j + 1)) z i k
  | 0, _ => rfl
  | k + 1, i => by
    rw [Ob.lexAt_succ, Ob.lexAt_succ, lexAt_shift k (i + 1)]
theorem lexAt_ints (p : Int → Int → Bool) (z : Nat → Nat → Bool) (q : List Int → List Int → Bool) (h0 : ∀ ys, q [] ys = z 0 ys.length) (h1 : ∀ x xs, q (x :: xs) [] = z (xs.length + 1) 0) (h2 : ∀ x xs y ys, q (x :: xs) (y :: ys) = if x = y then q xs ys else p x y)
    (hz : ∀ a b, z (a + 1) (b + 1) = z a b) : ∀ (ns ms : List Int), Ob.lexAt (fun j => decide (ns.getD j 0 = ms.getD j 0)) (fun j => p (ns.getD j 0) (ms.getD j 0)) (z ns.length ms.length) 0 (min ns.length ms.length) = q ns ms
  | [], ys => by
    rw [h0]
    simp only [List.length_nil, Nat.zero_min]
    rfl
  | x :: xs, [] => by
    rw [h1]
    simp only [List.length_cons, List.length_nil, Nat.min_zero]
    rfl
  | x :: xs, y :: ys => by
    have ih := lexAt_ints p z q h0 h1 h2 hz xs ys
    have e : min (x :: xs).length (y :: ys).length = min xs.length ys.length + 1 := by simp only [List.length_cons]; omega
    rw [e, Ob.lexAt_succ, lexAt_shift, h2]
    have e3 : z (x :: xs).length (y :: ys).length = z xs.length ys.length := hz _ _
    rw [e3]
    by_cases hxy : x = y
    · rw [if_pos hxy]
      have : decide ((x :: xs).getD 0 0 = (y :: ys).getD 0 0) = true := decide_eq_true hxy
      rw [if_pos this]
      exact ih
    · rw [if_neg hxy]
      have : ¬ decide ((x :: xs).getD 0 0 = (y :: ys).getD 0 0) = true := by
        rw [decide_eq_false (show ¬ (x :: xs).getD 0 0 = (y :: ys).getD 0 0 from hxy)]
        exact Bool.false_ne_true
      rw [if_neg this]
      rfl
section
variable {G : GX} {X : Cx}
theorem r_int {K : PySem.W.Frag} {T : Tg} {al : List Addr} {H : Hp} {v : V} {i : Int} (h : RepH K T al H v (.int i)) : v = .int i := rep_int h
theorem r_str {K : PySem.W.Frag} {T : Tg} {al : List Addr} {H : Hp} {v : V} {i : Str} (h : RepH K T al H v (.str i)) : v = .str i := rep_str h
theorem r_tup {K : PySem.W.Frag} {T : Tg} {al : List Addr} {H : Hp} {v : V} {ds : List D} (h : RepH K T al H v (.tup ds)) : ∃ a xs, v = .ref a ∧ SqT K H a xs ∧ RepAll K (fz T H) al xs ds := by
  obtain ⟨a, xs, e, hs, rs⟩ := rep_tup h
  exact ⟨a, xs, e, Same.seqT fz_same hs, rs⟩
theorem r_lst {K : PySem.W.Frag} {T : Tg} {al : List Addr} {H : Hp} {v : V} {ds : List D} (h : RepH K T al H v (.lst ds)) : ∃ a xs, v = .ref a ∧ SqL K H a xs ∧ RepAll K (fz T H) al xs ds := by
  obtain ⟨a, xs, e, hs, rs⟩ := h
  exact ⟨a, xs, e, .inl (.inl (nw_same _ _ hs)), rs⟩
theorem small_ok {i : Int} (h : smallI i = true) : -(2 ^ 64) < i ∧ i < 2 ^ 64 := by
  have h' := Bool.and_eq_true_iff.mp h
  have h1 := of_decide_eq_true h'.1
  have h2 := of_decide_eq_true h'.2
  unfold big at h1 h2
  exact ⟨by simpa using h1, by simpa using h2⟩
theorem new_tup {K : PySem.W.Frag} {TB : List (Addr × Str)} {st : St} {T : Tg} {al : List Addr} {H : Hp} {p : Addr} {vs : List V} {ds : List D} {Q : VK} (w : WI K TB T al st H) (n : H p = none) (r : RepAll K (fz T H) al vs ds)
    (q : ∀ (t : V) (T' : Tg) (al' : List Addr) (H' : Hp), Ext T al H T' al' H' → WI K TB T' al' st H' → Rep K (fz T' H') al' t (.tup ds) → Q t H') : Q (.ref p) (upd H p (.tup vs)) := by
  have n' := w.free n
  exact q _ _ _ _ (Ext.laid n .frz) ((w.laid n).tag (by rw [n']; decide) (by rw [n']; decide) upd_same) (.tup (fz_of tset_same upd_same) (r.ext (Ext.laid n .frz)))
theorem replicate_rep {K : PySem.W.Frag} {F : Hp} {al : List Addr} {vs : List V} {ds : List D} (r : RepAll K F al vs ds) : ∀ n : Nat, RepAll K F al (List.replicate n vs).flatten (List.replicate n ds).flatten
  | 0 => .nil
  | n + 1 => by
    rw [List.replicate_succ, List.replicate_succ, List.flatten_cons, List.flatten_cons]
    exact r.append (replicate_rep r n)
theorem bin_add : BinR G X (binaryOp .Add) oAdd := binR_of fun x y z hz => by
  cases x with
  | int i =>
    cases y with
    | int j =>
      have e : D.int (i + j) = z := Option.some.inj hz
      subst e
      exact ⟨_, op_add, fun st T al H v u Q w rx ry q => ⟨i, j, r_int rx, r_int ry, q _ T al H .refl w (.int _)⟩⟩
    | _ => cases hz
  | str i =>
    cases y with
    | str j =>
      obtain ⟨hl, rfl⟩ := guardN_ok (show guardN _ _ = some z from hz)
      exact ⟨_, op_add_str, fun st T al H v u Q w rx ry q => ⟨i, j, r_str rx, r_str ry, hl, q _ T al H .refl w (.str _)⟩⟩
    | _ => cases hz
  | tup xs =>
    cases y with
    | tup ys =>
      obtain ⟨hl, rfl⟩ := guardN_ok (show guardN _ _ = some z from hz)
      refine ⟨_, op_catA, fun st T al H v u Q w rx ry q => ?_⟩
      obtain ⟨a, vs, rfl, h1, r1⟩ := r_tup rx
      obtain ⟨b, us, rfl, h2, r2⟩ := r_tup ry
      refine ⟨a, b, vs, us, rfl, rfl, h1, h2, by rw [r1.length, r2.length]; exact hl, fun e => ?_, fun _ e => ?_, fun _ _ p n => new_tup w n (r1.append r2) q⟩
      · rw [e] at r1
        cases r1
        exact q _ T al H .refl w ry
      · rw [e] at r2
        cases r2
        rw [List.append_nil] at q
        exact q _ T al H .refl w rx
    | _ => cases hz
  | _ => cases y <;> cases hz
theorem bin_sub : BinR G X (binaryOp .Sub) oSub := binR_of fun x y z hz => by
  cases x with
  | int i =>
    cases y with
    | int j =>
      have e : D.int (i - j) = z := Option.some.inj hz
      subst e
      exact ⟨_, op_sub, fun st T al H v u Q w rx ry q => ⟨i, j, r_int rx, r_int ry, q _ T al H .refl w (.int _)⟩⟩
    | _ => cases hz
  | _ => cases y <;> cases hz
theorem bin_fdiv : BinR G X (binaryOp .FloorDiv) oFdiv := binR_of fun x y z hz => by
  cases x with
  | int i =>
    cases y with
    | int j =>
      have hz' : (match decide (0 < j) && decide (j < 1073741824) with
        | true => some (D.int (i / j))
        | false => none) = some z := hz
      cases e : decide (0 < j) && decide (j < 1073741824) with
      | false =>
        rw [e] at hz'
        cases hz'
      | true =>
        rw [e] at hz'
        have e2 : D.int (i / j) = z := Option.some.inj hz'
        subst e2
        simp only [Bool.and_eq_true, decide_eq_true_eq] at e
        exact ⟨_, op_fdiv, fun st T al H v u Q w rx ry q => ⟨i, j, r_int rx, r_int ry, e, q _ T al H .refl w (.int _)⟩⟩
    | _ => cases hz
  | _ => cases y <;> cases hz
theorem bin_mod : BinR G X (binaryOp .Mod) oMod := binR_of fun x y z hz => by
  cases x with
  | int i =>
    cases y with
    | int j =>
      have hz' : (match decide (0 < j) with
        | true => some (D.int (i % j))
        | false => none) = some z := hz
      cases e : decide (0 < j) with
      | false =>
        rw [e] at hz'
        cases hz'
      | true =>
        rw [e] at hz'
        have e2 : D.int (i % j) = z := Option.some.inj hz'
        subst e2
        exact ⟨_, op_mod, fun st T al H v u Q w rx ry q => ⟨i, j, r_int rx, r_int ry, of_decide_eq_true e, q _ T al H .refl w (.int _)⟩⟩
    | _ => cases hz
  | _ => cases y <;> cases hz
theorem bin_pow : BinR G X (binaryOp .Pow) oPow := binR_of fun x y z hz => by
  cases x with
  | int i =>
    cases y with
    | int j =>
      have hz' : (match decide (0 ≤ j) && decide (j ≤ 1000) && decide (i.natAbs < 18446744073709551616) with
        | true => some (D.int (i ^ j.toNat))
        | false => none) = some z := hz
      cases e : decide (0 ≤ j) && decide (j ≤ 1000) && decide (i.natAbs < 18446744073709551616) with
      | false =>
        rw [e] at hz'
        cases hz'
      | true =>
        rw [e] at hz'
        have e2 : D.int (i ^ j.toNat) = z := Option.some.inj hz'
        subst e2
        simp only [Bool.and_eq_true, decide_eq_true_eq] at e
        exact ⟨_, op_pow, fun st T al H v u Q w rx ry q => ⟨i, j, r_int rx, r_int ry, ⟨e.1.1, by omega, by simpa using e.2⟩, q _ T al H .refl w (.int _)⟩⟩
    | _ => cases hz
  | _ => cases y <;> cases hz

theorem ord_tup {op : CmpOp} {p : Int → Int → Bool} {zz : Nat → Nat → Bool} {qq : List Int → List Int → Bool} (hu : X.A.units < cLine)
    (rule : ∀ {A : Around} {s : Shared} {l b : Addr} {items items2 : Array Value} {e r : Nat → Bool} (_ : s.heap.IsTuple l items) (_ : s.heap.IsTuple b items2) (_ : A.units < cLine)
      (_ : ∀ j (h1 : j < items.size) (h2 : j < items2.size), SeqAt.EqAt A.in1 s items[j] items2[j] (e j))
      (_ : ∀ j (h1 : j < items.size) (h2 : j < items2.size), e j = false → Ob.RcOp op A.in1 s items[j] items2[j] (r j)),
      Ob.RcOp op A s (.ref l) (.ref b) (Ob.lexAt e r (zz items.size items2.size) 0 (min items.size items2.size)))
    (one : ∀ {A : Around} {s : Shared} (a b : Int) (t u : Tok), Ob.RcOp op A s (.int a t) (.int b u) (p a b))
    (h0 : ∀ ys, qq [] ys = zz 0 ys.length) (h1 : ∀ x xs, qq (x :: xs) [] = zz (xs.length + 1) 0) (h2 : ∀ x xs y ys, qq (x :: xs) (y :: ys) = if x = y then qq xs ys else p x y)
    (hz : ∀ a b, zz (a + 1) (b + 1) = zz a b) (hc : ∀ a b, compareOp op a b = richCompare op a b := by intros; rfl) :
    OpR X (compareOp op) (fun x y H Q => ∃ (a b : Addr) (ns ms : List Int), x = .ref a ∧ y = .ref b ∧ SqT X.K H a (ns.map V.int) ∧ SqT X.K H b (ms.map V.int) ∧ Q (.bl (qq ns ms)) H) := by
  intro pins s σ H x y v u Q I rx ry h
  obtain ⟨a, b, ns, ms, rfl, rfl, ha, hb, q⟩ := h
  cases rx
  cases ry
  obtain ⟨its, r1, p1, _⟩ := I.tuple ha
  obtain ⟨its2, r2, p2, _⟩ := I.tuple hb
  have i1 : IntsAre its ns := Vals.ints r1
  have i2 : IntsAre its2 ms := Vals.ints r2
  have e1 : its.toArray.size = ns.length := by rw [List.size_toArray]; exact i1.length
  have e2 : its2.toArray.size = ms.length := by rw [List.size_toArray]; exact i2.length
  have at1 : ∀ j (h1 : j < its.toArray.size), ∃ t, its.toArray[j] = .int (ns.getD j 0) t := fun j h1 => PyProof.Rows.IntsAre.int_at i1 _ _ (by simp at h1; simp [h1])
  have at2 : ∀ j (h1 : j < its2.toArray.size), ∃ t, its2.toArray[j] = .int (ms.getD j 0) t := fun j h1 => PyProof.Rows.IntsAre.int_at i2 _ _ (by simp at h1; simp [h1])
  have R := rule (A := X.A) (s := s) (e := fun j => decide (ns.getD j 0 = ms.getD j 0)) (r := fun j => p (ns.getD j 0) (ms.getD j 0)) p1 p2 hu (fun j h1 h2 => by
    obtain ⟨t, et⟩ := at1 j h1
    obtain ⟨t', et'⟩ := at2 j h2
    rw [et, et']
    have z : (ns.getD j 0 == ms.getD j 0) = decide (ns.getD j 0 = ms.getD j 0) := by
      by_cases q : ns.getD j 0 = ms.getD j 0
      · rw [decide_eq_true q]; exact beq_iff_eq.mpr q
      · rw [decide_eq_false q]; exact beq_eq_false_iff_ne.mpr q
    rw [← z]
    exact SeqAt.EqAt.int_int _ _ _ _) (fun j h1 h2 _ => by
    obtain ⟨t, et⟩ := at1 j h1
    obtain ⟨t', et'⟩ := at2 j h2
    rw [et, et']
    exact one _ _ _ _)
  rw [e1, e2, lexAt_ints p zz qq h0 h1 h2 hz] at R
  rw [hc]
  exact R X.prog X.w X.xe (EP X pins σ Q) ⟨.bl _, H, I, rfl, q⟩
theorem bin_ord {op : CmpOp} {p : Int → Int → Bool} {qq : List Int → List Int → Bool} (h1 : OpR X (compareOp op) (rI0 fun i j => .bl (p i j)))
    (h2 : OpR X (compareOp op) (fun x y H Q => ∃ (a b : Addr) (ns ms : List Int), x = .ref a ∧ y = .ref b ∧ SqT X.K H a (ns.map V.int) ∧ SqT X.K H b (ms.map V.int) ∧ Q (.bl (qq ns ms)) H)) : BinR G X (compareOp op) (oOrd p qq) := binR_of fun x y z hz => by
  cases x with
  | int i =>
    cases y with
    | int j =>
      have e : D.bl (p i j) = z := Option.some.inj hz
      subst e
      exact ⟨_, h1, fun st T al H v u Q w rx ry q => ⟨i, j, r_int rx, r_int ry, q _ T al H .refl w (.bl _)⟩⟩
    | _ => cases hz
  | tup xs =>
    cases y with
    | tup ys =>
      have hz' : (match intsOf xs, intsOf ys with
        | some a, some b => some (D.bl (qq a b))
        | _, _ => none) = some z := hz
      cases e1 : intsOf xs with
      | none => rw [e1] at hz'; cases hz'
      | some a =>
        cases e2 : intsOf ys with
        | none => rw [e1, e2] at hz'; cases hz'
        | some b =>
          rw [e1, e2] at hz'
          have e : D.bl (qq a b) = z := Option.some.inj hz'
          subst e
          refine ⟨_, h2, fun st T al H v u Q w rx ry q => ?_⟩
          obtain ⟨p1, vs, rfl, s1, r1⟩ := r_tup rx
          obtain ⟨p2, us, rfl, s2, r2⟩ := r_tup ry
          rw [ints_rep r1 e1] at s1
          rw [ints_rep r2 e2] at s2
          exact ⟨p1, p2, a, b, rfl, rfl, s1, s2, q _ T al H .refl w (.bl _)⟩
    | _ => cases hz
  | _ => cases y <;> cases hz
theorem bin_lt (ok : COk X) : BinR G X (compareOp .Lt) oLt := bin_ord op_lt (ord_tup (zz := fun a b => decide (a < b)) (by have := ok.un; omega) Ob.RcOp.tuples_lt Ob.RcOp.lt_int (fun ys => by cases ys <;> simp [lexI]) (fun x xs => by simp [lexI]) (fun x xs y ys => rfl) (fun a b => by simp))
theorem not_if {c : Prop} [Decidable c] {a b : Bool} : (!(if c then a else b)) = if c then !a else !b := by
  split <;> rfl
theorem bin_le (ok : COk X) : BinR G X (compareOp .LtE) oLe := bin_ord op_le (ord_tup (zz := fun a b => decide (a ≤ b)) (by have := ok.un; omega) Ob.RcOp.tuples_le Ob.RcOp.le_int (fun ys => by cases ys <;> simp [lexI]) (fun x xs => by simp [lexI]) (fun x xs y ys => by
  show (!(if y = x then lexI ys xs else decide (y < x))) = _
  rw [not_if]
  by_cases h : x = y
  · rw [if_pos h, if_pos h.symm]
  · rw [if_neg h, if_neg (fun z => h z.symm)]
    by_cases g : x ≤ y
    · rw [decide_eq_true g, decide_eq_false (by omega)]; rfl
    · rw [decide_eq_false g, decide_eq_true (by omega)]; rfl) (fun a b => by simp))
theorem bin_gt (ok : COk X) : BinR G X (compareOp .Gt) oGt := bin_ord op_gt (ord_tup (zz := fun a b => decide (a > b)) (by have := ok.un; omega) Ob.RcOp.tuples_gt Ob.RcOp.gt_int (fun ys => by cases ys <;> simp [lexI]) (fun x xs => by simp [lexI]) (fun x xs y ys => by
  show (if y = x then lexI ys xs else decide (y < x)) = _
  by_cases h : x = y
  · rw [if_pos h, if_pos h.symm]
  · rw [if_neg h, if_neg (fun z => h z.symm)]) (fun a b => by simp))
theorem bin_ge (ok : COk X) : BinR G X (compareOp .GtE) oGe := bin_ord op_ge (ord_tup (zz := fun a b => decide (a ≥ b)) (by have := ok.un; omega) Ob.RcOp.tuples_ge Ob.RcOp.ge_int (fun ys => by cases ys <;> simp [lexI]) (fun x xs => by simp [lexI]) (fun x xs y ys => by
  show (!(if x = y then lexI xs ys else decide (x < y))) = _
  rw [not_if]
  by_cases h : x = y
  · rw [if_pos h, if_pos h]
  · rw [if_neg h, if_neg h]
    by_cases g : y ≤ x
    · rw [decide_eq_true g, decide_eq_false (by omega)]; rfl
    · rw [decide_eq_false g, decide_eq_true (by omega)]; rfl) (fun a b => by simp))

theorem bin_eq (ok : COk X) (ns : NoSys X.K) : BinR G X (compareOp .Eq) oEq := by
  intro x y z hz pins s σ st T al H v u vv uu Q I w rx ry rv ru q
  unfold oEq at hz
  cases e : x.cmpOk && y.cmpOk with
  | false => rw [e] at hz; cases hz
  | true =>
    rw [e] at hz
    have ez : D.bl (PyData.eqv x.py y.py) = z := Option.some.inj hz
    subst ez
    unfold D.cmpOk at e
    simp only [Bool.and_eq_true] at e
    obtain ⟨as, h1, _⟩ := rx.reads I ok ns e.1.1 rv
    obtain ⟨bs, h2, _⟩ := ry.reads I ok ns e.2.1 ru
    exact SeqAt.compareEq_shaped h1 h2 e.1.2 e.2.2 (by have := ok.un; omega) ⟨.bl _, H, I, rfl, q (.bl _) T al H .refl w (.bl _)⟩
theorem bin_ne (ok : COk X) (ns : NoSys X.K) : BinR G X (compareOp .NotEq) oNe := by
  intro x y z hz pins s σ st T al H v u vv uu Q I w rx ry rv ru q
  unfold oNe at hz
  cases e : x.cmpOk && y.cmpOk with
  | false => rw [e] at hz; cases hz
  | true =>
    rw [e] at hz
    have ez : D.bl (!PyData.eqv x.py y.py) = z := Option.some.inj hz
    subst ez
    unfold D.cmpOk at e
    simp only [Bool.and_eq_true] at e
    obtain ⟨as, h1, _⟩ := rx.reads I ok ns e.1.1 rv
    obtain ⟨bs, h2, _⟩ := ry.reads I ok ns e.2.1 ru
    exact SeqAt.compareNe_shaped h1 h2 e.1.2 e.2.2 (by have := ok.un; omega) ⟨.bl _, H, I, rfl, q (.bl _) T al H .refl w (.bl _)⟩
end
end Pi
namespace Pi
open PySem PySem.Spec PyProof.Rows L2

def oIn (x y : D) : Option D := match x.cmpOk && y.cmpOk with
  | true => (match y with
    | .tup ys => some (.bl (ys.any fun z => PyData.eqv z.py x.py))
    | .ktp ys => some (.bl (ys.any fun z => PyData.eqv z.py x.py))
    | .lst ys => some (.bl (ys.any fun z => PyData.eqv z.py x.py))
    | _ => none)
  | false => none
def oIs (x y : D) : Option D := match y with
  | .non => some (.bl x.isNon)
  | _ => none
def oIsNot (x y : D) : Option D := match y with
  | .non => some (.bl (!x.isNon))
  | _ => none
def D.toB : D → Option Bool
  | .bl b => some b
  | _ => none
def bCmp (o : D → D → Option D) (f g : Env → Mo D) : Env → Mo Bool := fun r => eBin o f g r >>= fun z => Mo.opt z.toB
def eChain (o o2 : D → D → Option D) (f g h : Env → Mo D) : Env → Mo D := fun r => f r >>= fun x => g r >>= fun y => Mo.opt ((o x y).bind D.toB) >>= fun b => match b with
  | true => h r >>= fun z => Mo.opt (o2 y z)
  | false => pure (.bl false)
def bOf (f : Env → Mo D) : Env → Mo Bool := fun r => f r >>= fun z => Mo.opt z.toB
def eAnd (f g : Env → Mo D) : Env → Mo D := fun r => f r >>= fun x => Mo.opt x.toB >>= fun b => match b with
  | true => g r
  | false => pure (.bl false)
def eOr (f g : Env → Mo D) : Env → Mo D := fun r => f r >>= fun x => Mo.opt x.toB >>= fun b => match b with
  | true => pure (.bl true)
  | false => g r
def oNot : D → Option D
  | .bl b => some (.bl (!b))
  | _ => none
theorem pyAll_map : ∀ xs : List D, D.pyAll xs = xs.map D.py
  | [] => by rw [D.pyAll]; rfl
  | x :: xs => by rw [D.pyAll, pyAll_map xs]; rfl
theorem any_py (x : PyData) : ∀ ys : List D, ((D.pyAll ys).any fun z => PyData.eqv z x) = ys.any fun z => PyData.eqv z.py x := fun ys => by
  rw [pyAll_map, List.any_map]
  rfl
theorem cmp_parts {x y : D} (h : (x.cmpOk && y.cmpOk) = true) : x.still = true ∧ SeqAt.shaped x.py = true ∧ y.still = true ∧ SeqAt.shaped y.py = true := by
  unfold D.cmpOk at h
  simp only [Bool.and_eq_true] at h
  exact ⟨h.1.1, h.1.2, h.2.1, h.2.2⟩
theorem oIn_ok {x y z : D} (h : oIn x y = some z) : (x.cmpOk && y.cmpOk) = true ∧ ((∃ ys, y.py = .tuple (D.pyAll ys) ∧ z = .bl (ys.any fun z => PyData.eqv z.py x.py)) ∨ (∃ ys, y = .lst ys ∧ z = .bl (ys.any fun z => PyData.eqv z.py x.py))) := by
  unfold oIn at h
  cases e : x.cmpOk && y.cmpOk with
  | false => rw [e] at h; cases h
  | true =>
    rw [e] at h
    refine ⟨rfl, ?_⟩
    cases y with
    | tup ys => exact .inl ⟨ys, by rw [D.py], (Option.some.inj h).symm⟩
    | ktp ys => exact .inl ⟨ys, by rw [D.py], (Option.some.inj h).symm⟩
    | lst ys => exact .inr ⟨ys, rfl, (Option.some.inj h).symm⟩
    | _ => cases h
section
variable {G : GX} {X : Cx} {W : WX} {H0 : Hp} {a b c e : Expr} {rest : List Expr} {pos : Pos}
theorem bin_in (ok : COk X) (ns : NoSys X.K) : BinR G X (compareOp .In) oIn := by
  intro x y z hz pins s σ st T al H v u vv uu Q I w rx ry rv ru q
  obtain ⟨e, h⟩ := oIn_ok hz
  obtain ⟨s1, c1, s2, c2⟩ := cmp_parts e
  obtain ⟨as, h1, _⟩ := rx.reads I ok ns s1 rv
  obtain ⟨bs, h2, _⟩ := ry.reads I ok ns s2 ru
  have hu : X.A.units + 65 < cLine := by have := ok.un; omega
  rcases h with ⟨ys, ey, rfl⟩ | ⟨ys, rfl, rfl⟩
  · rw [ey] at h2 c2
    exact SeqAt.in_tuple_reads h2 h1 (SeqAt.canLay_of_shaped c2) (SeqAt.canLay_of_shaped c1) (PyProof.Rows.room_in_shaped c1 hu) (by rw [any_py]; exact ⟨.bl _, H, I, rfl, q (.bl _) T al H .refl w (.bl _)⟩)
  · rw [D.py] at h2 c2
    exact SeqAt.in_list_reads h2 h1 (SeqAt.canLay_of_shaped c2) (SeqAt.canLay_of_shaped c1) (PyProof.Rows.room_in_shaped c1 hu) (by rw [any_py]; exact ⟨.bl _, H, I, rfl, q (.bl _) T al H .refl w (.bl _)⟩)
theorem isNon_rep {K : PySem.W.Frag} {T : Tg} {al : List Addr} {H : Hp} {v : V} {x : D} (h : RepH K T al H v x) : decide (v = .non) = x.isNon := by
  cases x with
  | non => rw [rep_non h]; rfl
  | bl b => rw [rep_bl h]; rfl
  | int i => rw [rep_int h]; rfl
  | str i => rw [rep_str h]; rfl
  | tup ds => obtain ⟨_, _, rfl, _⟩ := rep_tup h; rfl
  | lst ds => obtain ⟨_, _, rfl, _⟩ := h; rfl
  | dct ds => obtain ⟨_, _, rfl, _⟩ := rep_dct h; rfl
  | obj n =>
    cases h
    rfl
  | exc n f x =>
    cases h
    rfl
  | bex n x =>
    cases h
    rfl
  | ktp ds => obtain ⟨_, _, rfl, _⟩ := rep_ktp h; rfl
  | kls ds => obtain ⟨_, _, rfl, _⟩ := rep_kls h; rfl
  | dcx ds => obtain ⟨_, _, _, rfl, _⟩ := rep_dcx h; rfl
theorem bin_isNot : BinR G X (compareOp .IsNot) oIsNot := binR_of fun x y z hz => by
  cases y with
  | non =>
    have ez : D.bl (!x.isNon) = z := Option.some.inj hz
    subst ez
    exact ⟨_, op_notN, fun st T al H v u Q w rx ry q => ⟨rep_non ry, by rw [isNon_rep rx]; exact q _ T al H .refl w (.bl _)⟩⟩
  | _ => cases hz

theorem cmp_run {op : CmpOp} {o : D → D → Option D} {f g : Env → Mo D} (hr : BinR G X (compareOp op) o) (ha : PH G X W H0 a f) (hb : PH G X W H0 b g) {r : Env} {st : St} {σ : L2.St} {T : Tg} {al : List Addr} {H : Hp} {Q : VK}
    (S : SL X.K H0 T al H r σ) (w : WI X.K G.TB T al st H) (q : Post G X.K W (RpD X.K) σ T al H Q (eBin o f g r st)) {pins : List (Addr × Obj)} {s : Shared} (I : Inv X pins σ H s) :
    wpAny (model X.prog X.w) X.A (eval a X.env) (fun v s₁ => wpAny (model X.prog X.w) X.A (eval b X.env) (fun u s₂ => wpAny (model X.prog X.w) X.A (compareOp op v u) (EP X pins σ Q) X.xe s₂) X.xe s₁) X.xe s := by
  refine binT (R := fun x y H' => ∀ pins s vv uu, Inv X pins σ H' s → RelV x vv → RelV y uu → wpAny (model X.prog X.w) X.A (compareOp op vv uu) (EP X pins σ Q) X.xe s) pe_rd pe_rd I ?_ fun v u s2 x y H2 I2 rx ry q => q pins s2 v u I2 rx ry
  refine ha r st σ T al H _ S w (seqP back_D q fun x st1 v T1 al1 H1 _ x1 w1 r1 q1 => ?_)
  refine hb r st1 σ T1 al1 H1 _ (S.ext x1) w1 (seqP back_D q1 fun y st2 u T2 al2 H2 _ x2 w2 r2 q2 => ?_)
  intro pins s vv uu I rv ru
  exact optP q2 fun z hz q3 => hr x y z hz pins s σ st2 T2 al2 H2 v u vv uu Q I w2 (RepH.ext r1 x2) r2 rv ru fun t T' al' H' e w' rt => q3 t T' al' H' e w' rt
theorem pd_cmp {op : CmpOp} {o : D → D → Option D} {f g : Env → Mo D} (hr : BinR G X (compareOp op) o) (ha : PH G X W H0 a f) (hb : PH G X W H0 b g) (hm : behindInMarks op b = false := by first | exact nomark _ | rfl) : PD G X W H0 (.Compare a [op] [b] pos) (eBin o f g) :=
  fun r st σ T al H Q S w q pins s I => wpAny_Compare1 (cmp_run hr ha hb S w q I) hm
theorem toB_rep {K : PySem.W.Frag} {F : Hp} {al : List Addr} {v : V} {x : D} {k : Bool} (h : Rep K F al v x) (e : x.toB = some k) : v = .bl k := by
  cases x with
  | bl b =>
    have e' : b = k := Option.some.inj e
    rw [rep_bl h, e']
  | _ => cases e
theorem post_toB {f : Mo D} {st : St} {σ : L2.St} {T : Tg} {al : List Addr} {H : Hp} {Q : Bool → Hp → Prop} (q : Post G X.K W RpB σ T al H Q ((f >>= fun z => Mo.opt z.toB) st)) : Post G X.K W (RpD X.K) σ T al H (fun x H' => ∃ k, x = .bl k ∧ Q k H') (f st) := by
  refine seqP back_B q fun x st1 v T1 al1 H1 _ x1 w1 r1 q1 => ?_
  exact optP q1 fun k hk q2 => ⟨k, toB_rep r1 hk, q2 k T1 al1 H1 .refl w1 rfl⟩
theorem pb_cmp {op : CmpOp} {o : D → D → Option D} {f g : Env → Mo D} (hr : BinR G X (compareOp op) o) (ha : PH G X W H0 a f) (hb : PH G X W H0 b g) (hm : behindInMarks op b = false := by first | exact nomark _ | rfl) : PB G X W H0 (.Compare a [op] [b] pos) (bCmp o f g) := by
  intro r st σ T al H Q S w q pins s I
  refine wpAny_isTrue_Compare1 (thn (cmp_run hr ha hb S w (post_toB q) I) fun v s1 h1 => thn h1 fun u s2 h2 => thn h2 fun c s3 ⟨z, H3, I3, r3, k, e, q3⟩ => ?_) hm
  subst e
  cases r3
  exact wpAny_truthy_bool ⟨H3, I3, q3⟩
theorem pd_chain {op op' : CmpOp} {o o2 : D → D → Option D} {f g h : Env → Mo D} (hr : BinR G X (compareOp op) o) (hr2 : BinR G X (compareOp op') o2) (ha : PH G X W H0 a f) (hb : PH G X W H0 b g) (hc : PH G X W H0 c h)
    (hm : lastMarks [op, op'] [b, c] = false := by with_unfolding_all rfl) : PD G X W H0 (.Compare a [op, op'] [b, c] pos) (eChain o o2 f g h) := by
  intro r st σ T al H Q S w q pins s I
  refine Compare_chain (thn (ha r st σ T al H (fun x H1 => ∀ pins s vv, Inv X pins σ H1 s → RelV x vv → wpAny (model X.prog X.w) X.A (eval b X.env) (fun u s2 => wpAny (model X.prog X.w) X.A (compareOp op vv u) (fun d s3 => wpAny (model X.prog X.w) X.A (truthy d) (fun k s4 => if k = true then wpAny (model X.prog X.w) X.A (eval c X.env) (fun w' s5 => wpAny (model X.prog X.w) X.A (compareOp op' u w') (EP X pins σ Q) X.xe s5) X.xe s4 else EP X pins σ Q d s4) X.xe s3) X.xe s2) X.xe s) S w ?_ pins s I) fun v s1 ⟨x, H1, I1, r1, q1⟩ => chain_link (thn (q1 pins s1 v I1 r1) fun u s2 h2 => thn h2 fun d s3 h3 => thn h3 fun k s4 h4 => ?_)) hm
  · refine seqP back_D q fun x st1 v T1 al1 H1 _ x1 w1 r1 q1 => ?_
    intro pins s vv I rv
    refine thn (hb r st1 σ T1 al1 H1 (fun y H2 => ∀ pins s uu, Inv X pins σ H2 s → RelV y uu → wpAny (model X.prog X.w) X.A (compareOp op vv uu) (fun d s3 => wpAny (model X.prog X.w) X.A (truthy d) (fun k s4 => if k = true then wpAny (model X.prog X.w) X.A (eval c X.env) (fun w' s5 => wpAny (model X.prog X.w) X.A (compareOp op' uu w') (EP X pins σ Q) X.xe s5) X.xe s4 else EP X pins σ Q d s4) X.xe s3) X.xe s) (S.ext x1) w1 ?_ pins s I) fun u s2 ⟨y, H2, I2, r2, q2⟩ => q2 pins s2 u I2 r2
    refine seqP back_D q1 fun y st2 u T2 al2 H2 _ x2 w2 r2 q2 => ?_
    intro pins s uu I ru
    have q2' : Post G X.K W (RpD X.K) σ T2 al2 H2 Q ((Mo.opt ((o x y).bind D.toB) >>= fun k => match k with
      | true => h r >>= fun z => Mo.opt (o2 y z)
      | false => pure (.bl false)) st2) := q2
    cases e : o x y with
    | none =>
      rw [e] at q2'
      exact q2'.elim
    | some z =>
      rw [e] at q2'
      cases ek : z.toB with
      | none =>
        have : (some z).bind D.toB = none := ek
        rw [this] at q2'
        exact q2'.elim
      | some k =>
        have : (some z).bind D.toB = some k := ek
        rw [this] at q2'
        refine thn (hr x y z e pins s σ st2 T2 al2 H2 v u vv uu (fun d H3 => d = .bl k ∧ ∃ T3 al3, Ext T2 al2 H2 T3 al3 H3 ∧ WI X.K G.TB T3 al3 st2 H3) I w2 (RepH.ext r1 x2) r2 rv ru fun t T' al' H' e w' rt => ⟨toB_rep rt ek, T', al', e, w'⟩) ?_
        intro d s3 ⟨zv, H3, I3, r3, ez, T3, al3, x3, w3⟩
        subst ez
        cases r3
        refine wpAny_truthy_bool ?_
        cases k with
        | false => exact iteF ⟨.bl false, H3, I3, rfl, q2' (.bl false) T3 al3 H3 x3 w3 (.bl false)⟩
        | true =>
          refine iteT ?_
          have q3 : Post G X.K W (RpD X.K) σ T3 al3 H3 Q ((h r >>= fun z => Mo.opt (o2 y z)) st2) := Post.ext back_D q2' x3
          refine thn (hc r st2 σ T3 al3 H3 (fun zc H4 => ∀ pins s ww, Inv X pins σ H4 s → RelV zc ww → wpAny (model X.prog X.w) X.A (compareOp op' uu ww) (EP X pins σ Q) X.xe s) (((S.ext x1).ext x2).ext x3) w3 ?_ pins s3 I3) fun ww s4 ⟨zc, H4, I4, r4, q4⟩ => q4 pins s4 ww I4 r4
          refine seqP back_D q3 fun zd st4 zc T4 al4 H4 _ x4 w4 r4 q4 => ?_
          intro pins s ww I rw4
          exact optP q4 fun z5 hz q5 => hr2 y zd z5 hz pins s σ st4 T4 al4 H4 u zc uu ww Q I w4 (RepH.ext (RepH.ext r2 x3) x4) r4 ru rw4 fun t T' al' H' e w' rt => q5 t T' al' H' e w' rt
  · cases k with
    | false =>
      exact ite_ff (by simpa using h4)
    | true =>
      exact ite_tt (chain_last (by simpa using h4))
theorem pb_of {f : Env → Mo D} (h : PD G X W H0 e f) (he : ∀ whole, isTrue e X.env whole = (do let v ← whole; standAt e.pos; holding [v] (truthy v)) := by intro _; rfl) : PB G X W H0 e (bOf f) := by
  intro r st σ T al H Q S w q
  exact rdT (pt_val pe_rd he) (h r st σ T al H _ S w (post_toB q))
theorem pd_one {op} {f : Env → Mo D} (h : PD G X W H0 a f) : PD G X W H0 (.BoolOp op [a] pos) f := fun r st σ T al H Q S w q => rdE (pe_one pe_rd) (h r st σ T al H Q S w q)
theorem pd_and {f g : Env → Mo D} (ha : PD G X W H0 a f) (hb : PD G X W H0 (.BoolOp .And (b :: rest) pos) g) : PD G X W H0 (.BoolOp .And (a :: b :: rest) pos) (eAnd f g) := by
  intro r st σ T al H Q S w q
  refine rdE (pe_and pe_rd pe_rd) (ha r st σ T al H _ S w (seqP back_D q fun x st1 v T1 al1 H1 _ x1 w1 r1 q1 => ?_))
  have q1' : Post G X.K W (RpD X.K) σ T1 al1 H1 Q ((Mo.opt x.toB >>= fun b => match b with
    | true => g r
    | false => pure (.bl false)) st1) := q1
  cases e : x.toB with
  | none => rw [e] at q1'; exact q1'.elim
  | some k =>
    rw [e] at q1'
    refine ⟨k, toB_rep r1 e, ?_⟩
    cases k with
    | true => exact iteT (hb r st1 σ T1 al1 H1 Q (S.ext x1) w1 q1')
    | false => exact iteF (q1' (.bl false) T1 al1 H1 .refl w1 (.bl false))
theorem pd_not {f : Env → Mo D} (ha : PD G X W H0 a f) : PD G X W H0 (.UnaryOp .Not a pos) (eUn oNot f) := by
  intro r st σ T al H Q S w q
  refine rdE (pe_not pe_rd) (ha r st σ T al H _ S w (seqP back_D q fun x st1 v T1 al1 H1 _ x1 w1 r1 q1 => ?_))
  refine optP q1 fun z hz q2 => ?_
  cases x with
  | bl k =>
    have ez : D.bl (!k) = z := Option.some.inj hz
    subst ez
    exact ⟨k, rep_bl r1, q2 (.bl (!k)) T1 al1 H1 .refl w1 (.bl _)⟩
  | _ => cases hz
theorem pd_neg {f : Env → Mo D} (ha : PH G X W H0 a f) : PD G X W H0 (.UnaryOp .USub a pos) (eUn oNeg f) := by
  intro r st σ T al H Q S w q
  refine rdE (pe_un un_neg pe_rd) (ha r st σ T al H _ S w (seqP back_D q fun x st1 v T1 al1 H1 _ x1 w1 r1 q1 => ?_))
  refine optP q1 fun z hz q2 => ?_
  cases x with
  | int k =>
    have ez : D.int (-k) = z := Option.some.inj hz
    subst ez
    exact ⟨k, rep_int r1, q2 (.int (-k)) T1 al1 H1 .refl w1 (.int _)⟩
  | _ => cases hz
end
end Pi
namespace Pi
open PySem PySem.Spec PyProof.Rows L2

inductive Fl where
  | nx (r : Env)
  | ret (x : D)
  | brk (r : Env)
  | ct (r : Env)
abbrev Stm := Env → Mo Fl
abbrev wE (E : XK) : WX := fun c d _ H => E c d H

def sNext : Stm := fun r => pure (.nx r)
def sSeq (g h : Stm) : Stm := fun r => g r >>= fun x => match x with
  | .nx r' => h r'
  | y => pure y
def sSet (i : Nat) (f : Env → Mo D) : Stm := fun r => f r >>= fun x => pure (.nx (r.set i (some (.d x))))
def sOwn (i : Nat) (f : Env → Mo (List D)) : Stm := fun r => f r >>= fun x => pure (.nx (r.set i (some (.own x))))
def sRet (f : Env → Mo D) : Stm := fun r => f r >>= fun x => pure (.ret x)
def sIf (c : Env → Mo Bool) (g h : Stm) : Stm := fun r => c r >>= fun b => match b with
  | true => g r
  | false => h r
def sExpr (f : Env → Mo D) : Stm := fun r => f r >>= fun _ => pure (.nx r)
def setAll : List Nat → List D → Env → Env
  | i :: is, x :: xs, r => setAll is xs (r.set i (some (.d x)))
  | _, _, r => r
def unpack (n : Nat) : D → Option (List D)
  | .tup xs => match Nat.beq xs.length n with
    | true => some xs
    | false => none
  | _ => none
def sUnp (is : List Nat) (f : Env → Mo D) : Stm := fun r => f r >>= fun x => Mo.opt (unpack is.length x) >>= fun xs => pure (.nx (setAll is xs r))
def sPar (i j : Nat) (f : Env → Mo (List D)) : Stm := fun r => f r >>= fun xs => match xs with
  | [x, y] => pure (.nx ((r.set i (some (.d x))).set j (some (.d y))))
  | _ => Mo.bad
def place (n : Nat) (i : Int) : Option Nat := match decide (0 ≤ i) with
  | true => (match decide (i < n) with
    | true => some i.toNat
    | false => none)
  | false => (match decide (-(n : Int) ≤ i) with
    | true => some (n + i).toNat
    | false => none)

structure Bs where
  T : Tg
  al : List Addr
  F : Hp
  ab : List Addr
section
variable (G : GX) (X : Cx) (E : XK) (H0 : Hp)
structure SI (B : Bs) (r : Env) (σ : L2.St) (st : St) (T : Tg) (al : List Addr) (H : Hp) : Prop where
  sl : SL X.K H0 T al H r σ
  wi : WI X.K G.TB T al st H
  ex : Ext B.T B.al H0 T al H
  fb : Same B.F (fz T H)
  ab : ∃ b, al = B.ab ++ b
def PostS (B : Bs) (D : Ends) : Res Fl → Prop
  | .ok (.nx r) st => ∀ (σ : L2.St) (T : Tg) (al : List Addr) (H : Hp), SI G X H0 B r σ st T al H → D.nx σ H
  | .ok (.brk r) st => ∀ (σ : L2.St) (T : Tg) (al : List Addr) (H : Hp), SI G X H0 B r σ st T al H → D.bk σ H
  | .ok (.ct r) st => ∀ (σ : L2.St) (T : Tg) (al : List Addr) (H : Hp), SI G X H0 B r σ st T al H → D.ct σ H
  | .ok (.ret x) st => ∀ (v : V) (T : Tg) (al : List Addr) (H : Hp), Ext B.T B.al H0 T al H → WI X.K G.TB T al st H → Rep X.K (fz T H) al v x → D.rt v H
  | .err c x st => ErrW G X.K (wE E) [] B.T B.al H0 c x st
  | .bad => False
end
def RdS (X : Cx) (sts : List Stmt) (σ : L2.St) (H : Hp) (D : Ends) : Prop := ∀ (pins : List (Addr × Obj)) (s : Shared), Inv X pins σ H s → wpAny (model X.prog X.w) X.A (execs sts X.env) (SP X pins D) X.xe s
def RdS1 (X : Cx) (st : Stmt) (σ : L2.St) (H : Hp) (D : Ends) : Prop := ∀ (pins : List (Addr × Obj)) (s : Shared), Inv X pins σ H s → wpAny (model X.prog X.w) X.A (exec st X.env) (SP X pins D) X.xe s
section
variable {X : Cx} {st : Stmt} {sts : List Stmt} {σ : L2.St} {H : Hp} {D : Ends}
def tRdS1 (X : Cx) (st : Stmt) : TS := fun D σ H => RdS1 X st σ H D
def tRdS (X : Cx) (sts : List Stmt) : TS := fun D σ H => RdS X sts σ H D
theorem ps_rd : PS X st (tRdS1 X st) := ⟨fun pins s _ _ _ I h => h pins s I⟩
theorem pss_rd : PSs X sts (tRdS X sts) := ⟨fun pins s _ _ _ I h => h pins s I⟩
theorem rdS1 {t : TS} (h : PS X st t) (q : t D σ H) : RdS1 X st σ H D := fun pins s I => h.run pins s σ H D I q
theorem rdS {t : TS} (h : PSs X sts t) (q : t D σ H) : RdS X sts σ H D := fun pins s I => h.run pins s σ H D I q
end
section
variable (G : GX) (X : Cx) (E : XK) (H0 : Hp)
def PSt (s : Stmt) (g : Stm) : Prop := ∀ (B : Bs) (r : Env) (st : St) (σ : L2.St) (T : Tg) (al : List Addr) (H : Hp) (D : Ends), SI G X H0 B r σ st T al H → PostS G X E H0 B D (g r st) → RdS1 X s σ H D
def PBl (s : List Stmt) (g : Stm) : Prop := ∀ (B : Bs) (r : Env) (st : St) (σ : L2.St) (T : Tg) (al : List Addr) (H : Hp) (D : Ends), SI G X H0 B r σ st T al H → PostS G X E H0 B D (g r st) → RdS X s σ H D
end
section
variable {G : GX} {X : Cx} {E : XK} {H0 : Hp} {B : Bs}
variable {st : Stmt} {sts : List Stmt} {e : Expr} {pos : Pos}
theorem SI.step {r : Env} {σ : L2.St} {st st1 : St} {T T1 : Tg} {al al1 : List Addr} {H H1 : Hp} (S : SI G X H0 B r σ st T al H) (x : Ext T al H T1 al1 H1) (w : WI X.K G.TB T1 al1 st1 H1) : SI G X H0 B r σ st1 T1 al1 H1 := ⟨S.sl.ext x, w, S.ex.trans x, fun a o e => x.fz a o (S.fb a o e), by
  obtain ⟨p, e1⟩ := S.ab
  obtain ⟨q, e2⟩ := x.al
  exact ⟨p ++ q, by rw [e2, e1, List.append_assoc]⟩⟩
theorem SI.slot {r r' : Env} {σ σ' : L2.St} {st : St} {T : Tg} {al : List Addr} {H : Hp} (S : SI G X H0 B r σ st T al H) (h : SL X.K H0 T al H r' σ') : SI G X H0 B r' σ' st T al H := ⟨h, S.wi, S.ex, S.fb, S.ab⟩
theorem SI.tag {r r' : Env} {σ σ' : L2.St} {st : St} {T : Tg} {al : List Addr} {H : Hp} {p : Addr} {t : Tag} {o : HO} (S : SI G X H0 B r σ st T al H) (h0 : H0 p = none) (n : T p ≠ some .frz) (n2 : T p ≠ some .wld) (hp : H p = some o) (h : SL X.K H0 (tset T p t) al H r' σ') (ht : t ≠ .wld := by decide) : SI G X H0 B r' σ' st (tset T p t) al H :=
  ⟨h, S.wi.tag n n2 hp ht, S.ex.retag h0 _, fun a o e => fz_tset n a o (S.fb a o e), S.ab⟩
theorem seqS {b u : Type} {Rp : Hp → Tg → List Addr → Hp → u → b → Prop} {f : Mo b} {g : b → Mo Fl} {r : Env} {st : St} {σ : L2.St} {T : Tg} {al : List Addr} {H : Hp} {D : Ends} {Q1 : u → Hp → Prop} (S : SI G X H0 B r σ st T al H)
    (h : PostS G X E H0 B D ((f >>= g) st))
    (k : ∀ (x : b) (st1 : St) (v : u) (T1 : Tg) (al1 : List Addr) (H1 : Hp), Ext T al H T1 al1 H1 → SI G X H0 B r σ st1 T1 al1 H1 → Rp H T1 al1 H1 v x → PostS G X E H0 B D (g x st1) → Q1 v H1) :
    Post G X.K (wE E) Rp σ T al H Q1 (f st) := by
  rw [bind_ap] at h
  cases e : f st with
  | ok x st1 =>
    rw [e] at h
    exact fun v T1 al1 H1 x1 w1 r1 => k x st1 v T1 al1 H1 x1 (S.step x1 w1) r1 h
  | err c x st1 =>
    rw [e] at h
    exact fun dx v T' al' H' e' w n hd rr => h dx v T' al' H' (S.ex.trans e') w (S.ex.free n) hd rr
  | bad =>
    rw [e] at h
    exact h
theorem optS {b : Type} {o : Option b} {g : b → Mo Fl} {st : St} {D : Ends} {P : Prop} (q : PostS G X E H0 B D ((Mo.opt o >>= g) st)) (h : ∀ y, o = some y → PostS G X E H0 B D (g y st) → P) : P := by
  cases o with
  | none => exact q.elim
  | some y => exact h y rfl q

theorem set_get {b : Type} {r : List b} {i j : Nat} {x y : b} (h : (r.set i x)[j]? = some y) : (j = i ∧ y = x) ∨ (j ≠ i ∧ r[j]? = some y) := by
  by_cases e : j = i
  · subst e
    have hl : j < r.length := by
      have := (List.getElem?_eq_some_iff.mp h).1
      rw [List.length_set] at this
      exact this
    rw [List.getElem?_set_self hl] at h
    exact .inl ⟨rfl, (Option.some.inj h).symm⟩
  · rw [List.getElem?_set_ne (Ne.symm e)] at h
    exact .inr ⟨e, h⟩
theorem SL.setD {K : PySem.W.Frag} {T : Tg} {al : List Addr} {H : Hp} {r : Env} {σ : L2.St} {i : Nat} {v : V} {x : D} (S : SL K H0 T al H r σ) (h : Rep K (fz T H) al v x) : SL K H0 T al H (r.set i (some (.d x))) (σ.set i (some v)) where
  len := by rw [List.length_set, List.length_set]; exact S.len
  at_ := fun j y hj => by
    rcases set_get hj with ⟨rfl, e⟩ | ⟨ne, hj⟩
    · have e' : y = .d x := Option.some.inj e
      subst e'
      have hl : j < σ.length := by
        rw [S.len]
        have := (List.getElem?_eq_some_iff.mp hj).1
        rw [List.length_set] at this
        exact this
      exact ⟨v, List.getElem?_set_self hl, h⟩
    · obtain ⟨u, h1, h2⟩ := S.at_ j y hj
      exact ⟨u, by rw [List.getElem?_set_ne (Ne.symm ne)]; exact h1, h2⟩
  ap := fun j k y z u njk hj hk oj ok hu hv => by
    rcases set_get hj with ⟨rfl, e⟩ | ⟨ne, hj⟩
    · have e' : y = .d x := Option.some.inj e
      subst e'
      cases oj
    · rcases set_get hk with ⟨rfl, e⟩ | ⟨ne2, hk⟩
      · have e' : z = .d x := Option.some.inj e
        subst e'
        cases ok
      · rw [List.getElem?_set_ne (Ne.symm ne)] at hu
        rw [List.getElem?_set_ne (Ne.symm ne2)] at hv
        exact S.ap j k y z u njk hj hk oj ok hu hv
theorem SL.setO {K : PySem.W.Frag} {T : Tg} {al : List Addr} {H : Hp} {r : Env} {σ : L2.St} {i : Nat} {v : V} {x : SV} (S : SL K H0 T al H r σ) (h : SRep K H0 T al H v x) (hn : ∀ (j : Nat) (y : SV), j ≠ i → r[j]? = some (some y) → y.isOwn = true → σ[j]? ≠ some (some v)) : SL K H0 T al H (r.set i (some x)) (σ.set i (some v)) where
  len := by rw [List.length_set, List.length_set]; exact S.len
  at_ := fun j y hj => by
    rcases set_get hj with ⟨rfl, e⟩ | ⟨ne, hj⟩
    · have e' : y = x := Option.some.inj e
      subst e'
      have hl : j < σ.length := by
        rw [S.len]
        have := (List.getElem?_eq_some_iff.mp hj).1
        rw [List.length_set] at this
        exact this
      exact ⟨v, List.getElem?_set_self hl, h⟩
    · obtain ⟨u, h1, h2⟩ := S.at_ j y hj
      exact ⟨u, by rw [List.getElem?_set_ne (Ne.symm ne)]; exact h1, h2⟩
  ap := fun j k y z u njk hj hk oj ok hu hv => by
    rcases set_get hj with ⟨rfl, e⟩ | ⟨ne, hj⟩
    · rcases set_get hk with ⟨rfl, _⟩ | ⟨ne2, hk⟩
      · exact njk rfl
      · rcases set_get hu with ⟨_, eu⟩ | ⟨z1, _⟩
        · rw [List.getElem?_set_ne (Ne.symm ne2)] at hv
          have : u = v := Option.some.inj eu
          rw [this] at hv
          exact hn k z ne2 hk ok hv
        · exact z1 rfl
    · have hj3 := hj
      rcases set_get hk with ⟨e5, e⟩ | ⟨ne2, hk⟩
      · rw [e5] at hv
        rcases set_get hv with ⟨_, eu⟩ | ⟨z1, _⟩
        · rw [List.getElem?_set_ne (Ne.symm ne)] at hu
          have : u = v := Option.some.inj eu
          rw [this] at hu
          exact hn j y ne hj3 oj hu
        · exact z1 rfl
      · rw [List.getElem?_set_ne (Ne.symm ne)] at hu
        rw [List.getElem?_set_ne (Ne.symm ne2)] at hv
        exact S.ap j k y z u njk hj hk oj ok hu hv
theorem own_at {K : PySem.W.Frag} {T : Tg} {al : List Addr} {H : Hp} {r : Env} {σ : L2.St} {j : Nat} {y : SV} {p : Addr} (S : SL K H0 T al H r σ) (hj : r[j]? = some (some y)) (o : y.isOwn = true) (h : σ[j]? = some (some (.ref p))) : T p = some .own ∧ ∃ u, H p = some u := by
  obtain ⟨v, h1, h2⟩ := S.at_ j y hj
  rw [h1] at h
  have e : v = .ref p := Option.some.inj (Option.some.inj h)
  subst e
  cases y with
  | d x => cases o
  | own xs =>
    obtain ⟨l, vs, e, ht, _, hl, _⟩ := h2
    cases e
    exact ⟨ht, _, hl⟩
  | odT kvs =>
    obtain ⟨l, vs, e, ht, _, hl, _⟩ := h2
    cases e
    exact ⟨ht, _, hl⟩
  | brw xs => cases o
theorem SL.retag {K : PySem.W.Frag} {T : Tg} {al : List Addr} {H : Hp} {r : Env} {σ : L2.St} {p : Addr} {t : Tag} (S : SL K H0 T al H r σ) (n : T p = none) : SL K H0 (tset T p t) al H r σ := by
  refine ⟨S.len, fun i x hx => ?_, S.ap⟩
  obtain ⟨v, h1, h2⟩ := S.at_ i x hx
  refine ⟨v, h1, ?_⟩
  have hs : Same (fz T H) (fz (tset T p t) H) := fz_tset (by rw [n]; decide)
  cases x with
  | d x => exact Rep.mono hs ⟨[], by simp⟩ h2
  | own xs =>
    obtain ⟨l, vs, rfl, ht, h0, hl, rs⟩ := h2
    exact ⟨l, vs, rfl, by rw [tset_ne (fun z => by rw [z, n] at ht; cases ht)]; exact ht, h0, hl, rs.mono hs ⟨[], by simp⟩⟩
  | odT kvs =>
    obtain ⟨l, vs, rfl, ht, h0, hl, rs⟩ := h2
    exact ⟨l, vs, rfl, by rw [tset_ne (fun z => by rw [z, n] at ht; cases ht)]; exact ht, h0, hl, paired_imp rs fun a b z => ⟨z.1, Rep.mono hs ⟨[], by simp⟩ z.2⟩⟩
  | brw xs =>
    obtain ⟨l, vs, rfl, ht, h0, hl, rs⟩ := h2
    exact ⟨l, vs, rfl, by rw [tset_ne (fun z => by rw [z, n] at ht; cases ht)]; exact ht, h0, hl, rs.mono hs ⟨[], by simp⟩⟩

theorem pbl_nil : PBl G X E H0 [] sNext := fun B r st σ T al H D S q => rdS pss_nil (q σ T al H S)
theorem pbl_cons {g h : Stm} (h1 : PSt G X E H0 st g) (h2 : PBl G X E H0 sts h) : PBl G X E H0 (st :: sts) (sSeq g h) := by
  intro B r s0 σ T al H D S q
  refine rdS (pss_cons ps_rd pss_rd) (h1 B r s0 σ T al H _ S ?_)
  have q' : PostS G X E H0 B D ((g r >>= fun x => match x with
    | .nx r' => h r'
    | y => pure y) s0) := q
  rw [bind_ap] at q'
  cases e : g r s0 with
  | ok fl st1 =>
    rw [e] at q'
    cases fl with
    | nx r' => exact fun σ1 T1 al1 H1 S1 => h2 B r' st1 σ1 T1 al1 H1 D S1 q'
    | ret x => exact q'
    | brk r' => exact q'
    | ct r' => exact q'
  | err c x st1 =>
    rw [e] at q'
    exact q'
  | bad =>
    rw [e] at q'
    exact q'
theorem pbl_one {g : Stm} (h1 : PSt G X E H0 st g) : PBl G X E H0 [st] g := fun B r s0 σ T al H D S q => rdS (pss_one ps_rd) (h1 B r s0 σ T al H D S q)
theorem pst_set {f : Env → Mo D} {i : Nat} {x : Str} {pos' : Pos} (hN : X.N.Nodup) (he : PD G X (wE E) H0 e f) (hi : X.N[i]? = some x := by rfl) (hx : Loc X.env.scope x := by first | exact Or.inl rfl | exact Or.inr rfl)
    (hs : swapsWith e (some (.Name x pos')) pos.line X.env = pure false := by rfl) (hf : X.fn x = true ∨ X.env.scope.names.lookup x = some .local := by first | exact .inl rfl | exact .inr rfl) : PSt G X E H0 (.Assign [.Name x pos'] e pos) (sSet i f) := by
  intro B r s0 σ T al H D S q
  refine rdS1 (ps_set hN hi hx pe_rd hs hf) (he r s0 σ T al H _ S.sl S.wi (seqS S q fun y st1 v T1 al1 H1 x1 S1 r1 q1 => ?_))
  exact q1 _ T1 al1 H1 (S1.slot (S1.sl.setD r1))
theorem pst_own {f : Env → Mo (List D)} {i : Nat} {x : Str} {pos' : Pos} (hN : X.N.Nodup) (he : PN G X (wE E) H0 e f) (hi : X.N[i]? = some x := by rfl) (hx : Loc X.env.scope x := by first | exact Or.inl rfl | exact Or.inr rfl)
    (hs : swapsWith e (some (.Name x pos')) pos.line X.env = pure false := by rfl) (hf : X.fn x = true ∨ X.env.scope.names.lookup x = some .local := by first | exact .inl rfl | exact .inr rfl) : PSt G X E H0 (.Assign [.Name x pos'] e pos) (sOwn i f) := by
  intro B r s0 σ T al H D S q
  refine rdS1 (ps_set hN hi hx pe_rd hs hf) (he r s0 σ T al H _ S.sl S.wi (seqS S q fun y st1 v T1 al1 H1 x1 S1 r1 q1 => ?_))
  obtain ⟨p, vs, rfl, n0, tp, hp, rs⟩ := r1
  have nz : H0 p = none := S.ex.free n0
  refine q1 _ (tset T1 p .own) al1 H1 (S1.tag nz (by rw [tp]; decide) (by rw [tp]; decide) hp ?_)
  refine (S1.sl.retag tp).setO ⟨p, vs, rfl, tset_same, nz, hp, rs.mono (fz_tset (by rw [tp]; decide)) ⟨[], by simp⟩⟩ fun j y _ hj o hz => ?_
  obtain ⟨ht, _⟩ := own_at S1.sl hj o hz
  rw [tp] at ht
  cases ht
theorem pst_ret {f : Env → Mo D} (he : PD G X (wE E) H0 e f) : PSt G X E H0 (.Return (some e) pos) (sRet f) := by
  intro B r s0 σ T al H D S q
  exact rdS1 (ps_ret pe_rd) (he r s0 σ T al H _ S.sl S.wi (seqS S q fun y st1 v T1 al1 H1 x1 S1 r1 q1 => q1 v T1 al1 H1 S1.ex S1.wi r1))
theorem pst_expr {f : Env → Mo D} (he : PD G X (wE E) H0 e f) (hs : swapsWith e none pos.line X.env = pure false := by rfl) : PSt G X E H0 (.Expr e pos) (sExpr f) := by
  intro B r s0 σ T al H D S q
  exact rdS1 (ps_expr pe_rd hs) (he r s0 σ T al H _ S.sl S.wi (seqS S q fun y st1 v T1 al1 H1 x1 S1 r1 q1 => q1 σ T1 al1 H1 S1))
theorem pst_if {c : Expr} {a b : List Stmt} {t : Env → Mo Bool} {g h : Stm} (hc : PB G X (wE E) H0 c t) (ha : PBl G X E H0 a g) (hb : PBl G X E H0 b h) : PSt G X E H0 (.If c a b pos) (sIf t g h) := by
  intro B r s0 σ T al H D S q
  refine rdS1 (ps_if pt_rd pss_rd pss_rd) (hc r s0 σ T al H _ S.sl S.wi (seqS S q fun y st1 v T1 al1 H1 x1 S1 r1 q1 => ?_))
  cases r1
  cases y with
  | true => exact iteT (ha B r st1 σ T1 al1 H1 D S1 q1)
  | false => exact iteF (hb B r st1 σ T1 al1 H1 D S1 q1)
theorem setAll_ok {K : PySem.W.Frag} {T : Tg} {al : List Addr} {H : Hp} : ∀ {is : List Nat} {xs : List D} {vs : List V} {r : Env} {σ : L2.St}, is.length = xs.length → SL K H0 T al H r σ → RepAll K (fz T H) al vs xs →
    ∃ σ', SL K H0 T al H (setAll is xs r) σ' ∧ ∀ (Q : L2.St → Hp → Prop), Q σ' H → (is.map gName).foldr (fun g u => gCons g u) gNil vs σ H Q
  | [], [], _, r, σ, _, S, h => by
    cases h
    exact ⟨σ, S, fun Q q => ⟨rfl, q⟩⟩
  | i :: is, x :: xs, _, r, σ, hl, S, h => by
    cases h with
    | cons h1 h2 =>
      obtain ⟨σ', S', q'⟩ := setAll_ok (is := is) (xs := xs) (by simpa using hl) (S.setD (i := i) h1) h2
      exact ⟨σ', S', fun Q q => ⟨_, _, rfl, q' Q q⟩⟩
  | [], _ :: _, _, _, _, hl, _, _ => by cases hl
  | _ :: _, [], _, _, _, hl, _, _ => by cases hl
theorem pst_unp {f : Env → Mo D} {is : List Nat} {es : List Expr} {k : Nat} {p : Pos} (hc : X.calm = true) (he : PD G X (wE E) H0 e f) (hg : PGs X es ((is.map gName).foldr (fun g u => gCons g u) gNil)) (hl : es.length = is.length := by rfl)
    (hn : (assignEach es X.env).length = is.length := by rfl) (hst : (assignEach es X.env).findIdx? (·.1) = none := by rfl)
    (hs : swapsWithSole [.Tuple es k p] e pos.line X.env = pure false := by rfl) (hw : swappedStores [.Tuple es k p] e X.env = pure none := by rfl) : PSt G X E H0 (.Assign [.Tuple es k p] e pos) (sUnp is f) := by
  intro B r s0 σ T al H D S q
  refine rdS1 (ps_asg pe_rd (pg_tup hc hg hn hst) hs hw) (he r s0 σ T al H _ S.sl S.wi (seqS S q fun y st1 v T1 al1 H1 x1 S1 r1 q1 => ?_))
  refine optS q1 fun xs hx q2 => ?_
  cases y with
  | tup ys =>
    have hx' : (match Nat.beq ys.length is.length with
      | true => some ys
      | false => none) = some xs := hx
    cases eb : Nat.beq ys.length is.length with
    | false => rw [eb] at hx'; cases hx'
    | true =>
      rw [eb] at hx'
      have ex : ys = xs := Option.some.inj hx'
      subst ex
      have hl2 : ys.length = is.length := Nat.eq_of_beq_eq_true eb
      obtain ⟨a, vs, rfl, hs1, rs⟩ := rep_tup r1
      obtain ⟨σ', S', q'⟩ := setAll_ok (is := is) hl2.symm S1.sl rs
      exact ⟨a, vs, rfl, Same.seqT fz_same hs1, by rw [rs.length, hl2], q' _ (q2 σ' T1 al1 H1 (S1.slot S'))⟩
  | _ => cases hx
theorem pst_par {f : Env → Mo (List D)} {i j : Nat} {x y : Str} {a b : Expr} {px py pt : Pos} {kt k2 pt2} (hc : X.calm = true) (hN : X.N.Nodup) (ha : PL G X (wE E) H0 [a, b] f) (hi : X.N[i]? = some x := by rfl) (hj : X.N[j]? = some y := by rfl) (hij : i ≠ j := by decide)
    (hx : X.env.scope.names.lookup x = some .local := by rfl) (hy : X.env.scope.names.lookup y = some .local := by rfl)
    (hw : swappedStores [.Tuple [.Name x px, .Name y py] kt pt] (.Tuple [a, b] k2 pt2) X.env = pure (some [x, y]) := by rfl)
    (hs : swapsWithSole [.Tuple [.Name x px, .Name y py] kt pt] (.Tuple [a, b] k2 pt2) pos.line X.env = pure false := by rfl) :
    PSt G X E H0 (.Assign [.Tuple [.Name x px, .Name y py] kt pt] (.Tuple [a, b] k2 pt2) pos) (sPar i j f) := by
  intro B r s0 σ T al H D S q
  refine rdS1 (ps_par hc hN hi hj hij hx hy pa_rd hw hs) (ha r s0 σ T al H _ S.sl S.wi (seqS S q fun ys st1 v T1 al1 H1 x1 S1 r1 q1 => ?_))
  match ys, r1, q1 with
  | [p, z], r1, q1 =>
    cases r1 with
    | cons ra rb =>
      cases rb with
      | cons rc rd =>
        cases rd
        exact ⟨_, _, rfl, q1 _ T1 al1 H1 (S1.slot ((S1.sl.setD ra).setD rc))⟩
  | [], _, q1 => exact q1.elim
  | [_], _, q1 => exact q1.elim
  | _ :: _ :: _ :: _, _, q1 => exact q1.elim
end
end Pi
namespace Pi
open PySem PySem.Spec PyProof.Rows L2

def RdI (X : Cx) (tg iter : Expr) (σ : L2.St) (H : Hp) (R : It → Hp → Prop) : Prop := ∀ (pins : List (Addr × Obj)) (s : Shared), Inv X pins σ H s →
  wpAny (model X.prog X.w) X.A (eval iter X.env) (fun v s1 => wpAny (model X.prog X.w) X.A (pyIter v) (PIE X pins σ tg R) X.xe s1) X.xe s
theorem pi_rd {X : Cx} {tg iter : Expr} : PI X tg iter (RdI X tg iter) := ⟨fun pins s _ _ _ I h => h pins s I⟩
theorem rdI {X : Cx} {tg iter : Expr} {σ : L2.St} {H : Hp} {R : It → Hp → Prop} {wi : TI} (h : PI X tg iter wi) (q : wi σ H R) : RdI X tg iter σ H R := fun pins s I => h.run pins s σ H R I q
def ItOk (K : PySem.W.Frag) (TB : List (Addr × Str)) (F : Hp) (L : Addr → List V → Prop) (ab : List Addr) (J : It) (xs : List D) : Prop :=
  ∀ (T : Tg) (al : List Addr) (H : Hp) (st : St), Same F (fz T H) → (∀ l vs, L l vs → H l = some (.lst vs)) → (∃ b, al = ab ++ b) → WI K TB T al st H → ∀ i : Nat,
    (∀ x, xs[i]? = some x → J.go i H ∧ ∀ v H3, J.yld i H v H3 → ∃ T3, Ext T al H T3 al H3 ∧ WI K TB T3 al st H3 ∧ Rep K (fz T3 H3) al v x) ∧ (i = xs.length → J.stop i H)
def lentS (H0 : Hp) (T : Tg) (H : Hp) : Addr → List V → Prop := fun l vs => T l = some .own ∧ H0 l = some (.lst vs) ∧ H l = some (.lst vs)
def RpI (K : PySem.W.Frag) (TB : List (Addr × Str)) (H0 : Hp) : Hp → Tg → List Addr → Hp → It → List D → Prop := fun _ T al H J xs => ItOk K TB (fz T H) (lentS H0 T H) al J xs
theorem lent_ext {H0 : Hp} {T T2 : Tg} {al al2 : List Addr} {H H2 : Hp} (x : Ext T al H T2 al2 H2) : ∀ l vs, lentS H0 T H l vs → H2 l = some (.lst vs) := fun l vs z => x.hp l _ z.2.2 (by rw [z.1]; decide)
theorem lentS_ext {H0 : Hp} {T T2 : Tg} {al al2 : List Addr} {H H2 : Hp} (x : Ext T al H T2 al2 H2) {l : Addr} {vs : List V} (z : lentS H0 T H l vs) : lentS H0 T2 H2 l vs := ⟨(x.tg l _ z.2.2).trans z.1, z.2.1, x.hp l _ z.2.2 (by rw [z.1]; decide)⟩
theorem lentS_upd {H0 : Hp} {T : Tg} {H : Hp} {p : Addr} {o : HO} (n : T p ≠ some .own) {l : Addr} {vs : List V} (z : lentS H0 T H l vs) : lentS H0 T (upd H p o) l vs := ⟨z.1, z.2.1, by rw [upd_ne (fun e => n (by rw [← e]; exact z.1))]; exact z.2.2⟩
theorem lent_two {H0 : Hp} {T0 T1 T2 : Tg} {a0 a1 a2 : List Addr} {H1 H2 : Hp} (x : Ext T0 a0 H0 T1 a1 H1) (y : Ext T0 a0 H0 T2 a2 H2) : ∀ l vs, lentS H0 T1 H1 l vs → H2 l = some (.lst vs) := fun l vs z =>
  y.hp l _ z.2.1 (by rw [← x.tg l _ z.2.1, z.1]; decide)
theorem back_I {K : PySem.W.Frag} {TB : List (Addr × Str)} {H0 : Hp} : Back (RpI K TB H0) := fun _ _ _ _ _ _ _ _ h => h
def PIt (G : GX) (X : Cx) (W : WX) (H0 : Hp) (tg iter : Expr) (f : Env → Mo (List D)) : Prop := ∀ (r : Env) (st : St) (σ : L2.St) (T : Tg) (al : List Addr) (H : Hp) (R : It → Hp → Prop), SL X.K H0 T al H r σ → WI X.K G.TB T al st H →
  Post G X.K W (RpI X.K G.TB H0) σ T al H R (f r st) → RdI X tg iter σ H R
def D.items : D → Option (List D)
  | .tup xs => some xs
  | .lst xs => some xs
  | .ktp xs => some xs
  | _ => none
def iDat (f : Env → Mo D) : Env → Mo (List D) := fun r => f r >>= fun x => Mo.opt x.items
def rangeD (lo : Int) (n : Nat) : List D := (List.range n).map fun (i : Nat) => D.int (lo + (i : Int))
def rng1 : List D → Option (List D)
  | [.int n] => match decide (-4611686018427387904 ≤ n) && decide (n < 4611686018427387904) with
    | true => some (rangeD 0 n.toNat)
    | false => none
  | _ => none
def rng2 : List D → Option (List D)
  | [.int m, .int n] => match decide (-4611686018427387904 ≤ m) && decide (m < 4611686018427387904) && decide (-4611686018427387904 ≤ n) && decide (n < 4611686018427387904) with
    | true => some (rangeD m (n - m).toNat)
    | false => none
  | _ => none
theorem rng1_ok {ys xs : List D} (h : rng1 ys = some xs) : ∃ n : Int, ys = [.int n] ∧ (-4611686018427387904 ≤ n ∧ n < 4611686018427387904) ∧ xs = rangeD 0 n.toNat := by
  unfold rng1 at h
  split at h
  · rename_i n
    cases e : decide (-4611686018427387904 ≤ n) && decide (n < 4611686018427387904) with
    | false => rw [e] at h; cases h
    | true =>
      rw [e] at h
      simp only [Bool.and_eq_true, decide_eq_true_eq] at e
      exact ⟨n, rfl, e, (Option.some.inj h).symm⟩
  · cases h
def iRng1 (f : Env → Mo (List D)) : Env → Mo (List D) := fun r => f r >>= fun x => Mo.opt (rng1 x)
def iRng2 (f : Env → Mo (List D)) : Env → Mo (List D) := fun r => f r >>= fun x => Mo.opt (rng2 x)
section
variable {G : GX} {X : Cx} {W : WX} {H0 : Hp} {tg iter e : Expr}
theorem itok_list {K : PySem.W.Frag} {TB : List (Addr × Str)} {F : Hp} {L : Addr → List V → Prop} {ab : List Addr} {a : Addr} {vs : List V} {xs : List D} (h : SqL K F a vs) (r : RepAll K F ab vs xs) : ItOk K TB F L ab (Itl K a) xs := by
  intro T al H st hs _ ha w i
  have h2 : SqL K H a vs := Same.seq fz_same (Same.seq hs h)
  refine ⟨fun x hx => ?_, fun hx => ?_⟩
  · obtain ⟨u, hu, ru⟩ := r.get hx
    refine ⟨⟨vs, u, h2, hu⟩, fun v H3 y => ?_⟩
    obtain ⟨rfl, y⟩ := y
    have e := y vs h2
    rw [hu] at e
    cases e
    exact ⟨T, .refl, w, ru.mono hs ha⟩
  · exact ⟨vs, h2, by rw [r.length]; omega⟩
theorem itok_tup {K : PySem.W.Frag} {TB : List (Addr × Str)} {F : Hp} {L : Addr → List V → Prop} {ab : List Addr} {a : Addr} {vs : List V} {xs : List D} (h : SqT K F a vs) (r : RepAll K F ab vs xs) : ItOk K TB F L ab (Itt K a) xs := by
  intro T al H st hs _ ha w i
  have h2 : SqT K H a vs := Same.seqT fz_same (Same.seqT hs h)
  refine ⟨fun x hx => ?_, fun hx => ?_⟩
  · obtain ⟨u, hu, ru⟩ := r.get hx
    refine ⟨⟨vs, u, h2, hu⟩, fun v H3 y => ?_⟩
    obtain ⟨rfl, y⟩ := y
    have e := y vs h2
    rw [hu] at e
    cases e
    exact ⟨T, .refl, w, ru.mono hs ha⟩
  · exact ⟨vs, h2, by rw [r.length]; omega⟩
theorem itok_range {K : PySem.W.Frag} {TB : List (Addr × Str)} {F : Hp} {L : Addr → List V → Prop} {ab : List Addr} (lo : Int) (n : Nat) : ItOk K TB F L ab (Itr lo n) (rangeD lo n) := by
  intro T al H st hs _ ha w i
  have hl : (rangeD lo n).length = n := by unfold rangeD; simp
  refine ⟨fun x hx => ?_, fun hx => ?_⟩
  · have hi : i < n := by rw [← hl]; exact (List.getElem?_eq_some_iff.mp hx).1
    refine ⟨hi, fun v H3 y => ?_⟩
    obtain ⟨rfl, rfl⟩ := y
    unfold rangeD at hx
    rw [List.getElem?_map, List.getElem?_range hi] at hx
    have e : D.int (lo + i) = x := Option.some.inj hx
    subst e
    exact ⟨T, .refl, w, .int _⟩
  · rw [hl] at hx
    exact Nat.le_of_eq hx.symm
theorem pit_dat {f : Env → Mo D} (he : PD G X W H0 iter f) : PIt G X W H0 tg iter (iDat f) := by
  intro r st σ T al H R S w q pins s I
  refine thn (he r st σ T al H (fun x H1 => (∃ a xs, x = .ref a ∧ SqL X.K H1 a xs ∧ R (Itl X.K a) H1) ∨ (∃ a xs, x = .ref a ∧ SqT X.K H1 a xs ∧ R (Itt X.K a) H1)) S w ?_ pins s I) fun v s1 ⟨x, H1, I1, r1, q1⟩ => ?_
  · refine seqP back_I q fun x st1 v T1 al1 H1 _ x1 w1 r1 q1 => ?_
    refine optP q1 fun xs hx q2 => ?_
    cases x with
    | tup ys =>
      have ey : ys = xs := Option.some.inj hx
      subst ey
      obtain ⟨a, vs, rfl, h1, h2⟩ := rep_tup r1
      exact .inr ⟨a, vs, rfl, Same.seqT fz_same h1, q2 _ T1 al1 H1 .refl w1 (itok_tup h1 h2)⟩
    | ktp ys =>
      have ey : ys = xs := Option.some.inj hx
      subst ey
      obtain ⟨a, vs, rfl, h1, h2⟩ := rep_ktp r1
      exact .inr ⟨a, vs, rfl, sqT_k h1, q2 _ T1 al1 H1 .refl w1 (itok_tup (sqT_k h1) h2)⟩
    | lst ys =>
      have ey : ys = xs := Option.some.inj hx
      subst ey
      obtain ⟨a, vs, rfl, h1, h2⟩ := rep_lst r1
      exact .inl ⟨a, vs, rfl, .inl (.inl (fz_same _ _ h1)), q2 _ T1 al1 H1 .refl w1 (itok_list (.inl (.inl h1)) h2)⟩
    | _ => cases hx
  · rcases q1 with ⟨a, xs, e, hq, q⟩ | ⟨a, xs, e, hq, q⟩
    · subst e
      cases r1
      obtain ⟨its, rv, p, hz⟩ := I1.list hq
      refine wpAny_pyIter_list p.isList ?_
      refine ⟨s1.heap.objs.size, [s1.heap.objs.size], _, _, H1, rfl, I1.kept (t' := s1.toks) fun b o e => Heap.get?_push_of_some _ e, turn_list a _, ⟨_, Heap.get?_push_size _ rfl, rfl, rfl⟩, fun b hb => ?_, q⟩
      have e : b = s1.heap.objs.size := by simpa using hb
      subst e
      exact I1.fpOk (Nat.le_refl _) (I1.hok.fresh (Nat.le_refl _))
    · subst e
      cases r1
      obtain ⟨its, rv, p, hz⟩ := I1.tuple hq
      refine wpAny_pyIter_tuple (show s1.heap.IsTuple a its.toArray from p) ?_
      refine ⟨s1.heap.objs.size, [s1.heap.objs.size], _, _, H1, rfl, I1.kept (t' := s1.toks) fun b o e => Heap.get?_push_of_some _ e, turn_tuple a _, ⟨_, Heap.get?_push_size _ rfl, rfl, rfl⟩, fun b hb => ?_, q⟩
      have e : b = s1.heap.objs.size := by simpa using hb
      subst e
      exact I1.fpOk (Nat.le_refl _) (I1.hok.fresh (Nat.le_refl _))
theorem pit_range1 {a : Expr} {f : Env → Mo (List D)} {p pos : Pos} (hm : X.mg "range" = none) (ha : PL G X W H0 [a] f) (hg : Gl X "range" := by rfl) (hs : starEach [a] X.env = [(false, eval a X.env)] := by rfl) : PIt G X W H0 tg (.Call (.Name "range" p) [a] [] pos) (iRng1 f) := by
  intro r st σ T al H R S w q
  refine rdI (pi_range1 hg hm pa_rd hs) (ha r st σ T al H _ S w (seqP back_I q fun ys st1 vs T1 al1 H1 _ x1 w1 r1 q1 => ?_))
  refine optP q1 fun xs hx q2 => ?_
  obtain ⟨n, rfl, e, rfl⟩ := rng1_ok hx
  cases r1 with
  | cons ra rb =>
    cases rb
    exact ⟨n, by rw [rep_int ra], by omega, by omega, q2 _ T1 al1 H1 .refl w1 (itok_range 0 n.toNat)⟩
end

theorem setAll_ok2 {K : PySem.W.Frag} {H0 : Hp} {T : Tg} {al : List Addr} {H : Hp} : ∀ {is : List Nat} {xs : List D} {vs : List V} {r : Env} {σ : L2.St}, is.length = xs.length → SL K H0 T al H r σ → RepAll K (fz T H) al vs xs →
    ∃ σ', SL K H0 T al H (setAll is xs r) σ' ∧ (σ'.length = σ.length ∧ ∀ j, j ∉ is → σ'[j]? = σ[j]?) ∧ ∀ (Q : L2.St → Hp → Prop), Q σ' H → (is.map gName).foldr (fun g u => gCons g u) gNil vs σ H Q
  | [], [], _, r, σ, _, S, h => by
    cases h
    exact ⟨σ, S, ⟨rfl, fun _ _ => rfl⟩, fun Q q => ⟨rfl, q⟩⟩
  | i :: is, x :: xs, _, r, σ, hl, S, h => by
    cases h with
    | cons h1 h2 =>
      obtain ⟨σ', S', o', q'⟩ := setAll_ok2 (is := is) (xs := xs) (by simpa using hl) (S.setD (i := i) h1) h2
      refine ⟨σ', S', ⟨by rw [o'.1, List.length_set], fun j hj => ?_⟩, fun Q q => ⟨_, _, rfl, q' Q q⟩⟩
      rw [o'.2 j (fun z => hj (List.mem_cons_of_mem _ z)), List.getElem?_set_ne (fun z => hj (by rw [z]; exact List.mem_cons_self))]
  | [], _ :: _, _, _, _, hl, _, _ => by cases hl
  | _ :: _, [], _, _, _, hl, _, _ => by cases hl
def TgOk (K : PySem.W.Frag) (H0 : Hp) (b : D → Env → Option Env) (is : List Nat) (g : TG) : Prop := ∀ (x : D) (r r' : Env) (σ : L2.St) (T : Tg) (al : List Addr) (H : Hp) (v : V), b x r = some r' → SL K H0 T al H r σ → Rep K (fz T H) al v x →
  ∃ σ', SL K H0 T al H r' σ' ∧ (σ'.length = σ.length ∧ ∀ j, j ∉ is → σ'[j]? = σ[j]?) ∧ ∀ Q : L2.St → Hp → Prop, Q σ' H → g v σ H Q
def tgN (i : Nat) : D → Env → Option Env := fun x r => some (r.set i (some (.d x)))
def tgT (is : List Nat) : D → Env → Option Env := fun x r => (unpack is.length x).map fun xs => setAll is xs r
section
variable {X : Cx} {H0 : Hp} {pos : Pos}
theorem tgok_name {K : PySem.W.Frag} {i : Nat} : TgOk K H0 (tgN i) [i] (gName i) := fun y r r' σ T al H v e S h => by
  have e' : r.set i (some (.d y)) = r' := Option.some.inj e
  subst e'
  exact ⟨_, S.setD h, ⟨by rw [List.length_set], fun j hj => List.getElem?_set_ne (fun z => hj (by rw [z]; exact List.mem_cons_self))⟩, fun Q q => q⟩
theorem unpack_ok {n : Nat} {x : D} {xs : List D} (h : unpack n x = some xs) : x = .tup xs ∧ xs.length = n := by
  cases x with
  | tup ys =>
    have h' : (match Nat.beq ys.length n with
      | true => some ys
      | false => none) = some xs := h
    cases e : Nat.beq ys.length n with
    | false => rw [e] at h'; cases h'
    | true =>
      rw [e] at h'
      have ex : ys = xs := Option.some.inj h'
      subst ex
      exact ⟨rfl, Nat.eq_of_beq_eq_true e⟩
  | _ => cases h
abbrev gTs (is : List Nat) : TGs := (is.map gName).foldr (fun g u => gCons g u) gNil
theorem tgok_tup {K : PySem.W.Frag} {is : List Nat} : TgOk K H0 (tgT is) is (gTup K is.length (gTs is)) := fun y r r' σ T al H v e S h => by
  have e' : (unpack is.length y).map (fun xs => setAll is xs r) = some r' := e
  obtain ⟨xs, h1, h2⟩ := Option.map_eq_some_iff.mp e'
  obtain ⟨rfl, hl⟩ := unpack_ok h1
  obtain ⟨a, vs, rfl, hs, rs⟩ := rep_tup h
  obtain ⟨σ', S', o', q'⟩ := setAll_ok2 (is := is) hl.symm S rs
  subst h2
  exact ⟨σ', S', o', fun Q q => ⟨a, vs, rfl, Same.seqT fz_same hs, by rw [rs.length, hl], q' Q q⟩⟩
theorem pg_tupN {es : List Expr} {k : Nat} {is : List Nat} (hc : X.calm = true) (hg : PGs X es (gTs is)) (hn : (assignEach es X.env).length = is.length := by rfl) (hst : (assignEach es X.env).findIdx? (·.1) = none := by rfl) : PG X (.Tuple es k pos) (gTup X.K is.length (gTs is)) := pg_tup hc hg hn hst
end

def forL (b : D → Env → Option Env) (g : Stm) : List D → Stm
  | [] => fun r => pure (.nx r)
  | x :: xs => fun r => Mo.opt (b x r) >>= fun r1 => g r1 >>= fun fl => match fl with
    | .nx r2 => forL b g xs r2
    | .ct r2 => forL b g xs r2
    | .brk r2 => pure (.nx r2)
    | .ret v => pure (.ret v)
def sFor (f : Env → Mo (List D)) (b : D → Env → Option Env) (g : Stm) : Stm := fun r => f r >>= fun xs => forL b g xs r
section
variable {G : GX} {X : Cx} {E : XK} {H0 : Hp} {tg iter : Expr} {body : List Stmt} {pos : Pos}
theorem SI.base {B : Bs} {r : Env} {σ : L2.St} {st : St} {T : Tg} {al : List Addr} {H : Hp} (S : SI G X H0 B r σ st T al H) : SI G X H0 { B with F := fz T H, ab := al } r σ st T al H := ⟨S.sl, S.wi, S.ex, fun _ _ e => e, ⟨[], by simp⟩⟩
theorem SI.weak {B : Bs} {r r' : Env} {σ σ' : L2.St} {st st' : St} {T T' : Tg} {al al' : List Addr} {H H' : Hp} (S0 : SI G X H0 B r σ st T al H) (S : SI G X H0 { B with F := fz T H, ab := al } r' σ' st' T' al' H') : SI G X H0 B r' σ' st' T' al' H' :=
  ⟨S.sl, S.wi, S.ex, fun a o e => S.fb a o (S0.fb a o e), by
    obtain ⟨p, e1⟩ := S0.ab
    obtain ⟨q, e2⟩ := S.ab
    have e2' : al' = al ++ q := e2
    exact ⟨p ++ q, by rw [e2', e1, List.append_assoc]⟩⟩
theorem pst_for {f : Env → Mo (List D)} {b : D → Env → Option Env} {is : List Nat} {gt : TG} {g : Stm} (hp : PassesOwn (model X.prog X.w) X.A X.env X.xe) (hc : X.calm = true) (hi : PIt G X (wE E) H0 tg iter f) (hg : PG X tg gt) (hgs : TgOk X.K H0 b is gt) (hb : PBl G X E H0 body g)
    (hs : ∀ x, foldedSetIterable iter X.env x = pure x := by intro _; rfl) : PSt G X E H0 (.For tg iter body [] pos) (sFor f b g) := by
  intro B r s0 σ T al H D S q
  refine rdS1 (ps_for hp hc pi_rd hg pss_rd hs) (hi r s0 σ T al H _ S.sl S.wi (seqS S q fun xs st1 J T1 al1 H1 x1 S1 r1 q1 => ?_))
  -- xs stands still from here on
  refine ⟨fun i m σ2 H2 => m + i = xs.length ∧ ∃ (r2 : Env) (st2 : St) (T2 : Tg) (al2 : List Addr), SI G X H0 { B with F := fz T1 H1, ab := al1 } r2 σ2 st2 T2 al2 H2 ∧ PostS G X E H0 B D (forL b g (xs.drop i) r2 st2),
    ⟨xs.length, by omega, r, st1, T1, al1, S1.base, q1⟩, ?_⟩
  rintro i m σ2 H2 ⟨hm, r2, st2, T2, al2, S2, q2⟩
  obtain ⟨hgo, hstop⟩ := r1 T2 al2 H2 st2 S2.fb (lent_two S1.ex S2.ex) S2.ab S2.wi i
  cases hx : xs[i]? with
  | none =>
    refine .inl ⟨hstop (by have := List.getElem?_eq_none_iff.mp hx; omega), ?_⟩
    have hd : xs.drop i = [] := List.drop_of_length_le (List.getElem?_eq_none_iff.mp hx)
    rw [hd] at q2
    exact q2 σ2 T2 al2 H2 (S1.weak S2)
  | some x =>
    obtain ⟨go, yl⟩ := hgo x hx
    have hil : i < xs.length := (List.getElem?_eq_some_iff.mp hx).1
    have hd : xs.drop i = x :: xs.drop (i + 1) := by
      rw [List.drop_eq_getElem_cons hil]
      congr 1
      exact (List.getElem?_eq_some_iff.mp hx).2
    rw [hd] at q2
    refine .inr ⟨go, fun σ3 H3 => ∃ (r3 : Env) (st3 : St) (T3 : Tg) (al3 : List Addr), SI G X H0 { B with F := fz T1 H1, ab := al1 } r3 σ3 st3 T3 al3 H3 ∧ PostS G X E H0 B D (forL b g (xs.drop (i + 1)) r3 st3), fun σ3 H3 ⟨r3, st3, T3, al3, S3, q3⟩ => ⟨m - 1, by omega, by omega, r3, st3, T3, al3, S3, q3⟩, fun v H3 y => ?_⟩
    obtain ⟨T3, x3, w3, rv⟩ := yl v H3 y
    have S3 := S2.step x3 w3
    refine optS q2 fun r3 hr q3 => ?_
    obtain ⟨σ3, SL3, _, qg⟩ := hgs x r2 r3 σ2 T3 al2 H3 v hr S3.sl rv
    refine qg _ ?_
    have S4 : SI G X H0 { B with F := fz T1 H1, ab := al1 } r3 σ3 st2 T3 al2 H3 := S3.slot SL3
    refine hb _ r3 st2 σ3 T3 al2 H3 _ S4 ?_
    have q4 : PostS G X E H0 B D ((g r3 >>= fun fl => match fl with
      | .nx r2 => forL b g (xs.drop (i + 1)) r2
      | .ct r2 => forL b g (xs.drop (i + 1)) r2
      | .brk r2 => pure (.nx r2)
      | .ret v => pure (.ret v)) st2) := q3
    rw [bind_ap] at q4
    cases eg : g r3 st2 with
    | ok fl st5 =>
      rw [eg] at q4
      cases fl with
      | nx r5 => exact fun σ5 T5 al5 H5 S5 => ⟨r5, st5, T5, al5, S5, q4⟩
      | ct r5 => exact fun σ5 T5 al5 H5 S5 => ⟨r5, st5, T5, al5, S5, q4⟩
      | brk r5 => exact fun σ5 T5 al5 H5 S5 => q4 σ5 T5 al5 H5 (S1.weak S5)
      | ret x5 => exact q4
    | err c x5 st5 =>
      rw [eg] at q4
      exact q4
    | bad =>
      rw [eg] at q4
      exact q4
end
end Pi
namespace Pi
open PySem PySem.Spec PyProof.Rows L2

def nx {b : Type} (f : Mo b) : Mo b := fun st => match f st with
  | .ok x st' => .ok x st'
  | _ => .bad
theorem nx_ok {b : Type} {f : Mo b} {st st' : St} {x : b} (h : nx f st = .ok x st') : f st = .ok x st' := by
  unfold nx at h
  split at h
  · rename_i e
    rw [e]
    exact h
  · cases h
def wipeE (vs : List Nat) (r : Env) : Env := vs.foldr (fun v r => r.set v none) r
def lcL (b : D → Env → Option Env) (c : Env → Mo Bool) (e : Env → Mo D) (r : Env) : List D → Mo (List D)
  | [] => pure []
  | x :: xs => Mo.opt (b x r) >>= fun r1 => nx (c r1) >>= fun k => match k with
    | true => nx (e r1) >>= fun y => lcL b c e r xs >>= fun ys => pure (y :: ys)
    | false => lcL b c e r xs
def nLc (f : Env → Mo (List D)) (b : D → Env → Option Env) (vs : List Nat) (c : Env → Mo Bool) (e : Env → Mo D) : Env → Mo (List D) := fun r => f r >>= fun xs => lim xs.length xs >>= fun ys => lcL b c e (wipeE vs r) ys
def bYes : Env → Mo Bool := fun _ => pure true

theorem wipe_SL {K : PySem.W.Frag} {H0 : Hp} {T : Tg} {al : List Addr} {H : Hp} {r : Env} {σ : L2.St} (S : SL K H0 T al H r σ) : ∀ vs : List Nat, SL K H0 T al H (wipeE vs r) (wipe σ vs)
  | [] => S
  | v :: vs => by
    have ih := wipe_SL S vs
    show SL K H0 T al H ((wipeE vs r).set v none) ((wipe σ vs).set v none)
    refine ⟨by rw [List.length_set, List.length_set]; exact ih.len, fun i x hx => ?_, fun i j x y u nij hi hj oi oj hu hv => ?_⟩
    · rcases set_get hx with ⟨_, e⟩ | ⟨ne, hx⟩
      · cases e
      · obtain ⟨w, h1, h2⟩ := ih.at_ i x hx
        exact ⟨w, by rw [List.getElem?_set_ne (Ne.symm ne)]; exact h1, h2⟩
    · rcases set_get hi with ⟨_, e⟩ | ⟨ne, hi⟩
      · cases e
      · rcases set_get hj with ⟨_, e⟩ | ⟨ne2, hj⟩
        · cases e
        · rw [List.getElem?_set_ne (Ne.symm ne)] at hu
          rw [List.getElem?_set_ne (Ne.symm ne2)] at hv
          exact ih.ap i j x y u nij hi hj oi oj hu hv
theorem wipe_in {σ : L2.St} {i : Nat} : ∀ {vs : List Nat}, i ∈ vs → i < σ.length → (wipe σ vs)[i]? = some none
  | v :: vs, h, hl => by
    unfold wipe
    by_cases e : v = i
    · subst e
      rw [List.getElem?_set_self (by rw [wipe_length]; exact hl)]
    · rw [List.getElem?_set_ne e]
      rcases List.mem_cons.mp h with z | z
      · exact absurd z.symm e
      · exact wipe_in z hl
theorem wipe_back {σ σ2 : L2.St} {vs is : List Nat} (hl : σ2.length = (wipe σ vs).length) (h : ∀ j, j ∉ is → σ2[j]? = (wipe σ vs)[j]?) (hv : ∀ j ∈ is, j ∈ vs) : wipe σ2 vs = wipe σ vs := by
  have hl' : σ2.length = σ.length := by rw [hl, wipe_length]
  refine List.ext_getElem? fun i => ?_
  by_cases hi : i ∈ vs
  · by_cases hs : i < σ.length
    · rw [wipe_in hi (by rw [hl']; exact hs), wipe_in hi hs]
    · rw [List.getElem?_eq_none (by rw [wipe_length]; omega), List.getElem?_eq_none (by rw [wipe_length]; omega)]
  · rw [wipe_out hi, h i (fun z => hi (hv i z))]
theorem Ext.upd0 {T T' : Tg} {al al' : List Addr} {H H' : Hp} {p : Addr} {o : HO} (x : Ext T al H T' al' H') (n : H p = none) : Ext T al H T' al' (upd H' p o) where
  tg0 := x.tg0
  tgt := x.tgt
  tgw := x.tgw
  hp0 := fun a u e h t => by rw [upd_ne (ne_of_none e n)]; exact x.hp0 a u e h t
  wl := fun a u e => by rw [upd_ne (ne_of_none e n)]; exact x.wl a u e
  al := x.al
theorem fz_upd {T : Tg} {H : Hp} {p : Addr} {o : HO} (h : T p ≠ some .frz) : Same (fz T H) (fz T (upd H p o)) := fun a u e => by
  obtain ⟨h1, h2, ht⟩ := fz_all e
  have ne : a ≠ p := fun z => by
    rw [z] at h1
    exact h h1
  exact fz_of h1 (by rw [upd_ne ne]; exact h2) ht
theorem WI.upd {K : PySem.W.Frag} {TB : List (Addr × Str)} {T : Tg} {al : List Addr} {st : St} {H : Hp} {p : Addr} {o u : HO} (w : WI K TB T al st H) (h1 : T p ≠ some .frz) (h2 : T p ≠ some .wld) (h : H p = some o) (ht : ∀ ps, o ≠ .tbl ps) (he : ∀ f, o ≠ .ext f) : WI K TB T al st (upd H p u) where
  tg := fun a t e => by
    by_cases z : a = p
    · exact ⟨u, by rw [z, upd_same]⟩
    · obtain ⟨v, q⟩ := w.tg a t e
      exact ⟨v, by rw [upd_ne z]; exact q⟩
  len := w.len
  cell := fun k a m e1 e2 => by
    obtain ⟨q1, q2⟩ := w.cell k a m e1 e2
    have ne : a ≠ p := fun z => by
      rw [z] at q1
      exact h2 q1
    refine ⟨q1, ?_⟩
    rw [upd_ne ne]
    cases m with
    | dk kvs =>
      obtain ⟨vs, e3, r⟩ := q2
      exact ⟨vs, e3, r.mono (fz_upd h1) ⟨[], by simp⟩⟩
  inj := w.inj
  tabs := fun q hq => by
    obtain ⟨ps, e1, e2, e3⟩ := w.tabs q hq
    have ne : q.1 ≠ p := fun z => by
      rw [z, h] at e1
      exact ht ps (Option.some.inj e1)
    refine ⟨ps, by rw [upd_ne ne]; exact e1, e2, fun pos cv hc => ?_⟩
    obtain ⟨c, ec, eh⟩ := e3 pos cv hc
    have ne2 : c ≠ p := fun z => by
      rw [z, h] at eh
      exact he _ (Option.some.inj eh)
    exact ⟨c, ec, by rw [upd_ne ne2]; exact eh⟩
  wldo := w.wldo
def PBs (G : GX) (X : Cx) (H0 : Hp) (ifs : List Expr) (f : Env → Mo Bool) : Prop := ∀ (r : Env) (st : St) (σ : L2.St) (T : Tg) (al : List Addr) (H : Hp) (Q : Bool → Hp → Prop), SL X.K H0 T al H r σ → WI X.K G.TB T al st H → Post G X.K (wE fun _ _ _ => False) RpB σ T al H Q (f r st) →
  ∀ (pins : List (Addr × Obj)) (s : Shared), Inv X pins σ H s → wpAny (model X.prog X.w) X.A (forIn ifs true fun c r => if r = true then do let ok ← isTrue c X.env (eval c X.env); pure (ForInStep.yield ok) else pure (ForInStep.yield r)) (TP X pins σ Q) X.xe s
section
variable {G : GX} {X : Cx} {W : WX} {E : XK} {H0 : Hp} {tg iter elt c : Expr} {ifs : List Expr} {scope : Scope} {own : List (Str × Nat)} {pos : Pos}
theorem pbs_nil : PBs G X H0 [] bYes := fun r st σ T al H Q S w q pins s I => pts_nil.run pins s σ H Q I (q true T al H .refl w rfl)
theorem pbs_one {f : Env → Mo Bool} (h : PB G X (wE fun _ _ _ => False) H0 c f) : PBs G X H0 [c] f := fun r st σ T al H Q S w q pins s I => (pts_one pt_rd).run pins s σ H Q I (h r st σ T al H Q S w q)
abbrev bk (X : Cx) (scope : Scope) (s : Shared) (H : Hp) (C : Addr) (cl : List (Str × Addr)) (fp : List Addr) : Cx := X.blk s H scope (compEnvC scope cl C X.env) fp
def tT (X : Cx) (scope : Scope) (ifs : List Expr) : TT := fun σ H Q => ∀ (s0 : Shared) (H1 : Hp) (C : Addr) (cl : List (Str × Addr)) (fp : List Addr) (pins : List (Addr × Obj)) (s : Shared), Inv (bk X scope s0 H1 C cl fp) pins σ H s →
  wpAny (model X.prog X.w) X.A (forIn ifs true fun c r => if r = true then do let ok ← isTrue c (bk X scope s0 H1 C cl fp).env (eval c (bk X scope s0 H1 C cl fp).env); pure (ForInStep.yield ok) else pure (ForInStep.yield r)) (TP (bk X scope s0 H1 C cl fp) pins σ Q) (fun _ _ => False) s
def tE (X : Cx) (scope : Scope) (e : Expr) : TE := fun σ H Q => ∀ (s0 : Shared) (H1 : Hp) (C : Addr) (cl : List (Str × Addr)) (fp : List Addr), RdE (bk X scope s0 H1 C cl fp) e σ H Q
theorem lc_read {f : Env → Mo (List D)} {b : D → Env → Option Env} {is : List Nat} {gt : TG} {ct : Env → Mo Bool} {fe : Env → Mo D} (hi : PIt G X W H0 tg iter f) (hgs : TgOk X.K H0 b is gt) (hv : ∀ j ∈ is, j ∈ own.map (·.2))
    (ht : ∀ (s0 : Shared) (H1 : Hp) (C : Addr) (cl : List (Str × Addr)) (fp : List Addr), PBs G (bk X scope s0 H1 C cl fp) H0 ifs ct)
    (he : ∀ (s0 : Shared) (H1 : Hp) (C : Addr) (cl : List (Str × Addr)) (fp : List Addr), PD G (bk X scope s0 H1 C cl fp) (wE fun _ _ _ => False) H0 elt fe)
    {r : Env} {st : St} {σ : L2.St} {T : Tg} {al : List Addr} {H : Hp} {Q : VK} (S : SL X.K H0 T al H r σ) (w : WI X.K G.TB T al st H) (q : Post G X.K W (RpN X.K) σ T al H Q (nLc f b (own.map (·.2)) ct fe r st)) :
    tLc (RdI X tg iter) gt (tT X scope ifs) (tE X scope elt) (own.map (·.2)) σ H Q := by
  refine hi r st σ T al H _ S w (seqP back_N q fun xs st1 J T1 al1 H1 _ x1 w1 r1 q1 => ?_)
  intro dA hD
  have q1' : Post G X.K W (RpN X.K) σ T1 al1 H1 Q ((lim xs.length xs >>= fun ys => lcL b ct fe (wipeE (own.map (·.2)) r) ys) st1) := q1
  rw [bind_ap] at q1'
  cases el : lim xs.length xs st1 with
  | err c x st2 =>
    unfold lim at el
    split at el <;> cases el
  | bad =>
    rw [el] at q1'
    exact q1'.elim
  | ok ys st2 =>
    rw [el] at q1'
    obtain ⟨hlen, rfl, rfl⟩ := lim_ok el
    have SW := wipe_SL (S.ext x1) (own.map (·.2))
    -- behind i turns
    refine ⟨fun i m H2 => m + i = ys.length ∧ ∃ (acc : List D) (vs : List V) (st2 : St) (T2 : Tg) (al2 : List Addr), Ext T1 al1 H1 T2 al2 H2 ∧ WI X.K G.TB T2 al2 st2 H2 ∧ T2 dA = none ∧ H2 dA = some (.lst vs) ∧ RepAll X.K (fz T2 H2) al2 vs acc ∧ acc.length ≤ i ∧
      Post G X.K W (RpN X.K) σ T1 al1 H1 Q ((lcL b ct fe (wipeE (own.map (·.2)) r) (ys.drop i) >>= fun zs => pure (acc ++ zs)) st2),
      ⟨ys.length, by omega, [], [], st2, T1, al1, Ext.laid0 hD, w1.laid hD, w1.free hD, upd_same, .nil, Nat.zero_le _, ?_⟩, ?_⟩
    · have q2 : Post G X.K W (RpN X.K) σ T1 al1 H1 Q (lcL b ct fe (wipeE (own.map (·.2)) r) ys st2) := q1'
      rw [bind_ap, List.drop_zero]
      cases e : lcL b ct fe (wipeE (own.map (·.2)) r) ys st2 with
      | ok zs st3 =>
        rw [e] at q2
        exact q2
      | err c x st3 =>
        rw [e] at q2
        exact q2
      | bad =>
        rw [e] at q2
        exact q2
    rintro i m H2 ⟨hm, acc, vs, st3, T2, al2, x2, w2, tD, hD2, rs, hacc, q2⟩
    obtain ⟨hgo, hstop⟩ := r1 T2 al2 H2 st3 x2.fz (lent_ext x2) x2.al w2 i
    cases hx : ys[i]? with
    | none =>
      refine .inl ⟨hstop (by have := List.getElem?_eq_none_iff.mp hx; omega), ?_⟩
      have hd : ys.drop i = [] := List.drop_of_length_le (List.getElem?_eq_none_iff.mp hx)
      rw [hd] at q2
      have q3 : Post G X.K W (RpN X.K) σ T1 al1 H1 Q (.ok (acc ++ []) st3) := q2
      rw [List.append_nil] at q3
      exact q3 (.ref dA) T2 al2 H2 x2 w2 ⟨dA, vs, rfl, hD, tD, hD2, rs⟩
    | some x =>
      obtain ⟨go, yl⟩ := hgo x hx
      have hil : i < ys.length := (List.getElem?_eq_some_iff.mp hx).1
      have hd : ys.drop i = x :: ys.drop (i + 1) := by
        rw [List.drop_eq_getElem_cons hil]
        congr 1
        exact (List.getElem?_eq_some_iff.mp hx).2
      rw [hd] at q2
      refine .inr ⟨go, fun H3 => ∃ (acc : List D) (vs : List V) (st2 : St) (T2 : Tg) (al2 : List Addr), Ext T1 al1 H1 T2 al2 H3 ∧ WI X.K G.TB T2 al2 st2 H3 ∧ T2 dA = none ∧ H3 dA = some (.lst vs) ∧ RepAll X.K (fz T2 H3) al2 vs acc ∧ acc.length ≤ i + 1 ∧
        Post G X.K W (RpN X.K) σ T1 al1 H1 Q ((lcL b ct fe (wipeE (own.map (·.2)) r) (ys.drop (i + 1)) >>= fun zs => pure (acc ++ zs)) st2), fun H3 z => ⟨m - 1, by omega, by omega, z⟩, fun v H3 y => ?_⟩
      obtain ⟨T3, x3, w3, rv⟩ := yl v H3 y
      have q3 : Post G X.K W (RpN X.K) σ T1 al1 H1 Q (((Mo.opt (b x (wipeE (own.map (·.2)) r)) >>= fun r1 => nx (ct r1) >>= fun k => match k with
        | true => nx (fe r1) >>= fun y => lcL b ct fe (wipeE (own.map (·.2)) r) (ys.drop (i + 1)) >>= fun ys => pure (y :: ys)
        | false => lcL b ct fe (wipeE (own.map (·.2)) r) (ys.drop (i + 1))) >>= fun zs => pure (acc ++ zs)) st3) := q2
      rw [bind_ap, bind_ap] at q3
      cases hb : b x (wipeE (own.map (·.2)) r) with
      | none =>
        rw [hb] at q3
        exact q3.elim
      | some r3 =>
        rw [hb] at q3
        have q4 : Post G X.K W (RpN X.K) σ T1 al1 H1 Q (((nx (ct r3) >>= fun k => match k with
          | true => nx (fe r3) >>= fun y => lcL b ct fe (wipeE (own.map (·.2)) r) (ys.drop (i + 1)) >>= fun ys => pure (y :: ys)
          | false => lcL b ct fe (wipeE (own.map (·.2)) r) (ys.drop (i + 1))) >>= fun zs => pure (acc ++ zs)) st3) := q3
        rw [bind_ap, bind_ap] at q4
        obtain ⟨σ3, SL3, ho, qg⟩ := hgs x (wipeE (own.map (·.2)) r) r3 (wipe σ (own.map (·.2))) T3 al2 H3 v hb ((SW.ext x2).ext x3) rv
        refine qg _ ⟨wipe_back ho.1 ho.2 hv, ?_⟩
        cases ec : nx (ct r3) st3 with
        | err c x st4 =>
          unfold nx at ec
          split at ec <;> cases ec
        | bad =>
          rw [ec] at q4
          exact q4.elim
        | ok k st4 =>
          rw [ec] at q4
          have hD3 : H3 dA = some (.lst vs) := x3.hp dA _ hD2 (by rw [tD]; decide)
          have tD3 : T3 dA = none := (x3.tg dA _ hD2).trans tD
          intro s0 Hs C cl fp pins s I
          refine ht s0 Hs C cl fp r3 st3 σ3 T3 al2 H3 _ SL3 w3 ?_ pins s I
          rw [nx_ok ec]
          rintro k' T4 al4 H4 x4 w4 rfl
          have hD4 : H4 dA = some (.lst vs) := x4.hp dA _ hD3 (by rw [tD3]; decide)
          have tD4 : T4 dA = none := (x4.tg dA _ hD3).trans tD3
          have xx4 : Ext T1 al1 H1 T4 al4 H4 := (x2.trans x3).trans x4
          cases k' with
          | false =>
            refine iteF ⟨acc, vs, st4, T4, al4, xx4, w4, tD4, hD4, (rs.ext x3).ext x4, by omega, ?_⟩
            have q5 := q4
            rw [bind_ap]
            exact q5
          | true =>
            refine iteT ?_
            have q5 : Post G X.K W (RpN X.K) σ T1 al1 H1 Q (((nx (fe r3) >>= fun y => lcL b ct fe (wipeE (own.map (·.2)) r) (ys.drop (i + 1)) >>= fun ys => pure (y :: ys)) >>= fun zs => pure (acc ++ zs)) st4) := by
              rw [bind_ap]
              exact q4
            rw [bind_ap, bind_ap] at q5
            cases ee : nx (fe r3) st4 with
            | err c x st5 =>
              unfold nx at ee
              split at ee <;> cases ee
            | bad =>
              rw [ee] at q5
              exact q5.elim
            | ok y st5 =>
              rw [ee] at q5
              intro s0 Hs C cl fp
              refine he s0 Hs C cl fp r3 st4 σ3 T4 al4 H4 _ (SL3.ext x4) w4 ?_
              rw [nx_ok ee]
              intro u T5 al5 H5 x5 w5 ru
              have hD5 : H5 dA = some (.lst vs) := x5.hp dA _ hD4 (by rw [tD4]; decide)
              have tD5 : T5 dA = none := (x5.tg dA _ hD4).trans tD4
              have rs5 := ((rs.ext x3).ext x4).ext x5
              have nf : T5 dA ≠ some .frz := by rw [tD5]; decide
              refine ⟨vs, hD5, by rw [rs.length]; omega, acc ++ [y], vs ++ [u], st5, T5, al5, (xx4.trans x5).upd0 hD, w5.upd nf (by rw [tD5]; decide) hD5 (fun ps z => by cases z) (fun f z => by cases z), tD5, upd_same, ?_, by rw [List.length_append, List.length_singleton]; omega, ?_⟩
              · exact (rs5.mono (fz_upd nf) ⟨[], by simp⟩).snoc (Rep.mono (fz_upd nf) ⟨[], by simp⟩ ru)
              · have q6 : Post G X.K W (RpN X.K) σ T1 al1 H1 Q (((lcL b ct fe (wipeE (own.map (·.2)) r) (ys.drop (i + 1)) >>= fun ys => pure (y :: ys)) >>= fun zs => pure (acc ++ zs)) st5) := q5
                rw [bind_ap, bind_ap] at q6
                rw [bind_ap]
                cases e6 : lcL b ct fe (wipeE (own.map (·.2)) r) (ys.drop (i + 1)) st5 with
                | ok zs st6 =>
                  rw [e6] at q6
                  have q7 : Post G X.K W (RpN X.K) σ T1 al1 H1 Q (.ok (acc ++ (y :: zs)) st6) := q6
                  show Post G X.K W (RpN X.K) σ T1 al1 H1 Q (.ok ((acc ++ [y]) ++ zs) st6)
                  rw [List.append_assoc]
                  exact q7
                | err c x st6 =>
                  rw [e6] at q6
                  exact q6
                | bad =>
                  rw [e6] at q6
                  exact q6
theorem pts_tT : ∀ (s : Shared) (H : Hp) (C : Addr) (cl : List (Str × Addr)) (fp : List Addr), PTs (X.blk s H scope (compEnvC scope cl C X.env) fp) ifs (tT X scope ifs) := fun s H C cl fp => ⟨fun pins s2 σ H2 Q I h => h s H C cl fp pins s2 I⟩
theorem pe_tE : ∀ (s : Shared) (H : Hp) (C : Addr) (cl : List (Str × Addr)) (fp : List Addr), PE (X.blk s H scope (compEnvC scope cl C X.env) fp) elt (tE X scope elt) := fun s H C cl fp => ⟨fun pins s2 σ H2 Q I h => h s H C cl fp pins s2 I⟩
theorem pn_lc {f : Env → Mo (List D)} {b : D → Env → Option Env} {is : List Nat} {gt : TG} {ct : Env → Mo Bool} {fe : Env → Mo D} (own : List (Str × Nat)) (hc : X.calm = true) (hN : X.N.Nodup) (hi : PIt G X W H0 tg iter f) (ok : BlkOk X.N X.env.scope scope own) (hgs : TgOk X.K H0 b is gt)
    (hg : ∀ (s0 : Shared) (H1 : Hp) (C : Addr) (cl : List (Str × Addr)) (fp : List Addr), PG (bk X scope s0 H1 C cl fp) tg gt)
    (ht : ∀ (s0 : Shared) (H1 : Hp) (C : Addr) (cl : List (Str × Addr)) (fp : List Addr), PBs G (bk X scope s0 H1 C cl fp) H0 ifs ct)
    (he : ∀ (s0 : Shared) (H1 : Hp) (C : Addr) (cl : List (Str × Addr)) (fp : List Addr), PD G (bk X scope s0 H1 C cl fp) (wE fun _ _ _ => False) H0 elt fe)
    (hv : ∀ j ∈ is, j ∈ own.map (·.2) := by decide) (hs : ∀ x, foldedSetIterable iter X.env x = pure x := by intro _; rfl) : PN G X W H0 (.ListComp elt [⟨tg, iter, ifs, 0⟩] scope pos) (nLc f b (own.map (·.2)) ct fe) := fun r st σ T al H Q S w q =>
  rdE (pe_lc hc hN pi_rd ok hg pts_tT pe_tE hs) (lc_read hi hgs hv ht he S w q)
end
end Pi
namespace Pi
open PySem PySem.Spec PyProof.Rows L2

structure FnG (P : Program) (w : World) (K : PySem.W.Frag) (mg : Str → Option Value) (base : Heap) (k : Nat) (f : Addr) (fd : FuncData) (ps : List Str) (sp : Sp) : Prop where
  len : ∀ vs H Q E, sp vs H Q E → vs.length = ps.length
  run : ∀ (A : Around) (outer : List PySem.Env) (s : Shared) (H : Hp) (args : Args) (us : List Value) (vs : List V) (Q : VK) (E : XK), Room k A → A.guards = some [] → Env0 P w K mg base A outer s H → BindsTo s fd args (ps.zip us) → Vals vs us → sp vs H Q E →
    codeAny (model P w) A (.call (.ref f) args) (CR (L2.CX P w) outer P w H s Q E) s
section
variable {P : Program} {w : World} {K : PySem.W.Frag} {mg : Str → Option Value} {base : Heap} {k : Nat} {f : Addr} {fd : FuncData} {N ps : List Str} {sp : Sp} {x qual : Str} {params : Arguments} {body : List Stmt} {scope : Scope} {dvs : List V} {kws : List (Str × V)}
abbrev dcx (P : Program) (w : World) (K : PySem.W.Frag) (mg : Str → Option Value) (base : Heap) (N : List Str) (qual : Str) (scope : Scope) (f : Addr) (cd : Value) (A : Around) (outer : List PySem.Env) (s : Shared) (H : Hp) (E : XK) : Cx := cxOf (L2.CX P w) P w K mg base N qual scope f cd A outer s H E
end

def runD (n : Nat) (g : Stm) (ds : List D) : Mo D := g (ds.map (fun x => some (.d x)) ++ List.replicate (n - ds.length) none) >>= fun fl => match fl with
  | .nx _ => pure .non
  | .ret x => pure x
  | _ => Mo.bad
def spM (G : GX) (K : PySem.W.Frag) (n : Nat) (m : List D → Mo D) : Sp := fun vs H Q E => vs.length = n ∧ ∃ (T : Tg) (al : List Addr) (st : St) (ds : List D), WI K G.TB T al st H ∧ RepAll K (fz T H) al vs ds ∧ Post G K (wE E) (RpD K) [] T al H Q (m ds st)
section
variable {G : GX} {P : Program} {w : World} {K : PySem.W.Frag} {mg : Str → Option Value} {base : Heap} {k : Nat} {f : Addr} {fd : FuncData} {N ps : List Str} {x qual : Str} {params : Arguments} {body : List Stmt} {scope : Scope} {dvs : List V} {kws : List (Str × V)}
theorem sl_start {H0 : Hp} {T : Tg} {al : List Addr} {H : Hp} {vs : List V} {ds : List D} (r : RepAll K (fz T H) al vs ds) : SL K H0 T al H (ds.map (fun x => some (SV.d x)) ++ List.replicate (N.length - ds.length) none) (L2.start N vs) := by
  have hl := r.length
  have key : ∀ (i : Nat) (x : SV), (ds.map (fun x => some (SV.d x)) ++ List.replicate (N.length - ds.length) none)[i]? = some (some x) → ∃ d v, x = .d d ∧ Rep K (fz T H) al v d ∧ (L2.start N vs)[i]? = some (some v) := fun i x h => by
    have hi : i < ds.length := by
      by_cases hi : i < ds.length
      · exact hi
      · rw [List.getElem?_append_right (by simpa using hi), List.getElem?_replicate] at h
        split at h <;> cases h
    rw [List.getElem?_append_left (by simpa using hi), List.getElem?_map] at h
    obtain ⟨d, hd, e⟩ := Option.map_eq_some_iff.mp h
    obtain ⟨v, hv, rv⟩ := r.get hd
    refine ⟨d, v, (Option.some.inj e).symm, rv, ?_⟩
    unfold L2.start
    rw [List.getElem?_append_left (by rw [List.length_map, hl]; exact hi), List.getElem?_map, hv]
    rfl
  refine ⟨by unfold L2.start; rw [List.length_append, List.length_append, List.length_map, List.length_map, List.length_replicate, List.length_replicate, hl], fun i x h => ?_, fun i j x y v _ h _ o _ _ => ?_⟩
  · obtain ⟨d, v, rfl, rv, hs⟩ := key i x h
    exact ⟨v, hs, rv⟩
  · obtain ⟨d, v, rfl, _, _⟩ := key i x h
    cases o
theorem start_si {X : Cx} {T : Tg} {al : List Addr} {st : St} {H : Hp} {r : Env} {σ : L2.St} (wi : WI X.K G.TB T al st H) (sl : SL X.K H T al H r σ) : SI G X H ⟨T, al, fz T H, al⟩ r σ st T al H := ⟨sl, wi, .refl, fun _ _ e => e, ⟨[], by simp⟩⟩
end

structure Knows (G : GX) (X : Cx) (x : Str) (n : Nat) (m : List D → Mo D) : Prop where
  ex : ∃ (k : Nat) (f : Addr) (fd : FuncData) (ps : List Str), ps.length = n ∧ FnG X.prog X.w X.K X.mg X.base k f fd ps (spM G X.K n m) ∧ Room k X.A ∧ X.mg x = some (.ref f) ∧ PySem.W.keepIn X.K (.ref f) = true ∧ Binds X.K fd ps []
def eCall (m : List D → Mo D) (f : Env → Mo (List D)) : Env → Mo D := fun r => f r >>= m
section
variable {G : GX} {X : Cx} {W : WX} {H0 : Hp} {x : Str} {n : Nat} {m : List D → Mo D} {p pos : Pos} {e : Expr} {es : List Expr}
theorem run_knows (kn : Knows G X x n m) (gd : X.A.guards = some []) (tk : Takes X W) {pins : List (Addr × Obj)} {σ : L2.St} {H : Hp} {s : Shared} {Q : VK} {us : List Value} {vs : List V} {T : Tg} {al : List Addr} {st : St} {ds : List D} (I : Inv X pins σ H s) (r : Vals vs us) (hl : vs.length = n)
    (wi : WI X.K G.TB T al st H) (rs : RepAll X.K (fz T H) al vs ds) (q : Post G X.K W (RpD X.K) σ T al H Q (m ds st)) : ∃ f, X.mg x = some (.ref f) ∧ PySem.W.keepIn X.K (.ref f) = true ∧ wpAny (model X.prog X.w) X.A (call (.ref f) us) (EP X pins σ Q) X.xe s := by
  obtain ⟨k, f, fd, ps, hn, F, hr, hm, hk, hb⟩ := kn.ex
  refine ⟨f, hm, hk, ?_⟩
  have b := hb s us I.kIn (by rw [List.append_nil, ← r.length, hl, hn])
  rw [List.append_nil] at b
  have q' : Post G X.K (wE (WE W σ)) (RpD X.K) [] T al H Q (m ds st) := by
    cases em : m ds st with
    | ok y st1 => rw [em] at q; exact q
    | err c y st1 => rw [em] at q; exact q
    | bad => rw [em] at q; exact q
  refine wpAny_call (codeAny_mono (F.run X.A X.stack s H ⟨us, []⟩ us vs Q (WE W σ) hr gd I.env0 b r ⟨hl, T, al, st, ds, wi, rs, q'⟩) fun r s' hq => ?_)
  cases r with
  | error e => exact passAt tk σ pins H s e s' I hq
  | ok fl =>
    cases fl with
    | ret u => exact I.after hq
    | next => exact False.elim hq
    | brk => exact False.elim hq
    | cont => exact False.elim hq
theorem pd_call {f : Env → Mo (List D)} (kn : Knows G X x n m) (gd : X.A.guards = some []) (tk : Takes X W) (hg : Gl X x) (hn : ∀ r st ds st1, f r st = .ok ds st1 → ds.length = n) (ha : PL G X W H0 (e :: es) f)
    (hdb : (x == ("__debug__" : Str)) = false := by decide) (he : starEach (e :: es) X.env = (false, eval e X.env) :: starEach es X.env := by rfl) (hpl : (backTo pos (starEach es X.env)).any (·.1) = false := by rfl) :
    PD G X W H0 (.Call (.Name x p) (e :: es) [] pos) (eCall m f) := by
  intro r st σ T al H Q S w q pins s I
  obtain ⟨k0, f0, fd, ps, hn0, F, hr, hm, hk, hb⟩ := kn.ex
  refine wpAny_Call_Name_kw (ld_glob I hg hm ?_ hdb)
  refine PySem.W.callWith_K (h₀ := X.base) I.ok.mod.kin hk (thn (ha r st σ T al H (fun vs H1 => ∃ T1 al1 st1 ds, vs.length = n ∧ WI X.K G.TB T1 al1 st1 H1 ∧ RepAll X.K (fz T1 H1) al1 vs ds ∧ Post G X.K W (RpD X.K) σ T1 al1 H1 Q (m ds st1)) S w ?_ pos pins s I) fun us s1 ⟨vs, H1, I1, r1, T1, al1, st1, ds, hl, w1, rs, q1⟩ => ⟨I1.kIn, ?_⟩) he hpl
  · refine seqP back_D q fun ds st1 vs T1 al1 H1 ef x1 w1 r1 q1 => ?_
    exact ⟨T1, al1, st1, ds, by rw [RepAll.length r1]; exact hn r st ds st1 ef, w1, r1, q1⟩
  · obtain ⟨f1, hm1, _, h1⟩ := run_knows kn gd tk I1 r1 hl w1 rs q1
    rw [hm] at hm1
    cases hm1
    exact h1
theorem pd_call0 (kn : Knows G X x 0 m) (gd : X.A.guards = some []) (tk : Takes X W) (hg : Gl X x) (hdb : (x == ("__debug__" : Str)) = false := by decide) : PD G X W H0 (.Call (.Name x p) [] [] pos) (eCall m aNil) := by
  intro r st σ T al H Q S w q pins s I
  obtain ⟨k0, f0, fd, ps, hn0, F, hr, hm, hk, hb⟩ := kn.ex
  refine wpAny_Call_Name_kw (ld_glob I hg hm ?_ hdb)
  obtain ⟨f1, hm1, _, h1⟩ := run_knows kn gd tk I .nil rfl w .nil q
  rw [hm] at hm1
  cases hm1
  exact PySem.W.callWith_K0 I.kIn hk h1
theorem acons_len {f : Env → Mo D} {g : Env → Mo (List D)} {k : Nat} (h : ∀ r st ds st1, g r st = .ok ds st1 → ds.length = k) : ∀ r st ds st1, aCons f g r st = .ok ds st1 → ds.length = k + 1 := fun r st ds st1 e => by
  have e' : (f r >>= fun x => g r >>= fun xs => pure (x :: xs)) st = .ok ds st1 := e
  rw [bind_ap] at e'
  cases e1 : f r st with
  | ok y st2 =>
    rw [e1] at e'
    have e2 : (g r >>= fun xs => pure (y :: xs)) st2 = .ok ds st1 := e'
    rw [bind_ap] at e2
    cases e3 : g r st2 with
    | ok ys st3 =>
      rw [e3] at e2
      have e4 : Res.ok (y :: ys) st3 = .ok ds st1 := e2
      injection e4 with e5 e6
      rw [← e5, List.length_cons, h r st2 ys st3 e3]
    | err c z st3 => rw [e3] at e2; cases e2
    | bad => rw [e3] at e2; cases e2
  | err c z st2 => rw [e1] at e'; cases e'
  | bad => rw [e1] at e'; cases e'
theorem anil_len : ∀ r st ds st1, aNil r st = .ok ds st1 → ds.length = 0 := fun r st ds st1 e => by
  have e' : Res.ok ([] : List D) st = .ok ds st1 := e
  injection e' with e1
  rw [← e1]
  rfl
end
end Pi
namespace Pi
open PySem PySem.Spec PyProof.Rows L2

def oIx : D → D → Option D
  | .tup xs, .int i => (place xs.length i).bind fun j => xs[j]?
  | .lst xs, .int i => (place xs.length i).bind fun j => xs[j]?
  | _, _ => none
theorem place_ixN (n : Nat) (i : Int) : place n i = ixN n i := by
  unfold place ixN
  by_cases h0 : 0 ≤ i
  · rw [decide_eq_true h0, if_pos h0]
    by_cases h1 : i < n
    · rw [decide_eq_true h1, if_pos h1]
    · rw [decide_eq_false h1, if_neg h1]
  · rw [decide_eq_false h0, if_neg h0]
    by_cases h1 : -(n : Int) ≤ i
    · rw [decide_eq_true h1, if_pos h1, Int.add_comm]
    · rw [decide_eq_false h1, if_neg h1]
theorem at_rep {K : PySem.W.Frag} {F : Hp} {al : List Addr} {vs : List V} {ds : List D} {i : Int} {x : D} (r : RepAll K F al vs ds) (h : ((place ds.length i).bind fun j => ds[j]?) = some x) : ∃ v, atI vs i = some v ∧ Rep K F al v x := by
  rw [place_ixN] at h
  unfold atI
  rw [r.length]
  cases e : ixN ds.length i with
  | none => rw [e] at h; cases h
  | some j =>
    rw [e] at h
    exact r.get h
section
variable {G : GX} {X : Cx} {W : WX} {H0 : Hp} {a b e : Expr} {es : List Expr} {pos p2 : Pos}
theorem pd_ix {f g : Env → Mo D} (ha : PH G X W H0 a f) (hb : PH G X W H0 b g) (hs : PlainIx b := by intro o i; rfl) : PD G X W H0 (.Subscript a b pos) (eBin oIx f g) := by
  intro r st σ T al H Q S w q
  refine rdE (pe_ix (ix_list.or ix_tup) pe_rd pe_rd hs) ?_
  refine ha r st σ T al H _ S w (seqP back_D q fun x st1 v T1 al1 H1 _ x1 w1 r1 q1 => ?_)
  refine hb r st1 σ T1 al1 H1 _ (S.ext x1) w1 (seqP back_D q1 fun y st2 u T2 al2 H2 _ x2 w2 r2 q2 => ?_)
  refine optP q2 fun z hz q3 => ?_
  have rx := RepH.ext r1 x2
  cases y with
  | int i =>
    have eu := rep_int r2
    subst eu
    cases x with
    | tup ds =>
      obtain ⟨p, vs, rfl, h1, h2⟩ := rep_tup rx
      obtain ⟨t, e1, e2⟩ := at_rep h2 hz
      exact .inr ⟨p, vs, i, t, rfl, rfl, Same.seqT fz_same h1, e1, q3 t T2 al2 H2 .refl w2 e2⟩
    | lst ds =>
      obtain ⟨p, vs, rfl, h1, h2⟩ := rx
      obtain ⟨t, e1, e2⟩ := at_rep h2 hz
      exact .inl ⟨p, vs, i, t, rfl, rfl, .inl (.inl (nw_same _ _ h1)), e1, q3 t T2 al2 H2 .refl w2 e2⟩
    | _ => cases hz
  | _ => cases x <;> cases hz

def sx (n d : Nat) : Option Int → Nat
  | none => d
  | some i => match decide (i < 0) with
    | true => (i + n).toNat
    | false => (match decide (i < n) with
      | true => i.toNat
      | false => n)
theorem sx_eq (n d : Nat) (o : Option Int) : sx n d o = HT.sIx n d o := by
  cases o with
  | none => rfl
  | some i =>
    unfold sx HT.sIx
    by_cases h : i < 0
    · simp only [decide_eq_true h, if_pos h]
    · simp only [decide_eq_false h, if_neg h]
      by_cases h2 : i < n
      · simp only [decide_eq_true h2]
        first
        | rfl
        | omega
      · simp only [decide_eq_false h2]
        first
        | rfl
        | omega
def cutD (xs : List D) (lo hi : Option Int) : List D := (xs.drop (sx xs.length 0 lo)).take (sx xs.length xs.length hi - sx xs.length 0 lo)
def partD : D → Option (Option Int)
  | .int i => some (some i)
  | _ => none
def PPt (G : GX) (X : Cx) (W : WX) (H0 : Hp) (o : Option Expr) (f : Env → Mo (Option Int)) : Prop := ∀ (r : Env) (st : St) (σ : L2.St) (T : Tg) (al : List Addr) (H : Hp) (Q : Option Int → Hp → Prop), SL X.K H0 T al H r σ → WI X.K G.TB T al st H →
  Post G X.K W (fun _ _ _ _ v x => v = x) σ T al H Q (f r st) → ∀ (pins : List (Addr × Obj)) (s : Shared), Inv X pins σ H s → wpAny (model X.prog X.w) X.A (evalPart o X.env) (fun u s' => ∃ o H', Inv X pins σ H' s' ∧ IsPart u o ∧ Q o H') X.xe s
def pNone : Env → Mo (Option Int) := fun _ => pure none
def pSome (f : Env → Mo D) : Env → Mo (Option Int) := fun r => f r >>= fun x => Mo.opt (partD x)
theorem back_P : Back (fun (_ : Hp) (_ : Tg) (_ : List Addr) (_ : Hp) (v x : Option Int) => v = x) := fun _ _ _ _ _ _ _ _ h => h
theorem ppt_none : PPt G X W H0 none pNone := fun r st σ T al H Q S w q pins s I => po_none.run pins s σ H Q I (q none T al H .refl w rfl)
theorem ppt_some {f : Env → Mo D} (h : PD G X W H0 e f) : PPt G X W H0 (some e) (pSome f) := by
  intro r st σ T al H Q S w q pins s I
  refine (po_some pe_rd).run pins s σ H Q I (h r st σ T al H _ S w (seqP back_P q fun x st1 v T1 al1 H1 _ x1 w1 r1 q1 => ?_))
  refine optP q1 fun z hz q2 => ?_
  cases x with
  | int i =>
    have ez : some i = z := Option.some.inj hz
    subst ez
    exact ⟨i, rep_int r1, q2 _ T1 al1 H1 .refl w1 rfl⟩
  | _ => cases hz
def tPt (X : Cx) (o : Option Expr) : TO := fun σ H Q => ∀ (pins : List (Addr × Obj)) (s : Shared), Inv X pins σ H s → wpAny (model X.prog X.w) X.A (evalPart o X.env) (fun u s' => ∃ o H', Inv X pins σ H' s' ∧ IsPart u o ∧ Q o H') X.xe s
theorem po_rd {o : Option Expr} : PO X o (tPt X o) := ⟨fun pins s σ H Q I h => h pins s I⟩
def eSlice (f : Env → Mo D) (lo hi : Env → Mo (Option Int)) : Env → Mo D := fun r => f r >>= fun x => lo r >>= fun l => hi r >>= fun u => match x with
  | .tup xs => pure (.tup (cutD xs l u))
  | _ => Mo.bad
def nSlice (f : Env → Mo D) (lo hi : Env → Mo (Option Int)) : Env → Mo (List D) := fun r => f r >>= fun x => lo r >>= fun l => hi r >>= fun u => match x with
  | .lst xs => pure (cutD xs l u)
  | .kls xs => pure (cutD xs l u)
  | _ => Mo.bad
theorem cut_rep {K : PySem.W.Frag} {F : Hp} {al : List Addr} {vs : List V} {ds : List D} (lo hi : Option Int) (r : RepAll K F al vs ds) : RepAll K F al (cutV vs lo hi) (cutD ds lo hi) := by
  unfold cutV cutD
  rw [sx_eq, sx_eq, r.length]
  exact (r.drop _).take _
theorem cut_all {ds : List D} {lo hi : Option Int} (h1 : HT.sIx ds.length 0 lo = 0) (h2 : HT.sIx ds.length ds.length hi = ds.length) : cutD ds lo hi = ds := by
  unfold cutD
  rw [sx_eq, sx_eq, h1, h2]
  simp
variable {lo hi : Option Expr}
theorem pd_slice {f : Env → Mo D} {fl fu : Env → Mo (Option Int)} (ha : PD G X W H0 a f) (hl : PPt G X W H0 lo fl) (hu : PPt G X W H0 hi fu) : PD G X W H0 (.Subscript a (.Slice lo hi none p2) pos) (eSlice f fl fu) := by
  intro r st σ T al H Q S w q
  refine rdE (pe_slice sl_tupA pe_rd po_rd po_rd) ?_
  refine ha r st σ T al H _ S w (seqP back_D q fun x st1 v T1 al1 H1 _ x1 w1 r1 q1 => ?_)
  refine hl r st1 σ T1 al1 H1 _ (S.ext x1) w1 (seqP back_D q1 fun l st2 l' T2 al2 H2 _ x2 w2 r2 q2 => ?_)
  cases r2
  refine hu r st2 σ T2 al2 H2 _ ((S.ext x1).ext x2) w2 (seqP back_D q2 fun u st3 u' T3 al3 H3 _ x3 w3 r3 q3 => ?_)
  cases r3
  cases x with
  | tup ds =>
    obtain ⟨p, vs, rfl, h1, h2⟩ := rep_tupP ((Rep.ext r1 x2).ext x3)
    refine ⟨p, vs, rfl, .inl (.inl (fz_same _ _ h1)), fun hw => ?_, fun hw p' n => ?_⟩
    · rw [h2.length] at hw
      refine q3 _ T3 al3 H3 .refl w3 ?_
      show Rep X.K (fz T3 H3) al3 (.ref p) (.tup (cutD ds l u))
      rw [cut_all hw.1 hw.2]
      exact .tup h1 h2
    · have n' := w3.free n
      refine q3 (.ref p') (tset T3 p' .frz) al3 _ (Ext.laid n .frz) ((w3.laid n).tag (by rw [n']; decide) (by rw [n']; decide) upd_same) ?_
      exact .tup (fz_of tset_same upd_same) (cut_rep l u (RepAll.ext h2 (Ext.laid n .frz)))
  | _ => exact q3.elim
theorem pn_slice {f : Env → Mo D} {fl fu : Env → Mo (Option Int)} (ha : PH G X W H0 a f) (hl : PPt G X W H0 lo fl) (hu : PPt G X W H0 hi fu) : PN G X W H0 (.Subscript a (.Slice lo hi none p2) pos) (nSlice f fl fu) := by
  intro r st σ T al H Q S w q
  refine rdE (pe_slice sl_list pe_rd po_rd po_rd) ?_
  refine ha r st σ T al H _ S w (seqP back_N q fun x st1 v T1 al1 H1 _ x1 w1 r1 q1 => ?_)
  refine hl r st1 σ T1 al1 H1 _ (S.ext x1) w1 (seqP back_N q1 fun l st2 l' T2 al2 H2 _ x2 w2 r2 q2 => ?_)
  cases r2
  refine hu r st2 σ T2 al2 H2 _ ((S.ext x1).ext x2) w2 (seqP back_N q2 fun u st3 u' T3 al3 H3 _ x3 w3 r3 q3 => ?_)
  cases r3
  cases x with
  | lst ds =>
    obtain ⟨p, vs, rfl, h1, h2⟩ := (RepH.ext r1 x2).ext x3
    refine ⟨p, vs, rfl, .inl (.inl (nw_same _ _ h1)), fun p' n => ?_⟩
    exact q3 (.ref p') T3 al3 _ (Ext.laid0 n) (w3.laid n) ⟨p', _, rfl, n, w3.free n, upd_same, cut_rep l u (RepAll.ext h2 (Ext.laid0 n))⟩
  | kls ds =>
    obtain ⟨p, vs, rfl, h1, h2⟩ := rep_kls ((RepH.ext r1 x2).ext x3)
    refine ⟨p, vs, rfl, Same.seq fz_same h1, fun p' n => ?_⟩
    exact q3 (.ref p') T3 al3 _ (Ext.laid0 n) (w3.laid n) ⟨p', _, rfl, n, w3.free n, upd_same, cut_rep l u (RepAll.ext h2 (Ext.laid0 n))⟩
  | _ => exact q3.elim

def CalR (G : GX) (X : Cx) (r : List V → Hp → VK → Prop) (o : List D → Option D) : Prop := ∀ (ds : List D) (z : D), o ds = some z → ∀ (st : St) (T : Tg) (al : List Addr) (H : Hp) (vs : List V) (Q : VK), WI X.K G.TB T al st H → Paired (RepH X.K T al H) vs ds →
  (∀ (t : V) (T' : Tg) (al' : List Addr) (H' : Hp), Ext T al H T' al' H' → WI X.K G.TB T' al' st H' → Rep X.K (fz T' H') al' t z → Q t H') → r vs H Q
def eBlt {b : Type} (o : List D → Option b) (f : Env → Mo (List D)) : Env → Mo b := fun r => f r >>= fun ds => Mo.opt (o ds)
variable {x : Str} {id Ty : String} {rr : List V → Hp → VK → Prop} {p : Pos}
theorem blt_run {o : List D → Option D} {f : Env → Mo (List D)} (hr : CalR G X rr o) (ha : PLH G X W H0 es f) {r : Env} {st : St} {σ : L2.St} {T : Tg} {al : List Addr} {H : Hp} {Q : VK} (S : SL X.K H0 T al H r σ) (w : WI X.K G.TB T al st H) (q : Post G X.K W (RpD X.K) σ T al H Q (eBlt o f r st)) : tCB rr (RdA X es) σ H Q :=
  ha r st σ T al H _ S w (seqP back_D q fun ds st1 vs T1 al1 H1 _ x1 w1 r1 q1 => optP q1 fun z hz q2 => hr ds z hz st1 T1 al1 H1 vs Q w1 r1 fun t T' al' H' e w' rt => q2 t T' al' H' e w' rt)
theorem pd_blt {o : List D → Option D} {f : Env → Mo (List D)} (hc : CallR X (.builtin id) rr) (hr : CalR G X rr o) (hg : Gl X x) (hm : X.mg x = none) (hv : bootBuiltins x = some (.builtin id)) (ha : PLH G X W H0 (e :: es) f) (hn : x ≠ "__name__" := by decide) (hdb : (x == ("__debug__" : Str)) = false := by decide)
    (he : starEach (e :: es) X.env = (false, eval e X.env) :: starEach es X.env := by rfl) (hpl : (backTo pos (starEach es X.env)).any (·.1) = false := by rfl) : PD G X W H0 (.Call (.Name x p) (e :: es) [] pos) (eBlt o f) :=
  fun r st σ T al H Q S w q => rdE (pe_callB hc hg hm hv pa_rd hn hdb he hpl) (blt_run hr ha S w q)
theorem pd_bty {o : List D → Option D} {f : Env → Mo (List D)} (hc : CallR X (.type Ty) rr) (hr : CalR G X rr o) (hg : Gl X x) (hm : X.mg x = none) (hv : bootBuiltins x = some (.type Ty)) (ha : PLH G X W H0 (e :: es) f) (hn : x ≠ "__name__" := by decide) (hdb : (x == ("__debug__" : Str)) = false := by decide)
    (he : starEach (e :: es) X.env = (false, eval e X.env) :: starEach es X.env := by rfl) (hpl : (backTo pos (starEach es X.env)).any (·.1) = false := by rfl) : PD G X W H0 (.Call (.Name x p) (e :: es) [] pos) (eBlt o f) :=
  fun r st σ T al H Q S w q => rdE (pe_callTy hc hg hm hv pa_rd hn hdb he hpl) (blt_run hr ha S w q)
end

def D.len : D → Option Nat
  | .tup xs => some xs.length
  | .lst xs => some xs.length
  | .kls xs => some xs.length
  | .str x => match Nat.ble x.length 16777216 with
    | true => some x.length
    | false => none
  | .dct kvs => some kvs.length
  | _ => none
def oLen : List D → Option D
  | [x] => x.len.map fun n => .int n
  | _ => none
def oInt : List D → Option D
  | [.int i] => some (.int i)
  | [.bl true] => some (.int 1)
  | [.bl false] => some (.int 0)
  | _ => none
def oMin2 : List D → Option D
  | [.int i, .int j] => some (.int (match decide (j < i) with
    | true => j
    | false => i))
  | _ => none
def D.lstOf : D → Option (List D)
  | .lst xs => some xs
  | _ => none
def bolsOf : List D → Option (List Bool)
  | [] => some []
  | .bl i :: r => (bolsOf r).map (i :: ·)
  | _ => none
def oAll : List D → Option D
  | [x] => (x.lstOf.bind bolsOf).map fun bs => .bl (bs.all id)
  | _ => none
def oTuple : List D → Option D
  | [.lst xs] => some (.tup xs)
  | [.tup xs] => some (.tup xs)
  | _ => none
section
variable {G : GX} {X : Cx}
theorem paired1 {a b : Type} {F : a → b → Prop} {vs : List a} {d : b} (h : Paired F vs [d]) : ∃ v, vs = [v] ∧ F v d := by
  cases h with
  | cons r t =>
    cases t
    exact ⟨_, rfl, r⟩
theorem paired2 {a b : Type} {F : a → b → Prop} {vs : List a} {d e : b} (h : Paired F vs [d, e]) : ∃ v u, vs = [v, u] ∧ F v d ∧ F u e := by
  cases h with
  | cons r t =>
    obtain ⟨u, rfl, r2⟩ := paired1 t
    exact ⟨_, u, rfl, r, r2⟩
theorem cal_len : CalR G X (fun xs H Q => (∃ x n, xs = [x] ∧ LenV X.K x H n ∧ Q (.int n) H) ∨ ∃ a kvs, xs = [V.ref a] ∧ H a = some (.dK kvs) ∧ Q (.int kvs.length) H) oLen := by
  intro ds z hz st T al H vs Q w r q
  match ds, hz, r with
  | [x], hz, r =>
    obtain ⟨v, rfl, rx⟩ := paired1 r
    have hz' : x.len.map (fun n => D.int n) = some z := hz
    obtain ⟨n, hn, ez⟩ := Option.map_eq_some_iff.mp hz'
    subst ez
    have fin : ∀ m : Nat, m = n → Q (.int m) H := fun m e => by
      subst e
      exact q _ T al H .refl w (.int _)
    cases x with
    | tup xs =>
      obtain ⟨p, us, rfl, h1, h2⟩ := rep_tup rx
      exact .inl ⟨_, _, rfl, .inr ⟨us, Same.seqT fz_same h1, rfl⟩, fin _ (by rw [h2.length]; exact Option.some.inj hn)⟩
    | lst xs =>
      obtain ⟨p, us, rfl, h1, h2⟩ := rx
      exact .inl ⟨_, _, rfl, .inl ⟨us, .inl (.inl (nw_same _ _ h1)), rfl⟩, fin _ (by rw [h2.length]; exact Option.some.inj hn)⟩
    | kls xs =>
      obtain ⟨p, us, rfl, h1, h2⟩ := rep_kls rx
      exact .inl ⟨_, _, rfl, .inl ⟨us, Same.seq fz_same h1, rfl⟩, fin _ (by rw [h2.length]; exact Option.some.inj hn)⟩
    | str y =>
      rw [rep_str rx]
      unfold D.len at hn
      dsimp only at hn
      cases e : Nat.ble y.length 16777216 with
      | true =>
        rw [e] at hn
        exact .inl ⟨_, _, rfl, ⟨by rw [line_is]; exact Nat.le_of_ble_eq_true e, rfl⟩, fin _ (Option.some.inj hn)⟩
      | false => rw [e] at hn; cases hn
    | dct kvs =>
      obtain ⟨p, us, rfl, h1, h2⟩ := rep_dct rx
      refine .inr ⟨p, us, rfl, (fz_some h1).2, fin _ ?_⟩
      rw [← Option.some.inj hn]
      have kl : ∀ {vs : List (Key × V)} {ds : List (Key × D)}, RepKv X.K (fz T H) al vs ds → vs.length = ds.length := by
        intro vs ds
        induction ds generalizing vs with
        | nil => intro h; cases h; rfl
        | cons d ds ih => intro h; cases h with | cons r t => rw [List.length_cons, List.length_cons, ih t]
      exact congrArg _ (kl h2)
    | _ => cases hn
  | [], hz, _ => cases hz
  | _ :: _ :: _, hz, _ => cases hz
theorem call_lenX : CallR X (.builtin "len") (fun xs H Q => (∃ x n, xs = [x] ∧ LenV X.K x H n ∧ Q (.int n) H) ∨ ∃ a kvs, xs = [V.ref a] ∧ H a = some (.dK kvs) ∧ Q (.int kvs.length) H) := call_len.or call_lenD
theorem cal_int : CalR G X (fun xs H Q => (∃ i, xs = [.int i] ∧ Q (.int i) H) ∨ ∃ k, xs = [.bl k] ∧ Q (.int (if k then 1 else 0)) H) oInt := by
  intro ds z hz st T al H vs Q w r q
  match ds, hz, r with
  | [.int i], hz, r =>
    obtain ⟨v, rfl, rx⟩ := paired1 r
    rw [rep_int rx]
    have ez : D.int i = z := Option.some.inj hz
    subst ez
    exact .inl ⟨i, rfl, q _ T al H .refl w (.int _)⟩
  | [.bl true], hz, r =>
    obtain ⟨v, rfl, rx⟩ := paired1 r
    rw [rep_bl rx]
    have ez : D.int 1 = z := Option.some.inj hz
    subst ez
    exact .inr ⟨true, rfl, q _ T al H .refl w (.int _)⟩
  | [.bl false], hz, r =>
    obtain ⟨v, rfl, rx⟩ := paired1 r
    rw [rep_bl rx]
    have ez : D.int 0 = z := Option.some.inj hz
    subst ez
    exact .inr ⟨false, rfl, q _ T al H .refl w (.int _)⟩
theorem cal_min2 : CalR G X (fun xs H Q => ∃ i j, xs = [.int i, .int j] ∧ Q (.int (if j < i then j else i)) H) oMin2 := by
  intro ds z hz st T al H vs Q w r q
  match ds, hz, r with
  | [.int i, .int j], hz, r =>
    obtain ⟨v, u, rfl, rx, ry⟩ := paired2 r
    rw [rep_int rx, rep_int ry]
    have ez : D.int (match decide (j < i) with
      | true => j
      | false => i) = z := Option.some.inj hz
    subst ez
    refine ⟨i, j, rfl, q _ T al H .refl w ?_⟩
    by_cases h : j < i
    · rw [if_pos h, decide_eq_true h]; exact .int _
    · rw [if_neg h, decide_eq_false h]; exact .int _
theorem bols_rep {K : PySem.W.Frag} {F : Hp} {al : List Addr} : ∀ {ds : List D} {vs : List V} {bs : List Bool}, RepAll K F al vs ds → bolsOf ds = some bs → vs = bs.map V.bl
  | [], _, bs, r, e => by
    cases r
    have e' : ([] : List Bool) = bs := Option.some.inj e
    rw [← e']
    rfl
  | d :: ds, _, bs, r, e => by
    cases r with
    | cons r1 r2 =>
      cases d with
      | bl i =>
        have e' : (bolsOf ds).map (i :: ·) = some bs := e
        obtain ⟨ms, h1, h2⟩ := Option.map_eq_some_iff.mp e'
        rw [← h2, bols_rep r2 h1, rep_bl r1]
        rfl
      | _ => cases e
theorem lst_bols {K : PySem.W.Frag} {T : Tg} {al : List Addr} {H : Hp} {v : V} {x : D} {ns : List Bool} (r : RepH K T al H v x) (h : x.lstOf.bind bolsOf = some ns) : ∃ a, v = .ref a ∧ SqL K H a (ns.map V.bl) := by
  cases x with
  | lst ds =>
    obtain ⟨a, us, rfl, h1, h2⟩ := r
    have h' : bolsOf ds = some ns := h
    rw [bols_rep h2 h'] at h1
    exact ⟨a, rfl, .inl (.inl (nw_same _ _ h1))⟩
  | _ => cases h
theorem cal_all : CalR G X (rAll X.K) oAll := by
  intro ds z hz st T al H vs Q w r q
  match ds, hz, r with
  | [x], hz, r =>
    obtain ⟨v, rfl, rx⟩ := paired1 r
    have hz' : (x.lstOf.bind bolsOf).map (fun bs => D.bl (bs.all id)) = some z := hz
    obtain ⟨ns, hn, ez⟩ := Option.map_eq_some_iff.mp hz'
    subst ez
    obtain ⟨a, rfl, h1⟩ := lst_bols rx hn
    exact ⟨a, ns, rfl, h1, q _ T al H .refl w (.bl _)⟩
theorem cal_tuple : CalR G X (fun xs H Q => ∃ p ys, xs = [.ref p] ∧ ((SqL X.K H p ys ∧ ∀ l, H l = none → Q (.ref l) (upd H l (.tup ys))) ∨ (SqT X.K H p ys ∧ Q (.ref p) H))) oTuple := by
  intro ds z hz st T al H vs Q w r q
  match ds, hz, r with
  | [.lst xs], hz, r =>
    obtain ⟨v, rfl, rx⟩ := paired1 r
    obtain ⟨a, us, rfl, h1, h2⟩ := rx
    have ez : D.tup xs = z := Option.some.inj hz
    subst ez
    refine ⟨a, us, rfl, .inl ⟨.inl (.inl (nw_same _ _ h1)), fun l n => ?_⟩⟩
    have n' := w.free n
    refine q (.ref l) (tset T l .frz) al _ (Ext.laid n .frz) ((w.laid n).tag (by rw [n']; decide) (by rw [n']; decide) upd_same) ?_
    exact .tup (fz_of tset_same upd_same) (RepAll.ext h2 (Ext.laid n .frz))
  | [.tup xs], hz, r =>
    obtain ⟨v, rfl, rx⟩ := paired1 r
    obtain ⟨a, us, rfl, h1, h2⟩ := rep_tup rx
    have ez : D.tup xs = z := Option.some.inj hz
    subst ez
    exact ⟨a, us, rfl, .inr ⟨Same.seqT fz_same h1, q _ T al H .refl w rx⟩⟩
end
end Pi
namespace Pi
open PySem PySem.Spec PyProof.Rows L2

def nCat (f g : Env → Mo D) : Env → Mo (List D) := fun r => f r >>= fun x => g r >>= fun y => match x, y with
  | .lst xs, .lst ys => lim (xs.length + ys.length) (xs ++ ys)
  | _, _ => Mo.bad
def nRep (f g : Env → Mo D) : Env → Mo (List D) := fun r => f r >>= fun x => g r >>= fun y => match x, y with
  | .lst xs, .int k => (match decide (0 ≤ k) && Nat.ble k.toNat 16777216 with
    | true => lim (xs.length * k.toNat) (List.replicate k.toNat xs).flatten
    | false => Mo.bad)
  | _, _ => Mo.bad
theorem lim_or {b : Type} (n : Nat) (x : b) (st : St) : (lim n x st = .ok x st ∧ n ≤ sizeLine) ∨ lim n x st = .bad := by
  unfold lim
  cases e : Nat.ble n 16777216 with
  | true => exact .inl ⟨rfl, by rw [line_is]; exact Nat.le_of_ble_eq_true e⟩
  | false => exact .inr rfl
theorem RepAll.flat {K : PySem.W.Frag} {F : Hp} {al : List Addr} {vs : List V} {ds : List D} (r : RepAll K F al vs ds) : ∀ k : Nat, RepAll K F al (List.replicate k vs).flatten (List.replicate k ds).flatten
  | 0 => .nil
  | k + 1 => by
    rw [List.replicate_succ, List.replicate_succ, List.flatten_cons, List.flatten_cons]
    exact r.append (RepAll.flat r k)
theorem rep63 {n : Nat} (h : n ≤ 16777216) (k : Int) (h0 : 0 ≤ k) (e : k.toNat = n) : -(2 ^ 63) ≤ k ∧ k < 2 ^ 63 := by omega
section
variable {G : GX} {X : Cx} {W : WX} {H0 : Hp} {a b e : Expr} {es : List Expr} {pos p2 : Pos}
theorem PN.toH {f : Env → Mo (List D)} (h : PN G X W H0 e f) : PH G X W H0 e (nFz f) := fun r st σ T al H Q S w q => h r st σ T al H Q S w (by
  refine seqP back_H q fun xs st1 v T1 al1 H1 ex x1 w1 r1 q1 => ?_
  obtain ⟨p, vs, rfl, n0, tp, hp, rs⟩ := r1
  exact q1 (.ref p) T1 al1 H1 .refl w1 ⟨p, vs, rfl, nw_of (by rw [tp]; decide) hp, rs⟩)
theorem pn_cat {f g : Env → Mo D} (ha : PH G X W H0 a f) (hb : PH G X W H0 b g) : PN G X W H0 (.BinOp a .Add b pos) (nCat f g) := by
  intro r st σ T al H Q S w q pins s I
  refine wpAny_BinOp (binT (R := fun x y H' => rCat x y H' Q) pe_rd pe_rd I ?_ fun v u s2 x y H2 I2 rx ry q => op_cat pins s2 σ H2 x y v u Q I2 rx ry q)
  refine ha r st σ T al H _ S w (seqP back_N q fun x st1 v T1 al1 H1 _ x1 w1 r1 q1 => ?_)
  refine hb r st1 σ T1 al1 H1 _ (S.ext x1) w1 (seqP back_N q1 fun y st2 u T2 al2 H2 _ x2 w2 r2 q2 => ?_)
  have rx := RepH.ext r1 x2
  cases x with
  | lst xs =>
    cases y with
    | lst ys =>
      obtain ⟨p, vs, rfl, h1, h2⟩ := rx
      obtain ⟨p2, us, rfl, h3, h4⟩ := r2
      have q3 : Post G X.K W (RpN X.K) σ T2 al2 H2 Q (lim (xs.length + ys.length) (xs ++ ys) st2) := q2
      rcases lim_or (xs.length + ys.length) (xs ++ ys) st2 with ⟨e1, e2⟩ | e1
      · rw [e1] at q3
        refine ⟨p, p2, vs, us, rfl, rfl, nw_same _ _ h1, nw_same _ _ h3, by rw [h2.length, h4.length]; exact e2, fun p' n => ?_⟩
        exact q3 (.ref p') T2 al2 _ (Ext.laid0 n) (w2.laid n) ⟨p', _, rfl, n, w2.free n, upd_same, (RepAll.ext h2 (Ext.laid0 n)).append (RepAll.ext h4 (Ext.laid0 n))⟩
      · rw [e1] at q3
        exact q3.elim
    | _ => exact q2.elim
  | _ => exact q2.elim
theorem pn_rep {f g : Env → Mo D} (ha : PH G X W H0 a f) (hb : PH G X W H0 b g) : PN G X W H0 (.BinOp a .Mult b pos) (nRep f g) := by
  intro r st σ T al H Q S w q pins s I
  refine wpAny_BinOp (binT (R := fun x y H' => rRep x y H' Q) pe_rd pe_rd I ?_ fun v u s2 x y H2 I2 rx ry q => op_rep pins s2 σ H2 x y v u Q I2 rx ry q)
  refine ha r st σ T al H _ S w (seqP back_N q fun x st1 v T1 al1 H1 _ x1 w1 r1 q1 => ?_)
  refine hb r st1 σ T1 al1 H1 _ (S.ext x1) w1 (seqP back_N q1 fun y st2 u T2 al2 H2 _ x2 w2 r2 q2 => ?_)
  have rx := RepH.ext r1 x2
  cases x with
  | lst xs =>
    cases y with
    | int k =>
      obtain ⟨p, vs, rfl, h1, h2⟩ := rx
      have q3 : Post G X.K W (RpN X.K) σ T2 al2 H2 Q ((match decide (0 ≤ k) && Nat.ble k.toNat 16777216 with
        | true => lim (xs.length * k.toNat) (List.replicate k.toNat xs).flatten
        | false => Mo.bad) st2) := q2
      cases ek : decide (0 ≤ k) && Nat.ble k.toNat 16777216 with
      | false => rw [ek] at q3; exact q3.elim
      | true =>
        rw [ek] at q3
        obtain ⟨k0, k1⟩ := Bool.and_eq_true_iff.mp ek
        obtain ⟨k2, k3⟩ := rep63 (Nat.le_of_ble_eq_true k1) k (of_decide_eq_true k0) rfl
        rcases lim_or (xs.length * k.toNat) (List.replicate k.toNat xs).flatten st2 with ⟨e1, e2⟩ | e1
        · have q4 : Post G X.K W (RpN X.K) σ T2 al2 H2 Q (lim (xs.length * k.toNat) (List.replicate k.toNat xs).flatten st2) := q3
          rw [e1] at q4
          refine ⟨p, k, vs, rfl, by rw [rep_int r2], nw_same _ _ h1, k2, k3, by rw [h2.length]; exact e2, fun p' n => ?_⟩
          exact q4 (.ref p') T2 al2 _ (Ext.laid0 n) (w2.laid n) ⟨p', _, rfl, n, w2.free n, upd_same, RepAll.flat (RepAll.ext h2 (Ext.laid0 n)) k.toNat⟩
        · have q4 : Post G X.K W (RpN X.K) σ T2 al2 H2 Q (lim (xs.length * k.toNat) (List.replicate k.toNat xs).flatten st2) := q3
          rw [e1] at q4
          exact q4.elim
    | _ => exact q2.elim
  | _ => exact q2.elim
end

def ownAt {c : Type} (i : Nat) (r : Env) (k : List D → Mo c) : Mo c := match r[i]? with
  | some (some (.own xs)) => k xs
  | _ => Mo.bad
theorem ownAt_or (i : Nat) (r : Env) : (∃ xs, r[i]? = some (some (.own xs)) ∧ ∀ {c : Type} (k : List D → Mo c), ownAt i r k = k xs) ∨ ∀ {c : Type} (k : List D → Mo c), ownAt i r k = Mo.bad := by
  unfold ownAt
  cases e : r[i]? with
  | none => exact .inr fun k => rfl
  | some o =>
    cases o with
    | none => exact .inr fun k => rfl
    | some sv =>
      cases sv with
      | own xs => exact .inl ⟨xs, rfl, fun k => rfl⟩
      | d y => exact .inr fun k => rfl
      | odT y => exact .inr fun k => rfl
      | brw y => exact .inr fun k => rfl
def sApp (i : Nat) (f : Env → Mo D) : Stm := fun r => ownAt i r fun xs => f r >>= fun x => (match Nat.blt xs.length 16777216 with
  | true => pure (.nx (r.set i (some (.own (xs ++ [x])))))
  | false => Mo.bad)
section
variable {G : GX} {X : Cx} {E : XK} {H0 : Hp} {B : Bs} {pos : Pos}
theorem SI.own {r : Env} {σ : L2.St} {st : St} {T : Tg} {al : List Addr} {H : Hp} {i : Nat} {xs ys : List D} {l : Addr} {vs us : List V} (S : SI G X H0 B r σ st T al H) (hi : r[i]? = some (some (.own xs))) (hs : σ[i]? = some (some (.ref l))) (ht : T l = some .own) (h0 : H0 l = none) (hl : H l = some (.lst vs)) (rs : RepAll X.K (fz T H) al us ys) :
    SI G X H0 B (r.set i (some (.own ys))) σ st T al (upd H l (.lst us)) := by
  have nf : T l ≠ some .frz := by rw [ht]; decide
  have nwl : T l ≠ some .wld := by rw [ht]; decide
  have hsame : Same (fz T H) (fz T (upd H l (.lst us))) := fz_upd nf
  have rs' : RepAll X.K (fz T (upd H l (.lst us))) al us ys := rs.mono hsame ⟨[], by simp⟩
  refine ⟨⟨by rw [List.length_set]; exact S.sl.len, fun j y hj => ?_, fun j k y z u njk hj hk oj ok hu => ?_⟩, S.wi.upd nf nwl hl (fun ps z => by cases z) (fun f z => by cases z), S.ex.upd0 h0, fun a o e => hsame a o (S.fb a o e), S.ab⟩
  · rcases set_get hj with ⟨rfl, e⟩ | ⟨ne, hj⟩
    · have e' : y = .own ys := Option.some.inj e
      subst e'
      exact ⟨_, hs, l, us, rfl, ht, h0, upd_same, rs'⟩
    · obtain ⟨u, u1, u2⟩ := S.sl.at_ j y hj
      refine ⟨u, u1, ?_⟩
      cases y with
      | d x => exact Rep.mono hsame ⟨[], by simp⟩ u2
      | own zs =>
        obtain ⟨l2, vs2, rfl, ht2, h02, hl2, rs2⟩ := u2
        have nl : l2 ≠ l := fun z => S.sl.ap j i _ _ _ ne hj hi rfl rfl u1 (by rw [z]; exact hs)
        exact ⟨l2, vs2, rfl, ht2, h02, by rw [upd_ne nl]; exact hl2, rs2.mono hsame ⟨[], by simp⟩⟩
      | odT kvs =>
        obtain ⟨l2, vs2, rfl, ht2, h02, hl2, rs2⟩ := u2
        have nl : l2 ≠ l := fun z => S.sl.ap j i _ _ _ ne hj hi rfl rfl u1 (by rw [z]; exact hs)
        exact ⟨l2, vs2, rfl, ht2, h02, by rw [upd_ne nl]; exact hl2, paired_imp rs2 fun a b z => ⟨z.1, Rep.mono hsame ⟨[], by simp⟩ z.2⟩⟩
      | brw zs =>
        obtain ⟨l2, vs2, rfl, ht2, h02, hl2, rs2⟩ := u2
        have nl : l2 ≠ l := fun z => by rw [z, h0] at h02; cases h02
        exact ⟨l2, vs2, rfl, ht2, h02, by rw [upd_ne nl]; exact hl2, rs2.mono hsame ⟨[], by simp⟩⟩
  · rcases set_get hj with ⟨rfl, e⟩ | ⟨ne, hj⟩
    · have e' : y = .own ys := Option.some.inj e
      subst e'
      rcases set_get hk with ⟨z1, _⟩ | ⟨ne2, hk⟩
      · exact absurd z1.symm njk
      · exact S.sl.ap j k _ _ u njk hi hk rfl ok hu
    · rcases set_get hk with ⟨e1, e⟩ | ⟨ne2, hk⟩
      · rw [e1] at njk ⊢
        exact S.sl.ap j i _ _ u njk hj hi oj rfl hu
      · exact S.sl.ap j k _ _ u njk hj hk oj ok hu
theorem pst_app {f : Env → Mo D} {i : Nat} {x : Str} {e : Expr} {p p1 p2 : Pos} (he : PD G X (wE E) H0 e f) (hN : X.N[i]? = some x := by rfl) (hv : Vis X.env.scope x := by first | exact Or.inl rfl | exact Or.inr (Or.inl rfl) | exact Or.inr (Or.inr rfl)) (hd : (x == ("__debug__" : Str)) = false := by decide)
    (hcd : (x == ("__classdict__" : Str)) = false := by decide) (hs1 : starEach [e] X.env = [(false, eval e X.env)] := by rfl)
    (hbase : attributeBase (.Name x p1) "append" X.env (eval (.Name x p1) X.env) = eval (.Name x p1) X.env := by rfl)
    (hfew : ((backTo pos (starEach [e] X.env)).all (fun x => !x.1) && (backToKw pos (keywordEach [] X.env)).all (fun x => x.1.isSome)
      && decide (([e] : List Expr).length + ([] : List Keyword).length + (if ([] : List Keyword).isEmpty then 0 else 1) < 30)) = true := by rfl)
    (hline : (p2.endLine == pos.line) = true := by rfl) (hplain : (backTo pos (starEach [] X.env)).any (·.1) = false := by rfl) (hsw : swapsWith (.Call (.Attribute (.Name x p1) "append" p2) [e] [] pos) none p.line X.env = pure false := by rfl) :
    PSt G X E H0 (.Expr (.Call (.Attribute (.Name x p1) "append" p2) [e] [] pos) p) (sApp i f) := by
  intro B r s0 σ T al H D S q
  have hst : starEach (e :: []) X.env = (false, eval e X.env) :: starEach [] X.env := by rw [hs1]; rfl
  refine rdS1 (ps_expr (pe_bm PySem.F.plainAttrs_list PySem.F.slot_list_append PySem.F.type_list_append mt_append (pe_var (pos := p1) hN hv hd hcd) (pa_cons pe_rd pa_nil hst) hbase hfew hline hst hplain) hsw) ?_
  unfold sApp at q
  rcases ownAt_or i r with ⟨xs, hi, ek⟩ | ek
  · rw [ek] at q
    obtain ⟨v, hs, l, vs, rfl, ht, h0, hl, rs⟩ := S.sl.at_ i _ hi
    refine ⟨_, hs, .inl ⟨rfl, vs, .inl (.inl hl)⟩, he r s0 σ T al H _ S.sl S.wi (seqS S q fun y st1 u T1 al1 H1 x1 S1 r1 q1 => ?_)⟩
    have hl1 : H1 l = some (.lst vs) := x1.hp l _ hl (by rw [ht]; decide)
    have ht1 : T1 l = some .own := (x1.tg l _ hl).trans ht
    have rs1 := rs.ext x1
    cases eb : Nat.blt xs.length 16777216 with
    | false =>
      rw [eb] at q1
      exact q1.elim
    | true =>
      rw [eb] at q1
      have hlt : xs.length < 16777216 := Nat.blt_eq ▸ eb
      refine ⟨l, vs, u, rfl, rfl, hl1, by rw [rs1.length, line_is]; exact hlt, ?_⟩
      exact q1 σ T1 al1 _ (S1.own hi hs ht1 h0 hl1 (rs1.snoc r1))
  · rw [ek] at q
    exact q.elim
end
end Pi
namespace Pi
open PySem PySem.Spec PyProof.Rows L2

def getD (k : Key) : List (Key × D) → Option D
  | [] => none
  | (j, x) :: r => match decide (j = k) with
    | true => some x
    | false => getD k r
def hasD (k : Key) : List (Key × D) → Bool
  | [] => false
  | (j, _) :: r => match decide (j = k) with
    | true => true
    | false => hasD k r
def repD (k : Key) (y : D) : List (Key × D) → List (Key × D)
  | [] => []
  | (j, x) :: r => match decide (j = k) with
    | true => (j, y) :: repD k y r
    | false => (j, x) :: repD k y r
def putD (kvs : List (Key × D)) (k : Key) (y : D) : List (Key × D) := match hasD k kvs with
  | true => repD k y kvs
  | false => kvs ++ [(k, y)]
def D.key : D → Option Key
  | .int i => some (.inl i)
  | .str x => some (.inr x)
  | _ => none
section
variable {K : PySem.W.Frag} {F : Hp} {al : List Addr}
theorem kv_len : ∀ {vs : List (Key × V)} {ds : List (Key × D)}, RepKv K F al vs ds → vs.length = ds.length
  | _, _, .nil => rfl
  | _, _, .cons _ t => congrArg (· + 1) (kv_len t)
theorem kv_get {k : Key} {x : D} : ∀ {vs : List (Key × V)} {ds : List (Key × D)}, RepKv K F al vs ds → getD k ds = some x → ∃ v, valV vs k = some v ∧ Rep K F al v x
  | _, _, .nil, e => by cases e
  | _, _, @RepKv.cons _ _ _ j v vs d ds r t, e => by
    unfold getD at e
    by_cases h : j = k
    · rw [decide_eq_true h] at e
      have e' : d = x := Option.some.inj e
      subst e'
      exact ⟨v, valV_pos h, r⟩
    · rw [decide_eq_false h] at e
      obtain ⟨u, h1, h2⟩ := kv_get t e
      exact ⟨u, by rw [valV_neg h]; exact h1, h2⟩
theorem kv_has {k : Key} : ∀ {vs : List (Key × V)} {ds : List (Key × D)}, RepKv K F al vs ds → hasD k ds = vs.any fun kv => decide (kv.1 = k)
  | _, _, .nil => rfl
  | _, _, @RepKv.cons _ _ _ j v vs d ds r t => by
    unfold hasD
    rw [List.any_cons]
    by_cases h : j = k
    · simp [h]
    · simp only [decide_eq_false h, Bool.false_or]
      exact kv_has t
theorem kv_rep {k : Key} {v : V} {y : D} (q : Rep K F al v y) : ∀ {vs : List (Key × V)} {ds : List (Key × D)}, RepKv K F al vs ds → RepKv K F al (vs.map fun kv => if kv.1 = k then (kv.1, v) else kv) (repD k y ds)
  | _, _, .nil => .nil
  | _, _, @RepKv.cons _ _ _ j u vs d ds r t => by
    unfold repD
    rw [List.map_cons]
    by_cases h : j = k
    · simp only [decide_eq_true h, if_pos h]
      exact .cons q (kv_rep q t)
    · simp only [decide_eq_false h, if_neg h]
      exact .cons r (kv_rep q t)
theorem kv_app : ∀ {vs ws : List (Key × V)} {ds es : List (Key × D)}, RepKv K F al vs ds → RepKv K F al ws es → RepKv K F al (vs ++ ws) (ds ++ es)
  | _, _, _, _, .nil, s => s
  | _, _, _, _, .cons r t, s => .cons r (kv_app t s)
theorem kv_put {k : Key} {v : V} {y : D} {vs : List (Key × V)} {ds : List (Key × D)} (r : RepKv K F al vs ds) (q : Rep K F al v y) : RepKv K F al (putK vs k v) (putD ds k y) := by
  unfold putK putD
  rw [← kv_has r]
  cases hasD k ds with
  | true => exact kv_rep q r
  | false => exact kv_app r (.cons q .nil)
theorem kv_merge : ∀ {more : List (Key × V)} {dm : List (Key × D)} {vs : List (Key × V)} {ds : List (Key × D)}, RepKv K F al more dm → RepKv K F al vs ds → RepKv K F al (mergeK vs more) (dm.foldl (fun acc kv => putD acc kv.1 kv.2) ds)
  | _, _, _, _, .nil, s => s
  | _, _, _, _, @RepKv.cons _ _ _ k v vs d ds r t, s => by
    have h := kv_merge t (kv_put (k := k) s r)
    exact h
theorem key_rep {v : V} {x : D} {k : Key} (r : Rep K F al v x) (e : x.key = some k) : v = kV k := by
  cases x with
  | int i =>
    have e' : (Sum.inl i : Key) = k := Option.some.inj e
    subst e'
    exact rep_int r
  | str i =>
    have e' : (Sum.inr i : Key) = k := Option.some.inj e
    subst e'
    exact rep_str r
  | _ => cases e
end

structure Glv (X : Cx) (x : Str) (d : D) : Prop where
  ex : ∃ (v : V) (u : Value), X.mg x = some u ∧ RelV v u ∧ ∀ (F : Hp) (al : List Addr), Rep X.K F al v d
section
variable {G : GX} {X : Cx} {W : WX} {H0 : Hp} {a b e : Expr} {es : List Expr} {pos p2 : Pos}
theorem pd_glo {x : Str} {d : D} (g : Glv X x d) (hg : Gl X x) (hd : (x == ("__debug__" : Str)) = false := by decide) : PD G X W H0 (.Name x pos) (eC d) := by
  obtain ⟨v, u, h1, h2, h3⟩ := g.ex
  exact pd_c (pe_glob hg h1 h2 hd) h3

def stGet (n : Nat) (k : Key) : Mo D := fun st => match st[n]? with
  | some (.dk kvs) => (match getD k kvs with
    | some x => .ok x st
    | none => .bad)
  | _ => .bad
def stPut (n : Nat) (k : Key) (y : D) : Mo Unit := fun st => match st[n]? with
  | some (.dk kvs) => (match Nat.blt kvs.length 16777216 with
    | true => .ok () (st.set n (.dk (putD kvs k y)))
    | false => .bad)
  | _ => .bad
def D.at : D → Option Nat
  | .obj n => some n
  | _ => none
def eGet (f g : Env → Mo D) : Env → Mo D := fun r => f r >>= fun x => g r >>= fun y => Mo.opt x.at >>= fun n => Mo.opt y.key >>= fun k => stGet n k
def sPut (f g h : Env → Mo D) : Stm := fun r => h r >>= fun z => f r >>= fun x => g r >>= fun y => Mo.opt x.at >>= fun n => Mo.opt y.key >>= fun k => stPut n k z >>= fun _ => pure (.nx r)
theorem opt_bind {b c : Type} (o : Option b) (g : b → Mo c) (st : St) : (∃ y, o = some y ∧ (Mo.opt o >>= g) st = g y st) ∨ (Mo.opt o >>= g) st = .bad := by
  cases o with
  | none => exact .inr rfl
  | some y => exact .inl ⟨y, rfl, rfl⟩
theorem at_rep_obj {K : PySem.W.Frag} {F : Hp} {al : List Addr} {v : V} {x : D} {n : Nat} (r : Rep K F al v x) (e : x.at = some n) : ∃ p, v = .ref p ∧ al[n]? = some p := by
  cases x with
  | obj m =>
    have e' : m = n := Option.some.inj e
    subst e'
    cases r with
    | obj h => exact ⟨_, rfl, h⟩
  | _ => cases e
theorem pd_get {f g : Env → Mo D} (hu : X.A.units + 1 < cLine) (ha : PD G X W H0 a f) (hb : PD G X W H0 b g) (hs : NoSl b := by intro o i; rfl) : PD G X W H0 (.Subscript a b pos) (eGet f g) := by
  intro r st σ T al H Q S w q
  refine rdE (pe_dget hu pe_rd pe_rd hs) ?_
  refine ha r st σ T al H _ S w (seqP back_D q fun x st1 v T1 al1 H1 _ x1 w1 r1 q1 => ?_)
  refine hb r st1 σ T1 al1 H1 _ (S.ext x1) w1 (seqP back_D q1 fun y st2 u T2 al2 H2 _ x2 w2 r2 q2 => ?_)
  rcases opt_bind x.at (fun n => Mo.opt y.key >>= fun k => stGet n k) st2 with ⟨n, e1, e2⟩ | e2
  · rw [e2] at q2
    rcases opt_bind y.key (fun k => stGet n k) st2 with ⟨k, e3, e4⟩ | e4
    · rw [e4] at q2
      obtain ⟨p, rfl, hp⟩ := at_rep_obj (r1.ext x2) e1
      have eu := key_rep r2 e3
      subst eu
      unfold stGet at q2
      cases em : st2[n]? with
      | none => rw [em] at q2; exact q2.elim
      | some m =>
        rw [em] at q2
        cases m with
        | dk kvs =>
          obtain ⟨_, vs, h1, h2⟩ := w2.cell n p _ hp em
          cases eg : getD k kvs with
          | none => simp only [eg] at q2; exact q2.elim
          | some z =>
            simp only [eg] at q2
            obtain ⟨t, h3, h4⟩ := kv_get h2 eg
            exact ⟨p, t, rfl, by rw [← h3]; exact DGet.k h1, q2 t T2 al2 H2 .refl w2 h4⟩
    · rw [e4] at q2
      exact q2.elim
  · rw [e2] at q2
    exact q2.elim
end

theorem Ext.wld {T : Tg} {al : List Addr} {H : Hp} {p : Addr} {o : HO} (h : T p = some .wld) (nu : NU o := by intro xs z; cases z) : Ext T al H T al (upd H p o) where
  tg0 := fun _ _ _ _ => rfl
  tgt := fun _ _ _ f => f
  tgw := fun _ _ _ f => f
  hp0 := fun a u e n _ => by
    have ne : a ≠ p := fun z => by
      rw [z] at n
      exact n h
    rw [upd_ne ne]
    exact e
  wl := fun a u e => by
    by_cases z : a = p
    · exact ⟨o, by rw [z]; exact upd_same, fun _ => nu⟩
    · exact ⟨u, by rw [upd_ne z]; exact e, id⟩
  al := ⟨[], by simp⟩
theorem WI.put {K : PySem.W.Frag} {TB : List (Addr × Str)} {T : Tg} {al : List Addr} {st : St} {H : Hp} {n : Nat} {p : Addr} {kvs : List (Key × D)} {us vs : List (Key × V)} (w : WI K TB T al st H) (hp : al[n]? = some p) (h : H p = some (.dK vs)) (r : RepKv K (fz T H) al us kvs) : WI K TB T al (st.set n (.dk kvs)) (L2.upd H p (.dK us)) := by
  have hn : n < st.length := by
    rw [← w.len]
    exact (List.getElem?_eq_some_iff.mp hp).1
  obtain ⟨m, hm⟩ : ∃ m, st[n]? = some m := ⟨_, List.getElem?_eq_getElem hn⟩
  obtain ⟨tp, _⟩ := w.cell n p m hp hm
  have hs : Same (fz T H) (fz T (L2.upd H p (.dK us))) := fz_upd (by rw [tp]; decide)
  refine ⟨fun a t e => ?_, by rw [List.length_set]; exact w.len, fun k a m' e1 e2 => ?_, w.inj, fun q hq => ?_, w.wldo⟩
  · by_cases z : a = p
    · exact ⟨_, by rw [z]; exact upd_same⟩
    · obtain ⟨v, q⟩ := w.tg a t e
      exact ⟨v, by rw [upd_ne z]; exact q⟩
  · by_cases hk : k = n
    · subst hk
      have ea : a = p := by
        rw [hp] at e1
        exact (Option.some.inj e1).symm
      subst ea
      rw [List.getElem?_set_self hn] at e2
      have e3 : MO.dk kvs = m' := Option.some.inj e2
      subst e3
      exact ⟨tp, us, upd_same, RepKv.mono hs ⟨[], by simp⟩ r⟩
    · rw [List.getElem?_set_ne (Ne.symm hk)] at e2
      obtain ⟨q1, q2⟩ := w.cell k a m' e1 e2
      have ne : a ≠ p := fun z => hk (by
        rw [z] at e1
        have hk1 := (List.getElem?_eq_some_iff.mp e1)
        have hn1 := (List.getElem?_eq_some_iff.mp hp)
        obtain ⟨l1, g1⟩ := hk1
        obtain ⟨l2, g2⟩ := hn1
        exact (List.getElem_inj w.inj).mp (g1.trans g2.symm))
      refine ⟨q1, ?_⟩
      rw [upd_ne ne]
      cases m' with
      | dk ks =>
        obtain ⟨ws, e3, r3⟩ := q2
        exact ⟨ws, e3, RepKv.mono hs ⟨[], by simp⟩ r3⟩
  · obtain ⟨ps, e1, e2, e3⟩ := w.tabs q hq
    have ne : q.1 ≠ p := fun z => by
      rw [z, h] at e1
      cases e1
    refine ⟨ps, by rw [upd_ne ne]; exact e1, e2, fun pos cv hc => ?_⟩
    obtain ⟨c, ec, eh⟩ := e3 pos cv hc
    have ne2 : c ≠ p := fun z => by
      rw [z, h] at eh
      have : HO.dK vs = LamX.CodeO p q.2 := Option.some.inj eh
      unfold LamX.CodeO at this
      cases this
    exact ⟨c, ec, by rw [upd_ne ne2]; exact eh⟩
section
variable {G : GX} {X : Cx} {E : XK} {H0 : Hp} {B : Bs} {a b e : Expr} {pos p : Pos}
theorem pst_put {f g h : Env → Mo D} (hu : X.A.units + 1 < cLine) (ha : PD G X (wE E) H0 a f) (hb : PD G X (wE E) H0 b g) (he : PD G X (wE E) H0 e h) (hs : swapsWith e (some (.Subscript a b p)) pos.line X.env = pure false := by rfl) :
    PSt G X E H0 (.Assign [.Subscript a b p] e pos) (sPut f g h) := by
  intro B r s0 σ T al H D S q
  refine rdS1 (ps_dput hu pe_rd pe_rd pe_rd hs) ?_
  refine he r s0 σ T al H _ S.sl S.wi (seqS S q fun z st1 v T1 al1 H1 x1 S1 r1 q1 => ?_)
  refine ha r st1 σ T1 al1 H1 _ S1.sl S1.wi (seqS S1 q1 fun x st2 u T2 al2 H2 x2 S2 r2 q2 => ?_)
  refine hb r st2 σ T2 al2 H2 _ S2.sl S2.wi (seqS S2 q2 fun y st3 t T3 al3 H3 x3 S3 r3 q3 => ?_)
  rcases opt_bind x.at (fun n => Mo.opt y.key >>= fun k => stPut n k z >>= fun _ => pure (Fl.nx r)) st3 with ⟨n, e1, e2⟩ | e2
  · rw [e2] at q3
    rcases opt_bind y.key (fun k => stPut n k z >>= fun _ => pure (Fl.nx r)) st3 with ⟨k, e3, e4⟩ | e4
    · rw [e4, bind_ap] at q3
      obtain ⟨p', rfl, hp⟩ := at_rep_obj (r2.ext x3) e1
      have eu := key_rep r3 e3
      subst eu
      unfold stPut at q3
      cases em : st3[n]? with
      | none => simp only [em] at q3; exact q3.elim
      | some m =>
        cases m with
        | dk kvs =>
          simp only [em] at q3
          obtain ⟨tp, vs, h1, h2⟩ := S3.wi.cell n p' _ hp em
          cases eb : Nat.blt kvs.length 16777216 with
          | false => simp only [eb] at q3; exact q3.elim
          | true =>
            simp only [eb] at q3
            have hlt : kvs.length < 16777216 := Nat.blt_eq ▸ eb
            have rz := (r1.ext x2).ext x3
            refine ⟨p', _, rfl, DPut.k h1 (by rw [kv_len h2, line_is]; exact hlt), ?_⟩
            have xw : Ext T3 al3 H3 T3 al3 (upd H3 p' (.dK (putK vs k v))) := Ext.wld tp
            exact q3 σ T3 al3 _ (S3.step xw (S3.wi.put hp h1 (kv_put h2 rz)))
    · rw [e4] at q3
      exact q3.elim
  · rw [e2] at q3
    exact q3.elim
end

def kvOf : List (D × D) → Option (List (Key × D))
  | [] => some []
  | (k, x) :: r => k.key.bind fun j => (kvOf r).map fun l => (j, x) :: l
def dispD (l : List (D × D)) : Option (List (Key × D)) := match Nat.ble l.length 15 with
  | true => (kvOf l).map fun kvs => kvs.foldl (fun acc kv => putD acc kv.1 kv.2) []
  | false => none
def prNil : Env → Mo (List (D × D)) := fun _ => pure []
def prCons (f g : Env → Mo D) (h : Env → Mo (List (D × D))) : Env → Mo (List (D × D)) := fun r => f r >>= fun x => g r >>= fun y => h r >>= fun l => pure ((x, y) :: l)
def PPr (G : GX) (X : Cx) (W : WX) (H0 : Hp) (trs : List (TE × TE)) (f : Env → Mo (List (D × D))) : Prop := ∀ (r : Env) (st : St) (σ : L2.St) (T : Tg) (al : List Addr) (H : Hp) (Q : List (V × V) → Hp → Prop), SL X.K H0 T al H r σ → WI X.K G.TB T al st H →
  Post G X.K W (fun _ T al H v x => Paired (fun (p : V × V) (q : D × D) => Rep X.K (fz T H) al p.1 q.1 ∧ Rep X.K (fz T H) al p.2 q.2) v x) σ T al H Q (f r st) → tPairs trs σ H Q
section
variable {G : GX} {X : Cx} {W : WX} {H0 : Hp} {a b e : Expr} {pos p2 : Pos} {trs : List (TE × TE)}
theorem back_PP {K : PySem.W.Frag} : Back (fun (_ : Hp) (T : Tg) (al : List Addr) (H : Hp) (v : List (V × V)) (x : List (D × D)) => Paired (fun (p : V × V) (q : D × D) => Rep K (fz T H) al p.1 q.1 ∧ Rep K (fz T H) al p.2 q.2) v x) := fun _ _ _ _ _ _ _ _ h => h
theorem ppr_nil : PPr G X W H0 [] prNil := fun r st σ T al H Q S w q => q [] T al H .refl w .nil
theorem ppr_cons {f g : Env → Mo D} {h : Env → Mo (List (D × D))} (ha : PD G X W H0 a f) (hb : PD G X W H0 b g) (hr : PPr G X W H0 trs h) : PPr G X W H0 ((RdE X a, RdE X b) :: trs) (prCons f g h) := by
  intro r st σ T al H Q S w q
  refine ha r st σ T al H _ S w (seqP back_PP q fun x st1 v T1 al1 H1 _ x1 w1 r1 q1 => ?_)
  refine hb r st1 σ T1 al1 H1 _ (S.ext x1) w1 (seqP back_PP q1 fun y st2 u T2 al2 H2 _ x2 w2 r2 q2 => ?_)
  refine hr r st2 σ T2 al2 H2 _ ((S.ext x1).ext x2) w2 (seqP back_PP q2 fun l st3 ps T3 al3 H3 _ x3 w3 r3 q3 => ?_)
  exact q3 ((v, u) :: ps) T3 al3 H3 .refl w3 (.cons ⟨(Rep.ext r1 x2).ext x3, Rep.ext r2 x3⟩ r3)
theorem kvOf_ok {K : PySem.W.Frag} {F : Hp} {al : List Addr} : ∀ {l : List (D × D)} {ps : List (V × V)} {kvs : List (Key × D)}, Paired (fun (p : V × V) (q : D × D) => Rep K F al p.1 q.1 ∧ Rep K F al p.2 q.2) ps l → kvOf l = some kvs →
    ∃ vs : List (Key × V), ps = vs.map (fun kv => (kV kv.1, kv.2)) ∧ RepKv K F al vs kvs
  | [], _, kvs, .nil, e => by
    have e' : ([] : List (Key × D)) = kvs := Option.some.inj e
    subst e'
    exact ⟨[], rfl, .nil⟩
  | (k, x) :: l, _, kvs, .cons r t, e => by
    have e1 : k.key.bind (fun j => (kvOf l).map fun l => (j, x) :: l) = some kvs := e
    obtain ⟨j, hj, e2⟩ := Option.bind_eq_some_iff.mp e1
    obtain ⟨ks, hk, e3⟩ := Option.map_eq_some_iff.mp e2
    obtain ⟨vs, h1, h2⟩ := kvOf_ok t hk
    subst e3
    rename_i pv _
    obtain ⟨p1, p2⟩ := pv
    have ek := key_rep r.1 hj
    refine ⟨(j, p2) :: vs, ?_, .cons r.2 h2⟩
    rw [List.map_cons, ← h1]
    have ek' : p1 = kV j := ek
    rw [ek']
theorem paired_len {a b : Type} {F : a → b → Prop} : ∀ {l : List a} {m : List b}, Paired F l m → l.length = m.length
  | _, _, .nil => rfl
  | _, _, .cons _ t => congrArg (· + 1) (paired_len t)
def eDisp (f : Env → Mo (List (D × D))) : Env → Mo D := fun r => f r >>= fun l => Mo.opt (dispD l) >>= fun kvs => pure (.dct kvs)
def eObj (f : Env → Mo (List (D × D))) : Env → Mo D := fun r => f r >>= fun l => Mo.opt (dispD l) >>= fun kvs => fun st => .ok (.obj st.length) (st ++ [.dk kvs])
theorem dispD_ok {l : List (D × D)} {kvs : List (Key × D)} (h : dispD l = some kvs) : l.length ≤ 15 ∧ ∃ ks, kvOf l = some ks ∧ kvs = ks.foldl (fun acc kv => putD acc kv.1 kv.2) [] := by
  unfold dispD at h
  cases e : Nat.ble l.length 15 with
  | false => rw [e] at h; cases h
  | true =>
    rw [e] at h
    obtain ⟨ks, h1, h2⟩ := Option.map_eq_some_iff.mp h
    exact ⟨Nat.le_of_ble_eq_true e, ks, h1, h2.symm⟩
theorem WI.join {K : PySem.W.Frag} {TB : List (Addr × Str)} {T : Tg} {al : List Addr} {st : St} {H : Hp} {p : Addr} {kvs : List (Key × D)} {us : List (Key × V)} (w : WI K TB T al st H) (n : T p = none) (h : H p = some (.dK us)) (r : RepKv K (fz T H) al us kvs) : WI K TB (tset T p .wld) (al ++ [p]) (st ++ [.dk kvs]) H := by
  have hs : Same (fz T H) (fz (tset T p .wld) H) := fz_tset (by rw [n]; decide)
  have np : ∀ (k : Nat) (a : Addr), al[k]? = some a → a ≠ p := fun k a e z => by
    have hk : k < st.length := by
      rw [← w.len]
      exact (List.getElem?_eq_some_iff.mp e).1
    have q := (w.cell k a _ e (List.getElem?_eq_getElem hk)).1
    rw [z, n] at q
    cases q
  refine ⟨fun a t e => ?_, by rw [List.length_append, List.length_append, w.len]; rfl, fun k a m e1 e2 => ?_, ?_, w.tabs, fun a e => ?_⟩
  · by_cases z : a = p
    · exact ⟨_, by rw [z]; exact h⟩
    · rw [tset_ne z] at e
      exact w.tg a t e
  · by_cases hk : k < al.length
    · rw [List.getElem?_append_left hk] at e1
      rw [List.getElem?_append_left (by rw [← w.len]; exact hk)] at e2
      obtain ⟨q1, q2⟩ := w.cell k a m e1 e2
      refine ⟨by rw [tset_ne (np k a e1)]; exact q1, ?_⟩
      cases m with
      | dk ks =>
        obtain ⟨ws, e3, r3⟩ := q2
        exact ⟨ws, e3, RepKv.mono hs ⟨[p], rfl⟩ r3⟩
    · have hk2 : k = al.length := by
        have := (List.getElem?_eq_some_iff.mp e1).1
        rw [List.length_append, List.length_singleton] at this
        omega
      subst hk2
      rw [List.getElem?_append_right (Nat.le_refl _), Nat.sub_self] at e1
      rw [w.len, List.getElem?_append_right (Nat.le_refl _), Nat.sub_self] at e2
      have ea : p = a := Option.some.inj e1
      have em : MO.dk kvs = m := Option.some.inj e2
      subst ea
      subst em
      exact ⟨tset_same, us, h, RepKv.mono hs ⟨[p], rfl⟩ r⟩
  · rw [List.nodup_append]
    refine ⟨w.inj, by simp, fun a ha b hb => ?_⟩
    have eb : b = p := by simpa using hb
    obtain ⟨k, hk⟩ := List.getElem?_of_mem ha
    rw [eb]
    exact np k a hk
  · by_cases z : a = p
    · exact ⟨al.length, by rw [z, List.getElem?_append_right (Nat.le_refl _), Nat.sub_self]; rfl⟩
    · rw [tset_ne z] at e
      obtain ⟨k, hk⟩ := w.wldo a e
      exact ⟨k, by rw [List.getElem?_append_left (List.getElem?_eq_some_iff.mp hk).1]; exact hk⟩
theorem Ext.join {T T1 : Tg} {al al1 : List Addr} {H H1 : Hp} {p : Addr} (n : H p = none) (x : Ext T al H T1 al1 H1) (t : Tag) : Ext T al H (tset T1 p t) (al1 ++ [p]) H1 where
  tg0 := fun a o e m => by rw [tset_ne (ne_of_none e n)]; exact x.tg0 a o e m
  tgt := fun a xs e f => by rw [tset_ne (ne_of_none e n)]; exact x.tgt a xs e f
  tgw := fun a xs e f => by rw [tset_ne (ne_of_none e n)]; exact x.tgw a xs e f
  hp0 := x.hp0
  wl := x.wl
  al := by
    obtain ⟨b, rfl⟩ := x.al
    exact ⟨b ++ [p], by rw [List.append_assoc]⟩
variable {keys : List (Option Expr)} {values : List Expr}
theorem disp_run {f : Env → Mo (List (D × D))} (hp : PPr G X W H0 trs f) {r : Env} {st : St} {σ : L2.St} {T : Tg} {al : List Addr} {H : Hp} {Q : VK} (S : SL X.K H0 T al H r σ) (w : WI X.K G.TB T al st H)
    (ok : ∀ (p : Addr), H p = none → Post G X.K W (fun _ T' al' H' v x => Paired (fun (p : V × V) (q : D × D) => Rep X.K (fz T' H') al' p.1 q.1 ∧ Rep X.K (fz T' H') al' p.2 q.2) v x) σ T al (upd H p (.dK [])) (fun ps H2 => H2 p = some (.dK []) ∧ ∃ kvs : List (Key × V), ps = kvs.map (fun kv => (kV kv.1, kv.2)) ∧ kvs.length ≤ 15 ∧ Q (.ref p) (upd H2 p (.dK (mergeK [] kvs)))) (f r st)) : tDisp trs σ H Q := fun p n =>
  hp r st σ T al _ _ (S.ext (Ext.laid0 n)) (w.laid n) (ok p n)
theorem pd_disp {f : Env → Mo (List (D × D))} (hp : PPr G X W H0 trs f) (h : PPs X pos keys values trs) (hall : keys.all (·.isSome) = true := by rfl) (hl : keys.length = values.length := by rfl) (h0 : keys ≠ [] := by intro z; cases z) (h15 : keys.length ≤ 15 := by decide) : PD G X W H0 (.Dict keys values pos) (eDisp f) := by
  intro r st σ T al H Q S w q
  refine rdE (pe_disp h hall hl h0 h15) (disp_run hp S w fun p n => ?_)
  have q' := Post.ext back_D q (Ext.laid0 (o := .dK []) (al := al) (T := T) n)
  refine seqP back_D q' fun l st1 ps T1 al1 H1 ef x1 w1 r1 q1 => ?_
  have hp1 : H1 p = some (.dK []) := x1.hp p _ upd_same (by rw [w.free n]; decide)
  have tp : T1 p = none := (x1.tg p _ upd_same).trans (w.free n)
  refine ⟨hp1, ?_⟩
  rcases opt_bind (dispD l) (fun kvs => (pure (D.dct kvs) : Mo D)) st1 with ⟨kvs, e1, e2⟩ | e2
  · obtain ⟨hl15, ks, hk, ek⟩ := dispD_ok e1
    obtain ⟨vs, ev, rv⟩ := kvOf_ok r1 hk
    have q2 : Post G X.K W (RpD X.K) σ T al H Q (.ok (.dct kvs) st1) := by
      have : eDisp f r st = .ok (.dct kvs) st1 := by
        show (f r >>= _) st = _
        rw [bind_ap, ef]
        exact e2
      rw [this] at q
      exact q
    refine ⟨vs, ev, ?_, ?_⟩
    · have h1 := paired_len r1
      rw [ev, List.length_map] at h1
      rw [h1]
      exact hl15
    · have nf : T1 p ≠ some .frz := by rw [tp]; decide
      have hs : Same (fz T1 H1) (fz T1 (upd H1 p (.dK (mergeK [] vs)))) := fz_upd nf
      have hs2 : Same (fz T1 (upd H1 p (.dK (mergeK [] vs)))) (fz (tset T1 p .frz) (upd H1 p (.dK (mergeK [] vs)))) := fz_tset nf
      have w2 := (w1.upd (u := .dK (mergeK [] vs)) nf (by rw [tp]; decide) hp1 (fun ps z => by cases z) (fun f z => by cases z)).tag (t := .frz) nf (by rw [tp]; decide) upd_same
      have x0 : Ext T al H T al (upd H p (.dK [])) := Ext.laid0 n
      have x2 : Ext T al H T1 al1 H1 := x0.trans x1
      have x3 : Ext T al H (tset T1 p .frz) al1 (upd H1 p (.dK (mergeK [] vs))) := (x2.upd0 n).retag n .frz
      refine q2 (.ref p) _ al1 _ x3 w2 ?_
      rw [ek]
      have rm : RepKv X.K (fz T1 (upd H1 p (.dK (mergeK [] vs)))) al1 (mergeK [] vs) (ks.foldl (fun acc kv => putD acc kv.1 kv.2) []) := RepKv.mono hs ⟨[], by simp⟩ (kv_merge rv .nil)
      exact .dct (fz_of tset_same upd_same) (RepKv.mono hs2 ⟨[], by simp⟩ rm)
  · rw [e2] at q1
    exact q1.elim
theorem pd_obj {f : Env → Mo (List (D × D))} (hp : PPr G X W H0 trs f) (h : PPs X pos keys values trs) (hall : keys.all (·.isSome) = true := by rfl) (hl : keys.length = values.length := by rfl) (h0 : keys ≠ [] := by intro z; cases z) (h15 : keys.length ≤ 15 := by decide) : PD G X W H0 (.Dict keys values pos) (eObj f) := by
  intro r st σ T al H Q S w q
  refine rdE (pe_disp h hall hl h0 h15) (disp_run hp S w fun p n => ?_)
  have q' := Post.ext back_D q (Ext.laid0 (o := .dK []) (al := al) (T := T) n)
  refine seqP back_D q' fun l st1 ps T1 al1 H1 ef x1 w1 r1 q1 => ?_
  have hp1 : H1 p = some (.dK []) := x1.hp p _ upd_same (by rw [w.free n]; decide)
  have tp : T1 p = none := (x1.tg p _ upd_same).trans (w.free n)
  refine ⟨hp1, ?_⟩
  rcases opt_bind (dispD l) (fun kvs => ((fun st => .ok (.obj st.length) (st ++ [.dk kvs])) : Mo D)) st1 with ⟨kvs, e1, e2⟩ | e2
  · obtain ⟨hl15, ks, hk, ek⟩ := dispD_ok e1
    obtain ⟨vs, ev, rv⟩ := kvOf_ok r1 hk
    have q2 : Post G X.K W (RpD X.K) σ T al H Q (.ok (.obj st1.length) (st1 ++ [.dk kvs])) := by
      have : eObj f r st = .ok (.obj st1.length) (st1 ++ [.dk kvs]) := by
        show (f r >>= _) st = _
        rw [bind_ap, ef]
        exact e2
      rw [this] at q
      exact q
    refine ⟨vs, ev, ?_, ?_⟩
    · have h1 := paired_len r1
      rw [ev, List.length_map] at h1
      rw [h1]
      exact hl15
    · have nf : T1 p ≠ some .frz := by rw [tp]; decide
      have hs : Same (fz T1 H1) (fz T1 (upd H1 p (.dK (mergeK [] vs)))) := fz_upd nf
      have w2 := w1.upd (u := .dK (mergeK [] vs)) nf (by rw [tp]; decide) hp1 (fun ps z => by cases z) (fun f z => by cases z)
      have rm : RepKv X.K (fz T1 (upd H1 p (.dK (mergeK [] vs)))) al1 (mergeK [] vs) kvs := by
        rw [ek]
        exact RepKv.mono hs ⟨[], by simp⟩ (kv_merge rv .nil)
      have w3 := w2.join tp upd_same rm
      have x0 : Ext T al H T al (upd H p (.dK [])) := Ext.laid0 n
      have x2 : Ext T al H T1 al1 H1 := x0.trans x1
      have x3 : Ext T al H (tset T1 p .wld) (al1 ++ [p]) (upd H1 p (.dK (mergeK [] vs))) := Ext.join n (x2.upd0 n) .wld
      refine q2 (.ref p) _ _ _ x3 w3 ?_
      exact .obj (by rw [← w1.len, List.getElem?_append_right (Nat.le_refl _), Nat.sub_self]; rfl)
  · rw [e2] at q1
    exact q1.elim
theorem pd_dct0 : PD G X W H0 (.Dict [] [] pos) (eC (.dct [])) := by
  intro r st σ T al H Q S w q
  refine rdE pe_dnewK fun p n => ?_
  have n' := w.free n
  exact q (.ref p) (tset T p .frz) al _ (Ext.laid n .frz) ((w.laid n).tag (by rw [n']; decide) (by rw [n']; decide) upd_same) (.dct (fz_of tset_same upd_same) .nil)
end
end Pi
namespace Pi
open PySem PySem.Spec PyProof.Rows L2

def spI (K : PySem.W.Frag) (C : Addr) (f : Str) : Sp := fun vs H Q _ => ∃ (a : Addr) (y : V), vs = [.ref a, y] ∧ OexC K C ∧ PySem.W.findIn K (.ref C) f = some none ∧ H a = some (exo a C none) ∧
  ∀ dx, H dx = none → dx ≠ a → Q .non (upd (upd H dx (exd dx [(f, y)])) a (exo a C (some dx)))
def initB (f y : Str) (p1 p2 p3 p4 : Pos) : List Stmt := [.Assign [.Attribute (.Name "self" p1) f p2] (.Name y p3) p4]
theorem init_ok {P : Program} {w : World} {K : PySem.W.Frag} {mg : Str → Option Value} {base : Heap} {k : Nat} {fI C : Addr} {fd : FuncData} {x qual f y : Str} {params : Arguments} {scope : Scope} {dvs : List V} {kws : List (Str × V)} {p1 p2 p3 p4 : Pos}
    (F : FunD K x qual params (initB f y p1 p2 p3 p4) scope dvs kws fI fd) (S : FnScope ["self", y] ["self", y] scope) (h0 : scope.names.lookup ("self" : Str) = some NameKind.local) (h1 : scope.names.lookup y = some NameKind.local) (hd : (y == ("__debug__" : Str)) = false) (hcd : (y == ("__classdict__" : Str)) = false)
    (hs : ∀ (cdv : Value) (a : Addr), swapsWith (.Name y p3) (some (.Attribute (.Name "self" p1) f p2)) p4.line (envOfC qual scope a fI cdv) = pure false) :
    FnOk P w K mg base (L2.CX P w) (k + 1) fI fd ["self", y] (spI K C f) := by
  refine F.ok S (fun vs H Q E h => by obtain ⟨a, z, rfl, _⟩ := h; rfl) fun cdv A outer s H vs Q E hr h => ?_
  obtain ⟨a, z, rfl, T, hno, ha, q⟩ := h
  refine ⟨_, pss_one (ps_ost (pe_var (i := 0) rfl (.inl h0)) (pe_var (i := 1) rfl (.inl h1) hd hcd) (hs _ _)), ?_⟩
  exact ⟨z, rfl, .ref a, rfl, a, C, rfl, T, hno, .inl ⟨ha, fun dx n ne => q dx n ne⟩⟩

structure XCls (G : GX) (X : Cx) (x : Str) (c : Nat) : Prop where
  ex : ∃ (k : Nat) (fI : Addr) (fd : FuncData) (ps : List Str), OexC X.K (G.cls c) ∧ PySem.W.findIn X.K (.ref (G.cls c)) (G.fld c) = some none ∧ PySem.W.findIn X.K (.ref (G.cls c)) "__init__" = some (some (.ref fI)) ∧ PySem.W.typeIn X.K (.ref fI) = some (.type "function") ∧
    FnOk X.prog X.w X.K X.mg X.base (L2.CX X.prog X.w) k fI fd ps (spI X.K (G.cls c) (G.fld c)) ∧ Room (k + 1) X.A ∧ Binds X.K fd ps [] ∧ X.mg x = some (.ref (G.cls c))
def sRaise (c : Nat) (f : Env → Mo D) : Stm := fun r => f r >>= fun x => Mo.err c x
section
variable {G : GX} {X : Cx} {E : XK} {H0 : Hp} {x : Str} {c : Nat} {e : Expr} {p pos p2 : Pos}
theorem pst_raise {f : Env → Mo D} (hc : X.calm = true) (kn : XCls G X x c) (tk : Takes X (wE E)) (hg : Gl X x) (ha : PD G X (wE E) H0 e f) (hdb : (x == ("__debug__" : Str)) = false := by decide)
    (he : starEach (e :: []) X.env = (false, eval e X.env) :: starEach [] X.env := by rfl) (hpl : (backTo pos (starEach [] X.env)).any (·.1) = false := by rfl) :
    PSt G X E H0 (.Raise (some (.Call (.Name x p) [e] [] pos)) none p2) (sRaise c f) := by
  intro B r s0 σ T al H D S q
  obtain ⟨k, fI, fd, ps, T1, hno, iC, tI, F, hr, hb, hm⟩ := kn.ex
  refine rdS1 (ps_raise hc tk (pmk_oex (dvs := []) (ds := []) T1 iC tI F hr hb .nil (passes_call takes0 fun _ _ _ _ z => z) hg hm (pa_cons pe_rd pa_nil he) hdb he hpl)) ?_
  refine ha r s0 σ T al H _ S.sl S.wi (seqS S q fun y st1 v T2 al2 H2 x2 S2 r2 q2 => ?_)
  refine ⟨by show 1 ≤ 1000; omega, fun a na => ⟨a, v, rfl, T1, hno, upd_same, fun dx nx ne => ⟨rfl, dx, [(G.fld c, v)], upd_same, by rw [upd_ne ne, upd_same], ?_, ?_⟩⟩⟩
  · rw [upd_ne ne] at nx
    exact nx
  · rw [upd_ne ne] at nx
    have eH : upd (del (upd (upd (upd H2 a (exo a (G.cls c) none)) dx (exd dx [(G.fld c, v)])) a (exo a (G.cls c) (some dx))) a) dx (.xd [(G.fld c, v)]) = upd H2 dx (.xd [(G.fld c, v)]) := by
      funext b
      by_cases hb : b = dx
      · rw [hb, upd_same, upd_same]
      · rw [upd_ne hb, upd_ne hb]
        by_cases ha : b = a
        · rw [ha, del_same, na]
        · rw [del_ne ha, upd_ne ha, upd_ne hb, upd_ne ha]
    rw [eH]
    have q3 : ErrW G X.K (wE E) [] B.T B.al H0 c y st1 := q2
    exact q3 dx v T2 al2 _ (S2.ex.trans (Ext.laid0 nx)) (S2.wi.laid nx) (S2.ex.free nx) upd_same (Rep.ext r2 (Ext.laid0 (al := al2) nx))
end
end Pi
namespace PySem.W
open PySem PySem.Spec PySem.Calls PyProof.Rows
structure XcOk (K : Frag) (D : Addr) : Prop where
  ga : findIn K (.ref D) "__getattribute__" = some (some (.builtin "BaseException.__getattribute__"))
  gg : findIn K (.ref D) "__getattr__" = some none
  be : subIn K (.ref D) (.type "BaseException") = some true
  hd : hasDictIn K D = true
  cl : findIn K (.ref D) "__class__" = some (some (.builtin "object.__class__"))
  sp : specialIn K (.builtin "object.__class__") "__get__" = some (some (.builtin "getset_descriptor.__get__"))
  tk : takesIn K (.builtin "object.__class__") = some true
  ob : mroIn K D (.type "object") = some true
theorem xc_attr {prog : Program} {w : World} {A : Around} {E : Value → Shared → Prop} {s : Shared} {K : Frag} {x D : Addr} {ox od : Obj} {Q : Option Value → Shared → Prop} (T : XcOk K D) (X : K.In s.heap) (I : InstAt s.heap x ox D (some od)) (h : Q (some (.ref D)) { s with toks := s.toks + 1 }) : wpAny (model prog w) A (getAttr? (.ref x) "__class__") Q E s := by
  obtain ⟨hp, g, d, t, os⟩ := s
  have hcl : (clsIn K D).isSome = true := by
    obtain ⟨cd, hc, _⟩ := any_some T.hd
    rw [hc]
    rfl
  have Ltype := I.type (M := model prog w)
  have Lfind := looks_find (M := model prog w) X I (findObj_data hcl T.cl T.sp T.tk)
  have Lbase : Looks (model prog w) hp (isInstance (.ref x) (.type "BaseException")) true := Ltype.andThen (looks_subIn X T.be)
  have Lga := looks_findIn (M := model prog w) X T.ga
  have Lgg := looks_findIn (M := model prog w) X T.gg
  have nob : (Value.builtin "BaseException.__getattribute__" == Value.builtin "object.__getattribute__") = false := by decide +kernel
  unfold getAttr? getAttrBy? getAttrBy
  refine wpAny_bind (wpAny_mkText (wpAny_bind (wpAny_attempt (wpAny_holding (wpAny_bind (Ltype.at (wpAny_bind (Lga.at ?_))))))))
  show wpAny _ _ (if (onTheHeap (Value.ref D) && Value.builtin "BaseException.__getattribute__" == Value.builtin "object.__getattribute__") = true then _ else _) _ _ _
  rw [show (onTheHeap (Value.ref D) && Value.builtin "BaseException.__getattribute__" == Value.builtin "object.__getattribute__") = false by rw [nob]; rfl, if_neg Bool.false_ne_true]
  unfold getAttrByItsOwn hookBefore
  refine wpAny_bind ?_
  rw [if_pos (show onTheHeap (Value.ref D) = true from rfl)]
  refine Lgg.at (wpAny_bind (wpAny_attempt (wpAny_holding ?_)))
  unfold callGetattribute
  rw [show (false && onTheHeap (Value.builtin "BaseException.__getattribute__")) = false from rfl, if_neg Bool.false_ne_true]
  unfold boundAndCalled
  rw [PySem.F.excAttr_ValueError.ga.bind (.ref x)]
  refine wpAny_bind (wpAny_pure ?_)
  show wpAny _ _ (call (.builtin "BaseException.__getattribute__") [.ref x, .str "__class__" t]) _ _ _
  refine wpAny_call (codeAny_call_builtin PySem.F.excAttr_ValueError.ga.plain PySem.F.entry_bexc_ga ?_)
  refine @check_slot (model prog w) _ _ ⟨hp, g, d, t + 1, os⟩ "BaseException.__getattribute__" "BaseException" "__getattribute__" (.ref x) [.str "__class__" t] [] _ (by decide +kernel) (by decide +kernel) Lbase (PySem.F.args_bexc_ga (.ref x) (.str "__class__" t)) ?_
  unfold Builtin.«object.__getattribute__»
  refine wpAny_bind (wpAny_of_eq (a := ((Value.ref x : Value), [Value.str "__class__" t])) (by first | rfl | (simp only [slotArgs]; rfl)) ?_)
  refine wpAny_bind (wpAny_pure (wpAny_bind (Ltype.at (wpAny_bind (Lfind.at ?_)))))
  show wpAny _ _ (holding [Value.builtin "object.__class__"] (call (.builtin "getset_descriptor.__get__") [.builtin "object.__class__", .ref x, .ref D]) >>= ret) _ _ _
  refine wpAny_bind (wpAny_holding (wpAny_call (class_get (s := ⟨hp, g, d, t + 1, os⟩) (ox := ox) (od := some od) X I T.ob ?_)))
  refine wpAny_pure ?_
  show wpAny _ _ (handedOut (.ref D)) _ _ _
  rw [handedOut_of (v := .ref D) rfl]
  first
  | exact wpAny_pure (wpAny_pure h)
  | exact wpAny_pure h
  | exact wpAny_pure (wpAny_bind (wpAny_pure (wpAny_pure h)))
theorem xc_kit {K : Frag} {x D : Addr} {ox od : Obj} (T : XcOk K D) : KitX K (.ref x) (.ref D) (fun h => InstAt h x ox D (some od)) := by
  have hcl : ∃ c d cd sl, K.lookup D = some ⟨c, d, .cls cd, sl⟩ := by
    obtain ⟨cd, hc, _⟩ := any_some T.hd
    unfold clsIn at hc
    split at hc
    · exact ⟨_, _, _, _, by assumption⟩
    · cases hc
  obtain ⟨c, dd, cd, sl, ho⟩ := hcl
  refine ⟨fun _ _ _ I => I.type, fun _ _ X _ => ?_, fun h tp _ its n sl' X htp => ?_, fun X I k => xc_attr T X I k⟩
  · intro A' Q' E' s' k q
    unfold isType loadHead
    exact wpAny_bind (wpAny_loadPart (k _ _ (X _ _ ho)) (wpAny_pure q))
  · refine Bool.eq_false_iff.mpr fun q => ?_
    have e : D = tp := Value.ref.inj (beq_iff_eq.mp q)
    rw [← e, X _ _ ho] at htp
    cases htp
end PySem.W
namespace Pi
open PySem PySem.Spec PyProof.Rows L2

def D.ty : D → Option String
  | .non => some "NoneType"
  | .bl _ => some "bool"
  | .int _ => some "int"
  | .str _ => some "str"
  | .tup _ => some "tuple"
  | .lst _ => some "list"
  | .dct _ => some "dict"
  | .ktp _ => some "tuple"
  | _ => none
inductive BTy where
  | int | bool | str | tuple | list | dict
def BTy.nm : BTy → String
  | .int => "int"
  | .bool => "bool"
  | .str => "str"
  | .tuple => "tuple"
  | .list => "list"
  | .dict => "dict"
def isB : BTy → D → Option Bool
  | _, .obj _ => none
  | _, .exc _ _ _ => none
  | _, .kls _ => none
  | _, .dcx _ => none
  | _, .bex _ _ => none
  | .int, .int _ => some true
  | .int, .bl _ => some true
  | .bool, .bl _ => some true
  | .str, .str _ => some true
  | .tuple, .tup _ => some true
  | .tuple, .ktp _ => some true
  | .list, .lst _ => some true
  | .dict, .dct _ => some true
  | _, _ => some false
theorem kit_b {K : PySem.W.Frag} {T : BTy} {x : D} {t : String} {b : Bool} (h : x.ty = some t) (e : isB T x = some b) : PySem.W.kitOne K (.type t) (.type T.nm) = some b := by
  cases T <;> cases x <;> (first | (cases h; done) | (have ht := Option.some.inj h; subst ht; have hb := Option.some.inj e; subst hb; rfl))
def eIsB (T : BTy) (f : Env → Mo D) : Env → Mo D := fun r => f r >>= fun x => Mo.opt ((isB T x).map .bl)
theorem tyX_of {K : PySem.W.Frag} {T : Tg} {al : List Addr} {H : Hp} {v : V} {x : D} {t : String} (r : RepH K T al H v x) (h : x.ty = some t) : TyX K H v (.type t) := by
  cases x with
  | non => rw [rep_non r, ← Option.some.inj h]; exact .base .non
  | bl b => rw [rep_bl r, ← Option.some.inj h]; exact .base (.bl b)
  | int i => rw [rep_int r, ← Option.some.inj h]; exact .base (.int i)
  | str y => rw [rep_str r, ← Option.some.inj h]; exact .base (.str y)
  | tup ds =>
    obtain ⟨a, vs, rfl, hs, _⟩ := rep_tup r
    rw [← Option.some.inj h]
    rcases Same.seqT fz_same hs with (e | ⟨o, e⟩) | ⟨o, its, n, e, c, _⟩
    · exact .base (.tup e)
    · exact .fTuple e
    · exact .kTuple e c
  | lst ds =>
    obtain ⟨a, vs, rfl, hs, _⟩ := r
    rw [← Option.some.inj h]
    exact .base (.lst (nw_same _ _ hs))
  | dct kvs =>
    obtain ⟨a, vs, rfl, hs, _⟩ := rep_dct r
    rw [← Option.some.inj h]
    exact .base (.dK (fz_some hs).2)
  | ktp ds =>
    obtain ⟨a, vs, rfl, hs, _⟩ := rep_ktp r
    rw [← Option.some.inj h]
    rcases hs with (e | ⟨o, e⟩) | ⟨o, its, n, e, c, _⟩
    · cases e
    · cases e
    · exact .kTuple e c
  | _ => cases h
section
variable {G : GX} {X : Cx} {W : WX} {H0 : Hp} {a b e : Expr} {pos p p2 : Pos}
theorem isB_ty {T : BTy} {x : D} {b : Bool} (e : isB T x = some b) : ∃ t, x.ty = some t := by
  cases x with
  | obj n => cases T <;> cases e
  | exc n f y => cases T <;> cases e
  | kls y => cases T <;> cases e
  | dcx y => cases T <;> cases e
  | bex n y => cases T <;> cases e
  | _ => exact ⟨_, rfl⟩
theorem pd_isB {f : Env → Mo D} {y : Str} (T : BTy) (ha : PH G X W H0 a f) (hgi : Gl X "isinstance") (hmi : X.mg "isinstance" = none) (hg : Gl X y) (hm : X.mg y = none) (hv : bootBuiltins y = some (.type T.nm)) (hn : y ≠ "__name__" := by decide) (hd : (y == ("__debug__" : Str)) = false := by decide)
    (he : starEach [a, .Name y p2] X.env = (false, eval a X.env) :: starEach [.Name y p2] X.env := by rfl) (he2 : starEach [.Name y p2] X.env = (false, eval (.Name y p2) X.env) :: starEach [] X.env := by rfl) (hpl : (backTo pos (starEach [.Name y p2] X.env)).any (·.1) = false := by rfl) :
    PD G X W H0 (.Call (.Name "isinstance" p) [a, .Name y p2] [] pos) (eIsB T f) := by
  intro r st σ T1 al H Q S w q
  refine rdE (pe_callB call_isi hgi hmi PyProof.Rows.Boot.«isinstance» (pa_cons pe_rd (pa_cons (pe_bltn (pos := p2) hg hm hv (v := .ty T.nm) rfl hn hd) pa_nil he2) he) (by decide) (by decide) he hpl) ?_
  refine ha r st σ T1 al H _ S w (seqP back_D q fun x st1 v T2 al2 H2 _ x2 w2 r2 q2 => ?_)
  refine optP q2 fun z hz q3 => ?_
  obtain ⟨k, hk, ez⟩ := Option.map_eq_some_iff.mp hz
  obtain ⟨t, ht⟩ := isB_ty hk
  subst ez
  exact ⟨v, .ty T.nm, .type t, .type T.nm, k, rfl, .ty _, tyX_of r2 ht, kit_b ht hk, q3 _ T2 al2 H2 .refl w2 (.bl k)⟩

theorem exc_at {pins : List (Addr × Obj)} {σ : L2.St} {H : Hp} {s : Shared} {a d C : Addr} {f : Str} {v : V} (I : Inv X pins σ H s) (h : H a = some (ExcO (.ref C) d a)) (hd : H d = some (.xd [(f, v)])) : ∃ oe od, PySem.W.InstAt s.heap a oe C (some od) ∧ s.heap.get? d = some od ∧ ∃ mA, s.heap.Ns1 d mA ∧ ∀ g, RelO ([(f, v)].lookup g) (mA g) := by
  have h1 : ObjOk X.prog X.w H s.heap a (.ext fun h => ∃ (oe : Obj) (vs : Array Value), h.get? a = some oe ∧ Zc (.ref C) (some d) oe ∧ oe.data = .fields vs) := I.hok a _ h
  obtain ⟨oe, vs, e1, e2, e3⟩ := h1.1
  have hx : ObjOk X.prog X.w H s.heap d (.xd [(f, v)]) := I.hok d _ hd
  obtain ⟨mA, hns, hr⟩ := hx
  obtain ⟨od, es, ep, ho, hl⟩ := id hns
  refine ⟨oe, od, ⟨e1, e2.1, by unfold PySem.W.notCls; rw [e3] <;> rfl, by rw [e2.2]; exact ho⟩, ho, mA, hns, hr⟩
def eXat (ok : Str → Bool) (g : Str) (f : Env → Mo D) : Env → Mo D := fun r => f r >>= fun x => match x with
  | .exc n h y => (match ok n && decide (h = g) with
    | true => pure y
    | false => Mo.bad)
  | _ => Mo.bad
def XatOk (K : PySem.W.Frag) (g : Str) (ok : Str → Bool) : Prop := ∀ n, ok n = true → XfC K (He.ga K n) ∧ PySem.W.findIn K (.ref (He.ga K n)) g = some none
theorem pd_xat {f : Env → Mo D} {g : Str} {ok : Str → Bool} (hk : XatOk X.K g ok) (ha : PD G X W H0 a f) (hb : attributeBase a g X.env (eval a X.env) = eval a X.env := by rfl) : PD G X W H0 (.Attribute a g pos) (eXat ok g f) := by
  intro r st σ T1 al H Q S w q pins s I
  refine attr_of hb (thn (ha r st σ T1 al H (fun v H2 => ∃ (x d D : Addr) (y : V), v = .ref x ∧ H2 x = some (ExcO (.ref D) d x) ∧ H2 d = some (.xd [(g, y)]) ∧ XfC X.K D ∧ PySem.W.findIn X.K (.ref D) g = some none ∧ Q y H2) S w (seqP back_D q fun x st1 v T2 al2 H2 _ x2 w2 r2 q2 => ?_) pins s I) fun u s1 hh => ?_)
  · cases x with
    | exc n h y =>
      have q3 : Post G X.K W (RpD X.K) σ T2 al2 H2 Q ((match ok n && decide (h = g) with
        | true => pure y
        | false => Mo.bad : Mo D) st1) := q2
      cases e : ok n && decide (h = g) with
      | false => rw [e] at q3; exact q3.elim
      | true =>
        rw [e] at q3
        obtain ⟨e1, e2⟩ := Bool.and_eq_true_iff.mp e
        have e3 : h = g := of_decide_eq_true e2
        subst e3
        obtain ⟨T, hno⟩ := hk n e1
        cases r2 with
        | exc h1 h2 h3 => exact ⟨_, _, _, _, rfl, (fz_some h1).2, (fz_some h2).2, T, hno, q3 _ T2 al2 H2 .refl w2 h3⟩
    | _ => exact q2.elim
  · obtain ⟨v, H1, I1, r1, x, d, C, y, rfl, h1, h2, T, hno, q1⟩ := hh
    cases r1
    obtain ⟨oe, od, J, hod, mA, hns, hr⟩ := exc_at I1 h1 h2
    have l : [(g, y)].lookup g = some y := by simp [List.lookup]
    obtain ⟨u, hu, ru⟩ := RelO.some_of (v := y) (o := mA g) (by rw [← l]; exact hr g)
    obtain ⟨od2, ho2, hl2⟩ := lookIn_ns hns
    have e : od2 = od := by
      rw [hod] at ho2
      exact (Option.some.inj ho2).symm
    subst e
    exact HandSPX.exc_get I1.kIn J T.ga T.gg T.exC (PySem.W.findObj_own T.hdC hno rfl (by rw [hl2, hu])) (handed_of ru) ⟨y, H1, I1.tok _, ru, q1⟩
end
end Pi
namespace Pi
open PySem PySem.Spec PyProof.Rows L2

theorem inv_track {X : Cx} {pins : List (Addr × Obj)} {σ : L2.St} {H : Hp} {s : Shared} {a d : Addr} {oe : Obj} {vs : Array Value} {cls : Value} (I : Inv X pins σ H s) (n0 : X.s_0.heap.get? a = none) (hn : H a = none) (ha : s.heap.get? a = some oe) (hz : Zc cls (some d) oe) (hd : oe.data = .fields vs)
    (nL : a ≠ X.env.locals) (np : ∀ p ∈ X.pn ++ pins, p.1 ≠ a) : Inv X pins σ (upd H a (ExcO cls d a)) s := by
  have ne0 : ∀ b o, X.s_0.heap.get? b = some o → b ≠ a := fun b o e z => by
    rw [z, n0] at e
    cases e
  have neS : ∀ b u, H b = some u → b ≠ a := fun b u e => ne_of_none e hn
  refine ⟨I.ok, I.os, I.bare, ⟨I.base.keep, I.base.slot, fun b o e n hx => ?_, I.base.there, fun b xs e => ?_, fun b o u e => ?_, fun b ps e => ?_⟩, I.loc, I.cell, ?_, fun x c e => ?_, fun p hp => ?_, fun b o e => ?_, I.len⟩
  · rw [upd_ne (ne0 b o e)]
    exact I.base.free b o e n hx
  · have q := I.base.tups b xs e
    rw [upd_ne (neS b _ q)]
    exact q
  · have q := I.base.frzs b o u e
    rw [upd_ne (neS b _ q)]
    exact q
  · obtain ⟨m, q⟩ := I.base.tbls b ps e
    exact ⟨m, by rw [upd_ne (neS b _ q)]; exact q⟩
  · rw [upd_ne (Ne.symm nL)]
    exact I.free
  · have nc : c ≠ a := fun z => by
      obtain ⟨v, o, ho, hcl⟩ := I.cell x c e
      rw [z, ha] at ho
      have eo := Option.some.inj ho
      rw [← eo, hd] at hcl
      cases hcl
    rw [upd_ne nc]
    exact I.freeC x c e
  · obtain ⟨e1, e2, e3, e4, e5⟩ := I.pin p hp
    exact ⟨e1, by rw [upd_ne (np p hp)]; exact e2, e3, e4, e5⟩
  · by_cases hb : b = a
    · rw [hb, upd_same] at e
      have eo := Option.some.inj e
      rw [hb, ← eo]
      exact ⟨⟨oe, vs, ha, hz, hd⟩, ⟨_, ha⟩, fun h1 h2 ⟨oe, vs, z1, z2, z3⟩ k => ⟨oe, vs, k _ z1, z2, z3⟩⟩
    · rw [upd_ne hb] at e
      exact (I.hok b o e).stay (fun c v _ q => q) (fun c q => by rw [upd_ne (neS c _ q)]; exact q) fun c xs q => by rw [upd_ne (neS c _ q)]; exact q
theorem inv_mark {X : Cx} {pins : List (Addr × Obj)} {σ : L2.St} {H : Hp} {s : Shared} {a : Addr} (I : Inv X pins σ H s) : Inv (X.suite a (X.pn ++ pins)) [] σ H s :=
  ⟨I.ok.suite _ _, I.os, I.bare, I.base, I.loc, I.cell, I.free, I.freeC, fun p hp => I.pin p (by rw [List.append_nil] at hp; exact hp), I.hok, I.len⟩
theorem inv_unmark {X : Cx} {pins pn' : List (Addr × Obj)} {σ : L2.St} {H : Hp} {s : Shared} {a : Addr} (I : Inv (X.suite a (X.pn ++ pins)) pn' σ H s) (ok : X.Ok) : Inv X pins σ H s :=
  ⟨ok, I.os, I.bare, I.base, I.loc, I.cell, I.free, I.freeC, fun p hp => I.pin p (List.mem_append_left _ hp), I.hok, I.len⟩
section
variable {X : Cx} {x1 x2 n y : Str} {C1 C2 : Addr} {i j : Nat} {body : List Stmt} {np1 np2 tp pos pos' p4 p5 p6 : Pos} {kk : Nat} {tb : WX → TS} {Wout : WX}
end
end Pi
namespace Pi
open PySem PySem.Spec PyProof.Rows L2 LamX

def LamH (H H1 : Hp) (q : Str) : Prop := H1 = H ∨ ∃ (P c : Addr) (ps qs : Array Value), H P = some (.tbl ps) ∧ H c = none ∧ P ≠ c ∧ H1 = upd (upd H P (.tbl qs)) c (CodeO c q)
theorem code_nt {c : Addr} {q : Str} : NT (CodeO c q) := fun ps z => by
  unfold CodeO at z
  cases z
theorem LamH.ext {H H1 : Hp} {q : Str} {T : Tg} {al : List Addr} (h : LamH H H1 q) : Ext T al H T al H1 := by
  rcases h with rfl | ⟨P, c, ps, qs, hP, hc, hn, rfl⟩
  · exact .refl
  · refine ⟨fun _ _ _ _ => rfl, fun _ _ _ f => f, fun _ _ _ f => f, fun a o e n t => ?_, fun a o e => ?_, ⟨[], by simp⟩⟩
    · rw [upd_ne (ne_of_none e hc), upd_ne (fun z => t ps (by rw [z, hP] at e; exact (Option.some.inj e).symm))]
      exact e
    · rw [upd_ne (ne_of_none e hc)]
      by_cases z : a = P
      · exact ⟨_, by rw [z]; exact upd_same, fun _ ys q => by cases q⟩
      · exact ⟨o, by rw [upd_ne z]; exact e, id⟩
theorem LamH.wi {K : PySem.W.Frag} {TB : List (Addr × Str)} {H H1 : Hp} {q : Str} {T : Tg} {al : List Addr} {st : St} (h : LamH H H1 q) (t : Tabs TB H1) (w : WI K TB T al st H) : WI K TB T al st H1 := by
  have x : Ext T al H T al H1 := h.ext
  refine ⟨fun a t e => ?_, w.len, fun k a m e1 e2 => ?_, w.inj, t, w.wldo⟩
  · obtain ⟨o, e1⟩ := w.tg a t e
    obtain ⟨o', e2, _⟩ := x.wl a o e1
    exact ⟨o', e2⟩
  · obtain ⟨q1, q2⟩ := w.cell k a m e1 e2
    refine ⟨q1, ?_⟩
    cases m with
    | dk kvs =>
      obtain ⟨vs, e3, r⟩ := q2
      refine ⟨vs, ?_, r.mono x.fz ⟨[], by simp⟩⟩
      rcases h with rfl | ⟨P, c, ps, qs, hP, hc, hn, rfl⟩
      · exact e3
      · rw [upd_ne (ne_of_none e3 hc), upd_ne (fun z => by rw [z, hP] at e3; cases e3)]
        exact e3
section
variable {X : Cx} {pins : List (Addr × Obj)} {σ : L2.St} {H : Hp} {s : Shared}
theorem lam_new {T : List (Addr × Str)} {c P : Addr} {params : Arguments} {body : Expr} {scope : Scope} {pos : Pos} {E : Value → Shared → Prop} {Q : Value → Shared → Prop} (I : Inv X pins σ H s) (TB : TabB X.base X.mg c P) (hcode : X.env.code = .ref c)
    (hm : (P, X.env.qual ++ "<lambda>") ∈ T) (hu : ∀ p ∈ T, p.1 = P → p.2 = X.env.qual ++ "<lambda>") (hT : Tabs T H) (hdef : defaultsOf params X.env = ([], [])) (hfree : ∀ y ∈ scope.names, y.2 = .free → ∃ c, X.env.cells.lookup y.1 = some c)
    (h : ∀ (f c' : Addr) (pm ctv : Value) (H1 : Hp) (s' : Shared), Inv X pins σ H1 s' → LamH H H1 (X.env.qual ++ "<lambda>") → Tabs T H1 →
      s'.heap.get? f = some (PySem.W.kla_obj "<lambda>" (X.env.qual ++ "<lambda>") params body scope (cloFrom X.env.cells scope.names []) pm c' ctv) → H1 f = none → f ∉ frs X.stack → H1 c' = some (CodeO c' (X.env.qual ++ "<lambda>")) → Q (.ref f) s') :
    wpAny (model X.prog X.w) X.A (eval (.Lambda params body scope pos) X.env) Q E s := by
  obtain ⟨ps, hP, ht, ha⟩ := hT _ hm
  have bP : s.heap.BuiltinsAt X.mg P := TB.bm.keeps I.bk
  have gP : s.heap.get? P = some { cls := .none, data := .fields ps } := I.hok P _ hP
  have out : ∀ f, s.heap.objs.size ≤ f → f ∉ frs X.stack := fun f hf z => by
    rcases List.mem_cons.mp (I.stkSub _ z) with e | e
    · have h1 := I.lt
      rw [← e] at h1
      exact Nat.lt_irrefl _ (Nat.lt_of_lt_of_le h1 hf)
    · exact I.nofs hf e
  refine PySem.W.kla_eval hdef ?_
  cases hc : codeAmong pos ps.toList with
  | some cv =>
    obtain ⟨c', e, hco⟩ := ha pos cv hc
    subst e
    refine PySem.W.kla_makeFunctionHit (mg := X.mg) (c := c) (P := P) (ps := ps) (closure_ok hfree) I.ok.glob (I.mod.glob.keeps I.bk) hcode (TB.code.keeps I.bk) gP ht hc bP fun ctv h' tk hx hsz => ?_
    exact h h'.objs.size c' ((X.mg "__name__").getD .none) ctv H _ (I.kept fun b o e => Heap.get?_push_of_some _ (hx b o e)) (.inl rfl) hT (Heap.get?_push_size _ rfl) (I.hok.fresh hsz) (out _ hsz) hco
  | none =>
    refine PySem.W.kla_makeFunction (mg := X.mg) (c := c) (P := P) (ps := ps) (closure_ok hfree) I.ok.glob (I.mod.glob.keeps I.bk) hcode (TB.code.keeps I.bk) gP ht hc TB.gP bP fun c' ctv h' tk hx hge hlt hrec htb => ?_
    obtain ⟨c2, oc, vs, t, e2, hoc, hd, hv⟩ := hrec
    cases e2
    have hsz : s.heap.objs.size ≤ h'.objs.size := Nat.le_trans hge (Nat.le_of_lt hlt)
    have nC : H c' = none := I.hok.fresh hge
    have nPc : P ≠ c' := ne_of_none hP nC
    have I1 := inv_table (t' := tk) (more := #[rawInt pos.line, rawInt pos.col, .ref c']) (h' := h'.push (PySem.W.kla_obj "<lambda>" (X.env.qual ++ "<lambda>") params body scope (cloFrom X.env.cells scope.names []) ((X.mg "__name__").getD .none) c' ctv)) I hP
      (fun b o hb e => Heap.get?_push_of_some _ (hx b o hb e)) (Heap.get?_push_of_some _ htb) hge ⟨oc, vs, t, Heap.get?_push_of_some _ hoc, hd, hv⟩
    have keep : ∀ b o, H b = some o → NT o → upd (upd H P (.tbl (ps ++ #[rawInt pos.line, rawInt pos.col, .ref c']))) c' (CodeO c' (X.env.qual ++ "<lambda>")) b = some o := fun b o e n => by
      rw [upd_ne (ne_of_none e nC), upd_ne (fun z => n ps (by rw [z, hP] at e; exact (Option.some.inj e).symm))]
      exact e
    refine h h'.objs.size c' ((X.mg "__name__").getD .none) ctv _ _ I1 (.inr ⟨P, c', ps, _, hP, nC, nPc, rfl⟩) (fun p hp => ?_) (Heap.get?_push_size _ rfl) ?_ (out _ hsz) upd_same
    · obtain ⟨ps', a1, a2, a3⟩ := hT p hp
      by_cases hb : p.1 = P
      · rw [hu p hp hb, hb]
        have eL : (ps ++ #[rawInt pos.line, rawInt pos.col, .ref c']).toList = ps.toList ++ [rawInt pos.line, rawInt pos.col, .ref c'] := by simp
        refine ⟨_, by rw [upd_ne nPc, upd_same], by rw [eL]; exact PySem.TriplesOk_snoc _ _ _ _ ht, fun p' cv hcv => ?_⟩
        rw [eL] at hcv
        rcases among_app _ ht hcv with z | z
        · obtain ⟨c0, e1, e2⟩ := ha p' cv z
          exact ⟨c0, e1, keep _ _ e2 code_nt⟩
        · exact ⟨c', z, upd_same⟩
      · refine ⟨ps', by rw [upd_ne (ne_of_none a1 nC), upd_ne hb]; exact a1, a2, fun p' cv hcv => ?_⟩
        obtain ⟨c0, e1, e2⟩ := a3 p' cv hcv
        exact ⟨c0, e1, keep _ _ e2 code_nt⟩
    · have n1 : h'.objs.size ≠ c' := Nat.ne_of_gt hlt
      have n2 : h'.objs.size ≠ P := Nat.ne_of_gt (Nat.lt_of_lt_of_le (Heap.lt_size gP) hsz)
      rw [upd_ne n1, upd_ne n2]
      exact I.hok.fresh hsz
abbrev tenv (x : Str) (sg : Scope) (s : Shared) (g : Addr) (cdg : Value) : PySem.Env := envOfC x sg s.heap.objs.size g cdg
abbrev tcx (X : Cx) (Ng : List Str) (x : Str) (sg : Scope) (g : Addr) (cdg : Value) (s : Shared) (H : Hp) : Cx := dcx X.prog X.w X.K X.mg X.base Ng x sg g cdg X.A X.stack s H (fun _ _ _ => False)
theorem act_run {Ng : List Str} {qg : Str} {sg : Scope} {g f c' : Addr} {cdg pm ctv : Value} {params : Arguments} {body : Expr} {scope : Scope} {k : Nat} {a : Str} {pn : List (Addr × Obj)} {xe : Value → Shared → Prop} {W : WX} {p1 p2 : Pos} {σZ : L2.St} {HZ : Hp} {Q : VK}
    (I : Inv X pins σ H s) (L : LamS X.env.scope scope) (hf : s.heap.get? f = some (PySem.W.kla_obj "<lambda>" (X.env.qual ++ "<lambda>") params body scope (cloFrom X.env.cells scope.names []) pm c' ctv)) (hfn : H f = none) (hfr : f ∉ frs X.stack)
    (hbind : bindArgs (PySem.W.kla_fn "<lambda>" (X.env.qual ++ "<lambda>") params body scope (cloFrom X.env.cells scope.names []) pm (.ref c') ctv) ⟨[], []⟩ = pure [])
    (tk : Takes ((tcx X Ng qg sg g cdg s H).tr pn xe) W) (hr : Room (k + 1) (X.A.deeper (tenv qg sg s g cdg))) (hN : Ng[0]? = some a) (hv : Vis sg a) (h0 : σZ[0]? = some (some (.ref f))) (hc : HZ c' = some (CodeO c' (X.env.qual ++ "<lambda>")))
    (hbody : ∀ s2 : Shared, Room k ((X.A.deeper (tenv qg sg s g cdg)).deeper (lamEnv X scope s2.heap.objs.size f c')) → RdE (lamCx X (X.A.deeper (tenv qg sg s g cdg)) (tenv qg sg s g cdg :: X.stack) s2 HZ (WE W σZ) scope f c') body σ HZ Q)
    (hd : (a == ("__debug__" : Str)) = false := by decide) (hcd : (a == ("__classdict__" : Str)) = false := by decide) : RdE ((tcx X Ng qg sg g cdg s H).tr pn xe) (.Call (.Name a p1) [] [] p2) σZ HZ Q := by
  intro pinsZ sZ IZ
  refine wpAny_Call_Name_kw (thn ((pe_var (X := (tcx X Ng qg sg g cdg s H).tr pn xe) (pos := p1) (i := 0) hN hv hd hcd).run pinsZ sZ σZ HZ (fun v H1 => v = .ref f ∧ H1 = HZ) IZ ⟨.ref f, h0, rfl, rfl⟩) fun u s1 ⟨v, H1, I1, r1, ev, eH⟩ => ?_)
  subst ev
  rw [eH] at I1
  obtain rfl : u = Value.ref f := r1
  have of1 : s1.heap.get? f = some (PySem.W.kla_obj "<lambda>" (X.env.qual ++ "<lambda>") params body scope (cloFrom X.env.cells scope.names []) pm c' ctv) := I1.base.keep f _ hf hfn hfr (fun z => nomatch (show f ∈ ([] : List Addr) from z))
  have un : Un (frs X.stack) [] H HZ s.heap s1.heap := I1.base
  obtain ⟨⟨oc, vs, t, hoc, hdc, hvc⟩, _, _⟩ := I1.hok c' _ hc
  refine PySem.W.callWith_F0 ⟨_, _, _, _, of1⟩ ?_
  have rc : codeAny (model X.prog X.w) (X.A.deeper (tenv qg sg s g cdg)) (.call (.ref f) ⟨[], []⟩) (CR (L2.CX X.prog X.w) (tenv qg sg s g cdg :: X.stack) X.prog X.w HZ s1 Q (WE W σZ)) s1 := by
    refine PySem.W.kla_callFunE hr.depth of1 rfl L.co L.gen rfl ⟨c', oc, vs, t, rfl, hoc, hdc, hvc⟩ ?_
    rw [hbind]
    refine wpAny_pure (wpAny_newFunctionEnv (fun y hy => (L.own y hy).2) (fun y hy => absurd hy (by simp)) (fun h₁ hns hsb => ⟨I1.nolimit.fresh _ hsb, ?_⟩) L.kind)
    show codeAny _ _ (.expr body (lamEnv X scope s1.heap.objs.size f c')) _ _
    have kp : ∀ b o, s1.heap.get? b = some o → h₁.get? b = some o := fun b o e => hsb.extBut b o (Nat.ne_of_lt (Heap.lt_size e)) (Heap.get?_push_of_some _ e)
    have J := lam_start2 (E := WE W σZ) (tk := s1.toks + ([] : List (Str × Value)).length) (f := f) (c' := c') I L I1.env0 hr.hd un hns kp
    refine PySem.W.kla_codeExpr (wpAny_mono (hbody s1 (hr.deeper _) [] _ J) (fun v s' hq => ?_) fun e s' hq => hq)
    obtain ⟨w', H', J', rv, q⟩ := hq
    exact ⟨w', H', J'.os, J'.bare, J'.base, J'.hok, rv, q⟩
  refine wpAny_call (codeAny_mono rc fun r s' hq => ?_)
  cases r with
  | error e => exact passAt tk σZ pinsZ HZ s1 e s' I1 hq
  | ok fl =>
    cases fl with
    | ret u => exact I1.after hq
    | next => exact False.elim hq
    | brk => exact False.elim hq
    | cont => exact False.elim hq
end
end Pi
namespace Pi
open PySem PySem.Spec PyProof.Rows L2 LamX

theorem frz_any {K : PySem.W.Frag} {TB : List (Addr × Str)} {T0 T : Tg} {al0 al : List Addr} {st : St} {H0 H : Hp} {p : Addr} {l : List (Str × V)} (w : WI K TB T al st H) (x : Ext T0 al0 H0 T al H) (n : H0 p = none) (h : H p = some (.xd l)) :
    ∃ T', Ext T0 al0 H0 T' al H ∧ WI K TB T' al st H ∧ Same (fz T H) (fz T' H) ∧ T' p = some .frz := by
  by_cases hf : T p = some .frz
  · exact ⟨T, x, w, fun _ _ e => e, hf⟩
  · have hw : T p ≠ some .wld := fun z => by
      obtain ⟨k, hk⟩ := w.wldo p z
      have hl : k < st.length := by
        rw [← w.len]
        exact (List.getElem?_eq_some_iff.mp hk).1
      obtain ⟨_, q⟩ := w.cell k p _ hk (List.getElem?_eq_getElem hl)
      cases em : st[k] with
      | dk kvs =>
        rw [em] at q
        obtain ⟨vs, e3, _⟩ := q
        rw [h] at e3
        cases e3
    exact ⟨tset T p .frz, x.retag n .frz, w.tag hf hw h, fz_tset hf, tset_same⟩

section
variable {G : GX} {X : Cx} {pins : List (Addr × Obj)} {σ : L2.St} {H H0 : Hp} {s : Shared}
end
end Pi
namespace Pi
open PySem PySem.Spec PyProof.Rows L2
def enumD (xs : List D) : List D := xs.zipIdx.map fun p => .tup [.int (p.2 : Nat), p.1]
def zipD (xs ys : List D) : List D := (xs.zip ys).map fun p => .tup [p.1, p.2]
theorem enumD_at {xs : List D} {i : Nat} {x : D} (h : (enumD xs)[i]? = some x) : ∃ y, xs[i]? = some y ∧ x = .tup [.int (i : Nat), y] := by
  unfold enumD at h
  rw [List.getElem?_map] at h
  obtain ⟨p, h1, h2⟩ := Option.map_eq_some_iff.mp h
  rw [List.getElem?_zipIdx] at h1
  obtain ⟨y, h3, h4⟩ := Option.map_eq_some_iff.mp h1
  refine ⟨y, h3, ?_⟩
  rw [← h2, ← h4, Nat.zero_add]
theorem enumD_no {xs : List D} {i : Nat} (h : (enumD xs)[i]? = none) : xs.length ≤ i := by
  have := List.getElem?_eq_none_iff.mp h
  unfold enumD at this
  simpa using this
theorem zipD_at {xs ys : List D} {i : Nat} {x : D} (h : (zipD xs ys)[i]? = some x) : ∃ y z, xs[i]? = some y ∧ ys[i]? = some z ∧ x = .tup [y, z] := by
  unfold zipD at h
  rw [List.getElem?_map] at h
  obtain ⟨p, h1, h2⟩ := Option.map_eq_some_iff.mp h
  obtain ⟨h3, h4⟩ := List.getElem?_zip_eq_some.mp h1
  exact ⟨p.1, p.2, h3, h4, h2.symm⟩
theorem zipD_no {xs ys : List D} {i : Nat} (h : (zipD xs ys)[i]? = none) : xs.length ≤ i ∨ ys.length ≤ i := by
  have := List.getElem?_eq_none_iff.mp h
  unfold zipD at this
  rw [List.length_map, List.length_zip] at this
  omega
theorem pair_new {K : PySem.W.Frag} {TB : List (Addr × Str)} {T : Tg} {al : List Addr} {st : St} {H : Hp} {p : Addr} {u v : V} {x y : D} (w : WI K TB T al st H) (n : H p = none) (r1 : Rep K (fz T H) al u x) (r2 : Rep K (fz T H) al v y) :
    Ext T al H (tset T p .frz) al (upd H p (.tup [u, v])) ∧ WI K TB (tset T p .frz) al st (upd H p (.tup [u, v])) ∧ Rep K (fz (tset T p .frz) (upd H p (.tup [u, v]))) al (.ref p) (.tup [x, y]) := by
  have n' := w.free n
  have e : Ext T al H (tset T p .frz) al (upd H p (.tup [u, v])) := Ext.laid n .frz
  exact ⟨e, (w.laid n).tag (by rw [n']; decide) (by rw [n']; decide) upd_same, .tup (fz_of tset_same upd_same) (.cons (r1.ext e) (.cons (r2.ext e) .nil))⟩
section
variable {G : GX} {X : Cx} {W : WX} {H0 : Hp} {a b : Expr} {p pos tpos : Pos} {elts : List Expr} {kk : Nat}
theorem itok_enum {K : PySem.W.Frag} {TB : List (Addr × Str)} {F : Hp} {L : Addr → List V → Prop} {ab : List Addr} {a : Addr} {vs : List V} {xs : List D} (h : SqL K F a vs) (r : RepAll K F ab vs xs) : ItOk K TB F L ab (Ite K a) (enumD xs) := by
  intro T al H st hs _ ha w i
  have h2 : SqL K H a vs := Same.seq fz_same (Same.seq hs h)
  refine ⟨fun x hx => ?_, fun hx => ⟨vs, h2, by rw [r.length]; exact enumD_no (List.getElem?_eq_none_iff.mpr (Nat.le_of_eq hx.symm))⟩⟩
  obtain ⟨y, hy, rfl⟩ := enumD_at hx
  obtain ⟨u, hu, ru⟩ := r.get hy
  refine ⟨⟨vs, u, h2, hu⟩, fun v H3 q => ?_⟩
  obtain ⟨p, z, rfl, n, rfl, q⟩ := q
  have e := q vs h2
  rw [hu] at e
  cases e
  obtain ⟨e1, w1, r1⟩ := pair_new (K := K) (u := .int (i : Nat)) (x := .int (i : Nat)) w n (.int _) (ru.mono hs ha)
  exact ⟨_, e1, w1, r1⟩
def enumO : List D → Option (List D)
  | [.lst xs] => some (enumD xs)
  | _ => none
def zipO : List D → Option (List D)
  | [.lst xs, .lst ys] => some (zipD xs ys)
  | [.tup xs, .tup ys] => some (zipD xs ys)
  | [.lst xs, .tup ys] => some (zipD xs ys)
  | [.tup xs, .lst ys] => some (zipD xs ys)
  | _ => none
def iFun (o : List D → Option (List D)) (f : Env → Mo (List D)) : Env → Mo (List D) := fun r => f r >>= fun ds => Mo.opt (o ds)
theorem pit_enumL {f : Env → Mo (List D)} (hg : Gl X "enumerate") (hm : X.mg "enumerate" = none) (ha : PL G X W H0 [a] f) (hs : starEach [a] X.env = [(false, eval a X.env)] := by rfl) : PIt G X W H0 (.Tuple elts kk tpos) (.Call (.Name "enumerate" p) [a] [] pos) (iFun enumO f) := by
  intro r st σ T al H R S w q
  refine rdI (pi_enum hg hm pa_rd hs) (ha r st σ T al H _ S w (seqP back_I q fun ds st1 vs T1 al1 H1 _ x1 w1 r1 q1 => optP q1 fun z hz q2 => ?_))
  match ds, hz, r1 with
  | [.lst xs], hz, r1 =>
    have ez : enumD xs = z := Option.some.inj hz
    subst ez
    cases r1 with
    | cons ra rb =>
      cases rb
      obtain ⟨l, us, rfl, h1, h2⟩ := rep_lst ra
      exact ⟨l, us, rfl, .inl (.inl (fz_same _ _ h1)), q2 _ T1 al1 H1 .refl w1 (itok_enum (.inl (.inl h1)) h2)⟩
end
end Pi
set_option maxHeartbeats 4000000
namespace PySem
open Sem (wp)
open AutoSeq1 (wpAny_loadPart')
theorem enumT_new (l : Addr) (items : Array Value) (n : Nat) (dct : Option Addr) (sl : Array (Option Value)) :
    Meets (Builtin.«enumerate.__new__» ⟨[.type "enumerate", .ref l], []⟩) (fun _ R s => s.heap.get? l = some { cls := .type "tuple", dict := dct, data := .seq items n, slots := sl } ∧
      R (.ok (.ret (.ref (s.heap.push { cls := .type "tuple_iterator", data := .fields #[.ref l, .int 0 0] }).objs.size)))
        { s with heap := (s.heap.push { cls := .type "tuple_iterator", data := .fields #[.ref l, .int 0 0] }).push { cls := .type "enumerate", data := .fields #[.none, .bool false, .ref s.heap.objs.size, rawInt 0, .none, .none] } }) :=
  .of_wp fun prog w A R s h => by
    obtain ⟨hp, g, d, tk, os⟩ := s
    obtain ⟨hl, h⟩ := h
    have hsub := sub_enumerate
    have hL : Heap.IsTuple (Shared.heap ⟨hp, g, d, tk, os⟩) l items := ⟨_, hl, rfl, n, rfl⟩
    wp_walk using wpAny_loadPart' hl
    refine wpAny_stack_any fun st => wpAny_pure ?_
    split
    · rename_i c _ _ _ _ _
      cases (c == Value.type "enumerate")
      · wp_walk using wpAny_loadPart' hl, wpAny_pyIter_tuple hL
        exact ⟨_, rfl, h⟩
      · wp_walk using wpAny_loadPart' hl, wpAny_pyIter_tuple hL
        exact ⟨_, rfl, h⟩
    · wp_walk using wpAny_loadPart' hl, wpAny_pyIter_tuple hL
      exact ⟨_, rfl, h⟩
section
variable {prog : Program} {w : World} {A : Around} {E : Value → Shared → Prop} {s : Shared}
theorem enumT_call {l : Addr} {items : Array Value} {Q : Value → Shared → Prop} (hL : s.heap.IsTuple l items)
    (h : ∀ h', IsEnum h' (s.heap.objs.size + 1) s.heap.objs.size 0 .none → h'.IsTupleIter s.heap.objs.size l 0 → h'.objs.size = s.heap.objs.size + 2 →
      (∀ b o, s.heap.get? b = some o → h'.get? b = some o) → Q (.ref (s.heap.objs.size + 1)) { s with heap := h' }) :
    wpAny (model prog w) A (call (.type "enumerate") [.ref l]) Q E s := by
  obtain ⟨⟨c, dct, dt, sl⟩, hl, hc, n, hd⟩ := hL
  replace hc : c = .type "tuple" := hc
  replace hd : dt = .seq items n := hd
  subst hc hd
  refine callType_new F.called_enumerate (by decide) (F.typeCall_enumerate_1 _) (F.newCall_enumerate_1 _) (fun obj => F.args_object_init_2 obj _) F.entry_enumerate_new (enumT_new l items n dct sl) ⟨hl, ?_⟩
  have hz : (s.heap.push { cls := .type "tuple_iterator", data := .fields #[.ref l, .int 0 0] }).objs.size = s.heap.objs.size + 1 := Heap.size_push ..
  show _ ∧ _
  rw [hz]
  have he : IsEnum ((s.heap.push { cls := .type "tuple_iterator", data := .fields #[.ref l, .int 0 0] }).push
      { cls := .type "enumerate", data := .fields #[.none, .bool false, .ref s.heap.objs.size, rawInt 0, .none, .none] }) (s.heap.objs.size + 1) s.heap.objs.size 0 .none := by
    have := Heap.get?_push_size (s.heap.push { cls := .type "tuple_iterator", data := .fields #[.ref l, .int 0 0] }) (o := { cls := .type "enumerate", data := .fields #[.none, .bool false, .ref s.heap.objs.size, rawInt 0, .none, .none] }) rfl
    rw [hz] at this
    exact this
  exact ⟨⟨_, he, rfl⟩, h _ he ⟨_, Heap.get?_push_of_some _ (Heap.get?_push_size _ rfl), rfl, rfl⟩ (by rw [Heap.size_push, hz]) fun b o x => Heap.get?_push_of_some _ (Heap.get?_push_of_some _ x)⟩
end
end PySem
namespace Pi
open PySem PySem.Spec PyProof.Rows L2
def IteT (K : PySem.W.Frag) (a : Addr) : It :=
  ⟨fun i H => ∃ (xs : List V) (x : V), SqT K H a xs ∧ xs[i]? = some x, fun i H v H' => ∃ T x, v = .ref T ∧ H T = none ∧ H' = upd H T (.tup [.int (i : Nat), x]) ∧ ∀ xs, SqT K H a xs → xs[i]? = some x, fun i H => ∃ xs : List V, SqT K H a xs ∧ i = xs.length⟩
theorem turn_enumT {P : Program} {w : World} {K : PySem.W.Frag} {elts : List Expr} {kk : Nat} {tpos : Pos} (a e it : Addr) (hat : a ≠ it) (hae : a ≠ e) :
    Turn P w K (.Tuple elts kk tpos) (IteT K a) [e, it] e (fun i h => (∃ old, IsEnum h e it ((i : Nat) : Int) old) ∧ h.IsTupleIter it a i ∧ e ≠ it) where
  mem := by simp
  obj := fun i h st b hb => by
    obtain ⟨⟨old, he⟩, ⟨o, ho, hc, hd⟩, _⟩ := st
    have e' : b = e ∨ b = it := by simpa using hb
    rcases e' with z | z
    · rw [z]
      exact ⟨_, he, fun v q => nomatch q⟩
    · rw [z]
      exact ⟨o, ho, fun v q => by rw [hd] at q; cases q⟩
  keep := fun i h h' st k => let ⟨⟨old, he⟩, hi, hne⟩ := st; ⟨⟨old, k e (by simp) _ he⟩, hi.at fun o q => k it (by simp) o q, hne⟩
  item := by
    intro X hP hw hK hc i pins s σ H E I hf st hg
    subst hP hw hK
    obtain ⟨⟨old, he⟩, hit, hne⟩ := st
    obtain ⟨xs, x, hq, hx⟩ := hg
    obtain ⟨its, rv, p, hz⟩ := I.tuple hq
    obtain ⟨u, hu, ru⟩ := rv.get hx
    have hel : e < s.heap.objs.size := Heap.lt_size he
    have hil : it < s.heap.objs.size := by obtain ⟨_, q, _⟩ := hit; exact Heap.lt_size q
    have pt : s.heap.IsTuple a its.toArray := p
    have hlt : i < its.toArray.size := by
      rw [List.size_toArray]
      exact (List.getElem?_eq_some_iff.mp hu).1
    refine wpAny_pyNext_enum_itemD (St := fun i h => h.IsTupleIter it a i ∧ h.IsTuple a its.toArray) (Draws.tuple (A := X.A.in1) (I.ok.hd hc) it a hat its.toArray) he ⟨hit, pt⟩ hlt hne (by simp [hne, Ne.symm hae]) fun x' h' tk' hx' ho st' hT hsz hk => ?_
    have ex : x' = u := by
      have h1 : its.toArray[i]? = some u := by simpa using hu
      rw [h1] at hx'
      exact (Option.some.inj hx').symm
    subst ex
    refine ⟨_, rfl, wpAny_letOwnedTupleGo_enum (s := { s with heap := h', toks := tk' + 1 }) ho fun h'' he' sb => ?_⟩
    have hT2 : h''.get? s.heap.objs.size = some { cls := .type "tuple", data := .seq #[.int i tk', x'] } := (sb.2 _ (Nat.ne_of_gt hel)).trans hT
    have new : ObjOk X.prog X.w (upd H s.heap.objs.size (.tup [.int (i : Nat), x])) h'' s.heap.objs.size (.tup [.int (i : Nat), x]) :=
      ⟨by show 2 ≤ sizeLine; decide, [.int i tk', x'], .cons ⟨_, rfl⟩ (.cons ru .nil), ⟨_, hT2, rfl, _, rfl⟩⟩
    have I1 : Inv X pins σ (upd H s.heap.objs.size (.tup [.int (i : Nat), x])) { s with heap := h'', toks := tk' + 1 } :=
      I.turnedNew (ch := [e, it]) (fun b ob hb q => (sb.2 b (fun z => hb (by simp [z]))).trans (hk b ob (fun z => hb (by simp [z])) (fun z => hb (by simp [z])) q)) hf (Nat.le_refl _) new
    refine ⟨.ref s.heap.objs.size, _, I1, rfl, ⟨_, x, rfl, I.hok.fresh (Nat.le_refl _), rfl, fun ys hy => by rw [I.tuple_inj hy hq]; exact hx⟩, ⟨⟨x', ?_⟩, st'.1.at fun o q => (sb.2 it (Ne.symm hne)).trans q, hne⟩, fun b hb => ?_⟩
    · have e1 : ((i + 1 : Nat) : Int) = (i : Int) + 1 := by omega
      rw [e1]
      exact he'
    · have hb' : b < s.heap.objs.size := by
        have e' : b = e ∨ b = it := by simpa using hb
        rcases e' with z | z
        · rw [z]
          exact hel
        · rw [z]
          exact hil
      rw [upd_ne (Nat.ne_of_lt hb')]
      exact (hf b hb).1
  done := by
    intro X hP hw hK hc i pins s σ H E I hf st hg
    subst hP hw hK
    obtain ⟨⟨old, he⟩, hit, hne⟩ := st
    obtain ⟨xs, hq, hx⟩ := hg
    obtain ⟨its, rv, p, hz⟩ := I.tuple hq
    obtain ⟨f0, f1, f2, f3, f4, f5⟩ := hf it (by simp)
    have pt : s.heap.IsTuple a its.toArray := p
    have ei : its.toArray.size = i := by
      rw [List.size_toArray, ← rv.length, hx]
    exact wpAny_pyNext_enum_endD (St := fun i h => h.IsTupleIter it a i ∧ h.IsTuple a its.toArray) (Draws.tuple (A := X.A.in1) (I.ok.hd hc) it a hat its.toArray) he ⟨by rw [ei]; exact hit, pt⟩ fun h' eb => ⟨rfl, I.turned (t' := s.toks) (fun b o hb q => eb b o hb q) f0 f1 f3 f4 f5⟩
  self := fun A i s Q E st h => let ⟨⟨_, he⟩, _⟩ := st; wpAny_pyIter_enum he h
section
variable {G : GX} {X : Cx} {W : WX} {H0 : Hp} {a b : Expr} {p pos tpos : Pos} {elts : List Expr} {kk : Nat}
theorem itok_enumT {K : PySem.W.Frag} {TB : List (Addr × Str)} {F : Hp} {L : Addr → List V → Prop} {ab : List Addr} {a : Addr} {vs : List V} {xs : List D} (h : SqT K F a vs) (r : RepAll K F ab vs xs) : ItOk K TB F L ab (IteT K a) (enumD xs) := by
  intro T al H st hs _ ha w i
  have h2 : SqT K H a vs := Same.seqT fz_same (Same.seqT hs h)
  refine ⟨fun x hx => ?_, fun hx => ⟨vs, h2, by rw [r.length, hx]; unfold enumD; simp⟩⟩
  obtain ⟨y, hy, rfl⟩ := enumD_at hx
  obtain ⟨u, hu, ru⟩ := r.get hy
  refine ⟨⟨vs, u, h2, hu⟩, fun v H3 q => ?_⟩
  obtain ⟨p, z, rfl, n, rfl, q⟩ := q
  have e := q vs h2
  rw [hu] at e
  cases e
  obtain ⟨e1, w1, r1⟩ := pair_new (K := K) (u := .int (i : Nat)) (x := .int (i : Nat)) w n (.int _) (ru.mono hs ha)
  exact ⟨_, e1, w1, r1⟩
def iEnumT (K : PySem.W.Frag) (ta : TA) : TI := fun σ H R => ta σ H fun vs H1 => ∃ a xs, vs = [.ref a] ∧ SqT K H1 a xs ∧ R (IteT K a) H1
theorem pi_enumT {ta : TA} (hg : Gl X "enumerate") (hm : X.mg "enumerate" = none) (ha : PA X [a] ta) (hs : starEach [a] X.env = [(false, eval a X.env)] := by rfl) : PI X (.Tuple elts kk tpos) (.Call (.Name "enumerate" p) [a] [] pos) (iEnumT X.K ta) := by
  refine ⟨fun pins s σ H R I h => ?_⟩
  refine Call_ (ld_blt I hg hm boot_enumerate (PyProof.Rows.callWith_type1 (thn (ha.run pos pins s σ H _ I h) fun us s1 ⟨vs, H1, I1, r1, q1⟩ => ?_) hs rfl))
  obtain ⟨a, xs, ex, hq, q⟩ := q1
  subst ex
  cases r1 with
  | cons r rr =>
    cases rr
    cases r
    obtain ⟨its, rv, p', hz⟩ := I1.tuple hq
    have pt : s1.heap.IsTuple a its.toArray := p'
    have hlt : a < s1.heap.objs.size := by
      obtain ⟨o, ho, _⟩ := pt
      exact Heap.lt_size ho
    refine PySem.enumT_call pt fun h' he hit hsz hk => wpAny_pyIter_enum he ?_
    have I2 : Inv X pins σ H1 { s1 with heap := h' } := I1.kept (t' := s1.toks) hk
    refine ⟨s1.heap.objs.size + 1, [s1.heap.objs.size + 1, s1.heap.objs.size], _, _, H1, rfl, I2, turn_enumT a (s1.heap.objs.size + 1) s1.heap.objs.size (Nat.ne_of_lt hlt) (Nat.ne_of_lt (Nat.lt_succ_of_lt hlt)), ⟨⟨.none, he⟩, hit, Nat.succ_ne_self _⟩, fun b hb => ?_, q⟩
    have e' : b = s1.heap.objs.size + 1 ∨ b = s1.heap.objs.size := by simpa using hb
    have hle : s1.heap.objs.size ≤ b := by
      rcases e' with z | z
      · rw [z]
        exact Nat.le_add_right _ _
      · rw [z]
        exact Nat.le_refl _
    exact I1.fpOk hle (I1.hok.fresh hle)
def enumT : List D → Option (List D)
  | [.tup xs] => some (enumD xs)
  | _ => none
theorem pit_enumT {f : Env → Mo (List D)} (hg : Gl X "enumerate") (hm : X.mg "enumerate" = none) (ha : PL G X W H0 [a] f) (hs : starEach [a] X.env = [(false, eval a X.env)] := by rfl) : PIt G X W H0 (.Tuple elts kk tpos) (.Call (.Name "enumerate" p) [a] [] pos) (iFun enumT f) := by
  intro r st σ T al H R S w q
  refine rdI (pi_enumT hg hm pa_rd hs) (ha r st σ T al H _ S w (seqP back_I q fun ds st1 vs T1 al1 H1 _ x1 w1 r1 q1 => optP q1 fun z hz q2 => ?_))
  match ds, hz, r1 with
  | [.tup xs], hz, r1 =>
    have ez : enumD xs = z := Option.some.inj hz
    subst ez
    cases r1 with
    | cons ra rb =>
      cases rb
      obtain ⟨l, us, rfl, h1, h2⟩ := rep_tup ra
      exact ⟨l, us, rfl, Same.seqT fz_same h1, q2 _ T1 al1 H1 .refl w1 (itok_enumT h1 h2)⟩
end
end Pi
namespace Pi
open PySem PySem.Spec PyProof.Rows L2
def reprOk (x : D) : Bool := x.still && (x.py.showable && (Nat.ble x.py.depth 190 && Nat.ble x.py.shown.length 16777216))
def oRepr : List D → Option D
  | [x] => match reprOk x with
    | true => some (.str x.py.shown)
    | false => none
  | _ => none
theorem reprOk_ok {x : D} (h : reprOk x = true) : x.still = true ∧ x.py.showable = true ∧ x.py.depth ≤ 190 ∧ x.py.shown.length ≤ sizeLine := by
  unfold reprOk at h
  obtain ⟨h1, h⟩ := Bool.and_eq_true_iff.mp h
  obtain ⟨h2, h⟩ := Bool.and_eq_true_iff.mp h
  obtain ⟨h3, h4⟩ := Bool.and_eq_true_iff.mp h
  exact ⟨h1, h2, Nat.le_of_ble_eq_true h3, by rw [line_is]; exact Nat.le_of_ble_eq_true h4⟩
section
variable {G : GX} {X : Cx} {W : WX} {H0 : Hp}
def rRepr (K : PySem.W.Frag) : List V → Hp → VK → Prop := fun vs H Q => ∃ (v : V) (x : D) (T : Tg) (al : List Addr), vs = [v] ∧ RepH K T al H v x ∧ reprOk x = true ∧ Q (.str x.py.shown) H
theorem call_repr (ok : COk X) (ns : NoSys X.K) : CallR X (.builtin "repr") (rRepr X.K) := by
  intro pins s σ H vs us Q I r h
  obtain ⟨v, x, T, al, rfl, rx, hx, q⟩ := h
  obtain ⟨h1, h2, h3, h4⟩ := reprOk_ok hx
  obtain ⟨u, rfl, ru⟩ := r.one
  obtain ⟨as, rd, na⟩ := rx.reads I ok ns h1 ru
  have fin : ∀ (y : Str), y = x.py.shown → ∀ (h' : Heap) (t : Tok) (tk : Nat), (∀ b o, s.heap.get? b = some o → h'.get? b = some o) → EP X pins σ Q (.str y t) { s with heap := h', toks := tk } := fun y e h' t tk k => ⟨.str y, H, I.kept k, ⟨t, rfl⟩, by rw [e]; exact q⟩
  have hu := ok.un
  cases x with
  | non =>
    have e := rep_non rx
    subst e
    cases ru
    exact PySem.P.repr_of_none (fin _ (by rw [D.py, PyData.shown]) _ _ _ fun _ _ z => z)
  | bl b =>
    have e := rep_bl rx
    subst e
    cases ru
    exact PySem.P.repr_of_bool (fin _ (by rw [D.py, PyData.shown]) _ _ _ fun _ _ z => z)
  | int i =>
    have e := rep_int rx
    subst e
    obtain ⟨t, rfl⟩ := ru
    exact PySem.P.repr_of_int (by rw [D.py, PyData.showable] at h2; exact of_decide_eq_true h2) (fin _ (by rw [D.py, PyData.shown]) _ _ _ fun _ _ z => z)
  | str y =>
    have e := rep_str rx
    subst e
    obtain ⟨t, rfl⟩ := ru
    exact PySem.P.repr_of_str (fin _ (by rw [D.py, PyData.shown]) _ _ _ fun _ _ z => z) (by rw [D.py, PyData.shown] at h4; exact h4)
  | tup ds =>
    obtain ⟨a, ws, rfl, _⟩ := rep_tup rx
    cases ru
    exact repr_of_reads' rd h2 (fun _ => na) ok.gd (by omega) (fun _ _ z => z) (fun h' t tk k => fin _ rfl h' t tk k) h4
  | lst ds =>
    obtain ⟨a, ws, rfl, _⟩ := rx
    cases ru
    exact repr_of_reads' rd h2 (fun _ => na) ok.gd (by omega) (fun _ _ z => z) (fun h' t tk k => fin _ rfl h' t tk k) h4
  | dct kvs =>
    obtain ⟨a, ws, rfl, _⟩ := rep_dct rx
    cases ru
    exact repr_of_reads' rd h2 (fun _ => na) ok.gd (by omega) (fun _ _ z => z) (fun h' t tk k => fin _ rfl h' t tk k) h4
  | ktp ds =>
    obtain ⟨a, ws, rfl, _⟩ := rep_ktp rx
    cases ru
    exact repr_of_reads' rd h2 (fun _ => na) ok.gd (by omega) (fun _ _ z => z) (fun h' t tk k => fin _ rfl h' t tk k) h4
  | obj n => exact absurd h1 (by simp [D.still])
  | exc n f y => exact absurd h1 (by simp [D.still])
  | kls y => exact absurd h1 (by simp [D.still])
  | dcx y => exact absurd h1 (by simp [D.still])
  | bex n y => exact absurd h1 (by simp [D.still])
theorem cal_repr : CalR G X (rRepr X.K) oRepr := by
  intro ds z hz st T al H vs Q w r q
  match ds, hz, r with
  | [x], hz, r =>
    obtain ⟨v, rfl, rx⟩ := paired1 r
    have hz' : (match reprOk x with
      | true => some (D.str x.py.shown)
      | false => none) = some z := hz
    cases e : reprOk x with
    | false => rw [e] at hz'; cases hz'
    | true =>
      rw [e] at hz'
      have ez := Option.some.inj hz'
      subst ez
      exact ⟨v, x, T, al, rfl, rx, e, q _ T al H .refl w (.str _)⟩
end
end Pi
namespace Pi
open PySem PySem.Spec PyProof.Rows L2

end Pi
namespace Pi
open PySem PySem.Spec PyProof.Rows L2

def getT (k : List Key) : List (List Key × D) → Option D
  | [] => none
  | (j, x) :: r => match decide (j = k) with
    | true => some x
    | false => getT k r
section
variable {K : PySem.W.Frag} {F : Hp} {al : List Addr}
end

section
variable {G : GX} {X : Cx} {E : XK} {W : WX} {H0 : Hp} {B : Bs} {pos p p1 : Pos} {e k : Expr} {x : Str}
theorem SI.ownT {r : Env} {σ : L2.St} {st : St} {T : Tg} {al : List Addr} {H : Hp} {i : Nat} {xs ys : List (List Key × D)} {l : Addr} {vs us : List (List Key × V)} (S : SI G X H0 B r σ st T al H) (hi : r[i]? = some (some (.odT xs))) (hs : σ[i]? = some (some (.ref l))) (ht : T l = some .own) (h0 : H0 l = none) (hl : H l = some (.dT vs)) (rs : KvT X.K (fz T H) al us ys) :
    SI G X H0 B (r.set i (some (.odT ys))) σ st T al (upd H l (.dT us)) := by
  have nf : T l ≠ some .frz := by rw [ht]; decide
  have nwl : T l ≠ some .wld := by rw [ht]; decide
  have hsame : Same (fz T H) (fz T (upd H l (.dT us))) := fz_upd nf
  have rs' : KvT X.K (fz T (upd H l (.dT us))) al us ys := paired_imp rs fun a b z => ⟨z.1, Rep.mono hsame ⟨[], by simp⟩ z.2⟩
  refine ⟨⟨by rw [List.length_set]; exact S.sl.len, fun j y hj => ?_, fun j k y z u njk hj hk oj ok hu => ?_⟩, S.wi.upd nf nwl hl (fun ps z => by cases z) (fun f z => by cases z), S.ex.upd0 h0, fun a o e => hsame a o (S.fb a o e), S.ab⟩
  · rcases set_get hj with ⟨rfl, e⟩ | ⟨ne, hj⟩
    · have e' : y = .odT ys := Option.some.inj e
      subst e'
      exact ⟨_, hs, l, us, rfl, ht, h0, upd_same, rs'⟩
    · obtain ⟨u, u1, u2⟩ := S.sl.at_ j y hj
      refine ⟨u, u1, ?_⟩
      cases y with
      | d x => exact Rep.mono hsame ⟨[], by simp⟩ u2
      | own zs =>
        obtain ⟨l2, vs2, rfl, ht2, h02, hl2, rs2⟩ := u2
        have nl : l2 ≠ l := fun z => S.sl.ap j i _ _ _ ne hj hi rfl rfl u1 (by rw [z]; exact hs)
        exact ⟨l2, vs2, rfl, ht2, h02, by rw [upd_ne nl]; exact hl2, rs2.mono hsame ⟨[], by simp⟩⟩
      | odT kvs =>
        obtain ⟨l2, vs2, rfl, ht2, h02, hl2, rs2⟩ := u2
        have nl : l2 ≠ l := fun z => S.sl.ap j i _ _ _ ne hj hi rfl rfl u1 (by rw [z]; exact hs)
        exact ⟨l2, vs2, rfl, ht2, h02, by rw [upd_ne nl]; exact hl2, paired_imp rs2 fun a b z => ⟨z.1, Rep.mono hsame ⟨[], by simp⟩ z.2⟩⟩
      | brw zs =>
        obtain ⟨l2, vs2, rfl, ht2, h02, hl2, rs2⟩ := u2
        have nl : l2 ≠ l := fun z => by rw [z, h0] at h02; cases h02
        exact ⟨l2, vs2, rfl, ht2, h02, by rw [upd_ne nl]; exact hl2, rs2.mono hsame ⟨[], by simp⟩⟩
  · rcases set_get hj with ⟨rfl, e⟩ | ⟨ne, hj⟩
    · have e' : y = .odT ys := Option.some.inj e
      subst e'
      rcases set_get hk with ⟨z1, _⟩ | ⟨ne2, hk⟩
      · exact absurd z1.symm njk
      · exact S.sl.ap j k _ _ u njk hi hk rfl ok hu
    · rcases set_get hk with ⟨e1, e⟩ | ⟨ne2, hk⟩
      · rw [e1] at njk ⊢
        exact S.sl.ap j i _ _ u njk hj hi oj rfl hu
      · exact S.sl.ap j k _ _ u njk hj hk oj ok hu
end
end Pi
namespace Pi
open PySem PySem.Spec PyProof.Rows L2

section
variable {G : GX} {X : Cx} {W : WX} {H0 : Hp} {pos p p1 : Pos} {x : Str}
end
end Pi
namespace Pi
open PySem PySem.Spec PyProof.Rows L2

section
variable {G : GX} {X : Cx} {W : WX} {H0 : Hp} {e d : Expr} {p pos kp : Pos}
end
end Pi
namespace Pi
open PySem PySem.Spec PyProof.Rows L2 HT

section
variable {prog : Program} {w : World} {A : Around} {E : Value → Shared → Prop} {s : Shared}
end
section
variable {prog : Program} {w : World} {A : Around} {E : Value → Shared → Prop} {s : Shared}
end
section
variable {G : GX} {X : Cx} {W : WX} {H0 : Hp} {a e : Expr} {lo hi : Option Expr} {pos p2 : Pos}
end
end Pi
namespace Pi
open PySem PySem.Spec PyProof.Rows L2
section
variable {G : GX} {X : Cx} {E : XK} {H0 : Hp} {tg iter elt : Expr} {ifs : List Expr} {scope : Scope} {pos spos py : Pos} {y : Str} {i : Nat}
variable {f : Env → Mo (List D)} {b : D → Env → Option Env} {is : List Nat} {gt : TG} {ct : Env → Mo Bool} {fe : Env → Mo D}
theorem pst_setLc (own : List (Str × Nat)) (hc : X.calm = true) (hN : X.N.Nodup) (hi : PIt G X (wE E) H0 tg iter f) (ok : BlkOk X.N X.env.scope scope own) (hgs : TgOk X.K H0 b is gt)
    (hg : ∀ (s0 : Shared) (H1 : Hp) (C : Addr) (cl : List (Str × Addr)) (fp : List Addr), PG (bk X scope s0 H1 C cl fp) tg gt)
    (ht : ∀ (s0 : Shared) (H1 : Hp) (C : Addr) (cl : List (Str × Addr)) (fp : List Addr), PBs G (bk X scope s0 H1 C cl fp) H0 ifs ct)
    (he : ∀ (s0 : Shared) (H1 : Hp) (C : Addr) (cl : List (Str × Addr)) (fp : List Addr), PD G (bk X scope s0 H1 C cl fp) (wE fun _ _ _ => False) H0 elt fe)
    (hy : X.N[i]? = some y := by rfl) (hyl : X.env.scope.names.lookup y = some .local := by rfl) (hk : X.env.scope.kind = .function := by rfl) (hl : (py.line == pos.line) = true := by rfl)
    (ha : (scope.names.any fun (n, k) => n == y && (k == .local || k == .cell)) = false := by rfl)
    (hv : ∀ j ∈ is, j ∈ own.map (·.2) := by decide) (hs : ∀ x, foldedSetIterable iter X.env x = pure x := by intro _; rfl) :
    PSt G X E H0 (.Assign [.Name y py] (.ListComp elt [⟨tg, iter, ifs, 0⟩] scope pos) spos) (sSet i (nFz (nLc f b (own.map (·.2)) ct fe))) := by
  intro B r s0 σ T al H Dn S q
  refine rdS1 (ps_setLc hc hN hy hyl (sw_true hk hyl hl ha) pi_rd ok hg pts_tT pe_tE hs) ?_
  show tLc _ _ _ _ _ σ H (fun x H1 => gName i x σ H1 Dn.nx)
  refine lc_read hi hgs hv ht he S.sl S.wi ?_
  have q' : PostS G X E H0 B Dn ((nLc f b (own.map (·.2)) ct fe r >>= fun xs => (pure (Fl.nx (r.set i (some (.d (.lst xs))))) : Mo Fl)) s0) := by
    have h : (sSet i (nFz (nLc f b (own.map (·.2)) ct fe)) r) s0 = (nLc f b (own.map (·.2)) ct fe r >>= fun xs => (pure (Fl.nx (r.set i (some (.d (.lst xs))))) : Mo Fl)) s0 := by
      show (((nLc f b (own.map (·.2)) ct fe r) >>= fun xs => pure (Pi.D.lst xs)) >>= fun x => (pure (Fl.nx (r.set i (some (.d x)))) : Mo Fl)) s0 = _
      rw [bind_ap, bind_ap, bind_ap]
      cases nLc f b (own.map (·.2)) ct fe r s0 <;> rfl
    rw [← h]
    exact q
  refine seqS S q' fun xs st1 v T1 al1 H1 x1 S1 r1 q1 => ?_
  obtain ⟨p, vs, rfl, n0, tp, hp, rs⟩ := r1
  have nz : H0 p = none := S.ex.free n0
  refine q1 _ (tset T1 p .frz) al1 H1 (S1.tag nz (by rw [tp]; decide) (by rw [tp]; decide) hp ?_)
  refine (S1.sl.retag tp).setD (.lst (fz_of tset_same hp) (rs.mono (fz_tset (by rw [tp]; decide)) ⟨[], by simp⟩))
end
end Pi
namespace Pi
open PySem PySem.Spec PyProof.Rows L2
mutual
def cst : Expr → Option D
  | .Constant (.int i) _ _ => some (.int i)
  | .Constant (.bool i) _ _ => some (.bl i)
  | .Constant (.str i) _ _ => some (.str i)
  | .Constant .none _ _ => some .non
  | .Tuple es _ _ => match cstAll es with
    | some ds => (match Nat.ble ds.length 16777216 with
      | true => some (.tup ds)
      | false => none)
    | none => none
  | .List es _ => match cstAll es with
    | some ds => (match Nat.ble ds.length 16777216 with
      | true => some (.lst ds)
      | false => none)
    | none => none
  | _ => none
def cstAll : List Expr → Option (List D)
  | [] => some []
  | e :: es => match cst e, cstAll es with
    | some d, some ds => some (d :: ds)
    | _, _ => none
end
def nC (ds : List D) : Env → Mo (List D) := fun _ => pure ds
section
variable {G : GX} {X : Cx} {W : WX} {H0 : Hp}
theorem lim_le {b : Type} {n : Nat} {x : b} (h : Nat.ble n 16777216 = true) : lim n x = Mo.ret x := by
  unfold lim
  rw [h]
theorem nC_tup {ds : List D} (h : Nat.ble ds.length 16777216 = true) : eTup (nC ds) = eC (.tup ds) := by
  funext r st
  show ((Mo.ret ds : Mo (List D)) >>= fun xs => lim xs.length (D.tup xs)) st = _
  rw [bind_ap]
  show lim ds.length (D.tup ds) st = _
  rw [lim_le h]
  rfl
theorem nC_lst {ds : List D} (h : Nat.ble ds.length 16777216 = true) : nLst (nC ds) = nC ds := by
  funext r st
  show ((Mo.ret ds : Mo (List D)) >>= fun xs => lim xs.length xs) st = _
  rw [bind_ap]
  show lim ds.length ds st = _
  rw [lim_le h]
  rfl
theorem nC_fz {ds : List D} : nFz (nC ds) = eC (.lst ds) := rfl
theorem nC_cons {d : D} {ds : List D} : aCons (eC d) (nC ds) = nC (d :: ds) := rfl
mutual
theorem pd_cst : ∀ (e : Expr) {d : D}, cst e = some d → PD G X W H0 e (eC d)
  | .Constant (.int i) _ _, d, h => by cases Option.some.inj h; exact pd_int
  | .Constant (.bool i) _ _, d, h => by cases Option.some.inj h; exact pd_bl
  | .Constant (.str i) _ _, d, h => by cases Option.some.inj h; exact pd_str
  | .Constant .none _ _, d, h => by cases Option.some.inj h; exact pd_non
  | .Tuple es _ _, d, h => by
    unfold cst at h
    cases e : cstAll es with
    | none => rw [e] at h; cases h
    | some ds =>
      rw [e] at h
      dsimp only at h
      cases l : Nat.ble ds.length 16777216 with
      | false => rw [l] at h; cases h
      | true =>
        rw [l] at h
        cases Option.some.inj h
        rw [← nC_tup l]
        exact pd_tup (pl_cst es e)
  | .List es _, d, h => by
    unfold cst at h
    cases e : cstAll es with
    | none => rw [e] at h; cases h
    | some ds =>
      rw [e] at h
      dsimp only at h
      cases l : Nat.ble ds.length 16777216 with
      | false => rw [l] at h; cases h
      | true =>
        rw [l] at h
        cases Option.some.inj h
        rw [← nC_fz, ← nC_lst l]
        exact PN.toD (pn_lst (pl_cst es e))
  | .Constant (.float _) _ _, d, h => by cases h
  | .Constant (.complex _ _) _ _, d, h => by cases h
  | .Constant (.bytes _) _ _, d, h => by cases h
  | .Constant .ellipsis _ _, d, h => by cases h
  | .BoolOp _ _ _, d, h => by cases h
  | .NamedExpr _ _ _, d, h => by cases h
  | .BinOp _ _ _ _, d, h => by cases h
  | .UnaryOp _ _ _, d, h => by cases h
  | .Lambda _ _ _ _, d, h => by cases h
  | .IfExp _ _ _ _, d, h => by cases h
  | .Dict _ _ _, d, h => by cases h
  | .Set _ _ _, d, h => by cases h
  | .ListComp _ _ _ _, d, h => by cases h
  | .SetComp _ _ _ _, d, h => by cases h
  | .DictComp _ _ _ _ _, d, h => by cases h
  | .GeneratorExp _ _ _ _, d, h => by cases h
  | .Await _ _, d, h => by cases h
  | .Yield _ _, d, h => by cases h
  | .YieldFrom _ _, d, h => by cases h
  | .Compare _ _ _ _, d, h => by cases h
  | .Call _ _ _ _, d, h => by cases h
  | .FormattedValue _ _ _ _, d, h => by cases h
  | .JoinedStr _ _, d, h => by cases h
  | .Attribute _ _ _, d, h => by cases h
  | .Subscript _ _ _, d, h => by cases h
  | .Starred _ _, d, h => by cases h
  | .Name _ _, d, h => by cases h
  | .Slice _ _ _ _, d, h => by cases h
theorem pl_cst : ∀ (es : List Expr) {ds : List D}, cstAll es = some ds → PL G X W H0 es (nC ds)
  | [], ds, h => by cases Option.some.inj h; exact pl_nil
  | e :: es, ds, h => by
    unfold cstAll at h
    cases e1 : cst e with
    | none => rw [e1] at h; cases h
    | some d =>
      cases e2 : cstAll es with
      | none => rw [e1, e2] at h; cases h
      | some ds2 =>
        rw [e1, e2] at h
        cases Option.some.inj h
        rw [← nC_cons]
        refine pl_cons (pd_cst e e1) (pl_cst es e2) ?_
        cases e <;> first | rfl | (cases e1)
end
end
end Pi
namespace Pi
open PySem PySem.Spec PyProof.Rows L2 LamX

structure FK (G : GX) (P : Program) (w : World) (K : PySem.W.Frag) (mg : Str → Option Value) (base : Heap) (x : Str) (n : Nat) (m : List D → Mo D) (k : Nat) : Prop where
  ex : ∃ (f : Addr) (fd : FuncData) (ps : List Str), ps.length = n ∧ FnG P w K mg base k f fd ps (spM G K n m) ∧ mg x = some (.ref f) ∧ PySem.W.keepIn K (.ref f) = true ∧ Binds K fd ps []
theorem FK.kn {G : GX} {X : Cx} {x : Str} {n k : Nat} {m : List D → Mo D} (h : FK G X.prog X.w X.K X.mg X.base x n m k) (hr : Room k X.A) : Knows G X x n m := by
  obtain ⟨f, fd, ps, h1, h2, h3, h4, h5⟩ := h.ex
  exact ⟨k, f, fd, ps, h1, h2, hr, h3, h4, h5⟩
section
variable {G : GX} {P : Program} {w : World} {K : PySem.W.Frag} {mg : Str → Option Value} {base : Heap} {k : Nat} {f : Addr} {fd : FuncData} {N ps : List Str} {x : Str} {st : Stmt}
theorem fg_of {n : Nat} {g : Stm} {m : List D → Mo D} (F : FunD K x x (defArgs st) (defBody st) (defScope st) [] [] f fd) (hs : ∃ o, K.lookup sysModules = some o) (S : FnScope N ps (defScope st)) (hn : ps.length = n) (hM : ∀ ds, ds.length = n → m ds = runD N.length g ds)
    (hb : ∀ (cdv : Value) (A : Around) (outer : List PySem.Env) (s : Shared) (H : Hp) (E : XK), fd.code = cdv → Room k (dcx P w K mg base N x (defScope st) f cdv A outer s H E).A → COk (dcx P w K mg base N x (defScope st) f cdv A outer s H E) → PBl G (dcx P w K mg base N x (defScope st) f cdv A outer s H E) E H (defBody st) g) :
    FnG P w K mg base (k + 1) f fd ps (spM G K n m) := by
  refine ⟨fun vs H Q E h => by rw [hn]; exact h.1, fun A outer s H args us vs Q E hr hg e0 hbi r hsp => ?_⟩
  obtain ⟨oc, od, dV, kV, doc, pm, an, cdv, ct, osl, rfl, lk, hcd, _, _⟩ := F.ex
  have hl0 := hsp.1
  refine LamX.run_ofS lk hcd S hr e0 hbi r (by rw [hn]; exact hl0) fun hr' => ⟨_, pss_rd, ?_⟩
  obtain ⟨hl, T, al, s0, ds, wi, rs, q⟩ := hsp
  refine hb cdv A outer s H E rfl hr' ⟨hg, (by have h := hr'.un; omega : (A.deeper (envOfC x (defScope st) s.heap.objs.size f cdv)).units + 200 < cLine), hs⟩ ⟨T, al, fz T H, al⟩ _ s0 _ T al H _ (start_si wi (sl_start rs)) ?_
  rw [hM ds (by rw [← rs.length, hl])] at q
  unfold runD at q
  rw [bind_ap] at q
  cases e : g (ds.map (fun x => some (SV.d x)) ++ List.replicate (N.length - ds.length) none) s0 with
  | ok fl st1 =>
    rw [e] at q
    cases fl with
    | nx r => exact fun σ T' al' H' S' => q .non T' al' H' S'.ex S'.wi .non
    | ret x => exact fun v T' al' H' ex wi' rx => q v T' al' H' ex wi' rx
    | brk r => exact q.elim
    | ct r => exact q.elim
  | err c x st1 =>
    rw [e] at q
    exact q
  | bad =>
    rw [e] at q
    exact q
theorem fk_of {n : Nat} {g : Stm} {m : List D → Mo D} (F : FunD K x x (defArgs st) (defBody st) (defScope st) [] [] f fd) (hm : mg x = some (.ref f)) (hs : ∃ o, K.lookup sysModules = some o) (S : FnScope N ps (defScope st)) (hn : ps.length = n) (hM : ∀ ds, ds.length = n → m ds = runD N.length g ds)
    (bd : ∀ (kV doc pm : Value) (an : Option Addr) (cdv ct : Value) (us : List Value), us.length = ps.length → bindArgs (PySem.W.fnOf x x (defArgs st) (defBody st) (defScope st) .none kV doc pm an cdv ct) ⟨us, []⟩ = pure (ps.zip us))
    (hb : ∀ (cdv : Value) (A : Around) (outer : List PySem.Env) (s : Shared) (H : Hp) (E : XK), fd.code = cdv → Room k (dcx P w K mg base N x (defScope st) f cdv A outer s H E).A → COk (dcx P w K mg base N x (defScope st) f cdv A outer s H E) → PBl G (dcx P w K mg base N x (defScope st) f cdv A outer s H E) E H (defBody st) g) :
    FK G P w K mg base x n m (k + 1) :=
  ⟨f, fd, ps, hn, fg_of F hs S hn hM hb, hm, F.kp, F.bindsN bd⟩
end

structure XF (G : GX) (P : Program) (w : World) (K : PySem.W.Frag) (mg : Str → Option Value) (base : Heap) (x : Str) (c : Nat) : Prop where
  ex : ∃ (fI : Addr) (fd : FuncData) (ps : List Str), OexC K (G.cls c) ∧ PySem.W.findIn K (.ref (G.cls c)) (G.fld c) = some none ∧ PySem.W.findIn K (.ref (G.cls c)) "__init__" = some (some (.ref fI)) ∧ PySem.W.typeIn K (.ref fI) = some (.type "function") ∧
    FnOk P w K mg base (L2.CX P w) 1 fI fd ps (spI K (G.cls c) (G.fld c)) ∧ Binds K fd ps [] ∧ mg x = some (.ref (G.cls c))
theorem XF.kn {G : GX} {X : Cx} {x : Str} {c : Nat} (h : XF G X.prog X.w X.K X.mg X.base x c) (hr : Room 2 X.A) : XCls G X x c := by
  obtain ⟨fI, fd, ps, h1, h2, h3, h4, h5, h6, h7⟩ := h.ex
  exact ⟨1, fI, fd, ps, h1, h2, h3, h4, h5, hr, h6, h7⟩
section
variable {G : GX} {X : Cx} {W : WX} {H0 : Hp} {a : Expr} {p p2 pos : Pos}
end

structure LamK (G : GX) (X : Cx) : Prop where
  ex : ∃ c P, TabB X.base X.mg c P ∧ X.env.code = .ref c ∧ (P, X.env.qual ++ "<lambda>") ∈ G.TB ∧ ∀ p ∈ G.TB, p.1 = P → p.2 = X.env.qual ++ "<lambda>"
section
variable {G : GX} {X : Cx} {W : WX} {H0 : Hp} {p lpos pos : Pos}
end
end Pi
namespace Pi
open PySem PySem.Spec PyProof.Rows L2
section
variable {G : GX} {X : Cx} {E : XK} {H0 : Hp} {sts : List Stmt}
end
def sPar3 (i j l : Nat) (f : Env → Mo (List D)) : Stm := fun r => f r >>= fun xs => match xs with
  | [x, y, z] => pure (.nx (((r.set i (some (.d x))).set j (some (.d y))).set l (some (.d z))))
  | _ => Mo.bad
structure Blt (mg : Str → Option Value) : Prop where
  isinstance : mg "isinstance" = none
  int : mg "int" = none
  bool : mg "bool" = none
  str : mg "str" = none
  tuple : mg "tuple" = none
  list : mg "list" = none
  dict : mg "dict" = none
  len : mg "len" = none
  sum : mg "sum" = none
  all : mg "all" = none
  any : mg "any" = none
  repr : mg "repr" = none
  min : mg "min" = none
  max : mg "max" = none
  range : mg "range" = none
  enumerate : mg "enumerate" = none
  zip : mg "zip" = none
  sorted : mg "sorted" = none
  set : mg "set" = none
  reversed : mg "reversed" = none
def bltNames : List Str := ["isinstance", "int", "bool", "str", "tuple", "list", "dict", "len", "sum", "all", "any", "repr", "min", "max", "range", "enumerate", "zip", "sorted", "set", "reversed"]
theorem blt_of {mg : Str → Option Value} (h : ∀ x ∈ bltNames, mg x = none) : Blt mg := by
  constructor <;> exact h _ (by decide)
theorem okb {X : Cx} {scope : Scope} {s0 : Shared} {H1 : Hp} {C : Addr} {cl : List (Str × Addr)} {fp : List Addr} (ok : COk X) : COk (bk X scope s0 H1 C cl fp) := ⟨ok.gd, ok.un, ok.sys⟩
theorem lam_ok {X : Cx} {A : Around} {outer : List PySem.Env} {s2 : Shared} {H : Hp} {E : XK} {scope : Scope} {f c9 : Addr} {k : Nat} (gd : A.guards = some []) (rm : Room k (LamX.lamCx X A outer s2 H E scope f c9).A) (hs : ∃ o, X.K.lookup sysModules = some o) : COk (LamX.lamCx X A outer s2 H E scope f c9) :=
  ⟨gd, by have h := rm.un; omega, hs⟩
def tblOf (y : Str) (ns : List Str) : Str → Option Bool := fun n => if n ∈ ns then some (decide (n = y)) else none
end Pi
namespace Pi
open PySem PySem.Spec PyProof.Rows L2 LamX
def both {a b : Bool} (h : (a && b) = true) : a = true ∧ b = true := Bool.and_eq_true_iff.mp h

mutual
def vOk (K : PySem.W.Frag) : D → Value → Bool
  | .non, u => decide (u = .none)
  | .bl b, u => decide (u = .bool b)
  | .int i, u => (match u with
    | .int j _ => decide (j = i)
    | _ => false)
  | .str x, u => (match u with
    | .str y _ => decide (y = x)
    | _ => false)
  | .ktp ds, u => (match u with
    | .ref a => (match K.lookup a with
      | some ⟨.type c, _, .seq its _, _⟩ => decide (c = "tuple") && (Nat.ble its.size 16777216 && vAll K ds its.toList)
      | _ => false)
    | _ => false)
  | _, _ => false
def vAll (K : PySem.W.Frag) : List D → List Value → Bool
  | [], [] => true
  | d :: ds, u :: us => vOk K d u && vAll K ds us
  | _, _ => false
end
mutual
theorem vOk_ok {K : PySem.W.Frag} : ∀ (d : D) (u : Value), vOk K d u = true → ∃ v, RelV v u ∧ ∀ (F : Hp) (al : List Addr), Rep K F al v d
  | .non, u, h => by
    unfold vOk at h
    have h' : u = .none := of_decide_eq_true h
    exact ⟨.non, h', fun F al => .non⟩
  | .bl b, u, h => by
    unfold vOk at h
    have h' : u = .bool b := of_decide_eq_true h
    exact ⟨.bl b, h', fun F al => .bl b⟩
  | .int i, u, h => by
    unfold vOk at h
    cases u with
    | int j t => exact ⟨.int i, ⟨t, by rw [of_decide_eq_true h]⟩, fun F al => .int i⟩
    | _ => cases h
  | .str x, u, h => by
    unfold vOk at h
    cases u with
    | str j t => exact ⟨.str x, ⟨t, by rw [of_decide_eq_true h]⟩, fun F al => .str x⟩
    | _ => cases h
  | .ktp ds, u, h => by
    unfold vOk at h
    cases u with
    | ref a =>
      dsimp only at h
      cases q : K.lookup a with
      | none => rw [q] at h; cases h
      | some o =>
        obtain ⟨oc, od, dt, osl⟩ := o
        rw [q] at h
        cases oc with
        | type c =>
          cases dt with
          | seq its n =>
            obtain ⟨h1, h⟩ := both h
            obtain ⟨h2, h3⟩ := both h
            obtain ⟨vs, hv, hr⟩ := vAll_ok ds its.toList h3
            refine ⟨.ref a, rfl, fun F al => .ktp (xs := vs) (.inr ⟨_, its, n, q, ?_, rfl, by rw [line_is]; exact Nat.le_of_ble_eq_true h2, hv⟩) (hr F al)⟩
            rw [of_decide_eq_true h1]
          | _ => cases h
        | _ => cases h
    | _ => cases h
  | .tup _, u, h => by unfold vOk at h; cases h
  | .lst _, u, h => by unfold vOk at h; cases h
  | .dct _, u, h => by unfold vOk at h; cases h
  | .obj _, u, h => by unfold vOk at h; cases h
  | .exc _ _ _, u, h => by unfold vOk at h; cases h
  | .kls _, u, h => by unfold vOk at h; cases h
  | .dcx _, u, h => by unfold vOk at h; cases h
  | .bex _ _, u, h => by unfold vOk at h; cases h
theorem vAll_ok {K : PySem.W.Frag} : ∀ (ds : List D) (us : List Value), vAll K ds us = true → ∃ vs, Vals vs us ∧ ∀ (F : Hp) (al : List Addr), RepAll K F al vs ds
  | [], [], _ => ⟨[], .nil, fun F al => .nil⟩
  | d :: ds, u :: us, h => by
    unfold vAll at h
    obtain ⟨h1, h2⟩ := both h
    obtain ⟨v, a1, a2⟩ := vOk_ok d u h1
    obtain ⟨vs, b1, b2⟩ := vAll_ok ds us h2
    exact ⟨v :: vs, .cons a1 b1, fun F al => .cons (a2 F al) (b2 F al)⟩
  | [], _ :: _, h => by unfold vAll at h; cases h
  | _ :: _, [], h => by unfold vAll at h; cases h
end
structure GlC (K : PySem.W.Frag) (mg : Str → Option Value) (x : Str) (d : D) : Prop where
  ex : ∃ (v : V) (u : Value), mg x = some u ∧ RelV v u ∧ ∀ (F : Hp) (al : List Addr), Rep K F al v d
def glcB (K : PySem.W.Frag) (x : Str) (d : D) : Bool := match PySem.W.nsIn K mainGlobals x with
  | some (some u) => vOk K d u
  | _ => false
theorem glc_of {K : PySem.W.Frag} {h : Heap} {mg : Str → Option Value} {x : Str} {d : D} (X : K.In h) (G : h.Ns mainGlobals mg) (c : glcB K x d = true) : GlC K mg x d := by
  unfold glcB at c
  cases e : PySem.W.nsIn K mainGlobals x with
  | none => rw [e] at c; cases c
  | some o =>
    cases o with
    | none => rw [e] at c; cases c
    | some u =>
      rw [e] at c
      obtain ⟨v, h1, h2⟩ := vOk_ok d u c
      exact ⟨v, u, PySem.W.mg_of X G e, h1, h2⟩

def xcB (K : PySem.W.Frag) (C : Addr) : Bool :=
  decide (PySem.W.findIn K (.ref C) "__getattribute__" = some (some (.builtin "BaseException.__getattribute__"))) && (decide (PySem.W.findIn K (.ref C) "__getattr__" = some none) && (decide (PySem.W.subIn K (.ref C) (.type "BaseException") = some true) && (PySem.W.hasDictIn K C &&
    (decide (PySem.W.findIn K (.ref C) "__class__" = some (some (.builtin "object.__class__"))) && (decide (PySem.W.specialIn K (.builtin "object.__class__") "__get__" = some (some (.builtin "getset_descriptor.__get__"))) && (decide (PySem.W.takesIn K (.builtin "object.__class__") = some true) &&
      decide (PySem.W.mroIn K C (.type "object") = some true)))))))
theorem xcB_ok {K : PySem.W.Frag} {C : Addr} (h : xcB K C = true) : PySem.W.XcOk K C ∧ XfC K C := by
  obtain ⟨h1, h⟩ := both h
  obtain ⟨h2, h⟩ := both h
  obtain ⟨h3, h⟩ := both h
  obtain ⟨h4, h⟩ := both h
  obtain ⟨h5, h⟩ := both h
  obtain ⟨h6, h⟩ := both h
  obtain ⟨h7, h8⟩ := both h
  exact ⟨⟨of_decide_eq_true h1, of_decide_eq_true h2, of_decide_eq_true h3, h4, of_decide_eq_true h5, of_decide_eq_true h6, of_decide_eq_true h7, of_decide_eq_true h8⟩, ⟨of_decide_eq_true h1, of_decide_eq_true h2, of_decide_eq_true h3, h4⟩⟩
def oclB (K : PySem.W.Frag) (C : Addr) : Bool := match K.lookup C with
  | some ⟨.type t, _, .cls cd, sl⟩ => decide (t = "type") && (cd.hasDict && (!cd.hasDel && ((match cd.mro with
    | .ref C' :: bm => decide (C' = C) && PySem.HandSPX.refsVE bm
    | _ => false) && (match sl.toList with
    | [_, _, _, _, some (.builtin n), _] => decide (n = "ValueError.__new__")
    | _ => false))))
  | _ => false
theorem oclB_ok {K : PySem.W.Frag} {C : Addr} (h : oclB K C = true) : ∃ nm q N bs bm sn sub ab col dd k0 k1 k2 k3 k5, K.lookup C = some (excClassObj nm q C N bs bm true sn sub ab col dd k0 k1 k2 k3 k5 "ValueError.__new__") ∧ PySem.HandSPX.refsVE bm = true := by
  unfold oclB at h
  cases e : K.lookup C with
  | none => rw [e] at h; cases h
  | some o =>
    obtain ⟨oc, od, dt, sl⟩ := o
    rw [e] at h
    cases oc with
    | type t =>
      cases dt with
      | cls cd =>
        obtain ⟨nm, bs, mro, N, q, hd, sn, sub, ab, col, hdl⟩ := cd
        obtain ⟨h1, h⟩ := both h
        obtain ⟨h2, h⟩ := both h
        obtain ⟨h3, h⟩ := both h
        obtain ⟨h4, h5⟩ := both h
        have e1 : t = "type" := of_decide_eq_true h1
        have e2 : hd = true := h2
        have e3 : hdl = false := by simpa using h3
        subst e1 e2 e3
        split at h4
        · rename_i C' bm em
          obtain ⟨h6, h7⟩ := both h4
          have e4 : C' = C := of_decide_eq_true h6
          subst e4
          have em' : mro = .ref C' :: bm := em
          subst em'
          split at h5
          · rename_i k0 k1 k2 k3 n k5 es
            have e5 : n = "ValueError.__new__" := of_decide_eq_true h5
            subst e5
            have es2 : sl = #[k0, k1, k2, k3, some (.builtin "ValueError.__new__"), k5] := by
              apply Array.toList_inj.mp
              rw [es]
            subst es2
            exact ⟨nm, q, N, bs, bm, sn, sub, ab, col, od, k0, k1, k2, k3, k5, rfl, h7⟩
          · cases h5
        · cases h4
      | _ => cases h
    | _ => cases h
def oexB (K : PySem.W.Frag) (C : Addr) : Bool := oclB K C && (decide (PySem.W.findIn K (.ref C) "__setattr__" = some (some (.builtin "object.__setattr__"))) && (decide (PySem.W.subIn K (.ref C) (.type "BaseException") = some true) && (decide (PySem.W.typeIn K (.ref C) = some (.type "type")) && PySem.W.keepIn K (.ref C))))
theorem oexB_ok {K : PySem.W.Frag} {C : Addr} (h : oexB K C = true) : OexC K C := by
  obtain ⟨h1, h⟩ := both h
  obtain ⟨h2, h⟩ := both h
  obtain ⟨h3, h⟩ := both h
  obtain ⟨h4, h5⟩ := both h
  exact ⟨oclB_ok h1, of_decide_eq_true h2, of_decide_eq_true h3, of_decide_eq_true h4, h5⟩
def raisB (K : PySem.W.Frag) (x f : Str) : Bool := oexB K (He.ga K x) && (decide (PySem.W.findIn K (.ref (He.ga K x)) f = some none) && (decide (PySem.W.findIn K (.ref (He.ga K x)) "__init__" = some (some (.ref (He.ma K (He.ga K x) "__init__")))) && decide (PySem.W.typeIn K (.ref (He.ma K (He.ga K x) "__init__")) = some (.type "function"))))
def kinB (K : PySem.W.Frag) (ns fs : List Str) : Bool := ns.all fun n => xcB K (He.ga K n) && ((fs.all fun g => decide (PySem.W.findIn K (.ref (He.ga K n)) g = some none)) && ns.all fun y => decide (PySem.W.kitOne K (.ref (He.ga K n)) (.ref (He.ga K y)) = some (decide (n = y))))
section
variable {K : PySem.W.Frag} {mg : Str → Option Value} {ns fs : List Str}
theorem xat_of (h : kinB K ns fs = true) {g : Str} (hg : g ∈ fs) : XatOk K g fun n => decide (n ∈ ns) := fun n e => by
  have hn : n ∈ ns := of_decide_eq_true e
  obtain ⟨h1, h2⟩ := both (List.all_eq_true.mp h n hn)
  obtain ⟨h3, h4⟩ := both h2
  exact ⟨(xcB_ok h1).2, of_decide_eq_true (List.all_eq_true.mp h3 g hg)⟩
variable {G : GX} {P : Program} {w : World} {base : Heap} {x f y qual : Str} {c : Nat} {params : Arguments} {scope : Scope} {p1 p2 p3 p4 : Pos} {fd : FuncData}
theorem xf_of (h : raisB K x f = true) (hc : G.cls c = He.ga K x) (hf : G.fld c = f) (hm : mg x = some (.ref (He.ga K x))) (F : FunD K "__init__" qual params (initB f y p1 p2 p3 p4) scope [] [] (He.ma K (He.ga K x) "__init__") fd) (S : FnScope ["self", y] ["self", y] scope)
    (h0 : scope.names.lookup ("self" : Str) = some NameKind.local) (h1 : scope.names.lookup y = some NameKind.local) (hd : (y == ("__debug__" : Str)) = false) (hcd : (y == ("__classdict__" : Str)) = false) (hs : ∀ (cdv : Value) (a b : Addr), swapsWith (.Name y p3) (some (.Attribute (.Name "self" p1) f p2)) p4.line (envOfC qual scope a b cdv) = pure false)
    (bd : ∀ (kV doc pm : Value) (an : Option Addr) (cdv ct : Value) (us : List Value), us.length = (["self", y] : List Str).length → bindArgs (PySem.W.fnOf "__init__" qual params (initB f y p1 p2 p3 p4) scope .none kV doc pm an cdv ct) ⟨us, []⟩ = pure ((["self", y] : List Str).zip us)) : XF G P w K mg base x c := by
  obtain ⟨a1, h'⟩ := both h
  obtain ⟨a2, h'⟩ := both h'
  obtain ⟨a3, a4⟩ := both h'
  refine ⟨_, fd, ["self", y], by rw [hc]; exact oexB_ok a1, by rw [hc, hf]; exact of_decide_eq_true a2, by rw [hc]; exact of_decide_eq_true a3, of_decide_eq_true a4, ?_, F.bindsN bd, by rw [hc]; exact hm⟩
  rw [hc, hf]
  exact init_ok (k := 0) F S h0 h1 hd hcd fun cdv a => hs cdv a _
end

def tabsOk (K : PySem.W.Frag) (ls : List Str) : Bool := ls.all fun x => decide (mainGlobals ≠ (He.cT K (x, none)).2) && ls.all fun y => decide ((He.cT K (x, none)).2 = (He.cT K (y, none)).2 → x = y)
def tbsOf (K : PySem.W.Frag) (ls : List Str) : List (Addr × Str) := ls.map fun x => ((He.cT K (x, none)).2, (x ++ ".<locals>.") ++ "<lambda>")
theorem lamK_mk {G : GX} {X : Cx} {q : Str} {cv : Value} {bs : Heap} {mg : Str → Option Value} (hq : X.env.qual = q) (hc : X.env.code = cv) (hb : X.base = bs) (hm : X.mg = mg) (h : ∃ c P, TabB bs mg c P ∧ cv = .ref c ∧ (P, q ++ "<lambda>") ∈ G.TB ∧ ∀ p ∈ G.TB, p.1 = P → p.2 = q ++ "<lambda>") : LamK G X := by
  subst hq hc hb hm
  exact ⟨h⟩
theorem lamK_of {K : PySem.W.Frag} {G : GX} {P : Program} {w : World} {mg : Str → Option Value} {base : Heap} {N : List Str} {x : Str} {st : Stmt} {fd : FuncData} {cdv : Value} {A : Around} {outer : List PySem.Env} {s : Shared} {H : Hp} {E : XK} {ls : List Str}
    (hG : G.TB = tbsOf K ls) (hx : x ∈ ls) (F : FunD K x x (defArgs st) (defBody st) (defScope st) [] [] (He.fAd K (x, none)) fd) (e : fd.code = cdv) (tb : TabB base mg (He.cT K (x, none)).1 (He.cT K (x, none)).2) (ok : tabsOk K ls = true) : LamK G (dcx P w K mg base N x (defScope st) (He.fAd K (x, none)) cdv A outer s H E) := by
  obtain ⟨oc, od, dV, kV, doc, pm, an, cdv', ct, osl, e1, lk, hcd, _, _⟩ := F.ex
  have e2 : cdv' = cdv := by rw [← e, e1]
  subst e2
  obtain ⟨c, e3⟩ := He.codeIn_ref hcd
  have e4 : He.codeOf K (x, none) = c := He.codeOf_eq lk (by rw [e, e3])
  have e5 : (He.cT K (x, none)).1 = c := e4
  generalize (He.cT K (x, none)).1 = c1 at e5 tb
  subst e5
  have m1 : ((He.cT K (x, none)).2, (x ++ ".<locals>.") ++ "<lambda>") ∈ G.TB := by
    rw [hG]
    exact List.mem_map.mpr ⟨x, hx, rfl⟩
  have m2 : ∀ p ∈ G.TB, p.1 = (He.cT K (x, none)).2 → p.2 = (x ++ ".<locals>.") ++ "<lambda>" := fun p hp hq => by
    rw [hG] at hp
    obtain ⟨y, hy, e5⟩ := List.mem_map.mp hp
    subst e5
    have q := (both (List.all_eq_true.mp ok x hx)).2
    have q2 := of_decide_eq_true (List.all_eq_true.mp q y hy)
    have e6 : x = y := q2 hq.symm
    rw [← e6]
  exact lamK_mk (q := x ++ ".<locals>.") rfl rfl rfl rfl ⟨_, _, tb, e3, m1, m2⟩

def sysB (K : PySem.W.Frag) : Bool := match K.lookup sysModules with
  | some o => decide (o.cls ≠ .type "list")
  | none => false
theorem sysB_ok {K : PySem.W.Frag} (h : sysB K = true) : (∃ o, K.lookup sysModules = some o) ∧ NoSys K := by
  unfold sysB at h
  cases e : K.lookup sysModules with
  | none => rw [e] at h; cases h
  | some o =>
    rw [e] at h
    refine ⟨⟨o, rfl⟩, ⟨fun o' e' => ?_⟩⟩
    rw [e] at e'
    cases e'
    exact of_decide_eq_true h
structure SaysP (fa : List He.Fa) (fn : List He.DefD) (tf : List He.Defn) (ex : PySem.W.Frag → Bool) (h : Heap) (K : PySem.W.Frag) : Prop where
  d : He.SaysD fa fn K
  more : ex K = true
  hd : ∀ p ∈ tf, PySem.W.codeHdIn K (He.cT K p).1 (He.cT K p).2 = true
  out : ∀ p ∈ tf, K.lookup (He.cT K p).2 = none
  empty : ∀ p ∈ tf, h.get? (He.cT K p).2 = some { cls := .none, data := .fields #[] }
abbrev AlP : Type := He.AlD × Bool
def valP (fn : List He.DefD) : AlP := (He.valD fn, true)
end Pi
namespace Pi
open PySem PySem.Spec PyProof.Rows L2 LamX

def lawH (K : PySem.W.Frag) (tl : List Addr) (a : Addr) (o : Obj) (xs : List V) : Hp := fun b =>
  if b ∈ tl then some (.tbl #[]) else if b = a ∧ K.lookup a = none then some (.frz o (.lst xs)) else none
section
variable {K : PySem.W.Frag} {tl : List Addr} {a : Addr} {o : Obj} {xs : List V}
theorem lawH_tab {b : Addr} (h : b ∈ tl) : lawH K tl a o xs b = some (.tbl #[]) := if_pos h
theorem lawH_cases {b : Addr} {u : HO} (h : lawH K tl a o xs b = some u) : (b ∈ tl ∧ u = .tbl #[]) ∨ (b ∉ tl ∧ b = a ∧ K.lookup a = none ∧ u = .frz o (.lst xs)) := by
  unfold lawH at h
  by_cases m : b ∈ tl
  · rw [if_pos m] at h
    exact .inl ⟨m, (Option.some.inj h).symm⟩
  · rw [if_neg m] at h
    by_cases z : b = a ∧ K.lookup a = none
    · rw [if_pos z] at h
      exact .inr ⟨m, z.1, z.2, (Option.some.inj h).symm⟩
    · rw [if_neg z] at h
      cases h
theorem lawH_none {b : Addr} (m : b ∉ tl) (z : b = a → K.lookup a ≠ none) : lawH K tl a o xs b = none := by
  unfold lawH
  rw [if_neg m, if_neg fun q => z q.1 q.2]
end
abbrev scrO (vs : List Value) : Obj := { cls := .type "list", data := .seq vs.toArray }
abbrev tabO : Obj := { cls := .none, data := .fields #[] }
theorem law_go {P : Program} {w : World} {K : PySem.W.Frag} {mg mb : Str → Option Value} {k : Nat} {fa a : Addr} {cs : List (Addr × Addr)} {fd : FuncData} {x : Str} {sp : Sp} {s1 : Shared} {vs : List Value} {ns : List Int}
    (inK : K.In s1.heap) (gl : s1.heap.Ns mainGlobals mg) (bl : s1.heap.Ns builtinsNs mb) (bb : ∀ y : Str, y ≠ "__name__" → mb y = bootBuiltins y) (lim0 : s1.heap.NoLimit) (gs : s1.gens = #[])
    (tabs : ∀ p ∈ cs, s1.heap.get? p.2 = some tabO) (tabK : ∀ p ∈ cs, K.lookup p.2 = none) (heads : ∀ p ∈ cs, PySem.W.CodeHd s1.heap p.1 p.2)
    (bmod : ∃ (m : Addr) (om : Obj), mg "__builtins__" = some (.ref m) ∧ m ≠ builtinsNs ∧ s1.heap.get? m = some om ∧ om.cls = .type "module" ∧ om.dict = some builtinsNs ∧ om.data = .plain)
    (scr : s1.heap.get? a = some (scrO vs)) (nums : IntsAre vs ns) (short : ns.length ≤ sizeLine) (room : Room k callerA)
    (fn : ∀ base : Heap, K.In base → base.Ns mainGlobals mg → (∀ p ∈ cs, TabB base mg p.1 p.2) → FnG P w K mg base k fa fd [x] sp) (bind : ∀ (s : Shared) (u : Value), BindsTo s fd ⟨[u], []⟩ [(x, u)])
    (hsp : SqL K (lawH K (cs.map Prod.snd) a (scrO vs) (ns.map V.int)) a (ns.map V.int) → sp [.ref a] (lawH K (cs.map Prod.snd) a (scrO vs) (ns.map V.int)) (fun v _ => v = .bl true) fun _ _ _ => False) :
    codeAny (model P w) callerA (.call (.ref fa) ⟨[.ref a], []⟩) (fun r s2 => r = .ok (.ret (.bool true)) ∧ OldK s1.heap s2.heap ∧ s2.os = s1.os ∧ AllBare s2.gens) s1 := by
  have rel : Vals (ns.map V.int) vs := vals_ints nums
  have cnt : vs.length = ns.length := nums.length
  have tabOf : ∀ {b : Addr}, b ∈ cs.map Prod.snd → ∃ p ∈ cs, p.2 = b := fun hb => by
    obtain ⟨p, hp, e⟩ := List.mem_map.mp hb
    exact ⟨p, hp, e⟩
  have isTab : ∀ {b : Addr}, b ∈ cs.map Prod.snd → s1.heap.get? b = some tabO := fun hb => by
    obtain ⟨p, hp, rfl⟩ := tabOf hb
    exact tabs p hp
  have aOut : a ∉ cs.map Prod.snd := fun z => by
    have q := (isTab z).symm.trans scr
    cases q
  generalize hH : lawH K (cs.map Prod.snd) a (scrO vs) (ns.map V.int) = H at hsp
  -- what the heap tracks there
  have ok : HOk P w H s1.heap := fun b u e => by
    rw [← hH] at e
    rcases lawH_cases e with ⟨hb, rfl⟩ | ⟨_, rfl, _, rfl⟩
    · exact isTab hb
    · exact ⟨scr, by rw [List.length_map]; exact short, vs, _, rel, scr⟩
  have seen : SqL K H a (ns.map V.int) := by
    cases e : K.lookup a with
    | none =>
      refine .inl (.inr ⟨scrO vs, ?_⟩)
      rw [← hH]
      unfold lawH
      rw [if_neg aOut, if_pos ⟨rfl, e⟩]
    | some u =>
      have eu : some (scrO vs) = some u := scr.symm.trans (inK a u e)
      refine .inr ⟨scrO vs, vs.toArray, 0, by rw [eu]; exact e, rfl, rfl, rfl, ?_, by simpa using rel⟩
      rw [List.size_toArray, cnt]
      exact short
  -- what it leaves alone
  have alone : ∀ {b : Addr} {u : Obj}, s1.heap.get? b = some u → u ≠ tabO → (b = a → K.lookup a ≠ none) → H b = none := fun {b u} e n1 n2 => by
    rw [← hH]
    refine lawH_none (fun m => n1 ?_) n2
    exact Option.some.inj (e.symm.trans (isTab m))
  have notScr : ∀ {b : Addr} {u : Obj}, s1.heap.get? b = some u → (∀ l m, u.data ≠ .seq l m) → b = a → K.lookup a ≠ none := fun {b u} e n z => by
    rw [z] at e
    have q : scrO vs = u := Option.some.inj (scr.symm.trans e)
    exact absurd (show u.data = _ from by rw [← q]) (n vs.toArray 0)
  have ofDict : ∀ {b : Addr} {u : Obj} {es : Array DictEntry} {ep : Nat}, s1.heap.get? b = some u → u.data = .dict es ep → H b = none := fun {b u es ep} e d =>
    alone e (fun z => by rw [z] at d; cases d) (notScr e fun l m z => by rw [d] at z; cases z)
  have nsOf : ∀ {b : Addr} {m : Str → Option Value}, s1.heap.Ns b m → (hidT s1.heap H).Ns b m := by
    rintro b m ⟨u, es, ep, h1, h2, h3⟩
    exact ⟨u, es, ep, hidT_get h1 (ofDict h1 h2), h2, h3⟩
  have inB : K.In (hidT s1.heap H) := fun b u e => by
    refine hidT_get (inK b u e) ?_
    rw [← hH]
    refine lawH_none (fun m => ?_) fun z => ?_
    · obtain ⟨p, hp, rfl⟩ := tabOf m
      rw [tabK p hp] at e
      cases e
    · rw [← z, e]
      exact Option.some_ne_none u
  obtain ⟨lm, l1, l2⟩ := lim0
  have md : L2.Mod K mg (hidT s1.heap H) := { kin := inB, glob := nsOf gl, blt := ⟨mb, nsOf bl, bb⟩, nolimit := ⟨lm, nsOf l1, l2⟩ }
  have tb : ∀ p ∈ cs, TabB (hidT s1.heap H) mg p.1 p.2 := fun p hp => by
    obtain ⟨u, us, file, tf, flags, tg, inF, text, tt, c1, c2, c3, c4, c5, c6, c7, c8, c9, c10⟩ := heads p hp
    obtain ⟨m, om, m1, m2, m3, m4, m5, m6⟩ := bmod
    obtain ⟨ug, eg, pg, g1, g2, _⟩ := id gl
    have tp := tabs p hp
    have plain : H m = none := alone m3 (fun z => by rw [z] at m6; cases m6) (notScr m3 fun l j z => by rw [m6] at z; cases z)
    have hc : H p.1 = none := alone c1 (fun z => by
      rw [z] at c3
      cases c3
      simp at c4) (notScr c1 fun l j z => by rw [c3] at z; cases z)
    refine { code := ⟨u, us, file, tf, flags, tg, inF, text, tt, hidT_get c1 hc, c2, c3, c4, c5, c6, c7, c8, c9, c10⟩, bm := ⟨m, om, m1, m2, fun z => ?_, fun z => ?_, hidT_get m3 plain, m4, m5, m6⟩, gP := fun z => ?_ }
    · rw [z] at m3
      cases m3.symm.trans g1
      rw [m6] at g2
      cases g2
    · rw [z] at m3
      cases m3.symm.trans tp
      cases m6
    · rw [z] at g1
      cases g1.symm.trans tp
      cases g2
  have env : Env0 P w K mg (hidT s1.heap H) callerA [] s1 H :=
    { frames := rfl, mod := md, bs := fun b u e => of_hidT e, bsz := Nat.le_of_eq (hidT_size _ _), funs := trivial, frf := fun b hb => (nomatch (show b ∈ ([] : List Addr) from hb)), hok := ok, bare := .of_eq gs }
  refine codeAny_mono ((fn _ inB (nsOf gl) tb).run callerA [] s1 H ⟨[.ref a], []⟩ [.ref a] [.ref a] _ _ room rfl env (bind s1 (.ref a)) (.cons rfl .nil) (hsp seen)) fun r s2 hr => ?_
  cases r with
  | error e =>
    obtain ⟨_, _, _, _, _, _, _, _, _, _, _, _, z⟩ := hr
    exact z.elim
  | ok fl =>
    cases fl with
    | next => exact False.elim hr
    | brk => exact False.elim hr
    | cont => exact False.elim hr
    | ret u =>
      obtain ⟨v, H2, o1, o2, un, ok2, rv, ev⟩ := hr
      have ev' : v = .bl true := ev
      rw [ev'] at rv
      have eu : u = .bool true := rv
      -- a table may have grown, all else is as it was
      have same : ∀ b q, b ∉ cs.map Prod.snd → s1.heap.get? b = some q → s2.heap.get? b = some q := fun b q nb e => by
        cases hb : H b with
        | none => exact un.keep b q e hb (by intro z; cases z) (by intro z; cases z)
        | some t =>
          have hb' := hb
          rw [← hH] at hb'
          rcases lawH_cases hb' with ⟨m, _⟩ | ⟨_, rfl, _, rfl⟩
          · exact absurd m nb
          · have z := (ok2 _ _ (un.frzs _ _ _ hb)).1
            rw [scr] at e
            rw [← Option.some.inj e]
            exact z
      have more : ∀ p ∈ cs, ∃ ws : Array Value, s2.heap.get? p.2 = some { cls := .none, data := .fields ws } := fun p hp => by
        have hp2 : H p.2 = some (.tbl #[]) := by
          rw [← hH]
          exact lawH_tab (List.mem_map.mpr ⟨p, hp, rfl⟩)
        obtain ⟨ws, z⟩ := un.tbls p.2 #[] hp2
        exact ⟨#[] ++ ws, ok2 _ _ z⟩
      refine ⟨by rw [eu], { old := fun b q e => ?_, there := fun b q e => ?_ }, o1, o2⟩
      · by_cases m : b ∈ cs.map Prod.snd
        · obtain ⟨p, hp, rfl⟩ := tabOf m
          obtain ⟨ws, hw⟩ := more p hp
          have eq : q = tabO := Option.some.inj (e.symm.trans (tabs p hp))
          subst eq
          exact .inr (.inl ⟨((heads p hp).tab (tabs p hp)).isCodeTable, rfl, #[], ws, rfl, by rw [Array.empty_append]; exact hw⟩)
        · exact .inl (same b q m e)
      · by_cases m : b ∈ cs.map Prod.snd
        · obtain ⟨p, hp, rfl⟩ := tabOf m
          exact ⟨_, (more p hp).choose_spec⟩
        · exact ⟨q, same b q m e⟩
def LawG (l : PySem.W.OpenLaw) (w : World) (K : PySem.W.Frag) (k n : Nat) (x : Str) (mg : Str → Option Value) (fa : Addr) (h : Heap) : Prop :=
  ∃ (fd : FuncData) (cs : List (Addr × Addr)) (sp : Sp), (∀ p ∈ cs, h.get? p.2 = some tabO) ∧ (∀ p ∈ cs, K.lookup p.2 = none) ∧ (∀ p ∈ cs, PySem.W.CodeHd h p.1 p.2) ∧ (∀ (s : Shared) (u : Value), BindsTo s fd ⟨[u], []⟩ [(x, u)]) ∧
    (∀ (a : Addr) (vs : List Value) (ns : List Int), ns.length ≤ n → (∀ z ∈ ns, Builtin.Int.intBits z ≤ 1048576) → SqL K (lawH K (cs.map Prod.snd) a (scrO vs) (ns.map V.int)) a (ns.map V.int) → sp [.ref a] (lawH K (cs.map Prod.snd) a (scrO vs) (ns.map V.int)) (fun v _ => v = .bl true) fun _ _ _ => False) ∧
    ∀ base : Heap, K.In base → base.Ns mainGlobals mg → (∀ p ∈ cs, TabB base mg p.1 p.2) → FnG l.prog w K mg base k fa fd [x] sp
theorem walkG {l : PySem.W.OpenLaw} {n k : Nat} {q : Program} {loose : List Str} {XP : (Str → Option Value) → Heap → Prop} {YP : World → Heap → Prop} {d : DefRec} {x : Str}
    (most : l.most = some n) (most2 : n ≤ sizeLine) (nod : d.params.defaults = []) (room : Room k callerA)
    (at_ : ∀ (w : World) (mg : Str → Option Value) (fa : Addr) (h : Heap), YP w h → h.Ns mainGlobals mg → mg d.name = some (.ref fa) → ∃ K : PySem.W.Frag, K.In h ∧ LawG l w K k n x mg fa h) :
    PySem.W.WalkO q loose XP YP l.row.toRowW d [] (fun f vs => PySem.call f vs) := by
  refine Att.attach_callB most nod fun w s0 s1 mg mb fa o pm cd doc a vs ns G Y _ _ _ hmg hobj hints hlen hbits hgs => ?_
  obtain ⟨K, inK, fd, cs, sp, h1, h2, h3, h4, h5, h6⟩ := at_ w mg fa _ Y G.T.g hmg
  exact law_go inK G.T.g G.T.b G.T.builtins G.T.nolimit hgs h1 h2 h3 G.T.bmain hobj hints (Nat.le_trans hlen most2) room h6 h4 (h5 a vs ns hlen hbits)
end Pi
namespace Pi
open PySem PySem.Spec PyProof.Rows L2 LamX

def clsBody (st : Stmt) : List Stmt := match st with
  | .ClassDef _ _ _ b _ _ _ _ _ _ _ => b
  | _ => []
def methOf (st : Stmt) : Stmt := (clsBody st).getD 0 (.Pass ⟨0, 0, 0, 0⟩)
theorem reps_ints {K : PySem.W.Frag} {F : Hp} {al : List Addr} : ∀ ns : List Int, RepAll K F al (ns.map V.int) (ns.map D.int)
  | [] => .nil
  | n :: ns => .cons (.int n) (reps_ints ns)
theorem law_sp {G : GX} {K : PySem.W.Frag} {ls : List Str} {ns : List Int} {a : Addr} {vs : List Value} {m : List D → Mo D} (hTB : G.TB = tbsOf K ls) (hm : ∃ st', m [.kls (ns.map .int)] [] = .ok (.bl true) st')
    (hS : SqL K (lawH K ((ls.map fun x => He.cT K (x, none)).map Prod.snd) a (scrO vs) (ns.map V.int)) a (ns.map V.int)) :
    spM G K 1 m [.ref a] (lawH K ((ls.map fun x => He.cT K (x, none)).map Prod.snd) a (scrO vs) (ns.map V.int)) (fun v _ => v = .bl true) fun _ _ _ => False := by
  generalize hH : lawH K ((ls.map fun x => He.cT K (x, none)).map Prod.snd) a (scrO vs) (ns.map V.int) = H at hS
  obtain ⟨st', em⟩ := hm
  classical
  refine ⟨rfl, fun b => if b = a ∧ H a = some (.frz (scrO vs) (.lst (ns.map V.int))) then some .frz else none, [], [], [.kls (ns.map .int)], ?_, .cons (.kls ?_ (reps_ints ns)) .nil, ?_⟩
  · refine ⟨fun b t e => ?_, rfl, fun k b m e => (by simp at e), List.nodup_nil, fun p hp => ?_, fun b e => ?_⟩
    · split at e
      · rename_i z
        exact ⟨_, by rw [z.1]; exact z.2⟩
      · cases e
    · rw [hTB] at hp
      obtain ⟨x, hx, e⟩ := List.mem_map.mp hp
      have hp1 : H p.1 = some (.tbl #[]) := by
        rw [← hH]
        refine lawH_tab ?_
        rw [← e]
        exact List.mem_map.mpr ⟨_, List.mem_map.mpr ⟨x, hx, rfl⟩, rfl⟩
      refine ⟨#[], hp1, ?_, fun pos cv hc => ?_⟩
      · simp [TriplesOk]
      · simp [codeAmong] at hc
    · split at e <;> cases e
  · rcases hS with (h | ⟨o, h⟩) | h
    · rw [← hH] at h
      rcases lawH_cases h with ⟨_, z⟩ | ⟨_, _, _, z⟩ <;> cases z
    · have h2 := h
      rw [← hH] at h2
      rcases lawH_cases h2 with ⟨_, z⟩ | ⟨_, _, _, z⟩
      · cases z
      · cases z
        exact .inl (.inr ⟨scrO vs, fz_of (if_pos ⟨rfl, h⟩) h (by intro ps q; cases q)⟩)
    · exact .inr h
  · rw [em]
    intro v T' al' H' _ _ r
    exact rep_bl r
theorem lawG_of {l : PySem.W.OpenLaw} {w : World} {K : PySem.W.Frag} {h : Heap} {mg : Str → Option Value} {k n : Nat} {x y : Str} {st : Stmt} {fd : FuncData} {f : Addr} {G : GX} {ls : List Str} {m : List D → Mo D} {fa : List He.Fa} {fn : List He.DefD} {ex : PySem.W.Frag → Bool} (X : K.In h)
    (c : SaysP fa fn (ls.map fun z => (z, none)) ex h K) (hTB : G.TB = tbsOf K ls) (F : FunD K x x (defArgs st) (defBody st) (defScope st) [] [] f fd)
    (bd : ∀ (kV doc pm : Value) (an : Option Addr) (cdv ct : Value) (us : List Value), us.length = ([y] : List Str).length → bindArgs (PySem.W.fnOf x x (defArgs st) (defBody st) (defScope st) .none kV doc pm an cdv ct) ⟨us, []⟩ = pure (([y] : List Str).zip us))
    (hf : ∀ base : Heap, K.In base → base.Ns mainGlobals mg → (∀ z ∈ ls, TabB base mg (He.cT K (z, none)).1 (He.cT K (z, none)).2) → FnG l.prog w K mg base k f fd [y] (spM G K 1 m))
    (math : ∀ ns : List Int, ns.length ≤ n → (∀ z ∈ ns, Builtin.Int.intBits z ≤ 1048576) → ∃ st', m [.kls (ns.map .int)] [] = .ok (.bl true) st') : LawG l w K k n y mg f h := by
  have of : ∀ p ∈ ls.map (fun z => He.cT K (z, none)), ∃ q ∈ ls.map (fun z => ((z, none) : He.Defn)), He.cT K q = p := fun p hp => by
    obtain ⟨z, hz, e⟩ := List.mem_map.mp hp
    exact ⟨(z, none), List.mem_map.mpr ⟨z, hz, rfl⟩, e⟩
  refine ⟨fd, ls.map fun z => He.cT K (z, none), spM G K 1 m, fun p hp => ?_, fun p hp => ?_, fun p hp => ?_, fun s u => ?_, fun a vs ns hl hb hS => law_sp hTB (math ns hl hb) hS, fun base XB GB tb => hf base XB GB fun z hz => tb _ (List.mem_map.mpr ⟨z, hz, rfl⟩)⟩
  · obtain ⟨q, hq, rfl⟩ := of p hp
    exact c.empty q hq
  · obtain ⟨q, hq, rfl⟩ := of p hp
    exact c.out q hq
  · obtain ⟨q, hq, rfl⟩ := of p hp
    exact PySem.W.codeHd_of_K X (c.hd q hq)
  · have b := FunD.bindsA (ps := [y]) F bd
    exact b s [u] rfl
end Pi
namespace Pi
open PySem PySem.Spec PyProof.Rows L2 LamX
def eqSoon : D → D → Option Bool
  | .str a, .str b => some (a == b)
  | .tup xs, .tup [] => some xs.isEmpty
  | .lst xs, .lst [] => some xs.isEmpty
  | _, _ => none
def oEqX (x y : D) : Option D := match eqSoon x y with
  | some b => some (.bl b)
  | none => oEq x y
def oNeX (x y : D) : Option D := match eqSoon x y with
  | some b => some (.bl (!b))
  | none => oNe x y
section
variable {G : GX} {X : Cx}
theorem eqSoon_some {x y : D} {b : Bool} (h : eqSoon x y = some b) : (∃ a c, x = .str a ∧ y = .str c ∧ b = (a == c)) ∨ (∃ xs, x = .tup xs ∧ y = .tup [] ∧ b = xs.isEmpty) ∨ ∃ xs, x = .lst xs ∧ y = .lst [] ∧ b = xs.isEmpty := by
  unfold eqSoon at h
  split at h
  · exact .inl ⟨_, _, rfl, rfl, (Option.some.inj h).symm⟩
  · exact .inr (.inl ⟨_, rfl, rfl, (Option.some.inj h).symm⟩)
  · exact .inr (.inr ⟨_, rfl, rfl, (Option.some.inj h).symm⟩)
  · cases h
theorem tup_nil {pins : List (Addr × Obj)} {s : Shared} {σ : L2.St} {T : Tg} {al : List Addr} {H : Hp} {v u : V} {vv uu : Value} {xs : List D} (ok : COk X) (I : Inv X pins σ H s) (rx : RepH X.K T al H v (.tup xs)) (ry : RepH X.K T al H u (.tup [])) (rv : RelV v vv) (ru : RelV u uu) :
    SeqAt.RcAt X.A s vv uu xs.isEmpty ∧ SeqAt.RcNeAt X.A s vv uu (!xs.isEmpty) := by
  obtain ⟨a, vs, rfl, h1, r1⟩ := r_tup rx
  obtain ⟨b, us, rfl, h2, r2⟩ := r_tup ry
  have e0 := r2.length
  cases us with
  | cons _ _ => cases e0
  | nil =>
    cases rv
    cases ru
    obtain ⟨its, q1, p1, _⟩ := I.tuple h1
    obtain ⟨its2, q2, p2, _⟩ := I.tuple h2
    have hu : X.A.units < cLine := by have := ok.un; omega
    have n1 : its.length = xs.length := by rw [← r1.length]; exact (q1.length).symm
    have n2 : its2.length = 0 := (q2.length).symm
    have z : its2 = [] := List.eq_nil_of_length_eq_zero n2
    subst z
    have e : ((List.range (min its.toArray.size ([] : List Value).toArray.size)).all (fun _ => true) && its.toArray.size == ([] : List Value).toArray.size) = xs.isEmpty := by
      cases xs with
      | nil => simp [n1]
      | cons x xs => simp [n1]
    have A := SeqAt.RcAt.tuples (A := X.A) (s := s) (e := fun _ => true) p1 p2 hu (fun j h1 h2 => by simp at h2)
    have B := SeqAt.RcNeAt.tuples (A := X.A) (s := s) (e := fun _ => true) p1 p2 hu (fun j h1 h2 => by simp at h2)
    rw [e] at A B
    exact ⟨A, B⟩
theorem lst_nil {pins : List (Addr × Obj)} {s : Shared} {σ : L2.St} {T : Tg} {al : List Addr} {H : Hp} {v u : V} {vv uu : Value} {xs : List D} (ok : COk X) (I : Inv X pins σ H s) (rx : RepH X.K T al H v (.lst xs)) (ry : RepH X.K T al H u (.lst [])) (rv : RelV v vv) (ru : RelV u uu) :
    SeqAt.RcAt X.A s vv uu xs.isEmpty ∧ SeqAt.RcNeAt X.A s vv uu (!xs.isEmpty) := by
  obtain ⟨a, vs, rfl, h1, r1⟩ := r_lst rx
  obtain ⟨b, us, rfl, h2, r2⟩ := r_lst ry
  have e0 := r2.length
  cases us with
  | cons _ _ => cases e0
  | nil =>
    cases rv
    cases ru
    obtain ⟨its, q1, ⟨o1, m1, g1, g2, _, g3⟩, _⟩ := I.list h1
    obtain ⟨its2, q2, ⟨o2, m2, k1, k2, _, k3⟩, _⟩ := I.list h2
    have p1 : s.heap.IsList a its.toArray := ⟨o1, g1, g2, m1, g3⟩
    have p2 : s.heap.IsList b its2.toArray := ⟨o2, k1, k2, m2, k3⟩
    have hu : X.A.units < cLine := by have := ok.un; omega
    have n1 : its.length = xs.length := by rw [← r1.length]; exact (q1.length).symm
    have n2 : its2.length = 0 := (q2.length).symm
    have z : its2 = [] := List.eq_nil_of_length_eq_zero n2
    subst z
    cases xs with
    | nil =>
      have z : its = [] := List.eq_nil_of_length_eq_zero n1
      subst z
      exact ⟨SeqAt.RcAt.lists (e := fun _ => true) p1 p2 rfl hu fun j h1 h2 => by simp at h2, SeqAt.RcNeAt.lists (e := fun _ => true) p1 p2 rfl hu fun j h1 h2 => by simp at h2⟩
    | cons x xs =>
      have hsz : (its.toArray.size != ([] : List Value).toArray.size) = true := by simp [n1]
      exact ⟨SeqAt.RcAt.lists_lengths p1 p2 hsz hu, SeqAt.RcNeAt.lists_lengths p1 p2 hsz hu⟩
theorem bin_eqX (ok : COk X) (ns : NoSys X.K) : BinR G X (compareOp .Eq) oEqX := by
  intro x y z hz pins s σ st T al H v u vv uu Q I w rx ry rv ru q
  unfold oEqX at hz
  cases e : eqSoon x y with
  | none =>
    rw [e] at hz
    exact bin_eq ok ns x y z hz pins s σ st T al H v u vv uu Q I w rx ry rv ru q
  | some b =>
    rw [e] at hz
    have ez : D.bl b = z := Option.some.inj hz
    subst ez
    rcases eqSoon_some e with ⟨a, c, rfl, rfl, rfl⟩ | ⟨xs, rfl, rfl, rfl⟩ | ⟨xs, rfl, rfl, rfl⟩
    · obtain ⟨as, h1, _⟩ := rx.reads I ok ns rfl rv
      obtain ⟨bs, h2, _⟩ := ry.reads I ok ns rfl ru
      have hu : X.A.units + min (PyData.str a).depth (PyData.str c).depth < cLine := by
        have := ok.un
        simp [PyData.depth]
        omega
      exact SeqAt.eq_plain h1 h2 rfl rfl hu ⟨.bl _, H, I, rfl, q (.bl _) T al H .refl w (.bl _)⟩
    · exact (tup_nil ok I rx ry rv ru).1 _ _ _ _ ⟨.bl _, H, I, rfl, q (.bl _) T al H .refl w (.bl _)⟩
    · exact (lst_nil ok I rx ry rv ru).1 _ _ _ _ ⟨.bl _, H, I, rfl, q (.bl _) T al H .refl w (.bl _)⟩
theorem bin_neX (ok : COk X) (ns : NoSys X.K) : BinR G X (compareOp .NotEq) oNeX := by
  intro x y z hz pins s σ st T al H v u vv uu Q I w rx ry rv ru q
  unfold oNeX at hz
  cases e : eqSoon x y with
  | none =>
    rw [e] at hz
    exact bin_ne ok ns x y z hz pins s σ st T al H v u vv uu Q I w rx ry rv ru q
  | some b =>
    rw [e] at hz
    have ez : D.bl (!b) = z := Option.some.inj hz
    subst ez
    rcases eqSoon_some e with ⟨a, c, rfl, rfl, rfl⟩ | ⟨xs, rfl, rfl, rfl⟩ | ⟨xs, rfl, rfl, rfl⟩
    · obtain ⟨as, h1, _⟩ := rx.reads I ok ns rfl rv
      obtain ⟨bs, h2, _⟩ := ry.reads I ok ns rfl ru
      have hu : X.A.units + min (PyData.str a).depth (PyData.str c).depth < cLine := by
        have := ok.un
        simp [PyData.depth]
        omega
      exact SeqAt.ne_plain h1 h2 rfl rfl hu ⟨.bl _, H, I, rfl, q (.bl _) T al H .refl w (.bl _)⟩
    · exact (tup_nil ok I rx ry rv ru).2 _ _ _ _ ⟨.bl _, H, I, rfl, q (.bl _) T al H .refl w (.bl _)⟩
    · exact (lst_nil ok I rx ry rv ru).2 _ _ _ _ ⟨.bl _, H, I, rfl, q (.bl _) T al H .refl w (.bl _)⟩
end
end Pi
namespace Pi
open PySem PySem.Spec PyProof.Rows L2 LamX
def lcO (b : D → Env → Option Env) (c : Env → Mo Bool) (f1 : Env → Mo (List D)) (b1 : D → Env → Option Env) (c1 : Env → Mo Bool) (e : Env → Mo D) (vs1 : List Nat) (r : Env) : Nat → List D → Mo (List D)
  | _, [] => pure []
  | n, x :: xs => Mo.opt (b x r) >>= fun r1 => nx (c r1) >>= fun k => match k with
    | true => nx (f1 r1) >>= fun ys => lim (n + ys.length) ys >>= fun zs => lcL b1 c1 e (wipeE vs1 r1) zs >>= fun us => lcO b c f1 b1 c1 e vs1 r (n + ys.length) xs >>= fun ws => pure (us ++ ws)
    | false => lcO b c f1 b1 c1 e vs1 r n xs
def nLc2 (f : Env → Mo (List D)) (b : D → Env → Option Env) (vs : List Nat) (c : Env → Mo Bool) (f1 : Env → Mo (List D)) (b1 : D → Env → Option Env) (vs1 : List Nat) (c1 : Env → Mo Bool) (e : Env → Mo D) : Env → Mo (List D) :=
  fun r => f r >>= fun xs => lcO b c f1 b1 c1 e vs1 (wipeE vs r) 0 xs
theorem mo_assoc {a b c : Type} (f : Mo a) (g : a → Mo b) (h : b → Mo c) : (f >>= g) >>= h = f >>= fun x => g x >>= h := by
  funext st
  rw [bind_ap, bind_ap, bind_ap]
  cases f st <;> rfl
theorem mo_pure {a b : Type} (x : a) (g : a → Mo b) : (pure x : Mo a) >>= g = g x := rfl
section
variable (b : D → Env → Option Env) (c : Env → Mo Bool) (f1 : Env → Mo (List D)) (b1 : D → Env → Option Env) (c1 : Env → Mo Bool) (e : Env → Mo D) (vs1 : List Nat) (r : Env)
def cOut (n : Nat) (acc xs : List D) : Mo (List D) := lcO b c f1 b1 c1 e vs1 r n xs >>= fun zs => pure (acc ++ zs)
def cIn (n : Nat) (rest : List D) (rw : Env) (acc ys : List D) : Mo (List D) := lcL b1 c1 e rw ys >>= fun us => lcO b c f1 b1 c1 e vs1 r n rest >>= fun ws => pure (acc ++ (us ++ ws))
theorem cOut_nil (n : Nat) (acc : List D) : cOut b c f1 b1 c1 e vs1 r n acc [] = pure acc := by
  show (pure [] >>= fun zs => pure (acc ++ zs)) = _
  rw [mo_pure, List.append_nil]
theorem cOut_cons (n : Nat) (acc : List D) (x : D) (xs : List D) : cOut b c f1 b1 c1 e vs1 r n acc (x :: xs) = Mo.opt (b x r) >>= fun r1 => nx (c r1) >>= fun k => match k with
    | true => nx (f1 r1) >>= fun ys => lim (n + ys.length) ys >>= fun zs => cIn b c f1 b1 c1 e vs1 r (n + ys.length) xs (wipeE vs1 r1) acc zs
    | false => cOut b c f1 b1 c1 e vs1 r n acc xs := by
  unfold cOut cIn
  show (_ >>= _) >>= _ = _
  rw [mo_assoc]
  congr 1
  funext r1
  rw [mo_assoc]
  congr 1
  funext k
  cases k with
  | false => rfl
  | true =>
    dsimp only
    rw [mo_assoc]
    congr 1
    funext ys
    rw [mo_assoc]
    congr 1
    funext zs
    rw [mo_assoc]
    congr 1
    funext us
    rw [mo_assoc]
    rfl
theorem cIn_nil (n : Nat) (rest : List D) (rw_ : Env) (acc : List D) : cIn b c f1 b1 c1 e vs1 r n rest rw_ acc [] = cOut b c f1 b1 c1 e vs1 r n acc rest := by
  unfold cIn cOut
  show (pure [] >>= _) = _
  rw [mo_pure]
  rfl
theorem cIn_cons (n : Nat) (rest : List D) (rw_ : Env) (acc : List D) (y : D) (ys : List D) : cIn b c f1 b1 c1 e vs1 r n rest rw_ acc (y :: ys) = Mo.opt (b1 y rw_) >>= fun r2 => nx (c1 r2) >>= fun k => match k with
    | true => nx (e r2) >>= fun u => cIn b c f1 b1 c1 e vs1 r n rest rw_ (acc ++ [u]) ys
    | false => cIn b c f1 b1 c1 e vs1 r n rest rw_ acc ys := by
  unfold cIn
  show (_ >>= _) >>= _ = _
  rw [mo_assoc]
  congr 1
  funext r2
  rw [mo_assoc]
  congr 1
  funext k
  cases k with
  | false => rfl
  | true =>
    dsimp only
    rw [mo_assoc]
    congr 1
    funext u
    rw [mo_assoc]
    congr 1
    funext us
    rw [mo_pure]
    congr 1
    funext ws
    rw [List.append_assoc]
    rfl
end
section
variable {G : GX} {X : Cx} {W : WX} {E : XK} {H0 : Hp} {tg iter tg1 iter1 elt c : Expr} {ifs ifs1 : List Expr} {scope : Scope} {own : List (Str × Nat)} {pos : Pos}
def tI (X : Cx) (scope : Scope) (tg1 iter1 : Expr) : TI := fun σ H R => ∀ (s0 : Shared) (H1 : Hp) (C : Addr) (cl : List (Str × Addr)) (fp : List Addr), RdI (bk X scope s0 H1 C cl fp) tg1 iter1 σ H R
theorem nx_cases {b : Type} {f : Mo b} {st : St} {K : PySem.W.Frag} {Rp : Hp → Tg → List Addr → Hp → V → List D → Prop} {σ : L2.St} {T : Tg} {al : List Addr} {H : Hp} {Q : V → Hp → Prop} {g : b → Mo (List D)} (q : Post G K W Rp σ T al H Q ((nx f >>= g) st)) : ∃ x st', f st = .ok x st' ∧ Post G K W Rp σ T al H Q (g x st') := by
  rw [bind_ap] at q
  unfold nx at q
  cases e : f st with
  | ok x st' =>
    rw [e] at q
    exact ⟨x, st', rfl, q⟩
  | err k x st' =>
    rw [e] at q
    exact q.elim
  | bad =>
    rw [e] at q
    exact q.elim
theorem opt_cases {b : Type} {o : Option b} {st : St} {K : PySem.W.Frag} {Rp : Hp → Tg → List Addr → Hp → V → List D → Prop} {σ : L2.St} {T : Tg} {al : List Addr} {H : Hp} {Q : V → Hp → Prop} {g : b → Mo (List D)} (q : Post G K W Rp σ T al H Q ((Mo.opt o >>= g) st)) : ∃ x, o = some x ∧ Post G K W Rp σ T al H Q (g x st) := by
  rw [bind_ap] at q
  cases o with
  | none => exact q.elim
  | some x => exact ⟨x, rfl, q⟩
theorem lim_cases {b : Type} {n : Nat} {y : b} {st : St} {K : PySem.W.Frag} {Rp : Hp → Tg → List Addr → Hp → V → List D → Prop} {σ : L2.St} {T : Tg} {al : List Addr} {H : Hp} {Q : V → Hp → Prop} {g : b → Mo (List D)} (q : Post G K W Rp σ T al H Q ((lim n y >>= g) st)) : n ≤ 16777216 ∧ Post G K W Rp σ T al H Q (g y st) := by
  rw [bind_ap] at q
  cases e : lim n y st with
  | ok x st' =>
    rw [e] at q
    obtain ⟨h1, rfl, rfl⟩ := lim_ok e
    exact ⟨h1, q⟩
  | err k x st' =>
    unfold lim at e
    split at e <;> cases e
  | bad =>
    rw [e] at q
    exact q.elim
theorem SL.upd {K : PySem.W.Frag} {H0 : Hp} {T : Tg} {al : List Addr} {H : Hp} {r : Env} {σ : L2.St} {p : Addr} {o : HO} (S : SL K H0 T al H r σ) (h : T p = none) : SL K H0 T al (L2.upd H p o) r σ := by
  have nf : T p ≠ some .frz := by rw [h]; decide
  refine ⟨S.len, fun i x hx => ?_, S.ap⟩
  obtain ⟨v, h1, h2⟩ := S.at_ i x hx
  refine ⟨v, h1, ?_⟩
  cases x with
  | d x => exact Rep.mono (fz_upd nf) ⟨[], by simp⟩ h2
  | own xs =>
    obtain ⟨l, vs, e, t1, t0, t2, t3⟩ := h2
    have ne : l ≠ p := fun z => by
      rw [z, h] at t1
      cases t1
    exact ⟨l, vs, e, t1, t0, by rw [upd_ne ne]; exact t2, t3.mono (fz_upd nf) ⟨[], by simp⟩⟩
  | odT kvs =>
    obtain ⟨l, vs, e, t1, t0, t2, t3⟩ := h2
    have ne : l ≠ p := fun z => by
      rw [z, h] at t1
      cases t1
    exact ⟨l, vs, e, t1, t0, by rw [upd_ne ne]; exact t2, paired_imp t3 fun a b z => ⟨z.1, Rep.mono (fz_upd nf) ⟨[], by simp⟩ z.2⟩⟩
  | brw xs =>
    obtain ⟨l, vs, e, t1, t0, t2, t3⟩ := h2
    have ne : l ≠ p := fun z => by
      rw [z, h] at t1
      cases t1
    exact ⟨l, vs, e, t1, t0, by rw [upd_ne ne]; exact t2, t3.mono (fz_upd nf) ⟨[], by simp⟩⟩
theorem lc2_read {f f1 : Env → Mo (List D)} {b b1 : D → Env → Option Env} {is is1 vs1 : List Nat} {gt gt1 : TG} {ct ct1 : Env → Mo Bool} {fe : Env → Mo D} (hi : PIt G X W H0 tg iter f) (hgs : TgOk X.K H0 b is gt) (hv : ∀ j ∈ is, j ∈ own.map (·.2))
    (ht : ∀ (s0 : Shared) (H1 : Hp) (C : Addr) (cl : List (Str × Addr)) (fp : List Addr), PBs G (bk X scope s0 H1 C cl fp) H0 ifs ct)
    (hi1 : ∀ (s0 : Shared) (H1 : Hp) (C : Addr) (cl : List (Str × Addr)) (fp : List Addr), PIt G (bk X scope s0 H1 C cl fp) (wE fun _ _ _ => False) H0 tg1 iter1 f1) (hgs1 : TgOk X.K H0 b1 is1 gt1) (hv1 : ∀ j ∈ is1, j ∈ vs1)
    (ht1 : ∀ (s0 : Shared) (H1 : Hp) (C : Addr) (cl : List (Str × Addr)) (fp : List Addr), PBs G (bk X scope s0 H1 C cl fp) H0 ifs1 ct1)
    (he : ∀ (s0 : Shared) (H1 : Hp) (C : Addr) (cl : List (Str × Addr)) (fp : List Addr), PD G (bk X scope s0 H1 C cl fp) (wE fun _ _ _ => False) H0 elt fe)
    {r : Env} {st : St} {σ : L2.St} {T : Tg} {al : List Addr} {H : Hp} {Q : VK} (S : SL X.K H0 T al H r σ) (w : WI X.K G.TB T al st H) (q : Post G X.K W (RpN X.K) σ T al H Q (nLc2 f b (own.map (·.2)) ct f1 b1 vs1 ct1 fe r st)) :
    tLc2 (RdI X tg iter) gt (tT X scope ifs) (tI X scope tg1 iter1) gt1 (tT X scope ifs1) (tE X scope elt) (own.map (·.2)) vs1 σ H Q := by
  refine hi r st σ T al H _ S w (seqP back_N q fun ys st1 J T1 al1 H1 _ x1 w1 r1 q1 => ?_)
  intro dA hD
  have SW := wipe_SL (S.ext x1) (own.map (·.2))
  have q1' : Post G X.K W (RpN X.K) σ T1 al1 H1 Q (cOut b ct f1 b1 ct1 fe vs1 (wipeE (own.map (·.2)) r) 0 [] ys st1) := by
    unfold cOut
    rw [bind_ap]
    have q1' : Post G X.K W (RpN X.K) σ T1 al1 H1 Q (lcO b ct f1 b1 ct1 fe vs1 (wipeE (own.map (·.2)) r) 0 ys st1) := q1
    cases e : lcO b ct f1 b1 ct1 fe vs1 (wipeE (own.map (·.2)) r) 0 ys st1 with
    | ok zs st3 => rw [e] at q1'; exact q1'
    | err c x st3 => rw [e] at q1'; exact q1'
    | bad => rw [e] at q1'; exact q1'
  refine ⟨fun i m H2 => m + i = ys.length ∧ ∃ (n : Nat) (acc : List D) (vs : List V) (st2 : St) (T2 : Tg) (al2 : List Addr), Ext T1 al1 H1 T2 al2 H2 ∧ WI X.K G.TB T2 al2 st2 H2 ∧ T2 dA = none ∧ H2 dA = some (.lst vs) ∧ RepAll X.K (fz T2 H2) al2 vs acc ∧ acc.length ≤ n ∧
      Post G X.K W (RpN X.K) σ T1 al1 H1 Q (cOut b ct f1 b1 ct1 fe vs1 (wipeE (own.map (·.2)) r) n acc (ys.drop i) st2),
      ⟨ys.length, by omega, 0, [], [], st1, T1, al1, Ext.laid0 hD, w1.laid hD, w1.free hD, upd_same, .nil, Nat.le_refl _, by rw [List.drop_zero]; exact q1'⟩, ?_⟩
  rintro i m H2 ⟨hm, n, acc, vs, st3, T2, al2, x2, w2, tD, hD2, rs, hacc, q2⟩
  obtain ⟨hgo, hstop⟩ := r1 T2 al2 H2 st3 x2.fz (lent_ext x2) x2.al w2 i
  cases hx : ys[i]? with
  | none =>
    refine .inl ⟨hstop (by have := List.getElem?_eq_none_iff.mp hx; omega), ?_⟩
    have hd : ys.drop i = [] := List.drop_of_length_le (List.getElem?_eq_none_iff.mp hx)
    rw [hd, cOut_nil] at q2
    exact q2 (.ref dA) T2 al2 H2 x2 w2 ⟨dA, vs, rfl, hD, tD, hD2, rs⟩
  | some x =>
    obtain ⟨go, yl⟩ := hgo x hx
    have hil : i < ys.length := (List.getElem?_eq_some_iff.mp hx).1
    have hd : ys.drop i = x :: ys.drop (i + 1) := by
      rw [List.drop_eq_getElem_cons hil]
      congr 1
      exact (List.getElem?_eq_some_iff.mp hx).2
    rw [hd, cOut_cons] at q2
    refine .inr ⟨go, fun H3 => ∃ (n : Nat) (acc : List D) (vs : List V) (st2 : St) (T2 : Tg) (al2 : List Addr), Ext T1 al1 H1 T2 al2 H3 ∧ WI X.K G.TB T2 al2 st2 H3 ∧ T2 dA = none ∧ H3 dA = some (.lst vs) ∧ RepAll X.K (fz T2 H3) al2 vs acc ∧ acc.length ≤ n ∧
      Post G X.K W (RpN X.K) σ T1 al1 H1 Q (cOut b ct f1 b1 ct1 fe vs1 (wipeE (own.map (·.2)) r) n acc (ys.drop (i + 1)) st2), fun H3 z => ⟨m - 1, by omega, by omega, z⟩, fun v H3 y => ?_⟩
    obtain ⟨T3, x3, w3, rv⟩ := yl v H3 y
    obtain ⟨r3, hb, q3⟩ := opt_cases q2
    obtain ⟨σ3, SL3, ho, qg⟩ := hgs x (wipeE (own.map (·.2)) r) r3 (wipe σ (own.map (·.2))) T3 al2 H3 v hb ((SW.ext x2).ext x3) rv
    refine qg _ ⟨wipe_back ho.1 ho.2 hv, ?_⟩
    obtain ⟨k, st4, ec, q4⟩ := nx_cases q3
    have hD3 : H3 dA = some (.lst vs) := x3.hp dA _ hD2 (by rw [tD]; decide)
    have tD3 : T3 dA = none := (x3.tg dA _ hD2).trans tD
    intro s0 Hs C cl fp pins s I
    refine ht s0 Hs C cl fp r3 st3 σ3 T3 al2 H3 _ SL3 w3 ?_ pins s I
    rw [ec]
    rintro k' T4 al4 H4 x4 w4 rfl
    have hD4 : H4 dA = some (.lst vs) := x4.hp dA _ hD3 (by rw [tD3]; decide)
    have tD4 : T4 dA = none := (x4.tg dA _ hD3).trans tD3
    have xx4 : Ext T1 al1 H1 T4 al4 H4 := (x2.trans x3).trans x4
    cases k' with
    | false => exact iteF ⟨n, acc, vs, st4, T4, al4, xx4, w4, tD4, hD4, (rs.ext x3).ext x4, hacc, q4⟩
    | true =>
      refine iteT ?_
      obtain ⟨zs, st5, ef, q5⟩ := nx_cases q4
      intro s1 Hs1 C1 cl1 fp1
      refine hi1 s1 Hs1 C1 cl1 fp1 r3 st4 σ3 T4 al4 H4 _ (SL3.ext x4) w4 ?_
      rw [ef]
      intro J1 T5 al5 H5 x5 w5 r5
      obtain ⟨hn, q6⟩ := lim_cases q5
      have hD5 : H5 dA = some (.lst vs) := x5.hp dA _ hD4 (by rw [tD4]; decide)
      have tD5 : T5 dA = none := (x5.tg dA _ hD4).trans tD4
      have S5 := wipe_SL ((SL3.ext x4).ext x5) vs1
      refine ⟨fun j m H6 => m + j = zs.length ∧ ∃ (acc : List D) (vs : List V) (st2 : St) (T2 : Tg) (al2 : List Addr), Ext T1 al1 H1 T2 al2 H6 ∧ SL X.K H0 T2 al2 H6 (wipeE vs1 r3) (wipe σ3 vs1) ∧ Same (fz T5 H5) (fz T2 H6) ∧ (∀ l us, lentS H0 T5 H5 l us → lentS H0 T2 H6 l us) ∧ (∃ b, al2 = al5 ++ b) ∧ WI X.K G.TB T2 al2 st2 H6 ∧ T2 dA = none ∧ H6 dA = some (.lst vs) ∧ RepAll X.K (fz T2 H6) al2 vs acc ∧ acc.length ≤ n + j ∧
        Post G X.K W (RpN X.K) σ T1 al1 H1 Q (cIn b ct f1 b1 ct1 fe vs1 (wipeE (own.map (·.2)) r) (n + zs.length) (ys.drop (i + 1)) (wipeE vs1 r3) acc (zs.drop j) st2),
        ⟨zs.length, by omega, acc, vs, st5, T5, al5, xx4.trans x5, S5, fun _ _ h => h, fun _ _ z => z, ⟨[], by simp⟩, w5, tD5, hD5, ((rs.ext x3).ext x4).ext x5, by omega, by rw [List.drop_zero]; exact q6⟩, ?_⟩
      rintro j m1 H6 ⟨hm1, acc, vs, st6, T6, al6, x6, S6, f6, g6, a6, w6, tD6, hD6, rs6, hacc6, q7⟩
      obtain ⟨hgo1, hstop1⟩ := r5 T6 al6 H6 st6 f6 (fun l us z => (g6 l us z).2.2) a6 w6 j
      cases hy : zs[j]? with
      | none =>
        have hj := List.getElem?_eq_none_iff.mp hy
        refine .inl ⟨hstop1 (by omega), ?_⟩
        have hd : zs.drop j = [] := List.drop_of_length_le hj
        rw [hd, cIn_nil] at q7
        exact ⟨n + zs.length, acc, vs, st6, T6, al6, x6, w6, tD6, hD6, rs6, by omega, q7⟩
      | some y1 =>
        obtain ⟨go1, yl1⟩ := hgo1 y1 hy
        have hjl : j < zs.length := (List.getElem?_eq_some_iff.mp hy).1
        have hd : zs.drop j = y1 :: zs.drop (j + 1) := by
          rw [List.drop_eq_getElem_cons hjl]
          congr 1
          exact (List.getElem?_eq_some_iff.mp hy).2
        rw [hd, cIn_cons] at q7
        refine .inr ⟨go1, fun H7 => ∃ (acc : List D) (vs : List V) (st2 : St) (T2 : Tg) (al2 : List Addr), Ext T1 al1 H1 T2 al2 H7 ∧ SL X.K H0 T2 al2 H7 (wipeE vs1 r3) (wipe σ3 vs1) ∧ Same (fz T5 H5) (fz T2 H7) ∧ (∀ l us, lentS H0 T5 H5 l us → lentS H0 T2 H7 l us) ∧ (∃ b, al2 = al5 ++ b) ∧ WI X.K G.TB T2 al2 st2 H7 ∧ T2 dA = none ∧ H7 dA = some (.lst vs) ∧ RepAll X.K (fz T2 H7) al2 vs acc ∧ acc.length ≤ n + (j + 1) ∧
          Post G X.K W (RpN X.K) σ T1 al1 H1 Q (cIn b ct f1 b1 ct1 fe vs1 (wipeE (own.map (·.2)) r) (n + zs.length) (ys.drop (i + 1)) (wipeE vs1 r3) acc (zs.drop (j + 1)) st2), fun H7 z => ⟨m1 - 1, by omega, by omega, z⟩, fun v1 H7 yv => ?_⟩
        obtain ⟨T7, x7, w7, rv7⟩ := yl1 v1 H7 yv
        obtain ⟨r7, hb1, q8⟩ := opt_cases q7
        obtain ⟨σ7, SL7, ho7, qg7⟩ := hgs1 y1 (wipeE vs1 r3) r7 (wipe σ3 vs1) T7 al6 H7 v1 hb1 (S6.ext x7) rv7
        refine qg7 _ ⟨wipe_back ho7.1 ho7.2 hv1, ?_⟩
        obtain ⟨k2, st8, ec2, q9⟩ := nx_cases q8
        have hD7 : H7 dA = some (.lst vs) := x7.hp dA _ hD6 (by rw [tD6]; decide)
        have tD7 : T7 dA = none := (x7.tg dA _ hD6).trans tD6
        intro s2 Hs2 C2 cl2 fp2 pins2 s' I2
        refine ht1 s2 Hs2 C2 cl2 fp2 r7 st6 σ7 T7 al6 H7 _ SL7 w7 ?_ pins2 s' I2
        rw [ec2]
        rintro k3 T8 al8 H8 x8 w8 rfl
        have hD8 : H8 dA = some (.lst vs) := x8.hp dA _ hD7 (by rw [tD7]; decide)
        have tD8 : T8 dA = none := (x8.tg dA _ hD7).trans tD7
        have x68 := x7.trans x8
        cases k3 with
        | false => exact iteF ⟨acc, vs, st8, T8, al8, x6.trans x68, S6.ext x68, fun a o h => x68.fz a o (f6 a o h), fun l us z => lentS_ext x68 (g6 l us z), by
            obtain ⟨p, hp⟩ := a6
            obtain ⟨p2, hp2⟩ := x68.al
            exact ⟨p ++ p2, by rw [hp2, hp, List.append_assoc]⟩, w8, tD8, hD8, (rs6.ext x7).ext x8, by omega, q9⟩
        | true =>
          refine iteT ?_
          obtain ⟨u, st9, ee, q10⟩ := nx_cases q9
          intro s3 Hs3 C3 cl3 fp3
          refine he s3 Hs3 C3 cl3 fp3 r7 st8 σ7 T8 al8 H8 _ (SL7.ext x8) w8 ?_
          rw [ee]
          intro v9 T9 al9 H9 x9 w9 ru
          have hD9 : H9 dA = some (.lst vs) := x9.hp dA _ hD8 (by rw [tD8]; decide)
          have tD9 : T9 dA = none := (x9.tg dA _ hD8).trans tD8
          have rs9 := ((rs6.ext x7).ext x8).ext x9
          have nf : T9 dA ≠ some .frz := by rw [tD9]; decide
          have x69 := x68.trans x9
          refine ⟨vs, hD9, by rw [rs9.length]; show acc.length < 16777216; omega, acc ++ [u], vs ++ [v9], st9, T9, al9, (x6.trans x69).upd0 hD, ?_, fun a o h => fz_upd nf a o (x69.fz a o (f6 a o h)), fun l us z => lentS_upd (by rw [tD9]; decide) (lentS_ext x69 (g6 l us z)), by
            obtain ⟨p, hp⟩ := a6
            obtain ⟨p2, hp2⟩ := x69.al
            exact ⟨p ++ p2, by rw [hp2, hp, List.append_assoc]⟩, w9.upd nf (by rw [tD9]; decide) hD9 (fun ps z => by cases z) (fun f z => by cases z), tD9, upd_same, ?_, by rw [List.length_append, List.length_singleton]; omega, q10⟩
          · exact (S6.ext x69).upd tD9
          · exact (rs9.mono (fz_upd nf) ⟨[], by simp⟩).snoc (Rep.mono (fz_upd nf) ⟨[], by simp⟩ ru)
theorem pi_tI : ∀ (s : Shared) (H : Hp) (C : Addr) (cl : List (Str × Addr)) (fp : List Addr), PI (X.blk s H scope (compEnvC scope cl C X.env) fp) tg1 iter1 (tI X scope tg1 iter1) := fun s H C cl fp => ⟨fun pins s2 σ H2 R I h => h s H C cl fp pins s2 I⟩
end
end Pi
namespace Pi
open PySem PySem.Spec PyProof.Rows L2
section
variable {G : GX} {X : Cx} {E : XK} {H0 : Hp} {tg iter tg1 iter1 elt : Expr} {ifs ifs1 : List Expr} {scope : Scope} {pos spos py : Pos} {y : Str} {i : Nat}
variable {f f1 : Env → Mo (List D)} {b b1 : D → Env → Option Env} {is is1 vs1 : List Nat} {gt gt1 : TG} {ct ct1 : Env → Mo Bool} {fe : Env → Mo D}
theorem pst_setLc2 (own : List (Str × Nat)) (hc : X.calm = true) (hN : X.N.Nodup) (hi : PIt G X (wE E) H0 tg iter f) (ok : BlkOk X.N X.env.scope scope own) (hgs : TgOk X.K H0 b is gt) (hgs1 : TgOk X.K H0 b1 is1 gt1)
    (hg : ∀ (s0 : Shared) (H1 : Hp) (C : Addr) (cl : List (Str × Addr)) (fp : List Addr), PG (bk X scope s0 H1 C cl fp) tg gt) (hg1 : ∀ (s0 : Shared) (H1 : Hp) (C : Addr) (cl : List (Str × Addr)) (fp : List Addr), PG (bk X scope s0 H1 C cl fp) tg1 gt1)
    (ht : ∀ (s0 : Shared) (H1 : Hp) (C : Addr) (cl : List (Str × Addr)) (fp : List Addr), PBs G (bk X scope s0 H1 C cl fp) H0 ifs ct)
    (hi1 : ∀ (s0 : Shared) (H1 : Hp) (C : Addr) (cl : List (Str × Addr)) (fp : List Addr), PIt G (bk X scope s0 H1 C cl fp) (wE fun _ _ _ => False) H0 tg1 iter1 f1)
    (ht1 : ∀ (s0 : Shared) (H1 : Hp) (C : Addr) (cl : List (Str × Addr)) (fp : List Addr), PBs G (bk X scope s0 H1 C cl fp) H0 ifs1 ct1)
    (he : ∀ (s0 : Shared) (H1 : Hp) (C : Addr) (cl : List (Str × Addr)) (fp : List Addr), PD G (bk X scope s0 H1 C cl fp) (wE fun _ _ _ => False) H0 elt fe)
    (hy : X.N[i]? = some y := by rfl) (hyl : X.env.scope.names.lookup y = some .local := by rfl) (hk : X.env.scope.kind = .function := by rfl) (hl : (py.line == pos.line) = true := by rfl)
    (ha : (scope.names.any fun (n, k) => n == y && (k == .local || k == .cell)) = false := by rfl)
    (hv : ∀ j ∈ is, j ∈ own.map (·.2) := by decide) (hv1 : ∀ j ∈ is1, j ∈ vs1 := by decide) (hv2 : ∀ j ∈ vs1, j ∈ own.map (·.2) := by decide) (hs : ∀ x, foldedSetIterable iter X.env x = pure x := by intro _; rfl) (hs1 : ∀ env x, foldedSetIterable iter1 env x = pure x := by intro _ _; rfl) :
    PSt G X E H0 (.Assign [.Name y py] (.ListComp elt [⟨tg, iter, ifs, 0⟩, ⟨tg1, iter1, ifs1, 0⟩] scope pos) spos) (sSet i (nFz (nLc2 f b (own.map (·.2)) ct f1 b1 vs1 ct1 fe))) := by
  intro B r s0 σ T al H Dn S q
  refine rdS1 (ps_setLc2 hc hN hy hyl (sw_true hk hyl hl ha) pi_rd ok hv2 hg pts_tT pi_tI hg1 pts_tT pe_tE hs hs1) ?_
  show tLc2 _ _ _ _ _ _ _ _ _ σ H (fun x H1 => gName i x σ H1 Dn.nx)
  refine lc2_read hi hgs hv ht hi1 hgs1 hv1 ht1 he S.sl S.wi ?_
  have q' : PostS G X E H0 B Dn ((nLc2 f b (own.map (·.2)) ct f1 b1 vs1 ct1 fe r >>= fun xs => (pure (Fl.nx (r.set i (some (.d (.lst xs))))) : Mo Fl)) s0) := by
    have h : (sSet i (nFz (nLc2 f b (own.map (·.2)) ct f1 b1 vs1 ct1 fe)) r) s0 = (nLc2 f b (own.map (·.2)) ct f1 b1 vs1 ct1 fe r >>= fun xs => (pure (Fl.nx (r.set i (some (.d (.lst xs))))) : Mo Fl)) s0 := by
      show (((nLc2 f b (own.map (·.2)) ct f1 b1 vs1 ct1 fe r) >>= fun xs => pure (Pi.D.lst xs)) >>= fun x => (pure (Fl.nx (r.set i (some (.d x)))) : Mo Fl)) s0 = _
      rw [bind_ap, bind_ap, bind_ap]
      cases nLc2 f b (own.map (·.2)) ct f1 b1 vs1 ct1 fe r s0 <;> rfl
    rw [← h]
    exact q
  refine seqS S q' fun xs st1 v T1 al1 H1 x1 S1 r1 q1 => ?_
  obtain ⟨p, vs, rfl, n0, tp, hp, rs⟩ := r1
  have nz : H0 p = none := S.ex.free n0
  refine q1 _ (tset T1 p .frz) al1 H1 (S1.tag nz (by rw [tp]; decide) (by rw [tp]; decide) hp ?_)
  refine (S1.sl.retag tp).setD (.lst (fz_of tset_same hp) (rs.mono (fz_tset (by rw [tp]; decide)) ⟨[], by simp⟩))
end
end Pi
namespace Pi
open PySem PySem.Spec PyProof.Rows L2
section
variable {G : GX} {X : Cx}
end
end Pi
namespace Pi
open PySem PySem.Spec PyProof.Rows L2 LamX

structure LamD (sc scope : Scope) (N : List Str) (d : Str) : Prop where
  kind : scope.kind = .function
  co : scope.isCoroutine = false
  gen : scope.isGenerator = false
  cell : ∀ y ∈ scope.names, y.2 ≠ .cell
  loc : ∀ y ∈ scope.names, y.2 = .local → y.1 ∉ N
  has1 : scope.names.lookup d = some .local
  free : ∀ y ∈ scope.names, y.2 = .free → sc.names.lookup y.1 = some .cell ∨ sc.names.lookup y.1 = some .free
def lamDB (sc scope : Scope) (N : List Str) (d : Str) : Bool :=
  decide (scope.kind = .function) && !scope.isCoroutine && !scope.isGenerator && decide (scope.names.lookup d = some .local) && scope.names.all fun y => !decide (y.2 = .cell) && (!decide (y.2 = .local) || !decide (y.1 ∈ N)) && (!decide (y.2 = .free) || decide (sc.names.lookup y.1 = some .cell) || decide (sc.names.lookup y.1 = some .free))
theorem lamD_by {sc scope : Scope} {N : List Str} {d : Str} (h : lamDB sc scope N d = true) : LamD sc scope N d := by
  unfold lamDB at h
  simp only [Bool.and_eq_true, Bool.or_eq_true, Bool.not_eq_true', decide_eq_true_eq, decide_eq_false_iff_not, List.all_eq_true] at h
  obtain ⟨⟨⟨⟨h1, h2⟩, h3⟩, h5⟩, h4⟩ := h
  refine ⟨h1, h2, h3, fun y hy => (h4 y hy).1.1, fun y hy e => ?_, h5, fun y hy e => ?_⟩
  · rcases (h4 y hy).1.2 with z | z
    · exact absurd e z
    · exact z
  · rcases (h4 y hy).2 with (z | z) | z
    · exact absurd e z
    · exact .inl z
    · exact .inr z
theorem LamD.has {X : Cx} {scope : Scope} {N : List Str} {d : Str} (L : LamD X.env.scope scope N d) (ok : X.Ok) : ∀ y ∈ scope.names, y.2 = .free → ∃ c, X.env.cells.lookup y.1 = some c := fun y hy e => by
  rcases L.free y hy e with k | k
  · exact ok.has _ (.inl k)
  · exact ok.has _ (.inr k)
abbrev ldObj (q : Str) (params : Arguments) (body : Expr) (scope : Scope) (cl : List (Str × Addr)) (T : Addr) (doc pm : Value) (c' : Addr) (ctv : Value) : Obj := PySem.W.kdv_obj "<lambda>" q params (.expr body) scope cl (.ref T) doc pm c' ctv
abbrev ldTup (v : Value) : Obj := PySem.W.kdv_tup [v]
section
variable {X : Cx} {pins : List (Addr × Obj)} {σ : L2.St} {H HZ : Hp} {s s1 : Shared}
theorem lam_tail {T : List (Addr × Str)} {c P : Addr} {params : Arguments} {body : Expr} {scope : Scope} {pos : Pos} {dV : Value} {E : Value → Shared → Prop} {Q : Value → Shared → Prop} (I : Inv X pins σ H s) (TB : TabB X.base X.mg c P) (hcode : X.env.code = .ref c)
    (hm : (P, X.env.qual ++ "<lambda>") ∈ T) (hu : ∀ p ∈ T, p.1 = P → p.2 = X.env.qual ++ "<lambda>") (hT : Tabs T H) (hfree : ∀ y ∈ scope.names, y.2 = .free → ∃ c, X.env.cells.lookup y.1 = some c)
    (h : ∀ (f c' : Addr) (pm ctv doc : Value) (H1 : Hp) (s' : Shared), Inv X pins σ H1 s' → (∀ b o, H b = none → s.heap.get? b = some o → s'.heap.get? b = some o) → (∀ b, s.heap.objs.size ≤ b → H b = none) → (∀ b, b < s.heap.objs.size → H b = none → H1 b = none) → LamH H H1 (X.env.qual ++ "<lambda>") → Tabs T H1 →
      s'.heap.get? f = some (PySem.W.kdv_obj "<lambda>" (X.env.qual ++ "<lambda>") params (.expr body) scope (cloFrom X.env.cells scope.names []) dV doc pm c' ctv) → H1 f = none → f ∉ frs X.stack → H1 c' = some (CodeO c' (X.env.qual ++ "<lambda>")) → Q (.ref f) s') :
    wpAny (model X.prog X.w) X.A (makeTail "<lambda>" (X.env.qual ++ "<lambda>") params (.expr body) scope X.env dV .none none pos pos.line) Q E s := by
  obtain ⟨ps, hP, ht, ha⟩ := hT _ hm
  have bP : s.heap.BuiltinsAt X.mg P := TB.bm.keeps I.bk
  have gP : s.heap.get? P = some { cls := .none, data := .fields ps } := I.hok P _ hP
  have out : ∀ f, s.heap.objs.size ≤ f → f ∉ frs X.stack := fun f hf z => by
    rcases List.mem_cons.mp (I.stkSub _ z) with e | e
    · have h1 := I.lt
      rw [← e] at h1
      exact Nat.lt_irrefl _ (Nat.lt_of_lt_of_le h1 hf)
    · exact I.nofs hf e
  have fr0 : ∀ b, s.heap.objs.size ≤ b → H b = none := fun b hb => I.hok.fresh hb
  cases hc : codeAmong pos ps.toList with
  | some cv =>
    obtain ⟨c', e, hco⟩ := ha pos cv hc
    subst e
    refine PySem.W.kdv_makeTailHit (mg := X.mg) (c := c) (P := P) (ps := ps) (closure_ok hfree) I.ok.glob (I.mod.glob.keeps I.bk) hcode (TB.code.keeps I.bk) gP ht hc bP fun ctv doc h' tk hx hsz => ?_
    exact h h'.objs.size c' ((X.mg "__name__").getD .none) ctv doc H _ (I.kept fun b o e => Heap.get?_push_of_some _ (hx b o e)) (fun b o _ e => Heap.get?_push_of_some _ (hx b o e)) fr0 (fun b _ e => e) (.inl rfl) hT (Heap.get?_push_size _ rfl) (I.hok.fresh hsz) (out _ hsz) hco
  | none =>
    refine PySem.W.kdv_makeTail (mg := X.mg) (c := c) (P := P) (ps := ps) (closure_ok hfree) I.ok.glob (I.mod.glob.keeps I.bk) hcode (TB.code.keeps I.bk) gP ht hc TB.gP bP fun c' ctv doc h' tk hx hge hlt hrec htb => ?_
    obtain ⟨c2, oc, vs, t, e2, hoc, hd, hv⟩ := hrec
    cases e2
    have hsz : s.heap.objs.size ≤ h'.objs.size := Nat.le_trans hge (Nat.le_of_lt hlt)
    have nC : H c' = none := I.hok.fresh hge
    have nPc : P ≠ c' := ne_of_none hP nC
    have I1 := inv_table (t' := tk) (more := #[rawInt pos.line, rawInt pos.col, .ref c']) (h' := h'.push (PySem.W.kdv_obj "<lambda>" (X.env.qual ++ "<lambda>") params (.expr body) scope (cloFrom X.env.cells scope.names []) dV doc ((X.mg "__name__").getD .none) c' ctv)) I hP
      (fun b o hb e => Heap.get?_push_of_some _ (hx b o hb e)) (Heap.get?_push_of_some _ htb) hge ⟨oc, vs, t, Heap.get?_push_of_some _ hoc, hd, hv⟩
    have keep : ∀ b o, H b = some o → NT o → upd (upd H P (.tbl (ps ++ #[rawInt pos.line, rawInt pos.col, .ref c']))) c' (CodeO c' (X.env.qual ++ "<lambda>")) b = some o := fun b o e n => by
      rw [upd_ne (ne_of_none e nC), upd_ne (fun z => n ps (by rw [z, hP] at e; exact (Option.some.inj e).symm))]
      exact e
    refine h h'.objs.size c' ((X.mg "__name__").getD .none) ctv doc _ _ I1 (fun b o n e => Heap.get?_push_of_some _ (hx b o (fun z => by rw [z, hP] at n; cases n) e)) fr0 (fun b hb e => by rw [upd_ne (Nat.ne_of_lt (Nat.lt_of_lt_of_le hb hge)), upd_ne (fun z => by rw [z, hP] at e; cases e)]; exact e) (.inr ⟨P, c', ps, _, hP, nC, nPc, rfl⟩) (fun p hp => ?_) (Heap.get?_push_size _ rfl) ?_ (out _ hsz) upd_same
    · obtain ⟨ps', a1, a2, a3⟩ := hT p hp
      by_cases hb : p.1 = P
      · rw [hu p hp hb, hb]
        have eL : (ps ++ #[rawInt pos.line, rawInt pos.col, .ref c']).toList = ps.toList ++ [rawInt pos.line, rawInt pos.col, .ref c'] := by simp
        refine ⟨_, by rw [upd_ne nPc, upd_same], by rw [eL]; exact PySem.TriplesOk_snoc _ _ _ _ ht, fun p' cv hcv => ?_⟩
        rw [eL] at hcv
        rcases among_app _ ht hcv with z | z
        · obtain ⟨c0, e1, e2⟩ := ha p' cv z
          exact ⟨c0, e1, keep _ _ e2 code_nt⟩
        · exact ⟨c', z, upd_same⟩
      · refine ⟨ps', by rw [upd_ne (ne_of_none a1 nC), upd_ne hb]; exact a1, a2, fun p' cv hcv => ?_⟩
        obtain ⟨c0, e1, e2⟩ := a3 p' cv hcv
        exact ⟨c0, e1, keep _ _ e2 code_nt⟩
    · have n1 : h'.objs.size ≠ c' := Nat.ne_of_gt hlt
      have n2 : h'.objs.size ≠ P := Nat.ne_of_gt (Nat.lt_of_lt_of_le (Heap.lt_size gP) hsz)
      rw [upd_ne n1, upd_ne n2]
      exact I.hok.fresh hsz
theorem lam_newd {T : List (Addr × Str)} {c P : Addr} {params : Arguments} {body : Expr} {scope : Scope} {pos p0 : Pos} {j0 : Nat} {i0 : Int} {E : Value → Shared → Prop} {Q : Value → Shared → Prop} (I : Inv X pins σ H s) (TB : TabB X.base X.mg c P) (hcode : X.env.code = .ref c)
    (hm : (P, X.env.qual ++ "<lambda>") ∈ T) (hu : ∀ p ∈ T, p.1 = P → p.2 = X.env.qual ++ "<lambda>") (hT : Tabs T H) (hdf : params.defaults = [.Constant (.int i0) j0 p0]) (hk0 : params.kw_defaults = []) (hfree : ∀ y ∈ scope.names, y.2 = .free → ∃ c, X.env.cells.lookup y.1 = some c)
    (h : ∀ (f c' t : Addr) (v pm ctv doc : Value) (H1 : Hp) (s' : Shared), Inv X pins σ H1 s' → LamH H H1 (X.env.qual ++ "<lambda>") → Tabs T H1 →
      s'.heap.get? f = some (ldObj (X.env.qual ++ "<lambda>") params body scope (cloFrom X.env.cells scope.names []) t doc pm c' ctv) → H1 f = none → f ∉ frs X.stack → H1 c' = some (CodeO c' (X.env.qual ++ "<lambda>")) →
      s'.heap.get? t = some (ldTup v) → H1 t = none → t ∉ frs X.stack → Q (.ref f) s') :
    wpAny (model X.prog X.w) X.A (eval (.Lambda params body scope pos) X.env) Q E s := by
  refine PySem.W.kdv_lam (by rw [hdf]; rfl) hk0 ?_
  rw [hdf]
  refine PySem.W.kdv_all1 (thn ((pe_int (X := X) (i := i0) (j := j0) (pos := p0)).run pins s σ H (fun v H1 => H1 = H) I rfl) fun u s1 ⟨v, H1, I1, r1, eH⟩ => PySem.W.kdv_all0 ?_)
  rw [eH] at I1
  rw [makeFunction_eq]
  simp only [List.zip_nil_right, List.filterMap_nil, List.isEmpty_nil, if_true, pure_bind, List.isEmpty_cons, Bool.false_eq_true, if_false]
  refine wpAny_bind (wpAny_newTextTuple ?_)
  have I2 : Inv X pins σ H { s1 with heap := s1.heap.push (ldTup u) } := I1.kept fun b o e => Heap.get?_push_of_some _ e
  have out : s1.heap.objs.size ∉ frs X.stack := fun z => by
    rcases List.mem_cons.mp (I1.stkSub _ z) with e | e
    · have h1 := I1.lt
      rw [← e] at h1
      exact Nat.lt_irrefl _ h1
    · exact I1.nofs (Nat.le_refl _) e
  have nT : H s1.heap.objs.size = none := I1.hok.fresh (Nat.le_refl _)
  refine lam_tail I2 TB hcode hm hu hT hfree fun f c' pm ctv doc H1 s' I3 keep fr0 fr1 lh T1 hf hfn hfr hco => ?_
  exact h f c' s1.heap.objs.size u pm ctv doc H1 s' I3 lh T1 hf hfn hfr hco (keep _ _ nT (Heap.get?_push_size _ rfl)) (fr1 _ (by rw [Heap.size_push]; exact Nat.lt_succ_self _) nT) out
theorem ld_start {A : Around} {outer : List PySem.Env} {E : XK} {scope : Scope} {d : Str} {f c' : Addr} {h₁ : Heap} {tk : Nat} {nsf : Str → Option Value} (I : Inv X pins σ H s) (L : LamD X.env.scope scope X.N d) (e0 : Env0 X.prog X.w X.K X.mg X.base A outer s1 HZ) (hd : A.handled = none)
    (un : Un (frs X.stack) [] H HZ s.heap s1.heap) (hns : h₁.Ns s1.heap.objs.size nsf) (kp : ∀ b o, s1.heap.get? b = some o → h₁.get? b = some o) :
    Inv (lamCx X A outer s1 HZ E scope f c') [] σ HZ { s1 with heap := h₁, toks := tk } := by
  have have1 : ∀ {y c}, (cloFrom X.env.cells scope.names []).lookup y = some c → X.env.cells.lookup y = some c := fun {y c} e => by
    rcases cloFrom_mem (PySem.mem_of_lookup e) with hm | ⟨h1, h2⟩
    · cases hm
    · obtain ⟨c1, hc⟩ := L.has I.ok _ h1 rfl
      have hc : X.env.cells.lookup y = some c1 := hc
      have e2 : c = c1 := by
        rw [h2, hc] <;> rfl
      rw [e2]
      exact hc
  have seen : ∀ {y}, scope.names.lookup y = some .free → ∃ c, (cloFrom X.env.cells scope.names []).lookup y = some c := fun {y} hl =>
    mem_lookup (cloFrom_has (cells := X.env.cells) (acc := []) (PySem.mem_of_lookup hl))
  have stay : ∀ {c : Addr} {v : Option Value}, H c = none → s.heap.IsCell c v → h₁.IsCell c v := fun {c v} n ⟨o, ho, hd⟩ => by
    obtain ⟨sl, q⟩ := un.any ho n (by simp)
    exact ⟨_, kp _ _ q, hd⟩
  have none1 : ∀ b : Addr, b ∉ (lamCx X A outer s1 HZ E scope f c').ex := fun b z => absurd (show b ∈ ([] : List Addr) from z) (by simp)
  refine ⟨⟨e0.mod, L.kind, rfl, rfl, Nat.le_refl _, fun y z c e1 e2 => I.ok.inj y z c (have1 e1) (have1 e2), fun y hy => ?_, fun y c z _ => ?_, fun _ => hd, Around.frames_deeper e0.frames, .inr ⟨rfl, rfl⟩, fun b z => absurd z (none1 b), e0.bs, e0.bsz, fun b _ _ => none1 b,
      fun b z => absurd z (none1 b), e0.funs, e0.frf⟩,
    rfl, e0.bare, Un.kept kp, ⟨_, hns, fun i y v e1 e2 e3 => ?_⟩, fun y c e => ?_, e0.hok.fresh (Nat.le_refl _), fun y c e => ?_, fun q hq => absurd (show q ∈ ([] : List (Addr × Obj)) ++ [] from hq) (by simp), e0.hok.kept kp, I.len⟩
  · have hy : scope.names.lookup y = some .cell ∨ scope.names.lookup y = some .free := hy
    rcases hy with hy | hy
    · exact absurd rfl (L.cell _ (PySem.mem_of_lookup hy))
    · exact seen hy
  · have z : false = true := z
    cases z
  · have e3 : Vis scope y := e3
    rcases e3 with k | k | k
    · have e1 : X.N[i]? = some y := e1
      exact absurd (List.mem_of_getElem? e1) (L.loc _ (PySem.mem_of_lookup k) rfl)
    · exact absurd rfl (L.cell _ (PySem.mem_of_lookup k))
    · obtain ⟨m, hn, hl⟩ := I.loc
      have hvis : Vis X.env.scope y := (L.free _ (PySem.mem_of_lookup k) rfl).elim (fun k => .inr (.inl k)) (fun k => .inr (.inr k))
      obtain ⟨w', r, q⟩ := hl i y v e1 e2 hvis
      obtain ⟨c2, h2⟩ := seen k
      refine ⟨w', r, .inr ⟨.inr k, c2, h2, ?_⟩⟩
      have c1 := have1 h2
      rcases q with ⟨k', _⟩ | ⟨_, c3, e', z⟩
      · have k' : X.env.scope.names.lookup y = some .local := k'
        rcases L.free _ (PySem.mem_of_lookup k) rfl with k2 | k2 <;> rw [show X.env.scope.names.lookup y = _ from k2] at k' <;> cases k'
      · rw [c1] at e'
        cases e'
        exact stay (I.freeC y _ c1) z
  · obtain ⟨w', z⟩ := I.cell y c (have1 e)
    exact ⟨w', stay (I.freeC y c (have1 e)) z⟩
  · obtain ⟨v, o, ho, hd⟩ := I.cell y c (have1 e)
    exact un.free c o ho (I.freeC y c (have1 e)) (by simp)
def LdBind (params : Arguments) (body : Expr) (scope : Scope) (d : Str) : Prop := ∀ (M : Model) (A : Around) (E : Value → Shared → Prop) (Q : List (Str × Value) → Shared → Prop) (s : Shared) (q : Str) (cl : List (Str × Addr)) (t : Addr) (v doc pm cv ctv : Value),
  s.heap.get? t = some (ldTup v) → Q [(d, v)] s → wpAny M A (bindArgs (PySem.W.kdv_fn "<lambda>" q params (.expr body) scope cl (.ref t) doc pm cv ctv) ⟨[], []⟩) Q E s
theorem act_rund {Ng : List Str} {d : Str} {t0 : Addr} {v0 doc : Value} {qg : Str} {sg : Scope} {g f c' : Addr} {cdg pm ctv : Value} {params : Arguments} {body : Expr} {scope : Scope} {k : Nat} {a : Str} {pn : List (Addr × Obj)} {xe : Value → Shared → Prop} {W : WX} {p1 p2 : Pos} {σZ : L2.St} {HZ : Hp} {Q : VK}
    (I : Inv X pins σ H s) (L : LamD X.env.scope scope X.N d) (hf : s.heap.get? f = some (ldObj (X.env.qual ++ "<lambda>") params body scope (cloFrom X.env.cells scope.names []) t0 doc pm c' ctv)) (hfn : H f = none) (hfr : f ∉ frs X.stack)
    (hbind : LdBind params body scope d) (ht : s.heap.get? t0 = some (ldTup v0)) (htn : H t0 = none) (htr : t0 ∉ frs X.stack)
    (tk : Takes ((tcx X Ng qg sg g cdg s H).tr pn xe) W) (hr : Room (k + 1) (X.A.deeper (tenv qg sg s g cdg))) (hN : Ng[0]? = some a) (hv : Vis sg a) (h0 : σZ[0]? = some (some (.ref f))) (hc : HZ c' = some (CodeO c' (X.env.qual ++ "<lambda>")))
    (hbody : ∀ s2 : Shared, Room k ((X.A.deeper (tenv qg sg s g cdg)).deeper (lamEnv X scope s2.heap.objs.size f c')) → RdE (lamCx X (X.A.deeper (tenv qg sg s g cdg)) (tenv qg sg s g cdg :: X.stack) s2 HZ (WE W σZ) scope f c') body σ HZ Q)
    (hd : (a == ("__debug__" : Str)) = false := by decide) (hcd : (a == ("__classdict__" : Str)) = false := by decide) : RdE ((tcx X Ng qg sg g cdg s H).tr pn xe) (.Call (.Name a p1) [] [] p2) σZ HZ Q := by
  intro pinsZ sZ IZ
  refine wpAny_Call_Name_kw (thn ((pe_var (X := (tcx X Ng qg sg g cdg s H).tr pn xe) (pos := p1) (i := 0) hN hv hd hcd).run pinsZ sZ σZ HZ (fun v H1 => v = .ref f ∧ H1 = HZ) IZ ⟨.ref f, h0, rfl, rfl⟩) fun u s1 ⟨v, H1, I1, r1, ev, eH⟩ => ?_)
  subst ev
  rw [eH] at I1
  obtain rfl : u = Value.ref f := r1
  have of1 : s1.heap.get? f = some (ldObj (X.env.qual ++ "<lambda>") params body scope (cloFrom X.env.cells scope.names []) t0 doc pm c' ctv) := I1.base.keep f _ hf hfn hfr (fun z => nomatch (show f ∈ ([] : List Addr) from z))
  have ot1 : s1.heap.get? t0 = some (ldTup v0) := I1.base.keep t0 _ ht htn htr (fun z => nomatch (show t0 ∈ ([] : List Addr) from z))
  have un : Un (frs X.stack) [] H HZ s.heap s1.heap := I1.base
  obtain ⟨⟨oc, vs, t, hoc, hdc, hvc⟩, _, _⟩ := I1.hok c' _ hc
  refine PySem.W.callWith_F0 ⟨_, _, _, _, of1⟩ ?_
  have rc : codeAny (model X.prog X.w) (X.A.deeper (tenv qg sg s g cdg)) (.call (.ref f) ⟨[], []⟩) (CR (L2.CX X.prog X.w) (tenv qg sg s g cdg :: X.stack) X.prog X.w HZ s1 Q (WE W σZ)) s1 := by
    refine PySem.W.kla_callFunE hr.depth of1 rfl L.co L.gen rfl ⟨c', oc, vs, t, rfl, hoc, hdc, hvc⟩ ?_
    refine hbind _ _ _ _ _ _ _ _ _ _ _ _ _ ot1 ?_
    refine (wpAny_newFunctionEnv (fun y hy => L.cell y hy) (fun y hy => by rw [List.mem_singleton.mp hy]; exact L.has1) (fun h₁ hns hsb => ⟨I1.nolimit.fresh _ hsb, ?_⟩) L.kind)
    show codeAny _ _ (.expr body (lamEnv X scope s1.heap.objs.size f c')) _ _
    have kp : ∀ b o, s1.heap.get? b = some o → h₁.get? b = some o := fun b o e => hsb.extBut b o (Nat.ne_of_lt (Heap.lt_size e)) (Heap.get?_push_of_some _ e)
    have J := ld_start (E := WE W σZ) (tk := s1.toks + [(d, v0)].length) (f := f) (c' := c') I L I1.env0 hr.hd un hns kp
    refine PySem.W.kla_codeExpr (wpAny_mono (hbody s1 (hr.deeper _) [] _ J) (fun v s' hq => ?_) fun e s' hq => hq)
    obtain ⟨w', H', J', rv, q⟩ := hq
    exact ⟨w', H', J'.os, J'.bare, J'.base, J'.hok, rv, q⟩
  refine wpAny_call (codeAny_mono rc fun r s' hq => ?_)
  cases r with
  | error e => exact passAt tk σZ pinsZ HZ s1 e s' I1 hq
  | ok fl =>
    cases fl with
    | ret u => exact I1.after hq
    | next => exact False.elim hq
    | brk => exact False.elim hq
    | cont => exact False.elim hq
theorem ldBind_by {params : Arguments} {body : Expr} {scope : Scope} {d : Str} (h : ∀ (v : Value) (q : Str) (cl : List (Str × Addr)) (t : Addr) (doc pm cv ctv : Value), ∃ k : Option (Array Value) → Sem (List (Str × Value)), bindArgs (PySem.W.kdv_fn "<lambda>" q params (.expr body) scope cl (.ref t) doc pm cv ctv) ⟨[], []⟩ = (seqItems? (.ref t) >>= k) ∧ k (some #[v]) = pure [(d, v)]) : LdBind params body scope d :=
  fun M A E Q s q cl t v doc pm cv ctv ht hq => by
    obtain ⟨k, e1, e2⟩ := h v q cl t doc pm cv ctv
    exact BindsTo.of_defaults (T := t) (k := k) (binds := [(d, v)]) rfl ht rfl e1 e2 M A E Q hq
end
section
variable {G : GX} {X : Cx} {pins : List (Addr × Obj)} {σ : L2.St} {H H0 : Hp} {s : Shared}
end
section
variable {G : GX} {X : Cx} {W : WX} {H0 : Hp} {p lpos pos : Pos}
end
end Pi
namespace Pi
open PySem PySem.Spec PyProof.Rows L2 LamX

section
variable {G : GX} {X : Cx} {W : WX} {H0 : Hp}
end
section
variable {G : GX} {P : Program} {w : World} {K : PySem.W.Frag} {mg : Str → Option Value} {base : Heap} {k : Nat} {f : Addr} {fd : FuncData} {N ps names : List Str} {is : List Nat} {x : Str} {st : Stmt}
end
section
variable {G : GX} {X : Cx} {W : WX} {H0 : Hp} {x : Str} {n k : Nat} {m : List D → Mo D} {p pos : Pos} {names : List Str} {is : List Nat} {kws : List Keyword}
end
end Pi
namespace Pi
open PySem PySem.Spec PyProof.Rows L2

abbrev KP := List Int × Int
section
variable {prog : Program} {w : World} {A : Around} {E : Value → Shared → Prop} {s : Shared}
def IsKP (h : Heap) (v : Value) (k : KP) : Prop := ∃ (a b : Addr) (t : Tok) (its : List Value), v = .ref a ∧ h.IsTuple a #[.ref b, .int k.2 t] ∧ h.IsTuple b its.toArray ∧ IntsAre its k.1
theorem IsKP.keeps {h h' : Heap} {v : Value} {k : KP} (x : IsKP h v k) (e : ∀ b o, h.get? b = some o → o.cls = .type "tuple" → h'.get? b = some o) : IsKP h' v k := by
  obtain ⟨a, b, t, its, rfl, ⟨o, h1, h2, h3⟩, ⟨o', h4, h5, h6⟩, h7⟩ := x
  exact ⟨a, b, t, its, rfl, ⟨o, e _ _ h1 h2, h2, h3⟩, ⟨o', e _ _ h4 h5, h5, h6⟩, h7⟩
end

section
variable {G : GX} {X : Cx}
end
end Pi
namespace Pi
open PySem PySem.Spec PyProof.Rows L2
section
variable {G : GX} {X : Cx}
end
end Pi
namespace Pi
open PySem PySem.Spec PyProof.Rows L2

def SIt (b : Bool) (h : Heap) (it l : Addr) (k : Nat) : Prop := match b with
  | true => h.IsListIter it l k
  | false => h.IsTupleIter it l k
def SSq (b : Bool) (h : Heap) (l : Addr) (xs : Array Value) : Prop := match b with
  | true => h.IsList l xs
  | false => h.IsTuple l xs
theorem SIt.at {b : Bool} {h h' : Heap} {it l : Addr} {k : Nat} (x : SIt b h it l k) (e : ∀ o, h.get? it = some o → h'.get? it = some o) : SIt b h' it l k := by
  cases b with
  | false => exact Heap.IsTupleIter.at x e
  | true => exact Heap.IsListIter.at x e
theorem SSq.at {b : Bool} {h h' : Heap} {l : Addr} {xs : Array Value} (x : SSq b h l xs) (e : ∀ o, h.get? l = some o → h'.get? l = some o) : SSq b h' l xs := by
  cases b with
  | false => exact let ⟨o, ho, r⟩ := x; ⟨o, e o ho, r⟩
  | true => exact let ⟨o, ho, r⟩ := x; ⟨o, e o ho, r⟩
theorem SIt.obj {b : Bool} {h : Heap} {it l : Addr} {k : Nat} (x : SIt b h it l k) : ∃ o fs, h.get? it = some o ∧ o.data = .fields fs := by
  cases b with
  | false => obtain ⟨o, h1, _, h2⟩ := x; exact ⟨o, _, h1, h2⟩
  | true => obtain ⟨o, h1, _, h2⟩ := x; exact ⟨o, _, h1, h2⟩
theorem SSq.lt {b : Bool} {h : Heap} {l : Addr} {xs : Array Value} (x : SSq b h l xs) : l < h.objs.size := by
  cases b with
  | false => exact let ⟨o, ho, r⟩ := x; Heap.lt_size ho
  | true => exact let ⟨o, ho, r⟩ := x; Heap.lt_size ho
section
variable {prog : Program} {w : World} {A : Around} {E : Value → Shared → Prop} {s : Shared}
theorem nextOf_it {b : Bool} {it l : Addr} {i : Nat} {items : Array Value} {x : Value} {Q : Value → Shared → Prop} (hit : SIt b s.heap it l i) (hl : SSq b s.heap l items) (hx : items[i]? = some x)
    (hQ : ∀ h', SIt b h' it l (i + 1) → Heap.SameBut it s.heap h' → Q x { s with heap := h' }) : wpAny (model prog w) A (Builtin.SmallTypes.nextOf (.ref it)) Q E s := by
  cases b with
  | false => exact RZ.nextOf_tuple_item hit hl hx hQ
  | true => exact wpAny_nextOf_list_item hit hl hx hQ
theorem nextOf_no {b : Bool} {it l : Addr} {i : Nat} {items : Array Value} {Q : Value → Shared → Prop} (hh : A.handled = none) (hit : SIt b s.heap it l i) (hl : SSq b s.heap l items) (hx : items[i]? = none)
    (hE : ∀ h' e, Heap.ExtBut it s.heap h' → (∃ o, h'.get? e = some o ∧ o.cls = .type "StopIteration") → E (.ref e) { s with heap := h' }) : wpAny (model prog w) A (Builtin.SmallTypes.nextOf (.ref it)) Q E s := by
  cases b with
  | false => exact RZ.nextOf_tuple_end hh hit hl hx hE
  | true => exact wpAny_nextOf_list_end hh hit hl hx hE
structure Dw where
  it : Addr
  l : Addr
  b : Bool
  xs : Array Value
abbrev IsTp (h : Heap) (T : Addr) (ys : List Value) : Prop := h.get? T = some { cls := .type "tuple", data := .seq ys.toArray }
theorem upd_tp {T : Addr} {ys : List Value} {x : Value} {k : Nat} {Q : Unit → Shared → Prop} (hT : IsTp s.heap T ys) (hz : ys.length ≤ sizeLine)
    (h : ∀ h', IsTp h' T (ys.set k x) → Heap.SameBut T s.heap h' → Q () { s with heap := h' }) : wpAny (model prog w) A (updateSeq T (·.setIfInBounds k x)) Q E s := by
  refine wpAny_updateSeq hT rfl (h _ ?_ (Heap.SameBut.update ..)) (by rw [List.size_toArray]; exact hz) (by rw [Array.size_setIfInBounds, List.size_toArray]; omega)
  show _ = _
  rw [Heap.get?_update_self _ hT rfl]
  simp [Obj.mapSeq]
theorem zipN_loop {β : Type} {b0 : β} {body : Value × Nat → β → Sem (ForInStep β)} {TO : Addr} {k : Nat} {R : β → Shared → Prop}
    (hb : ∀ (d : Dw) (x : Value) (ys : List Value) (j : Nat) (s : Shared) (R' : ForInStep β → Shared → Prop), SIt d.b s.heap d.it d.l k → SSq d.b s.heap d.l d.xs → d.xs[k]? = some x → IsTp s.heap TO ys → ys.length ≤ sizeLine → d.it ≠ TO →
      (∀ h', SIt d.b h' d.it d.l (k + 1) → IsTp h' TO (ys.set j x) → (∀ c o, c ≠ d.it → c ≠ TO → s.heap.get? c = some o → h'.get? c = some o) → h'.objs.size = s.heap.objs.size → R' (.yield b0) { s with heap := h' }) →
      wpAny (model prog w) A (body (.ref d.it, j) b0) R' E s) : ∀ (rest : List Dw) (vals done old : List Value) (s : Shared), old.length = rest.length → Paired (fun (d : Dw) (x : Value) => d.xs[k]? = some x) rest vals →
    (∀ d ∈ rest, SIt d.b s.heap d.it d.l k ∧ SSq d.b s.heap d.l d.xs ∧ d.it ≠ TO ∧ d.l ≠ TO ∧ ∀ d' ∈ rest, d.l ≠ d'.it) → (rest.map (·.it)).Nodup → IsTp s.heap TO (done ++ old) → (done ++ old).length ≤ sizeLine →
    (∀ h', (∀ d ∈ rest, SIt d.b h' d.it d.l (k + 1)) → IsTp h' TO (done ++ vals) → (∀ c o, c ≠ TO → c ∉ rest.map (·.it) → s.heap.get? c = some o → h'.get? c = some o) → h'.objs.size = s.heap.objs.size → R b0 { s with heap := h' }) →
    wpAny (model prog w) A (forIn ((rest.map fun d => Value.ref d.it).zipIdx done.length) b0 body) R E s
  | [], vals, done, old, s, hl, hv, _, _, hT, _, hR => by
    cases hv
    have : old = [] := List.eq_nil_of_length_eq_zero hl
    subst this
    rw [List.map_nil, List.zipIdx_nil, List.forIn_nil]
    exact wpAny_pure (hR s.heap (fun _ h => by cases h) hT (fun _ _ _ _ h => h) rfl)
  | d :: rest, _, done, old, s, hl, .cons (b := x) (l₂ := vals) hx hv, hd, hn, hT, hZ, hR => by
    obtain ⟨o1, old, rfl⟩ : ∃ o1 old', old = o1 :: old' := by
      cases old with
      | nil => cases hl
      | cons a b => exact ⟨a, b, rfl⟩
    obtain ⟨n1, n2⟩ := List.nodup_cons.mp hn
    obtain ⟨d1, d2, d3, d4, d5⟩ := hd d List.mem_cons_self
    rw [List.map_cons, List.zipIdx_cons, List.forIn_cons]
    refine wpAny_bind (hb d x _ _ s _ d1 d2 hx hT hZ d3 fun h1 a1 a2 a3 a4 => ?_)
    have e1 : (done ++ o1 :: old).set done.length x = (done ++ [x]) ++ old := by simp
    rw [e1] at a2
    have ln : done.length + 1 = (done ++ [x]).length := by simp
    show wpAny (model prog w) A (forIn ((rest.map fun d => Value.ref d.it).zipIdx (done.length + 1)) b0 body) R E { s with heap := h1 }
    rw [ln]
    refine zipN_loop hb rest vals (done ++ [x]) old _ (by simpa using hl) hv (fun e he => ?_) n2 a2 (by simp only [List.length_append, List.length_cons, List.length_nil] at hZ ⊢; omega) fun h2 c1 c2 c3 c4 => ?_
    · obtain ⟨e1, e2, e3, e4, e5⟩ := hd e (List.mem_cons_of_mem _ he)
      have ne : e.it ≠ d.it := fun z => n1 (List.mem_map.mpr ⟨e, he, z⟩)
      exact ⟨e1.at fun o q => a3 _ o ne e3 q, e2.at fun o q => a3 _ o (e5 d List.mem_cons_self) e4 q, e3, e4, fun f hf => e5 f (List.mem_cons_of_mem _ hf)⟩
    · refine hR h2 (fun e he => ?_) (by rw [List.append_assoc] at c2; exact c2) (fun c o ct cn q => ?_) (c4.trans a4)
      · rcases List.mem_cons.mp he with z | z
        · subst z
          exact a1.at fun o q => c3 _ o d3 n1 q
        · exact c1 e z
      · have z : c ≠ d.it ∧ c ∉ rest.map (·.it) := by
          rw [List.map_cons] at cn
          exact ⟨fun z => cn (by rw [z]; exact List.mem_cons_self), fun z => cn (List.mem_cons_of_mem _ z)⟩
        exact c3 c o ct z.2 (a3 c o z.1 ct q)
theorem zipN_stop {β : Type} {b0 : β} {body : Value × Nat → β → Sem (ForInStep β)} {z TI TO : Addr} {f : Value} {k : Nat} {R : β → Shared → Prop}
    (hb : ∀ (d : Dw) (x : Value) (ys : List Value) (j : Nat) (s : Shared) (R' : ForInStep β → Shared → Prop), SIt d.b s.heap d.it d.l k → SSq d.b s.heap d.l d.xs → d.xs[k]? = some x → IsTp s.heap TO ys → ys.length ≤ sizeLine → d.it ≠ TO →
      (∀ h', SIt d.b h' d.it d.l (k + 1) → IsTp h' TO (ys.set j x) → (∀ c o, c ≠ d.it → c ≠ TO → s.heap.get? c = some o → h'.get? c = some o) → h'.objs.size = s.heap.objs.size → R' (.yield b0) { s with heap := h' }) →
      wpAny (model prog w) A (body (.ref d.it, j) b0) R' E s)
    (hbE : ∀ (d : Dw) (j : Nat) (s : Shared) (R' : ForInStep β → Shared → Prop), SIt d.b s.heap d.it d.l k → SSq d.b s.heap d.l d.xs → d.xs[k]? = none → IsZip s.heap z TI TO f → d.it ≠ z →
      (∀ h' e, (∀ c o, c ≠ z → c ≠ d.it → s.heap.get? c = some o → h'.get? c = some o) → (∃ o, h'.get? e = some o ∧ o.cls = .type "StopIteration") → E (.ref e) { s with heap := h' }) → wpAny (model prog w) A (body (.ref d.it, j) b0) R' E s) :
    ∀ (rest : List Dw) (ys : List Value) (j : Nat) (s : Shared), (∃ d ∈ rest, d.xs[k]? = none) →
    (∀ d ∈ rest, SIt d.b s.heap d.it d.l k ∧ SSq d.b s.heap d.l d.xs ∧ d.it ≠ TO ∧ d.it ≠ z ∧ d.l ≠ TO ∧ ∀ d' ∈ rest, d.l ≠ d'.it) → (rest.map (·.it)).Nodup → IsTp s.heap TO ys → ys.length ≤ sizeLine → IsZip s.heap z TI TO f → z ≠ TO →
    (∀ h' e, (∀ c o, c ≠ z → c ≠ TO → c ∉ rest.map (·.it) → s.heap.get? c = some o → h'.get? c = some o) → (∃ o, h'.get? e = some o ∧ o.cls = .type "StopIteration") → E (.ref e) { s with heap := h' }) →
    wpAny (model prog w) A (forIn ((rest.map fun d => Value.ref d.it).zipIdx j) b0 body) R E s
  | [], _, _, _, ⟨_, h, _⟩, _, _, _, _, _, _, _ => by cases h
  | d :: rest, ys, j, s, he, hd, hn, hT, hZ, hz, hzT, hE => by
    obtain ⟨n1, n2⟩ := List.nodup_cons.mp hn
    obtain ⟨d1, d2, d3, d3z, d4, d5⟩ := hd d List.mem_cons_self
    rw [List.map_cons, List.zipIdx_cons, List.forIn_cons]
    have cn : ∀ c, c ∉ (d :: rest).map (·.it) → c ≠ d.it ∧ c ∉ rest.map (·.it) := fun c q => by
      rw [List.map_cons] at q
      exact ⟨fun z => q (by rw [z]; exact List.mem_cons_self), fun z => q (List.mem_cons_of_mem _ z)⟩
    cases hx : d.xs[k]? with
    | none => exact wpAny_bind (hbE d j s _ d1 d2 hx hz d3z fun h' e a1 a2 => hE h' e (fun c o c1 c2 c3 q => a1 c o c1 (cn c c3).1 q) a2)
    | some x =>
      refine wpAny_bind (hb d x _ _ s _ d1 d2 hx hT hZ d3 fun h1 a1 a2 a3 a4 => ?_)
      have he' : ∃ d ∈ rest, d.xs[k]? = none := by
        obtain ⟨d', h1, h2⟩ := he
        rcases List.mem_cons.mp h1 with q | q
        · rw [q, hx] at h2
          cases h2
        · exact ⟨d', q, h2⟩
      show wpAny (model prog w) A (forIn ((rest.map fun d => Value.ref d.it).zipIdx (j + 1)) b0 body) R E { s with heap := h1 }
      refine zipN_stop hb hbE rest _ (j + 1) _ he' (fun e he => ?_) n2 a2 (by rw [List.length_set]; exact hZ) (a3 _ _ (fun q => d3z q.symm) hzT hz) hzT fun h' e b1 b2 => hE h' e (fun c o c1 c2 c3 q => b1 c o c1 c2 (cn c c3).2 (a3 c o (cn c c3).1 c2 q)) b2
      obtain ⟨e1, e2, e3, e3z, e4, e5⟩ := hd e (List.mem_cons_of_mem _ he)
      have ne : e.it ≠ d.it := fun z => n1 (List.mem_map.mpr ⟨e, he, z⟩)
      exact ⟨e1.at fun o q => a3 _ o ne e3 q, e2.at fun o q => a3 _ o (e5 d List.mem_cons_self) e4 q, e3, e3z, e4, fun f hf => e5 f (List.mem_cons_of_mem _ hf)⟩
structure ZAp (z TI TO : Addr) (ds : List Dw) : Prop where
  TIz : TI ≠ z
  TOz : TO ≠ z
  TITO : TI ≠ TO
  nd : (ds.map (·.it)).Nodup
  itz : ∀ d ∈ ds, d.it ≠ z ∧ d.it ≠ TI ∧ d.it ≠ TO
  lz : ∀ d ∈ ds, d.l ≠ z ∧ d.l ≠ TO ∧ ∀ d' ∈ ds, d.l ≠ d'.it
structure ZSt (h : Heap) (z TI TO : Addr) (ds : List Dw) (k : Nat) : Prop where
  hz : IsZip h z TI TO .none
  hTI : IsTp h TI (ds.map fun d => Value.ref d.it)
  hTO : ∃ ys : List Value, ys.length = ds.length ∧ IsTp h TO ys
  its : ∀ d ∈ ds, SIt d.b h d.it d.l k
theorem zipN_item {z TI TO : Addr} {ds : List Dw} {k : Nat} {vals : List Value} {Q : Value → Shared → Prop} (ne : ds ≠ []) (D : ZAp z TI TO ds) (S : ZSt s.heap z TI TO ds k) (hl : ∀ d ∈ ds, SSq d.b s.heap d.l d.xs)
    (hv : Paired (fun (d : Dw) (x : Value) => d.xs[k]? = some x) ds vals) (hsm : ds.length ≤ sizeLine)
    (hQ : ∀ h', IsZip h' z TI TO (rawInt s.heap.objs.size) → IsTp h' TO vals → (∀ d ∈ ds, SIt d.b h' d.it d.l (k + 1)) → IsTp h' s.heap.objs.size vals → h'.objs.size = s.heap.objs.size + 1 →
      (∀ c o, c ≠ z → c ≠ TO → c ∉ ds.map (·.it) → s.heap.get? c = some o → h'.get? c = some o) → Q (.ref s.heap.objs.size) { s with heap := h' }) :
    wpAny (model prog w) A (Builtin.«zip.__next__» ⟨[.ref z], []⟩) (fun fin s' => ∃ v, fin = .done (.ret v) ∧ Q v s') E s := by
  obtain ⟨d0, ds', rfl⟩ : ∃ d0 ds', ds = d0 :: ds' := by
    cases ds with
    | nil => exact absurd rfl ne
    | cons a b => exact ⟨a, b, rfl⟩
  obtain ⟨hz, hTI, ⟨ys, yl, hTO⟩, its⟩ := S
  show wpAny _ _ (field (.ref z) 2 >>= _) _ _ _
  refine wpAny_bind (wpAny_field hz rfl (x := .bool false) rfl ?_)
  show wpAny _ _ (field (.ref z) 3 >>= _) _ _ _
  refine wpAny_bind (wpAny_field hz rfl (x := .ref TI) rfl ?_)
  refine wpAny_bind (wpAny_seqItems hTI rfl ?_)
  show wpAny _ _ (Builtin.SmallTypes.ownedTupleIsFree (.ref z) >>= _) _ _ _
  refine wpAny_bind ?_
  unfold Builtin.SmallTypes.ownedTupleIsFree
  refine wpAny_bind (wpAny_field hz rfl (x := .none) rfl (wpAny_pure ?_))
  simp only [if_true]
  refine wpAny_bind (wpAny_rule ?_)
  refine wpAny_bind (wpAny_field hz rfl (x := .ref TO) rfl ?_)
  refine wpAny_bind (wpAny_setField_rec hz (by simp) fun h₁ hz₁ hs₁ => ?_)
  replace hz₁ : IsZip h₁ z TI TO .ellipsis := hz₁
  refine wpAny_bind ?_
  refine zipN_loop (TO := TO) (k := k) (fun d x ys j s1 R' a1 a2 a3 a4 aZ a5 a6 => ?_) (d0 :: ds') vals [] ys _ yl hv (fun d hd => ?_) D.nd (hs₁.extBut _ _ D.TOz hTO) (by rw [List.nil_append, yl]; exact hsm) fun h₅ b1 b2 b3 b4 => ?_
  · refine wpAny_bind (wpAny_onRaise ?_)
    show wpAny _ _ (Builtin.SmallTypes.nextOf (.ref d.it) >>= _) _ _ _
    refine wpAny_bind (nextOf_it a1 a2 a3 fun h₂ h1₂ hs₂ => wpAny_pure ?_)
    have hTO₂ : IsTp h₂ TO ys := hs₂.extBut _ _ (fun q => a5 q.symm) a4
    refine wpAny_bind (wpAny_seqItems hTO₂ rfl ?_)
    refine wpAny_bind (upd_tp hTO₂ aZ fun h₃ hTO₃ hs₃ => ?_)
    refine wpAny_bind (wpAny_letGo (wpAny_pure ?_))
    exact a6 h₃ (h1₂.at fun o q => hs₃.extBut _ _ a5 q) hTO₃ (fun c o c1 c2 q => hs₃.extBut _ _ c2 (hs₂.extBut _ _ c1 q)) (by rw [hs₃.1, hs₂.1])
  · obtain ⟨i1, i2, i3⟩ := D.itz d hd
    obtain ⟨l1, l2, l3⟩ := D.lz d hd
    exact ⟨(its d hd).at fun o q => hs₁.extBut _ _ i1 q, (hl d hd).at fun o q => hs₁.extBut _ _ l1 q, i3, l2, l3⟩
  · rw [List.nil_append] at b2
    have hzn : z ∉ (d0 :: ds').map (·.it) := fun q => by
      obtain ⟨d, hd, e⟩ := List.mem_map.mp q
      exact (D.itz d hd).1 e
    have hz₅ : IsZip h₅ z TI TO .ellipsis := b3 _ _ D.TOz.symm hzn hz₁
    have hsz : h₅.objs.size = s.heap.objs.size := b4.trans hs₁.1
    have hTOlt : TO < h₅.objs.size := Heap.lt_size b2
    have hzlt : z < h₅.objs.size := Heap.lt_size hz₅
    refine wpAny_bind (wpAny_seqItems b2 rfl ?_)
    refine wpAny_bind (wpAny_newTuple ?_ (by
      have : vals.length = (d0 :: ds').length := (paired_len hv).symm
      show vals.length ≤ _
      rw [this]
      exact hsm))
    show wpAny _ _ (Builtin.SmallTypes.ownedTupleHandOut (.ref z) (.ref h₅.objs.size) >>= _) _ _ _
    refine wpAny_bind ?_
    unfold Builtin.SmallTypes.ownedTupleHandOut
    have hz₆ : IsZip (h₅.push { cls := .type "tuple", data := .seq vals.toArray }) z TI TO .ellipsis := Heap.get?_push_of_some _ hz₅
    refine wpAny_bind (wpAny_setField_rec hz₆ (by simp) fun h₇ hz₇ hs₇ => ?_)
    replace hz₇ : IsZip h₇ z TI TO (rawInt h₅.objs.size) := hz₇
    refine wpAny_setField_rec hz₇ (by simp) fun h₈ hz₈ hs₈ => ?_
    replace hz₈ : IsZip h₈ z TI TO (rawInt h₅.objs.size) := hz₈
    have up : ∀ c o, c ≠ z → h₅.get? c = some o → h₈.get? c = some o := fun c o c1 e => hs₈.extBut _ _ c1 (hs₇.extBut _ _ c1 (Heap.get?_push_of_some _ e))
    have hT₈ : IsTp h₈ h₅.objs.size vals := hs₈.extBut _ _ (Nat.ne_of_gt hzlt) (hs₇.extBut _ _ (Nat.ne_of_gt hzlt) (Heap.get?_push_size _ rfl))
    have hz8 : h₈.objs.size = h₅.objs.size + 1 := by rw [hs₈.1, hs₇.1, Heap.size_push]
    rw [hsz] at hz₈ hT₈ hz8
    refine wpAny_pure ⟨_, rfl, ?_⟩
    show Q (.ref h₅.objs.size) _
    rw [hsz]
    exact hQ h₈ hz₈ (up _ _ D.TOz b2) (fun d hd => (b1 d hd).at fun o q => up _ o (D.itz d hd).1 q) hT₈ hz8 fun c o c1 c2 c3 q => up c o c1 (b3 c o c2 c3 (hs₁.extBut _ _ c1 q))
theorem zipN_end {z TI TO : Addr} {ds : List Dw} {k : Nat} {Q : PySem.Fin → Shared → Prop} (hh : A.handled = none) (D : ZAp z TI TO ds) (S : ZSt s.heap z TI TO ds k) (hl : ∀ d ∈ ds, SSq d.b s.heap d.l d.xs) (he : ∃ d ∈ ds, d.xs[k]? = none) (hsm : ds.length ≤ sizeLine)
    (hE : ∀ h' e, (∀ c o, c ≠ z → c ≠ TO → c ∉ ds.map (·.it) → s.heap.get? c = some o → h'.get? c = some o) → (∃ o, h'.get? e = some o ∧ o.cls = .type "StopIteration") → E (.ref e) { s with heap := h' }) :
    wpAny (model prog w) A (Builtin.«zip.__next__» ⟨[.ref z], []⟩) Q E s := by
  obtain ⟨d0, ds', rfl⟩ : ∃ d0 ds', ds = d0 :: ds' := by
    cases ds with
    | nil => obtain ⟨_, h, _⟩ := he; cases h
    | cons a b => exact ⟨a, b, rfl⟩
  obtain ⟨hz, hTI, ⟨ys, yl, hTO⟩, its⟩ := S
  show wpAny _ _ (field (.ref z) 2 >>= _) _ _ _
  refine wpAny_bind (wpAny_field hz rfl (x := .bool false) rfl ?_)
  show wpAny _ _ (field (.ref z) 3 >>= _) _ _ _
  refine wpAny_bind (wpAny_field hz rfl (x := .ref TI) rfl ?_)
  refine wpAny_bind (wpAny_seqItems hTI rfl ?_)
  show wpAny _ _ (Builtin.SmallTypes.ownedTupleIsFree (.ref z) >>= _) _ _ _
  refine wpAny_bind ?_
  unfold Builtin.SmallTypes.ownedTupleIsFree
  refine wpAny_bind (wpAny_field hz rfl (x := .none) rfl (wpAny_pure ?_))
  simp only [if_true]
  refine wpAny_bind (wpAny_rule ?_)
  refine wpAny_bind (wpAny_field hz rfl (x := .ref TO) rfl ?_)
  refine wpAny_bind (wpAny_setField_rec hz (by simp) fun h₁ hz₁ hs₁ => ?_)
  replace hz₁ : IsZip h₁ z TI TO .ellipsis := hz₁
  refine wpAny_bind ?_
  refine zipN_stop (z := z) (TI := TI) (TO := TO) (f := .ellipsis) (k := k) (fun d x ys j s1 R' a1 a2 a3 a4 aZ a5 a6 => ?_) (fun d j s1 R' a1 a2 a3 a4 a5 a6 => ?_) (d0 :: ds') ys 0 _ he (fun d hd => ?_) D.nd (hs₁.extBut _ _ D.TOz hTO) (by rw [yl]; exact hsm) hz₁ D.TOz.symm fun h' e b1 b2 => hE h' e (fun c o c1 c2 c3 q => b1 c o c1 c2 c3 (hs₁.extBut _ _ c1 q)) b2
  · refine wpAny_bind (wpAny_onRaise ?_)
    show wpAny _ _ (Builtin.SmallTypes.nextOf (.ref d.it) >>= _) _ _ _
    refine wpAny_bind (nextOf_it a1 a2 a3 fun h₂ h1₂ hs₂ => wpAny_pure ?_)
    have hTO₂ : IsTp h₂ TO ys := hs₂.extBut _ _ (fun q => a5 q.symm) a4
    refine wpAny_bind (wpAny_seqItems hTO₂ rfl ?_)
    refine wpAny_bind (upd_tp hTO₂ aZ fun h₃ hTO₃ hs₃ => ?_)
    refine wpAny_bind (wpAny_letGo (wpAny_pure ?_))
    exact a6 h₃ (h1₂.at fun o q => hs₃.extBut _ _ a5 q) hTO₃ (fun c o c1 c2 q => hs₃.extBut _ _ c2 (hs₂.extBut _ _ c1 q)) (by rw [hs₃.1, hs₂.1])
  · refine wpAny_bind (wpAny_onRaise ?_)
    show wpAny _ _ (Builtin.SmallTypes.nextOf (.ref d.it) >>= _) _ _ _
    refine wpAny_bind (nextOf_no hh a1 a2 a3 fun h₂ e hs₂ he => ?_)
    obtain ⟨oe, hoe, hce⟩ := he
    have hz₂ : IsZip h₂ z TI TO .ellipsis := hs₂ _ _ (fun q => a5 q.symm) a4
    have hez : e ≠ z := fun x => by subst x; rw [hz₂] at hoe; cases hoe; simp at hce
    refine wpAny_setField_rec hz₂ (by simp) fun h₃ _ hs₃ => a6 h₃ e (fun c o c1 c2 q => hs₃.extBut _ _ c1 (hs₂ _ _ c2 q)) ⟨oe, hs₃.extBut _ _ hez hoe, hce⟩
  · obtain ⟨i1, i2, i3⟩ := D.itz d hd
    obtain ⟨l1, l2, l3⟩ := D.lz d hd
    exact ⟨(its d hd).at fun o q => hs₁.extBut _ _ i1 q, (hl d hd).at fun o q => hs₁.extBut _ _ l1 q, i3, i1, l2, l3⟩
end
end Pi
namespace Pi
open PySem PySem.Spec PyProof.Rows L2
def Dw.sh (d : Dw) : Addr × Addr × Bool := (d.it, d.l, d.b)
theorem sh_it {ds es : List Dw} (h : ds.map Dw.sh = es.map Dw.sh) : ds.map (·.it) = es.map (·.it) := by
  have := congrArg (List.map fun q : Addr × Addr × Bool => q.1) h
  rw [List.map_map, List.map_map] at this
  exact this
theorem sh_mem {ds es : List Dw} (h : ds.map Dw.sh = es.map Dw.sh) {d : Dw} (hd : d ∈ ds) : ∃ e ∈ es, e.it = d.it ∧ e.l = d.l ∧ e.b = d.b := by
  have : d.sh ∈ es.map Dw.sh := by rw [← h]; exact List.mem_map.mpr ⟨d, hd, rfl⟩
  obtain ⟨e, he, q⟩ := List.mem_map.mp this
  have q' : (e.it, e.l, e.b) = (d.it, d.l, d.b) := q
  injection q' with q1 q2
  injection q2 with q2 q3
  exact ⟨e, he, q1, q2, q3⟩
theorem ZAp.sh {z TI TO : Addr} {ds es : List Dw} (h : ds.map Dw.sh = es.map Dw.sh) (D : ZAp z TI TO ds) : ZAp z TI TO es where
  TIz := D.TIz
  TOz := D.TOz
  TITO := D.TITO
  nd := by rw [← sh_it h]; exact D.nd
  itz := fun e he => by
    obtain ⟨d, hd, q1, _, _⟩ := sh_mem h.symm he
    rw [← q1]
    exact D.itz d hd
  lz := fun e he => by
    obtain ⟨d, hd, _, q2, _⟩ := sh_mem h.symm he
    obtain ⟨l1, l2, l3⟩ := D.lz d hd
    rw [← q2]
    refine ⟨l1, l2, fun e' he' => ?_⟩
    obtain ⟨d', hd', r1, _, _⟩ := sh_mem h.symm he'
    rw [← r1]
    exact l3 d' hd'
theorem ZSt.sh {h' : Heap} {z TI TO : Addr} {k : Nat} {ds es : List Dw} (h : ds.map Dw.sh = es.map Dw.sh) (S : ZSt h' z TI TO ds k) : ZSt h' z TI TO es k where
  hz := S.hz
  hTI := by
    have := congrArg (List.map Value.ref) (sh_it h)
    rw [List.map_map, List.map_map] at this
    have e : (es.map fun d => Value.ref d.it) = ds.map fun d => Value.ref d.it := this.symm
    rw [e]
    exact S.hTI
  hTO := by
    obtain ⟨ys, h1, h2⟩ := S.hTO
    refine ⟨ys, ?_, h2⟩
    have := congrArg List.length h
    simp at this
    omega
  its := fun e he => by
    obtain ⟨d, hd, q1, q2, q3⟩ := sh_mem h.symm he
    rw [← q1, ← q2, ← q3]
    exact S.its d hd
def SqB (K : PySem.W.Frag) (b : Bool) (H : Hp) (a : Addr) (xs : List V) : Prop := match b with
  | true => SqL K H a xs
  | false => SqT K H a xs
theorem SqB.same {K : PySem.W.Frag} {b : Bool} {H H' : Hp} {a : Addr} {xs : List V} (e : Same H H') (h : SqB K b H a xs) : SqB K b H' a xs := by
  cases b with
  | true => exact Same.seq e h
  | false => exact Same.seqT e h
def ItzN (K : PySem.W.Frag) (as : List (Bool × Addr)) : It :=
  ⟨fun i H => ∃ vs : List V, Paired (fun (p : Bool × Addr) v => ∃ xs, SqB K p.1 H p.2 xs ∧ xs[i]? = some v) as vs,
    fun i H v H' => ∃ T vs, v = .ref T ∧ H T = none ∧ H' = upd H T (.tup vs) ∧ Paired (fun (p : Bool × Addr) v => ∀ xs, SqB K p.1 H p.2 xs → xs[i]? = some v) as vs,
    fun i H => (∀ p ∈ as, ∃ xs, SqB K p.1 H p.2 xs) ∧ ∃ p ∈ as, ∃ xs, SqB K p.1 H p.2 xs ∧ xs.length ≤ i⟩
def mkD : List Addr → List (Bool × Addr) → List Dw
  | i :: is, p :: as => ⟨i, p.2, p.1, #[]⟩ :: mkD is as
  | _, _ => []
section
variable {X : Cx} {pins : List (Addr × Obj)} {σ : L2.St} {H : Hp} {s : Shared}
theorem SqB.ssq (I : Inv X pins σ H s) {b : Bool} {a : Addr} {xs : List V} (h : SqB X.K b H a xs) : ∃ its, Vals xs its ∧ SSq b s.heap a its.toArray := by
  cases b with
  | true =>
    obtain ⟨its, rv, p, _⟩ := I.list h
    exact ⟨its, rv, p.isList⟩
  | false =>
    obtain ⟨its, rv, p, _⟩ := I.tuple h
    exact ⟨its, rv, p⟩
theorem SqB.inj (I : Inv X pins σ H s) {b : Bool} {a : Addr} {xs ys : List V} (h : SqB X.K b H a xs) (h' : SqB X.K b H a ys) : xs = ys := by
  cases b with
  | true => exact I.list_inj h h'
  | false => exact I.tuple_inj h h'
theorem drawn_at (I : Inv X pins σ H s) {i : Nat} : ∀ {its : List Addr} {as : List (Bool × Addr)} {vs : List V}, its.length = as.length → Paired (fun (p : Bool × Addr) v => ∃ xs, SqB X.K p.1 H p.2 xs ∧ xs[i]? = some v) as vs →
    ∃ (ds : List Dw) (us : List Value), ds.map Dw.sh = (mkD its as).map Dw.sh ∧ (∀ d ∈ ds, SSq d.b s.heap d.l d.xs) ∧ Paired (fun (d : Dw) (x : Value) => d.xs[i]? = some x) ds us ∧ Vals vs us
  | [], [], _, _, .nil => ⟨[], [], rfl, (fun _ h => by cases h), .nil, .nil⟩
  | [], _ :: _, _, h, _ => by cases h
  | _ :: _, [], _, h, _ => by cases h
  | it :: its, p :: as, _, hl, .cons (b := v) ⟨xs, h1, h2⟩ t => by
    obtain ⟨ds, us, e1, e2, e3, e4⟩ := drawn_at I (its := its) (by simpa using hl) t
    obtain ⟨zs, rv, q⟩ := h1.ssq I
    obtain ⟨u, hu, ru⟩ := rv.get h2
    refine ⟨⟨it, p.2, p.1, zs.toArray⟩ :: ds, u :: us, by rw [List.map_cons, e1]; rfl, fun d hd => ?_, .cons (by simpa using hu) e3, .cons ru e4⟩
    rcases List.mem_cons.mp hd with z | z
    · subst z
      exact q
    · exact e2 d z
theorem ended_at (I : Inv X pins σ H s) {i : Nat} : ∀ {its : List Addr} {as : List (Bool × Addr)}, its.length = as.length → (∀ p ∈ as, ∃ xs, SqB X.K p.1 H p.2 xs) → (∃ p ∈ as, ∃ xs, SqB X.K p.1 H p.2 xs ∧ xs.length ≤ i) →
    ∃ (ds : List Dw), ds.map Dw.sh = (mkD its as).map Dw.sh ∧ (∀ d ∈ ds, SSq d.b s.heap d.l d.xs) ∧ ∃ d ∈ ds, d.xs[i]? = none
  | _, [], _, _, ⟨_, h, _⟩ => by cases h
  | [], _ :: _, h, _, _ => by cases h
  | it :: its, p :: as, hl, ha, he => by
    obtain ⟨xs, h1⟩ := ha p List.mem_cons_self
    obtain ⟨zs, rv, q⟩ := h1.ssq I
    have all_ : ∀ {its : List Addr} {as : List (Bool × Addr)}, its.length = as.length → (∀ p ∈ as, ∃ xs, SqB X.K p.1 H p.2 xs) → ∃ (ds : List Dw), ds.map Dw.sh = (mkD its as).map Dw.sh ∧ ∀ d ∈ ds, SSq d.b s.heap d.l d.xs := fun {its as} => by
      induction as generalizing its with
      | nil =>
        intro h _
        cases its with
        | nil => exact ⟨[], rfl, (fun _ h => by cases h)⟩
        | cons _ _ => cases h
      | cons p as ih =>
        intro h ha
        cases its with
        | nil => cases h
        | cons it its =>
          obtain ⟨ds, e1, e2⟩ := ih (its := its) (by simpa using h) fun p hp => ha p (List.mem_cons_of_mem _ hp)
          obtain ⟨xs, h1⟩ := ha p List.mem_cons_self
          obtain ⟨zs, rv, q⟩ := h1.ssq I
          refine ⟨⟨it, p.2, p.1, zs.toArray⟩ :: ds, by rw [List.map_cons, e1]; rfl, fun d hd => ?_⟩
          rcases List.mem_cons.mp hd with z | z
          · subst z
            exact q
          · exact e2 d z
    by_cases hx : xs.length ≤ i
    · obtain ⟨ds, e1, e2⟩ := all_ (its := its) (as := as) (by simpa using hl) fun p hp => ha p (List.mem_cons_of_mem _ hp)
      refine ⟨⟨it, p.2, p.1, zs.toArray⟩ :: ds, by rw [List.map_cons, e1]; rfl, fun d hd => ?_, ⟨it, p.2, p.1, zs.toArray⟩, List.mem_cons_self, ?_⟩
      · rcases List.mem_cons.mp hd with z | z
        · subst z
          exact q
        · exact e2 d z
      · have := rv.length
        simp
        omega
    · have he' : ∃ p ∈ as, ∃ xs, SqB X.K p.1 H p.2 xs ∧ xs.length ≤ i := by
        obtain ⟨p', hp, ys, h2, h3⟩ := he
        rcases List.mem_cons.mp hp with z | z
        · subst z
          rw [SqB.inj I h2 h1] at h3
          exact absurd h3 hx
        · exact ⟨p', z, ys, h2, h3⟩
      obtain ⟨ds, e1, e2, d', hd', e3⟩ := ended_at I (its := its) (by simpa using hl) (fun p hp => ha p (List.mem_cons_of_mem _ hp)) he'
      refine ⟨⟨it, p.2, p.1, zs.toArray⟩ :: ds, by rw [List.map_cons, e1]; rfl, fun d hd => ?_, d', List.mem_cons_of_mem _ hd', e3⟩
      rcases List.mem_cons.mp hd with z | z
      · subst z
        exact q
      · exact e2 d z
theorem paired_of {a b : Type} {F : a → b → Prop} : ∀ {l : List a} {m : List b} {G : a → b → Prop}, Paired F l m → (∀ x ∈ l, ∀ y, F x y → G x y) → Paired G l m
  | _, _, _, .nil, _ => .nil
  | _, _, _, .cons r t, f => .cons (f _ List.mem_cons_self _ r) (paired_of t fun x hx y q => f x (List.mem_cons_of_mem _ hx) y q)
end
theorem mkD_it : ∀ {its : List Addr} {as : List (Bool × Addr)}, its.length = as.length → (mkD its as).map (·.it) = its
  | [], [], _ => rfl
  | [], _ :: _, h => by cases h
  | _ :: _, [], h => by cases h
  | i :: its, p :: as, h => by
    show i :: (mkD its as).map (·.it) = _
    rw [mkD_it (by simpa using h)]
theorem turn_zipN {P : Program} {w : World} {K : PySem.W.Frag} {elts : List Expr} {kk : Nat} {tpos : Pos} {as : List (Bool × Addr)} {its : List Addr} {z TI TO : Addr} (hl : its.length = as.length) (hs : as.length ≤ sizeLine) (ne : as ≠ []) (D : ZAp z TI TO (mkD its as)) :
    Turn P w K (.Tuple elts kk tpos) (ItzN K as) (z :: TI :: TO :: its) z (fun i h => ZSt h z TI TO (mkD its as) i) where
  mem := List.mem_cons_self
  obj := fun i h st c hc => by
    obtain ⟨hz, hTI, ⟨ys, _, hTO⟩, hi⟩ := st
    rcases List.mem_cons.mp hc with q | hc
    · rw [q]; exact ⟨_, hz, fun v q => nomatch q⟩
    rcases List.mem_cons.mp hc with q | hc
    · rw [q]; exact ⟨_, hTI, fun v q => nomatch q⟩
    rcases List.mem_cons.mp hc with q | hc
    · rw [q]; exact ⟨_, hTO, fun v q => nomatch q⟩
    rw [← mkD_it hl] at hc
    obtain ⟨d, hd, rfl⟩ := List.mem_map.mp hc
    obtain ⟨o, fs, h1, h2⟩ := (hi d hd).obj
    exact ⟨o, h1, fun v q => by rw [h2] at q; cases q⟩
  keep := fun i h h' st k => by
    obtain ⟨hz, hTI, ⟨ys, yl, hTO⟩, hi⟩ := st
    refine ⟨k z List.mem_cons_self _ hz, k TI (by simp) _ hTI, ⟨ys, yl, k TO (by simp) _ hTO⟩, fun d hd => (hi d hd).at fun o q => k d.it ?_ o q⟩
    have : d.it ∈ its := by rw [← mkD_it hl]; exact List.mem_map.mpr ⟨d, hd, rfl⟩
    simp [this]
  item := by
    intro X hP hw hK hc i pins s σ H E I hf st hg
    subst hP hw hK
    obtain ⟨vs, hv⟩ := hg
    obtain ⟨ds, us, e1, e2, e3, e4⟩ := drawn_at I hl hv
    have ne2 : ds ≠ [] := fun q => by
      subst q
      cases as with
      | nil => exact ne rfl
      | cons p as =>
        cases its with
        | nil => cases hl
        | cons _ _ => cases e1
    have dl : ds.length = as.length := by
      have h1 := congrArg List.length (sh_it e1)
      rw [mkD_it hl, List.length_map] at h1
      omega
    have itm : ds.map (·.it) = its := by rw [sh_it e1, mkD_it hl]
    have D' := D.sh e1.symm
    have st' := st.sh e1.symm
    have hzl : z < s.heap.objs.size := Heap.lt_size st.hz
    have hT : s.TypeIs (.ref z) "zip" := ⟨_, st.hz, rfl⟩
    unfold pyNext
    refine wpAny_bind (wpAny_attempt (wpAny_callSpecial?_slot (name := Str.ofString "__next__") hT F.slot_zip_next (wpAny_call_entry F.slot_zip_next hT F.entry_zip_next
      (zipN_item ne2 D' st' e2 e3 (by rw [dl]; exact hs) fun h' z' TO' h1' hT' hsz hk => ?_) (F.args_zip_next_1 _))))
    refine wpAny_pure ⟨_, rfl, wpAny_letOwnedTupleGo_zip (s := { s with heap := h' }) z' fun h'' z'' sb => ?_⟩
    have hT2 : h''.get? s.heap.objs.size = some { cls := .type "tuple", data := .seq us.toArray } := (sb.2 _ (Nat.ne_of_gt hzl)).trans hT'
    have vl : vs.length ≤ sizeLine := by rw [← paired_len hv]; exact hs
    have new : ObjOk X.prog X.w (upd H s.heap.objs.size (.tup vs)) h'' s.heap.objs.size (.tup vs) := ⟨vl, us, e4, ⟨_, hT2, rfl, _, rfl⟩⟩
    have cm : ∀ c, c ∉ z :: TI :: TO :: its → c ≠ z ∧ c ≠ TO ∧ c ∉ ds.map (·.it) := fun c q => by
      rw [itm]
      simp only [List.mem_cons, not_or] at q
      exact ⟨q.1, q.2.2.1, q.2.2.2⟩
    have I1 : Inv X pins σ (upd H s.heap.objs.size (.tup vs)) { s with heap := h'' } :=
      I.turnedNew (t' := s.toks) (ch := z :: TI :: TO :: its) (fun c o hb q => (sb.2 c (cm c hb).1).trans (hk c o (cm c hb).1 (cm c hb).2.1 (cm c hb).2.2 q)) hf (Nat.le_refl _) new
    have up : ∀ c o, c ≠ z → h'.get? c = some o → h''.get? c = some o := fun c o c1 q => (sb.2 c c1).trans q
    have tin : ∀ d ∈ ds, d.it ≠ TI := fun d hd => (D'.itz d hd).2.1
    have hTIn : TI ∉ ds.map (·.it) := fun q => by
      obtain ⟨d, hd, e⟩ := List.mem_map.mp q
      exact tin d hd e
    refine ⟨.ref s.heap.objs.size, _, I1, rfl, ⟨_, vs, rfl, I.hok.fresh (Nat.le_refl _), rfl, paired_of hv fun p _ v ⟨xs, q1, q2⟩ ys q3 => by rw [SqB.inj I q3 q1]; exact q2⟩, ZSt.sh e1 ⟨z'', ?_, ⟨us, ?_, ?_⟩, fun d hd => ?_⟩, fun c hcm => ?_⟩
    · exact up _ _ D.TIz (hk _ _ D.TIz D.TITO hTIn st'.hTI)
    · exact (paired_len e3).symm
    · exact up _ _ D.TOz TO'
    · exact (h1' d hd).at fun o q => up _ o (D'.itz d hd).1 q
    · have hlt : c < s.heap.objs.size := by
        rcases List.mem_cons.mp hcm with q | hcm
        · rw [q]; exact hzl
        rcases List.mem_cons.mp hcm with q | hcm
        · rw [q]; exact Heap.lt_size st.hTI
        rcases List.mem_cons.mp hcm with q | hcm
        · rw [q]
          obtain ⟨ys, _, hy⟩ := st.hTO
          exact Heap.lt_size hy
        rw [← mkD_it hl] at hcm
        obtain ⟨d, hd, rfl⟩ := List.mem_map.mp hcm
        obtain ⟨o, fs, h1, _⟩ := (st.its d hd).obj
        exact Heap.lt_size h1
      rw [upd_ne (Nat.ne_of_lt hlt)]
      exact (hf c hcm).1
  done := by
    intro X hP hw hK hc i pins s σ H E I hf st hg
    subst hP hw hK
    obtain ⟨ha, he⟩ := hg
    obtain ⟨ds, e1, e2, e3⟩ := ended_at I hl ha he
    have dl : ds.length = as.length := by
      have h1 := congrArg List.length (sh_it e1)
      rw [mkD_it hl, List.length_map] at h1
      omega
    have itm : ds.map (·.it) = its := by rw [sh_it e1, mkD_it hl]
    have hT : s.TypeIs (.ref z) "zip" := ⟨_, st.hz, rfl⟩
    unfold pyNext
    refine wpAny_bind (wpAny_attempt (wpAny_callSpecial?_slot (name := Str.ofString "__next__") hT F.slot_zip_next
      (wpAny_call_entry F.slot_zip_next hT F.entry_zip_next (zipN_end (I.ok.hd hc) (D.sh e1.symm) (st.sh e1.symm) e2 e3 (by rw [dl]; exact hs) fun h' e hk he => ?_) (F.args_zip_next_1 _))))
    obtain ⟨o, ho, hcl⟩ := he
    refine wpAny_bind (wpAny_isInstance (T := "StopIteration") (b := true) ⟨o, ho, hcl⟩ isSubtype_stop ?_)
    refine wpAny_pure ⟨rfl, I.turnedL (t' := s.toks) (ch := z :: TI :: TO :: its) (fun c o hb q => hk c o ?_ ?_ ?_ q) hf⟩
    all_goals (simp only [List.mem_cons, not_or] at hb)
    · exact hb.1
    · exact hb.2.2.1
    · rw [itm]
      exact hb.2.2.2
  self := fun A i s Q E st h => wpAny_pyIter_zip st.hz h
end Pi
namespace Pi
open PySem PySem.Spec PyProof.Rows L2
def itO (b : Bool) (l : Addr) : Obj := match b with
  | true => { cls := .type "list_iterator", data := .fields #[.ref l, .int 0 0] }
  | false => { cls := .type "tuple_iterator", data := .fields #[.ref l, .int 0 0] }
theorem itO_is {b : Bool} {h : Heap} {it l : Addr} (e : h.get? it = some (itO b l)) : SIt b h it l 0 := by
  cases b with
  | true => exact ⟨_, e, rfl, rfl⟩
  | false => exact ⟨_, e, rfl, rfl⟩
theorem itO_freed (b : Bool) (l : Addr) : (itO b l).isFreed = false := by cases b <;> rfl
section
variable {prog : Program} {w : World} {A : Around} {E : Value → Shared → Prop} {s : Shared}
theorem pyIter_q {b : Bool} {l : Addr} {items : Array Value} {Q : Value → Shared → Prop} (hl : SSq b s.heap l items) (hQ : Q (.ref s.heap.objs.size) { s with heap := s.heap.push (itO b l) }) :
    wpAny (model prog w) A (pyIter (.ref l)) Q E s := by
  cases b with
  | true => exact wpAny_pyIter_list hl hQ
  | false => exact wpAny_pyIter_tuple hl hQ
end
abbrev zmH1 (b : Bool) (h : Heap) (l1 : Addr) : Heap := h.push (itO b l1)
abbrev zmH2 (b c : Bool) (h : Heap) (l1 l2 : Addr) : Heap := (zmH1 b h l1).push (itO c l2)
abbrev zmH3 (b c : Bool) (h : Heap) (l1 l2 : Addr) : Heap := (zmH2 b c h l1 l2).push { cls := .type "tuple", data := .seq #[.ref h.objs.size, .ref (zmH1 b h l1).objs.size] }
abbrev zmH4 (b c : Bool) (h : Heap) (l1 l2 : Addr) : Heap := (zmH3 b c h l1 l2).push { cls := .type "tuple", data := .seq #[.none, .none] }
abbrev zmH5 (b c : Bool) (h : Heap) (l1 l2 : Addr) : Heap := (zmH4 b c h l1 l2).push { cls := .type "zip", data := .fields #[.none, .bool false, .bool false, .ref (zmH2 b c h l1 l2).objs.size, .ref (zmH3 b c h l1 l2).objs.size] }
theorem meets_zm_new (b c : Bool) (l1 l2 : Addr) (xs ys : Array Value) :
    Meets (Builtin.«zip.__new__» ⟨[.type "zip", .ref l1, .ref l2], []⟩) (fun _ R s => SSq b s.heap l1 xs ∧ SSq c s.heap l2 ys ∧
      R (.ok (.ret (.ref (zmH4 b c s.heap l1 l2).objs.size))) { s with heap := zmH5 b c s.heap l1 l2 }) :=
  .of_wp fun prog w A R s h => by
    obtain ⟨hp, g, d, tk, os⟩ := s; obtain ⟨hl1, hl2, h⟩ := h
    have hsub := sub_zip
    have hL1 : SSq b (Shared.heap ⟨hp, g, d, tk, os⟩) l1 xs := hl1
    have hL2 : SSq c (Shared.heap ⟨hp.push (itO b l1), g, d, tk, os⟩) l2 ys := SSq.at hl2 fun o q => Heap.get?_push_of_some _ q
    wp_walk using pyIter_q hL1, pyIter_q hL2
    exact ⟨_, rfl, h⟩
section
variable {prog : Program} {w : World} {A : Around} {E : Value → Shared → Prop} {s : Shared}
theorem call_zm {b c : Bool} {l1 l2 : Addr} {xs ys : Array Value} {Q : Value → Shared → Prop} (hl1 : SSq b s.heap l1 xs) (hl2 : SSq c s.heap l2 ys)
    (h : ∀ h', IsZip h' (s.heap.objs.size + 4) (s.heap.objs.size + 2) (s.heap.objs.size + 3) .none → IsPair h' (s.heap.objs.size + 2) (.ref s.heap.objs.size) (.ref (s.heap.objs.size + 1)) →
      IsPair h' (s.heap.objs.size + 3) .none .none → SIt b h' s.heap.objs.size l1 0 → SIt c h' (s.heap.objs.size + 1) l2 0 → h'.objs.size = s.heap.objs.size + 5 →
      (∀ c o, s.heap.get? c = some o → h'.get? c = some o) → Q (.ref (s.heap.objs.size + 4)) { s with heap := h' }) :
    wpAny (model prog w) A (call (.type "zip") [.ref l1, .ref l2]) Q E s := by
  refine callType_new F.called_zip (by decide) (F.typeCall_zip_2 _ _) (F.newCall_zip_2 _ _) (fun obj => F.args_object_init_3 obj _ _) F.entry_zip_new
    (meets_zm_new b c l1 l2 xs ys) ⟨hl1, hl2, ?_⟩
  have z1 : (zmH1 b s.heap l1).objs.size = s.heap.objs.size + 1 := Heap.size_push ..
  have z2 : (zmH2 b c s.heap l1 l2).objs.size = s.heap.objs.size + 2 := by rw [Heap.size_push, z1]
  have z3 : (zmH3 b c s.heap l1 l2).objs.size = s.heap.objs.size + 3 := by rw [Heap.size_push, z2]
  have z4 : (zmH4 b c s.heap l1 l2).objs.size = s.heap.objs.size + 4 := by rw [Heap.size_push, z3]
  have z5 : (zmH5 b c s.heap l1 l2).objs.size = s.heap.objs.size + 5 := by rw [Heap.size_push, z4]
  have g5 : (zmH5 b c s.heap l1 l2).get? (zmH4 b c s.heap l1 l2).objs.size = some _ := Heap.get?_push_size _ rfl
  have g4 : (zmH5 b c s.heap l1 l2).get? (zmH3 b c s.heap l1 l2).objs.size = some _ := Heap.get?_push_of_some _ (Heap.get?_push_size _ rfl)
  have g3 : (zmH5 b c s.heap l1 l2).get? (zmH2 b c s.heap l1 l2).objs.size = some _ := Heap.get?_push_of_some _ (Heap.get?_push_of_some _ (Heap.get?_push_size _ rfl))
  have g2 : (zmH5 b c s.heap l1 l2).get? (zmH1 b s.heap l1).objs.size = some (itO c l2) := Heap.get?_push_of_some _ (Heap.get?_push_of_some _ (Heap.get?_push_of_some _ (Heap.get?_push_size _ (itO_freed c l2))))
  have g1 : (zmH5 b c s.heap l1 l2).get? s.heap.objs.size = some (itO b l1) := Heap.get?_push_of_some _ (Heap.get?_push_of_some _ (Heap.get?_push_of_some _ (Heap.get?_push_of_some _ (Heap.get?_push_size _ (itO_freed b l1)))))
  show _ ∧ _
  rw [z2, z3, z4] at g5
  rw [z1, z2] at g3
  rw [z3] at g4
  rw [z1] at g2
  rw [z4]
  exact ⟨⟨_, g5, rfl⟩, h _ g5 g3 g4 (itO_is g1) (itO_is g2) z5 fun c o x =>
    Heap.get?_push_of_some _ (Heap.get?_push_of_some _ (Heap.get?_push_of_some _ (Heap.get?_push_of_some _ (Heap.get?_push_of_some _ x))))⟩
end
def iZipM (K : PySem.W.Frag) (ta : TA) : TI := fun σ H R => ta σ H fun vs H1 => ∃ b c p q xs ys, vs = [.ref p, .ref q] ∧ SqB K b H1 p xs ∧ SqB K c H1 q ys ∧ R (ItzN K [(b, p), (c, q)]) H1
theorem pi_zipM {X : Cx} {e e2 : Expr} {ta : TA} {p pos tpos : Pos} {elts : List Expr} {kk : Nat} (hg : Gl X "zip") (hm : X.mg "zip" = none) (ha : PA X [e, e2] ta)
    (hs : starEach [e, e2] X.env = (false, eval e X.env) :: starEach [e2] X.env := by rfl) (hpl : (backTo pos (starEach [e2] X.env)).any (·.1) = false := by rfl) :
    PI X (.Tuple elts kk tpos) (.Call (.Name "zip" p) [e, e2] [] pos) (iZipM X.K ta) := by
  refine ⟨fun pins s σ H R I h => ?_⟩
  refine Call_ (ld_blt I hg hm PyProof.Rows.boot_zip (PyProof.Rows.callWith_type1 (thn (ha.run pos pins s σ H _ I h) fun us s1 ⟨vs, H1, I1, r1, q1⟩ => ?_) hs hpl))
  obtain ⟨b, c, a1, a2, xs, ys, ex, hqx, hqy, q⟩ := q1
  subst ex
  cases r1 with
  | cons r rr =>
    cases rr with
    | cons r' rr =>
      cases rr
      cases r
      cases r'
      obtain ⟨its, rv, p1⟩ := hqx.ssq I1
      obtain ⟨its2, rv2, p2⟩ := hqy.ssq I1
      have l1 := p1.lt
      have l2 := p2.lt
      refine call_zm p1 p2 fun h' hz hTI hTO h1 h2 hsz hk => wpAny_pyIter_zip hz ?_
      have I2 : Inv X pins σ H1 { s1 with heap := h' } := I1.kept (t' := s1.toks) hk
      have D : ZAp (s1.heap.objs.size + 4) (s1.heap.objs.size + 2) (s1.heap.objs.size + 3) (mkD [s1.heap.objs.size, s1.heap.objs.size + 1] [(b, a1), (c, a2)]) := by
        refine ⟨Nat.ne_of_lt (Nat.add_lt_add_left (by decide) _), Nat.ne_of_lt (Nat.add_lt_add_left (by decide) _), Nat.ne_of_lt (Nat.add_lt_add_left (by decide) _), ?_, fun d hd => ?_, fun d hd => ?_⟩
        · show [s1.heap.objs.size, s1.heap.objs.size + 1].Nodup
          simp
        · rcases List.mem_cons.mp hd with z | hd
          · subst z
            exact ⟨by show s1.heap.objs.size ≠ _; omega, by show s1.heap.objs.size ≠ _; omega, by show s1.heap.objs.size ≠ _; omega⟩
          · rcases List.mem_cons.mp hd with z | hd
            · subst z
              exact ⟨by show s1.heap.objs.size + 1 ≠ _; omega, by show s1.heap.objs.size + 1 ≠ _; omega, by show s1.heap.objs.size + 1 ≠ _; omega⟩
            · cases hd
        · have hdl : d.l < s1.heap.objs.size := by
            rcases List.mem_cons.mp hd with z | hd
            · subst z
              exact l1
            · rcases List.mem_cons.mp hd with z | hd
              · subst z
                exact l2
              · cases hd
          refine ⟨Nat.ne_of_lt (Nat.lt_of_lt_of_le hdl (Nat.le_add_right _ _)), Nat.ne_of_lt (Nat.lt_of_lt_of_le hdl (Nat.le_add_right _ _)), fun d' hd' => ?_⟩
          have : s1.heap.objs.size ≤ d'.it := by
            rcases List.mem_cons.mp hd' with z | hd'
            · subst z
              exact Nat.le_refl _
            · rcases List.mem_cons.mp hd' with z | hd'
              · subst z
                exact Nat.le_succ _
              · cases hd'
          exact Nat.ne_of_lt (Nat.lt_of_lt_of_le hdl this)
      refine ⟨s1.heap.objs.size + 4, [s1.heap.objs.size + 4, s1.heap.objs.size + 2, s1.heap.objs.size + 3, s1.heap.objs.size, s1.heap.objs.size + 1], _, _, H1, rfl, I2, turn_zipN (as := [(b, a1), (c, a2)]) rfl (by rw [sizeLine_eq]; show 2 ≤ _; decide) (by simp) D, ⟨hz, hTI, ⟨[.none, .none], rfl, hTO⟩, fun d hd => ?_⟩, fun c hcm => ?_, q⟩
      · rcases List.mem_cons.mp hd with z | hd
        · subst z
          exact h1
        · rcases List.mem_cons.mp hd with z | hd
          · subst z
            exact h2
          · cases hd
      · have hle : s1.heap.objs.size ≤ c := by
          simp only [List.mem_cons, List.not_mem_nil, or_false] at hcm
          rcases hcm with z | z | z | z | z <;> rw [z]
          all_goals first | exact Nat.le_add_right _ _ | exact Nat.le_refl _
        exact I1.fpOk hle (I1.hok.fresh hle)
def D.seqB : D → Option (Bool × List D)
  | .lst xs => some (true, xs)
  | .tup xs => some (false, xs)
  | _ => none
theorem seqB_rep {K : PySem.W.Frag} {F : Hp} {al : List Addr} {v : V} {x : D} {b : Bool} {xs : List D} (h : Rep K F al v x) (e : x.seqB = some (b, xs)) : ∃ a vs, v = .ref a ∧ SqB K b F a vs ∧ RepAll K F al vs xs := by
  cases x with
  | lst ys =>
    injection e with e
    injection e with e1 e2
    subst e1 e2
    obtain ⟨a, vs, rfl, h1, h2⟩ := rep_lst h
    exact ⟨a, vs, rfl, .inl (.inl h1), h2⟩
  | tup ys =>
    injection e with e
    injection e with e1 e2
    subst e1 e2
    obtain ⟨a, vs, rfl, h1, h2⟩ := rep_tup h
    exact ⟨a, vs, rfl, h1, h2⟩
  | _ => cases e
theorem itok_zipM {K : PySem.W.Frag} {TB : List (Addr × Str)} {F : Hp} {L : Addr → List V → Prop} {ab : List Addr} {a b : Addr} {c d : Bool} {vs us : List V} {xs ys : List D} (h : SqB K c F a vs) (r : RepAll K F ab vs xs) (h' : SqB K d F b us) (r' : RepAll K F ab us ys) : ItOk K TB F L ab (ItzN K [(c, a), (d, b)]) (zipD xs ys) := by
  intro T al H st hs _ ha w i
  have h2 : SqB K c H a vs := SqB.same fz_same (SqB.same hs h)
  have h3 : SqB K d H b us := SqB.same fz_same (SqB.same hs h')
  refine ⟨fun x hx => ?_, fun hx => ⟨fun p hp => ?_, ?_⟩⟩
  · obtain ⟨y, z, hy, hz, rfl⟩ := zipD_at hx
    obtain ⟨u, hu, ru⟩ := r.get hy
    obtain ⟨t, ht, rt⟩ := r'.get hz
    refine ⟨⟨[u, t], .cons ⟨vs, h2, hu⟩ (.cons ⟨us, h3, ht⟩ .nil)⟩, fun v H3 q => ?_⟩
    obtain ⟨p, zs, rfl, n, rfl, q⟩ := q
    cases q with
    | cons q1 q =>
      cases q with
      | cons q2 q =>
        cases q
        have e := q1 vs h2
        rw [hu] at e
        cases e
        have e := q2 us h3
        rw [ht] at e
        cases e
        obtain ⟨e1, w1, r1⟩ := pair_new w n (ru.mono hs ha) (rt.mono hs ha)
        exact ⟨_, e1, w1, r1⟩
  · simp only [List.mem_cons, List.not_mem_nil, or_false] at hp
    rcases hp with z | z
    · subst z
      exact ⟨vs, h2⟩
    · subst z
      exact ⟨us, h3⟩
  · rcases zipD_no (List.getElem?_eq_none_iff.mpr (Nat.le_of_eq hx.symm)) with z | z
    · exact ⟨(c, a), by simp, vs, h2, by rw [r.length]; exact z⟩
    · exact ⟨(d, b), by simp, us, h3, by rw [r'.length]; exact z⟩
theorem zipO_ok {ds z : List D} (h : zipO ds = some z) : ∃ x y b c xs ys, ds = [x, y] ∧ x.seqB = some (b, xs) ∧ y.seqB = some (c, ys) ∧ z = zipD xs ys := by
  match ds, h with
  | [.lst xs, .lst ys], h => exact ⟨_, _, _, _, xs, ys, rfl, rfl, rfl, (Option.some.inj h).symm⟩
  | [.tup xs, .tup ys], h => exact ⟨_, _, _, _, xs, ys, rfl, rfl, rfl, (Option.some.inj h).symm⟩
  | [.lst xs, .tup ys], h => exact ⟨_, _, _, _, xs, ys, rfl, rfl, rfl, (Option.some.inj h).symm⟩
  | [.tup xs, .lst ys], h => exact ⟨_, _, _, _, xs, ys, rfl, rfl, rfl, (Option.some.inj h).symm⟩
section
variable {G : GX} {X : Cx} {W : WX} {H0 : Hp} {a b : Expr} {p pos tpos : Pos} {elts : List Expr} {kk : Nat}
theorem pit_zip {f : Env → Mo (List D)} (hg : Gl X "zip") (hm : X.mg "zip" = none) (ha : PL G X W H0 [a, b] f) (hs : starEach [a, b] X.env = (false, eval a X.env) :: starEach [b] X.env := by rfl) (hpl : (backTo pos (starEach [b] X.env)).any (·.1) = false := by rfl) : PIt G X W H0 (.Tuple elts kk tpos) (.Call (.Name "zip" p) [a, b] [] pos) (iFun zipO f) := by
  intro r st σ T al H R S w q
  refine rdI (pi_zipM hg hm pa_rd hs hpl) (ha r st σ T al H _ S w (seqP back_I q fun ds st1 vs T1 al1 H1 _ x1 w1 r1 q1 => optP q1 fun z hz q2 => ?_))
  obtain ⟨x, y, b1, b2, xs, ys, rfl, e1, e2, rfl⟩ := zipO_ok hz
  cases r1 with
  | cons ra rb =>
    cases rb with
    | cons rc rd =>
      cases rd
      obtain ⟨l, us, rfl, h1, h2⟩ := seqB_rep ra e1
      obtain ⟨l2, us2, rfl, h3, h4⟩ := seqB_rep rc e2
      exact ⟨b1, b2, l, l2, us, us2, rfl, SqB.same fz_same h1, SqB.same fz_same h3, q2 _ T1 al1 H1 .refl w1 (itok_zipM h1 h2 h3 h4)⟩
end
end Pi
namespace Pi
open PySem PySem.Spec PyProof.Rows L2 HT
section
variable {prog : Program} {w : World} {A : Around} {E : Value → Shared → Prop} {s : Shared}
end
section
variable {G : GX} {X : Cx} {W : WX} {H0 : Hp} {a e : Expr} {lo hi : Option Expr} {pos p2 : Pos}
end
end Pi
namespace Pi
open PySem PySem.Spec PyProof.Rows L2
section
variable {G : GX} {X : Cx}
end
end Pi
namespace Pi
open PySem PySem.Spec PyProof.Rows L2
def repS (n : Nat) (x : Str) : Str := ⟨(List.replicate n x.cps).foldl (· ++ ·) #[]⟩
theorem repS_size (a : Array Nat) : ∀ (n : Nat) (acc : Array Nat), ((List.replicate n a).foldl (· ++ ·) acc).size = acc.size + n * a.size
  | 0, acc => by simp
  | n + 1, acc => by
    rw [List.replicate_succ, List.foldl_cons, repS_size a n, Array.size_append, Nat.succ_mul]
    omega
theorem repS_len (n : Nat) (x : Str) : (repS n x).length = n * x.length := by
  have := repS_size x.cps n #[]
  rw [show (#[] : Array Nat).size = 0 from rfl, Nat.zero_add] at this
  exact this
def oMulX : D → D → Option D
  | .int i, .int j => match smallI i || smallI j with
    | true => some (.int (i * j))
    | false => none
  | .tup xs, .int k => match decide (-1000 ≤ k) && decide (k ≤ 1000) && Nat.ble xs.length 1000 with
    | true => some (.tup (List.replicate k.toNat xs).flatten)
    | false => none
  | .str x, .int k => match decide (-1000 ≤ k) && decide (k ≤ 1000) && Nat.ble x.length 1000 with
    | true => some (match decide (k < 1) with
      | true => .str Str.empty
      | false => match k == 1 || x.length == 0 with
        | true => .str x
        | false => .str (repS k.toNat x))
    | false => none
  | _, _ => none
theorem tuple_mul1 (l : Addr) (items : Array Value) (n : Nat) (dd : Option Addr) (sl : Array (Option Value)) (x : Int) (u : Tok) (c0 : (decide (x < -(2 ^ 63)) || decide (x ≥ 2 ^ 63)) = false) (c1 : (items.isEmpty || x == 1) = true) :
    Meets (Builtin.«tuple.__mul__» ⟨[.ref l, .int x u], []⟩) (fun _ R s => s.heap.get? l = some { cls := .type "tuple", dict := dd, data := .seq items n, slots := sl } ∧
      R (.ok (.ret (Value.ref l))) s) :=
  .of_wp fun prog w A R s h => by
    obtain ⟨hp, g, d, tk, os⟩ := s
    obtain ⟨hl, h⟩ := h
    have f1 := AutoSeq1.idx_int
    wp_walk using wpAny_loadPart' hl
    repeat (first
      | (refine wpAny_ite_false (decide_eq_false (by rw [c0]; exact Bool.false_ne_true)) ?_; wp_walk using wpAny_loadPart' hl)
      | (refine wpAny_ite_true (decide_eq_true c1) ?_; wp_walk using wpAny_loadPart' hl))
    exact ⟨_, rfl, h⟩
theorem tuple_mul0 (l : Addr) (items : Array Value) (n : Nat) (dd : Option Addr) (sl : Array (Option Value)) (x : Int) (u : Tok) (c0 : (decide (x < -(2 ^ 63)) || decide (x ≥ 2 ^ 63)) = false) (c1 : (items.isEmpty || x == 1) = false) (c2 : (decide (x ≤ 0) || items.isEmpty) = true) :
    Meets (Builtin.«tuple.__mul__» ⟨[.ref l, .int x u], []⟩) (fun _ R s => s.heap.get? l = some { cls := .type "tuple", dict := dd, data := .seq items n, slots := sl } ∧
      R (.ok (.ret (Value.ref s.heap.objs.size))) { s with heap := s.heap.push { cls := Value.type "tuple", data := Data.seq #[] }, toks := s.toks }) :=
  .of_wp fun prog w A R s h => by
    obtain ⟨hp, g, d, tk, os⟩ := s
    obtain ⟨hl, h⟩ := h
    have f1 := AutoSeq1.idx_int
    wp_walk using wpAny_loadPart' hl
    repeat (first
      | (refine wpAny_ite_false (decide_eq_false (by rw [c0]; exact Bool.false_ne_true)) ?_; wp_walk using wpAny_loadPart' hl)
      | (refine wpAny_ite_false (decide_eq_false (by rw [c1]; exact Bool.false_ne_true)) ?_; wp_walk using wpAny_loadPart' hl)
      | (refine wpAny_ite_true (decide_eq_true c2) ?_; wp_walk using wpAny_loadPart' hl)
      | (refine wpAny_ite_false (decide_eq_false (Nat.not_lt.mpr (by rw [sizeLine_eq]; decide))) ?_; wp_walk using wpAny_loadPart' hl))
    exact ⟨_, rfl, h⟩
def rRepX (K : PySem.W.Frag) : R2 := fun x y H Q => ∃ l k xs, x = .ref l ∧ y = .int k ∧ SqT K H l xs ∧ -1000 ≤ k ∧ k ≤ 1000 ∧ xs.length ≤ 1000 ∧
  (k = 1 ∨ xs = [] → Q (.ref l) H) ∧ (¬ (k = 1 ∨ xs = []) → ∀ p, H p = none → Q (.ref p) (upd H p (.tup (List.replicate k.toNat xs).flatten)))
section
variable {X : Cx}
theorem op_repX : OpR X (binaryOp .Mult) (rRepX X.K) := by
  intro pins s σ H x y v u Q I rx ry h
  obtain ⟨l, k, xs, rfl, rfl, hT, hl, hu, hz, q0, q1⟩ := h
  by_cases sm : k = 1 ∨ xs = []
  · cases rx
    obtain ⟨t, rfl⟩ := ry
    obtain ⟨its, r, ⟨⟨cls, dd, data, sl⟩, ho, hc, n, hd⟩, hs⟩ := I.tuple hT
    simp only at hc hd
    subst hc hd
    have c0 : (decide (k < -(2 ^ 63)) || decide (k ≥ 2 ^ 63)) = false := by
      rw [decide_eq_false (by omega), decide_eq_false (by omega)] <;> rfl
    have c1 : (its.toArray.isEmpty || k == 1) = true := by
      rcases sm with rfl | rfl
      · simp
      · cases r
        rfl
    exact wpAny_binaryOp_repeat_ref (T := "tuple") (U := "int") (by decide) ⟨_, ho, rfl⟩ (fun s' => typeIs_int s' k t) noFill_tuple_mul F.fills_int_mul F.slot_int_rmul repeat_tuple F.slot_int_index.lookup
      (call_meets F.slot_int_rmul (typeIs_int s k t) F.entry_int_rmul (F.args_int_rmul_2 _ _) (int_rmul_tuple k t l its.toArray n dd sl)
        ⟨ho, rfl, ⟨_, ho, rfl⟩, call_meets F.slot_tuple_mul ⟨_, ho, rfl⟩ F.entry_tuple_mul (F.args_tuple_mul_2 _ _) (tuple_mul1 l its.toArray n dd sl k t c0 c1) ⟨ho, ⟨.ref l, H, I, rfl, q0 sm⟩⟩⟩)
  · by_cases k0 : k ≤ 0
    · have q := q1 sm
      rw [show k.toNat = 0 by omega] at q
      cases rx
      obtain ⟨t, rfl⟩ := ry
      obtain ⟨its, r, ⟨⟨cls, dd, data, sl⟩, ho, hc, n, hd⟩, hs⟩ := I.tuple hT
      simp only at hc hd
      subst hc hd
      have hi : its.toArray.isEmpty = false := by
        cases its with
        | nil =>
          cases r
          exact absurd (.inr rfl) sm
        | cons a b => rfl
      have c0 : (decide (k < -(2 ^ 63)) || decide (k ≥ 2 ^ 63)) = false := by
        rw [decide_eq_false (by omega), decide_eq_false (by omega)] <;> rfl
      have c1 : (its.toArray.isEmpty || k == 1) = false := by
        rw [hi, Bool.false_or]
        exact beq_eq_false_iff_ne.mpr (by omega)
      have c2 : (decide (k ≤ 0) || its.toArray.isEmpty) = true := by
        rw [decide_eq_true k0]
        rfl
      refine wpAny_binaryOp_repeat_ref (T := "tuple") (U := "int") (by decide) ⟨_, ho, rfl⟩ (fun s' => typeIs_int s' k t) noFill_tuple_mul F.fills_int_mul F.slot_int_rmul repeat_tuple F.slot_int_index.lookup
        (call_meets F.slot_int_rmul (typeIs_int s k t) F.entry_int_rmul (F.args_int_rmul_2 _ _) (int_rmul_tuple k t l its.toArray n dd sl)
          ⟨ho, rfl, ⟨_, ho, rfl⟩, call_meets F.slot_tuple_mul ⟨_, ho, rfl⟩ F.entry_tuple_mul (F.args_tuple_mul_2 _ _) (tuple_mul0 l its.toArray n dd sl k t c0 c1 c2) ⟨ho, ?_⟩⟩)
      refine ⟨.ref s.heap.objs.size, _, I.laid (t' := s.toks) (o := .tup []) (fun b ob q => Heap.get?_push_of_some _ q) (Nat.le_refl _) ?_, rfl, q _ (I.hok.fresh (Nat.le_refl _))⟩
      exact ⟨Nat.zero_le _, [], .nil, IsTup.new _ _⟩
    · exact op_repT pins s σ H _ _ v u Q I rx ry ⟨l, k, xs, rfl, rfl, hT, fun e => sm (.inr e), by omega, hu, hz, q1 sm⟩
theorem op_repS : OpR X (binaryOp .Mult) (fun x y H Q => ∃ z k, x = .str z ∧ y = .int k ∧ -1000 ≤ k ∧ k ≤ 1000 ∧ z.length ≤ 1000 ∧
    Q (match decide (k < 1) with
      | true => .str Str.empty
      | false => match k == 1 || z.length == 0 with
        | true => .str z
        | false => .str (repS k.toNat z)) H) := by
  intro pins s σ H x y v u Q I rx ry h
  obtain ⟨z, k, rfl, rfl, hl, hu, hz, q⟩ := h
  obtain ⟨t, rfl⟩ := rx
  obtain ⟨t', rfl⟩ := ry
  have c0 : (decide (k < -(2 ^ 63 : Int)) || decide (k ≥ 2 ^ 63)) = false := by
    rw [decide_eq_false (by omega), decide_eq_false (by omega)] <;> rfl
  refine PySem.P.mul_str c0 (fun a _ => ?_) (fun a _ => ?_) ?_
  · intro hh
    have a1 : (1000 : Int) ≤ (2 ^ 63 - 1) / k := (Int.le_ediv_iff_mul_le (by omega)).mpr (by omega)
    omega
  · have a1 : z.length * k.toNat ≤ 1000 * 1000 := Nat.mul_le_mul hz (by omega)
    show decide (z.length * k.toNat > sizeLine) = false
    rw [sizeLine_eq]
    exact decide_eq_false (by omega)
  · by_cases k1 : k < 1
    · rw [decide_eq_true k1] at q
      rw [if_pos k1]
      exact ⟨Nat.zero_le _, .str Str.empty, H, I.tok _, ⟨_, rfl⟩, q⟩
    · rw [decide_eq_false k1] at q
      rw [if_neg k1]
      cases e : (k == 1 || z.length == 0) with
      | true =>
        rw [e] at q
        rw [if_pos rfl]
        exact ⟨.str z, H, I, ⟨t, rfl⟩, q⟩
      | false =>
        rw [e] at q
        rw [if_neg (by decide)]
        refine ⟨?_, .str (repS k.toNat z), H, I.tok _, ⟨_, rfl⟩, q⟩
        show (repS k.toNat z).length ≤ sizeLine
        rw [repS_len, sizeLine_eq]
        have a1 : k.toNat * z.length ≤ 1000 * 1000 := Nat.mul_le_mul (by omega) hz
        omega
end
section
variable {G : GX} {X : Cx}
theorem bin_mulX : BinR G X (binaryOp .Mult) oMulX := binR_of fun x y z hz => by
  cases x with
  | int i =>
    cases y with
    | int j =>
      have hz' : (match smallI i || smallI j with
        | true => some (D.int (i * j))
        | false => none) = some z := hz
      cases e : smallI i || smallI j with
      | false =>
        rw [e] at hz'
        cases hz'
      | true =>
        rw [e] at hz'
        have e2 : D.int (i * j) = z := Option.some.inj hz'
        subst e2
        refine ⟨_, op_mul, fun st T al H v u Q w rx ry q => ⟨i, j, r_int rx, r_int ry, ?_, q _ T al H .refl w (.int _)⟩⟩
        rcases Bool.or_eq_true_iff.mp e with e | e
        · exact .inl (small_ok e)
        · exact .inr (small_ok e)
    | _ => cases hz
  | tup xs =>
    cases y with
    | int k =>
      have hz' : (match decide (-1000 ≤ k) && decide (k ≤ 1000) && Nat.ble xs.length 1000 with
        | true => some (D.tup (List.replicate k.toNat xs).flatten)
        | false => none) = some z := hz
      cases e : decide (-1000 ≤ k) && decide (k ≤ 1000) && Nat.ble xs.length 1000 with
      | false =>
        rw [e] at hz'
        cases hz'
      | true =>
        rw [e] at hz'
        have e2 : D.tup (List.replicate k.toNat xs).flatten = z := Option.some.inj hz'
        subst e2
        simp only [Bool.and_eq_true, decide_eq_true_eq] at e
        obtain ⟨⟨e2, e3⟩, e4⟩ := e
        refine ⟨_, op_repX, fun st T al H v u Q w rx ry q => ?_⟩
        obtain ⟨a, vs, rfl, h1, r1⟩ := r_tup rx
        refine ⟨a, k, vs, rfl, r_int ry, h1, e2, e3, by rw [r1.length]; exact Nat.le_of_ble_eq_true e4, fun z => ?_, fun z p n => new_tup w n (replicate_rep r1 _) q⟩
        rcases z with rfl | rfl
        · rw [show (1 : Int).toNat = 1 from rfl, List.replicate_one, List.flatten_singleton] at q
          exact q _ T al H .refl w rx
        · cases r1
          rw [show (List.replicate k.toNat ([] : List D)).flatten = [] by simp] at q
          exact q _ T al H .refl w rx
    | _ => cases hz
  | str x =>
    cases y with
    | int k =>
      have hz' : (match decide (-1000 ≤ k) && decide (k ≤ 1000) && Nat.ble x.length 1000 with
        | true => some (match decide (k < 1) with
          | true => D.str Str.empty
          | false => match k == 1 || x.length == 0 with
            | true => D.str x
            | false => D.str (repS k.toNat x))
        | false => none) = some z := hz
      cases e : decide (-1000 ≤ k) && decide (k ≤ 1000) && Nat.ble x.length 1000 with
      | false =>
        rw [e] at hz'
        cases hz'
      | true =>
        rw [e] at hz'
        have e2 := Option.some.inj hz'
        simp only [Bool.and_eq_true, decide_eq_true_eq] at e
        obtain ⟨⟨e3, e4⟩, e5⟩ := e
        refine ⟨_, op_repS, fun st T al H v u Q w rx ry q => ⟨x, k, r_str rx, r_int ry, e3, e4, Nat.le_of_ble_eq_true e5, ?_⟩⟩
        cases e6 : decide (k < 1) with
        | true =>
          rw [e6] at e2
          subst e2
          exact q _ T al H .refl w (.str _)
        | false =>
          rw [e6] at e2
          cases e7 : (k == 1 || x.length == 0) with
          | true =>
            rw [e7] at e2
            subst e2
            exact q _ T al H .refl w (.str _)
          | false =>
            rw [e7] at e2
            subst e2
            exact q _ T al H .refl w (.str _)
    | _ => cases hz
  | _ => cases y <;> cases hz
end
end Pi
namespace Pi
open PySem PySem.Spec PyProof.Rows L2
section
variable {G : GX} {X : Cx} {W : WX} {E : XK} {H0 : Hp}
end
end Pi
namespace Pi
open PySem PySem.Spec PyProof.Rows L2
abbrev IsZ (h : Heap) (z TI TO : Addr) (u : Value) (f : Bool) : Prop :=
  h.get? z = some { cls := .type "zip", dict := none, data := .fields #[u, .bool f, .bool false, .ref TI, .ref TO], slots := #[] }
section
variable {prog : Program} {w : World} {A : Around} {E : Value → Shared → Prop} {s : Shared}
end
end Pi
namespace Pi
open PySem PySem.Spec PyProof.Rows L2
section
variable {prog : Program} {w : World} {A : Around} {E : Value → Shared → Prop} {s : Shared}
end
end Pi
namespace Pi
open PySem PySem.Spec PyProof.Rows L2
structure ZS2 (h : Heap) (z TI TO : Addr) (ds : List Dw) (k : Nat) : Prop where
  hz : ∃ u f, IsZ h z TI TO u f ∧ (u = .none ∨ ∃ T : Addr, u = rawInt T)
  hTI : IsTp h TI (ds.map fun d => Value.ref d.it)
  hTO : ∃ ys : List Value, ys.length = ds.length ∧ IsTp h TO ys
  its : ∀ d ∈ ds, SIt d.b h d.it d.l k
theorem ZS2.sh {h' : Heap} {z TI TO : Addr} {k : Nat} {ds es : List Dw} (h : ds.map Dw.sh = es.map Dw.sh) (S : ZS2 h' z TI TO ds k) : ZS2 h' z TI TO es k where
  hz := S.hz
  hTI := by
    have := congrArg (List.map Value.ref) (sh_it h)
    rw [List.map_map, List.map_map] at this
    have e : (es.map fun d => Value.ref d.it) = ds.map fun d => Value.ref d.it := this.symm
    rw [e]
    exact S.hTI
  hTO := by
    obtain ⟨ys, h1, h2⟩ := S.hTO
    refine ⟨ys, ?_, h2⟩
    have := congrArg List.length h
    simp at this
    omega
  its := fun e he => by
    obtain ⟨d, hd, q1, q2, q3⟩ := sh_mem h.symm he
    rw [← q1, ← q2, ← q3]
    exact S.its d hd
section
variable {prog : Program} {w : World} {A : Around} {E : Value → Shared → Prop} {s : Shared}
end
end Pi
namespace Pi
open PySem PySem.Spec PyProof.Rows L2 StX
section
variable {prog : Program} {w : World} {A : Around} {E : Value → Shared → Prop} {s : Shared}
end
theorem nn {a b : Nat} (h : a ≠ b) : @Ne Addr a b := h
section
variable {G : GX} {X : Cx} {W : WX} {H0 : Hp} {e : Expr} {x : Str} {p sp_ pos xp : Pos}
end
end Pi
namespace Pi
open PySem PySem.Spec PyProof.Rows L2
section
variable {G : GX} {X : Cx} {E : XK} {H0 : Hp} {body : List Stmt} {pos : Pos}
end
section
variable {G : GX} {X : Cx} {W : WX} {E : XK} {H0 : Hp} {e tg : Expr} {es : List Expr} {s : Stmt}
end
end Pi
namespace Pi
open PySem PySem.Spec PyProof.Rows L2
section
variable {G : GX} {X : Cx} {W : WX} {H0 : Hp} {a b c : Expr} {pos : Pos}
theorem pb_chain {op op' : CmpOp} {o o2 : D → D → Option D} {f g h : Env → Mo D} (hr : BinR G X (compareOp op) o) (hr2 : BinR G X (compareOp op') o2) (ha : PH G X W H0 a f) (hb : PH G X W H0 b g) (hc : PH G X W H0 c h)
    (hm : lastMarks [op, op'] [b, c] = false := by with_unfolding_all rfl) : PB G X W H0 (.Compare a [op, op'] [b, c] pos) (bOf (eChain o o2 f g h)) := by
  intro r st σ T al H Qb S w q0 pins s I
  have q := post_toB q0
  generalize hQ : (fun x H' => ∃ k, x = V.bl k ∧ Qb k H') = Q at q
  refine isTrue_chain (thn (ha r st σ T al H (fun x H1 => ∀ pins s vv, Inv X pins σ H1 s → RelV x vv → wpAny (model X.prog X.w) X.A (eval b X.env) (fun u s2 => wpAny (model X.prog X.w) X.A (compareOp op vv u) (fun d s3 => wpAny (model X.prog X.w) X.A (truthy d) (fun k s4 => if k = true then wpAny (model X.prog X.w) X.A (eval c X.env) (fun w' s5 => wpAny (model X.prog X.w) X.A (compareOp op' u w') (EP X pins σ Q) X.xe s5) X.xe s4 else ∃ H', Inv X pins σ H' s4 ∧ Q (.bl false) H') X.xe s3) X.xe s2) X.xe s) S w ?_ pins s I) fun v s1 ⟨x, H1, I1, r1, q1⟩ => test_link (thn (q1 pins s1 v I1 r1) fun u s2 h2 => thn h2 fun d s3 h3 => thn h3 fun k s4 h4 => ?_)) hm
  · refine seqP back_D q fun x st1 v T1 al1 H1 _ x1 w1 r1 q1 => ?_
    intro pins s vv I rv
    refine thn (hb r st1 σ T1 al1 H1 (fun y H2 => ∀ pins s uu, Inv X pins σ H2 s → RelV y uu → wpAny (model X.prog X.w) X.A (compareOp op vv uu) (fun d s3 => wpAny (model X.prog X.w) X.A (truthy d) (fun k s4 => if k = true then wpAny (model X.prog X.w) X.A (eval c X.env) (fun w' s5 => wpAny (model X.prog X.w) X.A (compareOp op' uu w') (EP X pins σ Q) X.xe s5) X.xe s4 else ∃ H', Inv X pins σ H' s4 ∧ Q (.bl false) H') X.xe s3) X.xe s) (S.ext x1) w1 ?_ pins s I) fun u s2 ⟨y, H2, I2, r2, q2⟩ => q2 pins s2 u I2 r2
    refine seqP back_D q1 fun y st2 u T2 al2 H2 _ x2 w2 r2 q2 => ?_
    intro pins s uu I ru
    have q2' : Post G X.K W (RpD X.K) σ T2 al2 H2 Q ((Mo.opt ((o x y).bind D.toB) >>= fun k => match k with
      | true => h r >>= fun z => Mo.opt (o2 y z)
      | false => pure (.bl false)) st2) := q2
    cases e : o x y with
    | none =>
      rw [e] at q2'
      exact q2'.elim
    | some z =>
      rw [e] at q2'
      cases ek : z.toB with
      | none =>
        have : (some z).bind D.toB = none := ek
        rw [this] at q2'
        exact q2'.elim
      | some k =>
        have : (some z).bind D.toB = some k := ek
        rw [this] at q2'
        refine thn (hr x y z e pins s σ st2 T2 al2 H2 v u vv uu (fun d H3 => d = .bl k ∧ ∃ T3 al3, Ext T2 al2 H2 T3 al3 H3 ∧ WI X.K G.TB T3 al3 st2 H3) I w2 (RepH.ext r1 x2) r2 rv ru fun t T' al' H' e w' rt => ⟨toB_rep rt ek, T', al', e, w'⟩) ?_
        intro d s3 ⟨zv, H3, I3, r3, ez, T3, al3, x3, w3⟩
        subst ez
        cases r3
        refine wpAny_truthy_bool ?_
        cases k with
        | false => exact iteF ⟨H3, I3, q2' (.bl false) T3 al3 H3 x3 w3 (.bl false)⟩
        | true =>
          refine iteT ?_
          have q3 : Post G X.K W (RpD X.K) σ T3 al3 H3 Q ((h r >>= fun z => Mo.opt (o2 y z)) st2) := Post.ext back_D q2' x3
          refine thn (hc r st2 σ T3 al3 H3 (fun zc H4 => ∀ pins s ww, Inv X pins σ H4 s → RelV zc ww → wpAny (model X.prog X.w) X.A (compareOp op' uu ww) (EP X pins σ Q) X.xe s) (((S.ext x1).ext x2).ext x3) w3 ?_ pins s3 I3) fun ww s4 ⟨zc, H4, I4, r4, q4⟩ => q4 pins s4 ww I4 r4
          refine seqP back_D q3 fun zd st4 zc T4 al4 H4 _ x4 w4 r4 q4 => ?_
          intro pins s ww I rw4
          exact optP q4 fun z5 hz q5 => hr2 y zd z5 hz pins s σ st4 T4 al4 H4 u zc uu ww Q I w4 (RepH.ext (RepH.ext r2 x3) x4) r4 ru rw4 fun t T' al' H' e w' rt => q5 t T' al' H' e w' rt
  · cases k with
    | false =>
      obtain ⟨H4, I4, q4⟩ : ∃ H', Inv X pins σ H' s4 ∧ Q (.bl false) H' := by simpa using h4
      rw [← hQ] at q4
      obtain ⟨k, ek, q5⟩ := q4
      cases ek
      exact ite_ff ⟨H4, I4, q5⟩
    | true =>
      have h5' : wpAny (model X.prog X.w) X.A (eval c X.env) (fun w' s5 => wpAny (model X.prog X.w) X.A (compareOp op' u w') (EP X pins σ Q) X.xe s5) X.xe s4 := by simpa using h4
      refine ite_tt (test_last (thn h5' fun w' s5 h5 => thn h5 fun d' s6 ⟨v6, H6, I6, r6, q6⟩ => ?_))
      rw [← hQ] at q6
      obtain ⟨k, ek, q7⟩ := q6
      subst ek
      cases r6
      exact wpAny_truthy_bool ⟨H6, I6, q7⟩
end
end Pi
namespace Pi
open PySem PySem.Spec PyProof.Rows L2
section
variable {G : GX} {X : Cx}
end
end Pi
namespace Pi
open PySem PySem.Spec PyProof.Rows L2
end Pi
namespace Pi
open PySem PySem.Spec PyProof.Rows L2
section
variable {prog : Program} {w : World} {A : Around} {E : Value → Shared → Prop} {s : Shared}
end
end Pi
namespace Pi
open PySem PySem.Spec PyProof.Rows L2
section
variable {prog : Program} {w : World} {A : Around} {E : Value → Shared → Prop} {s : Shared}
end
end Pi
namespace Pi
open PySem PySem.Spec PyProof.Rows L2
section
variable {prog : Program} {w : World} {A : Around} {E : Value → Shared → Prop} {s : Shared}
end
end Pi
namespace Pi
open PySem PySem.Spec PyProof.Rows L2
section
variable {prog : Program} {w : World} {A : Around} {E : Value → Shared → Prop} {s : Shared}
end
end Pi
namespace Pi
open PySem PySem.Spec PyProof.Rows L2
inductive Walk {α : Type} (f : α → Option α) : List α → Prop
  | one {a : α} : f a = none → Walk f [a]
  | cons {a b : α} {l : List α} : f a = some b → Walk f (b :: l) → Walk f (a :: b :: l)
theorem Walk.map {α β : Type} {f : α → Option α} {g : β → Option β} {k : α → β} {y : Option β} {l2 : List β} (hk : ∀ a b, f a = some b → g (k a) = some (k b))
    (h2 : (y = none ∧ l2 = []) ∨ (y = l2.head? ∧ Walk g l2)) : ∀ {l : List α}, (∀ a ∈ l, f a = none → g (k a) = y) → Walk f l → Walk g (l.map k ++ l2)
  | _, hn, .one h => by
    have e := hn _ List.mem_cons_self h
    rcases h2 with ⟨rfl, rfl⟩ | ⟨rfl, w⟩
    · exact .one e
    · cases l2 with
      | nil => cases w
      | cons b l => exact .cons e w
  | _, hn, .cons h w => .cons (hk _ _ h) (Walk.map hk h2 (fun a ha => hn a (List.mem_cons_of_mem _ ha)) w)
end Pi
namespace Pi
open PySem PySem.Spec PyProof.Rows L2
theorem Walk.get {α : Type} {f : α → Option α} : ∀ {l : List α} {i : Nat} {a : α}, Walk f l → l[i]? = some a → f a = l[i + 1]?
  | _, 0, _, .one h, e => by
    cases e
    rw [h]
    rfl
  | _, i + 1, _, .one h, e => by
    rw [List.getElem?_cons_succ] at e
    cases e
  | _, 0, _, .cons h w, e => by
    cases e
    rw [h]
    rfl
  | _, i + 1, _, .cons h w, e => by
    rw [List.getElem?_cons_succ] at e ⊢
    exact w.get e
section
variable {prog : Program} {w : World} {A : Around} {E : Value → Shared → Prop} {s : Shared}
end
end Pi
namespace Pi
open PySem PySem.Spec PyProof.Rows L2
section
variable {prog : Program} {w : World} {A : Around} {E : Value → Shared → Prop} {s : Shared}
end
end Pi
namespace Pi
open PySem PySem.Spec PyProof.Rows L2 StX
section
variable {G : GX} {X : Cx} {W : WX} {H0 : Hp} {e m tg : Expr} {p p2 pos pos2 : Pos}
end
end Pi
namespace Pi
open PySem PySem.Spec PyProof.Rows L2
section
variable {G : GX} {X : Cx} {W : WX} {H0 : Hp} {e : Expr} {p p2 pos pos2 : Pos}
end
end Pi
namespace Pi
open PySem PySem.Spec PyProof.Rows L2
section
variable {G : GX} {X : Cx}
end
end Pi
namespace Pi
open PySem PySem.Spec PyProof.Rows L2
section
variable {K : PySem.W.Frag} {F : Hp} {al : List Addr}
end
section
variable {X : Cx} {pins : List (Addr × Obj)} {σ : L2.St} {H : Hp} {s : Shared}
end
end Pi
namespace Pi
open PySem PySem.Spec PyProof.Rows L2
section
variable {G : GX} {X : Cx} {W : WX} {H0 : Hp} {tg iter kx vx : Expr} {ifs : List Expr} {scope : Scope} {own : List (Str × Nat)} {pos : Pos}
end
end Pi
namespace Pi
open PySem PySem.Spec PyProof.Rows L2 StX
section
variable {G : GX} {X : Cx} {W : WX} {H0 : Hp} {a b e f : Expr} {pos p p2 apos cpos : Pos}
end
end Pi
namespace Pi
open PySem PySem.Spec PyProof.Rows L2 StX
section
variable {X : Cx} {pins : List (Addr × Obj)} {σ : L2.St} {H : Hp} {s : Shared} {d : Addr} {o : Obj} {vs : List (List Key × V)}
end
section
variable {P : Program} {w : World} {K : PySem.W.Frag} {d : Addr} {o : Obj} {es : Array DictEntry} {ep : Nat}
end
section
variable {G : GX} {X : Cx} {W : WX} {H0 : Hp} {a : Expr} {apos cpos : Pos}
end
end Pi
namespace Pi
open PySem PySem.Spec PyProof.Rows L2
section
variable {X : Cx} {k v : Expr} {pos : Pos}
end
section
variable {G : GX} {X : Cx} {W : WX} {E : XK} {H0 : Hp} {B : Bs} {a b e k v : Expr} {pos p p1 apos cpos : Pos} {x : Str}
end
end Pi
namespace Pi
open PySem PySem.Spec PyProof.Rows L2
section
variable {prog : Program} {w : World} {K : Type} [DecidableEq K] {knd : HeapKind prog w K} {A : Around} {E : Value → Shared → Prop} {s : Shared}
end
section
variable {X : Cx}
end
end Pi
namespace Pi
open PySem PySem.Spec PyProof.Rows L2 LamX
section
variable {G : GX} {P : Program} {w : World} {K : PySem.W.Frag} {mg : Str → Option Value} {base : Heap} {k : Nat} {f : Addr} {fd : FuncData} {N ps : List Str} {x : Str} {st : Stmt}
end
section
variable {G : GX} {X : Cx} {W : WX} {H0 : Hp} {x y : Str} {p pos p1 : Pos} {e : Expr} {k : Nat}
end
end Pi
namespace Pi
open PySem PySem.Spec PyProof.Rows L2
section
variable {G : GX} {X : Cx} {E : XK} {H0 : Hp} {B : Bs} {pos p p1 p2 : Pos} {e : Expr} {x : Str} {sts : List Stmt}
end
end Pi
namespace Pi
open PySem PySem.Spec PyProof.Rows L2
theorem RepAll.eraseIdx {K : PySem.W.Frag} {F : Hp} {al : List Addr} : ∀ {vs : List V} {ds : List D} (k : Nat), RepAll K F al vs ds → RepAll K F al (vs.eraseIdx k) (ds.eraseIdx k)
  | _, _, _, .nil => .nil
  | _, _, 0, .cons r t => t
  | _, _, k + 1, .cons r t => .cons r (RepAll.eraseIdx k t)
theorem RepAll.get2 {K : PySem.W.Frag} {F : Hp} {al : List Addr} {vs : List V} {ds : List D} {k : Nat} {d : D} (r : RepAll K F al vs ds) (h : ds[k]? = some d) : ∃ v, vs[k]? = some v ∧ Rep K F al v d := by
  obtain ⟨v, h1, h2⟩ := r.get h
  exact ⟨v, h1, h2⟩
section
variable {G : GX} {X : Cx} {E : XK} {H0 : Hp} {B : Bs} {pos p p1 p2 p3 p4 p5 : Pos} {k : Expr} {x y : Str}
end
end Pi
namespace Pi
open PySem PySem.Spec PyProof.Rows L2
section
variable {G : GX} {X : Cx} {E : XK} {H0 : Hp} {tg iter kx vx : Expr} {ifs : List Expr} {scope : Scope} {pos spos py : Pos} {y : Str} {i : Nat}
variable {f : Env → Mo (List D)} {b : D → Env → Option Env} {is : List Nat} {gt : TG} {ct : Env → Mo Bool} {fk fe : Env → Mo D}
end
end Pi
namespace Pi
open PySem PySem.Spec PyProof.Rows L2
section
variable {G : GX} {X : Cx} {W : WX} {E : XK} {H0 : Hp}
theorem pst_forT {tg : Expr} {es : List Expr} {kk : Nat} {lp : Pos} {body : List Stmt} {pos : Pos} {f : Env → Mo (List D)} {b : D → Env → Option Env} {is : List Nat} {gt : TG} {g : Stm} (hp : PassesOwn (model X.prog X.w) X.A X.env X.xe) (hc : X.calm = true) (hi : PIt G X (wE E) H0 tg (.Tuple es kk lp) f) (hg : PG X tg gt) (hgs : TgOk X.K H0 b is gt) (hb : PBl G X E H0 body g) : PSt G X E H0 (.For tg (.Tuple es kk lp) body [] pos) (sFor f b g) := pst_for hp hc hi hg hgs hb (fun _ => rfl)
end
end Pi
namespace Pi
open PySem PySem.Spec PyProof.Rows L2
def enumX : List D → Option (List D)
  | [.tup xs] => some (enumD xs)
  | [.lst xs] => some (enumD xs)
  | _ => none
section
variable {G : GX} {X : Cx} {W : WX} {H0 : Hp} {a : Expr} {elts : List Expr} {kk : Nat} {p pos tpos : Pos}
theorem pit_enumX {f : Env → Mo (List D)} (hg : Gl X "enumerate") (hm : X.mg "enumerate" = none) (ha : PL G X W H0 [a] f) (hs : starEach [a] X.env = [(false, eval a X.env)] := by rfl) : PIt G X W H0 (.Tuple elts kk tpos) (.Call (.Name "enumerate" p) [a] [] pos) (iFun enumX f) := by
  intro r st σ T al H R S w q
  have go : iFun enumX f r st = iFun enumT f r st ∨ iFun enumX f r st = iFun enumO f r st ∨ iFun enumX f r st = .bad := by
    unfold iFun
    rw [bind_ap, bind_ap, bind_ap]
    cases f r st with
    | err c y st1 => exact .inl rfl
    | bad => exact .inl rfl
    | ok ds st1 =>
      match ds with
      | [.tup xs] => exact .inl rfl
      | [.lst xs] => exact .inr (.inl rfl)
      | [] => exact .inr (.inr rfl)
      | a :: b :: l => exact .inr (.inr (by cases a <;> rfl))
      | [.non] | [.bl _] | [.int _] | [.str _] | [.ktp _] | [.dct _] | [.obj _] | [.exc _ _ _] | [.kls _] | [.dcx _] | [.bex _ _] => exact .inr (.inr rfl)
  rcases go with e | e | e
  · rw [e] at q
    exact pit_enumT hg hm ha hs r st σ T al H R S w q
  · rw [e] at q
    exact pit_enumL hg hm ha hs r st σ T al H R S w q
  · rw [e] at q
    exact q.elim
end
end Pi
namespace Pi
open PySem PySem.Spec PyProof.Rows L2 PySem.W
section
variable {prog : Program} {w : World} {A : Around} {E : Value → Shared → Prop} {s : Shared}
end
end Pi
namespace Pi
open PySem PySem.Spec PyProof.Rows L2 PySem.W
section
variable {prog : Program} {w : World} {A : Around} {E : Value → Shared → Prop} {s : Shared} {β : Type} {ws : List Value} {bs : List β} {Rr : Value → β → Prop}
end
end Pi
namespace Pi
open PySem PySem.Spec PyProof.Rows L2 PySem.W
section
variable {G : GX} {X : Cx} {W : WX} {H0 : Hp} {a : Expr} {p p2 kpos pos : Pos}
end
end Pi
namespace Pi
open PySem PySem.Spec PyProof.Rows L2
section
variable {G : GX} {X : Cx} {W : WX} {H0 : Hp} {a tg : Expr} {p pos : Pos}
end
end Pi
namespace Pi
open PySem PySem.Spec PyProof.Rows L2
section
variable {G : GX} {X : Cx} {E : XK} {H0 : Hp} {B : Bs} {p p1 p2 p3 : Pos} {k : Expr} {x : Str}
end
end Pi
namespace Pi
open PySem PySem.Spec PyProof.Rows L2
end Pi
namespace Pi
open PySem PySem.Spec PyProof.Rows L2
section
variable {G : GX} {X : Cx} {W : WX} {H0 : Hp} {a : Expr} {p p2 pos pos2 : Pos}
end
end Pi
namespace Pi
open PySem PySem.Spec PyProof.Rows L2
section
variable {G : GX} {X : Cx} {W : WX} {E : XK} {H0 : Hp}
end
end Pi
namespace Pi
open PySem PySem.Spec PyProof.Rows L2 LamX
section
variable {G : GX} {P : Program} {w : World} {K : PySem.W.Frag} {mg : Str → Option Value} {base : Heap} {k : Nat} {f : Addr} {fd : FuncData} {N ps : List Str} {x : Str} {st : Stmt} {b : Bool}
end
section
variable {G : GX} {X : Cx} {W : WX} {H0 : Hp} {x y : Str} {p pos p1 : Pos} {e e2 : Expr} {k : Nat}
end
end Pi
namespace Pi
open PySem PySem.Spec PyProof.Rows L2
abbrev ofTail : List Value := [.type "OverflowError", .type "ArithmeticError", .type "Exception", .type "BaseException", .type "object"]
section
open PySem.Builtin PySem.Builtin.ObjectAttr
theorem of_pass (me : Value) (C : Addr) : refuseLoop me "__setattr__" (.ref C :: ofTail) = pure () := by
  rw [refuseLoop_ref]
  exact F.store_OverflowError.passes me
variable {prog : Program} {w : World} {A : Around} {R : Result → Shared → Prop} {hp : Heap} {gs : Array GenState} {dr : Drawn} {tk0 : Nat} {os : OsState}
theorem osa_of {K : W.Frag} {name : Str} {tk : Tok} {v : Value} {x C : Addr} {fv : Array Value} {nm q : Str} {N : Addr} {bs : List Value} {sn : List Str} {sub : List Value} {ab : Bool} {col : Option Bool}
    (kin : K.In hp) (gx : hp.get? x = some { cls := .ref C, data := .fields fv }) (gc : W.clsIn K C = some { name := nm, bases := bs, mro := .ref C :: ofTail, ns := N, qualname := q, hasDict := true, slotNames := sn, subclasses := sub, abstract := ab, collection := col, hasDel := false }) (no : W.findIn K (.ref C) name = some none)
    (then_ : ∀ h1 tk1 dx, (∀ b o, b ≠ x → hp.get? b = some o → h1.get? b = some o) → hp.objs.size ≤ dx → dx ≠ x → h1.get? x = some { cls := .ref C, dict := some dx, data := .fields fv } →
      h1.Ns1 dx (fun y => if y = name then some v else none) → R (.ok (.ret .none)) ⟨h1, gs, dr, tk1, os⟩) :
    codeAny (model prog w) A (.call (.builtin "object.__setattr__") ⟨[.ref x, .str name tk, v], []⟩) R ⟨hp, gs, dr, tk0, os⟩ := by
  have at_x : W.InstAt hp x { cls := .ref C, data := .fields fv } C none := ⟨gx, rfl, rfl, trivial⟩
  have fresh : x ≠ hp.objs.size := Nat.ne_of_lt (Heap.lt_size gx)
  have under : W.Looks (model prog w) hp (isInstance (.ref x) (.type "object")) true := at_x.type.andThen (W.looks_mroIn kin (by
    unfold W.mroIn
    rw [gc, Option.bind_some, if_neg (by simp)]
    exact congrArg some (by simp)))
  refine codeAny_call_builtin F.store_object.slot.plain F.store_object.entry (@W.check_slot (model prog w) _ _ ⟨hp, gs, dr, tk0, os⟩ "object.__setattr__" "object" "__setattr__" (.ref x) [.str name tk, v] [] _ F.store_object.kind F.store_object.split under (F.store_object.args (.ref x) (.str name tk) v) ?_)
  have line : W.Looks (model prog w) hp (mroOf (.ref C)) (.ref C :: ofTail) := (W.looks_clsIn kin gc).andThen .now
  have untaken : W.Looks (model prog w) hp (storeTaker? none) none := .now
  have the_class := W.looks_clsIn (M := model prog w) kin gc
  rw [W.osa_eq, refuse_eq]
  refine wpAny_bind (wpAny_bind (at_x.type.at (wpAny_bind (line.at ?_))))
  rw [of_pass]
  refine wpAny_pure (wpAny_bind (at_x.type.at (wpAny_bind ((W.looks_findIn kin no).at (wpAny_bind (untaken.at ?_))))))
  show wpAny _ _ (storeInOwnDict (.ref x) (.ref C) (.str name tk) name v false) _ _ _
  unfold storeInOwnDict ownDictForStores
  repeat (first | with_reducible refine HandSPX.store_in_new ?_ ?_ | with_reducible refine wpAny_loadPart_at gx ?_ | with_reducible refine the_class.at ?_ | wp_step)
  · exact ⟨_, #[], _, (Heap.get?_update_ne _ _ _ _ fresh.symm).trans (Heap.get?_push_at rfl rfl), rfl, fun e he => absurd he (by simp), fun _ => rfl⟩
  · intro h1 tk1 hn1 same
    have gx1 : (hp.push { cls := .type "dict", data := .dict #[] }).get? x = some { cls := .ref C, data := .fields fv } := Heap.get?_push_of_some _ gx
    refine then_ h1 tk1 hp.objs.size (fun b o hb ho => ?_) (Nat.le_refl _) fresh.symm ?_ hn1
    · exact (same.2 b (Nat.ne_of_lt (Heap.lt_size ho))).trans ((Heap.get?_update_ne _ _ _ _ hb).trans (Heap.get?_push_of_some _ ho))
    · exact (same.2 x fresh).trans (Heap.get?_update_self _ gx1 rfl)
end
structure OexO (K : PySem.W.Frag) (C : Addr) : Prop where
  cls : ∃ nm q N bs sn sub ab col dd k0 k1 k2 k3 k5, K.lookup C = some (excClassObj nm q C N bs ofTail true sn sub ab col dd k0 k1 k2 k3 k5 "OverflowError.__new__")
  sets : PySem.W.findIn K (.ref C) "__setattr__" = some (some (.builtin "object.__setattr__"))
  base : PySem.W.subIn K (.ref C) (.type "BaseException") = some true
  typ : PySem.W.typeIn K (.ref C) = some (.type "type")
  kept : PySem.W.keepIn K (.ref C) = true
theorem of_contains (X : String) : ofTail.contains (Value.type X) = ofTail.contains (Value.type X) := rfl
section
variable {X : Cx} {pins : List (Addr × Obj)} {σ : L2.St} {H : Hp} {s : Shared} {a C dx : Addr} {f : Str} {y : V} {u : Value} {Q : Unit → Shared → Prop} {E : Value → Shared → Prop} {A : Around}
theorem ostO_new (T : OexO X.K C) (I : Inv X pins σ H s) (e : H a = some (exo a C none)) (hno : PySem.W.findIn X.K (.ref C) f = some none) (ry : RelV y u)
    (h : ∀ dx s', H dx = none → dx ≠ a → Inv X pins σ (upd (upd H dx (exd dx [(f, y)])) a (exo a C (some dx))) s' → Q () s') : wpAny (model X.prog X.w) A (setAttr (.ref a) f u) Q E s := by
  obtain ⟨nm, q, N, bs, sn, sub, ab, col, dd, k0, k1, k2, k3, k5, hC⟩ := T.cls
  have gc : PySem.W.clsIn X.K C = some { name := nm, bases := bs, mro := .ref C :: ofTail, ns := N, qualname := q, hasDict := true, slotNames := sn, subclasses := sub, abstract := ab, collection := col, hasDel := false } := by unfold PySem.W.clsIn; rw [hC]
  obtain ⟨t1, ho⟩ := exo_at I.hok e
  obtain ⟨hp, g, d, t, os⟩ := s
  refine PySem.W.set_plain I.kIn (od := none) (ox := { cls := .ref C, dict := none, data := .fields #[.ref t1, .none, .none, .none, .bool false, .none] }) ⟨ho, rfl, rfl, trivial⟩ T.sets ?_
  refine osa_of I.kIn ho gc hno (fun h1 tk1 dx k dn dne hx hn => ?_)
  have free_dx : H dx = none := I.hok.fresh dn
  have not_dx : ∀ {b : Addr} {o : Obj}, hp.get? b = some o → b ≠ dx := fun z => Nat.ne_of_lt (Nat.lt_of_lt_of_le (Heap.lt_size z) dn)
  have not_a : ∀ {b : Addr}, H b = none → b ≠ a := fun n z => by
    rw [z, e] at n
    cases n
  have U1 : Un X.fs [] H (upd (upd H dx (exd dx [(f, y)])) a (exo a C (some dx))) hp h1 := {
    keep := fun b o z n _ _ => k b o (not_a n) z
    slot := fun b o z n _ _ => ⟨o.slots, k b o (not_a n) z⟩
    free := fun b o z n _ => by rw [upd_ne (not_a n), upd_ne (not_dx z), n]
    there := fun b o z _ => by
      by_cases hb : b = a
      · exact ⟨_, by rw [hb]; exact hx⟩
      · exact ⟨o, k b o hb z⟩
    tups := fun b xs z => by rw [upd_ne (at_ne e z exo_tup), upd_ne (ne_of_none z free_dx), z]
    frzs := fun b o v z => by rw [upd_ne (at_ne e z exo_frz), upd_ne (ne_of_none z free_dx), z]
    tbls := fun b ps z => ⟨#[], by rw [upd_ne (at_ne e z exo_tbl), upd_ne (ne_of_none z free_dx), z]; simp⟩ }
  refine h dx _ free_dx dne (I.un (t' := tk1) U1 fun b o z => ?_)
  by_cases hb : b = a
  · subst hb
    rw [upd_same] at z
    cases z
    exact exo_ok hx
  · rw [upd_ne hb] at z
    by_cases hd : b = dx
    · subst hd
      rw [upd_same] at z
      cases z
      exact exd_ok hn (relO_put (fs := []) ry fun g => True.intro)
    · rw [upd_ne hd] at z
      refine (I.hok b o z).stay (fun c v hc z2 => k c v ?_ z2) (fun c hc => ?_) (fun c xs hc => ?_)
      · rcases hc with hc | hc
        · exact fun z3 => hb (hc.symm.trans z3)
        · exact at_ne e hc exo_own
      · rw [upd_ne (at_ne e hc exo_own), upd_ne (ne_of_none hc free_dx), hc]
      · rw [upd_ne (at_ne e hc exo_tup), upd_ne (ne_of_none hc free_dx), hc]
end
def tOstO (K : PySem.W.Frag) (f : Str) (to te : TE) : TS := fun D σ H => te σ H fun y H1 => to σ H1 fun x H2 => ∃ a C : Addr, x = .ref a ∧ OexO K C ∧ PySem.W.findIn K (.ref C) f = some none ∧
  H2 a = some (exo a C none) ∧ ∀ dx, H2 dx = none → dx ≠ a → D.nx σ (upd (upd H2 dx (exd dx [(f, y)])) a (exo a C (some dx)))
section
variable {X : Cx} {o e : Expr} {es : List Expr} {to te : TE} {ta : TA} {f : Str} {p p' p1 p2 pos : Pos}
theorem ps_ostO (ho : PE X o to) (he : PE X e te) (hs : swapsWith e (some (.Attribute o f p')) pos.line X.env = pure false := by rfl) : PS X (.Assign [.Attribute o f p'] e pos) (tOstO X.K f to te) := by
  refine ⟨fun pins s σ H D I h => plainObj_wpAny_Assign_Attribute (thn (he.run pins s σ H _ I h) fun v s1 ⟨y, H1, I1, r1, q1⟩ => thn (ho.run pins s1 σ H1 _ I1 q1) fun u s2 ⟨x, H2, I2, r2, a, C, ex, T, hno, ea, q⟩ => ?_) hs⟩
  subst ex
  have eu : u = Value.ref a := r2
  subst eu
  exact ostO_new T I2 ea hno r1 fun dx s' n ne J => ⟨σ, _, J, q dx n ne⟩
theorem pmk_oexO {CX : CXT} {x : Str} {C fI : Addr} {k : Nat} {fd : FuncData} {ps : List Str} {sp : Sp} (T : OexO X.K C) (iC : PySem.W.findIn X.K (.ref C) "__init__" = some (some (.ref fI))) (tI : PySem.W.typeIn X.K (.ref fI) = some (.type "function"))
    (F1 : FnOk X.prog X.w X.K X.mg X.base CX k fI fd ps sp) (hr : Room (k + 1) X.A) (hb : Binds X.K fd ps []) (hx : Passes CX X (fun _ _ _ => False)) (hg : Gl X x) (hm : X.mg x = some (.ref C)) (ha : PA X (e :: es) ta)
    (hdb : (x == ("__debug__" : Str)) = false := by decide) (he : starEach (e :: es) X.env = (false, eval e X.env) :: starEach es X.env := by rfl) (hpl : (backTo pos (starEach es X.env)).any (·.1) = false := by rfl) :
    PMk X (.Call (.Name x p) (e :: es) [] pos) (tMkO C sp [] ta) := by
  intro pins s σ H Q I h
  obtain ⟨nm, q, N, bs, sn, sub, ab, col, dd, k0, k1, k2, k3, k5, hC⟩ := T.cls
  refine wpAny_Call_Name_kw (ld_glob I hg hm (PySem.W.callWith_K (h₀ := X.base) I.ok.mod.kin T.kept (thn (ha.run pos pins s σ H _ I h) fun us s1 ⟨vs, H1, I1, r1, hz, q1⟩ => ⟨I1.kIn, ?_⟩) he hpl) hdb)
  show wpAny _ _ (call (.ref C) us) _ _ _
  obtain ⟨hp, g, dr, tk, os⟩ := s1
  have up : hp.objs.size ≤ hp.objs.size + 1 := Nat.le_succ _
  have hq := q1 (hp.objs.size + 1) (I1.hok.fresh up)
  have kk : ∀ b o, hp.get? b = some o → ((hp.push (PySem.W.kdv_tup us)).push (PySem.HandSPX.excO C hp.objs.size)).get? b = some o := fun _ _ z => Heap.get?_push_of_some _ (Heap.get?_push_of_some _ z)
  have ge : ((hp.push (PySem.W.kdv_tup us)).push (PySem.HandSPX.excO C hp.objs.size)).get? (hp.objs.size + 1) = some (PySem.HandSPX.excO C hp.objs.size) := by heap_get
  have J : Inv X pins σ (upd H1 (hp.objs.size + 1) (exo (hp.objs.size + 1) C none)) ⟨(hp.push (PySem.W.kdv_tup us)).push (PySem.HandSPX.excO C hp.objs.size), g, dr, tk, os⟩ :=
    I1.laid (t' := tk) (a := hp.objs.size + 1) (h' := (hp.push (PySem.W.kdv_tup us)).push (PySem.HandSPX.excO C hp.objs.size)) (o := exo (hp.objs.size + 1) C none) kk up (exo_ok ge)
  rw [List.append_nil] at hq
  have r2 : Vals (V.ref (hp.objs.size + 1) :: vs) (Value.ref (hp.objs.size + 1) :: us) := .cons rfl r1
  have hl : (Value.ref (hp.objs.size + 1) :: us).length = ps.length := by
    have z := r2.length
    rw [F1.len _ _ _ _ hq] at z
    exact z.symm
  have bound := hb _ (Value.ref (hp.objs.size + 1) :: us) J.kIn (by rw [List.append_nil]; exact hl)
  rw [List.append_nil] at bound
  have few : us.length ≤ sizeLine := by
    rw [← Paired.length r1, sizeLine_eq]
    omega
  refine wpAny_call (PySem.HandSPX.call_own F.excBase_OverflowError of_contains (I1.kIn _ _ hC) (PySem.W.looks_findIn I1.kIn iC) (fun self => PySem.W.bind_fn I1.kIn self tI) few
    (codeAny_mono (F1.run _ X.stack _ _ ⟨Value.ref (hp.objs.size + 1) :: us, []⟩ (Value.ref (hp.objs.size + 1) :: us) _ _ (fun _ _ _ => False) (hr.make C us []) (J.env0.make C us []) bound r2 hq) fun r s2 z => ?_))
  match r, z with
  | .error er, z => exact hx pins σ _ _ er s2 J z
  | .ok (.ret u), z =>
    obtain ⟨v, H2, os2, bare2, un2, hok2, rv, ev, d, fs, ea, ed, hd1, q2⟩ := z
    subst ev
    obtain ⟨h2, g2, d2, t2, os'⟩ := s2
    exact ⟨rv, mk_end (raises_own T.base T.typ) I1 up kk un2 hok2 os2 bare2 ea ed hd1 q2⟩
  | .ok .next, z => exact False.elim z
  | .ok .brk, z => exact False.elim z
  | .ok .cont, z => exact False.elim z
end
def spIO (K : PySem.W.Frag) (C : Addr) (f : Str) : Sp := fun vs H Q _ => ∃ (a : Addr) (y : V), vs = [.ref a, y] ∧ OexO K C ∧ PySem.W.findIn K (.ref C) f = some none ∧ H a = some (exo a C none) ∧
  ∀ dx, H dx = none → dx ≠ a → Q .non (upd (upd H dx (exd dx [(f, y)])) a (exo a C (some dx)))
theorem initO_ok {P : Program} {w : World} {K : PySem.W.Frag} {mg : Str → Option Value} {base : Heap} {k : Nat} {fI C : Addr} {fd : FuncData} {x qual f y : Str} {params : Arguments} {scope : Scope} {dvs : List V} {kws : List (Str × V)} {p1 p2 p3 p4 : Pos}
    (F : FunD K x qual params (initB f y p1 p2 p3 p4) scope dvs kws fI fd) (S : FnScope ["self", y] ["self", y] scope) (h0 : scope.names.lookup ("self" : Str) = some NameKind.local) (h1 : scope.names.lookup y = some NameKind.local) (hd : (y == ("__debug__" : Str)) = false) (hcd : (y == ("__classdict__" : Str)) = false)
    (hs : ∀ (cdv : Value) (a : Addr), swapsWith (.Name y p3) (some (.Attribute (.Name "self" p1) f p2)) p4.line (envOfC qual scope a fI cdv) = pure false) :
    FnOk P w K mg base (L2.CX P w) (k + 1) fI fd ["self", y] (spIO K C f) := by
  refine F.ok S (fun vs H Q E h => by obtain ⟨a, z, rfl, _⟩ := h; rfl) fun cdv A outer s H vs Q E hr h => ?_
  obtain ⟨a, z, rfl, T, hno, ha, q⟩ := h
  refine ⟨_, pss_one (ps_ostO (pe_var (i := 0) rfl (.inl h0)) (pe_var (i := 1) rfl (.inl h1) hd hcd) (hs _ _)), ?_⟩
  exact ⟨z, rfl, .ref a, rfl, a, C, rfl, T, hno, ha, fun dx n ne => q dx n ne⟩
structure XFO (G : GX) (P : Program) (w : World) (K : PySem.W.Frag) (mg : Str → Option Value) (base : Heap) (x : Str) (c : Nat) : Prop where
  ex : ∃ (fI : Addr) (fd : FuncData) (ps : List Str), OexO K (G.cls c) ∧ PySem.W.findIn K (.ref (G.cls c)) (G.fld c) = some none ∧ PySem.W.findIn K (.ref (G.cls c)) "__init__" = some (some (.ref fI)) ∧ PySem.W.typeIn K (.ref fI) = some (.type "function") ∧
    FnOk P w K mg base (L2.CX P w) 1 fI fd ps (spIO K (G.cls c) (G.fld c)) ∧ Binds K fd ps [] ∧ mg x = some (.ref (G.cls c))
structure XClsO (G : GX) (X : Cx) (x : Str) (c : Nat) : Prop where
  f : XFO G X.prog X.w X.K X.mg X.base x c
  r : Room 2 X.A
theorem XFO.kn {G : GX} {X : Cx} {x : Str} {c : Nat} (h : XFO G X.prog X.w X.K X.mg X.base x c) (hr : Room 2 X.A) : XClsO G X x c := ⟨h, hr⟩
section
variable {G : GX} {X : Cx} {E : XK} {H0 : Hp} {x : Str} {c : Nat} {e : Expr} {p pos p2 : Pos}
theorem pst_raiseO {f : Env → Mo D} (hc : X.calm = true) (kn : XClsO G X x c) (tk : Takes X (wE E)) (hg : Gl X x) (ha : PD G X (wE E) H0 e f) (hdb : (x == ("__debug__" : Str)) = false := by decide)
    (he : starEach (e :: []) X.env = (false, eval e X.env) :: starEach [] X.env := by rfl) (hpl : (backTo pos (starEach [] X.env)).any (·.1) = false := by rfl) :
    PSt G X E H0 (.Raise (some (.Call (.Name x p) [e] [] pos)) none p2) (sRaise c f) := by
  intro B r s0 σ T al H D S q
  obtain ⟨fI, fd, ps, T1, hno, iC, tI, F, hb, hm⟩ := kn.f.ex
  refine rdS1 (ps_raise hc tk (pmk_oexO T1 iC tI F kn.r hb (passes_call takes0 fun _ _ _ _ z => z) hg hm (pa_cons pe_rd pa_nil he) hdb he hpl)) ?_
  refine ha r s0 σ T al H _ S.sl S.wi (seqS S q fun y st1 v T2 al2 H2 x2 S2 r2 q2 => ?_)
  refine ⟨by show 1 ≤ 1000; omega, fun a na => ⟨a, v, rfl, T1, hno, upd_same, fun dx nx ne => ⟨rfl, dx, [(G.fld c, v)], upd_same, by rw [upd_ne ne, upd_same], ?_, ?_⟩⟩⟩
  · rw [upd_ne ne] at nx
    exact nx
  · rw [upd_ne ne] at nx
    have eH : upd (del (upd (upd (upd H2 a (exo a (G.cls c) none)) dx (exd dx [(G.fld c, v)])) a (exo a (G.cls c) (some dx))) a) dx (.xd [(G.fld c, v)]) = upd H2 dx (.xd [(G.fld c, v)]) := by
      funext b
      by_cases hb : b = dx
      · rw [hb, upd_same, upd_same]
      · rw [upd_ne hb, upd_ne hb]
        by_cases ha : b = a
        · rw [ha, del_same, na]
        · rw [del_ne ha, upd_ne ha, upd_ne hb, upd_ne ha]
    rw [eH]
    have q3 : ErrW G X.K (wE E) [] B.T B.al H0 c y st1 := q2
    exact q3 dx v T2 al2 _ (S2.ex.trans (Ext.laid0 nx)) (S2.wi.laid nx) (S2.ex.free nx) upd_same (Rep.ext r2 (Ext.laid0 (al := al2) nx))
end
def oclO (K : PySem.W.Frag) (C : Addr) : Bool := match K.lookup C with
  | some ⟨.type t, _, .cls cd, sl⟩ => decide (t = "type") && (cd.hasDict && (!cd.hasDel && (decide (cd.mro = .ref C :: ofTail) && (match sl.toList with
    | [_, _, _, _, some (.builtin n), _] => decide (n = "OverflowError.__new__")
    | _ => false))))
  | _ => false
theorem oclO_ok {K : PySem.W.Frag} {C : Addr} (h : oclO K C = true) : ∃ nm q N bs sn sub ab col dd k0 k1 k2 k3 k5, K.lookup C = some (excClassObj nm q C N bs ofTail true sn sub ab col dd k0 k1 k2 k3 k5 "OverflowError.__new__") := by
  unfold oclO at h
  cases e : K.lookup C with
  | none => rw [e] at h; cases h
  | some o =>
    obtain ⟨oc, od, dt, sl⟩ := o
    rw [e] at h
    cases oc with
    | type t =>
      cases dt with
      | cls cd =>
        obtain ⟨nm, bs, mro, N, q, hd, sn, sub, ab, col, hdl⟩ := cd
        obtain ⟨h1, h⟩ := both h
        obtain ⟨h2, h⟩ := both h
        obtain ⟨h3, h⟩ := both h
        obtain ⟨h4, h5⟩ := both h
        have e1 : t = "type" := of_decide_eq_true h1
        have e2 : hd = true := h2
        have e3 : hdl = false := by simpa using h3
        have e4 : mro = .ref C :: ofTail := of_decide_eq_true h4
        subst e1 e2 e3 e4
        split at h5
        · rename_i k0 k1 k2 k3 n k5 es
          have e5 : n = "OverflowError.__new__" := of_decide_eq_true h5
          subst e5
          have es2 : sl = #[k0, k1, k2, k3, some (.builtin "OverflowError.__new__"), k5] := by
            apply Array.toList_inj.mp
            rw [es]
          subst es2
          exact ⟨nm, q, N, bs, sn, sub, ab, col, od, k0, k1, k2, k3, k5, rfl⟩
        · cases h5
      | _ => cases h
    | _ => cases h
def raisO (K : PySem.W.Frag) (x f : Str) : Bool := (oclO K (He.ga K x) && (decide (PySem.W.findIn K (.ref (He.ga K x)) "__setattr__" = some (some (.builtin "object.__setattr__"))) && (decide (PySem.W.subIn K (.ref (He.ga K x)) (.type "BaseException") = some true) && (decide (PySem.W.typeIn K (.ref (He.ga K x)) = some (.type "type")) && PySem.W.keepIn K (.ref (He.ga K x)))))) &&
  (decide (PySem.W.findIn K (.ref (He.ga K x)) f = some none) && (decide (PySem.W.findIn K (.ref (He.ga K x)) "__init__" = some (some (.ref (He.ma K (He.ga K x) "__init__")))) && decide (PySem.W.typeIn K (.ref (He.ma K (He.ga K x) "__init__")) = some (.type "function"))))
theorem xfO_of {K : PySem.W.Frag} {mg : Str → Option Value} {G : GX} {P : Program} {w : World} {base : Heap} {x f y qual : Str} {c : Nat} {params : Arguments} {scope : Scope} {p1 p2 p3 p4 : Pos} {fd : FuncData}
    (h : raisO K x f = true) (hc : G.cls c = He.ga K x) (hf : G.fld c = f) (hm : mg x = some (.ref (He.ga K x))) (F : FunD K "__init__" qual params (initB f y p1 p2 p3 p4) scope [] [] (He.ma K (He.ga K x) "__init__") fd) (S : FnScope ["self", y] ["self", y] scope)
    (h0 : scope.names.lookup ("self" : Str) = some NameKind.local) (h1 : scope.names.lookup y = some NameKind.local) (hd : (y == ("__debug__" : Str)) = false) (hcd : (y == ("__classdict__" : Str)) = false) (hs : ∀ (cdv : Value) (a b : Addr), swapsWith (.Name y p3) (some (.Attribute (.Name "self" p1) f p2)) p4.line (envOfC qual scope a b cdv) = pure false)
    (bd : ∀ (kV doc pm : Value) (an : Option Addr) (cdv ct : Value) (us : List Value), us.length = (["self", y] : List Str).length → bindArgs (PySem.W.fnOf "__init__" qual params (initB f y p1 p2 p3 p4) scope .none kV doc pm an cdv ct) ⟨us, []⟩ = pure ((["self", y] : List Str).zip us)) : XFO G P w K mg base x c := by
  obtain ⟨a1, h'⟩ := both h
  obtain ⟨a2, h'⟩ := both h'
  obtain ⟨a3, a4⟩ := both h'
  obtain ⟨b1, b'⟩ := both a1
  obtain ⟨b2, b'⟩ := both b'
  obtain ⟨b3, b'⟩ := both b'
  obtain ⟨b4, b5⟩ := both b'
  refine ⟨_, fd, ["self", y], ?_, by rw [hc, hf]; exact of_decide_eq_true a2, by rw [hc]; exact of_decide_eq_true a3, of_decide_eq_true a4, ?_, F.bindsN bd, by rw [hc]; exact hm⟩
  · rw [hc]
    exact ⟨oclO_ok b1, of_decide_eq_true b2, of_decide_eq_true b3, of_decide_eq_true b4, b5⟩
  · rw [hc, hf]
    exact initO_ok (k := 0) F S h0 h1 hd hcd fun cdv a => hs cdv a _
end Pi
namespace Pi
open PySem PySem.Spec PyProof.Rows L2
section
variable {G : GX} {X : Cx} {W : WX} {H0 : Hp} {tg : Expr} {y : Str} {p p1 pos tpos : Pos} {a : Expr} {elts : List Expr} {kk : Nat}
end
end Pi
namespace Pi
open PySem PySem.Spec PyProof.Rows L2
section
variable {G : GX} {X : Cx} {W : WX} {H0 : Hp} {y : Str} {p1 p2 pos : Pos} {lo hi : Option Expr}
end
end Pi
namespace Pi
open PySem PySem.Spec PyProof.Rows L2

def IsvOk (K : PySem.W.Frag) (c : Value) (tbl : Str → Option Bool) : Prop := ∀ n b, tbl n = some b → PySem.W.XcOk K (He.ga K n) ∧ PySem.W.kitOne K (.ref (He.ga K n)) c = some b
def eIsV (tbl : Str → Option Bool) (f : Env → Mo D) : Env → Mo D := fun r => f r >>= fun x => match x with
  | .exc n _ _ => Mo.opt ((tbl n).map .bl)
  | .bex n _ => Mo.opt ((tbl n).map .bl)
  | _ => Mo.bad
def ErO (H : Hp) (D x : Addr) : Prop := (∃ (d : Addr) (g : Str) (v : V), H x = some (ExcO (.ref D) d x) ∧ H d = some (.xd [(g, v)])) ∨ ∃ t : Addr, H x = some (BexO (.ref D) t x)
theorem bex_at {X : Cx} {pins : List (Addr × Obj)} {σ : L2.St} {H : Hp} {s : Shared} {a t C : Addr} (I : Inv X pins σ H s) (h : H a = some (BexO (.ref C) t a)) : ∃ oe, PySem.W.InstAt s.heap a oe C none ∧ ∃ vs, oe.data = .fields vs ∧ vs[0]? = some (.ref t) := by
  have h1 : ObjOk X.prog X.w H s.heap a (.ext fun h => ∃ (oe : Obj) (vs : Array Value), h.get? a = some oe ∧ Zc (.ref C) none oe ∧ oe.data = .fields vs ∧ vs[0]? = some (.ref t)) := I.hok a _ h
  obtain ⟨oe, vs, e1, e2, e3, e4⟩ := h1.1
  exact ⟨oe, ⟨e1, e2.1, by unfold PySem.W.notCls; rw [e3] <;> rfl, by rw [e2.2]; trivial⟩, vs, e3, e4⟩
section
variable {G : GX} {X : Cx} {W : WX} {H0 : Hp} {a b e : Expr} {pos p p2 : Pos}
theorem call_isV : CallR X (.builtin "isinstance") (fun xs H Q => ∃ (x D : Addr) (c : V) (cv : Value) (b : Bool), xs = [.ref x, c] ∧ (∀ u, RelV c u → u = cv) ∧ ErO H D x ∧ PySem.W.XcOk X.K D ∧ PySem.W.kitOne X.K (.ref D) cv = some b ∧ Q (.bl b) H) := by
  intro pins s σ H xs us Q I rr h
  obtain ⟨x, D, c, cv, b, rfl, hc, ho, T, e, q⟩ := h
  obtain ⟨u1, u2, rfl, r1, r2⟩ := vals2 rr
  cases r1
  have ec := hc _ r2
  subst ec
  rcases ho with ⟨d, g, v, h1, h2⟩ | ⟨t, h1⟩
  · obtain ⟨oe, od, J, _⟩ := exc_at I h1 h2
    exact PySem.W.kia_one (PySem.W.xc_kit T) I.kIn J e (fun z => nomatch z) fun tk => ⟨.bl b, H, I.tok tk, rfl, q⟩
  · obtain ⟨oe, J, _⟩ := bex_at I h1
    exact PySem.W.kia_one (PySem.W.handS_kitx_exc T.ga T.gg T.be T.hd T.cl T.sp T.tk T.ob) I.kIn J e (fun z => nomatch z) fun tk => ⟨.bl b, H, I.tok tk, rfl, q⟩
theorem pd_isV {f : Env → Mo D} {y : Str} {c : V} {cv : Value} {tbl : Str → Option Bool} (ok : IsvOk X.K cv tbl) (hcl : PE X (.Name y p2) (tC c)) (hcv : ∀ u, RelV c u → u = cv) (ha : PD G X W H0 a f) (hgi : Gl X "isinstance") (hmi : X.mg "isinstance" = none)
    (he : starEach [a, .Name y p2] X.env = (false, eval a X.env) :: starEach [.Name y p2] X.env := by rfl) (he2 : starEach [.Name y p2] X.env = (false, eval (.Name y p2) X.env) :: starEach [] X.env := by rfl) (hpl : (backTo pos (starEach [.Name y p2] X.env)).any (·.1) = false := by rfl) :
    PD G X W H0 (.Call (.Name "isinstance" p) [a, .Name y p2] [] pos) (eIsV tbl f) := by
  intro r st σ T1 al H Q S w q
  refine rdE (pe_callB call_isV hgi hmi PyProof.Rows.Boot.«isinstance» (pa_cons pe_rd (pa_cons hcl pa_nil he2) he) (by decide) (by decide) he hpl) ?_
  refine ha r st σ T1 al H _ S w (seqP back_D q fun x st1 v T2 al2 H2 _ x2 w2 r2 q2 => ?_)
  cases x with
  | exc n g y =>
    refine optP q2 fun z hz q3 => ?_
    obtain ⟨k, hk, ez⟩ := Option.map_eq_some_iff.mp hz
    subst ez
    obtain ⟨T, ek⟩ := ok n k hk
    cases r2 with
    | exc h1 h2 h3 => exact ⟨_, _, _, _, k, rfl, hcv, .inl ⟨_, _, _, (fz_some h1).2, (fz_some h2).2⟩, T, ek, q3 _ T2 al2 H2 .refl w2 (.bl k)⟩
  | bex n y =>
    refine optP q2 fun z hz q3 => ?_
    obtain ⟨k, hk, ez⟩ := Option.map_eq_some_iff.mp hz
    subst ez
    obtain ⟨T, ek⟩ := ok n k hk
    cases r2 with
    | bex h1 h2 => exact ⟨_, _, _, _, k, rfl, hcv, .inr ⟨_, (fz_some h1).2⟩, T, ek, q3 _ T2 al2 H2 .refl w2 (.bl k)⟩
  | _ => exact q2.elim
theorem pd_isVg {f : Env → Mo D} {y : Str} {C : Addr} {tbl : Str → Option Bool} (ok : IsvOk X.K (.ref C) tbl) (hm : X.mg y = some (.ref C)) (ha : PD G X W H0 a f) (hgi : Gl X "isinstance") (hmi : X.mg "isinstance" = none) (hg : Gl X y) (hd : (y == ("__debug__" : Str)) = false := by decide)
    (he : starEach [a, .Name y p2] X.env = (false, eval a X.env) :: starEach [.Name y p2] X.env := by rfl) (he2 : starEach [.Name y p2] X.env = (false, eval (.Name y p2) X.env) :: starEach [] X.env := by rfl) (hpl : (backTo pos (starEach [.Name y p2] X.env)).any (·.1) = false := by rfl) :
    PD G X W H0 (.Call (.Name "isinstance" p) [a, .Name y p2] [] pos) (eIsV tbl f) :=
  pd_isV ok (pe_glob (v := .ref C) hg hm rfl hd) (fun u r => r) ha hgi hmi he he2 hpl
theorem pd_isVb {f : Env → Mo D} {y : Str} {t : String} {tbl : Str → Option Bool} (ok : IsvOk X.K (.type t) tbl) (hv : bootBuiltins y = some (.type t)) (hm : X.mg y = none) (ha : PD G X W H0 a f) (hgi : Gl X "isinstance") (hmi : X.mg "isinstance" = none) (hg : Gl X y) (hn : y ≠ "__name__" := by decide) (hd : (y == ("__debug__" : Str)) = false := by decide)
    (he : starEach [a, .Name y p2] X.env = (false, eval a X.env) :: starEach [.Name y p2] X.env := by rfl) (he2 : starEach [.Name y p2] X.env = (false, eval (.Name y p2) X.env) :: starEach [] X.env := by rfl) (hpl : (backTo pos (starEach [.Name y p2] X.env)).any (·.1) = false := by rfl) :
    PD G X W H0 (.Call (.Name "isinstance" p) [a, .Name y p2] [] pos) (eIsV tbl f) :=
  pd_isV ok (pe_bltn (v := .ty t) hg hm hv rfl hn hd) (fun u r => r) ha hgi hmi he he2 hpl

theorem pe_bare {C : Addr} {bmB : List Value} {B newId initId : String} {x : Str} {ta : TE} (F : ExcBaseFacts B newId initId bmB) (q : PySem.W.excIn X.K C bmB newId = true) (gC : X.mg x = some (.ref C)) (kC : PySem.W.keepIn X.K (.ref C) = true) (hg : Gl X x)
    (he : PE X e ta) (hs : starEach [e] X.env = (false, eval e X.env) :: starEach [] X.env := by rfl) (hdb : (x == ("__debug__" : Str)) = false := by decide) :
    PE X (.Call (.Name x p) [e] [] pos) (fun σ H Q => ta σ H fun y H1 => ∀ a t, H1 a = none → H1 t = none → a ≠ t → Q (.ref a) (upd (upd H1 t (.tup [y])) a (BexO (.ref C) t a))) := by
  refine ⟨fun pins s σ H Q I h => ?_⟩
  refine wpAny_Call_Name_kw (ld_glob I hg gC ?_ hdb)
  refine PySem.W.callWith_K (h₀ := X.base) I.ok.mod.kin kC ?_ hs (by rfl)
  rw [hs]
  show wpAny _ _ (spliced ((false, eval e X.env) :: backTo pos (starEach [] X.env))) _ _ s
  refine Calls.spliced_cons (thn (he.run pins s σ H _ I h) fun u s1 ⟨v, H1, I1, r1, q1⟩ => ?_)
  refine Calls.spliced_nil ⟨I1.kIn, ?_⟩
  show wpAny _ _ (call (.ref C) [u]) _ _ _
  obtain ⟨bm, N, nm, qn, bs, hdct, sn, sub, ab, col, dd, k0, k1, k2, k3, k5, mN, hC, hN, hni, T⟩ := exc_obj I1.kIn q
  refine wpAny_call_exc_subT F T hC hN hni (fun h' a hm => ?_) (by show 1 ≤ sizeLine; rw [sizeLine_eq]; omega)
  have ha : H1 a = none := I1.hok.gone hm.new
  obtain ⟨t, e1, e2, e3⟩ := hm.there
  have ht : H1 t = none := I1.hok.gone e2
  have hat : a ≠ t := fun z => by
    rw [z, e3] at e1
    have z2 := Option.some.inj e1
    cases z2
  have nw : ∀ {b : Addr} {o : Obj}, s1.heap.get? b = some o → b ≠ a ∧ b ≠ t := fun q => ⟨fun z => (by rw [z, hm.new] at q; cases q), fun z => (by rw [z, e2] at q; cases q)⟩
  have tr : ∀ {b : Addr} {o : HO}, H1 b = some o → b ≠ a ∧ b ≠ t := fun q => ⟨ne_of_none q ha, ne_of_none q ht⟩
  have U : Un X.fs [] H1 (upd (upd H1 t (.tup [v])) a (BexO (.ref C) t a)) s1.heap h' := {
    keep := fun b o q n _ _ => hm.keeps b o q
    slot := fun b o q n _ _ => ⟨o.slots, hm.keeps b o q⟩
    free := fun b o q n _ => by rw [upd_ne (nw q).1, upd_ne (nw q).2]; exact n
    there := fun b o q _ => ⟨o, hm.keeps b o q⟩
    tups := fun b xs q => by rw [upd_ne (tr q).1, upd_ne (tr q).2]; exact q
    frzs := fun b o v q => by rw [upd_ne (tr q).1, upd_ne (tr q).2]; exact q
    tbls := fun b ps q => ⟨#[], by rw [upd_ne (tr q).1, upd_ne (tr q).2, q]; simp⟩ }
  refine ⟨.ref a, _, I1.un (t' := s1.toks) U fun b o z => ?_, rfl, q1 a t ha ht hat⟩
  by_cases hb : b = a
  · subst hb
    rw [upd_same] at z
    cases z
    exact ⟨⟨_, _, e1, ⟨rfl, rfl⟩, rfl, rfl⟩, ⟨_, e1⟩, fun h1 h2 ⟨oe, vs, z1, z2, z3, z4⟩ k => ⟨oe, vs, k _ z1, z2, z3, z4⟩⟩
  · rw [upd_ne hb] at z
    by_cases hb2 : b = t
    · subst hb2
      rw [upd_same] at z
      cases z
      exact ⟨by rw [line_is]; show 1 ≤ 16777216; decide, [u], .cons r1 .nil, ⟨_, e3, rfl, _, rfl⟩⟩
    · rw [upd_ne hb2] at z
      exact (I1.hok b o z).stay (fun c v _ q => hm.keeps c v q) (fun c q => by rw [upd_ne (tr q).1, upd_ne (tr q).2]; exact q) fun c xs q => by rw [upd_ne (tr q).1, upd_ne (tr q).2]; exact q
structure XBare (P : Program) (w : World) (K : PySem.W.Frag) (mg : Str → Option Value) (x : Str) : Prop where
  q : PySem.W.excIn K (He.ga K x) [.type "ValueError", .type "Exception", .type "BaseException", .type "object"] "ValueError.__new__" = true
  k : PySem.W.keepIn K (.ref (He.ga K x)) = true
  s : PySem.W.findIn K (.ref (He.ga K x)) "__str__" = some (some (.builtin "BaseException.__str__"))
  b : PySem.W.subIn K (.ref (He.ga K x)) (.type "BaseException") = some true
  m : mg x = some (.ref (He.ga K x))
def eBex (n : Str) (f : Env → Mo D) : Env → Mo D := fun r => f r >>= fun x => match x with
  | .str s => pure (.bex n s)
  | _ => Mo.bad
theorem pd_bare {f : Env → Mo D} {x : Str} (kn : XBare X.prog X.w X.K X.mg x) (hg : Gl X x) (ha : PD G X W H0 e f) (hs : starEach [e] X.env = (false, eval e X.env) :: starEach [] X.env := by rfl) (hdb : (x == ("__debug__" : Str)) = false := by decide) :
    PD G X W H0 (.Call (.Name x p) [e] [] pos) (eBex x f) := by
  intro r st σ T al H Q S w q
  refine rdE (pe_bare F.excBase_ValueError kn.q kn.m kn.k hg pe_rd hs hdb) ?_
  refine ha r st σ T al H _ S w (seqP back_D q fun y st1 v T1 al1 H1 _ x1 w1 r1 q1 => ?_)
  cases y with
  | str m =>
    intro a t na nt hat
    have ev : v = .str m := rep_str r1
    subst ev
    have q1' : Post G X.K W (RpD X.K) σ T1 al1 H1 Q ((pure (.bex x m) : Mo D) st1) := q1
    have nT : T1 t = none := w1.free nt
    have nA : T1 a = none := w1.free na
    have na' : upd H1 t (.tup [.str m]) a = none := by rw [upd_ne hat]; exact na
    have x2 : Ext T1 al1 H1 (tset (tset T1 t .frz) a .frz) al1 (upd (upd H1 t (.tup [.str m])) a (BexO (.ref (He.ga X.K x)) t a)) := (Ext.laid nt .frz).trans (Ext.laid na' .frz)
    have w2 : WI X.K G.TB (tset T1 t .frz) al1 st1 (upd H1 t (.tup [.str m])) := (w1.laid nt).tag (by rw [nT]; decide) (by rw [nT]; decide) upd_same
    have nA2 : tset T1 t .frz a = none := by rw [tset_ne hat]; exact nA
    have w3 : WI X.K G.TB (tset (tset T1 t .frz) a .frz) al1 st1 (upd (upd H1 t (.tup [.str m])) a (BexO (.ref (He.ga X.K x)) t a)) := (w2.laid na').tag (by rw [nA2]; decide) (by rw [nA2]; decide) upd_same
    refine q1' (.ref a) _ al1 _ x2 w3 (.bex (t := t) (fz_of tset_same upd_same (by intro ps z; unfold BexO at z; cases z)) (fz_of (by rw [tset_ne (Ne.symm hat)]; exact tset_same) (by rw [upd_ne (Ne.symm hat)]; exact upd_same)))
  | _ => exact q1.elim
def StrOk (K : PySem.W.Frag) (ok : Str → Bool) : Prop := ∀ n, ok n = true → PySem.W.findIn K (.ref (He.ga K n)) "__str__" = some (some (.builtin "BaseException.__str__")) ∧ PySem.W.subIn K (.ref (He.ga K n)) (.type "BaseException") = some true
def eStrX (ok : Str → Bool) (f : Env → Mo D) : Env → Mo D := fun r => f r >>= fun x => match x with
  | .bex n s => (match ok n with
    | true => pure (.str s)
    | false => Mo.bad)
  | _ => Mo.bad
theorem pd_strX {f : Env → Mo D} {ok : Str → Bool} (hk : StrOk X.K ok) (hu : X.A.units + 2 < cLine) (hg : Gl X "str") (hm : X.mg "str" = none) (ha : PD G X W H0 e f)
    (hs : starEach [e] X.env = (false, eval e X.env) :: starEach [] X.env := by rfl) (hpl : (backTo pos (starEach [] X.env)).any (·.1) = false := by rfl) :
    PD G X W H0 (.Call (.Name "str" p) [e] [] pos) (eStrX ok f) := by
  intro r st σ T al H Q S w q
  have hc : CallR X (.type "str") (fun xs H Q => ∃ (x t D : Addr) (m : Str), xs = [.ref x] ∧ H x = some (BexO (.ref D) t x) ∧ H t = some (.tup [.str m]) ∧ PySem.W.findIn X.K (.ref D) "__str__" = some (some (.builtin "BaseException.__str__")) ∧ PySem.W.subIn X.K (.ref D) (.type "BaseException") = some true ∧ Q (.str m) H) := by
    intro pins s σ H xs us Q I rr h
    obtain ⟨x, t, D, m, rfl, h1, h2, h3, h4, q⟩ := h
    cases rr with
    | cons r1 rn =>
      cases rn
      cases r1
      obtain ⟨oe, J, vs, hd, h0⟩ := bex_at I h1
      have ht : ObjOk X.prog X.w H s.heap t (.tup [.str m]) := I.hok t _ h2
      obtain ⟨_, its, hv, o, e1, e2, n, e3⟩ := ht
      cases hv with
      | cons ru rn =>
        cases rn
        obtain ⟨tk, rfl⟩ := ru
        exact PySem.P.str_of_C_one hu ⟨I.kIn, oe, vs, J.1, J.2, hd, h0⟩ ⟨o, n, e1, e2, e3⟩ h3 h4 ⟨.str m, H, I, ⟨tk, rfl⟩, q⟩
  refine rdE (pe_callTy hc hg hm PyProof.Rows.Boot.«str» (pa_cons pe_rd pa_nil hs) (by decide) (by decide) hs hpl) ?_
  refine ha r st σ T al H _ S w (seqP back_D q fun y st1 v T1 al1 H1 _ x1 w1 r1 q1 => ?_)
  cases y with
  | bex n m =>
    have q1' : Post G X.K W (RpD X.K) σ T1 al1 H1 Q ((match ok n with
      | true => pure (.str m)
      | false => Mo.bad : Mo D) st1) := q1
    cases e1 : ok n with
    | false => rw [e1] at q1'; exact q1'.elim
    | true =>
      rw [e1] at q1'
      obtain ⟨k1, k2⟩ := hk n e1
      cases r1 with
      | bex h1 h2 => exact ⟨_, _, _, _, rfl, (fz_some h1).2, (fz_some h2).2, k1, k2, q1' _ T1 al1 H1 .refl w1 (.str m)⟩
  | _ => exact q1.elim
end
end Pi
namespace Pi
open PySem PySem.Spec PyProof.Rows L2

theorem mk_val {X : Cx} {pins : List (Addr × Obj)} {σ : L2.St} {H1 H2 : Hp} {hp hp2 h2 : Heap} {g1 g2 : Array GenState} {d1 d2 : Drawn} {t1 t2 : Nat} {os1 os2 : OsState} {a C d : Addr} {fs : List (Str × V)} (I1 : Inv X pins σ H1 ⟨hp, g1, d1, t1, os1⟩)
    (ha : hp.objs.size ≤ a) (k : ∀ b o, hp.get? b = some o → hp2.get? b = some o) (un : Un (frs X.stack) [] (upd H1 a (exo a C none)) H2 hp2 h2) (hok : HOk X.prog X.w H2 h2) (ho : os2 = os1) (hb : AllBare g2)
    (ea : H2 a = some (exo a C (some d))) (ed : H2 d = some (exd d fs)) (hd1 : H1 d = none) :
    H1 a = none ∧ d ≠ a ∧ Inv X pins σ (upd (upd H2 d (.xd fs)) a (ExcO (.ref C) d a)) ⟨h2, g2, d2, t2, os2⟩ := by
  obtain ⟨t0, hoe⟩ := exo_at hok ea
  obtain ⟨mA, hns, rel⟩ := exd_at hok ed
  have hn : H1 a = none := I1.hok.fresh ha
  have hda : d ≠ a := fun z => by
    obtain ⟨o, es, ep, e1, e2, _⟩ := hns
    rw [z, hoe] at e1
    have z2 := Option.some.inj e1
    subst z2
    cases e2
  have nha : ∀ {b : Addr} {o : Obj}, hp.get? b = some o → b ≠ a := fun {b o} z => Nat.ne_of_lt (Nat.lt_of_lt_of_le (Heap.lt_size z) ha)
  have up : ∀ {b : Addr}, b ≠ a → H1 b = none → upd H1 a (exo a C none) b = none := fun {b} hb n => by rw [upd_ne hb]; exact n
  have nd : ∀ {b : Addr} {o : Obj}, hp.get? b = some o → H1 b = none → b ≠ d := fun {b o} z n e => by
    have y := un.free b o (k b o z) (up (nha z) n) (by simp)
    rw [e, ed] at y
    cases y
  have nn : ∀ {b : Addr} {o : HO}, H1 b = some o → b ≠ a ∧ b ≠ d := fun z => ⟨ne_of_none z hn, ne_of_none z hd1⟩
  have U : Un (frs X.stack) [] H1 (upd (upd H2 d (.xd fs)) a (ExcO (.ref C) d a)) hp h2 := {
    keep := fun b o z n hf hx => un.keep b o (k b o z) (up (nha z) n) hf hx
    slot := fun b o z n hf hx => un.slot b o (k b o z) (up (nha z) n) hf hx
    free := fun b o z n hx => by
      rw [upd_ne (nha z), upd_ne (nd z n)]
      exact un.free b o (k b o z) (up (nha z) n) hx
    there := fun b o z hx => un.there b o (k b o z) hx
    tups := fun b xs z => by
      rw [upd_ne (nn z).1, upd_ne (nn z).2]
      exact un.tups b xs (by rw [upd_ne (nn z).1]; exact z)
    frzs := fun b o v z => by
      rw [upd_ne (nn z).1, upd_ne (nn z).2]
      exact un.frzs b o v (by rw [upd_ne (nn z).1]; exact z)
    tbls := fun b ps z => by
      rw [upd_ne (nn z).1, upd_ne (nn z).2]
      exact un.tbls b ps (by rw [upd_ne (nn z).1]; exact z) }
  have hok3 : HOk X.prog X.w (upd (upd H2 d (.xd fs)) a (ExcO (.ref C) d a)) h2 := fun b o z => by
    by_cases hba : b = a
    · subst hba
      rw [upd_same] at z
      cases z
      exact ⟨⟨_, _, hoe, ⟨rfl, rfl⟩, rfl⟩, ⟨_, hoe⟩, fun h1 h2 ⟨oe, vs, z1, z2, z3⟩ k => ⟨oe, vs, k _ z1, z2, z3⟩⟩
    · rw [upd_ne hba] at z
      by_cases hbd : b = d
      · subst hbd
        rw [upd_same] at z
        cases z
        exact ⟨mA, hns, rel⟩
      · rw [upd_ne hbd] at z
        exact (hok b o z).stay (fun c v hc y => y) (fun c hc => by rw [upd_ne (at_ne ea hc exo_own), upd_ne (at_ne ed hc exd_own)]; exact hc) (fun c xs hc => by rw [upd_ne (at_ne ea hc exo_tup), upd_ne (at_ne ed hc exd_tup)]; exact hc)
  exact ⟨hn, hda, I1.call' (ch := []) ho U hok3 hb (fun b z => absurd z (by simp))⟩
def tMkV (C : Addr) (sp : Sp) (ta : TA) : TE := fun σ H Q => ta σ H fun vs H1 => vs.length ≤ 1000 ∧ ∀ a, H1 a = none → sp (.ref a :: vs) (upd H1 a (exo a C none))
  (fun v H2 => v = .non ∧ ∃ (d : Addr) (fs : List (Str × V)), H2 a = some (exo a C (some d)) ∧ H2 d = some (exd d fs) ∧ H1 d = none ∧ (d ≠ a → Q (.ref a) (upd (upd H2 d (.xd fs)) a (ExcO (.ref C) d a)))) (fun _ _ _ => False)
section
variable {X : Cx} {e : Expr} {es : List Expr} {ta : TA} {f : Str} {p p' p1 p2 pos : Pos}
theorem mkv_end {CX : CXT} {C : Addr} {k : Nat} {fI : Addr} {fd : FuncData} {ps : List Str} {sp : Sp} {pins : List (Addr × Obj)} {σ : L2.St} {H1 : Hp} {s1 : Shared} {us : List Value} {vs : List V} {Q : VK} {B newId initId : String} {bmB bm bs sub : List Value} {nm q : Str} {N : Addr} {sn : List Str} {ab : Bool} {col : Option Bool} {dd : Option Addr} {k0 k1 k2 k3 k5 : Option Value}
    (FB : ExcBaseFacts B newId initId bmB) (hT : ∀ Y : String, bm.contains (.type Y) = bmB.contains (.type Y)) (hC : X.K.lookup C = some (excClassObj nm q C N bs bm true sn sub ab col dd k0 k1 k2 k3 k5 newId))
    (iC : PySem.W.findIn X.K (.ref C) "__init__" = some (some (.ref fI))) (tI : PySem.W.typeIn X.K (.ref fI) = some (.type "function"))
    (F1 : FnOk X.prog X.w X.K X.mg X.base CX k fI fd ps sp) (hr : Room (k + 1) X.A) (hb : Binds X.K fd ps []) (hx : Passes CX X (fun _ _ _ => False)) (I1 : Inv X pins σ H1 s1) (r1 : Vals vs us) (hz : vs.length ≤ 1000)
    (q1 : ∀ a, H1 a = none → sp (.ref a :: vs) (upd H1 a (exo a C none)) (fun v H2 => v = .non ∧ ∃ (d : Addr) (fs : List (Str × V)), H2 a = some (exo a C (some d)) ∧ H2 d = some (exd d fs) ∧ H1 d = none ∧ (d ≠ a → Q (.ref a) (upd (upd H2 d (.xd fs)) a (ExcO (.ref C) d a)))) (fun _ _ _ => False)) :
    wpAny (model X.prog X.w) X.A (call (.ref C) us) (EP X pins σ Q) X.xe s1 := by
  obtain ⟨hp, g, dr, tk, os⟩ := s1
  have hsz : hp.objs.size ≤ hp.objs.size + 1 := Nat.le_succ _
  have hn : H1 (hp.objs.size + 1) = none := I1.hok.fresh hsz
  have hq := q1 (hp.objs.size + 1) hn
  have kk : ∀ b o, hp.get? b = some o → ((hp.push (PySem.W.kdv_tup us)).push (PySem.HandSPX.excO C hp.objs.size)).get? b = some o := fun b o e => Heap.get?_push_of_some _ (Heap.get?_push_of_some _ e)
  have hget : ((hp.push (PySem.W.kdv_tup us)).push (PySem.HandSPX.excO C hp.objs.size)).get? (hp.objs.size + 1) = some (PySem.HandSPX.excO C hp.objs.size) := by heap_get
  have I2 : Inv X pins σ (upd H1 (hp.objs.size + 1) (exo (hp.objs.size + 1) C none)) ⟨(hp.push (PySem.W.kdv_tup us)).push (PySem.HandSPX.excO C hp.objs.size), g, dr, tk, os⟩ :=
    I1.laid (t' := tk) (a := hp.objs.size + 1) (o := exo (hp.objs.size + 1) C none) (h' := (hp.push (PySem.W.kdv_tup us)).push (PySem.HandSPX.excO C hp.objs.size)) kk hsz (exo_ok hget)
  have r2 : Vals (V.ref (hp.objs.size + 1) :: vs) (Value.ref (hp.objs.size + 1) :: us) := .cons rfl r1
  have hl : (Value.ref (hp.objs.size + 1) :: us).length = ps.length := by
    have e := r2.length
    rw [F1.len _ _ _ _ hq] at e
    exact e.symm
  have bound := hb _ (Value.ref (hp.objs.size + 1) :: us) I2.kIn (by rw [List.append_nil]; exact hl)
  rw [List.append_nil] at bound
  have hus : us.length ≤ sizeLine := by
    rw [← Paired.length r1, sizeLine_eq]
    omega
  refine wpAny_call (PySem.HandSPX.call_own FB hT (I1.kIn _ _ hC) (PySem.W.looks_findIn I1.kIn iC) (fun self => PySem.W.bind_fn I1.kIn self tI) hus
    (codeAny_mono (F1.run _ X.stack _ _ ⟨Value.ref (hp.objs.size + 1) :: us, []⟩ (Value.ref (hp.objs.size + 1) :: us) _ _ (fun _ _ _ => False) (hr.make C us []) (I2.env0.make C us []) bound r2 hq) fun r s' hq' => ?_))
  cases r with
  | error er => exact hx pins σ _ _ er s' I2 hq'
  | ok fl =>
    cases fl with
    | ret u =>
      obtain ⟨v, H2, os2, bare2, un2, hok2, rv, ev, d, fs, ea, ed, hd1, q2⟩ := hq'
      subst ev
      obtain ⟨h2, g2, d2, t2, os'⟩ := s'
      obtain ⟨_, hda, J⟩ := mk_val (d2 := d2) (t2 := t2) I1 hsz kk un2 hok2 os2 bare2 ea ed hd1
      exact ⟨rv, .ref (hp.objs.size + 1), _, J, rfl, q2 hda⟩
    | next => exact False.elim hq'
    | brk => exact False.elim hq'
    | cont => exact False.elim hq'
theorem pe_mkv {CX : CXT} {x : Str} {C fI : Addr} {k : Nat} {fd : FuncData} {ps : List Str} {sp : Sp} (T : OexC X.K C) (iC : PySem.W.findIn X.K (.ref C) "__init__" = some (some (.ref fI))) (tI : PySem.W.typeIn X.K (.ref fI) = some (.type "function"))
    (F1 : FnOk X.prog X.w X.K X.mg X.base CX k fI fd ps sp) (hr : Room (k + 1) X.A) (hb : Binds X.K fd ps []) (hx : Passes CX X (fun _ _ _ => False)) (hg : Gl X x) (hm : X.mg x = some (.ref C)) (ha : PA X (e :: es) ta)
    (hdb : (x == ("__debug__" : Str)) = false := by decide) (he : starEach (e :: es) X.env = (false, eval e X.env) :: starEach es X.env := by rfl) (hpl : (backTo pos (starEach es X.env)).any (·.1) = false := by rfl) :
    PE X (.Call (.Name x p) (e :: es) [] pos) (tMkV C sp ta) := by
  refine ⟨fun pins s σ H Q I h => ?_⟩
  obtain ⟨nm, q, N, bs, bm, sn, sub, ab, col, dd, k0, k1, k2, k3, k5, hC, hbm⟩ := T.cls
  refine wpAny_Call_Name_kw (ld_glob I hg hm ?_ hdb)
  refine PySem.W.callWith_K (h₀ := X.base) I.ok.mod.kin T.kC (thn (ha.run pos pins s σ H _ I h) fun us s1 ⟨vs, H1, I1, r1, hz, q1⟩ => ⟨I1.kIn, ?_⟩) he hpl
  exact mkv_end F.excBase_ValueError (fun Y => PySem.HandSPX.refsVE_contains Y bm hbm) hC iC tI F1 hr hb hx I1 r1 hz q1
theorem pe_mkvO {CX : CXT} {x : Str} {C fI : Addr} {k : Nat} {fd : FuncData} {ps : List Str} {sp : Sp} (T : OexO X.K C) (iC : PySem.W.findIn X.K (.ref C) "__init__" = some (some (.ref fI))) (tI : PySem.W.typeIn X.K (.ref fI) = some (.type "function"))
    (F1 : FnOk X.prog X.w X.K X.mg X.base CX k fI fd ps sp) (hr : Room (k + 1) X.A) (hb : Binds X.K fd ps []) (hx : Passes CX X (fun _ _ _ => False)) (hg : Gl X x) (hm : X.mg x = some (.ref C)) (ha : PA X (e :: es) ta)
    (hdb : (x == ("__debug__" : Str)) = false := by decide) (he : starEach (e :: es) X.env = (false, eval e X.env) :: starEach es X.env := by rfl) (hpl : (backTo pos (starEach es X.env)).any (·.1) = false := by rfl) :
    PE X (.Call (.Name x p) (e :: es) [] pos) (tMkV C sp ta) := by
  refine ⟨fun pins s σ H Q I h => ?_⟩
  obtain ⟨nm, q, N, bs, sn, sub, ab, col, dd, k0, k1, k2, k3, k5, hC⟩ := T.cls
  refine wpAny_Call_Name_kw (ld_glob I hg hm ?_ hdb)
  refine PySem.W.callWith_K (h₀ := X.base) I.ok.mod.kin T.kept (thn (ha.run pos pins s σ H _ I h) fun us s1 ⟨vs, H1, I1, r1, hz, q1⟩ => ⟨I1.kIn, ?_⟩) he hpl
  exact mkv_end F.excBase_OverflowError of_contains hC iC tI F1 hr hb hx I1 r1 hz q1
end
def eMk (n f : Str) (g : Env → Mo D) : Env → Mo D := fun r => g r >>= fun x => pure (.exc n f x)
section
variable {G : GX} {X : Cx} {W : WX} {H0 : Hp} {x : Str} {c : Nat} {e : Expr} {p pos p2 : Pos}
theorem mkv_post {f : Str} {y : D} {st1 : St} {v : V} {T2 : Tg} {al2 : List Addr} {H2 : Hp} {σ : L2.St} {Q : VK} {a dx : Addr} (w2 : WI X.K G.TB T2 al2 st1 H2) (r2 : Rep X.K (fz T2 H2) al2 v y) (na : H2 a = none) (nx : H2 dx = none) (ne : dx ≠ a)
    (q : Post G X.K W (RpD X.K) σ T2 al2 H2 Q ((pure (.exc x f y) : Mo D) st1)) : Q (.ref a) (upd (upd H2 dx (.xd [(f, v)])) a (ExcO (.ref (He.ga X.K x)) dx a)) := by
  have nT : T2 dx = none := w2.free nx
  have nA : T2 a = none := w2.free na
  have na' : upd H2 dx (.xd [(f, v)]) a = none := by rw [upd_ne (Ne.symm ne)]; exact na
  have x2 : Ext T2 al2 H2 (tset (tset T2 dx .frz) a .frz) al2 (upd (upd H2 dx (.xd [(f, v)])) a (ExcO (.ref (He.ga X.K x)) dx a)) := (Ext.laid nx .frz).trans (Ext.laid na' .frz)
  have w3 : WI X.K G.TB (tset T2 dx .frz) al2 st1 (upd H2 dx (.xd [(f, v)])) := (w2.laid nx).tag (by rw [nT]; decide) (by rw [nT]; decide) upd_same
  have nA2 : tset T2 dx .frz a = none := by rw [tset_ne (Ne.symm ne)]; exact nA
  have w4 : WI X.K G.TB (tset (tset T2 dx .frz) a .frz) al2 st1 (upd (upd H2 dx (.xd [(f, v)])) a (ExcO (.ref (He.ga X.K x)) dx a)) := (w3.laid na').tag (by rw [nA2]; decide) (by rw [nA2]; decide) upd_same
  exact q (.ref a) _ al2 _ x2 w4 (.exc (d := dx) (v := v) (fz_of tset_same upd_same (by intro ps z; unfold ExcO at z; cases z)) (fz_of (by rw [tset_ne ne]; exact tset_same) (by rw [upd_ne ne]; exact upd_same)) (r2.ext x2))
theorem mkv_heap {H2 : Hp} {a dx C : Addr} {l : List (Str × V)} {o : HO} (ne : dx ≠ a) : upd (upd (upd (upd (upd H2 a (exo a C none)) dx (exd dx l)) a (exo a C (some dx))) dx (.xd l)) a o = upd (upd H2 dx (.xd l)) a o := by
  funext b
  by_cases ha : b = a
  · rw [ha, upd_same, upd_same]
  · rw [upd_ne ha, upd_ne ha]
    by_cases hb : b = dx
    · rw [hb, upd_same, upd_same]
    · rw [upd_ne hb, upd_ne hb, upd_ne ha, upd_ne hb, upd_ne ha]
theorem pd_mk {f : Env → Mo D} {fl : Str} (kn : XCls G X x c) (hG : G.cls c = He.ga X.K x) (hf : G.fld c = fl) (hg : Gl X x) (ha : PD G X W H0 e f) (hdb : (x == ("__debug__" : Str)) = false := by decide)
    (he : starEach (e :: []) X.env = (false, eval e X.env) :: starEach [] X.env := by rfl) (hpl : (backTo pos (starEach [] X.env)).any (·.1) = false := by rfl) :
    PD G X W H0 (.Call (.Name x p) [e] [] pos) (eMk x fl f) := by
  subst hf
  intro r st σ T al H Q S w q
  obtain ⟨k, fI, fd, ps, T1, hno, iC, tI, F, hr, hb, hm⟩ := kn.ex
  refine rdE (pe_mkv T1 iC tI F hr hb (passes_call takes0 fun _ _ _ _ z => z) hg hm (pa_cons pe_rd pa_nil he) hdb he hpl) ?_
  refine ha r st σ T al H _ S w (seqP back_D q fun y st1 v T2 al2 H2 _ x2 w2 r2 q2 => ?_)
  refine ⟨by show 1 ≤ 1000; omega, fun a na => ⟨a, v, rfl, T1, hno, upd_same, fun dx nx ne => ⟨rfl, dx, [(G.fld c, v)], upd_same, by rw [upd_ne ne, upd_same], ?_, fun _ => ?_⟩⟩⟩
  · rw [upd_ne ne] at nx
    exact nx
  · rw [upd_ne ne] at nx
    rw [mkv_heap ne, hG]
    exact mkv_post w2 r2 na nx ne q2
theorem pd_mkO {f : Env → Mo D} {fl : Str} (kn : XClsO G X x c) (hG : G.cls c = He.ga X.K x) (hf : G.fld c = fl) (hg : Gl X x) (ha : PD G X W H0 e f) (hdb : (x == ("__debug__" : Str)) = false := by decide)
    (he : starEach (e :: []) X.env = (false, eval e X.env) :: starEach [] X.env := by rfl) (hpl : (backTo pos (starEach [] X.env)).any (·.1) = false := by rfl) :
    PD G X W H0 (.Call (.Name x p) [e] [] pos) (eMk x fl f) := by
  subst hf
  intro r st σ T al H Q S w q
  obtain ⟨fI, fd, ps, T1, hno, iC, tI, F, hb, hm⟩ := kn.f.ex
  refine rdE (pe_mkvO T1 iC tI F kn.r hb (passes_call takes0 fun _ _ _ _ z => z) hg hm (pa_cons pe_rd pa_nil he) hdb he hpl) ?_
  refine ha r st σ T al H _ S w (seqP back_D q fun y st1 v T2 al2 H2 _ x2 w2 r2 q2 => ?_)
  refine ⟨by show 1 ≤ 1000; omega, fun a na => ⟨a, v, rfl, T1, hno, upd_same, fun dx nx ne => ⟨rfl, dx, [(G.fld c, v)], upd_same, by rw [upd_ne ne, upd_same], ?_, fun _ => ?_⟩⟩⟩
  · rw [upd_ne ne] at nx
    exact nx
  · rw [upd_ne ne] at nx
    rw [mkv_heap ne, hG]
    exact mkv_post w2 r2 na nx ne q2
end
end Pi
namespace PySem
namespace PiKw
section
open Builtin
variable {prog : Program} {w : World} {M : Model} {A : Around} {E : Value → Shared → Prop} {R : Result → Shared → Prop} {h : Heap} {g : Array GenState} {d : Drawn} {t : Nat} {os : OsState}
variable {nm q : Str} {C N : Addr} {bs bm bmB : List Value} {hdct : Bool} {sn : List Str} {sub : List Value} {ab : Bool} {col : Option Bool} {dd : Option Addr} {k0 k1 k2 k3 k5 : Option Value} {B newId initId : String} {rest : List Value} {kw : List (Str × Value)} {fI : Addr}
theorem kw_check_new (F : ExcBaseFacts B newId initId bmB) (hT : ∀ X : String, bm.contains (.type X) = bmB.contains (.type X)) {Q : Unit → Shared → Prop}
    (hC : h.get? C = some (excClassObj nm q C N bs bm hdct sn sub ab col dd k0 k1 k2 k3 k5 newId)) (hq : Q () ⟨h, g, d, t, os⟩) : wpAny M A (checkBuiltinCall newId ⟨.ref C :: rest, kw⟩) Q E ⟨h, g, d, t, os⟩ := by
  have inB : (Value.ref C :: bm).contains (.type B) = true := by rw [List.contains_cons, hT, F.hasB, Bool.or_true]
  have star := F.noStar
  simp only [checkBuiltinCall, F.newKind, F.newSplit, F.newRow]
  repeat (first | refine wpAny_loadPart_at hC ?_ | (refine wpAny_isSubtype_exc hC ?_; rw [inB]) | refine wpAny_staticBase_exc hC ?_ | refine wpAny_madeBy_exc hC ?_ | simp only [bne_self_eq_false, Bool.false_eq_true, if_false] | wp_step)
  exact hq
theorem kw_check_call {Q : Unit → Shared → Prop} (hC : h.get? C = some (excClassObj nm q C N bs bm hdct sn sub ab col dd k0 k1 k2 k3 k5 newId)) (hq : Q () ⟨h, g, d, t, os⟩) : wpAny M A (checkBuiltinCall "type.__call__" ⟨.ref C :: rest, kw⟩) Q E ⟨h, g, d, t, os⟩ := by
  have f3 := tc_sub
  have ty : (⟨h, g, d, t, os⟩ : Shared).TypeIs (.ref C) "type" := ⟨_, hC, rfl⟩
  simp only [checkBuiltinCall, tc_kind, tc_split]
  repeat (any_goals (first | assumption | with_reducible refine wpAny_loadPart_at hC ?_ | with_reducible refine wpAny_onRaise ?_ | with_reducible refine wpAny_map ?_ | wp_step))
theorem kw_new (F : ExcBaseFacts B newId initId bmB) (hT : ∀ X : String, bm.contains (.type X) = bmB.contains (.type X)) (hC : h.get? C = some (excClassObj nm q C N bs bm hdct sn sub ab col dd k0 k1 k2 k3 k5 newId))
    (hq : R (.ok (.ret (.ref (h.objs.size + 1)))) ⟨(h.push (W.kdv_tup rest)).push (HandSPX.excO C h.objs.size), g, d, t, os⟩) (few : rest.length ≤ sizeLine) : codeAny (model prog w) A (.builtin newId ⟨.ref C :: rest, kw⟩) R ⟨h, g, d, t, os⟩ := by
  have ends := F.ends
  have inB : (Value.ref C :: bm).contains (.type B) = true := by rw [List.contains_cons, hT, F.hasB, Bool.or_true]
  have noA : (Value.ref C :: bm).contains (.type "AttributeError") = false := by rw [List.contains_cons, hT, F.noAttr]; rfl
  have noN : (Value.ref C :: bm).contains (.type "NameError") = false := by rw [List.contains_cons, hT, F.noName]; rfl
  refine codeAny_builtinAt F.entry ?_
  unfold Builtin.«BaseException.__new__»
  refine wpAt_bind ?_
  show wpAt _ _ _ (stack >>= _) _ _ _
  refine wpAt_bind (wpAt_stack fun p below => wpAt_of_wpAny ?_)
  wp_walk
  refine wpAt_of_wpAny ?_
  rw [F.owner]
  repeat (first | with_reducible refine wpAny_madeHere_exc F.canon hC ?_ | with_reducible refine wpAny_loadPart_at hC ?_ | (with_reducible refine wpAny_isSubtype_exc hC ?_; first | rw [inB] | rw [noA] | rw [noN]) | wp_step)
  show R _ _
  rw [Heap.size_push]
  exact hq
theorem kw_type_call (F : ExcBaseFacts B newId initId bmB) (hT : ∀ X : String, bm.contains (.type X) = bmB.contains (.type X)) {Q : Fin → Shared → Prop} (hC : h.get? C = some (excClassObj nm q C N bs bm hdct sn sub ab col dd k0 k1 k2 k3 k5 newId))
    (hi : W.Looks (model prog w) h (typeLookup (.ref C) "__init__") (some (.ref fI))) (hb : ∀ self, W.Looks (model prog w) h (bindSpecial (.ref fI) self) (.ref fI, [self])) (few : rest.length ≤ sizeLine)
    (hq : codeAny (model prog w) A (.call (.ref fI) ⟨.ref (h.objs.size + 1) :: rest, kw⟩) (fun r s' => match r with | .ok (.ret v) => v = .none ∧ Q (.done (.ret (.ref (h.objs.size + 1)))) s' | .ok _ => False | .error e => E e s')
      ⟨(h.push (W.kdv_tup rest)).push (HandSPX.excO C h.objs.size), g, d, t, os⟩) :
    wpAny (model prog w) A (Builtin.«type.__call__» ⟨.ref C :: rest, kw⟩) Q E ⟨h, g, d, t, os⟩ := by
  repeat (first | with_reducible refine wpAny_loadPart_at hC ?_ | with_reducible refine wpAny_madeBy_exc hC ?_ | wp_step)
  refine codeAny_call_builtin_code (Code.quiet_builtin _ F.quiet) (kw_check_new F hT hC ?_)
  refine kw_new F hT hC ?_ few
  show wpAny _ _ _ _ _ _
  have up : ∀ b o, h.get? b = some o → ((h.push (W.kdv_tup rest)).push (HandSPX.excO C h.objs.size)).get? b = some o := fun b o e => Heap.get?_push_of_some _ (Heap.get?_push_of_some _ e)
  have hC2 := up _ _ hC
  have at_ : ((h.push (W.kdv_tup rest)).push (HandSPX.excO C h.objs.size)).get? (h.objs.size + 1) = some (HandSPX.excO C h.objs.size) := by heap_get
  have inC : (Value.ref C :: bm).contains (.ref C) = true := by simp
  have i2 := hi.keeps up
  have b2 := (hb (.ref (h.objs.size + 1))).keeps up
  unfold isInstance
  repeat (first | with_reducible refine wpAny_loadPart_at at_ ?_ | (with_reducible refine wpAny_isSubtype_exc hC2 ?_; rw [inC]) | wp_step)
  show wpAny _ _ (typeLookup (.ref C) _) _ _ _
  refine i2.at (wpAny_holding (wpAny_bind (b2.at ?_)))
  refine wpAny_bind (wpAny_call (codeAny_mono hq fun r s' z => ?_))
  rcases r with e | (v | _ | _ | _) <;> first | exact z | exact z.elim | skip
  obtain ⟨rfl, z⟩ := z
  first
    | exact wpAny_pure (wpAny_pure z)
    | (wp_walk; exact z)
theorem kw_call (F : ExcBaseFacts B newId initId bmB) (hT : ∀ X : String, bm.contains (.type X) = bmB.contains (.type X)) (hC : h.get? C = some (excClassObj nm q C N bs bm hdct sn sub ab col dd k0 k1 k2 k3 k5 newId))
    (hi : W.Looks (model prog w) h (typeLookup (.ref C) "__init__") (some (.ref fI))) (hb : ∀ self, W.Looks (model prog w) h (bindSpecial (.ref fI) self) (.ref fI, [self])) (few : rest.length ≤ sizeLine)
    (hq : codeAny (model prog w) (A.under (.builtin "type.__call__" ⟨.ref C :: rest, kw⟩)) (.call (.ref fI) ⟨.ref (h.objs.size + 1) :: rest, kw⟩) (W.InitBack (h.objs.size + 1) R) ⟨(h.push (W.kdv_tup rest)).push (HandSPX.excO C h.objs.size), g, d, t, os⟩) :
    codeAny (model prog w) A (.call (.ref C) ⟨rest, kw⟩) R ⟨h, g, d, t, os⟩ := by
  have f1 := tc_lookup
  have f2 := tc_bind (.ref C)
  have ty : (⟨h, g, d, t, os⟩ : Shared).TypeIs (.ref C) "type" := ⟨_, hC, rfl⟩
  refine codeAny_of_tree ?_
  show wpAny _ _ (callAny (.ref C) _) _ _ _
  repeat (any_goals (first | assumption | with_reducible refine wpAny_loadPart_at hC ?_ | wp_step))
  refine ⟨rfl, ?_⟩
  refine codeAny_call_builtin_at (Code.quiet_builtin _ (by decide +kernel)) entry_typeCall (kw_check_call hC (kw_type_call F hT hC hi hb few ?_))
  refine codeAny_mono hq fun r s' z => ?_
  rcases r with e | (v | _ | _ | _) <;> exact z
end
end PiKw
end PySem
namespace Pi
open PySem PySem.Spec PyProof.Rows L2
section
variable {X : Cx} {e : Expr} {y : Str} {p p2 pos : Pos} {x : Str}
theorem mkw_end {CX : CXT} {C : Addr} {k : Nat} {fI : Addr} {fd : FuncData} {ps : List Str} {sp : Sp} {pins : List (Addr × Obj)} {σ : L2.St} {H1 : Hp} {s1 : Shared} {u : Value} {v1 : V} {Q : VK} {B newId initId : String} {bmB bm bs sub : List Value} {nm q : Str} {N : Addr} {sn : List Str} {ab : Bool} {col : Option Bool} {dd : Option Addr} {k0 k1 k2 k3 k5 : Option Value}
    (FB : ExcBaseFacts B newId initId bmB) (hT : ∀ Y : String, bm.contains (.type Y) = bmB.contains (.type Y)) (hC : X.K.lookup C = some (excClassObj nm q C N bs bm true sn sub ab col dd k0 k1 k2 k3 k5 newId))
    (iC : PySem.W.findIn X.K (.ref C) "__init__" = some (some (.ref fI))) (tI : PySem.W.typeIn X.K (.ref fI) = some (.type "function"))
    (F1 : FnOk X.prog X.w X.K X.mg X.base CX k fI fd ps sp) (hr : Room (k + 1) X.A) (hb : ∀ (s : Shared) (a u : Value), BindsTo s fd ⟨[a], [(y, u)]⟩ (ps.zip [a, u])) (hx : Passes CX X (fun _ _ _ => False)) (I1 : Inv X pins σ H1 s1) (r1 : RelV v1 u)
    (q1 : ∀ a, H1 a = none → sp [.ref a, v1] (upd H1 a (exo a C none)) (fun v H2 => v = .non ∧ ∃ (d : Addr) (fs : List (Str × V)), H2 a = some (exo a C (some d)) ∧ H2 d = some (exd d fs) ∧ H1 d = none ∧ (d ≠ a → Q (.ref a) (upd (upd H2 d (.xd fs)) a (ExcO (.ref C) d a)))) (fun _ _ _ => False)) :
    wpAny (model X.prog X.w) X.A (call (.ref C) [] [(y, u)]) (EP X pins σ Q) X.xe s1 := by
  obtain ⟨hp, g, dr, tk, os⟩ := s1
  have hsz : hp.objs.size ≤ hp.objs.size + 1 := Nat.le_succ _
  have hn : H1 (hp.objs.size + 1) = none := I1.hok.fresh hsz
  have hq := q1 (hp.objs.size + 1) hn
  have kk : ∀ b o, hp.get? b = some o → ((hp.push (PySem.W.kdv_tup [])).push (PySem.HandSPX.excO C hp.objs.size)).get? b = some o := fun b o e => Heap.get?_push_of_some _ (Heap.get?_push_of_some _ e)
  have hget : ((hp.push (PySem.W.kdv_tup [])).push (PySem.HandSPX.excO C hp.objs.size)).get? (hp.objs.size + 1) = some (PySem.HandSPX.excO C hp.objs.size) := by heap_get
  have I2 : Inv X pins σ (upd H1 (hp.objs.size + 1) (exo (hp.objs.size + 1) C none)) ⟨(hp.push (PySem.W.kdv_tup [])).push (PySem.HandSPX.excO C hp.objs.size), g, dr, tk, os⟩ :=
    I1.laid (t' := tk) (a := hp.objs.size + 1) (o := exo (hp.objs.size + 1) C none) (h' := (hp.push (PySem.W.kdv_tup [])).push (PySem.HandSPX.excO C hp.objs.size)) kk hsz (exo_ok hget)
  have r2 : Vals [V.ref (hp.objs.size + 1), v1] [Value.ref (hp.objs.size + 1), u] := .cons rfl (.cons r1 .nil)
  have bound := hb ⟨(hp.push (PySem.W.kdv_tup [])).push (PySem.HandSPX.excO C hp.objs.size), g, dr, tk, os⟩ (Value.ref (hp.objs.size + 1)) u
  refine wpAny_call (PySem.PiKw.kw_call FB hT (I1.kIn _ _ hC) (PySem.W.looks_findIn I1.kIn iC) (fun self => PySem.W.bind_fn I1.kIn self tI) (Nat.zero_le _)
    (codeAny_mono (F1.run _ X.stack _ _ ⟨[Value.ref (hp.objs.size + 1)], [(y, u)]⟩ [Value.ref (hp.objs.size + 1), u] _ _ (fun _ _ _ => False) (hr.make C [] [(y, u)]) (I2.env0.make C [] [(y, u)]) bound r2 hq) fun r s' hq' => ?_))
  cases r with
  | error er => exact hx pins σ _ _ er s' I2 hq'
  | ok fl =>
    cases fl with
    | ret u =>
      obtain ⟨v, H2, os2, bare2, un2, hok2, rv, ev, d, fs, ea, ed, hd1, q2⟩ := hq'
      subst ev
      obtain ⟨h2, g2, d2, t2, os'⟩ := s'
      obtain ⟨_, hda, J⟩ := mk_val (d2 := d2) (t2 := t2) I1 hsz kk un2 hok2 os2 bare2 ea ed hd1
      exact ⟨rv, .ref (hp.objs.size + 1), _, J, rfl, q2 hda⟩
    | next => exact False.elim hq'
    | brk => exact False.elim hq'
    | cont => exact False.elim hq'
end
structure XFW (G : GX) (P : Program) (w : World) (K : PySem.W.Frag) (mg : Str → Option Value) (base : Heap) (x : Str) (c : Nat) (y : Str) : Prop where
  ex : ∃ (fI : Addr) (fd : FuncData) (ps : List Str), (OexC K (G.cls c)) ∧ PySem.W.findIn K (.ref (G.cls c)) (G.fld c) = some none ∧ PySem.W.findIn K (.ref (G.cls c)) "__init__" = some (some (.ref fI)) ∧ PySem.W.typeIn K (.ref fI) = some (.type "function") ∧
    FnOk P w K mg base (L2.CX P w) 1 fI fd ps (spI K (G.cls c) (G.fld c)) ∧ (∀ (s : Shared) (a u : Value), BindsTo s fd ⟨[a], [(y, u)]⟩ (ps.zip [a, u])) ∧ mg x = some (.ref (G.cls c))
structure XFWO (G : GX) (P : Program) (w : World) (K : PySem.W.Frag) (mg : Str → Option Value) (base : Heap) (x : Str) (c : Nat) (y : Str) : Prop where
  ex : ∃ (fI : Addr) (fd : FuncData) (ps : List Str), (OexO K (G.cls c)) ∧ PySem.W.findIn K (.ref (G.cls c)) (G.fld c) = some none ∧ PySem.W.findIn K (.ref (G.cls c)) "__init__" = some (some (.ref fI)) ∧ PySem.W.typeIn K (.ref fI) = some (.type "function") ∧
    FnOk P w K mg base (L2.CX P w) 1 fI fd ps (spIO K (G.cls c) (G.fld c)) ∧ (∀ (s : Shared) (a u : Value), BindsTo s fd ⟨[a], [(y, u)]⟩ (ps.zip [a, u])) ∧ mg x = some (.ref (G.cls c))
section
variable {G : GX} {X : Cx} {W : WX} {H0 : Hp} {x y : Str} {c : Nat} {e : Expr} {p pos p2 : Pos}
theorem pd_mkW {f : Env → Mo D} {fl : Str} (kn : XFW G X.prog X.w X.K X.mg X.base x c y) (hr : Room 2 X.A) (hG : G.cls c = He.ga X.K x) (hf : G.fld c = fl) (hg : Gl X x) (ha : PD G X W H0 e f) (hdb : (x == ("__debug__" : Str)) = false := by decide)
    (hall : (backToKw pos (keywordEach [⟨some y, e, p2⟩] X.env)).all (·.1.isSome) = true := by rfl) (hnm : (backToKw pos (keywordEach [⟨some y, e, p2⟩] X.env)).filterMap (·.1) = [y] := by rfl)
    (hpl : ((backTo pos (starEach [] X.env)).any (·.1) || (backToKw pos (keywordEach [⟨some y, e, p2⟩] X.env)).any (·.1.isNone)) = false := by rfl) :
    PD G X W H0 (.Call (.Name x p) [] [⟨some y, e, p2⟩] pos) (eMk x fl f) := by
  subst hf
  intro r st σ T al H Q S w q pins s I
  obtain ⟨fI, fd, ps, T1, hno, iC, tI, F, hb, hm⟩ := kn.ex
  obtain ⟨nm, qq, N, bs, bm, sn, sub, ab, col, dd, k0, k1, k2, k3, k5, hC, hbm⟩ := T1.cls
  refine wpAny_Call_Name_kw (ld_glob I hg hm ?_ hdb)
  refine PySem.W.callWith_KW0 (h₀ := X.base) I.ok.mod.kin T1.kC hall (kwAll_cons (thn (ha r st σ T al H (fun v H1 => ∃ T1 al1 st1 d1, WI X.K G.TB T1 al1 st1 H1 ∧ Rep X.K (fz T1 H1) al1 v d1 ∧ Post G X.K W (RpD X.K) σ T1 al1 H1 Q ((pure (.exc x (G.fld c) d1) : Mo D) st1)) S w (seqP back_D q fun d1 st1 v T1 al1 H1 _ x1 w1 r1 q1 => ⟨T1, al1, st1, d1, w1, r1, q1⟩) pins s I) fun u s1 ⟨v, H1, I1, r1, T2, al2, st1, d1, w2, rr, q2⟩ => ?_)) hpl
  refine kwAll_nil ⟨I1.kIn, ?_⟩
  rw [hnm]
  show wpAny _ _ (call (.ref (G.cls c)) [] [(y, u)]) _ _ _
  refine mkw_end PySem.F.excBase_ValueError (fun Y => PySem.HandSPX.refsVE_contains Y bm hbm) hC iC tI F hr hb (passes_call takes0 fun _ _ _ _ z => z) I1 r1 ?_
  refine fun a na => ⟨a, v, rfl, T1, hno, upd_same, fun dx nx ne => ⟨rfl, dx, [(G.fld c, v)], upd_same, by rw [upd_ne ne, upd_same], ?_, fun _ => ?_⟩⟩
  · rw [upd_ne ne] at nx
    exact nx
  · rw [upd_ne ne] at nx
    rw [mkv_heap ne, hG]
    exact mkv_post w2 rr na nx ne q2
theorem pd_mkWO {f : Env → Mo D} {fl : Str} (kn : XFWO G X.prog X.w X.K X.mg X.base x c y) (hr : Room 2 X.A) (hG : G.cls c = He.ga X.K x) (hf : G.fld c = fl) (hg : Gl X x) (ha : PD G X W H0 e f) (hdb : (x == ("__debug__" : Str)) = false := by decide)
    (hall : (backToKw pos (keywordEach [⟨some y, e, p2⟩] X.env)).all (·.1.isSome) = true := by rfl) (hnm : (backToKw pos (keywordEach [⟨some y, e, p2⟩] X.env)).filterMap (·.1) = [y] := by rfl)
    (hpl : ((backTo pos (starEach [] X.env)).any (·.1) || (backToKw pos (keywordEach [⟨some y, e, p2⟩] X.env)).any (·.1.isNone)) = false := by rfl) :
    PD G X W H0 (.Call (.Name x p) [] [⟨some y, e, p2⟩] pos) (eMk x fl f) := by
  subst hf
  intro r st σ T al H Q S w q pins s I
  obtain ⟨fI, fd, ps, T1, hno, iC, tI, F, hb, hm⟩ := kn.ex
  obtain ⟨nm, qq, N, bs, sn, sub, ab, col, dd, k0, k1, k2, k3, k5, hC⟩ := T1.cls
  refine wpAny_Call_Name_kw (ld_glob I hg hm ?_ hdb)
  refine PySem.W.callWith_KW0 (h₀ := X.base) I.ok.mod.kin T1.kept hall (kwAll_cons (thn (ha r st σ T al H (fun v H1 => ∃ T1 al1 st1 d1, WI X.K G.TB T1 al1 st1 H1 ∧ Rep X.K (fz T1 H1) al1 v d1 ∧ Post G X.K W (RpD X.K) σ T1 al1 H1 Q ((pure (.exc x (G.fld c) d1) : Mo D) st1)) S w (seqP back_D q fun d1 st1 v T1 al1 H1 _ x1 w1 r1 q1 => ⟨T1, al1, st1, d1, w1, r1, q1⟩) pins s I) fun u s1 ⟨v, H1, I1, r1, T2, al2, st1, d1, w2, rr, q2⟩ => ?_)) hpl
  refine kwAll_nil ⟨I1.kIn, ?_⟩
  rw [hnm]
  show wpAny _ _ (call (.ref (G.cls c)) [] [(y, u)]) _ _ _
  refine mkw_end PySem.F.excBase_OverflowError of_contains hC iC tI F hr hb (passes_call takes0 fun _ _ _ _ z => z) I1 r1 ?_
  refine fun a na => ⟨a, v, rfl, T1, hno, upd_same, fun dx nx ne => ⟨rfl, dx, [(G.fld c, v)], upd_same, by rw [upd_ne ne, upd_same], ?_, fun _ => ?_⟩⟩
  · rw [upd_ne ne] at nx
    exact nx
  · rw [upd_ne ne] at nx
    rw [mkv_heap ne, hG]
    exact mkv_post w2 rr na nx ne q2
end
end Pi
namespace Pi
open PySem PySem.Spec PyProof.Rows L2

abbrev dcxT (P : Program) (w : World) (K : PySem.W.Frag) (mg : Str → Option Value) (base : Heap) (N : List Str) (qual : Str) (scope : Scope) (f : Addr) (cd : Value) (A : Around) (outer : List PySem.Env) (s : Shared) (H : Hp) (E : XK) : Cx :=
  { cxOf (L2.CX P w) P w K mg base N qual scope f cd A outer s H E with calm := false }
theorem inv_startT {P : Program} {w : World} {K : PySem.W.Frag} {mg : Str → Option Value} {base : Heap} {N ps : List Str} {qual : Str} {scope : Scope} {f : Addr} {cd : Value} {A : Around} {outer : List PySem.Env} {s s1 : Shared} {H : Hp} {E : XK} {us : List Value} {vs : List V}
    (S : FnScope N ps scope) (e0 : Env0 P w K mg base A outer s H) (hl : vs.length = ps.length) (r : Vals vs us)
    (x : InCallC s s.heap.objs.size (bindL (envOfC qual scope s.heap.objs.size f cd).kindOf (ps.zip us) fun _ => none) (cellsFrom (s.heap.objs.size + 1) scope.names []) (bindC (envOfC qual scope s.heap.objs.size f cd).kindOf (ps.zip us) fun _ => none) s1) :
    Inv (dcxT P w K mg base N qual scope f cd A outer s H E) [] (L2.start N vs) H s1 := by
  have I := inv_start (CX := L2.CX P w) (A := { A with handled := none }) (E := E) (cd := cd) (f := f) (qual := qual) S rfl ⟨e0.frames, e0.mod, e0.bs, e0.bsz, e0.funs, e0.frf, e0.hok, e0.bare⟩ hl r x
  have ok := I.ok
  exact ⟨⟨ok.mod, ok.kind, ok.glob, ok.blt, ok.above, ok.inj, ok.has, ok.cab, (fun z => absurd (show false = true from z) Bool.false_ne_true), Around.frames_deeper e0.frames, ok.stk, ok.exf, ok.bs, ok.bsz, ok.noex, ok.exfs, ok.funs, ok.frf⟩,
    I.os, I.bare, I.base, I.loc, I.cell, I.free, I.freeC, I.pin, I.hok, I.len⟩
structure FnT (P : Program) (w : World) (K : PySem.W.Frag) (mg : Str → Option Value) (base : Heap) (f : Addr) (fd : FuncData) (ps : List Str) (sp : Sp) : Prop where
  len : ∀ vs H Q E, sp vs H Q E → vs.length = ps.length
  run : ∀ (A : Around) (outer : List PySem.Env) (s : Shared) (H : Hp) (args : Args) (us : List Value) (vs : List V) (Q : VK) (E : XK), L2H.RoomH 1 A → A.guards = some [] → Env0 P w K mg base A outer s H → BindsTo s fd args (ps.zip us) → Vals vs us → sp vs H Q E →
    codeAny (model P w) A (.call (.ref f) args) (CR (L2.CX P w) outer P w H s Q E) s
structure FKT (G : GX) (P : Program) (w : World) (K : PySem.W.Frag) (mg : Str → Option Value) (base : Heap) (x : Str) (n : Nat) (m : List D → Mo D) : Prop where
  ex : ∃ (f : Addr) (fd : FuncData) (ps : List Str), ps.length = n ∧ FnT P w K mg base f fd ps (spM G K n m) ∧ mg x = some (.ref f) ∧ PySem.W.keepIn K (.ref f) = true ∧ Binds K fd ps []
section
variable {G : GX} {P : Program} {w : World} {K : PySem.W.Frag} {mg : Str → Option Value} {base : Heap} {f : Addr} {fd : FuncData} {N ps : List Str} {x : Str} {st : Stmt}
theorem fkT_of {n : Nat} {g : Stm} {m : List D → Mo D} (F : FunD K x x (defArgs st) (defBody st) (defScope st) [] [] f fd) (hm : mg x = some (.ref f)) (hs : ∃ o, K.lookup sysModules = some o) (S : FnScope N ps (defScope st)) (hn : ps.length = n) (hM : ∀ ds, ds.length = n → m ds = runD N.length g ds)
    (bd : ∀ (kV doc pm : Value) (an : Option Addr) (cdv ct : Value) (us : List Value), us.length = ps.length → bindArgs (PySem.W.fnOf x x (defArgs st) (defBody st) (defScope st) .none kV doc pm an cdv ct) ⟨us, []⟩ = pure (ps.zip us))
    (hb : ∀ (cdv : Value) (A : Around) (outer : List PySem.Env) (s : Shared) (H : Hp) (E : XK), COk (dcxT P w K mg base N x (defScope st) f cdv A outer s H E) → PBl G (dcxT P w K mg base N x (defScope st) f cdv A outer s H E) E H (defBody st) g) :
    FKT G P w K mg base x n m := by
  refine ⟨f, fd, ps, hn, ⟨fun vs H Q E h => by rw [hn]; exact h.1, fun A outer s H args us vs Q E hr hg e0 hbi r hsp => ?_⟩, hm, F.kp, F.bindsN bd⟩
  obtain ⟨oc, od, dV, kV, doc, pm, an, cdv, ct, osl, rfl, lk, hcd, _, _⟩ := F.ex
  have hl0 := hsp.1
  have KX : K.In s.heap := e0.mod.kin.keeps fun b o e => (e0.bs b o e).1
  have lim : s.heap.NoLimit := e0.mod.nolimit.keeps fun b o e => (e0.bs b o e).1
  have hkind : ∀ y ∈ ps.zip us, (defScope st).names.lookup y.1 = some .local ∨ ((defScope st).names.lookup y.1 = some .cell ∧ ((cellsFrom (s.heap.objs.size + 1) (defScope st).names []).lookup y.1).isSome = true) := fun ⟨n, v⟩ hy => by
    rcases S.par n (List.of_mem_zip hy).1 with q | q
    · exact .inl q
    · exact .inr ⟨q, PySem.W.cellsFrom_some _ _ _ (.inl q)⟩
  refine codeAny_call_function hr.depth (KX _ _ lk) rfl S.co S.gen rfl (PySem.W.codeRec_of KX hcd) (hbi _ _ _ _ ?_)
  refine wpAny_newFunctionEnv_cells S.kind hkind fun env he s1 x1 => ?_
  subst he
  refine ⟨lim.keeps x1.toInCall.keep, codeAny_func ?_⟩
  obtain ⟨hl, T, al, s0, ds, wi, rs, q⟩ := hsp
  have I : Inv (dcxT P w K mg base N x (defScope st) f cdv A outer s H E) [] (L2.start N vs) H s1 := inv_startT S e0 (hl.trans hn.symm) r x1
  have q2 := hb cdv A outer s H E ⟨hg, (by have h := hr.un; show A.units + 3 + 200 < cLine; omega), hs⟩ ⟨T, al, fz T H, al⟩ _ s0 _ T al H { nx := fun _ H' => Q .non H', rt := Q } (start_si wi (sl_start rs)) (by
    rw [hM ds (by rw [← rs.length, hl])] at q
    unfold runD at q
    rw [bind_ap] at q
    cases e : g (ds.map (fun x => some (SV.d x)) ++ List.replicate (N.length - ds.length) none) s0 with
    | ok fl st1 =>
      rw [e] at q
      cases fl with
      | nx r => exact fun σ T' al' H' S' => q .non T' al' H' S'.ex S'.wi .non
      | ret x => exact fun v T' al' H' ex wi' rx => q v T' al' H' ex wi' rx
      | brk r => exact q.elim
      | ct r => exact q.elim
    | err c x st1 =>
      rw [e] at q
      exact q
    | bad =>
      rw [e] at q
      exact q)
  refine wpAny_mono (q2 [] s1 I) (fun fl s' hs => ?_) fun e s' hs => hs
  have fin : ∀ {σ' : L2.St} {H' : Hp} {v : V} {u : Value}, Inv (dcxT P w K mg base N x (defScope st) f cdv A outer s H E) [] σ' H' s' → RelV v u → Q v H' → CE outer P w H s Q u s' :=
    fun {σ' H' v u} J rv q => ⟨v, H', J.os, J.bare, J.base, J.hok, rv, q⟩
  cases fl with
  | ret u =>
    obtain ⟨v, σ', H', J, rv, q⟩ := hs
    exact fin J rv q
  | next =>
    obtain ⟨σ', H', J, q⟩ := hs
    exact fin (v := V.non) (u := Value.none) J rfl q
  | brk =>
    obtain ⟨_, _, _, q⟩ := hs
    exact False.elim q
  | cont =>
    obtain ⟨_, _, _, q⟩ := hs
    exact False.elim q
end
section
variable {G : GX} {X : Cx} {W : WX} {H0 : Hp} {x : Str} {n : Nat} {m : List D → Mo D} {p pos : Pos} {e : Expr} {es : List Expr}
theorem pd_callT {f : Env → Mo (List D)} (kn : FKT G X.prog X.w X.K X.mg X.base x n m) (hr : L2H.RoomH 1 X.A) (gd : X.A.guards = some []) (tk : Takes X W) (hg : Gl X x) (hn : ∀ r st ds st1, f r st = .ok ds st1 → ds.length = n) (ha : PL G X W H0 (e :: es) f)
    (hdb : (x == ("__debug__" : Str)) = false := by decide) (he : starEach (e :: es) X.env = (false, eval e X.env) :: starEach es X.env := by rfl) (hpl : (backTo pos (starEach es X.env)).any (·.1) = false := by rfl) :
    PD G X W H0 (.Call (.Name x p) (e :: es) [] pos) (eCall m f) := by
  intro r st σ T al H Q S w q pins s I
  obtain ⟨f0, fd, ps, hn0, F, hm, hk, hb⟩ := kn.ex
  refine wpAny_Call_Name_kw (ld_glob I hg hm ?_ hdb)
  refine PySem.W.callWith_K (h₀ := X.base) I.ok.mod.kin hk (thn (ha r st σ T al H (fun vs H1 => ∃ T1 al1 st1 ds, vs.length = n ∧ WI X.K G.TB T1 al1 st1 H1 ∧ RepAll X.K (fz T1 H1) al1 vs ds ∧ Post G X.K W (RpD X.K) σ T1 al1 H1 Q (m ds st1)) S w ?_ pos pins s I) fun us s1 ⟨vs, H1, I1, r1, T1, al1, st1, ds, hl, w1, rs, q1⟩ => ⟨I1.kIn, ?_⟩) he hpl
  · refine seqP back_D q fun ds st1 vs T1 al1 H1 ef x1 w1 r1 q1 => ?_
    exact ⟨T1, al1, st1, ds, by rw [RepAll.length r1]; exact hn r st ds st1 ef, w1, r1, q1⟩
  · have b := hb s1 us I1.kIn (by rw [List.append_nil, ← r1.length, hl, hn0])
    rw [List.append_nil] at b
    have q' : Post G X.K (wE (WE W σ)) (RpD X.K) [] T1 al1 H1 Q (m ds st1) := by
      cases em : m ds st1 with
      | ok y st2 => rw [em] at q1; exact q1
      | err c y st2 => rw [em] at q1; exact q1
      | bad => rw [em] at q1; exact q1
    refine wpAny_call (codeAny_mono (F.run X.A X.stack s1 H1 ⟨us, []⟩ us vs Q (WE W σ) hr gd I1.env0 b r1 ⟨hl, T1, al1, st1, ds, w1, rs, q'⟩) fun r s' hq => ?_)
    cases r with
    | error e => exact passAt tk σ pins H1 s1 e s' I1 hq
    | ok fl =>
      cases fl with
      | ret u => exact I1.after hq
      | next => exact False.elim hq
      | brk => exact False.elim hq
      | cont => exact False.elim hq
end
end Pi
namespace Pi
open PySem PySem.Spec PyProof.Rows L2 LamX

def wAll (X : Cx) (i : Nat) (Wout : WX) (D : Ends) : List (Addr × List Stmt) → WX
  | [] => Wout
  | (C, suite) :: l => fun cls d σ H => ∃ b, PySem.W.exmOne X.K cls (.ref C) = some b ∧
    (b = true → ∃ dd, d = some dd ∧ ∀ a, H a = none → ∀ (a' : Addr) (pn : List (Addr × Obj)), RdS (X.suite a' pn) suite (σ.set i (some (.ref a))) (upd H a (ExcO cls dd a)) { nx := fun σ6 H6 => D.nx (σ6.set i none) H6, rt := fun _ _ => False }) ∧
    (b = false → wAll X i Wout D l cls d σ H)
inductive HdsA (X : Cx) (n : Str) : List ExceptHandler → List (Addr × List Stmt) → Prop
  | nil : HdsA X n [] []
  | cons {x : Str} {C : Addr} {b₀ : Stmt} {suite : List Stmt} {np pos' : Pos} {hds : List ExceptHandler} {l : List (Addr × List Stmt)} (hg : Gl X x) (hm : X.mg x = some (.ref C)) (hd : (x == ("__debug__" : Str)) = false) (r : HdsA X n hds l) :
      HdsA X n (.ExceptHandler (some (.Name x np)) (some n) (b₀ :: suite) pos' :: hds) ((C, b₀ :: suite) :: l)
section
variable {X : Cx} {n : Str} {i : Nat} {body : List Stmt} {h₀ : ExceptHandler} {hds : List ExceptHandler} {l : List (Addr × List Stmt)} {pos : Pos} {tb : WX → TS} {Wout : WX}
theorem ps_try_all (hs : X.stack = X.env :: X.outer) (hf : X.env.frame = some X.env.locals) (hex : X.ex = []) (hN : X.N.Nodup) (hi : X.N[i]? = some n) (hln : X.env.scope.names.lookup n = some NameKind.local) (tk : Takes X Wout)
    (hb : ∀ (W : WX) (pn : List (Addr × Obj)) (xe : Value → Shared → Prop), Takes (X.tr pn xe) W → PassesOwn (model X.prog X.w) X.A X.env xe → PSs (X.tr pn xe) body (tb W)) (hh : HdsA X n (h₀ :: hds) l) :
    PS X (.Try body (h₀ :: hds) [] [] pos) (fun D σ H => tb (wAll X i Wout D l) D σ H) := by
  refine ⟨fun pins s σ H D I h => ?_⟩
  have ok := I.ok
  have hfr : X.A.frames = some (X.env :: X.outer) := by rw [ok.frames, hs]
  refine wpAny_Try_except ?_
  refine wpAny_mono ((hb (wAll X i Wout D l) (X.pn ++ pins) (fun e s₁ => wpAny (model X.prog X.w) X.A (noteFrame e X.env) (fun _ s₂ => wpAny (model X.prog X.w) X.A (setFlight e none) (fun _ s₃ =>
    wpAny (model X.prog X.w) X.A (handleBy e X.env (h₀ :: hds)) (SP X pins D) X.xe s₃) X.xe s₂) X.xe s₁) (fun u s' xx => ?_) PassesOwn.looking).run [] s σ H D (I.toTry _) h) (fun f s1 hsp => ?_) (fun e s1 he => he)
  · obtain ⟨a, B, sI, pins', σ', H', cls, d, rfl, J', nb, up, sky, na, os, ag, w⟩ := xx
    have J : Inv X pins σ' H' sI := J'.ofTry ok
    have sky' : Sky B (X.env :: X.outer) a (Zc cls d) X.env.locals s'.heap := by rw [← hs]; exact sky
    show wpAny (model X.prog X.w) X.A (noteFrame (.ref a) X.env) _ _ _
    refine Sky.land Zc.steady hfr hf sky' fun h3 fl3 up3 => ?_
    have J3 : Inv X pins σ' H' { s' with heap := h3 } := J.landed nb fl3.1 (up.trans up3) os ag
    obtain ⟨oe3, vs3, he3, hz3, hd3⟩ := fl3.there
    have nfr : a ∉ frs (X.env :: X.outer) := fun hm => by
      obtain ⟨_, o', e', hnf⟩ := fl3.2.2.1.mem hm
      rw [he3] at e'
      cases e'
      exact hnf _ hd3
    have nL : a ≠ X.env.locals := fun z => nfr (List.mem_filterMap.mpr ⟨X.env, List.mem_cons_self, by rw [hf, z]⟩)
    have nI : sI.heap.get? a = none := by
      cases e : sI.heap.get? a with
      | none => rfl
      | some o =>
        have q := nb a o e (by rw [hs]; exact nfr)
        rw [fl3.2.1] at q
        cases q
    have n0 : X.s_0.heap.get? a = none := by
      cases e : X.s_0.heap.get? a with
      | none => rfl
      | some o =>
        obtain ⟨o', q⟩ := J.base.there a o e (by rw [hex]; exact fun z => nomatch z)
        rw [nI] at q
        cases q
    have np : ∀ p ∈ X.pn ++ pins, p.1 ≠ a := fun p hp z => by
      have q := (J.pin p hp).1
      rw [z, nI] at q
      cases q
    have S3 := inv_mark (a := a) J3
    have go : ∀ {hds' : List ExceptHandler} {l' : List (Addr × List Stmt)}, HdsA X n hds' l' → wAll X i Wout D l' cls d σ' H' →
        wpAny (model X.prog X.w) X.A (handleBy (.ref a) X.env hds') (SP X pins D) X.xe { s' with heap := h3 } := by
      intro hds' l' hk
      induction hk with
      | nil =>
        intro w
        refine wpAny_handleBy_nil ?_
        obtain ⟨k1, k2, k3, oe, vs, T, oT, ts', he, hz, hd, h1, hr⟩ := id fl3
        unfold PySem.passOn
        refine wpAny_bind (wpAny_field he hd h1 ?_)
        rw [if_neg (show ¬ ((Value.ref T == Value.none) = true) from by simp)]
        have fin : wpAny (model X.prog X.w) X.A (setFlight (.ref a) X.env.frame) (fun _ s4 => wpAny (model X.prog X.w) X.A (throw (.ref a) : Sem Flow) (SP X pins D) X.xe s4) X.xe { s' with heap := h3 } := by
          rw [hf]
          refine HandSPX.setFlight_upZ fl3 fun h4 hh4 up4 => wpAny_throw (tk _ _ ?_)
          exact ⟨a, B, sI, pins, σ', H', cls, d, rfl, J, nb, (up.trans up3).trans up4, .inr (.inr (by rw [hs]; exact hh4)), na, os, ag, w⟩
        first
          | exact wpAny_bind (wpAny_pure (wpAny_bind fin))
          | exact wpAny_bind fin
      | @cons x C b₀ suite np0 pos' hds2 l2 hg hm hdx r ih =>
        intro w
        obtain ⟨b, hb1, hyes, hno⟩ := w
        refine wpAny_handleBy_cons (codeAny_handlers_test ?_) (by intro q; cases q)
        have LT : PySem.W.Looks (model X.prog X.w) h3 (typeOf (.ref a)) cls := fun A Q E s k q => wpAny_typeOf_ref (k _ _ he3) (by rw [hz3.1]; exact q)
        have LM := PySem.W.exm_one (M := model X.prog X.w) (J3.kIn) LT hb1
        refine ld_glob (X := X.suite a (X.pn ++ pins)) S3 hg hm (LM.here ?_) hdx
        cases b with
        | true =>
          obtain ⟨dd, rfl, hq⟩ := hyes rfl
          refine codeAny_handlers_suite_as ?_
          refine HandSPX.lands_againZ fl3 fun h4 fl4 up4 => ?_
          have J4 : Inv X pins σ' H' { s' with heap := h4 } := J.landed nb fl4.1 ((up.trans up3).trans up4) os ag
          obtain ⟨oe4, vs4, he4, hz4, hd4⟩ := fl4.there
          have J5 := inv_track J4 n0 na he4 hz4 hd4 nL np
          have S5 := inv_mark (a := a) J5
          refine store_ok (X := X.suite a (X.pn ++ pins)) (v := .ref a) S5 hN hi (.inl hln) rfl (fun s5 S6 => ?_) (.inr hln)
          refine wpAny_mono (hq a na a (X.pn ++ pins) [] s5 S6) (fun f s6 hsp => ?_) (fun _ _ z => False.elim z)
          have end_ : ∀ {σ6 : L2.St} {H6 : Hp} {Q : Shared → Prop}, Inv (X.suite a (X.pn ++ pins)) [] σ6 H6 s6 → (∀ s7, Inv X pins (σ6.set i none) H6 s7 → Q s7) →
              wpAny (model X.prog X.w) X.A (do bindName X.env n .none; unbindBehindTheSuite X.env n pos') (fun _ s7 => Q s7) X.xe s6 := fun {σ6 H6 Q} S6 hq => gone_ok (inv_unmark S6 ok) hN hi hln hq
          cases f with
          | next =>
            obtain ⟨σ6, H6, S7, q6⟩ := hsp
            exact end_ S7 fun s7 J7 => ⟨_, _, J7, q6⟩
          | brk =>
            obtain ⟨σ6, H6, S7, q6⟩ := hsp
            exact q6.elim
          | cont =>
            obtain ⟨σ6, H6, S7, q6⟩ := hsp
            exact q6.elim
          | ret u =>
            obtain ⟨v6, σ6, H6, S7, r6, q6⟩ := hsp
            exact q6.elim
        | false =>
          show wpAny _ X.A (handleBy (.ref a) X.env hds2) _ _ _
          exact ih (hno rfl)
    exact go hh w
  · cases f with
    | next =>
      obtain ⟨σ', H', J', q⟩ := hsp
      exact wpAny_execs_nil ⟨σ', H', J'.ofTry ok, q⟩
    | brk =>
      obtain ⟨σ', H', J', q⟩ := hsp
      exact ⟨σ', H', J'.ofTry ok, q⟩
    | cont =>
      obtain ⟨σ', H', J', q⟩ := hsp
      exact ⟨σ', H', J'.ofTry ok, q⟩
    | ret u =>
      obtain ⟨v, σ', H', J', r, q⟩ := hsp
      exact ⟨v, σ', H', J'.ofTry ok, r, q⟩
end

theorem sl3 {K : PySem.W.Frag} {H0 : Hp} {T : Tg} {al : List Addr} {H : Hp} {x y : D} {v u : V} {o : Option V} (h1 : Rep K (fz T H) al v x) (h2 : Rep K (fz T H) al u y) : SL K H0 T al H [none, some (.d x), some (.d y)] [o, some v, some u] := by
  refine ⟨rfl, fun i z hz => ?_, fun i j z w t _ hi _ oz _ _ => ?_⟩
  · match i, hz with
    | 1, hz =>
      have e : SV.d x = z := Option.some.inj (Option.some.inj hz)
      subst e
      exact ⟨v, rfl, h1⟩
    | 2, hz =>
      have e : SV.d y = z := Option.some.inj (Option.some.inj hz)
      subst e
      exact ⟨u, rfl, h2⟩
    | 0, hz => cases hz
    | n + 3, hz => simp at hz
  · match i, hi with
    | 1, hi =>
      have e : SV.d x = z := Option.some.inj (Option.some.inj hi)
      subst e
      cases oz
    | 2, hi =>
      have e : SV.d y = z := Option.some.inj (Option.some.inj hi)
      subst e
      cases oz
    | 0, hi => cases hi
    | n + 3, hi => simp at hi
def raisedM (f1 f2 : Env → Mo D) (hit : Nat → Option (Str × Bool)) (fld : Nat → Str) (t : Mo D) : Mo D := fun st => match t st with
  | .ok _ st' => .ok (.lst []) st'
  | .err c x st' => (match hit c with
    | some (n, true) => nx (f1 [none, some (.d (.lst [])), some (.d (.exc n (fld c) x))]) st'
    | some (n, false) => nx (f2 [none, some (.d (.lst [])), some (.d (.exc n (fld c) x))]) st'
    | none => .bad)
  | .bad => .bad
def HitC (G : GX) (K : PySem.W.Frag) (C1 C2 : Addr) (hit : Nat → Option (Str × Bool)) : Prop := ∀ c n b, hit c = some (n, b) → G.cls c = He.ga K n ∧ PySem.W.exmOne K (.ref (He.ga K n)) (.ref C1) = some b ∧ (b = false → PySem.W.exmOne K (.ref (He.ga K n)) (.ref C2) = some true)
def raisedB (a fo en x1 x2 : Str) (e1 e2 : Expr) (q : Nat → Pos) : List Stmt :=
  [.Assign [.Name fo (q 1)] (.List [] (q 2)) (q 3),
   .Try [.Expr (.Call (.Name a (q 4)) [] [] (q 5)) (q 6)] [.ExceptHandler (some (.Name x1 (q 7))) (some en) [.Assign [.Name fo (q 8)] e1 (q 9)] (q 10), .ExceptHandler (some (.Name x2 (q 11))) (some en) [.Assign [.Name fo (q 12)] e2 (q 13)] (q 14)] [] [] (q 15),
   .Return (some (.Name fo (q 16))) (q 17)]
structure RaisTx (sg : Scope) (a fo en x1 x2 : Str) (e1 e2 : Expr) (q : Nat → Pos) (qual : Str) : Prop where
  nd : [a, fo, en].Nodup
  l0 : sg.names.lookup a = some NameKind.local
  l1 : sg.names.lookup fo = some NameKind.local
  l2 : sg.names.lookup en = some NameKind.local
  g1 : sg.names.lookup x1 = some NameKind.globalImplicit
  g2 : sg.names.lookup x2 = some NameKind.globalImplicit
  d : [a, fo, en, x1, x2].all (fun x => (x == ("__debug__" : Str)) == false && (x == ("__classdict__" : Str)) == false) = true
  s0 : ∀ (b g : Addr) (cd : Value), swapsWith (.List [] (q 2)) (some (.Name fo (q 1))) (q 3).line (envOfC qual sg b g cd) = pure false
  s1 : ∀ (b g : Addr) (cd : Value), swapsWith e1 (some (.Name fo (q 8))) (q 9).line (envOfC qual sg b g cd) = pure false
  s2 : ∀ (b g : Addr) (cd : Value), swapsWith e2 (some (.Name fo (q 12))) (q 13).line (envOfC qual sg b g cd) = pure false
  s3 : ∀ (b g : Addr) (cd : Value), swapsWith (.Call (.Name a (q 4)) [] [] (q 5)) none (q 6).line (envOfC qual sg b g cd) = pure false
section
variable {G : GX} {X : Cx} {pins : List (Addr × Obj)} {σ : L2.St} {H H0 : Hp} {s : Shared}
theorem raised_run {sg : Scope} {a fo en x1 x2 x : Str} {e1 e2 : Expr} {q : Nat → Pos} {g f c' C1 C2 : Addr} {cdg : Value} {hit : Nat → Option (Str × Bool)} {fe f1 f2 : Env → Mo D} {r : Env} {st : St} {T : Tg} {al : List Addr} {W : WX} {Q : VK} {qc : Str}
    (tx : RaisTx sg a fo en x1 x2 e1 e2 q x) (hit_ok : HitC G X.K C1 C2 hit) (hm1 : X.mg x1 = some (.ref C1)) (hm2 : X.mg x2 = some (.ref C2)) (hc : H c' = some (CodeO c' qc))
    (h1 : ∀ a' pn, PD G ((tcx X [a, fo, en] x sg g cdg s H).suite a' pn) (wE fun _ _ _ => False) H e1 f1) (h2 : ∀ a' pn, PD G ((tcx X [a, fo, en] x sg g cdg s H).suite a' pn) (wE fun _ _ _ => False) H e2 f2)
    (hact : ∀ (pn : List (Addr × Obj)) (xe : Value → Shared → Prop) (W : WX) (tk : Takes ((tcx X [a, fo, en] x sg g cdg s H).tr pn xe) W) (σZ : L2.St) (HZ : Hp) (TZ : Tg) (Q : VK), σZ[0]? = some (some (.ref f)) → HZ c' = some (CodeO c' qc) →
      SL X.K H0 TZ al HZ r σ → WI X.K G.TB TZ al st HZ → Post G X.K (wE (WE W σZ)) (RpD X.K) σ TZ al HZ Q (fe r st) → RdE ((tcx X [a, fo, en] x sg g cdg s H).tr pn xe) (.Call (.Name a (q 4)) [] [] (q 5)) σZ HZ Q)
    (S : SL X.K H0 T al H r σ) (wi : WI X.K G.TB T al st H) (post : Post G X.K W (RpD X.K) σ T al H Q (raisedM f1 f2 hit G.fld (fe r) st)) :
    RdS (tcx X [a, fo, en] x sg g cdg s H) (raisedB a fo en x1 x2 e1 e2 q) (L2.start [a, fo, en] [.ref f]) H { nx := fun _ H' => Q .non H', rt := Q } := by
  have hd := tx.d
  simp only [List.all_cons, List.all_nil, Bool.and_eq_true, beq_iff_eq, Bool.and_true] at hd
  obtain ⟨⟨da, dca⟩, ⟨dfo, dcfo⟩, ⟨den, dcen⟩, ⟨dx1, _⟩, ⟨dx2, _⟩⟩ := hd
  have hlast : ∀ (v : V) (o p : Option V) (H' : Hp), Q v H' → RdS (tcx X [a, fo, en] x sg g cdg s H) [.Return (some (.Name fo (q 16))) (q 17)] [o, some v, p] H' { nx := fun _ H' => Q .non H', rt := Q } := by
    intro v o p H' k
    exact rdS (pss_one (ps_ret (pe_var (i := 1) rfl (.inl tx.l1) dfo dcfo))) ⟨v, rfl, k⟩
  refine rdS (pss_cons ps_rd pss_rd) ?_
  refine rdS1 (ps_set (i := 1) tx.nd rfl (.inl tx.l1) (pe_lst pa_nil) (tx.s0 _ _ _) (.inl rfl)) ?_
  refine ⟨Nat.zero_le _, fun l0 nl => ?_⟩
  show RdS (tcx X [a, fo, en] x sg g cdg s H) _ [some (.ref f), some (.ref l0), none] (upd H l0 (.lst [])) _
  have nT : T l0 = none := wi.free nl
  have x0 : Ext T al H (tset T l0 .frz) al (upd H l0 (.lst [])) := Ext.laid nl .frz
  have S0 := S.ext x0
  have w0 : WI X.K G.TB (tset T l0 .frz) al st (upd H l0 (.lst [])) := (wi.laid nl).tag (by rw [nT]; decide) (by rw [nT]; decide) upd_same
  have r0 : Rep X.K (fz (tset T l0 .frz) (upd H l0 (.lst []))) al (.ref l0) (.lst []) := .lst (xs := []) (fz_of tset_same upd_same) .nil
  have hc0 : (upd H l0 (.lst [])) c' = some (CodeO c' qc) := by rw [upd_ne (ne_of_none hc nl)]; exact hc
  refine rdS (pss_cons ps_rd pss_rd) ?_
  refine rdS1 (ps_try_all (X := tcx X [a, fo, en] x sg g cdg s H) (i := 2) (n := en) (Wout := fun _ _ _ _ => False) (l := [(C1, [.Assign [.Name fo (q 8)] e1 (q 9)]), (C2, [.Assign [.Name fo (q 12)] e2 (q 13)])])
    (tb := fun W D σ' H' => ∀ (pn : List (Addr × Obj)) (xe : Value → Shared → Prop), Takes ((tcx X [a, fo, en] x sg g cdg s H).tr pn xe) W → RdS ((tcx X [a, fo, en] x sg g cdg s H).tr pn xe) [.Expr (.Call (.Name a (q 4)) [] [] (q 5)) (q 6)] σ' H' D)
    rfl rfl rfl tx.nd rfl tx.l2 L2.takes0 (fun W pn xe tk _ => ⟨fun pins s σ H D I h => h pn xe tk pins s I⟩) (.cons tx.g1 hm1 dx1 (.cons tx.g2 hm2 dx2 .nil))) ?_
  intro pn xe tk
  refine rdS (pss_one (ps_expr (X := (tcx X [a, fo, en] x sg g cdg s H).tr pn xe) pe_rd (tx.s3 _ _ _))) ?_
  refine hact pn xe _ tk _ _ _ _ rfl hc0 S0 w0 ?_
  unfold raisedM at post
  cases e : fe r st with
  | bad =>
    rw [e] at post
    exact post.elim
  | ok y st' =>
    rw [e] at post
    intro v T' al' H' ex w1 r1
    exact hlast (.ref l0) _ _ H' (post (.ref l0) T' al' H' (x0.trans ex) w1 (r0.ext ex))
  | err c y st' =>
    rw [e] at post
    cases eh : hit c with
    | none =>
      simp only [eh] at post
      exact post.elim
    | some nb =>
      obtain ⟨n, b⟩ := nb
      obtain ⟨ec, ex1, ex2⟩ := hit_ok c n b eh
      intro dx v T' al' H' exA w1 nd1 hxd r1
      have ex := x0.trans exA
      have nd : H dx = none := x0.free nd1
      -- a clause's row
      have row : ∀ (ei : Expr) (fi : Env → Mo D) (pf pa : Pos), (∀ a' pn, PD G ((tcx X [a, fo, en] x sg g cdg s H).suite a' pn) (wE fun _ _ _ => False) H ei fi) → (∀ (b g : Addr) (cd : Value), swapsWith ei (some (.Name fo pf)) pa.line (envOfC x sg b g cd) = pure false) →
          Post G X.K W (RpD X.K) σ T al H Q (nx (fi [none, some (.d (.lst [])), some (.d (.exc n (G.fld c) y))]) st') →
          ∀ b, H' b = none → ∀ (a' : Addr) (pn : List (Addr × Obj)), RdS ((tcx X [a, fo, en] x sg g cdg s H).suite a' pn) [.Assign [.Name fo pf] ei pa] ([some (.ref f), some (.ref l0), some (.ref b)] : L2.St) (upd H' b (ExcO (.ref (G.cls c)) dx b))
            { nx := fun σ6 H6 => RdS (tcx X [a, fo, en] x sg g cdg s H) [.Return (some (.Name fo (q 16))) (q 17)] (σ6.set 2 none) H6 { nx := fun _ H' => Q .non H', rt := Q }, rt := fun _ _ => False } := by
        intro ei fi pf pa hi hsw po b nb a' pn'
        obtain ⟨T2, x2, w2, sm, hT2⟩ := frz_any w1 ex nd hxd
        have hb0 : H b = none := ex.free nb
        have nT2 : T2 b = none := w2.free nb
        have nbd : dx ≠ b := fun z => by
          rw [z, nb] at hxd
          cases hxd
        have ex3 : Ext T al H (tset T2 b .frz) al' (upd H' b (ExcO (.ref (G.cls c)) dx b)) := (x2.trans (Ext.laid0 nb)).retag hb0 .frz
        have w3 : WI X.K G.TB (tset T2 b .frz) al' st' (upd H' b (ExcO (.ref (G.cls c)) dx b)) := (w2.laid nb).tag (by rw [nT2]; decide) (by rw [nT2]; decide) upd_same
        have sm2 : Same (fz T2 H') (fz (tset T2 b .frz) (upd H' b (ExcO (.ref (G.cls c)) dx b))) := fun p o z => fz_tset (by rw [nT2]; decide) _ _ ((Ext.laid0 (al := al') nb).fz p o z)
        have hr3 : Rep X.K (fz (tset T2 b .frz) (upd H' b (ExcO (.ref (G.cls c)) dx b))) al' (.ref b) (.exc n (G.fld c) y) := by
          refine .exc (d := dx) (v := v) (fz_of tset_same (by rw [upd_same, ec]) (by intro ps z; unfold ExcO at z; cases z)) (fz_of (by rw [tset_ne nbd]; exact hT2) (by rw [upd_ne nbd]; exact hxd)) ?_
          have r2 : Rep X.K (fz T2 H') al' v y := r1.mono sm ⟨[], by simp⟩
          exact r2.mono sm2 ⟨[], by simp⟩
        have hr0 : Rep X.K (fz (tset T2 b .frz) (upd H' b (ExcO (.ref (G.cls c)) dx b))) al' (.ref l0) (.lst []) := by
          have r2 : Rep X.K (fz T' H') al' (.ref l0) (.lst []) := r0.ext exA
          have r3 : Rep X.K (fz T2 H') al' (.ref l0) (.lst []) := r2.mono sm ⟨[], by simp⟩
          exact r3.mono sm2 ⟨[], by simp⟩
        have po3 := Post.ext back_D po ex3
        refine rdS (pss_one (ps_set (X := (tcx X [a, fo, en] x sg g cdg s H).suite a' pn') (i := 1) tx.nd rfl (.inl tx.l1) pe_rd (hsw _ _ _) (.inr tx.l1))) ?_
        refine hi a' pn' [none, some (.d (.lst [])), some (.d (.exc n (G.fld c) y))] st' _ _ _ _ _ (sl3 hr0 hr3) w3 ?_
        cases e5 : fi [none, some (.d (.lst [])), some (.d (.exc n (G.fld c) y))] st' with
        | ok z st2 =>
          have e6 : nx (fi [none, some (.d (.lst [])), some (.d (.exc n (G.fld c) y))]) st' = .ok z st2 := by
            unfold nx
            rw [e5]
          rw [e6] at po3
          exact fun v2 T5 al5 H5 x5 w5 r5 => hlast v2 _ _ H5 (po3 v2 T5 al5 H5 x5 w5 r5)
        | err c2 z st2 =>
          have e6 : nx (fi [none, some (.d (.lst [])), some (.d (.exc n (G.fld c) y))]) st' = .bad := by
            unfold nx
            rw [e5]
          rw [e6] at po3
          exact po3.elim
        | bad =>
          have e6 : nx (fi [none, some (.d (.lst [])), some (.d (.exc n (G.fld c) y))]) st' = .bad := by
            unfold nx
            rw [e5]
          rw [e6] at po3
          exact po3.elim
      cases b with
      | true =>
        simp only [eh] at post
        exact ⟨true, by rw [ec]; exact ex1, fun _ => ⟨dx, rfl, row e1 f1 _ _ h1 tx.s1 post⟩, fun z => (by cases z)⟩
      | false =>
        simp only [eh] at post
        exact ⟨false, by rw [ec]; exact ex1, fun z => (by cases z), fun _ => ⟨true, by rw [ec]; exact ex2 rfl, fun _ => ⟨dx, rfl, row e2 f2 _ _ h2 tx.s2 post⟩, fun z => (by cases z)⟩⟩
end
end Pi
namespace Pi
open PySem PySem.Spec PyProof.Rows L2 LamX

def eRaised (G : GX) (f1 f2 : Env → Mo D) (hit : Nat → Option (Str × Bool)) (fe : Env → Mo D) : Env → Mo D := fun r => raisedM f1 f2 hit G.fld (fe r)
structure RaisF (G : GX) (P : Program) (w : World) (K : PySem.W.Frag) (mg : Str → Option Value) (base : Heap) (x : Str) (hit : Nat → Option (Str × Bool)) (f1 f2 : Env → Mo D) : Prop where
  ex : ∃ (sg : Scope) (a fo en x1 x2 : Str) (e1 e2 : Expr) (q : Nat → Pos) (g C1 C2 : Addr) (fd : FuncData) (pg : Arguments),
    RaisTx sg a fo en x1 x2 e1 e2 q x ∧ HitC G K C1 C2 hit ∧ mg x1 = some (.ref C1) ∧ mg x2 = some (.ref C2) ∧ mg x = some (.ref g) ∧ PySem.W.keepIn K (.ref g) = true ∧ FunD K x x pg (raisedB a fo en x1 x2 e1 e2 q) sg [] [] g fd ∧ Binds K fd [a] [] ∧ FnScope [a, fo, en] [a] sg ∧
    ∀ (A : Around) (outer : List PySem.Env) (cdg : Value) (s : Shared) (H : Hp), A.guards = some [] → Room 1 (A.deeper (tenv x sg s g cdg)) → ∀ (a' : Addr) (pn : List (Addr × Obj)),
      PD G ((dcx P w K mg base [a, fo, en] x sg g cdg A outer s H fun _ _ _ => False).suite a' pn) (wE fun _ _ _ => False) H e1 f1 ∧ PD G ((dcx P w K mg base [a, fo, en] x sg g cdg A outer s H fun _ _ _ => False).suite a' pn) (wE fun _ _ _ => False) H e2 f2
section
variable {G : GX} {X : Cx} {W : WX} {H0 : Hp} {x : Str} {p lpos pos : Pos}
theorem raised_end {u : Value} {H1 : Hp} {pins : List (Addr × Obj)} {σ : L2.St} {s' : Shared} {Q : VK} {g : Addr} {us : List Value} (I1 : Inv X pins σ H1 s') (rc : codeAny (model X.prog X.w) X.A (.call (.ref g) ⟨us, []⟩) (CR (L2.CX X.prog X.w) X.stack X.prog X.w H1 s' Q (fun _ _ _ => False)) s') :
    wpAny (model X.prog X.w) X.A (call (.ref g) us) (EP X pins σ Q) X.xe s' := by
  refine wpAny_call (codeAny_mono rc fun r s2 hq => ?_)
  cases r with
  | error e =>
    obtain ⟨_, _, _, _, _, _, _, _, _, _, _, _, z⟩ := hq
    exact z.elim
  | ok fl =>
    cases fl with
    | ret u => exact I1.after hq
    | next => exact False.elim hq
    | brk => exact False.elim hq
    | cont => exact False.elim hq
theorem pd_raised {params : Arguments} {body : Expr} {scope : Scope} (k : Nat) {hit : Nat → Option (Str × Bool)} {fe f1 f2 : Env → Mo D} (t : RaisF G X.prog X.w X.K X.mg X.base x hit f1 f2) (l : LamK G X) (gd : X.A.guards = some []) (hr : Room (k + 2) X.A) (hg : Gl X x)
    (hL : ∀ (A : Around) (outer : List PySem.Env) (s2 : Shared) (H : Hp) (E : XK) (f c' : Addr), A.guards = some [] → Room k (lamCx X A outer s2 H E scope f c').A → PD G (lamCx X A outer s2 H E scope f c') (wE E) H0 body fe)
    (L : LamS X.env.scope scope) (hdef : defaultsOf params X.env = ([], []) := by rfl)
    (hbind : ∀ (q : Str) (cl : List (Str × Addr)) (pm cv ctv : Value), bindArgs (PySem.W.kla_fn "<lambda>" q params body scope cl pm cv ctv) ⟨[], []⟩ = pure [] := by intros; rfl)
    (hdb : (x == ("__debug__" : Str)) = false := by decide) : PD G X W H0 (.Call (.Name x p) [.Lambda params body scope lpos] [] pos) (eRaised G f1 f2 hit fe) := by
  obtain ⟨sg, a, fo, en, x1, x2, e1, e2, q, g, C1, C2, fd, pg, tx, hit_ok, hm1, hm2, hm, hk, F, hb, Sg, hE⟩ := t.ex
  obtain ⟨c, P, TB, hcode, hmT, hu⟩ := l.ex
  have hd := tx.d
  simp only [List.all_cons, List.all_nil, Bool.and_eq_true, beq_iff_eq, Bool.and_true] at hd
  obtain ⟨⟨da, dca⟩, _⟩ := hd
  intro r st σ T al H Q S w po pins s I
  refine wpAny_Call_Name_kw (ld_glob I hg hm ?_ hdb)
  refine PySem.W.callWith_K (h₀ := X.base) I.ok.mod.kin hk ?_ (by rfl) (by rfl)
  show wpAny _ _ (spliced ((false, eval (.Lambda params body scope lpos) X.env) :: backTo pos (starEach [] X.env))) _ _ s
  refine Calls.spliced_cons (lam_new I TB hcode hmT hu w.tabs hdef (L.has I.ok) fun f c' pm' ctv H1 s' I1 lh T1 hf hfn hfr hco => ?_)
  refine Calls.spliced_nil ⟨I1.kIn, ?_⟩
  have b := hb s' [.ref f] I1.kIn rfl
  refine raised_end (u := .none) I1 ?_
  obtain ⟨oc, od, dV, kV, doc, pm, an, cdv, ct, osl, rfl, lk, hcd, _, _⟩ := F.ex
  refine run_ofS (N := [a, fo, en]) (ps := [a]) (us := [.ref f]) (vs := [.ref f]) lk hcd Sg hr I1.env0 b (.cons rfl .nil) rfl fun hr' => ⟨_, pss_rd, ?_⟩
  have hr1 : Room 1 (X.A.deeper (tenv x sg s' g cdv)) := hr'.mono (by omega)
  exact raised_run (W := W) tx hit_ok hm1 hm2 hco (fun a' pn => (hE X.A X.stack cdv s' H1 gd hr1 a' pn).1) (fun a' pn => (hE X.A X.stack cdv s' H1 gd hr1 a' pn).2)
    (fun pn xe WZ tk σZ HZ TZ QZ h0 hc SZ wZ poZ => act_run I1 L hf hfn hfr (hbind _ _ _ _ _) tk hr' rfl (.inl tx.l0) h0 hc (fun s2 hr2 => hL (X.A.deeper (tenv x sg s' g cdv)) (tenv x sg s' g cdv :: X.stack) s2 _ _ f c' gd hr2 r st σ TZ al _ _ SZ wZ poZ) da dca)
    (S.ext lh.ext) (lh.wi T1 w) (Post.ext back_D po lh.ext)
theorem pd_raisedd {d : Str} {i0 : Int} {j0 : Nat} {p0 : Pos} {params : Arguments} {body : Expr} {scope : Scope} (k : Nat) {hit : Nat → Option (Str × Bool)} {fe f1 f2 : Env → Mo D} (t : RaisF G X.prog X.w X.K X.mg X.base x hit f1 f2) (l : LamK G X) (gd : X.A.guards = some []) (hr : Room (k + 2) X.A) (hg : Gl X x)
    (hL : ∀ (A : Around) (outer : List PySem.Env) (s2 : Shared) (H : Hp) (E : XK) (f c' : Addr), A.guards = some [] → Room k (lamCx X A outer s2 H E scope f c').A → PD G (lamCx X A outer s2 H E scope f c') (wE E) H0 body fe)
    (L : LamD X.env.scope scope X.N d) (hdf : params.defaults = [.Constant (.int i0) j0 p0] := by rfl) (hk0 : params.kw_defaults = [] := by rfl)
    (hbind : LdBind params body scope d)
    (hdb : (x == ("__debug__" : Str)) = false := by decide) : PD G X W H0 (.Call (.Name x p) [.Lambda params body scope lpos] [] pos) (eRaised G f1 f2 hit fe) := by
  obtain ⟨sg, a, fo, en, x1, x2, e1, e2, q, g, C1, C2, fd, pg, tx, hit_ok, hm1, hm2, hm, hk, F, hb, Sg, hE⟩ := t.ex
  obtain ⟨c, P, TB, hcode, hmT, hu⟩ := l.ex
  have hd := tx.d
  simp only [List.all_cons, List.all_nil, Bool.and_eq_true, beq_iff_eq, Bool.and_true] at hd
  obtain ⟨⟨da, dca⟩, _⟩ := hd
  intro r st σ T al H Q S w po pins s I
  refine wpAny_Call_Name_kw (ld_glob I hg hm ?_ hdb)
  refine PySem.W.callWith_K (h₀ := X.base) I.ok.mod.kin hk ?_ (by rfl) (by rfl)
  show wpAny _ _ (spliced ((false, eval (.Lambda params body scope lpos) X.env) :: backTo pos (starEach [] X.env))) _ _ s
  refine Calls.spliced_cons (lam_newd I TB hcode hmT hu w.tabs hdf hk0 (L.has I.ok) fun f c' t0 v0 pm' ctv doc' H1 s' I1 lh T1 hf hfn hfr hco ht htn htr => ?_)
  refine Calls.spliced_nil ⟨I1.kIn, ?_⟩
  have b := hb s' [.ref f] I1.kIn rfl
  refine raised_end (u := .none) I1 ?_
  obtain ⟨oc, od, dV, kV, doc, pm, an, cdv, ct, osl, rfl, lk, hcd, _, _⟩ := F.ex
  refine run_ofS (N := [a, fo, en]) (ps := [a]) (us := [.ref f]) (vs := [.ref f]) lk hcd Sg hr I1.env0 b (.cons rfl .nil) rfl fun hr' => ⟨_, pss_rd, ?_⟩
  have hr1 : Room 1 (X.A.deeper (tenv x sg s' g cdv)) := hr'.mono (by omega)
  exact raised_run (W := W) tx hit_ok hm1 hm2 hco (fun a' pn => (hE X.A X.stack cdv s' H1 gd hr1 a' pn).1) (fun a' pn => (hE X.A X.stack cdv s' H1 gd hr1 a' pn).2)
    (fun pn xe WZ tk σZ HZ TZ QZ h0 hc SZ wZ poZ => act_rund I1 L hf hfn hfr hbind ht htn htr tk hr' rfl (.inl tx.l0) h0 hc (fun s2 hr2 => hL (X.A.deeper (tenv x sg s' g cdv)) (tenv x sg s' g cdv :: X.stack) s2 _ _ f c' gd hr2 r st σ TZ al _ _ SZ wZ poZ) da dca)
    (S.ext lh.ext) (lh.wi T1 w) (Post.ext back_D po lh.ext)
end
end Pi
namespace Pi
open PySem PySem.Spec PyProof.Rows L2 LamX

theorem pbl_bad {G : GX} {X : Cx} {E : XK} {H0 : Hp} {s : List Stmt} : PBl G X E H0 s (fun _ => Mo.bad) := fun B r st σ T al H D S q => False.elim q
structure BltE (mg : Str → Option Value) : Prop where
  ValueError : mg "ValueError" = none
  OverflowError : mg "OverflowError" = none
  LookupError : mg "LookupError" = none
  RuntimeError : mg "RuntimeError" = none
  TypeError : mg "TypeError" = none
  ArithmeticError : mg "ArithmeticError" = none
  Exception : mg "Exception" = none
def bltNamesE : List Str := ["ValueError", "OverflowError", "LookupError", "RuntimeError", "TypeError", "ArithmeticError", "Exception"]
theorem bltE_of {mg : Str → Option Value} (h : ∀ x ∈ bltNamesE, mg x = none) : BltE mg := by
  constructor <;> exact h _ (by decide)
structure IsvK (K : PySem.W.Frag) (mg : Str → Option Value) (y : Str) (tbl : Str → Option Bool) : Prop where
  ok : IsvOk K (.ref (He.ga K y)) tbl
  m : mg y = some (.ref (He.ga K y))
def supOf (S : List (Str × List Str)) (y : Str) : Str → Option Bool := fun n => (S.lookup n).map fun l => decide (y ∈ l)
def kinvB (K : PySem.W.Frag) (S : List (Str × List Str)) (ys : List Str) (os : List (Str × String)) : Bool :=
  S.all fun p => xcB K (He.ga K p.1) && ((ys.all fun y => decide (PySem.W.kitOne K (.ref (He.ga K p.1)) (.ref (He.ga K y)) = some (decide (y ∈ p.2)))) && os.all fun o => decide (PySem.W.kitOne K (.ref (He.ga K p.1)) (.type o.2) = some (decide (o.1 ∈ p.2))))
section
variable {K : PySem.W.Frag} {mg : Str → Option Value} {S : List (Str × List Str)} {ys : List Str} {os : List (Str × String)}
theorem supOf_mem {y n : Str} {b : Bool} (e : supOf S y n = some b) : ∃ l, (n, l) ∈ S ∧ b = decide (y ∈ l) := by
  unfold supOf at e
  cases q : S.lookup n with
  | none => rw [q] at e; cases e
  | some l =>
    rw [q] at e
    exact ⟨l, PySem.mem_of_lookup q, (Option.some.inj e).symm⟩
theorem isv_g (h : kinvB K S ys os = true) {y : Str} (hy : y ∈ ys) (hm : mg y = some (.ref (He.ga K y))) : IsvK K mg y (supOf S y) := by
  refine ⟨fun n b e => ?_, hm⟩
  obtain ⟨l, hl, rfl⟩ := supOf_mem e
  obtain ⟨h1, h2⟩ := both (List.all_eq_true.mp h _ hl)
  obtain ⟨h3, h4⟩ := both h2
  exact ⟨(xcB_ok h1).1, of_decide_eq_true (List.all_eq_true.mp h3 y hy)⟩
theorem isv_b (h : kinvB K S ys os = true) {y : Str} {t : String} (ho : (y, t) ∈ os) : IsvOk K (.type t) (supOf S y) := fun n b e => by
  obtain ⟨l, hl, rfl⟩ := supOf_mem e
  obtain ⟨h1, h2⟩ := both (List.all_eq_true.mp h _ hl)
  obtain ⟨h3, h4⟩ := both h2
  exact ⟨(xcB_ok h1).1, of_decide_eq_true (List.all_eq_true.mp h4 _ ho)⟩
def bareB (K : PySem.W.Frag) (x : Str) : Bool := PySem.W.excIn K (He.ga K x) [.type "ValueError", .type "Exception", .type "BaseException", .type "object"] "ValueError.__new__" && (PySem.W.keepIn K (.ref (He.ga K x)) &&
  (decide (PySem.W.findIn K (.ref (He.ga K x)) "__str__" = some (some (.builtin "BaseException.__str__"))) && decide (PySem.W.subIn K (.ref (He.ga K x)) (.type "BaseException") = some true)))
theorem bare_of {P : Program} {w : World} {x : Str} (h : bareB K x = true) (hm : mg x = some (.ref (He.ga K x))) : XBare P w K mg x := by
  obtain ⟨h1, h⟩ := both h
  obtain ⟨h2, h⟩ := both h
  obtain ⟨h3, h4⟩ := both h
  exact ⟨h1, h2, of_decide_eq_true h3, of_decide_eq_true h4, hm⟩
theorem strOk_of {xs : List Str} (h : xs.all (bareB K) = true) : StrOk K fun n => decide (n ∈ xs) := fun n e => by
  obtain ⟨h1, h'⟩ := both (List.all_eq_true.mp h n (of_decide_eq_true e))
  obtain ⟨h2, h'⟩ := both h'
  obtain ⟨h3, h4⟩ := both h'
  exact ⟨of_decide_eq_true h3, of_decide_eq_true h4⟩
def hitcB (K : PySem.W.Frag) (hl : List (Str × Bool)) (x1 x2 : Str) : Bool := hl.all fun p => decide (PySem.W.exmOne K (.ref (He.ga K p.1)) (.ref (He.ga K x1)) = some p.2) && (p.2 || decide (PySem.W.exmOne K (.ref (He.ga K p.1)) (.ref (He.ga K x2)) = some true))
theorem hitc_of {G : GX} {hl : List (Str × Bool)} {x1 x2 : Str} (hG : ∀ c n b, hl[c]? = some (n, b) → G.cls c = He.ga K n) (h : hitcB K hl x1 x2 = true) : HitC G K (He.ga K x1) (He.ga K x2) fun c => hl[c]? := fun c n b e => by
  obtain ⟨h1, h2⟩ := both (List.all_eq_true.mp h _ (List.mem_of_getElem? e))
  refine ⟨hG c n b e, of_decide_eq_true h1, fun z => ?_⟩
  subst z
  exact of_decide_eq_true (by simpa using h2)
end
section
variable {K : PySem.W.Frag} {mg : Str → Option Value} {G : GX} {P : Program} {w : World} {base : Heap} {x f y qual : Str} {c : Nat} {params : Arguments} {scope : Scope} {p1 p2 p3 p4 : Pos} {fd : FuncData}
theorem binds_kw {fI : Addr} (F : FunD K "__init__" qual params (initB f y p1 p2 p3 p4) scope [] [] fI fd)
    (bd : ∀ (kV doc pm : Value) (an : Option Addr) (cdv ct a u : Value), bindArgs (PySem.W.fnOf "__init__" qual params (initB f y p1 p2 p3 p4) scope .none kV doc pm an cdv ct) ⟨[a], [(y, u)]⟩ = pure ((["self", y] : List Str).zip [a, u])) (s : Shared) (a u : Value) :
    BindsTo s fd ⟨[a], [(y, u)]⟩ ((["self", y] : List Str).zip [a, u]) := by
  obtain ⟨oc, od, dV, kV, doc, pm, an, cdv, ct, osl, rfl, lk, hcd, hD, hK⟩ := F.ex
  rcases hD with ⟨_, rfl⟩ | ⟨e, _⟩
  · exact .of_eq (bd kV doc pm an cdv ct a u)
  · exact absurd rfl e
theorem xfw_of (h : raisB K x f = true) (hc : G.cls c = He.ga K x) (hf : G.fld c = f) (hm : mg x = some (.ref (He.ga K x))) (F : FunD K "__init__" qual params (initB f y p1 p2 p3 p4) scope [] [] (He.ma K (He.ga K x) "__init__") fd) (S : FnScope ["self", y] ["self", y] scope)
    (h0 : scope.names.lookup ("self" : Str) = some NameKind.local) (h1 : scope.names.lookup y = some NameKind.local) (hd : (y == ("__debug__" : Str)) = false) (hcd : (y == ("__classdict__" : Str)) = false) (hs : ∀ (cdv : Value) (a b : Addr), swapsWith (.Name y p3) (some (.Attribute (.Name "self" p1) f p2)) p4.line (envOfC qual scope a b cdv) = pure false)
    (bd : ∀ (kV doc pm : Value) (an : Option Addr) (cdv ct a u : Value), bindArgs (PySem.W.fnOf "__init__" qual params (initB f y p1 p2 p3 p4) scope .none kV doc pm an cdv ct) ⟨[a], [(y, u)]⟩ = pure ((["self", y] : List Str).zip [a, u])) : XFW G P w K mg base x c y := by
  obtain ⟨a1, h'⟩ := both h
  obtain ⟨a2, h'⟩ := both h'
  obtain ⟨a3, a4⟩ := both h'
  refine ⟨_, fd, ["self", y], by rw [hc]; exact oexB_ok a1, by rw [hc, hf]; exact of_decide_eq_true a2, by rw [hc]; exact of_decide_eq_true a3, of_decide_eq_true a4, ?_, binds_kw F bd, by rw [hc]; exact hm⟩
  rw [hc, hf]
  exact init_ok (k := 0) F S h0 h1 hd hcd fun cdv a => hs cdv a _
theorem xfwO_of (h : raisO K x f = true) (hc : G.cls c = He.ga K x) (hf : G.fld c = f) (hm : mg x = some (.ref (He.ga K x))) (F : FunD K "__init__" qual params (initB f y p1 p2 p3 p4) scope [] [] (He.ma K (He.ga K x) "__init__") fd) (S : FnScope ["self", y] ["self", y] scope)
    (h0 : scope.names.lookup ("self" : Str) = some NameKind.local) (h1 : scope.names.lookup y = some NameKind.local) (hd : (y == ("__debug__" : Str)) = false) (hcd : (y == ("__classdict__" : Str)) = false) (hs : ∀ (cdv : Value) (a b : Addr), swapsWith (.Name y p3) (some (.Attribute (.Name "self" p1) f p2)) p4.line (envOfC qual scope a b cdv) = pure false)
    (bd : ∀ (kV doc pm : Value) (an : Option Addr) (cdv ct a u : Value), bindArgs (PySem.W.fnOf "__init__" qual params (initB f y p1 p2 p3 p4) scope .none kV doc pm an cdv ct) ⟨[a], [(y, u)]⟩ = pure ((["self", y] : List Str).zip [a, u])) : XFWO G P w K mg base x c y := by
  obtain ⟨a1, h'⟩ := both h
  obtain ⟨a2, h'⟩ := both h'
  obtain ⟨a3, a4⟩ := both h'
  obtain ⟨b1, b'⟩ := both a1
  obtain ⟨b2, b'⟩ := both b'
  obtain ⟨b3, b'⟩ := both b'
  obtain ⟨b4, b5⟩ := both b'
  refine ⟨_, fd, ["self", y], ?_, by rw [hc, hf]; exact of_decide_eq_true a2, by rw [hc]; exact of_decide_eq_true a3, of_decide_eq_true a4, ?_, binds_kw F bd, by rw [hc]; exact hm⟩
  · rw [hc]
    exact ⟨oclO_ok b1, of_decide_eq_true b2, of_decide_eq_true b3, of_decide_eq_true b4, b5⟩
  · rw [hc, hf]
    exact initO_ok (k := 0) F S h0 h1 hd hcd fun cdv a => hs cdv a _
end
def excE (st : Stmt) (i : Nat) : Expr := match (defBody st).getD 1 (.Pass ⟨0, 0, 0, 0⟩) with
  | .Try _ hds _ _ _ => (match hds.getD i (.ExceptHandler none none [] ⟨0, 0, 0, 0⟩) with
    | .ExceptHandler _ _ [.Assign _ e _] _ => e
    | _ => .Constant .none 0 ⟨0, 0, 0, 0⟩)
  | _ => .Constant .none 0 ⟨0, 0, 0, 0⟩
theorem raised_of {G : GX} {P : Program} {w : World} {K : PySem.W.Frag} {mg : Str → Option Value} {base : Heap} {x : Str} {st : Stmt} {f C1 C2 : Addr} {fd : FuncData} {a fo en x1 x2 : Str} {e1 e2 : Expr} {q : Nat → Pos} {hit : Nat → Option (Str × Bool)} {f1 f2 : Env → Mo D}
    (hB : defBody st = raisedB a fo en x1 x2 e1 e2 q) (tx : RaisTx (defScope st) a fo en x1 x2 e1 e2 q x) (hh : HitC G K C1 C2 hit) (m1 : mg x1 = some (.ref C1)) (m2 : mg x2 = some (.ref C2)) (hm : mg x = some (.ref f))
    (F : FunD K x x (defArgs st) (defBody st) (defScope st) [] [] f fd) (S : FnScope [a, fo, en] [a] (defScope st))
    (bd : ∀ (kV doc pm : Value) (an : Option Addr) (cdv ct : Value) (us : List Value), us.length = ([a] : List Str).length → bindArgs (PySem.W.fnOf x x (defArgs st) (defBody st) (defScope st) .none kV doc pm an cdv ct) ⟨us, []⟩ = pure (([a] : List Str).zip us))
    (hr : ∀ (A : Around) (outer : List PySem.Env) (cdg : Value) (s : Shared) (H : Hp) (a' : Addr) (pn : List (Addr × Obj)), A.guards = some [] → Room 1 (dcx P w K mg base [a, fo, en] x (defScope st) f cdg A outer s H fun _ _ _ => False).A →
      PD G ((dcx P w K mg base [a, fo, en] x (defScope st) f cdg A outer s H fun _ _ _ => False).suite a' pn) (wE fun _ _ _ => False) H e1 f1 ∧ PD G ((dcx P w K mg base [a, fo, en] x (defScope st) f cdg A outer s H fun _ _ _ => False).suite a' pn) (wE fun _ _ _ => False) H e2 f2) : RaisF G P w K mg base x hit f1 f2 := by
  have b := F.bindsN bd
  have kp := F.kp
  rw [hB] at F
  exact ⟨defScope st, a, fo, en, x1, x2, e1, e2, q, f, C1, C2, fd, defArgs st, tx, hh, m1, m2, hm, kp, F, b, S, fun A outer cdg s H hg rm a' pn => hr A outer cdg s H a' pn hg rm⟩
end Pi
namespace Pi
open PySem PySem.Spec PyProof.Rows L2 LamX
def partL (g : Addr → Option Obj) (as : List Addr) : PySem.W.Frag := He.frT g (sysModules :: as)
def obsL (as : List Addr) (fa : List He.Fa) (fn : List He.DefD) (tf : List He.Defn) (ex : PySem.W.Frag → Bool) (g : Addr → Option Obj) : AlP := (He.obsD fa fn (partL g as), ex (partL g as) && He.tabsB g tf (partL g as))
theorem saysL_of {as : List Addr} {fa : List He.Fa} {fn : List He.DefD} {tf : List He.Defn} {ex : PySem.W.Frag → Bool} {h : Heap} (e : obsL as fa fn tf ex h.get? = valP fn) : SaysP fa fn tf ex h (partL h.get? as) := by
  have e1 : He.obsD fa fn (partL h.get? as) = He.valD fn := congrArg Prod.fst e
  obtain ⟨h1, h2⟩ := both (show (ex (partL h.get? as) && He.tabsB h.get? tf (partL h.get? as)) = true from congrArg Prod.snd e)
  have each : ∀ p ∈ tf, PySem.W.codeHdIn (partL h.get? as) (He.cT (partL h.get? as) p).1 (He.cT (partL h.get? as) p).2 = true ∧ ∃ o, h.get? (He.cT (partL h.get? as) p).2 = some o ∧ He.emptyTab o = true := fun p hp => by
    obtain ⟨h3, h4⟩ := both (List.all_eq_true.mp h2 p hp)
    refine ⟨h3, ?_⟩
    split at h4
    · rename_i o q
      exact ⟨o, q, h4⟩
    · cases h4
  refine ⟨e1, h1, fun p hp => (each p hp).1, fun p hp => ?_, fun p hp => ?_⟩
  · obtain ⟨_, o, q, z⟩ := each p hp
    exact He.frT_none q z
  · obtain ⟨_, o, q, z⟩ := each p hp
    rw [q, He.emptyTab_eq z]
def hookL (as : List Addr) (fa : List He.Fa) (fn : List He.DefD) (tf : List He.Defn) (ex : PySem.W.Frag → Bool) : PySem.W.Hook where
  α := AlP
  obs := fun s => obsL as fa fn tf ex s.heap.get?
  val := fun _ => valP fn
  says := fun _ h => ∃ K : PySem.W.Frag, K.In h ∧ SaysP fa fn tf ex h K
  of := fun _ _ e => ⟨_, He.frT_in, saysL_of e⟩
  keeps := fun _ _ _ ⟨K, hK, c⟩ k => ⟨K, PySem.W.Frag.In.keeps hK k, ⟨c.d, c.more, c.hd, c.out, fun p hp => k _ _ (c.empty p hp)⟩⟩
theorem obsL_eq {as : List Addr} {fa : List He.Fa} {fn : List He.DefD} {tf : List He.Defn} {ex : PySem.W.Frag → Bool} {g : Addr → Option Obj} {s : Shared} (h : ∀ a, g a = s.heap.get? a) : obsL as fa fn tf ex g = (hookL as fa fn tf ex).obs s := by
  have e : g = s.heap.get? := funext h
  rw [e] <;> rfl
end Pi
namespace Pi
open PySem PySem.Spec PyProof.Rows L2 LamX
section
def top (i : Nat) : Stmt := PySem.Challenge.pw_primezeros_k22_exceptions.main.body.getD i (.Pass ⟨0, 0, 0, 0⟩)
def cPRIMES : D := .ktp [.int 2, .int 3, .int 5, .int 7]
def cMOST_UNKNOWNS : D := .int 4
def cMOST_POINTS_fields : D := .int 700
def cMOST_TERMS : D := .int 700
def cMOST_POWER : D := .int 30
def cMOST_POINTS_hidden : D := .int 130
def cMOST_PLANES : D := .int 60
def cMOST_POLYS : D := .int 4
def cMOST_VECTORS : D := .int 13
abbrev eBadField : Nat := 0
abbrev eBadPoly : Nat := 1
abbrev eBadPoint : Nat := 2
abbrev eBadSystem : Nat := 3
abbrev eBadBox : Nat := 4
abbrev eBadLot : Nat := 5
abbrev eBadPlanes : Nat := 6
abbrev eBadVectors : Nat := 7
abbrev eBadNumber : Nat := 8
abbrev eBadPaper : Nat := 9
abbrev eTooGreat : Nat := 10
def errNames : List Str := ["BadField", "BadPoly", "BadPoint", "BadSystem", "BadBox", "BadLot", "BadPlanes", "BadVectors", "BadNumber", "BadPaper", "TooGreat"]
def errFlds : List Str := ["place", "place", "value", "place", "value", "value", "place", "place", "value", "word", "most"]
abbrev tb (y : Str) : Str → Option Bool := tblOf y errNames
def okE : Str → Bool := fun n => decide (n ∈ errNames)
def GG : GX := ⟨fun _ => 0, fun c => errFlds.getD c "", []⟩
def supT : List (Str × List Str) := [("RestError", ["RestError", "ValueError", "Exception"]), ("BadField", ["BadField", "RestError", "ValueError", "Exception"]), ("BadPoly", ["BadPoly", "RestError", "ValueError", "Exception"]), ("BadPoint", ["BadPoint", "RestError", "ValueError", "Exception"]), ("BadSystem", ["BadSystem", "RestError", "ValueError", "Exception"]), ("BadBox", ["BadBox", "RestError", "ValueError", "Exception"]), ("BadLot", ["BadLot", "RestError", "ValueError", "Exception"]), ("BadPlanes", ["BadPlanes", "RestError", "ValueError", "Exception"]), ("BadVectors", ["BadVectors", "RestError", "ValueError", "Exception"]), ("BadNumber", ["BadNumber", "RestError", "ValueError", "Exception"]), ("BadPaper", ["BadPaper", "RestError", "ValueError", "Exception"]), ("TooGreat", ["TooGreat", "OverflowError", "ArithmeticError", "Exception"])]
abbrev tv (y : Str) : Str → Option Bool := supOf supT y
def bares : List Str := ["RestError"]
def okS : Str → Bool := fun n => decide (n ∈ bares)
def hitL : List (Str × Bool) := [("BadField", true), ("BadPoly", true), ("BadPoint", true), ("BadSystem", true), ("BadBox", true), ("BadLot", true), ("BadPlanes", true), ("BadVectors", true), ("BadNumber", true), ("BadPaper", true), ("TooGreat", false)]
def hitC : Nat → Option (Str × Bool) := fun c => hitL[c]?
def lamDefs : List Str := ["_law_raised_right"]
def GK (K : PySem.W.Frag) : GX := ⟨fun c => He.ga K (errNames.getD c ""), fun c => errFlds.getD c "", tbsOf K lamDefs⟩
def n_is_integer : List Str := ["thing"]
theorem nd_is_integer : n_is_integer.Nodup := by decide
theorem sc_is_integer : FnScope n_is_integer ["thing"] (defScope (top 18)) := ⟨rfl, rfl, rfl, by decide +kernel, rfl, by decide +kernel, by decide +kernel⟩
def g_is_integer : Stm := sRet (eAnd (eIsB .int (hVar 0)) (eUn oNot (eIsB .bool (hVar 0))))
def m_is_integer : List D → Mo D := runD 1 g_is_integer
def n_is_integer_in : List Str := ["thing", "least", "most"]
theorem nd_is_integer_in : n_is_integer_in.Nodup := by decide
theorem sc_is_integer_in : FnScope n_is_integer_in ["thing", "least", "most"] (defScope (top 19)) := ⟨rfl, rfl, rfl, by decide +kernel, rfl, by decide +kernel, by decide +kernel⟩
def g_is_integer_in : Stm := sRet (eAnd (eCall m_is_integer (aCons (eVar 0) (aNil))) (eChain oLe oLe (hVar 1) (hVar 0) (hVar 2)))
def m_is_integer_in : List D → Mo D := runD 3 g_is_integer_in
def n_is_prime : List Str := ["thing"]
theorem nd_is_prime : n_is_prime.Nodup := by decide
theorem sc_is_prime : FnScope n_is_prime ["thing"] (defScope (top 20)) := ⟨rfl, rfl, rfl, by decide +kernel, rfl, by decide +kernel, by decide +kernel⟩
def g_is_prime : Stm := sRet (eAnd (eCall m_is_integer (aCons (eVar 0) (aNil))) (eBin oIn (hVar 0) (eC cPRIMES)))
def m_is_prime : List D → Mo D := runD 1 g_is_prime
def n_is_tuple_of : List Str := ["thing", "many"]
theorem nd_is_tuple_of : n_is_tuple_of.Nodup := by decide
theorem sc_is_tuple_of : FnScope n_is_tuple_of ["thing", "many"] (defScope (top 21)) := ⟨rfl, rfl, rfl, by decide +kernel, rfl, by decide +kernel, by decide +kernel⟩
def g_is_tuple_of : Stm := sRet (eAnd (eIsB .tuple (hVar 0)) (eBin oEqX (eBlt oLen (aCons (hVar 0) (aNil))) (hVar 1)))
def m_is_tuple_of : List D → Mo D := runD 2 g_is_tuple_of
def n_are_rests : List Str := ["prime", "thing", "many", "item"]
theorem nd_are_rests : n_are_rests.Nodup := by decide
theorem sc_are_rests : FnScope n_are_rests ["prime", "thing", "many"] (defScope (top 22)) := ⟨rfl, rfl, rfl, by decide +kernel, rfl, by decide +kernel, by decide +kernel⟩
def g_are_rests : Stm := sRet (eAnd (eCall m_is_tuple_of (aCons (eVar 1) (aCons (eVar 2) (aNil)))) (eBlt oAll (aCons (nFz (nLc (iDat (eVar 1)) (tgN 3) [3] (bYes) (eCall m_is_integer_in (aCons (eVar 3) (aCons (eC (.int 0)) (aCons (eBin oSub (hVar 0) (eC (.int 1))) (aNil))))))) (aNil))))
def m_are_rests : List D → Mo D := runD 4 g_are_rests
def n_is_ascending : List Str := ["things", "one", "two"]
theorem nd_is_ascending : n_is_ascending.Nodup := by decide
theorem sc_is_ascending : FnScope n_is_ascending ["things"] (defScope (top 24)) := ⟨rfl, rfl, rfl, by decide +kernel, rfl, by decide +kernel, by decide +kernel⟩
def g_is_ascending : Stm := sRet (eBlt oAll (aCons (nFz (nLc (iFun zipO (aCons (eVar 0) (aCons (eSlice (eVar 0) (pSome (eC (.int 1))) (pNone)) (aNil)))) (tgT [1, 2]) [1, 2] (bYes) (eBin oLt (hVar 1) (hVar 2)))) (aNil)))
def m_is_ascending : List D → Mo D := runD 3 g_is_ascending
def n_power_of : List Str := ["number", "power", "result", "_"]
theorem nd_power_of : n_power_of.Nodup := by decide
theorem sc_power_of : FnScope n_power_of ["number", "power"] (defScope (top 26)) := ⟨rfl, rfl, rfl, by decide +kernel, rfl, by decide +kernel, by decide +kernel⟩
def g_power_of : Stm := sSeq (sSet 2 (eC (.int 1))) (sSeq (sFor (iRng1 (aCons (eVar 1) (aNil))) (tgN 3) (sSet 2 (eBin oMulX (hVar 2) (hVar 0)))) (sRet (eVar 2)))
def m_power_of : List D → Mo D := runD 4 g_power_of
def n_need_field : List Str := ["thing", "prime", "many"]
theorem nd_need_field : n_need_field.Nodup := by decide
theorem sc_need_field : FnScope n_need_field ["thing"] (defScope (top 27)) := ⟨rfl, rfl, rfl, by decide +kernel, rfl, by decide +kernel, by decide +kernel⟩
def g_need_field : Stm := sSeq (sIf (bNot (bOf (eCall m_is_tuple_of (aCons (eVar 0) (aCons (eC (.int 2)) (aNil)))))) (sRaise eBadField (eC (.tup []))) (sNext)) (sSeq (sUnp [1, 2] (eVar 0)) (sSeq (sIf (bNot (bOf (eCall m_is_prime (aCons (eVar 1) (aNil))))) (sRaise eBadField (eC (.tup [.int 0]))) (sNext)) (sSeq (sIf (bNot (bOf (eCall m_is_integer_in (aCons (eVar 2) (aCons (eC (.int 1)) (aCons (eC cMOST_UNKNOWNS) (aNil))))))) (sRaise eBadField (eC (.tup [.int 1]))) (sNext)) (sSeq (sIf (bCmp oGt (eCall m_power_of (aCons (eVar 1) (aCons (eVar 2) (aNil)))) (eC cMOST_POINTS_fields)) (sRaise eBadField (eC (.tup []))) (sNext)) (sRet (eVar 0))))))
def m_need_field : List D → Mo D := runD 3 g_need_field
def n_is_point : List Str := ["field", "thing", "prime", "many"]
theorem nd_is_point : n_is_point.Nodup := by decide
theorem sc_is_point : FnScope n_is_point ["field", "thing"] (defScope (top 28)) := ⟨rfl, rfl, rfl, by decide +kernel, rfl, by decide +kernel, by decide +kernel⟩
def g_is_point : Stm := sSeq (sUnp [2, 3] (eVar 0)) (sRet (eCall m_are_rests (aCons (eVar 2) (aCons (eVar 1) (aCons (eVar 3) (aNil))))))
def m_is_point : List D → Mo D := runD 4 g_is_point
def n_need_point : List Str := ["field", "thing"]
theorem nd_need_point : n_need_point.Nodup := by decide
theorem sc_need_point : FnScope n_need_point ["field", "thing"] (defScope (top 29)) := ⟨rfl, rfl, rfl, by decide +kernel, rfl, by decide +kernel, by decide +kernel⟩
def g_need_point : Stm := sSeq (sIf (bNot (bOf (eCall m_is_point (aCons (eCall m_need_field (aCons (eVar 0) (aNil))) (aCons (eVar 1) (aNil)))))) (sRaise eBadPoint (eVar 1)) (sNext)) (sRet (eVar 1))
def m_need_point : List D → Mo D := runD 2 g_need_point
def n_points : List Str := ["field", "begun", "_", "prime", "many", "point", "item"]
theorem nd_points : n_points.Nodup := by decide
theorem sc_points : FnScope n_points ["field"] (defScope (top 30)) := ⟨rfl, rfl, rfl, by decide +kernel, rfl, by decide +kernel, by decide +kernel⟩
def g_points : Stm := sSeq (sUnp [3, 4] (eCall m_need_field (aCons (eVar 0) (aNil)))) (sSeq (sSet 1 (eC (.lst [.tup []]))) (sSeq (sFor (iRng1 (aCons (eVar 4) (aNil))) (tgN 2) (sSet 1 (nFz (nLc2 (iDat (eVar 1)) (tgN 5) [5, 6] (bYes) (iRng1 (aCons (eVar 3) (aNil))) (tgN 6) [6] (bYes) (eBin oAdd (hVar 5) (eTup (aCons (eVar 6) (aNil)))))))) (sRet (eBlt oTuple (aCons (hVar 1) (aNil))))))
def m_points : List D → Mo D := runD 7 g_points
def n__are_powers : List Str := ["thing", "many", "power"]
theorem nd__are_powers : n__are_powers.Nodup := by decide
theorem sc__are_powers : FnScope n__are_powers ["thing", "many"] (defScope (top 34)) := ⟨rfl, rfl, rfl, by decide +kernel, rfl, by decide +kernel, by decide +kernel⟩
def g__are_powers : Stm := sRet (eAnd (eCall m_is_tuple_of (aCons (eVar 0) (aCons (eVar 1) (aNil)))) (eBlt oAll (aCons (nFz (nLc (iDat (eVar 0)) (tgN 2) [2] (bYes) (eCall m_is_integer_in (aCons (eVar 2) (aCons (eC (.int 0)) (aCons (eC cMOST_POWER) (aNil))))))) (aNil))))
def m__are_powers : List D → Mo D := runD 3 g__are_powers
def n__is_term : List Str := ["field", "thing", "prime", "many", "powers", "factor"]
theorem nd__is_term : n__is_term.Nodup := by decide
theorem sc__is_term : FnScope n__is_term ["field", "thing"] (defScope (top 35)) := ⟨rfl, rfl, rfl, by decide +kernel, rfl, by decide +kernel, by decide +kernel⟩
def g__is_term : Stm := sSeq (sUnp [2, 3] (eVar 0)) (sSeq (sIf (bNot (bOf (eCall m_is_tuple_of (aCons (eVar 1) (aCons (eC (.int 2)) (aNil)))))) (sRet (eC (.bl false))) (sNext)) (sSeq (sUnp [4, 5] (eVar 1)) (sRet (eAnd (eCall m__are_powers (aCons (eVar 4) (aCons (eVar 3) (aNil)))) (eCall m_is_integer_in (aCons (eVar 5) (aCons (eC (.int 1)) (aCons (eBin oSub (hVar 2) (eC (.int 1))) (aNil)))))))))
def m__is_term : List D → Mo D := runD 6 g__is_term
def n_poly_fault : List Str := ["field", "thing", "ahead", "number", "term"]
theorem nd_poly_fault : n_poly_fault.Nodup := by decide
theorem sc_poly_fault : FnScope n_poly_fault ["field", "thing"] (defScope (top 36)) := ⟨rfl, rfl, rfl, by decide +kernel, rfl, by decide +kernel, by decide +kernel⟩
def g_poly_fault : Stm := sSeq (sIf (bOr (bNot (bOf (eIsB .tuple (hVar 1)))) (bCmp oGt (eBlt oLen (aCons (hVar 1) (aNil))) (eC cMOST_TERMS))) (sRet (eC (.tup []))) (sNext)) (sSeq (sSet 2 (eC (.tup []))) (sSeq (sFor (iFun enumT (aCons (eVar 1) (aNil))) (tgT [3, 4]) (sSeq (sIf (bOr (bNot (bOf (eCall m__is_term (aCons (eVar 0) (aCons (eVar 4) (aNil)))))) (bCmp oLe (eBin oIx (hVar 4) (eC (.int 0))) (hVar 2))) (sRet (eTup (aCons (eVar 3) (aNil)))) (sNext)) (sSet 2 (eBin oIx (hVar 4) (eC (.int 0)))))) (sRet (eC (.non)))))
def m_poly_fault : List D → Mo D := runD 5 g_poly_fault
def n_need_poly : List Str := ["field", "thing", "place"]
theorem nd_need_poly : n_need_poly.Nodup := by decide
theorem sc_need_poly : FnScope n_need_poly ["field", "thing"] (defScope (top 37)) := ⟨rfl, rfl, rfl, by decide +kernel, rfl, by decide +kernel, by decide +kernel⟩
def g_need_poly : Stm := sSeq (sSet 2 (eCall m_poly_fault (aCons (eCall m_need_field (aCons (eVar 0) (aNil))) (aCons (eVar 1) (aNil))))) (sSeq (sIf (bCmp oIsNot (hVar 2) (eC (.non))) (sRaise eBadPoly (eVar 2)) (sNext)) (sRet (eVar 1)))
def m_need_poly : List D → Mo D := runD 3 g_need_poly
def n_value_at : List Str := ["field", "poly", "point"]
theorem nd_value_at : n_value_at.Nodup := by decide
theorem sc_value_at : FnScope n_value_at ["field", "poly", "point"] (defScope (top 38)) := ⟨rfl, rfl, rfl, by decide +kernel, rfl, by decide +kernel, by decide +kernel⟩
def g_value_at : Stm := sSeq (sExpr (eCall m_need_poly (aCons (eVar 0) (aCons (eVar 1) (aNil))))) (sSeq (sExpr (eCall m_need_point (aCons (eVar 0) (aCons (eVar 2) (aNil))))) ((fun _ => Mo.bad)))
def m_value_at : List D → Mo D := runD 3 g_value_at
def n__is_lot : List Str := ["field", "thing", "each"]
theorem nd__is_lot : n__is_lot.Nodup := by decide
theorem sc__is_lot : FnScope n__is_lot ["field", "thing"] (defScope (top 56)) := ⟨rfl, rfl, rfl, by decide +kernel, rfl, by decide +kernel, by decide +kernel⟩
def g__is_lot : Stm := sSeq (sIf (bOr (bNot (bOf (eIsB .tuple (hVar 1)))) (bNot (bOf (eBlt oAll (aCons (nFz (nLc (iDat (eVar 1)) (tgN 2) [2] (bYes) (eCall m_is_point (aCons (eVar 0) (aCons (eVar 2) (aNil)))))) (aNil)))))) (sRet (eC (.bl false))) (sNext)) (sRet (eCall m_is_ascending (aCons (eVar 1) (aNil))))
def m__is_lot : List D → Mo D := runD 3 g__is_lot
def n__need_lot_and_point : List Str := ["field", "lot", "point", "prime", "many"]
theorem nd__need_lot_and_point : n__need_lot_and_point.Nodup := by decide
theorem sc__need_lot_and_point : FnScope n__need_lot_and_point ["field", "lot", "point"] (defScope (top 55)) := ⟨rfl, rfl, rfl, by decide +kernel, rfl, by decide +kernel, by decide +kernel⟩
def g__need_lot_and_point : Stm := sSeq (sUnp [3, 4] (eCall m_need_field (aCons (eVar 0) (aNil)))) (sSeq (sIf (bNot (bOf (eCall m__is_lot (aCons (eVar 0) (aCons (eVar 1) (aNil)))))) (sRaise eBadLot (eVar 1)) (sNext)) (sSeq (sIf (bCmp oIn (eCall m_need_point (aCons (eVar 0) (aCons (eVar 2) (aNil)))) (hVar 1)) (sRaise eBadPoint (eVar 2)) (sNext)) (sIf (bCmp oGt (eCall m_power_of (aCons (eVar 3) (aCons (eVar 4) (aNil)))) (eC cMOST_POINTS_hidden)) (sRaise eTooGreat (eC cMOST_POINTS_hidden)) (sNext))))
def m__need_lot_and_point : List D → Mo D := runD 5 g__need_lot_and_point
def n_depth_paper : List Str := ["field", "lot", "point"]
theorem nd_depth_paper : n_depth_paper.Nodup := by decide
theorem sc_depth_paper : FnScope n_depth_paper ["field", "lot", "point"] (defScope (top 53)) := ⟨rfl, rfl, rfl, by decide +kernel, rfl, by decide +kernel, by decide +kernel⟩
def g_depth_paper : Stm := sSeq (sExpr (eCall m__need_lot_and_point (aCons (eVar 0) (aCons (eVar 1) (aCons (eVar 2) (aNil)))))) ((fun _ => Mo.bad))
def m_depth_paper : List D → Mo D := runD 3 g_depth_paper
def n_depth : List Str := ["field", "lot", "point", "poly", "_"]
theorem nd_depth : n_depth.Nodup := by decide
theorem sc_depth : FnScope n_depth ["field", "lot", "point"] (defScope (top 52)) := ⟨rfl, rfl, rfl, by decide +kernel, rfl, by decide +kernel, by decide +kernel⟩
def g_depth : Stm := sSeq (sUnp [3, 4] (eCall m_depth_paper (aCons (eVar 0) (aCons (eVar 1) (aCons (eVar 2) (aNil)))))) ((fun _ => Mo.bad))
def m_depth : List D → Mo D := runD 5 g_depth
def n_check_depth : List Str := ["field", "lot", "point", "paper"]
theorem nd_check_depth : n_check_depth.Nodup := by decide
theorem sc_check_depth : FnScope n_check_depth ["field", "lot", "point", "paper"] (defScope (top 54)) := ⟨rfl, rfl, rfl, by decide +kernel, rfl, by decide +kernel, by decide +kernel⟩
def g_check_depth : Stm := sSeq (sExpr (eCall m__need_lot_and_point (aCons (eVar 0) (aCons (eVar 1) (aCons (eVar 2) (aNil)))))) (sSeq (sIf (bNot (bOf (eCall m_is_tuple_of (aCons (eVar 3) (aCons (eC (.int 2)) (aNil)))))) (sRaise eBadPaper (eC (.str "form"))) (sNext)) ((fun _ => Mo.bad)))
def m_check_depth : List D → Mo D := runD 4 g_check_depth
def n__is_place : List Str := ["prime", "thing"]
theorem nd__is_place : n__is_place.Nodup := by decide
theorem sc__is_place : FnScope n__is_place ["prime", "thing"] (defScope (top 70)) := ⟨rfl, rfl, rfl, by decide +kernel, rfl, by decide +kernel, by decide +kernel⟩
def g__is_place : Stm := sSeq (sIf (bOr (bNot (bOf (eIsB .tuple (hVar 1)))) (bCmp oEqX (eBlt oLen (aCons (hVar 1) (aNil))) (eC (.int 0)))) (sRet (eC (.bl false))) (sNext)) (sRet (eAnd (eCall m_are_rests (aCons (eVar 0) (aCons (eVar 1) (aCons (eBlt oLen (aCons (hVar 1) (aNil))) (aNil))))) (eCall m_is_ascending (aCons (eVar 1) (aNil)))))
def m__is_place : List D → Mo D := runD 2 g__is_place
def n__need_poly_and_box : List Str := ["field", "poly", "box", "prime", "many", "place"]
theorem nd__need_poly_and_box : n__need_poly_and_box.Nodup := by decide
theorem sc__need_poly_and_box : FnScope n__need_poly_and_box ["field", "poly", "box"] (defScope (top 69)) := ⟨rfl, rfl, rfl, by decide +kernel, rfl, by decide +kernel, by decide +kernel⟩
def g__need_poly_and_box : Stm := sSeq (sExpr (eCall m_need_poly (aCons (eVar 0) (aCons (eVar 1) (aNil))))) (sSeq (sUnp [3, 4] (eVar 0)) (sIf (bOr (bNot (bOf (eCall m_is_tuple_of (aCons (eVar 2) (aCons (eVar 4) (aNil)))))) (bNot (bOf (eBlt oAll (aCons (nFz (nLc (iDat (eVar 2)) (tgN 5) [5] (bYes) (eCall m__is_place (aCons (eVar 3) (aCons (eVar 5) (aNil)))))) (aNil)))))) (sRaise eBadBox (eVar 2)) (sNext)))
def m__need_poly_and_box : List D → Mo D := runD 6 g__need_poly_and_box
def n_rest_in : List Str := ["field", "poly", "box"]
theorem nd_rest_in : n_rest_in.Nodup := by decide
theorem sc_rest_in : FnScope n_rest_in ["field", "poly", "box"] (defScope (top 68)) := ⟨rfl, rfl, rfl, by decide +kernel, rfl, by decide +kernel, by decide +kernel⟩
def g_rest_in : Stm := sSeq (sExpr (eCall m__need_poly_and_box (aCons (eVar 0) (aCons (eVar 1) (aCons (eVar 2) (aNil)))))) ((fun _ => Mo.bad))
def m_rest_in : List D → Mo D := runD 3 g_rest_in
def n_uncovered : List Str := ["field", "planes"]
theorem nd_uncovered : n_uncovered.Nodup := by decide
theorem sc_uncovered : FnScope n_uncovered ["field", "planes"] (defScope (top 75)) := ⟨rfl, rfl, rfl, by decide +kernel, rfl, by decide +kernel, by decide +kernel⟩
def g_uncovered : Stm := sSeq (sExpr (eCall m_need_field (aCons (eVar 0) (aNil)))) (sSeq (sIf (bOr (bNot (bOf (eIsB .tuple (hVar 1)))) (bCmp oGt (eBlt oLen (aCons (hVar 1) (aNil))) (eC cMOST_PLANES))) (sRaise eBadPlanes (eC (.tup []))) (sNext)) ((fun _ => Mo.bad)))
def m_uncovered : List D → Mo D := runD 2 g_uncovered
def n_need_system : List Str := ["field", "thing"]
theorem nd_need_system : n_need_system.Nodup := by decide
theorem sc_need_system : FnScope n_need_system ["field", "thing"] (defScope (top 81)) := ⟨rfl, rfl, rfl, by decide +kernel, rfl, by decide +kernel, by decide +kernel⟩
def g_need_system : Stm := sSeq (sExpr (eCall m_need_field (aCons (eVar 0) (aNil)))) (sSeq (sIf (bOr (bNot (bOf (eIsB .tuple (hVar 1)))) (bNot (bOf (eChain oLe oLe (eC (.int 1)) (eBlt oLen (aCons (hVar 1) (aNil))) (eC cMOST_POLYS))))) (sRaise eBadSystem (eC (.tup []))) (sNext)) ((fun _ => Mo.bad)))
def m_need_system : List D → Mo D := runD 2 g_need_system
def n__marks : List Str := ["field", "system"]
theorem nd__marks : n__marks.Nodup := by decide
theorem sc__marks : FnScope n__marks ["field", "system"] (defScope (top 82)) := ⟨rfl, rfl, rfl, by decide +kernel, rfl, by decide +kernel, by decide +kernel⟩
def g__marks : Stm := sSeq (sExpr (eCall m_need_system (aCons (eVar 0) (aCons (eVar 1) (aNil))))) ((fun _ => Mo.bad))
def m__marks : List D → Mo D := runD 2 g__marks
def n_zeros : List Str := ["field", "system", "marks"]
theorem nd_zeros : n_zeros.Nodup := by decide
theorem sc_zeros : FnScope n_zeros ["field", "system"] (defScope (top 83)) := ⟨rfl, rfl, rfl, by decide +kernel, rfl, by decide +kernel, by decide +kernel⟩
def g_zeros : Stm := sSeq (sSet 2 (eCall m__marks (aCons (eVar 0) (aCons (eVar 1) (aNil))))) ((fun _ => Mo.bad))
def m_zeros : List D → Mo D := runD 3 g_zeros
def n_norm : List Str := ["field", "many", "unknowns"]
theorem nd_norm : n_norm.Nodup := by decide
theorem sc_norm : FnScope n_norm ["field", "many"] (defScope (top 86)) := ⟨rfl, rfl, rfl, by decide +kernel, rfl, by decide +kernel, by decide +kernel⟩
def g_norm : Stm := sSeq (sSet 2 (eBin oIx (eCall m_need_field (aCons (eVar 0) (aNil))) (eC (.int 1)))) (sSeq (sIf (bNot (bOf (eCall m_is_integer_in (aCons (eVar 1) (aCons (eC (.int 1)) (aCons (eVar 2) (aNil))))))) (sRaise eBadNumber (eVar 1)) (sNext)) ((fun _ => Mo.bad)))
def m_norm : List D → Mo D := runD 3 g_norm
def n__need_prime : List Str := ["prime"]
theorem nd__need_prime : n__need_prime.Nodup := by decide
theorem sc__need_prime : FnScope n__need_prime ["prime"] (defScope (top 94)) := ⟨rfl, rfl, rfl, by decide +kernel, rfl, by decide +kernel, by decide +kernel⟩
def g__need_prime : Stm := sIf (bNot (bOf (eCall m_is_prime (aCons (eVar 0) (aNil))))) (sRaise eBadNumber (eVar 0)) (sNext)
def m__need_prime : List D → Mo D := runD 1 g__need_prime
def n__need_few : List Str := ["things"]
theorem nd__need_few : n__need_few.Nodup := by decide
theorem sc__need_few : FnScope n__need_few ["things"] (defScope (top 95)) := ⟨rfl, rfl, rfl, by decide +kernel, rfl, by decide +kernel, by decide +kernel⟩
def g__need_few : Stm := sIf (bOr (bNot (bOf (eIsB .tuple (hVar 0)))) (bCmp oGt (eBlt oLen (aCons (hVar 0) (aNil))) (eC cMOST_VECTORS))) (sRaise eBadVectors (eC (.tup []))) (sNext)
def m__need_few : List D → Mo D := runD 1 g__need_few
def n__need_vectors : List Str := ["prime", "vectors"]
theorem nd__need_vectors : n__need_vectors.Nodup := by decide
theorem sc__need_vectors : FnScope n__need_vectors ["prime", "vectors"] (defScope (top 96)) := ⟨rfl, rfl, rfl, by decide +kernel, rfl, by decide +kernel, by decide +kernel⟩
def g__need_vectors : Stm := sSeq (sExpr (eCall m__need_prime (aCons (eVar 0) (aNil)))) (sSeq (sExpr (eCall m__need_few (aCons (eVar 1) (aNil)))) ((fun _ => Mo.bad)))
def m__need_vectors : List D → Mo D := runD 2 g__need_vectors
def n_nought_lot : List Str := ["prime", "vectors"]
theorem nd_nought_lot : n_nought_lot.Nodup := by decide
theorem sc_nought_lot : FnScope n_nought_lot ["prime", "vectors"] (defScope (top 93)) := ⟨rfl, rfl, rfl, by decide +kernel, rfl, by decide +kernel, by decide +kernel⟩
def g_nought_lot : Stm := sSeq (sExpr (eCall m__need_vectors (aCons (eVar 0) (aCons (eVar 1) (aNil))))) ((fun _ => Mo.bad))
def m_nought_lot : List D → Mo D := runD 2 g_nought_lot
def n__law_begun : List Str := ["script", "k", "cells", "great", "seed", "cell"]
theorem nd__law_begun : n__law_begun.Nodup := by decide
theorem sc__law_begun : FnScope n__law_begun ["script", "k"] (defScope (top 100)) := ⟨rfl, rfl, rfl, by decide +kernel, rfl, by decide +kernel, by decide +kernel⟩
def g__law_begun : Stm := sSeq (sSet 2 (nFz (nCat (nFz (nSlice (hVar 0) (pSome (eVar 1)) (pNone))) (nFz (nSlice (hVar 0) (pNone) (pSome (eVar 1))))))) (sSeq (sSet 3 (nFz (nLc (iDat (eVar 2)) (tgN 5) [5] (bCmp oGe (hVar 5) (eBin oPow (eC (.int 10)) (eC (.int 18)))) (eVar 5)))) (sSeq (sSet 4 (eBin oAdd (eC (.int 59)) (hVar 1))) (sSeq (sFor (iDat (eVar 2)) (tgN 5) (sSet 4 (eBin oMod (eBlt oInt (aCons (eBin oAdd (eBin oMulX (hVar 4) (eC (.int 48271))) (hVar 5)) (aNil))) (eC (.int 2147483647))))) (sRet (eObj (prCons (eC (.str "left")) (eIf (bCmp oNeX (hVar 3) (eC (.lst []))) (eBin oIx (hVar 3) (eC (.int 0))) (eC (.int 0))) (prCons (eC (.str "seed")) (eVar 4) (prCons (eC (.str "cells")) (nFz (nCat (hVar 2) (nFz (nLst (aCons (eBin oAdd (eBin oMulX (eC (.int 43)) (hVar 1)) (eC (.int 13))) (aNil)))))) (prCons (eC (.str "spot")) (eC (.int 0)) (prNil))))))))))
def m__law_begun : List D → Mo D := runD 6 g__law_begun
def n__law_draw : List Str := ["m", "many", "spot", "cell", "blend", "found", "cells", "extra"]
theorem nd__law_draw : n__law_draw.Nodup := by decide
theorem sc__law_draw : FnScope n__law_draw ["m", "many"] (defScope (top 101)) := ⟨rfl, rfl, rfl, by decide +kernel, rfl, by decide +kernel, by decide +kernel⟩
def g__law_draw : Stm := sSeq (sIf (bCmp oGt (eGet (eVar 0) (eC (.str "left"))) (eC (.int 0))) (sSeq (sSet 5 (eBin oMod (eBlt oInt (aCons (eGet (eVar 0) (eC (.str "left"))) (aNil))) (hVar 1))) (sSeq (sPut (eVar 0) (eC (.str "left")) (eBin oFdiv (eGet (eVar 0) (eC (.str "left"))) (hVar 1))) (sRet (eVar 5)))) (sNext)) (sSeq (sSet 2 (eGet (eVar 0) (eC (.str "spot")))) (sSeq (sPut (eVar 0) (eC (.str "spot")) (eBin oAdd (hVar 2) (eC (.int 1)))) (sSeq (sPar 6 7 (aCons (eGet (eVar 0) (eC (.str "cells"))) (aCons (eBin oAdd (eGet (eVar 0) (eC (.str "seed"))) (eBin oMulX (eBin oMulX (eC (.int 40503)) (hVar 2)) (hVar 2))) (aNil)))) (sSeq (sSet 3 (eBin oIx (hVar 6) (eBin oMod (eBlt oInt (aCons (hVar 2) (aNil))) (eBlt oLen (aCons (hVar 6) (aNil)))))) (sSeq (sSet 4 (eBin oMod (eBlt oInt (aCons (eBin oAdd (eBin oMulX (hVar 3) (eBin oAdd (eBin oMulX (eC (.int 2)) (hVar 2)) (eC (.int 3)))) (hVar 7)) (aNil))) (eC (.int 2147483647)))) (sSeq (sSet 4 (eBin oMod (eBlt oInt (aCons (eBin oAdd (eBin oAdd (eBin oMulX (hVar 4) (hVar 4)) (eBin oMulX (eC (.int 69621)) (hVar 2))) (eGet (eVar 0) (eC (.str "seed")))) (aNil))) (eC (.int 2147483629)))) (sRet (eBin oMod (eBin oFdiv (eBin oMod (eBlt oInt (aCons (eBin oAdd (eBin oMulX (hVar 4) (eC (.int 48271))) (hVar 2)) (aNil))) (eC (.int 2147483647))) (eC (.int 11))) (hVar 1)))))))))
def m__law_draw : List D → Mo D := runD 8 g__law_draw
def n__law_of : List Str := ["m", "some"]
theorem nd__law_of : n__law_of.Nodup := by decide
theorem sc__law_of : FnScope n__law_of ["m", "some"] (defScope (top 102)) := ⟨rfl, rfl, rfl, by decide +kernel, rfl, by decide +kernel, by decide +kernel⟩
def g__law_of : Stm := sRet (eBin oIx (hVar 1) (eCall m__law_draw (aCons (eVar 0) (aCons (eBlt oLen (aCons (hVar 1) (aNil))) (aNil)))))
def m__law_of : List D → Mo D := runD 2 g__law_of
def n__law_marks : List Str := ["error", "found"]
theorem nd__law_marks : n__law_marks.Nodup := by decide
theorem sc__law_marks : FnScope n__law_marks ["error"] (defScope (top 103)) := ⟨rfl, rfl, rfl, by decide +kernel, rfl, by decide +kernel, by decide +kernel⟩
def g__law_marks : Stm := sSeq (sSet 1 (nFz (nLst (aCons (eIsV (tv "BadField") (eVar 0)) (aCons (eIsV (tv "BadPoly") (eVar 0)) (aCons (eIsV (tv "BadPoint") (eVar 0)) (aNil))))))) (sSeq (sSet 1 (nFz (nCat (hVar 1) (nFz (nLst (aCons (eIsV (tv "BadSystem") (eVar 0)) (aCons (eIsV (tv "BadBox") (eVar 0)) (aCons (eIsV (tv "BadLot") (eVar 0)) (aNil))))))))) (sSeq (sSet 1 (nFz (nCat (hVar 1) (nFz (nLst (aCons (eIsV (tv "BadPlanes") (eVar 0)) (aCons (eIsV (tv "BadVectors") (eVar 0)) (aCons (eIsV (tv "BadNumber") (eVar 0)) (aNil))))))))) (sRet (nFz (nCat (hVar 1) (nFz (nLst (aCons (eIsV (tv "BadPaper") (eVar 0)) (aCons (eIsV (tv "TooGreat") (eVar 0)) (aNil))))))))))
def m__law_marks : List D → Mo D := runD 2 g__law_marks
def n__law_above : List Str := ["error", "found"]
theorem nd__law_above : n__law_above.Nodup := by decide
theorem sc__law_above : FnScope n__law_above ["error"] (defScope (top 104)) := ⟨rfl, rfl, rfl, by decide +kernel, rfl, by decide +kernel, by decide +kernel⟩
def g__law_above : Stm := sSeq (sSet 1 (nFz (nLst (aCons (eIsV (tv "RestError") (eVar 0)) (aCons (eIsV (tv "ValueError") (eVar 0)) (aCons (eIsV (tv "OverflowError") (eVar 0)) (aNil))))))) (sSeq (sSet 1 (nFz (nCat (hVar 1) (nFz (nLst (aCons (eIsV (tv "LookupError") (eVar 0)) (aCons (eIsV (tv "RuntimeError") (eVar 0)) (aCons (eIsV (tv "TypeError") (eVar 0)) (aNil))))))))) (sRet (nFz (nCat (hVar 1) (nFz (nLst (aCons (eIsV (tv "ArithmeticError") (eVar 0)) (aCons (eIsV (tv "Exception") (eVar 0)) (aNil)))))))))
def m__law_above : List D → Mo D := runD 2 g__law_above
def n__law_things : List Str := ["m", "some", "turn"]
theorem nd__law_things : n__law_things.Nodup := by decide
theorem sc__law_things : FnScope n__law_things ["m"] (defScope (top 105)) := ⟨rfl, rfl, rfl, by decide +kernel, rfl, by decide +kernel, by decide +kernel⟩
def g__law_things : Stm := sSeq (sSet 1 (nFz (nLst (aCons (eC (.non)) (aCons (eC (.int 0)) (aCons (eC (.bl true)) (aCons (eC (.bl false)) (aCons (eUn oNeg (eC (.int 1))) (aCons (eCall m__law_draw (aCons (eVar 0) (aCons (eBin oPow (eC (.int 10)) (eC (.int 9))) (aNil)))) (aCons (eBin oPow (eC (.int 10)) (eC (.int 30))) (aCons (eC (.str "")) (aCons (eC (.str "poly")) (aCons (eC (.str "0")) (aCons (eC (.tup [])) (aCons (eC (.tup [.int 0])) (aCons (eC (.tup [.non])) (aCons (eC (.lst [])) (aCons (nFz (nLst (aCons (eC (.lst [])) (aCons (eC (.dct [])) (aNil))))) (aNil))))))))))))))))))) (sSeq (sSet 1 (nFz (nCat (hVar 1) (nFz (nLst (aCons (eC (.dct [])) (aCons (eDisp (prCons (eC (.str "a")) (eC (.lst [.int 1])) (prNil))) (aCons (eC (.tup [.int 2, .int 1])) (aCons (eC (.tup [.tup [.int 1, .int 2], .lst [.int 3]])) (aCons (eC (.str "form")) (aCons (eC (.tup [.tup []])) (aCons (eC (.lst [.non])) (aCons (eDisp (prCons (eC (.int 1)) (eC (.tup [.int 2, .lst [.int 3]])) (prNil))) (aCons (eC (.tup [.bl true, .str "x", .non])) (aNil))))))))))))))) (sRet (nFz (nCat (eC (.lst [.non, .tup [], .int 0, .bl false])) (nFz (nLc (iRng1 (aCons (eC (.int 4)) (aNil))) (tgN 2) [2] (bYes) (eCall m__law_of (aCons (eVar 0) (aCons (eVar 1) (aNil))))))))))
def m__law_things : List D → Mo D := runD 3 g__law_things
def n__law_fields_of : List Str := ["row_so", "found"]
theorem nd__law_fields_of : n__law_fields_of.Nodup := by decide
theorem sc__law_fields_of : FnScope n__law_fields_of ["row_so"] (defScope (top 106)) := ⟨rfl, rfl, rfl, by decide +kernel, rfl, by decide +kernel, by decide +kernel⟩
def g__law_fields_of : Stm := sSeq (sSet 1 (nFz (nLst (aCons (eXat okE "place" (eBin oIx (hVar 0) (eC (.int 0)))) (aCons (eXat okE "place" (eBin oIx (hVar 0) (eC (.int 1)))) (aCons (eXat okE "value" (eBin oIx (hVar 0) (eC (.int 2)))) (aCons (eXat okE "place" (eBin oIx (hVar 0) (eC (.int 3)))) (aCons (eXat okE "value" (eBin oIx (hVar 0) (eC (.int 4)))) (aCons (eXat okE "value" (eBin oIx (hVar 0) (eC (.int 5)))) (aNil)))))))))) (sRet (nFz (nCat (hVar 1) (nFz (nLst (aCons (eXat okE "place" (eBin oIx (hVar 0) (eC (.int 6)))) (aCons (eXat okE "place" (eBin oIx (hVar 0) (eC (.int 7)))) (aCons (eXat okE "value" (eBin oIx (hVar 0) (eC (.int 8)))) (aCons (eXat okE "word" (eBin oIx (hVar 0) (eC (.int 9)))) (aCons (eXat okE "most" (eBin oIx (hVar 0) (eC (.int 10)))) (aNil)))))))))))
def m__law_fields_of : List D → Mo D := runD 2 g__law_fields_of
def n__law_made_right : List Str := ["thing", "was", "near", "far", "row_so", "at", "error", "above", "k"]
theorem nd__law_made_right : n__law_made_right.Nodup := by decide
theorem sc__law_made_right : FnScope n__law_made_right ["thing"] (defScope (top 107)) := ⟨rfl, rfl, rfl, by decide +kernel, rfl, by decide +kernel, by decide +kernel⟩
def g__law_made_right : Stm := sSeq (sSet 1 (eBlt oRepr (aCons (hVar 0) (aNil)))) (sSeq (sSet 2 (nFz (nLst (aCons (eMk "BadField" "place" (eVar 0)) (aCons (eMk "BadPoly" "place" (eVar 0)) (aCons (eMk "BadPoint" "value" (eVar 0)) (aCons (eMk "BadSystem" "place" (eVar 0)) (aCons (eMk "BadBox" "value" (eVar 0)) (aCons (eMk "BadLot" "value" (eVar 0)) (aNil)))))))))) (sSeq (sSet 2 (nFz (nCat (hVar 2) (nFz (nLst (aCons (eMk "BadPlanes" "place" (eVar 0)) (aCons (eMk "BadVectors" "place" (eVar 0)) (aCons (eMk "BadNumber" "value" (eVar 0)) (aCons (eMk "BadPaper" "word" (eVar 0)) (aCons (eMk "TooGreat" "most" (eVar 0)) (aNil))))))))))) (sSeq (sSet 3 (nFz (nLst (aCons (eMk "BadField" "place" (eVar 0)) (aCons (eMk "BadPoly" "place" (eVar 0)) (aCons (eMk "BadPoint" "value" (eVar 0)) (aCons (eMk "BadSystem" "place" (eVar 0)) (aNil)))))))) (sSeq (sSet 3 (nFz (nCat (hVar 3) (nFz (nLst (aCons (eMk "BadBox" "value" (eVar 0)) (aCons (eMk "BadLot" "value" (eVar 0)) (aCons (eMk "BadPlanes" "place" (eVar 0)) (aCons (eMk "BadVectors" "place" (eVar 0)) (aNil)))))))))) (sSeq (sSet 3 (nFz (nCat (hVar 3) (nFz (nLst (aCons (eMk "BadNumber" "value" (eVar 0)) (aCons (eMk "BadPaper" "word" (eVar 0)) (aCons (eMk "TooGreat" "most" (eVar 0)) (aNil))))))))) (sSeq (sFor (iDat (eTup (aCons (eVar 2) (aCons (eVar 3) (aNil))))) (tgN 4) (sSeq (sIf (bCmp oNeX (eBlt oRepr (aCons (eCall m__law_fields_of (aCons (eVar 4) (aNil))) (aNil))) (eBlt oRepr (aCons (nFz (nRep (nFz (nLst (aCons (eVar 0) (aNil)))) (eC (.int 11)))) (aNil)))) (sRet (eC (.bl false))) (sNext)) (sFor (iFun enumX (aCons (eVar 4) (aNil))) (tgT [5, 6]) (sSeq (sSet 7 (nFz (nLst (aCons (eBin oLt (hVar 5) (eC (.int 10))) (aCons (eBin oLt (hVar 5) (eC (.int 10))) (aCons (eBin oEqX (hVar 5) (eC (.int 10))) (aCons (eC (.bl false)) (aCons (eC (.bl false)) (aCons (eC (.bl false)) (aCons (eBin oEqX (hVar 5) (eC (.int 10))) (aCons (eC (.bl true)) (aNil)))))))))))) (sIf (bOr (bCmp oNeX (eCall m__law_marks (aCons (eVar 6) (aNil))) (nFz (nLc (iRng1 (aCons (eC (.int 11)) (aNil))) (tgN 8) [8] (bYes) (eBin oEqX (hVar 8) (hVar 5))))) (bCmp oNeX (eCall m__law_above (aCons (eVar 6) (aNil))) (hVar 7))) (sRet (eC (.bl false))) (sNext)))))) (sRet (eBin oEqX (eBlt oRepr (aCons (hVar 0) (aNil))) (hVar 1)))))))))
def m__law_made_right : List D → Mo D := runD 9 g__law_made_right
def n__law_raised : List Str := ["call", "found", "e"]
theorem sc__law_raised : FnScope n__law_raised ["call"] (defScope (top 108)) := ⟨rfl, rfl, rfl, by decide +kernel, rfl, by decide +kernel, by decide +kernel⟩
def f1__law_raised : Env → Mo D := nFz (nCat (eC (.lst [.str "rest"])) (eCall m__law_marks (aCons (eVar 2) (aNil))))
def f2__law_raised : Env → Mo D := nFz (nCat (eC (.lst [.str "great"])) (eCall m__law_marks (aCons (eVar 2) (aNil))))
def n__law_raised_right : List Str := ["said", "due", "frame", "one", "at", "k"]
theorem nd__law_raised_right : n__law_raised_right.Nodup := by decide
theorem sc__law_raised_right : FnScope n__law_raised_right [] (defScope (top 109)) := ⟨rfl, rfl, rfl, by decide +kernel, rfl, by decide +kernel, by decide +kernel⟩
def g__law_raised_right : Stm := sSeq (sUnp [2, 3] (eC (.tup [.tup [.int 2, .int 1], .tup [.tup [.tup [.int 1], .int 1]]]))) (sSeq (sOwn 0 (nLst (aCons (eRaised GG (f1__law_raised) (f2__law_raised) hitC (eCall m_points (aCons (eC (.non)) (aNil)))) (aCons (eRaised GG (f1__law_raised) (f2__law_raised) hitC (eCall m_need_poly (aCons (eVar 2) (aCons (eC (.non)) (aNil))))) (aNil))))) (sSeq (sOwn 0 (nCat (hVar 0) (nFz (nLst (aCons (eRaised GG (f1__law_raised) (f2__law_raised) hitC (eCall m_value_at (aCons (eVar 2) (aCons (eVar 3) (aCons (eC (.non)) (aNil)))))) (aCons (eRaised GG (f1__law_raised) (f2__law_raised) hitC (eCall m_zeros (aCons (eVar 2) (aCons (eC (.non)) (aNil))))) (aNil))))))) (sSeq (sOwn 0 (nCat (hVar 0) (nFz (nLst (aCons (eRaised GG (f1__law_raised) (f2__law_raised) hitC (eCall m_rest_in (aCons (eVar 2) (aCons (eVar 3) (aCons (eC (.non)) (aNil)))))) (aCons (eRaised GG (f1__law_raised) (f2__law_raised) hitC (eCall m_depth (aCons (eVar 2) (aCons (eC (.non)) (aCons (eC (.tup [.int 0])) (aNil)))))) (aNil))))))) (sSeq (sOwn 0 (nCat (hVar 0) (nFz (nLst (aCons (eRaised GG (f1__law_raised) (f2__law_raised) hitC (eCall m_uncovered (aCons (eVar 2) (aCons (eC (.non)) (aNil))))) (aCons (eRaised GG (f1__law_raised) (f2__law_raised) hitC (eCall m_nought_lot (aCons (eC (.int 2)) (aCons (eC (.non)) (aNil))))) (aNil))))))) (sSeq (sOwn 0 (nCat (hVar 0) (nFz (nLst (aCons (eRaised GG (f1__law_raised) (f2__law_raised) hitC (eCall m_norm (aCons (eVar 2) (aCons (eC (.int 0)) (aNil))))) (aCons (eRaised GG (f1__law_raised) (f2__law_raised) hitC (eCall m_check_depth (aCons (eVar 2) (aCons (eC (.tup [])) (aCons (eC (.tup [.int 0])) (aCons (eC (.int 5)) (aNil))))))) (aNil))))))) (sSeq (sApp 0 (eRaised GG (f1__law_raised) (f2__law_raised) hitC (eCall m_depth (aCons (eC (.tup [.int 7, .int 3])) (aCons (eC (.tup [])) (aCons (eC (.tup [.int 0, .int 0, .int 0])) (aNil))))))) (sSeq (sSet 1 (nFz (nLc (iRng1 (aCons (eC (.int 11)) (aNil))) (tgN 4) [4] (bYes) (nFz (nCat (nFz (nLst (aCons (eIf (bCmp oLt (hVar 4) (eC (.int 10))) (eC (.str "rest")) (eC (.str "great"))) (aNil)))) (nFz (nLc (iRng1 (aCons (eC (.int 11)) (aNil))) (tgN 5) [5] (bYes) (eBin oEqX (hVar 5) (hVar 4))))))))) (sRet (eAnd (eBin oEqX (hVar 0) (hVar 1)) (eBin oEqX (eRaised GG (f1__law_raised) (f2__law_raised) hitC (eCall m_points (aCons (eVar 2) (aNil)))) (eC (.lst []))))))))))))
def m__law_raised_right : List D → Mo D := runD 6 g__law_raised_right
def n_law : List Str := ["script", "k", "text", "m", "bare", "thing"]
theorem nd_law : n_law.Nodup := by decide
theorem sc_law : FnScope n_law ["script"] (defScope (top 110)) := ⟨rfl, rfl, rfl, by decide +kernel, rfl, by decide +kernel, by decide +kernel⟩
def g_law : Stm := sSeq (sFor (iRng1 (aCons (eBin oAdd (eC (.int 3)) (eBlt oMin2 (aCons (eBlt oLen (aCons (hVar 0) (aNil))) (aCons (eC (.int 6)) (aNil))))) (aNil))) (tgN 1) (sSeq (sSet 3 (eCall m__law_begun (aCons (eVar 0) (aCons (eVar 1) (aNil))))) (sIf (bCmp oNeX (nFz (nLc (iDat (eCall m__law_things (aCons (eVar 3) (aNil)))) (tgN 5) [5] (bNot (bOf (eCall m__law_made_right (aCons (eVar 5) (aNil))))) (eVar 5))) (eC (.lst []))) (sRet (eC (.bl false))) (sNext)))) (sSeq (sFor (iDat (eC (.tup [.str "no rest", .str "", .str "two words"]))) (tgN 2) (sSeq (sSet 4 (eBex "RestError" (eVar 2))) (sSeq (sIf (bOr (bCmp oNeX (eCall m__law_marks (aCons (eVar 4) (aNil))) (nFz (nRep (eC (.lst [.bl false])) (eC (.int 11))))) (bCmp oNeX (eStrX okS (eVar 4)) (hVar 2))) (sRet (eC (.bl false))) (sNext)) (sIf (bCmp oNeX (eCall m__law_above (aCons (eVar 4) (aNil))) (eC (.lst [.bl true, .bl true, .bl false, .bl false, .bl false, .bl false, .bl false, .bl true]))) (sRet (eC (.bl false))) (sNext))))) (sRet (eCall m__law_raised_right aNil)))
def m_law : List D → Mo D := runD 6 g_law
end
end Pi
namespace Pi
open PySem PySem.Spec PyProof.Rows L2 LamX
def gloNames : List Str := (["is_integer", "is_integer_in", "is_prime", "is_tuple_of", "are_rests", "is_ascending", "power_of", "need_field", "is_point", "need_point", "points", "_are_powers", "_is_term", "poly_fault", "need_poly", "value_at", "_is_lot", "_need_lot_and_point", "depth_paper", "depth", "check_depth", "_is_place", "_need_poly_and_box", "rest_in", "uncovered", "need_system", "_marks", "zeros", "norm", "_need_prime"] : List Str) ++ (["_need_few", "_need_vectors", "nought_lot", "_law_begun", "_law_draw", "_law_of", "_law_marks", "_law_above", "_law_things", "_law_fields_of", "_law_made_right", "_law_raised", "_law_raised_right", "law", "RestError", "BadField", "BadPoly", "BadPoint", "BadSystem", "BadBox", "BadLot", "BadPlanes", "BadVectors", "BadNumber", "BadPaper", "TooGreat"] : List Str)
def faT : List He.Fa := gloNames.map .glo ++ (bltNames ++ bltNamesE).map .free
def dd_is_integer : He.DefD := ⟨("is_integer", none), "is_integer", "is_integer", defArgs (top 18), defBody (top 18), defScope (top 18), [], []⟩
def dd_is_integer_in : He.DefD := ⟨("is_integer_in", none), "is_integer_in", "is_integer_in", defArgs (top 19), defBody (top 19), defScope (top 19), [], []⟩
def dd_is_prime : He.DefD := ⟨("is_prime", none), "is_prime", "is_prime", defArgs (top 20), defBody (top 20), defScope (top 20), [], []⟩
def dd_is_tuple_of : He.DefD := ⟨("is_tuple_of", none), "is_tuple_of", "is_tuple_of", defArgs (top 21), defBody (top 21), defScope (top 21), [], []⟩
def dd_are_rests : He.DefD := ⟨("are_rests", none), "are_rests", "are_rests", defArgs (top 22), defBody (top 22), defScope (top 22), [], []⟩
def dd_is_ascending : He.DefD := ⟨("is_ascending", none), "is_ascending", "is_ascending", defArgs (top 24), defBody (top 24), defScope (top 24), [], []⟩
def dd_power_of : He.DefD := ⟨("power_of", none), "power_of", "power_of", defArgs (top 26), defBody (top 26), defScope (top 26), [], []⟩
def dd_need_field : He.DefD := ⟨("need_field", none), "need_field", "need_field", defArgs (top 27), defBody (top 27), defScope (top 27), [], []⟩
def dd_is_point : He.DefD := ⟨("is_point", none), "is_point", "is_point", defArgs (top 28), defBody (top 28), defScope (top 28), [], []⟩
def dd_need_point : He.DefD := ⟨("need_point", none), "need_point", "need_point", defArgs (top 29), defBody (top 29), defScope (top 29), [], []⟩
def dd_points : He.DefD := ⟨("points", none), "points", "points", defArgs (top 30), defBody (top 30), defScope (top 30), [], []⟩
def dd__are_powers : He.DefD := ⟨("_are_powers", none), "_are_powers", "_are_powers", defArgs (top 34), defBody (top 34), defScope (top 34), [], []⟩
def dd__is_term : He.DefD := ⟨("_is_term", none), "_is_term", "_is_term", defArgs (top 35), defBody (top 35), defScope (top 35), [], []⟩
def dd_poly_fault : He.DefD := ⟨("poly_fault", none), "poly_fault", "poly_fault", defArgs (top 36), defBody (top 36), defScope (top 36), [], []⟩
def dd_need_poly : He.DefD := ⟨("need_poly", none), "need_poly", "need_poly", defArgs (top 37), defBody (top 37), defScope (top 37), [], []⟩
def dd_value_at : He.DefD := ⟨("value_at", none), "value_at", "value_at", defArgs (top 38), defBody (top 38), defScope (top 38), [], []⟩
def dd__is_lot : He.DefD := ⟨("_is_lot", none), "_is_lot", "_is_lot", defArgs (top 56), defBody (top 56), defScope (top 56), [], []⟩
def dd__need_lot_and_point : He.DefD := ⟨("_need_lot_and_point", none), "_need_lot_and_point", "_need_lot_and_point", defArgs (top 55), defBody (top 55), defScope (top 55), [], []⟩
def dd_depth_paper : He.DefD := ⟨("depth_paper", none), "depth_paper", "depth_paper", defArgs (top 53), defBody (top 53), defScope (top 53), [], []⟩
def dd_depth : He.DefD := ⟨("depth", none), "depth", "depth", defArgs (top 52), defBody (top 52), defScope (top 52), [], []⟩
def dd_check_depth : He.DefD := ⟨("check_depth", none), "check_depth", "check_depth", defArgs (top 54), defBody (top 54), defScope (top 54), [], []⟩
def dd__is_place : He.DefD := ⟨("_is_place", none), "_is_place", "_is_place", defArgs (top 70), defBody (top 70), defScope (top 70), [], []⟩
def dd__need_poly_and_box : He.DefD := ⟨("_need_poly_and_box", none), "_need_poly_and_box", "_need_poly_and_box", defArgs (top 69), defBody (top 69), defScope (top 69), [], []⟩
def dd_rest_in : He.DefD := ⟨("rest_in", none), "rest_in", "rest_in", defArgs (top 68), defBody (top 68), defScope (top 68), [], []⟩
def dd_uncovered : He.DefD := ⟨("uncovered", none), "uncovered", "uncovered", defArgs (top 75), defBody (top 75), defScope (top 75), [], []⟩
def dd_need_system : He.DefD := ⟨("need_system", none), "need_system", "need_system", defArgs (top 81), defBody (top 81), defScope (top 81), [], []⟩
def dd__marks : He.DefD := ⟨("_marks", none), "_marks", "_marks", defArgs (top 82), defBody (top 82), defScope (top 82), [], []⟩
def dd_zeros : He.DefD := ⟨("zeros", none), "zeros", "zeros", defArgs (top 83), defBody (top 83), defScope (top 83), [], []⟩
def dd_norm : He.DefD := ⟨("norm", none), "norm", "norm", defArgs (top 86), defBody (top 86), defScope (top 86), [], []⟩
def dd__need_prime : He.DefD := ⟨("_need_prime", none), "_need_prime", "_need_prime", defArgs (top 94), defBody (top 94), defScope (top 94), [], []⟩
def dd__need_few : He.DefD := ⟨("_need_few", none), "_need_few", "_need_few", defArgs (top 95), defBody (top 95), defScope (top 95), [], []⟩
def dd__need_vectors : He.DefD := ⟨("_need_vectors", none), "_need_vectors", "_need_vectors", defArgs (top 96), defBody (top 96), defScope (top 96), [], []⟩
def dd_nought_lot : He.DefD := ⟨("nought_lot", none), "nought_lot", "nought_lot", defArgs (top 93), defBody (top 93), defScope (top 93), [], []⟩
def dd__law_begun : He.DefD := ⟨("_law_begun", none), "_law_begun", "_law_begun", defArgs (top 100), defBody (top 100), defScope (top 100), [], []⟩
def dd__law_draw : He.DefD := ⟨("_law_draw", none), "_law_draw", "_law_draw", defArgs (top 101), defBody (top 101), defScope (top 101), [], []⟩
def dd__law_of : He.DefD := ⟨("_law_of", none), "_law_of", "_law_of", defArgs (top 102), defBody (top 102), defScope (top 102), [], []⟩
def dd__law_marks : He.DefD := ⟨("_law_marks", none), "_law_marks", "_law_marks", defArgs (top 103), defBody (top 103), defScope (top 103), [], []⟩
def dd__law_above : He.DefD := ⟨("_law_above", none), "_law_above", "_law_above", defArgs (top 104), defBody (top 104), defScope (top 104), [], []⟩
def dd__law_things : He.DefD := ⟨("_law_things", none), "_law_things", "_law_things", defArgs (top 105), defBody (top 105), defScope (top 105), [], []⟩
def dd__law_fields_of : He.DefD := ⟨("_law_fields_of", none), "_law_fields_of", "_law_fields_of", defArgs (top 106), defBody (top 106), defScope (top 106), [], []⟩
def dd__law_made_right : He.DefD := ⟨("_law_made_right", none), "_law_made_right", "_law_made_right", defArgs (top 107), defBody (top 107), defScope (top 107), [], []⟩
def dd__law_raised : He.DefD := ⟨("_law_raised", none), "_law_raised", "_law_raised", defArgs (top 108), defBody (top 108), defScope (top 108), [], []⟩
def dd__law_raised_right : He.DefD := ⟨("_law_raised_right", none), "_law_raised_right", "_law_raised_right", defArgs (top 109), defBody (top 109), defScope (top 109), [], []⟩
def dd_law : He.DefD := ⟨("law", none), "law", "law", defArgs (top 110), defBody (top 110), defScope (top 110), [], []⟩
def di_BadBox : He.DefD := ⟨("BadBox", some "__init__"), "__init__", "BadBox.__init__", defArgs (methOf (top 7)), defBody (methOf (top 7)), defScope (methOf (top 7)), [], []⟩
def di_BadField : He.DefD := ⟨("BadField", some "__init__"), "__init__", "BadField.__init__", defArgs (methOf (top 3)), defBody (methOf (top 3)), defScope (methOf (top 3)), [], []⟩
def di_BadLot : He.DefD := ⟨("BadLot", some "__init__"), "__init__", "BadLot.__init__", defArgs (methOf (top 8)), defBody (methOf (top 8)), defScope (methOf (top 8)), [], []⟩
def di_BadNumber : He.DefD := ⟨("BadNumber", some "__init__"), "__init__", "BadNumber.__init__", defArgs (methOf (top 11)), defBody (methOf (top 11)), defScope (methOf (top 11)), [], []⟩
def di_BadPaper : He.DefD := ⟨("BadPaper", some "__init__"), "__init__", "BadPaper.__init__", defArgs (methOf (top 12)), defBody (methOf (top 12)), defScope (methOf (top 12)), [], []⟩
def di_BadPlanes : He.DefD := ⟨("BadPlanes", some "__init__"), "__init__", "BadPlanes.__init__", defArgs (methOf (top 9)), defBody (methOf (top 9)), defScope (methOf (top 9)), [], []⟩
def di_BadPoint : He.DefD := ⟨("BadPoint", some "__init__"), "__init__", "BadPoint.__init__", defArgs (methOf (top 5)), defBody (methOf (top 5)), defScope (methOf (top 5)), [], []⟩
def di_BadPoly : He.DefD := ⟨("BadPoly", some "__init__"), "__init__", "BadPoly.__init__", defArgs (methOf (top 4)), defBody (methOf (top 4)), defScope (methOf (top 4)), [], []⟩
def di_BadSystem : He.DefD := ⟨("BadSystem", some "__init__"), "__init__", "BadSystem.__init__", defArgs (methOf (top 6)), defBody (methOf (top 6)), defScope (methOf (top 6)), [], []⟩
def di_BadVectors : He.DefD := ⟨("BadVectors", some "__init__"), "__init__", "BadVectors.__init__", defArgs (methOf (top 10)), defBody (methOf (top 10)), defScope (methOf (top 10)), [], []⟩
def di_TooGreat : He.DefD := ⟨("TooGreat", some "__init__"), "__init__", "TooGreat.__init__", defArgs (methOf (top 13)), defBody (methOf (top 13)), defScope (methOf (top 13)), [], []⟩
def fnT : List He.DefD := [dd_is_integer, dd_is_integer_in, dd_is_prime, dd_is_tuple_of, dd_are_rests, dd_is_ascending, dd_power_of, dd_need_field, dd_is_point, dd_need_point, dd_points, dd__are_powers, dd__is_term, dd_poly_fault, dd_need_poly, dd_value_at, dd__is_lot, dd__need_lot_and_point, dd_depth_paper, dd_depth, dd_check_depth, dd__is_place, dd__need_poly_and_box, dd_rest_in, dd_uncovered, dd_need_system, dd__marks, dd_zeros, dd_norm, dd__need_prime, dd__need_few, dd__need_vectors, dd_nought_lot, dd__law_begun, dd__law_draw, dd__law_of, dd__law_marks, dd__law_above, dd__law_things, dd__law_fields_of, dd__law_made_right, dd__law_raised, dd__law_raised_right, dd_law, di_BadBox, di_BadField, di_BadLot, di_BadNumber, di_BadPaper, di_BadPlanes, di_BadPoint, di_BadPoly, di_BadSystem, di_BadVectors, di_TooGreat]
def cxT : List (Str × D) := [("MOST_PLANES", cMOST_PLANES), ("MOST_POINTS_fields", cMOST_POINTS_fields), ("MOST_POINTS_hidden", cMOST_POINTS_hidden), ("MOST_POLYS", cMOST_POLYS), ("MOST_POWER", cMOST_POWER), ("MOST_TERMS", cMOST_TERMS), ("MOST_UNKNOWNS", cMOST_UNKNOWNS), ("MOST_VECTORS", cMOST_VECTORS), ("PRIMES", cPRIMES)]
def exT (K : PySem.W.Frag) : Bool := sysB K && (tabsOk K lamDefs && (cxT.all (fun q => glcB K q.1 q.2) && (kinB K errNames ["place", "value", "word", "most"] && (kinvB K supT ["BadField", "BadPoly", "BadPoint", "BadSystem", "BadBox", "BadLot", "BadPlanes", "BadVectors", "BadNumber", "BadPaper", "TooGreat", "RestError"] [("ValueError", "ValueError"), ("OverflowError", "OverflowError"), ("LookupError", "LookupError"), ("RuntimeError", "RuntimeError"), ("TypeError", "TypeError"), ("ArithmeticError", "ArithmeticError"), ("Exception", "Exception")] && (bares.all (bareB K) && (hitcB K hitL "RestError" "TooGreat" && (raisB K "BadBox" "value" && (raisB K "BadField" "place" && (raisB K "BadLot" "value" && (raisB K "BadNumber" "value" && (raisB K "BadPaper" "word" && (raisB K "BadPlanes" "place" && (raisB K "BadPoint" "value" && (raisB K "BadPoly" "place" && (raisB K "BadSystem" "place" && (raisB K "BadVectors" "place" && (raisO K "TooGreat" "most")))))))))))))))))
end Pi
namespace Pi
open PySem PySem.Spec PyProof.Rows L2 LamX
abbrev lawT : PySem.W.OpenLaw := PySem.Challenge.rw_primezeros_k22_exceptions
def loose0 : List Str := ["RestError", "BadField", "BadPoly", "BadPoint", "BadSystem", "BadBox", "BadLot", "BadPlanes", "BadVectors", "BadNumber", "BadPaper", "TooGreat", "is_integer", "is_integer_in", "is_prime", "is_tuple_of", "are_rests", "one_alone", "is_ascending", "sum_of_products", "power_of", "need_field", "is_point", "need_point", "points", "_are_powers", "_is_term", "poly_fault", "need_poly", "value_at"]
def loose1 : List Str := ["values", "degree", "poly_of", "poly_with_terms", "lowered_powers", "_lessened", "_factors", "_poly_with", "_table_of_values", "_table_of_factors", "_along_each_unknown", "depth", "depth_paper", "check_depth", "_need_lot_and_point", "_is_lot", "_places", "_single_values", "_cleared_rows", "_cleared", "_scaled", "_weights_against", "_is_parting", "_is_weight", "_are_weights", "_are_balanced", "rest_in", "_need_poly_and_box", "_is_place", "_tail"]
def loose2 : List Str := ["_lowered", "uncovered", "_is_plane", "_first_uncovered", "_is_covered", "need_system", "_marks", "zeros", "norm", "_norm_from", "_determinant", "_with_product", "nought_lot", "_need_prime", "_need_few", "_need_vectors", "_is_vector", "_first_lot", "_law_begun", "_law_draw", "_law_of", "_law_marks", "_law_above", "_law_things", "_law_fields_of", "_law_made_right", "_law_raised", "_law_raised_right", "PRIMES", "MOST_UNKNOWNS"]
def loose3 : List Str := ["MOST_POINTS_fields", "MOST_TERMS", "MOST_POWER", "MOST_POINTS_hidden", "MOST_PLANES", "MOST_POLYS", "TAILS", "MOST_VECTORS", "MOST_LONG"]
abbrev looseT : List Str := loose0 ++ loose1 ++ loose2 ++ loose3
abbrev rowT : PySem.W.OpenRow := PySem.W.OpenLaw.row lawT
def adT : List Addr := [3, 42, 62, 81, 100, 119, 138, 157, 176, 195, 214, 233, 252, 256, 263, 270, 277, 284, 289, 301, 313, 320, 327, 334, 339, 344, 351, 358, 365, 372, 442, 449, 456, 463, 468, 527, 532, 539, 558, 586, 591, 596, 634, 656, 663, 670, 677, 694, 701, 708, 715, 722, 727, 734, 739, 746, 751, 756, 41, 61, 80, 99, 118, 137, 156, 175, 194, 213, 232, 251, 262, 269, 276, 283, 288, 300, 312, 319, 326, 333, 338, 343, 350, 357, 364, 371, 441, 448, 455, 462, 467, 526, 531, 538, 557, 585, 590, 595, 633, 655, 662, 669, 676, 693, 700, 707, 714, 721, 726, 733, 738, 745, 750, 755, 59, 78, 97, 116, 135, 154, 173, 192, 211, 230, 249, 58, 77, 96, 115, 134, 153, 172, 191, 210, 229, 248]
abbrev hkT : PySem.W.Hook := hookL adT faT fnT (lamDefs.map fun z => (z, none)) exT
def obT (s : PySem.W.SharedT) : AlP := obsL adT faT fnT (lamDefs.map fun z => (z, none)) exT (HandSHeadRun.getT s)
theorem obT_eq (s : PySem.W.SharedT) : obT s = hkT.obs s.abs := obsL_eq (HandSHeadRun.getT_eq s)
theorem headP5 {σ α β γ δ ε : Type} {x : Option σ} {f : σ → α} {g : σ → β} {h : σ → γ} {k : σ → δ} {m : σ → ε} {a : α} {b : β} {c : γ} {d : δ} {e : ε} (h1 : x.map f = some a) (h2 : x.map g = some b) (h3 : x.map h = some c) (h4 : x.map k = some d) (h5 : x.map m = some e) : x.map (fun s => (f s, g s, ((h s, k s), m s))) = some (a, b, ((c, d), e)) := by
  cases x with
  | none => cases h1
  | some s =>
    cases h1
    cases h2
    cases h3
    cases h4
    cases h5
    rfl
abbrev qvT : Program := PySem.W.view rowT.prog [0, 110]
section
open PySem PySem.W PySem.Calls PyProof.Rows HandSHeadRun
def wF (w : World) (b : Bool) : World := { w with params := { w.params with followText := fun r => if r = "special-get-raises" then b else w.params.followText r } }
theorem wF_eq (w : World) {b : Bool} (h : w.params.followText "special-get-raises" = b) : wF w b = w := by
  have e : (fun r => if r = "special-get-raises" then b else w.params.followText r) = w.params.followText := by
    funext r
    by_cases z : r = "special-get-raises"
    · rw [if_pos z, z, h]
    · rw [if_neg z]
  unfold wF
  rw [e]
theorem headLk_true (w : World) : (wholeF (fun p => stepQ (denQ tabQ) p (wF w true)) fenceQ 60000 rowT.prog).map (fun x => looksF rowT.prog (x.1.heap) x.2.abs) = some true := by kernel_rfl
theorem headLk_false (w : World) : (wholeF (fun p => stepQ (denQ tabQ) p (wF w false)) fenceQ 60000 rowT.prog).map (fun x => looksF rowT.prog (x.1.heap) x.2.abs) = some true := by kernel_rfl
theorem headLk (w : World) : (wholeF (fun p => stepQ (denQ tabQ) p w) fenceQ 60000 rowT.prog).map (fun x => looksF rowT.prog (x.1.heap) x.2.abs) = some true := by
  cases h : w.params.followText "special-get-raises" with
  | true =>
    have q := headLk_true w
    rw [wF_eq w h] at q
    exact q
  | false =>
    have q := headLk_false w
    rw [wF_eq w h] at q
    exact q
theorem headSn_true (w : World) : (wholeF (fun p => stepQ (denQ tabQ) p (wF w true)) fenceQ 60000 rowT.prog).map (fun x => seenQ qvT looseT (importedModules rowT.prog.main.body) (fun s => xlAt qvT [] s && recOk rowT.toRowW.records s) x.2.abs) = some (openGood qvT looseT) := by kernel_rfl
theorem headSn_false (w : World) : (wholeF (fun p => stepQ (denQ tabQ) p (wF w false)) fenceQ 60000 rowT.prog).map (fun x => seenQ qvT looseT (importedModules rowT.prog.main.body) (fun s => xlAt qvT [] s && recOk rowT.toRowW.records s) x.2.abs) = some (openGood qvT looseT) := by kernel_rfl
theorem headSn (w : World) : (wholeF (fun p => stepQ (denQ tabQ) p w) fenceQ 60000 rowT.prog).map (fun x => seenQ qvT looseT (importedModules rowT.prog.main.body) (fun s => xlAt qvT [] s && recOk rowT.toRowW.records s) x.2.abs) = some (openGood qvT looseT) := by
  cases h : w.params.followText "special-get-raises" with
  | true =>
    have q := headSn_true w
    rw [wF_eq w h] at q
    exact q
  | false =>
    have q := headSn_false w
    rw [wF_eq w h] at q
    exact q
theorem headO1_true (w : World) : (wholeF (fun p => stepQ (denQ tabQ) p (wF w true)) fenceQ 60000 rowT.prog).map (fun x => (obT x.2).1.1) = some (valP fnT).1.1 := by kernel_rfl
theorem headO1_false (w : World) : (wholeF (fun p => stepQ (denQ tabQ) p (wF w false)) fenceQ 60000 rowT.prog).map (fun x => (obT x.2).1.1) = some (valP fnT).1.1 := by kernel_rfl
theorem headO1 (w : World) : (wholeF (fun p => stepQ (denQ tabQ) p w) fenceQ 60000 rowT.prog).map (fun x => (obT x.2).1.1) = some (valP fnT).1.1 := by
  cases h : w.params.followText "special-get-raises" with
  | true =>
    have q := headO1_true w
    rw [wF_eq w h] at q
    exact q
  | false =>
    have q := headO1_false w
    rw [wF_eq w h] at q
    exact q
theorem headO2_true (w : World) : (wholeF (fun p => stepQ (denQ tabQ) p (wF w true)) fenceQ 60000 rowT.prog).map (fun x => (obT x.2).1.2) = some (valP fnT).1.2 := by kernel_rfl
theorem headO2_false (w : World) : (wholeF (fun p => stepQ (denQ tabQ) p (wF w false)) fenceQ 60000 rowT.prog).map (fun x => (obT x.2).1.2) = some (valP fnT).1.2 := by kernel_rfl
theorem headO2 (w : World) : (wholeF (fun p => stepQ (denQ tabQ) p w) fenceQ 60000 rowT.prog).map (fun x => (obT x.2).1.2) = some (valP fnT).1.2 := by
  cases h : w.params.followText "special-get-raises" with
  | true =>
    have q := headO2_true w
    rw [wF_eq w h] at q
    exact q
  | false =>
    have q := headO2_false w
    rw [wF_eq w h] at q
    exact q
theorem headEx_true (w : World) : (wholeF (fun p => stepQ (denQ tabQ) p (wF w true)) fenceQ 60000 rowT.prog).map (fun x => (obT x.2).2) = some (valP fnT).2 := by kernel_rfl
theorem headEx_false (w : World) : (wholeF (fun p => stepQ (denQ tabQ) p (wF w false)) fenceQ 60000 rowT.prog).map (fun x => (obT x.2).2) = some (valP fnT).2 := by kernel_rfl
theorem headEx (w : World) : (wholeF (fun p => stepQ (denQ tabQ) p w) fenceQ 60000 rowT.prog).map (fun x => (obT x.2).2) = some (valP fnT).2 := by
  cases h : w.params.followText "special-get-raises" with
  | true =>
    have q := headEx_true w
    rw [wF_eq w h] at q
    exact q
  | false =>
    have q := headEx_false w
    rw [wF_eq w h] at q
    exact q
theorem runT (w : World) : HandSHeadRun.RunEqI rowT (PySem.W.view rowT.prog [0, 110]) hkT obT 60000 looseT w := by
  unfold HandSHeadRun.RunEqI
  exact headP5 (headLk w) (headSn w) (headO1 w) (headO2 w) (headEx w)
end
end Pi
namespace Pi
open PySem PySem.Spec PyProof.Rows L2
section
variable {b c : Type}
@[simp] theorem q_ret (x : b) (st : St) : (pure x : Mo b) st = .ok x st := rfl
@[simp] theorem q_bind (f : Mo b) (g : b → Mo c) (st : St) : (f >>= g) st = match f st with
  | .ok x st' => g x st'
  | .err k x st' => .err k x st'
  | .bad => .bad := rfl
@[simp] theorem q_some (x : b) (st : St) : Mo.opt (some x) st = .ok x st := rfl
@[simp] theorem q_none (st : St) : Mo.opt (none : Option b) st = .bad := rfl
@[simp] theorem q_bad (st : St) : (Mo.bad : Mo b) st = .bad := rfl
@[simp] theorem q_errM (k : Nat) (x : D) (st : St) : (Mo.err k x : Mo b) st = .err k x st := rfl
theorem q_lim {n : Nat} {x : b} {st : St} (h : n ≤ 16777216) : lim n x st = .ok x st := by
  unfold lim
  rw [Nat.ble_eq_true_of_le h]
end
def endD : Res Fl → Res D
  | .ok (.nx _) st => .ok .non st
  | .ok (.ret x) st => .ok x st
  | .ok _ _ => .bad
  | .err c x st => .err c x st
  | .bad => .bad
@[simp] theorem endD_nx (r : Env) (st : St) : endD (.ok (.nx r) st) = .ok .non st := rfl
@[simp] theorem endD_ret (x : D) (st : St) : endD (.ok (.ret x) st) = .ok x st := rfl
@[simp] theorem endD_err (c : Nat) (x : D) (st : St) : endD (.err c x st) = .err c x st := rfl
theorem q_run (n : Nat) (g : Stm) (ds : List D) (st : St) : runD n g ds st = endD (g (ds.map (fun x => some (.d x)) ++ List.replicate (n - ds.length) none) st) := by
  unfold runD
  rw [q_bind]
  cases g (ds.map (fun x => some (.d x)) ++ List.replicate (n - ds.length) none) st with
  | ok x st' => cases x <;> rfl
  | err c x st' => rfl
  | bad => rfl
def seqR (h : Stm) : Res Fl → Res Fl
  | .ok (.nx r) st => h r st
  | y => y
@[simp] theorem seqR_nx (h : Stm) (r : Env) (st : St) : seqR h (.ok (.nx r) st) = h r st := rfl
@[simp] theorem seqR_ret (h : Stm) (x : D) (st : St) : seqR h (.ok (.ret x) st) = .ok (.ret x) st := rfl
@[simp] theorem seqR_err (h : Stm) (c : Nat) (x : D) (st : St) : seqR h (.err c x st) = .err c x st := rfl
section
variable (r : Env) (st : St)
@[simp] theorem q_seq (g h : Stm) : sSeq g h r st = seqR h (g r st) := by
  unfold sSeq
  rw [q_bind]
  cases g r st with
  | ok x st' => cases x <;> rfl
  | err c x st' => rfl
  | bad => rfl
@[simp] theorem q_next : sNext r st = .ok (.nx r) st := rfl
@[simp] theorem q_sRet (f : Env → Mo D) : sRet f r st = match f r st with
  | .ok x st' => .ok (.ret x) st'
  | .err k x st' => .err k x st'
  | .bad => .bad := by
  unfold sRet
  rw [q_bind]
  cases f r st <;> rfl
@[simp] theorem q_sSet (i : Nat) (f : Env → Mo D) : sSet i f r st = match f r st with
  | .ok x st' => .ok (.nx (r.set i (some (.d x)))) st'
  | .err k x st' => .err k x st'
  | .bad => .bad := by
  unfold sSet
  rw [q_bind]
  cases f r st <;> rfl
@[simp] theorem q_sOwn (i : Nat) (f : Env → Mo (List D)) : sOwn i f r st = match f r st with
  | .ok x st' => .ok (.nx (r.set i (some (.own x)))) st'
  | .err k x st' => .err k x st'
  | .bad => .bad := by
  unfold sOwn
  rw [q_bind]
  cases f r st <;> rfl
@[simp] theorem q_sRaise (c : Nat) (f : Env → Mo D) : sRaise c f r st = match f r st with
  | .ok x st' => .err c x st'
  | .err k x st' => .err k x st'
  | .bad => .bad := by
  unfold sRaise
  rw [q_bind]
  cases f r st <;> rfl
@[simp] theorem q_sExpr (f : Env → Mo D) : sExpr f r st = match f r st with
  | .ok x st' => .ok (.nx r) st'
  | .err k x st' => .err k x st'
  | .bad => .bad := by
  unfold sExpr
  rw [q_bind]
  cases f r st <;> rfl
def ifR (g h : Stm) (r : Env) : Res Bool → Res Fl
  | .ok true st => g r st
  | .ok false st => h r st
  | .err k x st => .err k x st
  | .bad => .bad
@[simp] theorem ifR_t (g h : Stm) : ifR g h r (.ok true st) = g r st := rfl
@[simp] theorem ifR_f (g h : Stm) : ifR g h r (.ok false st) = h r st := rfl
@[simp] theorem q_sIf (c : Env → Mo Bool) (g h : Stm) : sIf c g h r st = ifR g h r (c r st) := by
  unfold sIf
  rw [q_bind]
  cases c r st with
  | ok x st' => cases x <;> rfl
  | err c x st' => rfl
  | bad => rfl
def condR {b : Type} (g h : Env → Mo b) (r : Env) : Res Bool → Res b
  | .ok true st => g r st
  | .ok false st => h r st
  | .err k x st => .err k x st
  | .bad => .bad
@[simp] theorem condR_t {b : Type} (g h : Env → Mo b) : condR g h r (.ok true st) = g r st := rfl
@[simp] theorem condR_f {b : Type} (g h : Env → Mo b) : condR g h r (.ok false st) = h r st := rfl
@[simp] theorem q_eIf {b : Type} (c : Env → Mo Bool) (g h : Env → Mo b) : eIf c g h r st = condR g h r (c r st) := by
  unfold eIf
  rw [q_bind]
  cases c r st with
  | ok x st' => cases x <;> rfl
  | err c x st' => rfl
  | bad => rfl
@[simp] theorem q_bAnd (g h : Env → Mo Bool) : bAnd g h r st = condR h (fun _ => pure false) r (g r st) := by
  unfold bAnd
  rw [q_bind]
  cases g r st with
  | ok x st' => cases x <;> rfl
  | err c x st' => rfl
  | bad => rfl
@[simp] theorem q_bOr (g h : Env → Mo Bool) : bOr g h r st = condR (fun _ => pure true) h r (g r st) := by
  unfold bOr
  rw [q_bind]
  cases g r st with
  | ok x st' => cases x <;> rfl
  | err c x st' => rfl
  | bad => rfl
@[simp] theorem q_bNot (g : Env → Mo Bool) : bNot g r st = match g r st with
  | .ok x st' => .ok (!x) st'
  | .err k x st' => .err k x st'
  | .bad => .bad := by
  unfold bNot
  rw [q_bind]
  cases g r st <;> rfl
@[simp] theorem q_bOf (f : Env → Mo D) : bOf f r st = match f r st with
  | .ok x st' => Mo.opt x.toB st'
  | .err k x st' => .err k x st'
  | .bad => .bad := by
  unfold bOf
  rw [q_bind]
  cases f r st <;> rfl
@[simp] theorem q_bTru (f : Env → Mo D) : bTru f r st = match f r st with
  | .ok x st' => Mo.opt x.truth st'
  | .err k x st' => .err k x st'
  | .bad => .bad := by
  unfold bTru
  rw [q_bind]
  cases f r st <;> rfl
@[simp] theorem q_bYes : bYes r st = .ok true st := rfl
@[simp] theorem q_eC (x : D) : eC x r st = .ok x st := rfl
@[simp] theorem q_nC (x : List D) : nC x r st = .ok x st := rfl
@[simp] theorem q_aNil : aNil r st = .ok [] st := rfl
@[simp] theorem q_aCons (f : Env → Mo D) (g : Env → Mo (List D)) : aCons f g r st = match f r st with
  | .ok x st' => (match g r st' with
    | .ok xs st2 => .ok (x :: xs) st2
    | .err k x st' => .err k x st'
    | .bad => .bad)
  | .err k x st' => .err k x st'
  | .bad => .bad := by
  unfold aCons
  rw [q_bind]
  cases f r st with
  | ok x st' =>
    dsimp only
    rw [q_bind]
    cases g r st' <;> rfl
  | err c x st' => rfl
  | bad => rfl
@[simp] theorem q_eCall (m : List D → Mo D) (f : Env → Mo (List D)) : eCall m f r st = match f r st with
  | .ok x st' => m x st'
  | .err k x st' => .err k x st'
  | .bad => .bad := by
  unfold eCall
  rw [q_bind]
  cases f r st <;> rfl
@[simp] theorem q_nFz (f : Env → Mo (List D)) : nFz f r st = match f r st with
  | .ok x st' => .ok (.lst x) st'
  | .err k x st' => .err k x st'
  | .bad => .bad := by
  unfold nFz
  rw [q_bind]
  cases f r st <;> rfl
@[simp] theorem q_eBin (o : D → D → Option D) (f g : Env → Mo D) : eBin o f g r st = match f r st with
  | .ok x st' => (match g r st' with
    | .ok y st2 => Mo.opt (o x y) st2
    | .err k x st' => .err k x st'
    | .bad => .bad)
  | .err k x st' => .err k x st'
  | .bad => .bad := by
  unfold eBin
  rw [q_bind]
  cases f r st with
  | ok x st' =>
    dsimp only
    rw [q_bind]
    cases g r st' <;> rfl
  | err c x st' => rfl
  | bad => rfl
@[simp] theorem q_eUn (o : D → Option D) (f : Env → Mo D) : eUn o f r st = match f r st with
  | .ok x st' => Mo.opt (o x) st'
  | .err k x st' => .err k x st'
  | .bad => .bad := by
  unfold eUn
  rw [q_bind]
  cases f r st <;> rfl
@[simp] theorem q_eBlt {b : Type} (o : List D → Option b) (f : Env → Mo (List D)) : eBlt o f r st = match f r st with
  | .ok x st' => Mo.opt (o x) st'
  | .err k x st' => .err k x st'
  | .bad => .bad := by
  unfold eBlt
  rw [q_bind]
  cases f r st <;> rfl
@[simp] theorem q_eIsB (T : BTy) (f : Env → Mo D) : eIsB T f r st = match f r st with
  | .ok x st' => Mo.opt ((isB T x).map .bl) st'
  | .err k x st' => .err k x st'
  | .bad => .bad := by
  unfold eIsB
  rw [q_bind]
  cases f r st <;> rfl
@[simp] theorem q_bCmp (o : D → D → Option D) (f g : Env → Mo D) : bCmp o f g r st = match eBin o f g r st with
  | .ok x st' => Mo.opt x.toB st'
  | .err k x st' => .err k x st'
  | .bad => .bad := by
  unfold bCmp
  rw [q_bind]
  cases eBin o f g r st <;> rfl
@[simp] theorem q_iDat (f : Env → Mo D) : iDat f r st = match f r st with
  | .ok x st' => Mo.opt x.items st'
  | .err k x st' => .err k x st'
  | .bad => .bad := by
  unfold iDat
  rw [q_bind]
  cases f r st <;> rfl
@[simp] theorem q_iFun (o : List D → Option (List D)) (f : Env → Mo (List D)) : iFun o f r st = match f r st with
  | .ok x st' => Mo.opt (o x) st'
  | .err k x st' => .err k x st'
  | .bad => .bad := by
  unfold iFun
  rw [q_bind]
  cases f r st <;> rfl
@[simp] theorem q_iRng1 (f : Env → Mo (List D)) : iRng1 f r st = match f r st with
  | .ok x st' => Mo.opt (rng1 x) st'
  | .err k x st' => .err k x st'
  | .bad => .bad := by
  unfold iRng1
  rw [q_bind]
  cases f r st <;> rfl
@[simp] theorem q_iRng2 (f : Env → Mo (List D)) : iRng2 f r st = match f r st with
  | .ok x st' => Mo.opt (rng2 x) st'
  | .err k x st' => .err k x st'
  | .bad => .bad := by
  unfold iRng2
  rw [q_bind]
  cases f r st <;> rfl
@[simp] theorem q_sFor (f : Env → Mo (List D)) (b : D → Env → Option Env) (g : Stm) : sFor f b g r st = match f r st with
  | .ok xs st' => forL b g xs r st'
  | .err k x st' => .err k x st'
  | .bad => .bad := by
  unfold sFor
  rw [q_bind]
  cases f r st <;> rfl
@[simp] theorem q_pNone : pNone r st = .ok none st := rfl
@[simp] theorem q_pSome (f : Env → Mo D) : pSome f r st = match f r st with
  | .ok x st' => Mo.opt (partD x) st'
  | .err k x st' => .err k x st'
  | .bad => .bad := by
  unfold pSome
  rw [q_bind]
  cases f r st <;> rfl
@[simp] theorem q_prNil : prNil r st = .ok [] st := rfl
@[simp] theorem q_prCons (f g : Env → Mo D) (h : Env → Mo (List (D × D))) : prCons f g h r st = match f r st with
  | .ok x st' => (match g r st' with
    | .ok y st2 => (match h r st2 with
      | .ok l st3 => .ok ((x, y) :: l) st3
      | .err k x st' => .err k x st'
      | .bad => .bad)
    | .err k x st' => .err k x st'
    | .bad => .bad)
  | .err k x st' => .err k x st'
  | .bad => .bad := by
  unfold prCons
  rw [q_bind]
  cases f r st with
  | ok x st' =>
    dsimp only
    rw [q_bind]
    cases g r st' with
    | ok y st2 =>
      dsimp only
      rw [q_bind]
      cases h r st2 <;> rfl
    | err c x st' => rfl
    | bad => rfl
  | err c x st' => rfl
  | bad => rfl
def boolR (g : Env → Mo D) (d : Bool) (r : Env) (st : St) : Option Bool → Res D
  | some b => bif (b == d) then g r st else .ok (.bl b) st
  | none => .bad
@[simp] theorem boolR_tt (g : Env → Mo D) : boolR g true r st (some true) = g r st := rfl
@[simp] theorem boolR_tf (g : Env → Mo D) : boolR g true r st (some false) = .ok (.bl false) st := rfl
@[simp] theorem boolR_ff (g : Env → Mo D) : boolR g false r st (some false) = g r st := rfl
@[simp] theorem boolR_ft (g : Env → Mo D) : boolR g false r st (some true) = .ok (.bl true) st := rfl
@[simp] theorem q_eAnd (f g : Env → Mo D) : eAnd f g r st = match f r st with
  | .ok x st' => boolR g true r st' x.toB
  | .err k x st' => .err k x st'
  | .bad => .bad := by
  unfold eAnd
  rw [q_bind]
  cases f r st with
  | ok x st' =>
    dsimp only
    rw [q_bind]
    cases x.toB with
    | none => rfl
    | some b => cases b <;> rfl
  | err c x st' => rfl
  | bad => rfl
@[simp] theorem q_eOr (f g : Env → Mo D) : eOr f g r st = match f r st with
  | .ok x st' => boolR g false r st' x.toB
  | .err k x st' => .err k x st'
  | .bad => .bad := by
  unfold eOr
  rw [q_bind]
  cases f r st with
  | ok x st' =>
    dsimp only
    rw [q_bind]
    cases x.toB with
    | none => rfl
    | some b => cases b <;> rfl
  | err c x st' => rfl
  | bad => rfl
def chainR (o2 : D → D → Option D) (h : Env → Mo D) (r : Env) (y : D) (st : St) : Option Bool → Res D
  | some true => (match h r st with
    | .ok z st' => Mo.opt (o2 y z) st'
    | .err k x st' => .err k x st'
    | .bad => .bad)
  | some false => .ok (.bl false) st
  | none => .bad
@[simp] theorem chainR_t (o2 : D → D → Option D) (h : Env → Mo D) (y : D) : chainR o2 h r y st (some true) = (match h r st with
    | .ok z st' => Mo.opt (o2 y z) st'
    | .err k x st' => .err k x st'
    | .bad => .bad) := rfl
@[simp] theorem chainR_f (o2 : D → D → Option D) (h : Env → Mo D) (y : D) : chainR o2 h r y st (some false) = .ok (.bl false) st := rfl
@[simp] theorem q_eChain (o o2 : D → D → Option D) (f g h : Env → Mo D) : eChain o o2 f g h r st = match f r st with
  | .ok x st' => (match g r st' with
    | .ok y st2 => chainR o2 h r y st2 ((o x y).bind D.toB)
    | .err k x st' => .err k x st'
    | .bad => .bad)
  | .err k x st' => .err k x st'
  | .bad => .bad := by
  unfold eChain
  rw [q_bind]
  cases f r st with
  | ok x st' =>
    dsimp only
    rw [q_bind]
    cases g r st' with
    | ok y st2 =>
      dsimp only
      rw [q_bind]
      cases (o x y).bind D.toB with
      | none => rfl
      | some b =>
        cases b with
        | false => rfl
        | true =>
          show (h r >>= fun z => Mo.opt (o2 y z)) st2 = _
          rw [q_bind]
          show _ = (match h r st2 with
            | .ok z st' => Mo.opt (o2 y z) st'
            | .err k x st' => .err k x st'
            | .bad => .bad)
          cases h r st2 <;> rfl
    | err c x st' => rfl
    | bad => rfl
  | err c x st' => rfl
  | bad => rfl
def unpR (is : List Nat) (r : Env) (st : St) : Option (List D) → Res Fl
  | some xs => .ok (.nx (setAll is xs r)) st
  | none => .bad
@[simp] theorem q_unpS (is : List Nat) (xs : List D) : unpR is r st (some xs) = .ok (.nx (setAll is xs r)) st := rfl
@[simp] theorem q_sUnp (is : List Nat) (f : Env → Mo D) : sUnp is f r st = match f r st with
  | .ok x st' => unpR is r st' (unpack is.length x)
  | .err k x st' => .err k x st'
  | .bad => .bad := by
  unfold sUnp
  rw [q_bind]
  cases f r st with
  | ok x st' =>
    dsimp only
    rw [q_bind]
    cases unpack is.length x <;> rfl
  | err c x st' => rfl
  | bad => rfl
end
@[simp] theorem q_vCons0 (i : Nat) (x : Option SV) (r : Env) (st : St) : eVar (i + 1) (x :: r) st = eVar i r st := rfl
@[simp] theorem q_vZero (x : D) (r : Env) (st : St) : eVar 0 (some (.d x) :: r) st = .ok x st := rfl
@[simp] theorem q_hCons0 (i : Nat) (x : Option SV) (r : Env) (st : St) : hVar (i + 1) (x :: r) st = hVar i r st := rfl
@[simp] theorem q_hZero (x : D) (r : Env) (st : St) : hVar 0 (some (.d x) :: r) st = .ok x st := rfl
@[simp] theorem q_hOwn (x : List D) (r : Env) (st : St) : hVar 0 (some (.own x) :: r) st = .ok (.lst x) st := rfl
@[simp] theorem toB_bl (b : Bool) : D.toB (.bl b) = some b := rfl

@[simp] theorem q_leI (i j : Int) : oLe (.int i) (.int j) = some (.bl (decide (i ≤ j))) := rfl
@[simp] theorem q_ltI (i j : Int) : oLt (.int i) (.int j) = some (.bl (decide (i < j))) := rfl
@[simp] theorem q_gtI (i j : Int) : oGt (.int i) (.int j) = some (.bl (decide (j < i))) := rfl
@[simp] theorem q_geI (i j : Int) : oGe (.int i) (.int j) = some (.bl (decide (j ≤ i))) := rfl
@[simp] theorem q_eqI (i j : Int) : oEqX (.int i) (.int j) = some (.bl (i == j)) := rfl
@[simp] theorem q_neI (i j : Int) : oNeX (.int i) (.int j) = some (.bl (!(i == j))) := rfl
@[simp] theorem q_eqS (a b : Str) : oEqX (.str a) (.str b) = some (.bl (a == b)) := rfl
@[simp] theorem q_neS (a b : Str) : oNeX (.str a) (.str b) = some (.bl (!(a == b))) := rfl
@[simp] theorem q_eqT0 (xs : List D) : oEqX (.tup xs) (.tup []) = some (.bl xs.isEmpty) := by cases xs <;> rfl
@[simp] theorem q_eqL0 (xs : List D) : oEqX (.lst xs) (.lst []) = some (.bl xs.isEmpty) := by cases xs <;> rfl
@[simp] theorem q_neL0 (xs : List D) : oNeX (.lst xs) (.lst []) = some (.bl (!xs.isEmpty)) := by cases xs <;> rfl
@[simp] theorem q_is (x : D) : oIs x .non = some (.bl x.isNon) := rfl
@[simp] theorem q_isNot (x : D) : oIsNot x .non = some (.bl (!x.isNon)) := rfl
@[simp] theorem q_addI (i j : Int) : oAdd (.int i) (.int j) = some (.int (i + j)) := rfl
@[simp] theorem q_subI (i j : Int) : oSub (.int i) (.int j) = some (.int (i - j)) := rfl
theorem q_mulI {i j : Int} (h : smallI i = true ∨ smallI j = true) : oMulX (.int i) (.int j) = some (.int (i * j)) := by
  have e : (smallI i || smallI j) = true := Bool.or_eq_true_iff.mpr h
  show (match smallI i || smallI j with
    | true => some (D.int (i * j))
    | false => none) = _
  rw [e]
theorem q_modI {i j : Int} (h : 0 < j) : oMod (.int i) (.int j) = some (.int (i % j)) := by
  show (match decide (0 < j) with
    | true => some (D.int (i % j))
    | false => none) = _
  rw [decide_eq_true h]
theorem q_fdivI {i j : Int} (h : 0 < j) (h2 : j < 1073741824) : oFdiv (.int i) (.int j) = some (.int (i / j)) := by
  show (match decide (0 < j) && decide (j < 1073741824) with
    | true => some (D.int (i / j))
    | false => none) = _
  rw [decide_eq_true h, decide_eq_true h2]
  rfl
theorem q_ixL {xs : List D} {n : Nat} (h : n < xs.length) : oIx (.lst xs) (.int n) = some xs[n] := by
  show (place xs.length n).bind (fun j => xs[j]?) = _
  unfold place
  rw [decide_eq_true (by omega), decide_eq_true (by omega)]
  simp [h]
@[simp] theorem q_lenT (xs : List D) : oLen [.tup xs] = some (.int xs.length) := rfl
@[simp] theorem q_lenL (xs : List D) : oLen [.lst xs] = some (.int xs.length) := rfl
@[simp] theorem q_lenK (xs : List D) : oLen [.kls xs] = some (.int xs.length) := rfl
@[simp] theorem q_isB_non (b : Bool) : D.isNon (.bl b) = false := rfl

@[simp] theorem forL_nil (b : D → Env → Option Env) (g : Stm) (r : Env) (st : St) : forL b g [] r st = .ok (.nx r) st := rfl
def loopR (b : D → Env → Option Env) (g : Stm) (xs : List D) : Res Fl → Res Fl
  | .ok (.nx r) st => forL b g xs r st
  | .ok (.ct r) st => forL b g xs r st
  | .ok (.brk r) st => .ok (.nx r) st
  | .ok (.ret v) st => .ok (.ret v) st
  | .err c x st => .err c x st
  | .bad => .bad
@[simp] theorem loopR_nx (b : D → Env → Option Env) (g : Stm) (xs : List D) (r : Env) (st : St) : loopR b g xs (.ok (.nx r) st) = forL b g xs r st := rfl
@[simp] theorem loopR_ret (b : D → Env → Option Env) (g : Stm) (xs : List D) (x : D) (st : St) : loopR b g xs (.ok (.ret x) st) = .ok (.ret x) st := rfl
@[simp] theorem loopR_err (b : D → Env → Option Env) (g : Stm) (xs : List D) (c : Nat) (x : D) (st : St) : loopR b g xs (.err c x st) = .err c x st := rfl
theorem forL_cons {b : D → Env → Option Env} {g : Stm} {x : D} {xs : List D} {r r1 : Env} {st : St} (h : b x r = some r1) : forL b g (x :: xs) r st = loopR b g xs (g r1 st) := by
  show (Mo.opt (b x r) >>= fun r1 => g r1 >>= fun fl => match fl with
    | .nx r2 => forL b g xs r2
    | .ct r2 => forL b g xs r2
    | .brk r2 => pure (.nx r2)
    | .ret v => pure (.ret v)) st = _
  rw [h, q_bind, q_some]
  dsimp only
  rw [q_bind]
  cases g r1 st with
  | ok x st' => cases x <;> rfl
  | err c x st' => rfl
  | bad => rfl
theorem forL_all {b : D → Env → Option Env} {g : Stm} {I : Nat → Env → St → Prop} : ∀ (xs : List D) (r : Env) (st : St) (n : Nat), I n r st →
    (∀ k x r st, xs[k]? = some x → I (n + k) r st → ∃ r1 r2 st2, b x r = some r1 ∧ g r1 st = .ok (.nx r2) st2 ∧ I (n + k + 1) r2 st2) →
    ∃ r2 st2, forL b g xs r st = .ok (.nx r2) st2 ∧ I (n + xs.length) r2 st2
  | [], r, st, n, i, _ => ⟨r, st, rfl, i⟩
  | x :: xs, r, st, n, i, h => by
    obtain ⟨r1, r2, st2, h1, h2, h3⟩ := h 0 x r st rfl i
    obtain ⟨r3, st3, h4, h5⟩ := forL_all (b := b) (g := g) (I := I) xs r2 st2 (n + 1) h3 fun k y r st e i => by
      have := h (k + 1) y r st (by simpa using e) (by rw [show n + (k + 1) = n + 1 + k by omega]; exact i)
      rw [show n + (k + 1) + 1 = n + 1 + k + 1 by omega] at this
      exact this
    refine ⟨r3, st3, ?_, by rw [List.length_cons, show n + (xs.length + 1) = n + 1 + xs.length by omega]; exact h5⟩
    rw [forL_cons h1, h2, loopR_nx, h4]
theorem lcL_pure {b : D → Env → Option Env} {c : Env → Mo Bool} {e : Env → Mo D} {r : Env} {st : St} {p : D → Bool} {F : D → D} : ∀ xs : List D,
    (∀ x ∈ xs, ∃ r1, b x r = some r1 ∧ c r1 st = .ok (p x) st ∧ (p x = true → e r1 st = .ok (F x) st)) → lcL b c e r xs st = .ok ((xs.filter p).map F) st
  | [], _ => rfl
  | x :: xs, h => by
    obtain ⟨r1, h1, h2, h3⟩ := h x (List.mem_cons_self ..)
    have ih := lcL_pure (b := b) (c := c) (e := e) (r := r) (st := st) (p := p) (F := F) xs fun y hy => h y (List.mem_cons_of_mem _ hy)
    show (Mo.opt (b x r) >>= fun r1 => nx (c r1) >>= fun k => match k with
      | true => nx (e r1) >>= fun y => lcL b c e r xs >>= fun ys => pure (y :: ys)
      | false => lcL b c e r xs) st = _
    rw [h1, q_bind, q_some]
    dsimp only
    rw [q_bind]
    have z : nx (c r1) st = .ok (p x) st := by
      unfold nx
      rw [h2]
    rw [z]
    dsimp only
    cases q : p x with
    | true =>
      have z2 : nx (e r1) st = .ok (F x) st := by
        unfold nx
        rw [h3 q]
      dsimp only
      rw [q_bind, z2]
      dsimp only
      rw [q_bind, ih, List.filter_cons_of_pos q]
      rfl
    | false =>
      dsimp only
      rw [ih, List.filter_cons_of_neg (by rw [q]; decide)]
end Pi
namespace Pi
open PySem PySem.Spec PyProof.Rows L2 LamX
section
variable {P : Program} {w : World} {K : PySem.W.Frag} {mg : Str → Option Value} {base : Heap} {f : Addr} {cd : Value} {A : Around} {outer : List PySem.Env} {s : Shared} {H : Hp} {E : XK}
theorem b_is_integer (hb : Blt mg) (ns : NoSys K) (ok : COk (dcx P w K mg base n_is_integer "is_integer" (defScope (top 18)) f cd A outer s H E)) (rm : Room 0 (dcx P w K mg base n_is_integer "is_integer" (defScope (top 18)) f cd A outer s H E).A) : PBl (GK K) (dcx P w K mg base n_is_integer "is_integer" (defScope (top 18)) f cd A outer s H E) E H (defBody (top 18)) g_is_integer := by
  have nd := nd_is_integer
  have hu : (dcx P w K mg base n_is_integer "is_integer" (defScope (top 18)) f cd A outer s H E).A.units + 1 < cLine := by have := ok.un; omega
  refine pbl_one ?_
  refine pst_ret ?_
  refine pd_and ?_ ?_
  · refine pd_isB .int ?_ rfl hb.isinstance rfl hb.int rfl
    exact ph_var
  · refine pd_one ?_
    refine pd_not ?_
    refine pd_isB .bool ?_ rfl hb.isinstance rfl hb.bool rfl
    exact ph_var
end
end Pi
namespace Pi
open PySem PySem.Spec PyProof.Rows L2 LamX
section
variable {P : Program} {w : World} {K : PySem.W.Frag} {mg : Str → Option Value} {base : Heap} {f : Addr} {cd : Value} {A : Around} {outer : List PySem.Env} {s : Shared} {H : Hp} {E : XK}
theorem b_is_integer_in (hb : Blt mg) (ns : NoSys K) (ok : COk (dcx P w K mg base n_is_integer_in "is_integer_in" (defScope (top 19)) f cd A outer s H E)) (rm : Room 1 (dcx P w K mg base n_is_integer_in "is_integer_in" (defScope (top 19)) f cd A outer s H E).A) (f_is_integer : FK (GK K) P w K mg base "is_integer" 1 m_is_integer 1) : PBl (GK K) (dcx P w K mg base n_is_integer_in "is_integer_in" (defScope (top 19)) f cd A outer s H E) E H (defBody (top 19)) g_is_integer_in := by
  have nd := nd_is_integer_in
  have hu : (dcx P w K mg base n_is_integer_in "is_integer_in" (defScope (top 19)) f cd A outer s H E).A.units + 1 < cLine := by have := ok.un; omega
  refine pbl_one ?_
  refine pst_ret ?_
  refine pd_and ?_ ?_
  · refine pd_call (n := 1) (f_is_integer.kn (rm.mono (by decide))) ok.gd (takes_of rfl rfl rfl rfl) rfl ((acons_len anil_len)) ?_
    refine pl_cons ?_ ?_
    · exact pd_var
    · exact pl_nil
  · refine pd_one ?_
    refine pd_chain (bin_le ok) (bin_le ok) ?_ ?_ ?_
    · exact ph_var
    · exact ph_var
    · exact ph_var
end
end Pi
namespace Pi
open PySem PySem.Spec PyProof.Rows L2 LamX
section
variable {P : Program} {w : World} {K : PySem.W.Frag} {mg : Str → Option Value} {base : Heap} {f : Addr} {cd : Value} {A : Around} {outer : List PySem.Env} {s : Shared} {H : Hp} {E : XK}
theorem b_is_prime (hb : Blt mg) (ns : NoSys K) (ok : COk (dcx P w K mg base n_is_prime "is_prime" (defScope (top 20)) f cd A outer s H E)) (rm : Room 1 (dcx P w K mg base n_is_prime "is_prime" (defScope (top 20)) f cd A outer s H E).A) (c_PRIMES : GlC K mg "PRIMES" cPRIMES) (f_is_integer : FK (GK K) P w K mg base "is_integer" 1 m_is_integer 1) : PBl (GK K) (dcx P w K mg base n_is_prime "is_prime" (defScope (top 20)) f cd A outer s H E) E H (defBody (top 20)) g_is_prime := by
  have nd := nd_is_prime
  have hu : (dcx P w K mg base n_is_prime "is_prime" (defScope (top 20)) f cd A outer s H E).A.units + 1 < cLine := by have := ok.un; omega
  refine pbl_one ?_
  refine pst_ret ?_
  refine pd_and ?_ ?_
  · refine pd_call (n := 1) (f_is_integer.kn (rm.mono (by decide))) ok.gd (takes_of rfl rfl rfl rfl) rfl ((acons_len anil_len)) ?_
    refine pl_cons ?_ ?_
    · exact pd_var
    · exact pl_nil
  · refine pd_one ?_
    refine pd_cmp (bin_in ok ns) ?_ ?_
    · exact ph_var
    · refine PD.toH ?_
      exact pd_glo ⟨c_PRIMES.ex⟩ rfl
end
end Pi
namespace Pi
open PySem PySem.Spec PyProof.Rows L2 LamX
section
variable {P : Program} {w : World} {K : PySem.W.Frag} {mg : Str → Option Value} {base : Heap} {f : Addr} {cd : Value} {A : Around} {outer : List PySem.Env} {s : Shared} {H : Hp} {E : XK}
theorem b_is_tuple_of (hb : Blt mg) (ns : NoSys K) (ok : COk (dcx P w K mg base n_is_tuple_of "is_tuple_of" (defScope (top 21)) f cd A outer s H E)) (rm : Room 0 (dcx P w K mg base n_is_tuple_of "is_tuple_of" (defScope (top 21)) f cd A outer s H E).A) : PBl (GK K) (dcx P w K mg base n_is_tuple_of "is_tuple_of" (defScope (top 21)) f cd A outer s H E) E H (defBody (top 21)) g_is_tuple_of := by
  have nd := nd_is_tuple_of
  have hu : (dcx P w K mg base n_is_tuple_of "is_tuple_of" (defScope (top 21)) f cd A outer s H E).A.units + 1 < cLine := by have := ok.un; omega
  refine pbl_one ?_
  refine pst_ret ?_
  refine pd_and ?_ ?_
  · refine pd_isB .tuple ?_ rfl hb.isinstance rfl hb.tuple rfl
    exact ph_var
  · refine pd_one ?_
    refine pd_cmp (bin_eqX ok ns) ?_ ?_
    · refine PD.toH ?_
      refine pd_blt call_lenX cal_len rfl hb.len rfl ?_
      refine plh_cons ?_ ?_
      · exact ph_var
      · exact plh_nil
    · exact ph_var
end
end Pi
namespace Pi
open PySem PySem.Spec PyProof.Rows L2 LamX
section
variable {P : Program} {w : World} {K : PySem.W.Frag} {mg : Str → Option Value} {base : Heap} {f : Addr} {cd : Value} {A : Around} {outer : List PySem.Env} {s : Shared} {H : Hp} {E : XK}
theorem b_are_rests (hb : Blt mg) (ns : NoSys K) (ok : COk (dcx P w K mg base n_are_rests "are_rests" (defScope (top 22)) f cd A outer s H E)) (rm : Room 2 (dcx P w K mg base n_are_rests "are_rests" (defScope (top 22)) f cd A outer s H E).A) (f_is_integer_in : FK (GK K) P w K mg base "is_integer_in" 3 m_is_integer_in 2) (f_is_tuple_of : FK (GK K) P w K mg base "is_tuple_of" 2 m_is_tuple_of 1) : PBl (GK K) (dcx P w K mg base n_are_rests "are_rests" (defScope (top 22)) f cd A outer s H E) E H (defBody (top 22)) g_are_rests := by
  have nd := nd_are_rests
  have hu : (dcx P w K mg base n_are_rests "are_rests" (defScope (top 22)) f cd A outer s H E).A.units + 1 < cLine := by have := ok.un; omega
  refine pbl_one ?_
  refine pst_ret ?_
  refine pd_and ?_ ?_
  · refine pd_call (n := 2) (f_is_tuple_of.kn (rm.mono (by decide))) ok.gd (takes_of rfl rfl rfl rfl) rfl ((acons_len (acons_len anil_len))) ?_
    refine pl_cons ?_ ?_
    · exact pd_var
    · refine pl_cons ?_ ?_
      · exact pd_var
      · exact pl_nil
  · refine pd_one ?_
    refine pd_blt (cr_all rfl) cal_all rfl hb.all rfl ?_
    refine plh_cons ?_ ?_
    · refine PN.toH ?_
      refine pn_lc [("item", 3)] rfl nd ?_ (blkOk_by rfl) tgok_name (fun s0 H1 C cl fp => (pg_name nd rfl (.inl rfl))) (fun s0 H1 C cl fp => ?_) (fun s0 H1 C cl fp => ?_)
      · refine pit_dat ?_
        exact pd_var
      · exact pbs_nil
      · refine pd_call (n := 3) (f_is_integer_in.kn (rm.mono (by decide))) (okb ok).gd L2.takes0 rfl ((acons_len (acons_len (acons_len anil_len)))) ?_
        refine pl_cons ?_ ?_
        · exact pd_var
        · refine pl_cons ?_ ?_
          · exact pd_int
          · refine pl_cons ?_ ?_
            · refine pd_bin bin_sub ?_ ?_
              · exact ph_var
              · refine PD.toH ?_
                exact pd_int
            · exact pl_nil
    · exact plh_nil
end
end Pi
namespace Pi
open PySem PySem.Spec PyProof.Rows L2 LamX
section
variable {P : Program} {w : World} {K : PySem.W.Frag} {mg : Str → Option Value} {base : Heap} {f : Addr} {cd : Value} {A : Around} {outer : List PySem.Env} {s : Shared} {H : Hp} {E : XK}
theorem b_is_ascending (hb : Blt mg) (ns : NoSys K) (ok : COk (dcx P w K mg base n_is_ascending "is_ascending" (defScope (top 24)) f cd A outer s H E)) (rm : Room 0 (dcx P w K mg base n_is_ascending "is_ascending" (defScope (top 24)) f cd A outer s H E).A) : PBl (GK K) (dcx P w K mg base n_is_ascending "is_ascending" (defScope (top 24)) f cd A outer s H E) E H (defBody (top 24)) g_is_ascending := by
  have nd := nd_is_ascending
  have hu : (dcx P w K mg base n_is_ascending "is_ascending" (defScope (top 24)) f cd A outer s H E).A.units + 1 < cLine := by have := ok.un; omega
  refine pbl_one ?_
  refine pst_ret ?_
  refine pd_blt (cr_all rfl) cal_all rfl hb.all rfl ?_
  refine plh_cons ?_ ?_
  · refine PN.toH ?_
    refine pn_lc [("one", 1), ("two", 2)] rfl nd ?_ (blkOk_by rfl) tgok_tup (fun s0 H1 C cl fp => (pg_tupN rfl (pgs_cons (pg_name nd rfl (.inl rfl)) (pgs_cons (pg_name nd rfl (.inl rfl)) pgs_nil)))) (fun s0 H1 C cl fp => ?_) (fun s0 H1 C cl fp => ?_)
    · refine pit_zip rfl hb.zip ?_
      refine pl_cons ?_ ?_
      · exact pd_var
      · refine pl_cons ?_ ?_
        · refine pd_slice ?_ ?_ ?_
          · exact pd_var
          · refine ppt_some ?_
            exact pd_int
          · exact ppt_none
        · exact pl_nil
    · exact pbs_nil
    · refine pd_cmp (bin_lt (okb ok)) ?_ ?_
      · exact ph_var
      · exact ph_var
  · exact plh_nil
end
end Pi
namespace Pi
open PySem PySem.Spec PyProof.Rows L2 LamX
section
variable {P : Program} {w : World} {K : PySem.W.Frag} {mg : Str → Option Value} {base : Heap} {f : Addr} {cd : Value} {A : Around} {outer : List PySem.Env} {s : Shared} {H : Hp} {E : XK}
theorem b_power_of (hb : Blt mg) (ns : NoSys K) (ok : COk (dcx P w K mg base n_power_of "power_of" (defScope (top 26)) f cd A outer s H E)) (rm : Room 0 (dcx P w K mg base n_power_of "power_of" (defScope (top 26)) f cd A outer s H E).A) : PBl (GK K) (dcx P w K mg base n_power_of "power_of" (defScope (top 26)) f cd A outer s H E) E H (defBody (top 26)) g_power_of := by
  have nd := nd_power_of
  have hu : (dcx P w K mg base n_power_of "power_of" (defScope (top 26)) f cd A outer s H E).A.units + 1 < cLine := by have := ok.un; omega
  refine pbl_cons ?_ ?_
  · refine @pst_set _ _ _ _ _ _ _ 2 "result" _ nd ?_ rfl (by first | exact Or.inl rfl | exact Or.inr rfl) ?_ (by first | exact .inl rfl | exact .inr rfl)
    · exact pd_int
    · rfl
  · refine pbl_cons ?_ ?_
    · refine pst_for (passes_of rfl) rfl ?_ (pg_name nd rfl (by first | exact Or.inl rfl | exact Or.inr rfl)) tgok_name ?_
      · refine pit_range1 hb.range ?_
        refine pl_cons ?_ ?_
        · exact pd_var
        · exact pl_nil
      · refine pbl_one ?_
        refine @pst_set _ _ _ _ _ _ _ 2 "result" _ nd ?_ rfl (by first | exact Or.inl rfl | exact Or.inr rfl) ?_ (by first | exact .inl rfl | exact .inr rfl)
        · refine pd_bin bin_mulX ?_ ?_
          · exact ph_var
          · exact ph_var
        · rfl
    · refine pbl_one ?_
      refine pst_ret ?_
      exact pd_var
end
end Pi
namespace Pi
open PySem PySem.Spec PyProof.Rows L2 LamX
section
variable {P : Program} {w : World} {K : PySem.W.Frag} {mg : Str → Option Value} {base : Heap} {f : Addr} {cd : Value} {A : Around} {outer : List PySem.Env} {s : Shared} {H : Hp} {E : XK}
theorem b_need_field (hb : Blt mg) (ns : NoSys K) (ok : COk (dcx P w K mg base n_need_field "need_field" (defScope (top 27)) f cd A outer s H E)) (rm : Room 2 (dcx P w K mg base n_need_field "need_field" (defScope (top 27)) f cd A outer s H E).A) (c_MOST_POINTS_fields : GlC K mg "MOST_POINTS_fields" cMOST_POINTS_fields) (c_MOST_UNKNOWNS : GlC K mg "MOST_UNKNOWNS" cMOST_UNKNOWNS) (f_is_integer_in : FK (GK K) P w K mg base "is_integer_in" 3 m_is_integer_in 2) (f_is_prime : FK (GK K) P w K mg base "is_prime" 1 m_is_prime 2) (f_is_tuple_of : FK (GK K) P w K mg base "is_tuple_of" 2 m_is_tuple_of 1) (f_power_of : FK (GK K) P w K mg base "power_of" 2 m_power_of 1) (x_BadField : XF (GK K) P w K mg base "BadField" eBadField) : PBl (GK K) (dcx P w K mg base n_need_field "need_field" (defScope (top 27)) f cd A outer s H E) E H (defBody (top 27)) g_need_field := by
  have nd := nd_need_field
  have hu : (dcx P w K mg base n_need_field "need_field" (defScope (top 27)) f cd A outer s H E).A.units + 1 < cLine := by have := ok.un; omega
  refine pbl_cons ?_ ?_
  · refine pst_if ?_ ?_ ?_
    · refine pb_not ?_
      refine pb_of ?_
      refine pd_call (n := 2) (f_is_tuple_of.kn (rm.mono (by decide))) ok.gd (takes_of rfl rfl rfl rfl) rfl ((acons_len (acons_len anil_len))) ?_
      refine pl_cons ?_ ?_
      · exact pd_var
      · refine pl_cons ?_ ?_
        · exact pd_int
        · exact pl_nil
    · refine pbl_one ?_
      refine pst_raise rfl (x_BadField.kn (rm.mono (by decide))) (takes_of rfl rfl rfl rfl) rfl ?_
      refine @pd_cst _ _ _ _ _ _ ?_
      kernel_rfl
    · exact pbl_nil
  · refine pbl_cons ?_ ?_
    · refine pst_unp rfl ?_ (pgs_cons (pg_name nd rfl (by first | exact Or.inl rfl | exact Or.inr rfl)) (pgs_cons (pg_name nd rfl (by first | exact Or.inl rfl | exact Or.inr rfl)) pgs_nil))
      exact pd_var
    · refine pbl_cons ?_ ?_
      · refine pst_if ?_ ?_ ?_
        · refine pb_not ?_
          refine pb_of ?_
          refine pd_call (n := 1) (f_is_prime.kn (rm.mono (by decide))) ok.gd (takes_of rfl rfl rfl rfl) rfl ((acons_len anil_len)) ?_
          refine pl_cons ?_ ?_
          · exact pd_var
          · exact pl_nil
        · refine pbl_one ?_
          refine pst_raise rfl (x_BadField.kn (rm.mono (by decide))) (takes_of rfl rfl rfl rfl) rfl ?_
          refine @pd_cst _ _ _ _ _ _ ?_
          kernel_rfl
        · exact pbl_nil
      · refine pbl_cons ?_ ?_
        · refine pst_if ?_ ?_ ?_
          · refine pb_not ?_
            refine pb_of ?_
            refine pd_call (n := 3) (f_is_integer_in.kn (rm.mono (by decide))) ok.gd (takes_of rfl rfl rfl rfl) rfl ((acons_len (acons_len (acons_len anil_len)))) ?_
            refine pl_cons ?_ ?_
            · exact pd_var
            · refine pl_cons ?_ ?_
              · exact pd_int
              · refine pl_cons ?_ ?_
                · exact pd_glo ⟨c_MOST_UNKNOWNS.ex⟩ rfl
                · exact pl_nil
          · refine pbl_one ?_
            refine pst_raise rfl (x_BadField.kn (rm.mono (by decide))) (takes_of rfl rfl rfl rfl) rfl ?_
            refine @pd_cst _ _ _ _ _ _ ?_
            kernel_rfl
          · exact pbl_nil
        · refine pbl_cons ?_ ?_
          · refine pst_if ?_ ?_ ?_
            · refine pb_cmp (bin_gt ok) ?_ ?_
              · refine PD.toH ?_
                refine pd_call (n := 2) (f_power_of.kn (rm.mono (by decide))) ok.gd (takes_of rfl rfl rfl rfl) rfl ((acons_len (acons_len anil_len))) ?_
                refine pl_cons ?_ ?_
                · exact pd_var
                · refine pl_cons ?_ ?_
                  · exact pd_var
                  · exact pl_nil
              · refine PD.toH ?_
                exact pd_glo ⟨c_MOST_POINTS_fields.ex⟩ rfl
            · refine pbl_one ?_
              refine pst_raise rfl (x_BadField.kn (rm.mono (by decide))) (takes_of rfl rfl rfl rfl) rfl ?_
              refine @pd_cst _ _ _ _ _ _ ?_
              kernel_rfl
            · exact pbl_nil
          · refine pbl_one ?_
            refine pst_ret ?_
            exact pd_var
end
end Pi
namespace Pi
open PySem PySem.Spec PyProof.Rows L2 LamX
section
variable {P : Program} {w : World} {K : PySem.W.Frag} {mg : Str → Option Value} {base : Heap} {f : Addr} {cd : Value} {A : Around} {outer : List PySem.Env} {s : Shared} {H : Hp} {E : XK}
theorem b_is_point (hb : Blt mg) (ns : NoSys K) (ok : COk (dcx P w K mg base n_is_point "is_point" (defScope (top 28)) f cd A outer s H E)) (rm : Room 3 (dcx P w K mg base n_is_point "is_point" (defScope (top 28)) f cd A outer s H E).A) (f_are_rests : FK (GK K) P w K mg base "are_rests" 3 m_are_rests 3) : PBl (GK K) (dcx P w K mg base n_is_point "is_point" (defScope (top 28)) f cd A outer s H E) E H (defBody (top 28)) g_is_point := by
  have nd := nd_is_point
  have hu : (dcx P w K mg base n_is_point "is_point" (defScope (top 28)) f cd A outer s H E).A.units + 1 < cLine := by have := ok.un; omega
  refine pbl_cons ?_ ?_
  · refine pst_unp rfl ?_ (pgs_cons (pg_name nd rfl (by first | exact Or.inl rfl | exact Or.inr rfl)) (pgs_cons (pg_name nd rfl (by first | exact Or.inl rfl | exact Or.inr rfl)) pgs_nil))
    exact pd_var
  · refine pbl_one ?_
    refine pst_ret ?_
    refine pd_call (n := 3) (f_are_rests.kn (rm.mono (by decide))) ok.gd (takes_of rfl rfl rfl rfl) rfl ((acons_len (acons_len (acons_len anil_len)))) ?_
    refine pl_cons ?_ ?_
    · exact pd_var
    · refine pl_cons ?_ ?_
      · exact pd_var
      · refine pl_cons ?_ ?_
        · exact pd_var
        · exact pl_nil
end
end Pi
namespace Pi
open PySem PySem.Spec PyProof.Rows L2 LamX
section
variable {P : Program} {w : World} {K : PySem.W.Frag} {mg : Str → Option Value} {base : Heap} {f : Addr} {cd : Value} {A : Around} {outer : List PySem.Env} {s : Shared} {H : Hp} {E : XK}
theorem b_need_point (hb : Blt mg) (ns : NoSys K) (ok : COk (dcx P w K mg base n_need_point "need_point" (defScope (top 29)) f cd A outer s H E)) (rm : Room 4 (dcx P w K mg base n_need_point "need_point" (defScope (top 29)) f cd A outer s H E).A) (f_is_point : FK (GK K) P w K mg base "is_point" 2 m_is_point 4) (f_need_field : FK (GK K) P w K mg base "need_field" 1 m_need_field 3) (x_BadPoint : XF (GK K) P w K mg base "BadPoint" eBadPoint) : PBl (GK K) (dcx P w K mg base n_need_point "need_point" (defScope (top 29)) f cd A outer s H E) E H (defBody (top 29)) g_need_point := by
  have nd := nd_need_point
  have hu : (dcx P w K mg base n_need_point "need_point" (defScope (top 29)) f cd A outer s H E).A.units + 1 < cLine := by have := ok.un; omega
  refine pbl_cons ?_ ?_
  · refine pst_if ?_ ?_ ?_
    · refine pb_not ?_
      refine pb_of ?_
      refine pd_call (n := 2) (f_is_point.kn (rm.mono (by decide))) ok.gd (takes_of rfl rfl rfl rfl) rfl ((acons_len (acons_len anil_len))) ?_
      refine pl_cons ?_ ?_
      · refine pd_call (n := 1) (f_need_field.kn (rm.mono (by decide))) ok.gd (takes_of rfl rfl rfl rfl) rfl ((acons_len anil_len)) ?_
        refine pl_cons ?_ ?_
        · exact pd_var
        · exact pl_nil
      · refine pl_cons ?_ ?_
        · exact pd_var
        · exact pl_nil
    · refine pbl_one ?_
      refine pst_raise rfl (x_BadPoint.kn (rm.mono (by decide))) (takes_of rfl rfl rfl rfl) rfl ?_
      exact pd_var
    · exact pbl_nil
  · refine pbl_one ?_
    refine pst_ret ?_
    exact pd_var
end
end Pi
namespace Pi
open PySem PySem.Spec PyProof.Rows L2 LamX
section
variable {P : Program} {w : World} {K : PySem.W.Frag} {mg : Str → Option Value} {base : Heap} {f : Addr} {cd : Value} {A : Around} {outer : List PySem.Env} {s : Shared} {H : Hp} {E : XK}
theorem b_points (hb : Blt mg) (ns : NoSys K) (ok : COk (dcx P w K mg base n_points "points" (defScope (top 30)) f cd A outer s H E)) (rm : Room 3 (dcx P w K mg base n_points "points" (defScope (top 30)) f cd A outer s H E).A) (f_need_field : FK (GK K) P w K mg base "need_field" 1 m_need_field 3) : PBl (GK K) (dcx P w K mg base n_points "points" (defScope (top 30)) f cd A outer s H E) E H (defBody (top 30)) g_points := by
  have nd := nd_points
  have hu : (dcx P w K mg base n_points "points" (defScope (top 30)) f cd A outer s H E).A.units + 1 < cLine := by have := ok.un; omega
  refine pbl_cons ?_ ?_
  · refine pst_unp rfl ?_ (pgs_cons (pg_name nd rfl (by first | exact Or.inl rfl | exact Or.inr rfl)) (pgs_cons (pg_name nd rfl (by first | exact Or.inl rfl | exact Or.inr rfl)) pgs_nil))
    refine pd_call (n := 1) (f_need_field.kn (rm.mono (by decide))) ok.gd (takes_of rfl rfl rfl rfl) rfl ((acons_len anil_len)) ?_
    refine pl_cons ?_ ?_
    · exact pd_var
    · exact pl_nil
  · refine pbl_cons ?_ ?_
    · refine @pst_set _ _ _ _ _ _ _ 1 "begun" _ nd ?_ rfl (by first | exact Or.inl rfl | exact Or.inr rfl) ?_ (by first | exact .inl rfl | exact .inr rfl)
      · refine @pd_cst _ _ _ _ _ _ ?_
        kernel_rfl
      · rfl
    · refine pbl_cons ?_ ?_
      · refine pst_for (passes_of rfl) rfl ?_ (pg_name nd rfl (by first | exact Or.inl rfl | exact Or.inr rfl)) tgok_name ?_
        · refine pit_range1 hb.range ?_
          refine pl_cons ?_ ?_
          · exact pd_var
          · exact pl_nil
        · refine pbl_one ?_
          refine pst_setLc2 (vs1 := [6]) [("point", 5), ("item", 6)] rfl nd ?_ (blkOk_by rfl) tgok_name tgok_name (fun s0 H1 C cl fp => (pg_name nd rfl (.inl rfl))) (fun s0 H1 C cl fp => (pg_name nd rfl (.inl rfl))) (fun s0 H1 C cl fp => ?_) (fun s0 H1 C cl fp => ?_) (fun s0 H1 C cl fp => ?_) (fun s0 H1 C cl fp => ?_)
          · refine pit_dat ?_
            exact pd_var
          · exact pbs_nil
          · refine pit_range1 hb.range ?_
            refine pl_cons ?_ ?_
            · exact pd_var
            · exact pl_nil
          · exact pbs_nil
          · refine pd_bin bin_add ?_ ?_
            · exact ph_var
            · refine PD.toH ?_
              refine pd_tup ?_
              refine pl_cons ?_ ?_
              · exact pd_var
              · exact pl_nil
      · refine pbl_one ?_
        refine pst_ret ?_
        refine pd_bty call_tuple_of cal_tuple rfl hb.tuple rfl ?_
        refine plh_cons ?_ ?_
        · exact ph_var
        · exact plh_nil
end
end Pi
namespace Pi
open PySem PySem.Spec PyProof.Rows L2 LamX
section
variable {P : Program} {w : World} {K : PySem.W.Frag} {mg : Str → Option Value} {base : Heap} {f : Addr} {cd : Value} {A : Around} {outer : List PySem.Env} {s : Shared} {H : Hp} {E : XK}
theorem b__are_powers (hb : Blt mg) (ns : NoSys K) (ok : COk (dcx P w K mg base n__are_powers "_are_powers" (defScope (top 34)) f cd A outer s H E)) (rm : Room 2 (dcx P w K mg base n__are_powers "_are_powers" (defScope (top 34)) f cd A outer s H E).A) (c_MOST_POWER : GlC K mg "MOST_POWER" cMOST_POWER) (f_is_integer_in : FK (GK K) P w K mg base "is_integer_in" 3 m_is_integer_in 2) (f_is_tuple_of : FK (GK K) P w K mg base "is_tuple_of" 2 m_is_tuple_of 1) : PBl (GK K) (dcx P w K mg base n__are_powers "_are_powers" (defScope (top 34)) f cd A outer s H E) E H (defBody (top 34)) g__are_powers := by
  have nd := nd__are_powers
  have hu : (dcx P w K mg base n__are_powers "_are_powers" (defScope (top 34)) f cd A outer s H E).A.units + 1 < cLine := by have := ok.un; omega
  refine pbl_one ?_
  refine pst_ret ?_
  refine pd_and ?_ ?_
  · refine pd_call (n := 2) (f_is_tuple_of.kn (rm.mono (by decide))) ok.gd (takes_of rfl rfl rfl rfl) rfl ((acons_len (acons_len anil_len))) ?_
    refine pl_cons ?_ ?_
    · exact pd_var
    · refine pl_cons ?_ ?_
      · exact pd_var
      · exact pl_nil
  · refine pd_one ?_
    refine pd_blt (cr_all rfl) cal_all rfl hb.all rfl ?_
    refine plh_cons ?_ ?_
    · refine PN.toH ?_
      refine pn_lc [("power", 2)] rfl nd ?_ (blkOk_by rfl) tgok_name (fun s0 H1 C cl fp => (pg_name nd rfl (.inl rfl))) (fun s0 H1 C cl fp => ?_) (fun s0 H1 C cl fp => ?_)
      · refine pit_dat ?_
        exact pd_var
      · exact pbs_nil
      · refine pd_call (n := 3) (f_is_integer_in.kn (rm.mono (by decide))) (okb ok).gd L2.takes0 rfl ((acons_len (acons_len (acons_len anil_len)))) ?_
        refine pl_cons ?_ ?_
        · exact pd_var
        · refine pl_cons ?_ ?_
          · exact pd_int
          · refine pl_cons ?_ ?_
            · exact pd_glo ⟨c_MOST_POWER.ex⟩ rfl
            · exact pl_nil
    · exact plh_nil
end
end Pi
namespace Pi
open PySem PySem.Spec PyProof.Rows L2 LamX
section
variable {P : Program} {w : World} {K : PySem.W.Frag} {mg : Str → Option Value} {base : Heap} {f : Addr} {cd : Value} {A : Around} {outer : List PySem.Env} {s : Shared} {H : Hp} {E : XK}
theorem b__is_term (hb : Blt mg) (ns : NoSys K) (ok : COk (dcx P w K mg base n__is_term "_is_term" (defScope (top 35)) f cd A outer s H E)) (rm : Room 3 (dcx P w K mg base n__is_term "_is_term" (defScope (top 35)) f cd A outer s H E).A) (f__are_powers : FK (GK K) P w K mg base "_are_powers" 2 m__are_powers 3) (f_is_integer_in : FK (GK K) P w K mg base "is_integer_in" 3 m_is_integer_in 2) (f_is_tuple_of : FK (GK K) P w K mg base "is_tuple_of" 2 m_is_tuple_of 1) : PBl (GK K) (dcx P w K mg base n__is_term "_is_term" (defScope (top 35)) f cd A outer s H E) E H (defBody (top 35)) g__is_term := by
  have nd := nd__is_term
  have hu : (dcx P w K mg base n__is_term "_is_term" (defScope (top 35)) f cd A outer s H E).A.units + 1 < cLine := by have := ok.un; omega
  refine pbl_cons ?_ ?_
  · refine pst_unp rfl ?_ (pgs_cons (pg_name nd rfl (by first | exact Or.inl rfl | exact Or.inr rfl)) (pgs_cons (pg_name nd rfl (by first | exact Or.inl rfl | exact Or.inr rfl)) pgs_nil))
    exact pd_var
  · refine pbl_cons ?_ ?_
    · refine pst_if ?_ ?_ ?_
      · refine pb_not ?_
        refine pb_of ?_
        refine pd_call (n := 2) (f_is_tuple_of.kn (rm.mono (by decide))) ok.gd (takes_of rfl rfl rfl rfl) rfl ((acons_len (acons_len anil_len))) ?_
        refine pl_cons ?_ ?_
        · exact pd_var
        · refine pl_cons ?_ ?_
          · exact pd_int
          · exact pl_nil
      · refine pbl_one ?_
        refine pst_ret ?_
        exact pd_bl
      · exact pbl_nil
    · refine pbl_cons ?_ ?_
      · refine pst_unp rfl ?_ (pgs_cons (pg_name nd rfl (by first | exact Or.inl rfl | exact Or.inr rfl)) (pgs_cons (pg_name nd rfl (by first | exact Or.inl rfl | exact Or.inr rfl)) pgs_nil))
        exact pd_var
      · refine pbl_one ?_
        refine pst_ret ?_
        refine pd_and ?_ ?_
        · refine pd_call (n := 2) (f__are_powers.kn (rm.mono (by decide))) ok.gd (takes_of rfl rfl rfl rfl) rfl ((acons_len (acons_len anil_len))) ?_
          refine pl_cons ?_ ?_
          · exact pd_var
          · refine pl_cons ?_ ?_
            · exact pd_var
            · exact pl_nil
        · refine pd_one ?_
          refine pd_call (n := 3) (f_is_integer_in.kn (rm.mono (by decide))) ok.gd (takes_of rfl rfl rfl rfl) rfl ((acons_len (acons_len (acons_len anil_len)))) ?_
          refine pl_cons ?_ ?_
          · exact pd_var
          · refine pl_cons ?_ ?_
            · exact pd_int
            · refine pl_cons ?_ ?_
              · refine pd_bin bin_sub ?_ ?_
                · exact ph_var
                · refine PD.toH ?_
                  exact pd_int
              · exact pl_nil
end
end Pi
namespace Pi
open PySem PySem.Spec PyProof.Rows L2 LamX
section
variable {P : Program} {w : World} {K : PySem.W.Frag} {mg : Str → Option Value} {base : Heap} {f : Addr} {cd : Value} {A : Around} {outer : List PySem.Env} {s : Shared} {H : Hp} {E : XK}
theorem b_poly_fault (hb : Blt mg) (ns : NoSys K) (ok : COk (dcx P w K mg base n_poly_fault "poly_fault" (defScope (top 36)) f cd A outer s H E)) (rm : Room 4 (dcx P w K mg base n_poly_fault "poly_fault" (defScope (top 36)) f cd A outer s H E).A) (c_MOST_TERMS : GlC K mg "MOST_TERMS" cMOST_TERMS) (f__is_term : FK (GK K) P w K mg base "_is_term" 2 m__is_term 4) : PBl (GK K) (dcx P w K mg base n_poly_fault "poly_fault" (defScope (top 36)) f cd A outer s H E) E H (defBody (top 36)) g_poly_fault := by
  have nd := nd_poly_fault
  have hu : (dcx P w K mg base n_poly_fault "poly_fault" (defScope (top 36)) f cd A outer s H E).A.units + 1 < cLine := by have := ok.un; omega
  refine pbl_cons ?_ ?_
  · refine pst_if ?_ ?_ ?_
    · refine PBW.pb ?_
      refine pb_or ?_ ?_
      · refine pb_not ?_
        refine pb_of ?_
        refine pd_isB .tuple ?_ rfl hb.isinstance rfl hb.tuple rfl
        exact ph_var
      · refine pb_or1 ?_
        refine pb_cmp (bin_gt ok) ?_ ?_
        · refine PD.toH ?_
          refine pd_blt call_lenX cal_len rfl hb.len rfl ?_
          refine plh_cons ?_ ?_
          · exact ph_var
          · exact plh_nil
        · refine PD.toH ?_
          exact pd_glo ⟨c_MOST_TERMS.ex⟩ rfl
    · refine pbl_one ?_
      refine pst_ret ?_
      refine @pd_cst _ _ _ _ _ _ ?_
      kernel_rfl
    · exact pbl_nil
  · refine pbl_cons ?_ ?_
    · refine @pst_set _ _ _ _ _ _ _ 2 "ahead" _ nd ?_ rfl (by first | exact Or.inl rfl | exact Or.inr rfl) ?_ (by first | exact .inl rfl | exact .inr rfl)
      · refine @pd_cst _ _ _ _ _ _ ?_
        kernel_rfl
      · rfl
    · refine pbl_cons ?_ ?_
      · refine pst_for (passes_of rfl) rfl ?_ (pg_tupN rfl (pgs_cons (pg_name nd rfl (by first | exact Or.inl rfl | exact Or.inr rfl)) (pgs_cons (pg_name nd rfl (by first | exact Or.inl rfl | exact Or.inr rfl)) pgs_nil))) tgok_tup ?_
        · refine pit_enumT rfl hb.enumerate ?_
          refine pl_cons ?_ ?_
          · exact pd_var
          · exact pl_nil
        · refine pbl_cons ?_ ?_
          · refine pst_if ?_ ?_ ?_
            · refine PBW.pb ?_
              refine pb_or ?_ ?_
              · refine pb_not ?_
                refine pb_of ?_
                refine pd_call (n := 2) (f__is_term.kn (rm.mono (by decide))) ok.gd (takes_of rfl rfl rfl rfl) rfl ((acons_len (acons_len anil_len))) ?_
                refine pl_cons ?_ ?_
                · exact pd_var
                · refine pl_cons ?_ ?_
                  · exact pd_var
                  · exact pl_nil
              · refine pb_or1 ?_
                refine pb_cmp (bin_le ok) ?_ ?_
                · refine PD.toH ?_
                  refine pd_ix ?_ ?_
                  · exact ph_var
                  · refine PD.toH ?_
                    exact pd_int
                · exact ph_var
            · refine pbl_one ?_
              refine pst_ret ?_
              refine pd_tup ?_
              refine pl_cons ?_ ?_
              · exact pd_var
              · exact pl_nil
            · exact pbl_nil
          · refine pbl_one ?_
            refine @pst_set _ _ _ _ _ _ _ 2 "ahead" _ nd ?_ rfl (by first | exact Or.inl rfl | exact Or.inr rfl) ?_ (by first | exact .inl rfl | exact .inr rfl)
            · refine pd_ix ?_ ?_
              · exact ph_var
              · refine PD.toH ?_
                exact pd_int
            · rfl
      · refine pbl_one ?_
        refine pst_ret ?_
        exact pd_non
end
end Pi
namespace Pi
open PySem PySem.Spec PyProof.Rows L2 LamX
section
variable {P : Program} {w : World} {K : PySem.W.Frag} {mg : Str → Option Value} {base : Heap} {f : Addr} {cd : Value} {A : Around} {outer : List PySem.Env} {s : Shared} {H : Hp} {E : XK}
theorem b_need_poly (hb : Blt mg) (ns : NoSys K) (ok : COk (dcx P w K mg base n_need_poly "need_poly" (defScope (top 37)) f cd A outer s H E)) (rm : Room 5 (dcx P w K mg base n_need_poly "need_poly" (defScope (top 37)) f cd A outer s H E).A) (f_need_field : FK (GK K) P w K mg base "need_field" 1 m_need_field 3) (f_poly_fault : FK (GK K) P w K mg base "poly_fault" 2 m_poly_fault 5) (x_BadPoly : XF (GK K) P w K mg base "BadPoly" eBadPoly) : PBl (GK K) (dcx P w K mg base n_need_poly "need_poly" (defScope (top 37)) f cd A outer s H E) E H (defBody (top 37)) g_need_poly := by
  have nd := nd_need_poly
  have hu : (dcx P w K mg base n_need_poly "need_poly" (defScope (top 37)) f cd A outer s H E).A.units + 1 < cLine := by have := ok.un; omega
  refine pbl_cons ?_ ?_
  · refine @pst_set _ _ _ _ _ _ _ 2 "place" _ nd ?_ rfl (by first | exact Or.inl rfl | exact Or.inr rfl) ?_ (by first | exact .inl rfl | exact .inr rfl)
    · refine pd_call (n := 2) (f_poly_fault.kn (rm.mono (by decide))) ok.gd (takes_of rfl rfl rfl rfl) rfl ((acons_len (acons_len anil_len))) ?_
      refine pl_cons ?_ ?_
      · refine pd_call (n := 1) (f_need_field.kn (rm.mono (by decide))) ok.gd (takes_of rfl rfl rfl rfl) rfl ((acons_len anil_len)) ?_
        refine pl_cons ?_ ?_
        · exact pd_var
        · exact pl_nil
      · refine pl_cons ?_ ?_
        · exact pd_var
        · exact pl_nil
    · rfl
  · refine pbl_cons ?_ ?_
    · refine pst_if ?_ ?_ ?_
      · refine pb_cmp bin_isNot ?_ ?_
        · exact ph_var
        · refine PD.toH ?_
          exact pd_non
      · refine pbl_one ?_
        refine pst_raise rfl (x_BadPoly.kn (rm.mono (by decide))) (takes_of rfl rfl rfl rfl) rfl ?_
        exact pd_var
      · exact pbl_nil
    · refine pbl_one ?_
      refine pst_ret ?_
      exact pd_var
end
end Pi
namespace Pi
open PySem PySem.Spec PyProof.Rows L2 LamX
section
variable {P : Program} {w : World} {K : PySem.W.Frag} {mg : Str → Option Value} {base : Heap} {f : Addr} {cd : Value} {A : Around} {outer : List PySem.Env} {s : Shared} {H : Hp} {E : XK}
theorem b_value_at (hb : Blt mg) (ns : NoSys K) (ok : COk (dcx P w K mg base n_value_at "value_at" (defScope (top 38)) f cd A outer s H E)) (rm : Room 6 (dcx P w K mg base n_value_at "value_at" (defScope (top 38)) f cd A outer s H E).A) (f_need_point : FK (GK K) P w K mg base "need_point" 2 m_need_point 5) (f_need_poly : FK (GK K) P w K mg base "need_poly" 2 m_need_poly 6) : PBl (GK K) (dcx P w K mg base n_value_at "value_at" (defScope (top 38)) f cd A outer s H E) E H (defBody (top 38)) g_value_at := by
  have nd := nd_value_at
  have hu : (dcx P w K mg base n_value_at "value_at" (defScope (top 38)) f cd A outer s H E).A.units + 1 < cLine := by have := ok.un; omega
  refine pbl_cons ?_ ?_
  · refine pst_expr ?_
    refine pd_call (n := 2) (f_need_poly.kn (rm.mono (by decide))) ok.gd (takes_of rfl rfl rfl rfl) rfl ((acons_len (acons_len anil_len))) ?_
    refine pl_cons ?_ ?_
    · exact pd_var
    · refine pl_cons ?_ ?_
      · exact pd_var
      · exact pl_nil
  · refine pbl_cons ?_ ?_
    · refine pst_expr ?_
      refine pd_call (n := 2) (f_need_point.kn (rm.mono (by decide))) ok.gd (takes_of rfl rfl rfl rfl) rfl ((acons_len (acons_len anil_len))) ?_
      refine pl_cons ?_ ?_
      · exact pd_var
      · refine pl_cons ?_ ?_
        · exact pd_var
        · exact pl_nil
    · exact pbl_bad
end
end Pi
namespace Pi
open PySem PySem.Spec PyProof.Rows L2 LamX
section
variable {P : Program} {w : World} {K : PySem.W.Frag} {mg : Str → Option Value} {base : Heap} {f : Addr} {cd : Value} {A : Around} {outer : List PySem.Env} {s : Shared} {H : Hp} {E : XK}
theorem b__is_lot (hb : Blt mg) (ns : NoSys K) (ok : COk (dcx P w K mg base n__is_lot "_is_lot" (defScope (top 56)) f cd A outer s H E)) (rm : Room 4 (dcx P w K mg base n__is_lot "_is_lot" (defScope (top 56)) f cd A outer s H E).A) (f_is_ascending : FK (GK K) P w K mg base "is_ascending" 1 m_is_ascending 1) (f_is_point : FK (GK K) P w K mg base "is_point" 2 m_is_point 4) : PBl (GK K) (dcx P w K mg base n__is_lot "_is_lot" (defScope (top 56)) f cd A outer s H E) E H (defBody (top 56)) g__is_lot := by
  have nd := nd__is_lot
  have hu : (dcx P w K mg base n__is_lot "_is_lot" (defScope (top 56)) f cd A outer s H E).A.units + 1 < cLine := by have := ok.un; omega
  refine pbl_cons ?_ ?_
  · refine pst_if ?_ ?_ ?_
    · refine PBW.pb ?_
      refine pb_or ?_ ?_
      · refine pb_not ?_
        refine pb_of ?_
        refine pd_isB .tuple ?_ rfl hb.isinstance rfl hb.tuple rfl
        exact ph_var
      · refine pb_or1 ?_
        refine pb_not ?_
        refine pb_of ?_
        refine pd_blt (cr_all rfl) cal_all rfl hb.all rfl ?_
        refine plh_cons ?_ ?_
        · refine PN.toH ?_
          refine pn_lc [("each", 2)] rfl nd ?_ (blkOk_by rfl) tgok_name (fun s0 H1 C cl fp => (pg_name nd rfl (.inl rfl))) (fun s0 H1 C cl fp => ?_) (fun s0 H1 C cl fp => ?_)
          · refine pit_dat ?_
            exact pd_var
          · exact pbs_nil
          · refine pd_call (n := 2) (f_is_point.kn (rm.mono (by decide))) (okb ok).gd L2.takes0 rfl ((acons_len (acons_len anil_len))) ?_
            refine pl_cons ?_ ?_
            · exact pd_var
            · refine pl_cons ?_ ?_
              · exact pd_var
              · exact pl_nil
        · exact plh_nil
    · refine pbl_one ?_
      refine pst_ret ?_
      exact pd_bl
    · exact pbl_nil
  · refine pbl_one ?_
    refine pst_ret ?_
    refine pd_call (n := 1) (f_is_ascending.kn (rm.mono (by decide))) ok.gd (takes_of rfl rfl rfl rfl) rfl ((acons_len anil_len)) ?_
    refine pl_cons ?_ ?_
    · exact pd_var
    · exact pl_nil
end
end Pi
namespace Pi
open PySem PySem.Spec PyProof.Rows L2 LamX
section
variable {P : Program} {w : World} {K : PySem.W.Frag} {mg : Str → Option Value} {base : Heap} {f : Addr} {cd : Value} {A : Around} {outer : List PySem.Env} {s : Shared} {H : Hp} {E : XK}
theorem b__need_lot_and_point (hb : Blt mg) (ns : NoSys K) (ok : COk (dcx P w K mg base n__need_lot_and_point "_need_lot_and_point" (defScope (top 55)) f cd A outer s H E)) (rm : Room 5 (dcx P w K mg base n__need_lot_and_point "_need_lot_and_point" (defScope (top 55)) f cd A outer s H E).A) (c_MOST_POINTS_hidden : GlC K mg "MOST_POINTS_hidden" cMOST_POINTS_hidden) (f__is_lot : FK (GK K) P w K mg base "_is_lot" 2 m__is_lot 5) (f_need_field : FK (GK K) P w K mg base "need_field" 1 m_need_field 3) (f_need_point : FK (GK K) P w K mg base "need_point" 2 m_need_point 5) (f_power_of : FK (GK K) P w K mg base "power_of" 2 m_power_of 1) (x_BadLot : XF (GK K) P w K mg base "BadLot" eBadLot) (x_BadPoint : XF (GK K) P w K mg base "BadPoint" eBadPoint) (x_TooGreat : XFO (GK K) P w K mg base "TooGreat" eTooGreat) : PBl (GK K) (dcx P w K mg base n__need_lot_and_point "_need_lot_and_point" (defScope (top 55)) f cd A outer s H E) E H (defBody (top 55)) g__need_lot_and_point := by
  have nd := nd__need_lot_and_point
  have hu : (dcx P w K mg base n__need_lot_and_point "_need_lot_and_point" (defScope (top 55)) f cd A outer s H E).A.units + 1 < cLine := by have := ok.un; omega
  refine pbl_cons ?_ ?_
  · refine pst_unp rfl ?_ (pgs_cons (pg_name nd rfl (by first | exact Or.inl rfl | exact Or.inr rfl)) (pgs_cons (pg_name nd rfl (by first | exact Or.inl rfl | exact Or.inr rfl)) pgs_nil))
    refine pd_call (n := 1) (f_need_field.kn (rm.mono (by decide))) ok.gd (takes_of rfl rfl rfl rfl) rfl ((acons_len anil_len)) ?_
    refine pl_cons ?_ ?_
    · exact pd_var
    · exact pl_nil
  · refine pbl_cons ?_ ?_
    · refine pst_if ?_ ?_ ?_
      · refine pb_not ?_
        refine pb_of ?_
        refine pd_call (n := 2) (f__is_lot.kn (rm.mono (by decide))) ok.gd (takes_of rfl rfl rfl rfl) rfl ((acons_len (acons_len anil_len))) ?_
        refine pl_cons ?_ ?_
        · exact pd_var
        · refine pl_cons ?_ ?_
          · exact pd_var
          · exact pl_nil
      · refine pbl_one ?_
        refine pst_raise rfl (x_BadLot.kn (rm.mono (by decide))) (takes_of rfl rfl rfl rfl) rfl ?_
        exact pd_var
      · exact pbl_nil
    · refine pbl_cons ?_ ?_
      · refine pst_if ?_ ?_ ?_
        · refine pb_cmp (bin_in ok ns) ?_ ?_
          · refine PD.toH ?_
            refine pd_call (n := 2) (f_need_point.kn (rm.mono (by decide))) ok.gd (takes_of rfl rfl rfl rfl) rfl ((acons_len (acons_len anil_len))) ?_
            refine pl_cons ?_ ?_
            · exact pd_var
            · refine pl_cons ?_ ?_
              · exact pd_var
              · exact pl_nil
          · exact ph_var
        · refine pbl_one ?_
          refine pst_raise rfl (x_BadPoint.kn (rm.mono (by decide))) (takes_of rfl rfl rfl rfl) rfl ?_
          exact pd_var
        · exact pbl_nil
      · refine pbl_one ?_
        refine pst_if ?_ ?_ ?_
        · refine pb_cmp (bin_gt ok) ?_ ?_
          · refine PD.toH ?_
            refine pd_call (n := 2) (f_power_of.kn (rm.mono (by decide))) ok.gd (takes_of rfl rfl rfl rfl) rfl ((acons_len (acons_len anil_len))) ?_
            refine pl_cons ?_ ?_
            · exact pd_var
            · refine pl_cons ?_ ?_
              · exact pd_var
              · exact pl_nil
          · refine PD.toH ?_
            exact pd_glo ⟨c_MOST_POINTS_hidden.ex⟩ rfl
        · refine pbl_one ?_
          refine pst_raiseO rfl (x_TooGreat.kn (rm.mono (by decide))) (takes_of rfl rfl rfl rfl) rfl ?_
          exact pd_glo ⟨c_MOST_POINTS_hidden.ex⟩ rfl
        · exact pbl_nil
end
end Pi
namespace Pi
open PySem PySem.Spec PyProof.Rows L2 LamX
section
variable {P : Program} {w : World} {K : PySem.W.Frag} {mg : Str → Option Value} {base : Heap} {f : Addr} {cd : Value} {A : Around} {outer : List PySem.Env} {s : Shared} {H : Hp} {E : XK}
theorem b_depth_paper (hb : Blt mg) (ns : NoSys K) (ok : COk (dcx P w K mg base n_depth_paper "depth_paper" (defScope (top 53)) f cd A outer s H E)) (rm : Room 6 (dcx P w K mg base n_depth_paper "depth_paper" (defScope (top 53)) f cd A outer s H E).A) (f__need_lot_and_point : FK (GK K) P w K mg base "_need_lot_and_point" 3 m__need_lot_and_point 6) : PBl (GK K) (dcx P w K mg base n_depth_paper "depth_paper" (defScope (top 53)) f cd A outer s H E) E H (defBody (top 53)) g_depth_paper := by
  have nd := nd_depth_paper
  have hu : (dcx P w K mg base n_depth_paper "depth_paper" (defScope (top 53)) f cd A outer s H E).A.units + 1 < cLine := by have := ok.un; omega
  refine pbl_cons ?_ ?_
  · refine pst_expr ?_
    refine pd_call (n := 3) (f__need_lot_and_point.kn (rm.mono (by decide))) ok.gd (takes_of rfl rfl rfl rfl) rfl ((acons_len (acons_len (acons_len anil_len)))) ?_
    refine pl_cons ?_ ?_
    · exact pd_var
    · refine pl_cons ?_ ?_
      · exact pd_var
      · refine pl_cons ?_ ?_
        · exact pd_var
        · exact pl_nil
  · exact pbl_bad
end
end Pi
namespace Pi
open PySem PySem.Spec PyProof.Rows L2 LamX
section
variable {P : Program} {w : World} {K : PySem.W.Frag} {mg : Str → Option Value} {base : Heap} {f : Addr} {cd : Value} {A : Around} {outer : List PySem.Env} {s : Shared} {H : Hp} {E : XK}
theorem b_depth (hb : Blt mg) (ns : NoSys K) (ok : COk (dcx P w K mg base n_depth "depth" (defScope (top 52)) f cd A outer s H E)) (rm : Room 7 (dcx P w K mg base n_depth "depth" (defScope (top 52)) f cd A outer s H E).A) (f_depth_paper : FK (GK K) P w K mg base "depth_paper" 3 m_depth_paper 7) : PBl (GK K) (dcx P w K mg base n_depth "depth" (defScope (top 52)) f cd A outer s H E) E H (defBody (top 52)) g_depth := by
  have nd := nd_depth
  have hu : (dcx P w K mg base n_depth "depth" (defScope (top 52)) f cd A outer s H E).A.units + 1 < cLine := by have := ok.un; omega
  refine pbl_cons ?_ ?_
  · refine pst_unp rfl ?_ (pgs_cons (pg_name nd rfl (by first | exact Or.inl rfl | exact Or.inr rfl)) (pgs_cons (pg_name nd rfl (by first | exact Or.inl rfl | exact Or.inr rfl)) pgs_nil))
    refine pd_call (n := 3) (f_depth_paper.kn (rm.mono (by decide))) ok.gd (takes_of rfl rfl rfl rfl) rfl ((acons_len (acons_len (acons_len anil_len)))) ?_
    refine pl_cons ?_ ?_
    · exact pd_var
    · refine pl_cons ?_ ?_
      · exact pd_var
      · refine pl_cons ?_ ?_
        · exact pd_var
        · exact pl_nil
  · exact pbl_bad
end
end Pi
namespace Pi
open PySem PySem.Spec PyProof.Rows L2 LamX
section
variable {P : Program} {w : World} {K : PySem.W.Frag} {mg : Str → Option Value} {base : Heap} {f : Addr} {cd : Value} {A : Around} {outer : List PySem.Env} {s : Shared} {H : Hp} {E : XK}
theorem b_check_depth (hb : Blt mg) (ns : NoSys K) (ok : COk (dcx P w K mg base n_check_depth "check_depth" (defScope (top 54)) f cd A outer s H E)) (rm : Room 6 (dcx P w K mg base n_check_depth "check_depth" (defScope (top 54)) f cd A outer s H E).A) (f__need_lot_and_point : FK (GK K) P w K mg base "_need_lot_and_point" 3 m__need_lot_and_point 6) (f_is_tuple_of : FK (GK K) P w K mg base "is_tuple_of" 2 m_is_tuple_of 1) (x_BadPaper : XF (GK K) P w K mg base "BadPaper" eBadPaper) : PBl (GK K) (dcx P w K mg base n_check_depth "check_depth" (defScope (top 54)) f cd A outer s H E) E H (defBody (top 54)) g_check_depth := by
  have nd := nd_check_depth
  have hu : (dcx P w K mg base n_check_depth "check_depth" (defScope (top 54)) f cd A outer s H E).A.units + 1 < cLine := by have := ok.un; omega
  refine pbl_cons ?_ ?_
  · refine pst_expr ?_
    refine pd_call (n := 3) (f__need_lot_and_point.kn (rm.mono (by decide))) ok.gd (takes_of rfl rfl rfl rfl) rfl ((acons_len (acons_len (acons_len anil_len)))) ?_
    refine pl_cons ?_ ?_
    · exact pd_var
    · refine pl_cons ?_ ?_
      · exact pd_var
      · refine pl_cons ?_ ?_
        · exact pd_var
        · exact pl_nil
  · refine pbl_cons ?_ ?_
    · refine pst_if ?_ ?_ ?_
      · refine pb_not ?_
        refine pb_of ?_
        refine pd_call (n := 2) (f_is_tuple_of.kn (rm.mono (by decide))) ok.gd (takes_of rfl rfl rfl rfl) rfl ((acons_len (acons_len anil_len))) ?_
        refine pl_cons ?_ ?_
        · exact pd_var
        · refine pl_cons ?_ ?_
          · exact pd_int
          · exact pl_nil
      · refine pbl_one ?_
        refine pst_raise rfl (x_BadPaper.kn (rm.mono (by decide))) (takes_of rfl rfl rfl rfl) rfl ?_
        exact pd_str
      · exact pbl_nil
    · exact pbl_bad
end
end Pi
namespace Pi
open PySem PySem.Spec PyProof.Rows L2 LamX
section
variable {P : Program} {w : World} {K : PySem.W.Frag} {mg : Str → Option Value} {base : Heap} {f : Addr} {cd : Value} {A : Around} {outer : List PySem.Env} {s : Shared} {H : Hp} {E : XK}
theorem b__is_place (hb : Blt mg) (ns : NoSys K) (ok : COk (dcx P w K mg base n__is_place "_is_place" (defScope (top 70)) f cd A outer s H E)) (rm : Room 3 (dcx P w K mg base n__is_place "_is_place" (defScope (top 70)) f cd A outer s H E).A) (f_are_rests : FK (GK K) P w K mg base "are_rests" 3 m_are_rests 3) (f_is_ascending : FK (GK K) P w K mg base "is_ascending" 1 m_is_ascending 1) : PBl (GK K) (dcx P w K mg base n__is_place "_is_place" (defScope (top 70)) f cd A outer s H E) E H (defBody (top 70)) g__is_place := by
  have nd := nd__is_place
  have hu : (dcx P w K mg base n__is_place "_is_place" (defScope (top 70)) f cd A outer s H E).A.units + 1 < cLine := by have := ok.un; omega
  refine pbl_cons ?_ ?_
  · refine pst_if ?_ ?_ ?_
    · refine PBW.pb ?_
      refine pb_or ?_ ?_
      · refine pb_not ?_
        refine pb_of ?_
        refine pd_isB .tuple ?_ rfl hb.isinstance rfl hb.tuple rfl
        exact ph_var
      · refine pb_or1 ?_
        refine pb_cmp (bin_eqX ok ns) ?_ ?_
        · refine PD.toH ?_
          refine pd_blt call_lenX cal_len rfl hb.len rfl ?_
          refine plh_cons ?_ ?_
          · exact ph_var
          · exact plh_nil
        · refine PD.toH ?_
          exact pd_int
    · refine pbl_one ?_
      refine pst_ret ?_
      exact pd_bl
    · exact pbl_nil
  · refine pbl_one ?_
    refine pst_ret ?_
    refine pd_and ?_ ?_
    · refine pd_call (n := 3) (f_are_rests.kn (rm.mono (by decide))) ok.gd (takes_of rfl rfl rfl rfl) rfl ((acons_len (acons_len (acons_len anil_len)))) ?_
      refine pl_cons ?_ ?_
      · exact pd_var
      · refine pl_cons ?_ ?_
        · exact pd_var
        · refine pl_cons ?_ ?_
          · refine pd_blt call_lenX cal_len rfl hb.len rfl ?_
            refine plh_cons ?_ ?_
            · exact ph_var
            · exact plh_nil
          · exact pl_nil
    · refine pd_one ?_
      refine pd_call (n := 1) (f_is_ascending.kn (rm.mono (by decide))) ok.gd (takes_of rfl rfl rfl rfl) rfl ((acons_len anil_len)) ?_
      refine pl_cons ?_ ?_
      · exact pd_var
      · exact pl_nil
end
end Pi
namespace Pi
open PySem PySem.Spec PyProof.Rows L2 LamX
section
variable {P : Program} {w : World} {K : PySem.W.Frag} {mg : Str → Option Value} {base : Heap} {f : Addr} {cd : Value} {A : Around} {outer : List PySem.Env} {s : Shared} {H : Hp} {E : XK}
theorem b__need_poly_and_box (hb : Blt mg) (ns : NoSys K) (ok : COk (dcx P w K mg base n__need_poly_and_box "_need_poly_and_box" (defScope (top 69)) f cd A outer s H E)) (rm : Room 6 (dcx P w K mg base n__need_poly_and_box "_need_poly_and_box" (defScope (top 69)) f cd A outer s H E).A) (f__is_place : FK (GK K) P w K mg base "_is_place" 2 m__is_place 4) (f_is_tuple_of : FK (GK K) P w K mg base "is_tuple_of" 2 m_is_tuple_of 1) (f_need_poly : FK (GK K) P w K mg base "need_poly" 2 m_need_poly 6) (x_BadBox : XF (GK K) P w K mg base "BadBox" eBadBox) : PBl (GK K) (dcx P w K mg base n__need_poly_and_box "_need_poly_and_box" (defScope (top 69)) f cd A outer s H E) E H (defBody (top 69)) g__need_poly_and_box := by
  have nd := nd__need_poly_and_box
  have hu : (dcx P w K mg base n__need_poly_and_box "_need_poly_and_box" (defScope (top 69)) f cd A outer s H E).A.units + 1 < cLine := by have := ok.un; omega
  refine pbl_cons ?_ ?_
  · refine pst_expr ?_
    refine pd_call (n := 2) (f_need_poly.kn (rm.mono (by decide))) ok.gd (takes_of rfl rfl rfl rfl) rfl ((acons_len (acons_len anil_len))) ?_
    refine pl_cons ?_ ?_
    · exact pd_var
    · refine pl_cons ?_ ?_
      · exact pd_var
      · exact pl_nil
  · refine pbl_cons ?_ ?_
    · refine pst_unp rfl ?_ (pgs_cons (pg_name nd rfl (by first | exact Or.inl rfl | exact Or.inr rfl)) (pgs_cons (pg_name nd rfl (by first | exact Or.inl rfl | exact Or.inr rfl)) pgs_nil))
      exact pd_var
    · refine pbl_one ?_
      refine pst_if ?_ ?_ ?_
      · refine PBW.pb ?_
        refine pb_or ?_ ?_
        · refine pb_not ?_
          refine pb_of ?_
          refine pd_call (n := 2) (f_is_tuple_of.kn (rm.mono (by decide))) ok.gd (takes_of rfl rfl rfl rfl) rfl ((acons_len (acons_len anil_len))) ?_
          refine pl_cons ?_ ?_
          · exact pd_var
          · refine pl_cons ?_ ?_
            · exact pd_var
            · exact pl_nil
        · refine pb_or1 ?_
          refine pb_not ?_
          refine pb_of ?_
          refine pd_blt (cr_all rfl) cal_all rfl hb.all rfl ?_
          refine plh_cons ?_ ?_
          · refine PN.toH ?_
            refine pn_lc [("place", 5)] rfl nd ?_ (blkOk_by rfl) tgok_name (fun s0 H1 C cl fp => (pg_name nd rfl (.inl rfl))) (fun s0 H1 C cl fp => ?_) (fun s0 H1 C cl fp => ?_)
            · refine pit_dat ?_
              exact pd_var
            · exact pbs_nil
            · refine pd_call (n := 2) (f__is_place.kn (rm.mono (by decide))) (okb ok).gd L2.takes0 rfl ((acons_len (acons_len anil_len))) ?_
              refine pl_cons ?_ ?_
              · exact pd_var
              · refine pl_cons ?_ ?_
                · exact pd_var
                · exact pl_nil
          · exact plh_nil
      · refine pbl_one ?_
        refine pst_raise rfl (x_BadBox.kn (rm.mono (by decide))) (takes_of rfl rfl rfl rfl) rfl ?_
        exact pd_var
      · exact pbl_nil
end
end Pi
namespace Pi
open PySem PySem.Spec PyProof.Rows L2 LamX
section
variable {P : Program} {w : World} {K : PySem.W.Frag} {mg : Str → Option Value} {base : Heap} {f : Addr} {cd : Value} {A : Around} {outer : List PySem.Env} {s : Shared} {H : Hp} {E : XK}
theorem b_rest_in (hb : Blt mg) (ns : NoSys K) (ok : COk (dcx P w K mg base n_rest_in "rest_in" (defScope (top 68)) f cd A outer s H E)) (rm : Room 7 (dcx P w K mg base n_rest_in "rest_in" (defScope (top 68)) f cd A outer s H E).A) (f__need_poly_and_box : FK (GK K) P w K mg base "_need_poly_and_box" 3 m__need_poly_and_box 7) : PBl (GK K) (dcx P w K mg base n_rest_in "rest_in" (defScope (top 68)) f cd A outer s H E) E H (defBody (top 68)) g_rest_in := by
  have nd := nd_rest_in
  have hu : (dcx P w K mg base n_rest_in "rest_in" (defScope (top 68)) f cd A outer s H E).A.units + 1 < cLine := by have := ok.un; omega
  refine pbl_cons ?_ ?_
  · refine pst_expr ?_
    refine pd_call (n := 3) (f__need_poly_and_box.kn (rm.mono (by decide))) ok.gd (takes_of rfl rfl rfl rfl) rfl ((acons_len (acons_len (acons_len anil_len)))) ?_
    refine pl_cons ?_ ?_
    · exact pd_var
    · refine pl_cons ?_ ?_
      · exact pd_var
      · refine pl_cons ?_ ?_
        · exact pd_var
        · exact pl_nil
  · exact pbl_bad
end
end Pi
namespace Pi
open PySem PySem.Spec PyProof.Rows L2 LamX
section
variable {P : Program} {w : World} {K : PySem.W.Frag} {mg : Str → Option Value} {base : Heap} {f : Addr} {cd : Value} {A : Around} {outer : List PySem.Env} {s : Shared} {H : Hp} {E : XK}
theorem b_uncovered (hb : Blt mg) (ns : NoSys K) (ok : COk (dcx P w K mg base n_uncovered "uncovered" (defScope (top 75)) f cd A outer s H E)) (rm : Room 3 (dcx P w K mg base n_uncovered "uncovered" (defScope (top 75)) f cd A outer s H E).A) (c_MOST_PLANES : GlC K mg "MOST_PLANES" cMOST_PLANES) (f_need_field : FK (GK K) P w K mg base "need_field" 1 m_need_field 3) (x_BadPlanes : XF (GK K) P w K mg base "BadPlanes" eBadPlanes) : PBl (GK K) (dcx P w K mg base n_uncovered "uncovered" (defScope (top 75)) f cd A outer s H E) E H (defBody (top 75)) g_uncovered := by
  have nd := nd_uncovered
  have hu : (dcx P w K mg base n_uncovered "uncovered" (defScope (top 75)) f cd A outer s H E).A.units + 1 < cLine := by have := ok.un; omega
  refine pbl_cons ?_ ?_
  · refine pst_expr ?_
    refine pd_call (n := 1) (f_need_field.kn (rm.mono (by decide))) ok.gd (takes_of rfl rfl rfl rfl) rfl ((acons_len anil_len)) ?_
    refine pl_cons ?_ ?_
    · exact pd_var
    · exact pl_nil
  · refine pbl_cons ?_ ?_
    · refine pst_if ?_ ?_ ?_
      · refine PBW.pb ?_
        refine pb_or ?_ ?_
        · refine pb_not ?_
          refine pb_of ?_
          refine pd_isB .tuple ?_ rfl hb.isinstance rfl hb.tuple rfl
          exact ph_var
        · refine pb_or1 ?_
          refine pb_cmp (bin_gt ok) ?_ ?_
          · refine PD.toH ?_
            refine pd_blt call_lenX cal_len rfl hb.len rfl ?_
            refine plh_cons ?_ ?_
            · exact ph_var
            · exact plh_nil
          · refine PD.toH ?_
            exact pd_glo ⟨c_MOST_PLANES.ex⟩ rfl
      · refine pbl_one ?_
        refine pst_raise rfl (x_BadPlanes.kn (rm.mono (by decide))) (takes_of rfl rfl rfl rfl) rfl ?_
        refine @pd_cst _ _ _ _ _ _ ?_
        kernel_rfl
      · exact pbl_nil
    · exact pbl_bad
end
end Pi
namespace Pi
open PySem PySem.Spec PyProof.Rows L2 LamX
section
variable {P : Program} {w : World} {K : PySem.W.Frag} {mg : Str → Option Value} {base : Heap} {f : Addr} {cd : Value} {A : Around} {outer : List PySem.Env} {s : Shared} {H : Hp} {E : XK}
theorem b_need_system (hb : Blt mg) (ns : NoSys K) (ok : COk (dcx P w K mg base n_need_system "need_system" (defScope (top 81)) f cd A outer s H E)) (rm : Room 3 (dcx P w K mg base n_need_system "need_system" (defScope (top 81)) f cd A outer s H E).A) (c_MOST_POLYS : GlC K mg "MOST_POLYS" cMOST_POLYS) (f_need_field : FK (GK K) P w K mg base "need_field" 1 m_need_field 3) (x_BadSystem : XF (GK K) P w K mg base "BadSystem" eBadSystem) : PBl (GK K) (dcx P w K mg base n_need_system "need_system" (defScope (top 81)) f cd A outer s H E) E H (defBody (top 81)) g_need_system := by
  have nd := nd_need_system
  have hu : (dcx P w K mg base n_need_system "need_system" (defScope (top 81)) f cd A outer s H E).A.units + 1 < cLine := by have := ok.un; omega
  refine pbl_cons ?_ ?_
  · refine pst_expr ?_
    refine pd_call (n := 1) (f_need_field.kn (rm.mono (by decide))) ok.gd (takes_of rfl rfl rfl rfl) rfl ((acons_len anil_len)) ?_
    refine pl_cons ?_ ?_
    · exact pd_var
    · exact pl_nil
  · refine pbl_cons ?_ ?_
    · refine pst_if ?_ ?_ ?_
      · refine PBW.pb ?_
        refine pb_or ?_ ?_
        · refine pb_not ?_
          refine pb_of ?_
          refine pd_isB .tuple ?_ rfl hb.isinstance rfl hb.tuple rfl
          exact ph_var
        · refine pb_or1 ?_
          refine pb_not ?_
          refine pb_chain (bin_le ok) (bin_le ok) ?_ ?_ ?_
          · refine PD.toH ?_
            exact pd_int
          · refine PD.toH ?_
            refine pd_blt call_lenX cal_len rfl hb.len rfl ?_
            refine plh_cons ?_ ?_
            · exact ph_var
            · exact plh_nil
          · refine PD.toH ?_
            exact pd_glo ⟨c_MOST_POLYS.ex⟩ rfl
      · refine pbl_one ?_
        refine pst_raise rfl (x_BadSystem.kn (rm.mono (by decide))) (takes_of rfl rfl rfl rfl) rfl ?_
        refine @pd_cst _ _ _ _ _ _ ?_
        kernel_rfl
      · exact pbl_nil
    · exact pbl_bad
end
end Pi
namespace Pi
open PySem PySem.Spec PyProof.Rows L2 LamX
section
variable {P : Program} {w : World} {K : PySem.W.Frag} {mg : Str → Option Value} {base : Heap} {f : Addr} {cd : Value} {A : Around} {outer : List PySem.Env} {s : Shared} {H : Hp} {E : XK}
theorem b__marks (hb : Blt mg) (ns : NoSys K) (ok : COk (dcx P w K mg base n__marks "_marks" (defScope (top 82)) f cd A outer s H E)) (rm : Room 4 (dcx P w K mg base n__marks "_marks" (defScope (top 82)) f cd A outer s H E).A) (f_need_system : FK (GK K) P w K mg base "need_system" 2 m_need_system 4) : PBl (GK K) (dcx P w K mg base n__marks "_marks" (defScope (top 82)) f cd A outer s H E) E H (defBody (top 82)) g__marks := by
  have nd := nd__marks
  have hu : (dcx P w K mg base n__marks "_marks" (defScope (top 82)) f cd A outer s H E).A.units + 1 < cLine := by have := ok.un; omega
  refine pbl_cons ?_ ?_
  · refine pst_expr ?_
    refine pd_call (n := 2) (f_need_system.kn (rm.mono (by decide))) ok.gd (takes_of rfl rfl rfl rfl) rfl ((acons_len (acons_len anil_len))) ?_
    refine pl_cons ?_ ?_
    · exact pd_var
    · refine pl_cons ?_ ?_
      · exact pd_var
      · exact pl_nil
  · exact pbl_bad
end
end Pi
namespace Pi
open PySem PySem.Spec PyProof.Rows L2 LamX
section
variable {P : Program} {w : World} {K : PySem.W.Frag} {mg : Str → Option Value} {base : Heap} {f : Addr} {cd : Value} {A : Around} {outer : List PySem.Env} {s : Shared} {H : Hp} {E : XK}
theorem b_zeros (hb : Blt mg) (ns : NoSys K) (ok : COk (dcx P w K mg base n_zeros "zeros" (defScope (top 83)) f cd A outer s H E)) (rm : Room 5 (dcx P w K mg base n_zeros "zeros" (defScope (top 83)) f cd A outer s H E).A) (f__marks : FK (GK K) P w K mg base "_marks" 2 m__marks 5) : PBl (GK K) (dcx P w K mg base n_zeros "zeros" (defScope (top 83)) f cd A outer s H E) E H (defBody (top 83)) g_zeros := by
  have nd := nd_zeros
  have hu : (dcx P w K mg base n_zeros "zeros" (defScope (top 83)) f cd A outer s H E).A.units + 1 < cLine := by have := ok.un; omega
  refine pbl_cons ?_ ?_
  · refine @pst_set _ _ _ _ _ _ _ 2 "marks" _ nd ?_ rfl (by first | exact Or.inl rfl | exact Or.inr rfl) ?_ (by first | exact .inl rfl | exact .inr rfl)
    · refine pd_call (n := 2) (f__marks.kn (rm.mono (by decide))) ok.gd (takes_of rfl rfl rfl rfl) rfl ((acons_len (acons_len anil_len))) ?_
      refine pl_cons ?_ ?_
      · exact pd_var
      · refine pl_cons ?_ ?_
        · exact pd_var
        · exact pl_nil
    · rfl
  · exact pbl_bad
end
end Pi
namespace Pi
open PySem PySem.Spec PyProof.Rows L2 LamX
section
variable {P : Program} {w : World} {K : PySem.W.Frag} {mg : Str → Option Value} {base : Heap} {f : Addr} {cd : Value} {A : Around} {outer : List PySem.Env} {s : Shared} {H : Hp} {E : XK}
theorem b_norm (hb : Blt mg) (ns : NoSys K) (ok : COk (dcx P w K mg base n_norm "norm" (defScope (top 86)) f cd A outer s H E)) (rm : Room 3 (dcx P w K mg base n_norm "norm" (defScope (top 86)) f cd A outer s H E).A) (f_is_integer_in : FK (GK K) P w K mg base "is_integer_in" 3 m_is_integer_in 2) (f_need_field : FK (GK K) P w K mg base "need_field" 1 m_need_field 3) (x_BadNumber : XF (GK K) P w K mg base "BadNumber" eBadNumber) : PBl (GK K) (dcx P w K mg base n_norm "norm" (defScope (top 86)) f cd A outer s H E) E H (defBody (top 86)) g_norm := by
  have nd := nd_norm
  have hu : (dcx P w K mg base n_norm "norm" (defScope (top 86)) f cd A outer s H E).A.units + 1 < cLine := by have := ok.un; omega
  refine pbl_cons ?_ ?_
  · refine @pst_set _ _ _ _ _ _ _ 2 "unknowns" _ nd ?_ rfl (by first | exact Or.inl rfl | exact Or.inr rfl) ?_ (by first | exact .inl rfl | exact .inr rfl)
    · refine pd_ix ?_ ?_
      · refine PD.toH ?_
        refine pd_call (n := 1) (f_need_field.kn (rm.mono (by decide))) ok.gd (takes_of rfl rfl rfl rfl) rfl ((acons_len anil_len)) ?_
        refine pl_cons ?_ ?_
        · exact pd_var
        · exact pl_nil
      · refine PD.toH ?_
        exact pd_int
    · rfl
  · refine pbl_cons ?_ ?_
    · refine pst_if ?_ ?_ ?_
      · refine pb_not ?_
        refine pb_of ?_
        refine pd_call (n := 3) (f_is_integer_in.kn (rm.mono (by decide))) ok.gd (takes_of rfl rfl rfl rfl) rfl ((acons_len (acons_len (acons_len anil_len)))) ?_
        refine pl_cons ?_ ?_
        · exact pd_var
        · refine pl_cons ?_ ?_
          · exact pd_int
          · refine pl_cons ?_ ?_
            · exact pd_var
            · exact pl_nil
      · refine pbl_one ?_
        refine pst_raise rfl (x_BadNumber.kn (rm.mono (by decide))) (takes_of rfl rfl rfl rfl) rfl ?_
        exact pd_var
      · exact pbl_nil
    · exact pbl_bad
end
end Pi
namespace Pi
open PySem PySem.Spec PyProof.Rows L2 LamX
section
variable {P : Program} {w : World} {K : PySem.W.Frag} {mg : Str → Option Value} {base : Heap} {f : Addr} {cd : Value} {A : Around} {outer : List PySem.Env} {s : Shared} {H : Hp} {E : XK}
theorem b__need_prime (hb : Blt mg) (ns : NoSys K) (ok : COk (dcx P w K mg base n__need_prime "_need_prime" (defScope (top 94)) f cd A outer s H E)) (rm : Room 2 (dcx P w K mg base n__need_prime "_need_prime" (defScope (top 94)) f cd A outer s H E).A) (f_is_prime : FK (GK K) P w K mg base "is_prime" 1 m_is_prime 2) (x_BadNumber : XF (GK K) P w K mg base "BadNumber" eBadNumber) : PBl (GK K) (dcx P w K mg base n__need_prime "_need_prime" (defScope (top 94)) f cd A outer s H E) E H (defBody (top 94)) g__need_prime := by
  have nd := nd__need_prime
  have hu : (dcx P w K mg base n__need_prime "_need_prime" (defScope (top 94)) f cd A outer s H E).A.units + 1 < cLine := by have := ok.un; omega
  refine pbl_one ?_
  refine pst_if ?_ ?_ ?_
  · refine pb_not ?_
    refine pb_of ?_
    refine pd_call (n := 1) (f_is_prime.kn (rm.mono (by decide))) ok.gd (takes_of rfl rfl rfl rfl) rfl ((acons_len anil_len)) ?_
    refine pl_cons ?_ ?_
    · exact pd_var
    · exact pl_nil
  · refine pbl_one ?_
    refine pst_raise rfl (x_BadNumber.kn (rm.mono (by decide))) (takes_of rfl rfl rfl rfl) rfl ?_
    exact pd_var
  · exact pbl_nil
end
end Pi
namespace Pi
open PySem PySem.Spec PyProof.Rows L2 LamX
section
variable {P : Program} {w : World} {K : PySem.W.Frag} {mg : Str → Option Value} {base : Heap} {f : Addr} {cd : Value} {A : Around} {outer : List PySem.Env} {s : Shared} {H : Hp} {E : XK}
theorem b__need_few (hb : Blt mg) (ns : NoSys K) (ok : COk (dcx P w K mg base n__need_few "_need_few" (defScope (top 95)) f cd A outer s H E)) (rm : Room 2 (dcx P w K mg base n__need_few "_need_few" (defScope (top 95)) f cd A outer s H E).A) (c_MOST_VECTORS : GlC K mg "MOST_VECTORS" cMOST_VECTORS) (x_BadVectors : XF (GK K) P w K mg base "BadVectors" eBadVectors) : PBl (GK K) (dcx P w K mg base n__need_few "_need_few" (defScope (top 95)) f cd A outer s H E) E H (defBody (top 95)) g__need_few := by
  have nd := nd__need_few
  have hu : (dcx P w K mg base n__need_few "_need_few" (defScope (top 95)) f cd A outer s H E).A.units + 1 < cLine := by have := ok.un; omega
  refine pbl_one ?_
  refine pst_if ?_ ?_ ?_
  · refine PBW.pb ?_
    refine pb_or ?_ ?_
    · refine pb_not ?_
      refine pb_of ?_
      refine pd_isB .tuple ?_ rfl hb.isinstance rfl hb.tuple rfl
      exact ph_var
    · refine pb_or1 ?_
      refine pb_cmp (bin_gt ok) ?_ ?_
      · refine PD.toH ?_
        refine pd_blt call_lenX cal_len rfl hb.len rfl ?_
        refine plh_cons ?_ ?_
        · exact ph_var
        · exact plh_nil
      · refine PD.toH ?_
        exact pd_glo ⟨c_MOST_VECTORS.ex⟩ rfl
  · refine pbl_one ?_
    refine pst_raise rfl (x_BadVectors.kn (rm.mono (by decide))) (takes_of rfl rfl rfl rfl) rfl ?_
    refine @pd_cst _ _ _ _ _ _ ?_
    kernel_rfl
  · exact pbl_nil
end
end Pi
namespace Pi
open PySem PySem.Spec PyProof.Rows L2 LamX
section
variable {P : Program} {w : World} {K : PySem.W.Frag} {mg : Str → Option Value} {base : Heap} {f : Addr} {cd : Value} {A : Around} {outer : List PySem.Env} {s : Shared} {H : Hp} {E : XK}
theorem b__need_vectors (hb : Blt mg) (ns : NoSys K) (ok : COk (dcx P w K mg base n__need_vectors "_need_vectors" (defScope (top 96)) f cd A outer s H E)) (rm : Room 3 (dcx P w K mg base n__need_vectors "_need_vectors" (defScope (top 96)) f cd A outer s H E).A) (f__need_few : FK (GK K) P w K mg base "_need_few" 1 m__need_few 3) (f__need_prime : FK (GK K) P w K mg base "_need_prime" 1 m__need_prime 3) : PBl (GK K) (dcx P w K mg base n__need_vectors "_need_vectors" (defScope (top 96)) f cd A outer s H E) E H (defBody (top 96)) g__need_vectors := by
  have nd := nd__need_vectors
  have hu : (dcx P w K mg base n__need_vectors "_need_vectors" (defScope (top 96)) f cd A outer s H E).A.units + 1 < cLine := by have := ok.un; omega
  refine pbl_cons ?_ ?_
  · refine pst_expr ?_
    refine pd_call (n := 1) (f__need_prime.kn (rm.mono (by decide))) ok.gd (takes_of rfl rfl rfl rfl) rfl ((acons_len anil_len)) ?_
    refine pl_cons ?_ ?_
    · exact pd_var
    · exact pl_nil
  · refine pbl_cons ?_ ?_
    · refine pst_expr ?_
      refine pd_call (n := 1) (f__need_few.kn (rm.mono (by decide))) ok.gd (takes_of rfl rfl rfl rfl) rfl ((acons_len anil_len)) ?_
      refine pl_cons ?_ ?_
      · exact pd_var
      · exact pl_nil
    · exact pbl_bad
end
end Pi
namespace Pi
open PySem PySem.Spec PyProof.Rows L2 LamX
section
variable {P : Program} {w : World} {K : PySem.W.Frag} {mg : Str → Option Value} {base : Heap} {f : Addr} {cd : Value} {A : Around} {outer : List PySem.Env} {s : Shared} {H : Hp} {E : XK}
theorem b_nought_lot (hb : Blt mg) (ns : NoSys K) (ok : COk (dcx P w K mg base n_nought_lot "nought_lot" (defScope (top 93)) f cd A outer s H E)) (rm : Room 4 (dcx P w K mg base n_nought_lot "nought_lot" (defScope (top 93)) f cd A outer s H E).A) (f__need_vectors : FK (GK K) P w K mg base "_need_vectors" 2 m__need_vectors 4) : PBl (GK K) (dcx P w K mg base n_nought_lot "nought_lot" (defScope (top 93)) f cd A outer s H E) E H (defBody (top 93)) g_nought_lot := by
  have nd := nd_nought_lot
  have hu : (dcx P w K mg base n_nought_lot "nought_lot" (defScope (top 93)) f cd A outer s H E).A.units + 1 < cLine := by have := ok.un; omega
  refine pbl_cons ?_ ?_
  · refine pst_expr ?_
    refine pd_call (n := 2) (f__need_vectors.kn (rm.mono (by decide))) ok.gd (takes_of rfl rfl rfl rfl) rfl ((acons_len (acons_len anil_len))) ?_
    refine pl_cons ?_ ?_
    · exact pd_var
    · refine pl_cons ?_ ?_
      · exact pd_var
      · exact pl_nil
  · exact pbl_bad
end
end Pi
namespace Pi
open PySem PySem.Spec PyProof.Rows L2 LamX
section
variable {P : Program} {w : World} {K : PySem.W.Frag} {mg : Str → Option Value} {base : Heap} {f : Addr} {cd : Value} {A : Around} {outer : List PySem.Env} {s : Shared} {H : Hp} {E : XK}
theorem b__law_begun (hb : Blt mg) (ns : NoSys K) (ok : COk (dcx P w K mg base n__law_begun "_law_begun" (defScope (top 100)) f cd A outer s H E)) (rm : Room 0 (dcx P w K mg base n__law_begun "_law_begun" (defScope (top 100)) f cd A outer s H E).A) : PBl (GK K) (dcx P w K mg base n__law_begun "_law_begun" (defScope (top 100)) f cd A outer s H E) E H (defBody (top 100)) g__law_begun := by
  have nd := nd__law_begun
  have hu : (dcx P w K mg base n__law_begun "_law_begun" (defScope (top 100)) f cd A outer s H E).A.units + 1 < cLine := by have := ok.un; omega
  refine pbl_cons ?_ ?_
  · refine @pst_set _ _ _ _ _ _ _ 2 "cells" _ nd ?_ rfl (by first | exact Or.inl rfl | exact Or.inr rfl) ?_ (by first | exact .inl rfl | exact .inr rfl)
    · refine PN.toD ?_
      refine pn_cat ?_ ?_
      · refine PN.toH ?_
        refine pn_slice ?_ ?_ ?_
        · exact ph_var
        · refine ppt_some ?_
          exact pd_var
        · exact ppt_none
      · refine PN.toH ?_
        refine pn_slice ?_ ?_ ?_
        · exact ph_var
        · exact ppt_none
        · refine ppt_some ?_
          exact pd_var
    · rfl
  · refine pbl_cons ?_ ?_
    · refine pst_setLc [("cell", 5)] rfl nd ?_ (blkOk_by rfl) tgok_name (fun s0 H1 C cl fp => (pg_name nd rfl (.inl rfl))) (fun s0 H1 C cl fp => ?_) (fun s0 H1 C cl fp => ?_)
      · refine pit_dat ?_
        exact pd_var
      · refine pbs_one ?_
        refine pb_cmp (bin_ge (okb ok)) ?_ ?_
        · exact ph_var
        · refine PD.toH ?_
          refine pd_bin bin_pow ?_ ?_
          · refine PD.toH ?_
            exact pd_int
          · refine PD.toH ?_
            exact pd_int
      · exact pd_var
    · refine pbl_cons ?_ ?_
      · refine @pst_set _ _ _ _ _ _ _ 4 "seed" _ nd ?_ rfl (by first | exact Or.inl rfl | exact Or.inr rfl) ?_ (by first | exact .inl rfl | exact .inr rfl)
        · refine pd_bin bin_add ?_ ?_
          · refine PD.toH ?_
            exact pd_int
          · exact ph_var
        · rfl
      · refine pbl_cons ?_ ?_
        · refine pst_for (passes_of rfl) rfl ?_ (pg_name nd rfl (by first | exact Or.inl rfl | exact Or.inr rfl)) tgok_name ?_
          · refine pit_dat ?_
            exact pd_var
          · refine pbl_one ?_
            refine @pst_set _ _ _ _ _ _ _ 4 "seed" _ nd ?_ rfl (by first | exact Or.inl rfl | exact Or.inr rfl) ?_ (by first | exact .inl rfl | exact .inr rfl)
            · refine pd_bin bin_mod ?_ ?_
              · refine PD.toH ?_
                refine pd_bty call_int1 cal_int rfl hb.int rfl ?_
                refine plh_cons ?_ ?_
                · refine PD.toH ?_
                  refine pd_bin bin_add ?_ ?_
                  · refine PD.toH ?_
                    refine pd_bin bin_mulX ?_ ?_
                    · exact ph_var
                    · refine PD.toH ?_
                      exact pd_int
                  · exact ph_var
                · exact plh_nil
              · refine PD.toH ?_
                exact pd_int
            · rfl
        · refine pbl_one ?_
          refine pst_ret ?_
          refine pd_obj ?_ (pps_cons pe_rd pe_rd (pps_cons pe_rd pe_rd (pps_cons pe_rd pe_rd (pps_cons pe_rd pe_rd pps_nil))))
          refine ppr_cons ?_ ?_ ?_
          · exact pd_str
          · refine pd_if ?_ ?_ ?_
            · refine pb_cmp (bin_neX ok ns) ?_ ?_
              · exact ph_var
              · refine PD.toH ?_
                refine @pd_cst _ _ _ _ _ _ ?_
                kernel_rfl
            · refine pd_ix ?_ ?_
              · exact ph_var
              · refine PD.toH ?_
                exact pd_int
            · exact pd_int
          · refine ppr_cons ?_ ?_ ?_
            · exact pd_str
            · exact pd_var
            · refine ppr_cons ?_ ?_ ?_
              · exact pd_str
              · refine PN.toD ?_
                refine pn_cat ?_ ?_
                · exact ph_var
                · refine PN.toH ?_
                  refine pn_lst ?_
                  refine pl_cons ?_ ?_
                  · refine pd_bin bin_add ?_ ?_
                    · refine PD.toH ?_
                      refine pd_bin bin_mulX ?_ ?_
                      · refine PD.toH ?_
                        exact pd_int
                      · exact ph_var
                    · refine PD.toH ?_
                      exact pd_int
                  · exact pl_nil
              · refine ppr_cons ?_ ?_ ?_
                · exact pd_str
                · exact pd_int
                · exact ppr_nil
end
end Pi
namespace Pi
open PySem PySem.Spec PyProof.Rows L2 LamX
section
variable {P : Program} {w : World} {K : PySem.W.Frag} {mg : Str → Option Value} {base : Heap} {f : Addr} {cd : Value} {A : Around} {outer : List PySem.Env} {s : Shared} {H : Hp} {E : XK}
theorem b__law_draw (hb : Blt mg) (ns : NoSys K) (ok : COk (dcx P w K mg base n__law_draw "_law_draw" (defScope (top 101)) f cd A outer s H E)) (rm : Room 0 (dcx P w K mg base n__law_draw "_law_draw" (defScope (top 101)) f cd A outer s H E).A) : PBl (GK K) (dcx P w K mg base n__law_draw "_law_draw" (defScope (top 101)) f cd A outer s H E) E H (defBody (top 101)) g__law_draw := by
  have nd := nd__law_draw
  have hu : (dcx P w K mg base n__law_draw "_law_draw" (defScope (top 101)) f cd A outer s H E).A.units + 1 < cLine := by have := ok.un; omega
  refine pbl_cons ?_ ?_
  · refine pst_if ?_ ?_ ?_
    · refine pb_cmp (bin_gt ok) ?_ ?_
      · refine PD.toH ?_
        refine pd_get hu ?_ ?_
        · exact pd_var
        · exact pd_str
      · refine PD.toH ?_
        exact pd_int
    · refine pbl_cons ?_ ?_
      · refine @pst_set _ _ _ _ _ _ _ 5 "found" _ nd ?_ rfl (by first | exact Or.inl rfl | exact Or.inr rfl) ?_ (by first | exact .inl rfl | exact .inr rfl)
        · refine pd_bin bin_mod ?_ ?_
          · refine PD.toH ?_
            refine pd_bty call_int1 cal_int rfl hb.int rfl ?_
            refine plh_cons ?_ ?_
            · refine PD.toH ?_
              refine pd_get hu ?_ ?_
              · exact pd_var
              · exact pd_str
            · exact plh_nil
          · exact ph_var
        · rfl
      · refine pbl_cons ?_ ?_
        · refine pst_put hu ?_ ?_ ?_
          · exact pd_var
          · exact pd_str
          · refine pd_bin bin_fdiv ?_ ?_
            · refine PD.toH ?_
              refine pd_get hu ?_ ?_
              · exact pd_var
              · exact pd_str
            · exact ph_var
        · refine pbl_one ?_
          refine pst_ret ?_
          exact pd_var
    · exact pbl_nil
  · refine pbl_cons ?_ ?_
    · refine @pst_set _ _ _ _ _ _ _ 2 "spot" _ nd ?_ rfl (by first | exact Or.inl rfl | exact Or.inr rfl) ?_ (by first | exact .inl rfl | exact .inr rfl)
      · refine pd_get hu ?_ ?_
        · exact pd_var
        · exact pd_str
      · rfl
    · refine pbl_cons ?_ ?_
      · refine pst_put hu ?_ ?_ ?_
        · exact pd_var
        · exact pd_str
        · refine pd_bin bin_add ?_ ?_
          · exact ph_var
          · refine PD.toH ?_
            exact pd_int
      · refine pbl_cons ?_ ?_
        · refine pst_par rfl nd ?_
          refine pl_cons ?_ ?_
          · refine pd_get hu ?_ ?_
            · exact pd_var
            · exact pd_str
          · refine pl_cons ?_ ?_
            · refine pd_bin bin_add ?_ ?_
              · refine PD.toH ?_
                refine pd_get hu ?_ ?_
                · exact pd_var
                · exact pd_str
              · refine PD.toH ?_
                refine pd_bin bin_mulX ?_ ?_
                · refine PD.toH ?_
                  refine pd_bin bin_mulX ?_ ?_
                  · refine PD.toH ?_
                    exact pd_int
                  · exact ph_var
                · exact ph_var
            · exact pl_nil
        · refine pbl_cons ?_ ?_
          · refine @pst_set _ _ _ _ _ _ _ 3 "cell" _ nd ?_ rfl (by first | exact Or.inl rfl | exact Or.inr rfl) ?_ (by first | exact .inl rfl | exact .inr rfl)
            · refine pd_ix ?_ ?_
              · exact ph_var
              · refine PD.toH ?_
                refine pd_bin bin_mod ?_ ?_
                · refine PD.toH ?_
                  refine pd_bty call_int1 cal_int rfl hb.int rfl ?_
                  refine plh_cons ?_ ?_
                  · exact ph_var
                  · exact plh_nil
                · refine PD.toH ?_
                  refine pd_blt call_lenX cal_len rfl hb.len rfl ?_
                  refine plh_cons ?_ ?_
                  · exact ph_var
                  · exact plh_nil
            · rfl
          · refine pbl_cons ?_ ?_
            · refine @pst_set _ _ _ _ _ _ _ 4 "blend" _ nd ?_ rfl (by first | exact Or.inl rfl | exact Or.inr rfl) ?_ (by first | exact .inl rfl | exact .inr rfl)
              · refine pd_bin bin_mod ?_ ?_
                · refine PD.toH ?_
                  refine pd_bty call_int1 cal_int rfl hb.int rfl ?_
                  refine plh_cons ?_ ?_
                  · refine PD.toH ?_
                    refine pd_bin bin_add ?_ ?_
                    · refine PD.toH ?_
                      refine pd_bin bin_mulX ?_ ?_
                      · exact ph_var
                      · refine PD.toH ?_
                        refine pd_bin bin_add ?_ ?_
                        · refine PD.toH ?_
                          refine pd_bin bin_mulX ?_ ?_
                          · refine PD.toH ?_
                            exact pd_int
                          · exact ph_var
                        · refine PD.toH ?_
                          exact pd_int
                    · exact ph_var
                  · exact plh_nil
                · refine PD.toH ?_
                  exact pd_int
              · rfl
            · refine pbl_cons ?_ ?_
              · refine @pst_set _ _ _ _ _ _ _ 4 "blend" _ nd ?_ rfl (by first | exact Or.inl rfl | exact Or.inr rfl) ?_ (by first | exact .inl rfl | exact .inr rfl)
                · refine pd_bin bin_mod ?_ ?_
                  · refine PD.toH ?_
                    refine pd_bty call_int1 cal_int rfl hb.int rfl ?_
                    refine plh_cons ?_ ?_
                    · refine PD.toH ?_
                      refine pd_bin bin_add ?_ ?_
                      · refine PD.toH ?_
                        refine pd_bin bin_add ?_ ?_
                        · refine PD.toH ?_
                          refine pd_bin bin_mulX ?_ ?_
                          · exact ph_var
                          · exact ph_var
                        · refine PD.toH ?_
                          refine pd_bin bin_mulX ?_ ?_
                          · refine PD.toH ?_
                            exact pd_int
                          · exact ph_var
                      · refine PD.toH ?_
                        refine pd_get hu ?_ ?_
                        · exact pd_var
                        · exact pd_str
                    · exact plh_nil
                  · refine PD.toH ?_
                    exact pd_int
                · rfl
              · refine pbl_one ?_
                refine pst_ret ?_
                refine pd_bin bin_mod ?_ ?_
                · refine PD.toH ?_
                  refine pd_bin bin_fdiv ?_ ?_
                  · refine PD.toH ?_
                    refine pd_bin bin_mod ?_ ?_
                    · refine PD.toH ?_
                      refine pd_bty call_int1 cal_int rfl hb.int rfl ?_
                      refine plh_cons ?_ ?_
                      · refine PD.toH ?_
                        refine pd_bin bin_add ?_ ?_
                        · refine PD.toH ?_
                          refine pd_bin bin_mulX ?_ ?_
                          · exact ph_var
                          · refine PD.toH ?_
                            exact pd_int
                        · exact ph_var
                      · exact plh_nil
                    · refine PD.toH ?_
                      exact pd_int
                  · refine PD.toH ?_
                    exact pd_int
                · exact ph_var
end
end Pi
namespace Pi
open PySem PySem.Spec PyProof.Rows L2 LamX
section
variable {P : Program} {w : World} {K : PySem.W.Frag} {mg : Str → Option Value} {base : Heap} {f : Addr} {cd : Value} {A : Around} {outer : List PySem.Env} {s : Shared} {H : Hp} {E : XK}
theorem b__law_of (hb : Blt mg) (ns : NoSys K) (ok : COk (dcx P w K mg base n__law_of "_law_of" (defScope (top 102)) f cd A outer s H E)) (rm : Room 1 (dcx P w K mg base n__law_of "_law_of" (defScope (top 102)) f cd A outer s H E).A) (f__law_draw : FK (GK K) P w K mg base "_law_draw" 2 m__law_draw 1) : PBl (GK K) (dcx P w K mg base n__law_of "_law_of" (defScope (top 102)) f cd A outer s H E) E H (defBody (top 102)) g__law_of := by
  have nd := nd__law_of
  have hu : (dcx P w K mg base n__law_of "_law_of" (defScope (top 102)) f cd A outer s H E).A.units + 1 < cLine := by have := ok.un; omega
  refine pbl_one ?_
  refine pst_ret ?_
  refine pd_ix ?_ ?_
  · exact ph_var
  · refine PD.toH ?_
    refine pd_call (n := 2) (f__law_draw.kn (rm.mono (by decide))) ok.gd (takes_of rfl rfl rfl rfl) rfl ((acons_len (acons_len anil_len))) ?_
    refine pl_cons ?_ ?_
    · exact pd_var
    · refine pl_cons ?_ ?_
      · refine pd_blt call_lenX cal_len rfl hb.len rfl ?_
        refine plh_cons ?_ ?_
        · exact ph_var
        · exact plh_nil
      · exact pl_nil
end
end Pi
namespace Pi
open PySem PySem.Spec PyProof.Rows L2 LamX
section
variable {P : Program} {w : World} {K : PySem.W.Frag} {mg : Str → Option Value} {base : Heap} {f : Addr} {cd : Value} {A : Around} {outer : List PySem.Env} {s : Shared} {H : Hp} {E : XK}
theorem b__law_marks (hb : Blt mg) (ns : NoSys K) (ok : COk (dcx P w K mg base n__law_marks "_law_marks" (defScope (top 103)) f cd A outer s H E)) (rm : Room 0 (dcx P w K mg base n__law_marks "_law_marks" (defScope (top 103)) f cd A outer s H E).A) (v_BadBox : IsvK K mg "BadBox" (tv "BadBox")) (v_BadField : IsvK K mg "BadField" (tv "BadField")) (v_BadLot : IsvK K mg "BadLot" (tv "BadLot")) (v_BadNumber : IsvK K mg "BadNumber" (tv "BadNumber")) (v_BadPaper : IsvK K mg "BadPaper" (tv "BadPaper")) (v_BadPlanes : IsvK K mg "BadPlanes" (tv "BadPlanes")) (v_BadPoint : IsvK K mg "BadPoint" (tv "BadPoint")) (v_BadPoly : IsvK K mg "BadPoly" (tv "BadPoly")) (v_BadSystem : IsvK K mg "BadSystem" (tv "BadSystem")) (v_BadVectors : IsvK K mg "BadVectors" (tv "BadVectors")) (v_TooGreat : IsvK K mg "TooGreat" (tv "TooGreat")) : PBl (GK K) (dcx P w K mg base n__law_marks "_law_marks" (defScope (top 103)) f cd A outer s H E) E H (defBody (top 103)) g__law_marks := by
  have nd := nd__law_marks
  have hu : (dcx P w K mg base n__law_marks "_law_marks" (defScope (top 103)) f cd A outer s H E).A.units + 1 < cLine := by have := ok.un; omega
  refine pbl_cons ?_ ?_
  · refine @pst_set _ _ _ _ _ _ _ 1 "found" _ nd ?_ rfl (by first | exact Or.inl rfl | exact Or.inr rfl) ?_ (by first | exact .inl rfl | exact .inr rfl)
    · refine PN.toD ?_
      refine pn_lst ?_
      refine pl_cons ?_ ?_
      · refine pd_isVg v_BadField.ok v_BadField.m ?_ rfl hb.isinstance rfl
        exact pd_var
      · refine pl_cons ?_ ?_
        · refine pd_isVg v_BadPoly.ok v_BadPoly.m ?_ rfl hb.isinstance rfl
          exact pd_var
        · refine pl_cons ?_ ?_
          · refine pd_isVg v_BadPoint.ok v_BadPoint.m ?_ rfl hb.isinstance rfl
            exact pd_var
          · exact pl_nil
    · rfl
  · refine pbl_cons ?_ ?_
    · refine @pst_set _ _ _ _ _ _ _ 1 "found" _ nd ?_ rfl (by first | exact Or.inl rfl | exact Or.inr rfl) ?_ (by first | exact .inl rfl | exact .inr rfl)
      · refine PN.toD ?_
        refine pn_cat ?_ ?_
        · exact ph_var
        · refine PN.toH ?_
          refine pn_lst ?_
          refine pl_cons ?_ ?_
          · refine pd_isVg v_BadSystem.ok v_BadSystem.m ?_ rfl hb.isinstance rfl
            exact pd_var
          · refine pl_cons ?_ ?_
            · refine pd_isVg v_BadBox.ok v_BadBox.m ?_ rfl hb.isinstance rfl
              exact pd_var
            · refine pl_cons ?_ ?_
              · refine pd_isVg v_BadLot.ok v_BadLot.m ?_ rfl hb.isinstance rfl
                exact pd_var
              · exact pl_nil
      · rfl
    · refine pbl_cons ?_ ?_
      · refine @pst_set _ _ _ _ _ _ _ 1 "found" _ nd ?_ rfl (by first | exact Or.inl rfl | exact Or.inr rfl) ?_ (by first | exact .inl rfl | exact .inr rfl)
        · refine PN.toD ?_
          refine pn_cat ?_ ?_
          · exact ph_var
          · refine PN.toH ?_
            refine pn_lst ?_
            refine pl_cons ?_ ?_
            · refine pd_isVg v_BadPlanes.ok v_BadPlanes.m ?_ rfl hb.isinstance rfl
              exact pd_var
            · refine pl_cons ?_ ?_
              · refine pd_isVg v_BadVectors.ok v_BadVectors.m ?_ rfl hb.isinstance rfl
                exact pd_var
              · refine pl_cons ?_ ?_
                · refine pd_isVg v_BadNumber.ok v_BadNumber.m ?_ rfl hb.isinstance rfl
                  exact pd_var
                · exact pl_nil
        · rfl
      · refine pbl_one ?_
        refine pst_ret ?_
        refine PN.toD ?_
        refine pn_cat ?_ ?_
        · exact ph_var
        · refine PN.toH ?_
          refine pn_lst ?_
          refine pl_cons ?_ ?_
          · refine pd_isVg v_BadPaper.ok v_BadPaper.m ?_ rfl hb.isinstance rfl
            exact pd_var
          · refine pl_cons ?_ ?_
            · refine pd_isVg v_TooGreat.ok v_TooGreat.m ?_ rfl hb.isinstance rfl
              exact pd_var
            · exact pl_nil
theorem bT__law_marks (hb : Blt mg) (ok : COk (dcxT P w K mg base n__law_marks "_law_marks" (defScope (top 103)) f cd A outer s H E)) (v_BadBox : IsvK K mg "BadBox" (tv "BadBox")) (v_BadField : IsvK K mg "BadField" (tv "BadField")) (v_BadLot : IsvK K mg "BadLot" (tv "BadLot")) (v_BadNumber : IsvK K mg "BadNumber" (tv "BadNumber")) (v_BadPaper : IsvK K mg "BadPaper" (tv "BadPaper")) (v_BadPlanes : IsvK K mg "BadPlanes" (tv "BadPlanes")) (v_BadPoint : IsvK K mg "BadPoint" (tv "BadPoint")) (v_BadPoly : IsvK K mg "BadPoly" (tv "BadPoly")) (v_BadSystem : IsvK K mg "BadSystem" (tv "BadSystem")) (v_BadVectors : IsvK K mg "BadVectors" (tv "BadVectors")) (v_TooGreat : IsvK K mg "TooGreat" (tv "TooGreat")) : PBl (GK K) (dcxT P w K mg base n__law_marks "_law_marks" (defScope (top 103)) f cd A outer s H E) E H (defBody (top 103)) g__law_marks := by
  have nd := nd__law_marks
  have hu : (dcxT P w K mg base n__law_marks "_law_marks" (defScope (top 103)) f cd A outer s H E).A.units + 1 < cLine := by have := ok.un; omega
  refine pbl_cons ?_ ?_
  · refine @pst_set _ _ _ _ _ _ _ 1 "found" _ nd ?_ rfl (by first | exact Or.inl rfl | exact Or.inr rfl) ?_ (by first | exact .inl rfl | exact .inr rfl)
    · refine PN.toD ?_
      refine pn_lst ?_
      refine pl_cons ?_ ?_
      · refine pd_isVg v_BadField.ok v_BadField.m ?_ rfl hb.isinstance rfl
        exact pd_var
      · refine pl_cons ?_ ?_
        · refine pd_isVg v_BadPoly.ok v_BadPoly.m ?_ rfl hb.isinstance rfl
          exact pd_var
        · refine pl_cons ?_ ?_
          · refine pd_isVg v_BadPoint.ok v_BadPoint.m ?_ rfl hb.isinstance rfl
            exact pd_var
          · exact pl_nil
    · rfl
  · refine pbl_cons ?_ ?_
    · refine @pst_set _ _ _ _ _ _ _ 1 "found" _ nd ?_ rfl (by first | exact Or.inl rfl | exact Or.inr rfl) ?_ (by first | exact .inl rfl | exact .inr rfl)
      · refine PN.toD ?_
        refine pn_cat ?_ ?_
        · exact ph_var
        · refine PN.toH ?_
          refine pn_lst ?_
          refine pl_cons ?_ ?_
          · refine pd_isVg v_BadSystem.ok v_BadSystem.m ?_ rfl hb.isinstance rfl
            exact pd_var
          · refine pl_cons ?_ ?_
            · refine pd_isVg v_BadBox.ok v_BadBox.m ?_ rfl hb.isinstance rfl
              exact pd_var
            · refine pl_cons ?_ ?_
              · refine pd_isVg v_BadLot.ok v_BadLot.m ?_ rfl hb.isinstance rfl
                exact pd_var
              · exact pl_nil
      · rfl
    · refine pbl_cons ?_ ?_
      · refine @pst_set _ _ _ _ _ _ _ 1 "found" _ nd ?_ rfl (by first | exact Or.inl rfl | exact Or.inr rfl) ?_ (by first | exact .inl rfl | exact .inr rfl)
        · refine PN.toD ?_
          refine pn_cat ?_ ?_
          · exact ph_var
          · refine PN.toH ?_
            refine pn_lst ?_
            refine pl_cons ?_ ?_
            · refine pd_isVg v_BadPlanes.ok v_BadPlanes.m ?_ rfl hb.isinstance rfl
              exact pd_var
            · refine pl_cons ?_ ?_
              · refine pd_isVg v_BadVectors.ok v_BadVectors.m ?_ rfl hb.isinstance rfl
                exact pd_var
              · refine pl_cons ?_ ?_
                · refine pd_isVg v_BadNumber.ok v_BadNumber.m ?_ rfl hb.isinstance rfl
                  exact pd_var
                · exact pl_nil
        · rfl
      · refine pbl_one ?_
        refine pst_ret ?_
        refine PN.toD ?_
        refine pn_cat ?_ ?_
        · exact ph_var
        · refine PN.toH ?_
          refine pn_lst ?_
          refine pl_cons ?_ ?_
          · refine pd_isVg v_BadPaper.ok v_BadPaper.m ?_ rfl hb.isinstance rfl
            exact pd_var
          · refine pl_cons ?_ ?_
            · refine pd_isVg v_TooGreat.ok v_TooGreat.m ?_ rfl hb.isinstance rfl
              exact pd_var
            · exact pl_nil
end
end Pi
namespace Pi
open PySem PySem.Spec PyProof.Rows L2 LamX
section
variable {P : Program} {w : World} {K : PySem.W.Frag} {mg : Str → Option Value} {base : Heap} {f : Addr} {cd : Value} {A : Around} {outer : List PySem.Env} {s : Shared} {H : Hp} {E : XK}
theorem b__law_above (hb : Blt mg) (ns : NoSys K) (ok : COk (dcx P w K mg base n__law_above "_law_above" (defScope (top 104)) f cd A outer s H E)) (rm : Room 0 (dcx P w K mg base n__law_above "_law_above" (defScope (top 104)) f cd A outer s H E).A) (v_ArithmeticError : IsvOk K (.type "ArithmeticError") (tv "ArithmeticError")) (hbe : BltE mg) (v_Exception : IsvOk K (.type "Exception") (tv "Exception")) (v_LookupError : IsvOk K (.type "LookupError") (tv "LookupError")) (v_OverflowError : IsvOk K (.type "OverflowError") (tv "OverflowError")) (v_RestError : IsvK K mg "RestError" (tv "RestError")) (v_RuntimeError : IsvOk K (.type "RuntimeError") (tv "RuntimeError")) (v_TypeError : IsvOk K (.type "TypeError") (tv "TypeError")) (v_ValueError : IsvOk K (.type "ValueError") (tv "ValueError")) : PBl (GK K) (dcx P w K mg base n__law_above "_law_above" (defScope (top 104)) f cd A outer s H E) E H (defBody (top 104)) g__law_above := by
  have nd := nd__law_above
  have hu : (dcx P w K mg base n__law_above "_law_above" (defScope (top 104)) f cd A outer s H E).A.units + 1 < cLine := by have := ok.un; omega
  refine pbl_cons ?_ ?_
  · refine @pst_set _ _ _ _ _ _ _ 1 "found" _ nd ?_ rfl (by first | exact Or.inl rfl | exact Or.inr rfl) ?_ (by first | exact .inl rfl | exact .inr rfl)
    · refine PN.toD ?_
      refine pn_lst ?_
      refine pl_cons ?_ ?_
      · refine pd_isVg v_RestError.ok v_RestError.m ?_ rfl hb.isinstance rfl
        exact pd_var
      · refine pl_cons ?_ ?_
        · refine pd_isVb v_ValueError rfl hbe.ValueError ?_ rfl hb.isinstance rfl
          exact pd_var
        · refine pl_cons ?_ ?_
          · refine pd_isVb v_OverflowError rfl hbe.OverflowError ?_ rfl hb.isinstance rfl
            exact pd_var
          · exact pl_nil
    · rfl
  · refine pbl_cons ?_ ?_
    · refine @pst_set _ _ _ _ _ _ _ 1 "found" _ nd ?_ rfl (by first | exact Or.inl rfl | exact Or.inr rfl) ?_ (by first | exact .inl rfl | exact .inr rfl)
      · refine PN.toD ?_
        refine pn_cat ?_ ?_
        · exact ph_var
        · refine PN.toH ?_
          refine pn_lst ?_
          refine pl_cons ?_ ?_
          · refine pd_isVb v_LookupError rfl hbe.LookupError ?_ rfl hb.isinstance rfl
            exact pd_var
          · refine pl_cons ?_ ?_
            · refine pd_isVb v_RuntimeError rfl hbe.RuntimeError ?_ rfl hb.isinstance rfl
              exact pd_var
            · refine pl_cons ?_ ?_
              · refine pd_isVb v_TypeError rfl hbe.TypeError ?_ rfl hb.isinstance rfl
                exact pd_var
              · exact pl_nil
      · rfl
    · refine pbl_one ?_
      refine pst_ret ?_
      refine PN.toD ?_
      refine pn_cat ?_ ?_
      · exact ph_var
      · refine PN.toH ?_
        refine pn_lst ?_
        refine pl_cons ?_ ?_
        · refine pd_isVb v_ArithmeticError rfl hbe.ArithmeticError ?_ rfl hb.isinstance rfl
          exact pd_var
        · refine pl_cons ?_ ?_
          · refine pd_isVb v_Exception rfl hbe.Exception ?_ rfl hb.isinstance rfl
            exact pd_var
          · exact pl_nil
end
end Pi
namespace Pi
open PySem PySem.Spec PyProof.Rows L2 LamX
section
variable {P : Program} {w : World} {K : PySem.W.Frag} {mg : Str → Option Value} {base : Heap} {f : Addr} {cd : Value} {A : Around} {outer : List PySem.Env} {s : Shared} {H : Hp} {E : XK}
theorem b__law_things (hb : Blt mg) (ns : NoSys K) (ok : COk (dcx P w K mg base n__law_things "_law_things" (defScope (top 105)) f cd A outer s H E)) (rm : Room 2 (dcx P w K mg base n__law_things "_law_things" (defScope (top 105)) f cd A outer s H E).A) (f__law_draw : FK (GK K) P w K mg base "_law_draw" 2 m__law_draw 1) (f__law_of : FK (GK K) P w K mg base "_law_of" 2 m__law_of 2) : PBl (GK K) (dcx P w K mg base n__law_things "_law_things" (defScope (top 105)) f cd A outer s H E) E H (defBody (top 105)) g__law_things := by
  have nd := nd__law_things
  have hu : (dcx P w K mg base n__law_things "_law_things" (defScope (top 105)) f cd A outer s H E).A.units + 1 < cLine := by have := ok.un; omega
  refine pbl_cons ?_ ?_
  · refine @pst_set _ _ _ _ _ _ _ 1 "some" _ nd ?_ rfl (by first | exact Or.inl rfl | exact Or.inr rfl) ?_ (by first | exact .inl rfl | exact .inr rfl)
    · refine PN.toD ?_
      refine pn_lst ?_
      refine pl_cons ?_ ?_
      · exact pd_non
      · refine pl_cons ?_ ?_
        · exact pd_int
        · refine pl_cons ?_ ?_
          · exact pd_bl
          · refine pl_cons ?_ ?_
            · exact pd_bl
            · refine pl_cons ?_ ?_
              · refine pd_neg ?_
                refine PD.toH ?_
                exact pd_int
              · refine pl_cons ?_ ?_
                · refine pd_call (n := 2) (f__law_draw.kn (rm.mono (by decide))) ok.gd (takes_of rfl rfl rfl rfl) rfl ((acons_len (acons_len anil_len))) ?_
                  refine pl_cons ?_ ?_
                  · exact pd_var
                  · refine pl_cons ?_ ?_
                    · refine pd_bin bin_pow ?_ ?_
                      · refine PD.toH ?_
                        exact pd_int
                      · refine PD.toH ?_
                        exact pd_int
                    · exact pl_nil
                · refine pl_cons ?_ ?_
                  · refine pd_bin bin_pow ?_ ?_
                    · refine PD.toH ?_
                      exact pd_int
                    · refine PD.toH ?_
                      exact pd_int
                  · refine pl_cons ?_ ?_
                    · exact pd_str
                    · refine pl_cons ?_ ?_
                      · exact pd_str
                      · refine pl_cons ?_ ?_
                        · exact pd_str
                        · refine pl_cons ?_ ?_
                          · refine @pd_cst _ _ _ _ _ _ ?_
                            kernel_rfl
                          · refine pl_cons ?_ ?_
                            · refine @pd_cst _ _ _ _ _ _ ?_
                              kernel_rfl
                            · refine pl_cons ?_ ?_
                              · refine @pd_cst _ _ _ _ _ _ ?_
                                kernel_rfl
                              · refine pl_cons ?_ ?_
                                · refine @pd_cst _ _ _ _ _ _ ?_
                                  kernel_rfl
                                · refine pl_cons ?_ ?_
                                  · refine PN.toD ?_
                                    refine pn_lst ?_
                                    refine pl_cons ?_ ?_
                                    · refine @pd_cst _ _ _ _ _ _ ?_
                                      kernel_rfl
                                    · refine pl_cons ?_ ?_
                                      · exact pd_dct0
                                      · exact pl_nil
                                  · exact pl_nil
    · rfl
  · refine pbl_cons ?_ ?_
    · refine @pst_set _ _ _ _ _ _ _ 1 "some" _ nd ?_ rfl (by first | exact Or.inl rfl | exact Or.inr rfl) ?_ (by first | exact .inl rfl | exact .inr rfl)
      · refine PN.toD ?_
        refine pn_cat ?_ ?_
        · exact ph_var
        · refine PN.toH ?_
          refine pn_lst ?_
          refine pl_cons ?_ ?_
          · exact pd_dct0
          · refine pl_cons ?_ ?_
            · refine pd_disp ?_ (pps_cons pe_rd pe_rd pps_nil)
              refine ppr_cons ?_ ?_ ?_
              · exact pd_str
              · refine @pd_cst _ _ _ _ _ _ ?_
                kernel_rfl
              · exact ppr_nil
            · refine pl_cons ?_ ?_
              · refine @pd_cst _ _ _ _ _ _ ?_
                kernel_rfl
              · refine pl_cons ?_ ?_
                · refine @pd_cst _ _ _ _ _ _ ?_
                  kernel_rfl
                · refine pl_cons ?_ ?_
                  · exact pd_str
                  · refine pl_cons ?_ ?_
                    · refine @pd_cst _ _ _ _ _ _ ?_
                      kernel_rfl
                    · refine pl_cons ?_ ?_
                      · refine @pd_cst _ _ _ _ _ _ ?_
                        kernel_rfl
                      · refine pl_cons ?_ ?_
                        · refine pd_disp ?_ (pps_cons pe_rd pe_rd pps_nil)
                          refine ppr_cons ?_ ?_ ?_
                          · exact pd_int
                          · refine @pd_cst _ _ _ _ _ _ ?_
                            kernel_rfl
                          · exact ppr_nil
                        · refine pl_cons ?_ ?_
                          · refine @pd_cst _ _ _ _ _ _ ?_
                            kernel_rfl
                          · exact pl_nil
      · rfl
    · refine pbl_one ?_
      refine pst_ret ?_
      refine PN.toD ?_
      refine pn_cat ?_ ?_
      · refine PD.toH ?_
        refine @pd_cst _ _ _ _ _ _ ?_
        kernel_rfl
      · refine PN.toH ?_
        refine pn_lc [("turn", 2)] rfl nd ?_ (blkOk_by rfl) tgok_name (fun s0 H1 C cl fp => (pg_name nd rfl (.inl rfl))) (fun s0 H1 C cl fp => ?_) (fun s0 H1 C cl fp => ?_)
        · refine pit_range1 hb.range ?_
          refine pl_cons ?_ ?_
          · exact pd_int
          · exact pl_nil
        · exact pbs_nil
        · refine pd_call (n := 2) (f__law_of.kn (rm.mono (by decide))) (okb ok).gd L2.takes0 rfl ((acons_len (acons_len anil_len))) ?_
          refine pl_cons ?_ ?_
          · exact pd_var
          · refine pl_cons ?_ ?_
            · exact pd_var
            · exact pl_nil
end
end Pi
namespace Pi
open PySem PySem.Spec PyProof.Rows L2 LamX
section
variable {P : Program} {w : World} {K : PySem.W.Frag} {mg : Str → Option Value} {base : Heap} {f : Addr} {cd : Value} {A : Around} {outer : List PySem.Env} {s : Shared} {H : Hp} {E : XK}
theorem b__law_fields_of (hb : Blt mg) (ns : NoSys K) (ok : COk (dcx P w K mg base n__law_fields_of "_law_fields_of" (defScope (top 106)) f cd A outer s H E)) (rm : Room 0 (dcx P w K mg base n__law_fields_of "_law_fields_of" (defScope (top 106)) f cd A outer s H E).A) (a_most : XatOk K "most" okE) (a_place : XatOk K "place" okE) (a_value : XatOk K "value" okE) (a_word : XatOk K "word" okE) : PBl (GK K) (dcx P w K mg base n__law_fields_of "_law_fields_of" (defScope (top 106)) f cd A outer s H E) E H (defBody (top 106)) g__law_fields_of := by
  have nd := nd__law_fields_of
  have hu : (dcx P w K mg base n__law_fields_of "_law_fields_of" (defScope (top 106)) f cd A outer s H E).A.units + 1 < cLine := by have := ok.un; omega
  refine pbl_cons ?_ ?_
  · refine @pst_set _ _ _ _ _ _ _ 1 "found" _ nd ?_ rfl (by first | exact Or.inl rfl | exact Or.inr rfl) ?_ (by first | exact .inl rfl | exact .inr rfl)
    · refine PN.toD ?_
      refine pn_lst ?_
      refine pl_cons ?_ ?_
      · refine pd_xat a_place ?_
        refine pd_ix ?_ ?_
        · exact ph_var
        · refine PD.toH ?_
          exact pd_int
      · refine pl_cons ?_ ?_
        · refine pd_xat a_place ?_
          refine pd_ix ?_ ?_
          · exact ph_var
          · refine PD.toH ?_
            exact pd_int
        · refine pl_cons ?_ ?_
          · refine pd_xat a_value ?_
            refine pd_ix ?_ ?_
            · exact ph_var
            · refine PD.toH ?_
              exact pd_int
          · refine pl_cons ?_ ?_
            · refine pd_xat a_place ?_
              refine pd_ix ?_ ?_
              · exact ph_var
              · refine PD.toH ?_
                exact pd_int
            · refine pl_cons ?_ ?_
              · refine pd_xat a_value ?_
                refine pd_ix ?_ ?_
                · exact ph_var
                · refine PD.toH ?_
                  exact pd_int
              · refine pl_cons ?_ ?_
                · refine pd_xat a_value ?_
                  refine pd_ix ?_ ?_
                  · exact ph_var
                  · refine PD.toH ?_
                    exact pd_int
                · exact pl_nil
    · rfl
  · refine pbl_one ?_
    refine pst_ret ?_
    refine PN.toD ?_
    refine pn_cat ?_ ?_
    · exact ph_var
    · refine PN.toH ?_
      refine pn_lst ?_
      refine pl_cons ?_ ?_
      · refine pd_xat a_place ?_
        refine pd_ix ?_ ?_
        · exact ph_var
        · refine PD.toH ?_
          exact pd_int
      · refine pl_cons ?_ ?_
        · refine pd_xat a_place ?_
          refine pd_ix ?_ ?_
          · exact ph_var
          · refine PD.toH ?_
            exact pd_int
        · refine pl_cons ?_ ?_
          · refine pd_xat a_value ?_
            refine pd_ix ?_ ?_
            · exact ph_var
            · refine PD.toH ?_
              exact pd_int
          · refine pl_cons ?_ ?_
            · refine pd_xat a_word ?_
              refine pd_ix ?_ ?_
              · exact ph_var
              · refine PD.toH ?_
                exact pd_int
            · refine pl_cons ?_ ?_
              · refine pd_xat a_most ?_
                refine pd_ix ?_ ?_
                · exact ph_var
                · refine PD.toH ?_
                  exact pd_int
              · exact pl_nil
end
end Pi
namespace Pi
open PySem PySem.Spec PyProof.Rows L2 LamX
section
variable {P : Program} {w : World} {K : PySem.W.Frag} {mg : Str → Option Value} {base : Heap} {f : Addr} {cd : Value} {A : Around} {outer : List PySem.Env} {s : Shared} {H : Hp} {E : XK}
theorem b__law_made_right (hb : Blt mg) (ns : NoSys K) (ok : COk (dcx P w K mg base n__law_made_right "_law_made_right" (defScope (top 107)) f cd A outer s H E)) (rm : Room 2 (dcx P w K mg base n__law_made_right "_law_made_right" (defScope (top 107)) f cd A outer s H E).A) (f__law_above : FK (GK K) P w K mg base "_law_above" 1 m__law_above 1) (f__law_fields_of : FK (GK K) P w K mg base "_law_fields_of" 1 m__law_fields_of 1) (f__law_marks : FK (GK K) P w K mg base "_law_marks" 1 m__law_marks 1) (x_BadBox : XF (GK K) P w K mg base "BadBox" eBadBox) (x_BadField : XF (GK K) P w K mg base "BadField" eBadField) (x_BadLot : XF (GK K) P w K mg base "BadLot" eBadLot) (x_BadNumber : XF (GK K) P w K mg base "BadNumber" eBadNumber) (x_BadPaper : XF (GK K) P w K mg base "BadPaper" eBadPaper) (x_BadPlanes : XF (GK K) P w K mg base "BadPlanes" eBadPlanes) (x_BadPoint : XF (GK K) P w K mg base "BadPoint" eBadPoint) (x_BadPoly : XF (GK K) P w K mg base "BadPoly" eBadPoly) (x_BadSystem : XF (GK K) P w K mg base "BadSystem" eBadSystem) (x_BadVectors : XF (GK K) P w K mg base "BadVectors" eBadVectors) (x_TooGreat : XFO (GK K) P w K mg base "TooGreat" eTooGreat) (y_BadBox : XFW (GK K) P w K mg base "BadBox" eBadBox "value") (y_BadField : XFW (GK K) P w K mg base "BadField" eBadField "place") (y_BadLot : XFW (GK K) P w K mg base "BadLot" eBadLot "value") (y_BadNumber : XFW (GK K) P w K mg base "BadNumber" eBadNumber "value") (y_BadPaper : XFW (GK K) P w K mg base "BadPaper" eBadPaper "word") (y_BadPlanes : XFW (GK K) P w K mg base "BadPlanes" eBadPlanes "place") (y_BadPoint : XFW (GK K) P w K mg base "BadPoint" eBadPoint "value") (y_BadPoly : XFW (GK K) P w K mg base "BadPoly" eBadPoly "place") (y_BadSystem : XFW (GK K) P w K mg base "BadSystem" eBadSystem "place") (y_BadVectors : XFW (GK K) P w K mg base "BadVectors" eBadVectors "place") (y_TooGreat : XFWO (GK K) P w K mg base "TooGreat" eTooGreat "most") : PBl (GK K) (dcx P w K mg base n__law_made_right "_law_made_right" (defScope (top 107)) f cd A outer s H E) E H (defBody (top 107)) g__law_made_right := by
  have nd := nd__law_made_right
  have hu : (dcx P w K mg base n__law_made_right "_law_made_right" (defScope (top 107)) f cd A outer s H E).A.units + 1 < cLine := by have := ok.un; omega
  refine pbl_cons ?_ ?_
  · refine @pst_set _ _ _ _ _ _ _ 1 "was" _ nd ?_ rfl (by first | exact Or.inl rfl | exact Or.inr rfl) ?_ (by first | exact .inl rfl | exact .inr rfl)
    · refine pd_blt (call_repr ok ns) cal_repr rfl hb.repr rfl ?_
      refine plh_cons ?_ ?_
      · exact ph_var
      · exact plh_nil
    · rfl
  · refine pbl_cons ?_ ?_
    · refine @pst_set _ _ _ _ _ _ _ 2 "near" _ nd ?_ rfl (by first | exact Or.inl rfl | exact Or.inr rfl) ?_ (by first | exact .inl rfl | exact .inr rfl)
      · refine PN.toD ?_
        refine pn_lst ?_
        refine pl_cons ?_ ?_
        · refine pd_mk (x_BadField.kn (rm.mono (by decide))) rfl rfl rfl ?_
          exact pd_var
        · refine pl_cons ?_ ?_
          · refine pd_mk (x_BadPoly.kn (rm.mono (by decide))) rfl rfl rfl ?_
            exact pd_var
          · refine pl_cons ?_ ?_
            · refine pd_mk (x_BadPoint.kn (rm.mono (by decide))) rfl rfl rfl ?_
              exact pd_var
            · refine pl_cons ?_ ?_
              · refine pd_mk (x_BadSystem.kn (rm.mono (by decide))) rfl rfl rfl ?_
                exact pd_var
              · refine pl_cons ?_ ?_
                · refine pd_mk (x_BadBox.kn (rm.mono (by decide))) rfl rfl rfl ?_
                  exact pd_var
                · refine pl_cons ?_ ?_
                  · refine pd_mk (x_BadLot.kn (rm.mono (by decide))) rfl rfl rfl ?_
                    exact pd_var
                  · exact pl_nil
      · rfl
    · refine pbl_cons ?_ ?_
      · refine @pst_set _ _ _ _ _ _ _ 2 "near" _ nd ?_ rfl (by first | exact Or.inl rfl | exact Or.inr rfl) ?_ (by first | exact .inl rfl | exact .inr rfl)
        · refine PN.toD ?_
          refine pn_cat ?_ ?_
          · exact ph_var
          · refine PN.toH ?_
            refine pn_lst ?_
            refine pl_cons ?_ ?_
            · refine pd_mk (x_BadPlanes.kn (rm.mono (by decide))) rfl rfl rfl ?_
              exact pd_var
            · refine pl_cons ?_ ?_
              · refine pd_mk (x_BadVectors.kn (rm.mono (by decide))) rfl rfl rfl ?_
                exact pd_var
              · refine pl_cons ?_ ?_
                · refine pd_mk (x_BadNumber.kn (rm.mono (by decide))) rfl rfl rfl ?_
                  exact pd_var
                · refine pl_cons ?_ ?_
                  · refine pd_mk (x_BadPaper.kn (rm.mono (by decide))) rfl rfl rfl ?_
                    exact pd_var
                  · refine pl_cons ?_ ?_
                    · refine pd_mkO (x_TooGreat.kn (rm.mono (by decide))) rfl rfl rfl ?_
                      exact pd_var
                    · exact pl_nil
        · rfl
      · refine pbl_cons ?_ ?_
        · refine @pst_set _ _ _ _ _ _ _ 3 "far" _ nd ?_ rfl (by first | exact Or.inl rfl | exact Or.inr rfl) ?_ (by first | exact .inl rfl | exact .inr rfl)
          · refine PN.toD ?_
            refine pn_lst ?_
            refine pl_cons ?_ ?_
            · refine pd_mkW y_BadField (rm.mono (by decide)) rfl rfl rfl ?_
              exact pd_var
            · refine pl_cons ?_ ?_
              · refine pd_mkW y_BadPoly (rm.mono (by decide)) rfl rfl rfl ?_
                exact pd_var
              · refine pl_cons ?_ ?_
                · refine pd_mkW y_BadPoint (rm.mono (by decide)) rfl rfl rfl ?_
                  exact pd_var
                · refine pl_cons ?_ ?_
                  · refine pd_mkW y_BadSystem (rm.mono (by decide)) rfl rfl rfl ?_
                    exact pd_var
                  · exact pl_nil
          · rfl
        · refine pbl_cons ?_ ?_
          · refine @pst_set _ _ _ _ _ _ _ 3 "far" _ nd ?_ rfl (by first | exact Or.inl rfl | exact Or.inr rfl) ?_ (by first | exact .inl rfl | exact .inr rfl)
            · refine PN.toD ?_
              refine pn_cat ?_ ?_
              · exact ph_var
              · refine PN.toH ?_
                refine pn_lst ?_
                refine pl_cons ?_ ?_
                · refine pd_mkW y_BadBox (rm.mono (by decide)) rfl rfl rfl ?_
                  exact pd_var
                · refine pl_cons ?_ ?_
                  · refine pd_mkW y_BadLot (rm.mono (by decide)) rfl rfl rfl ?_
                    exact pd_var
                  · refine pl_cons ?_ ?_
                    · refine pd_mkW y_BadPlanes (rm.mono (by decide)) rfl rfl rfl ?_
                      exact pd_var
                    · refine pl_cons ?_ ?_
                      · refine pd_mkW y_BadVectors (rm.mono (by decide)) rfl rfl rfl ?_
                        exact pd_var
                      · exact pl_nil
            · rfl
          · refine pbl_cons ?_ ?_
            · refine @pst_set _ _ _ _ _ _ _ 3 "far" _ nd ?_ rfl (by first | exact Or.inl rfl | exact Or.inr rfl) ?_ (by first | exact .inl rfl | exact .inr rfl)
              · refine PN.toD ?_
                refine pn_cat ?_ ?_
                · exact ph_var
                · refine PN.toH ?_
                  refine pn_lst ?_
                  refine pl_cons ?_ ?_
                  · refine pd_mkW y_BadNumber (rm.mono (by decide)) rfl rfl rfl ?_
                    exact pd_var
                  · refine pl_cons ?_ ?_
                    · refine pd_mkW y_BadPaper (rm.mono (by decide)) rfl rfl rfl ?_
                      exact pd_var
                    · refine pl_cons ?_ ?_
                      · refine pd_mkWO y_TooGreat (rm.mono (by decide)) rfl rfl rfl ?_
                        exact pd_var
                      · exact pl_nil
              · rfl
            · refine pbl_cons ?_ ?_
              · refine @pst_forT _ _ _ _ _ _ _ _ _ _ _ _ _ _ _ (passes_of rfl) rfl ?_ (pg_name nd rfl (by first | exact Or.inl rfl | exact Or.inr rfl)) tgok_name ?_
                · refine pit_dat ?_
                  refine pd_tup ?_
                  refine pl_cons ?_ ?_
                  · exact pd_var
                  · refine pl_cons ?_ ?_
                    · exact pd_var
                    · exact pl_nil
                · refine pbl_cons ?_ ?_
                  · refine pst_if ?_ ?_ ?_
                    · refine pb_cmp (bin_neX ok ns) ?_ ?_
                      · refine PD.toH ?_
                        refine pd_blt (call_repr ok ns) cal_repr rfl hb.repr rfl ?_
                        refine plh_cons ?_ ?_
                        · refine PD.toH ?_
                          refine pd_call (n := 1) (f__law_fields_of.kn (rm.mono (by decide))) ok.gd (takes_of rfl rfl rfl rfl) rfl ((acons_len anil_len)) ?_
                          refine pl_cons ?_ ?_
                          · exact pd_var
                          · exact pl_nil
                        · exact plh_nil
                      · refine PD.toH ?_
                        refine pd_blt (call_repr ok ns) cal_repr rfl hb.repr rfl ?_
                        refine plh_cons ?_ ?_
                        · refine PN.toH ?_
                          refine pn_rep ?_ ?_
                          · refine PN.toH ?_
                            refine pn_lst ?_
                            refine pl_cons ?_ ?_
                            · exact pd_var
                            · exact pl_nil
                          · refine PD.toH ?_
                            exact pd_int
                        · exact plh_nil
                    · refine pbl_one ?_
                      refine pst_ret ?_
                      exact pd_bl
                    · exact pbl_nil
                  · refine pbl_one ?_
                    refine pst_for (passes_of rfl) rfl ?_ (pg_tupN rfl (pgs_cons (pg_name nd rfl (by first | exact Or.inl rfl | exact Or.inr rfl)) (pgs_cons (pg_name nd rfl (by first | exact Or.inl rfl | exact Or.inr rfl)) pgs_nil))) tgok_tup ?_
                    · refine pit_enumX rfl hb.enumerate ?_
                      refine pl_cons ?_ ?_
                      · exact pd_var
                      · exact pl_nil
                    · refine pbl_cons ?_ ?_
                      · refine @pst_set _ _ _ _ _ _ _ 7 "above" _ nd ?_ rfl (by first | exact Or.inl rfl | exact Or.inr rfl) ?_ (by first | exact .inl rfl | exact .inr rfl)
                        · refine PN.toD ?_
                          refine pn_lst ?_
                          refine pl_cons ?_ ?_
                          · refine pd_cmp (bin_lt ok) ?_ ?_
                            · exact ph_var
                            · refine PD.toH ?_
                              exact pd_int
                          · refine pl_cons ?_ ?_
                            · refine pd_cmp (bin_lt ok) ?_ ?_
                              · exact ph_var
                              · refine PD.toH ?_
                                exact pd_int
                            · refine pl_cons ?_ ?_
                              · refine pd_cmp (bin_eqX ok ns) ?_ ?_
                                · exact ph_var
                                · refine PD.toH ?_
                                  exact pd_int
                              · refine pl_cons ?_ ?_
                                · exact pd_bl
                                · refine pl_cons ?_ ?_
                                  · exact pd_bl
                                  · refine pl_cons ?_ ?_
                                    · exact pd_bl
                                    · refine pl_cons ?_ ?_
                                      · refine pd_cmp (bin_eqX ok ns) ?_ ?_
                                        · exact ph_var
                                        · refine PD.toH ?_
                                          exact pd_int
                                      · refine pl_cons ?_ ?_
                                        · exact pd_bl
                                        · exact pl_nil
                        · rfl
                      · refine pbl_one ?_
                        refine pst_if ?_ ?_ ?_
                        · refine PBW.pb ?_
                          refine pb_or ?_ ?_
                          · refine pb_cmp (bin_neX ok ns) ?_ ?_
                            · refine PD.toH ?_
                              refine pd_call (n := 1) (f__law_marks.kn (rm.mono (by decide))) ok.gd (takes_of rfl rfl rfl rfl) rfl ((acons_len anil_len)) ?_
                              refine pl_cons ?_ ?_
                              · exact pd_var
                              · exact pl_nil
                            · refine PN.toH ?_
                              refine pn_lc [("k", 8)] rfl nd ?_ (blkOk_by rfl) tgok_name (fun s0 H1 C cl fp => (pg_name nd rfl (.inl rfl))) (fun s0 H1 C cl fp => ?_) (fun s0 H1 C cl fp => ?_)
                              · refine pit_range1 hb.range ?_
                                refine pl_cons ?_ ?_
                                · exact pd_int
                                · exact pl_nil
                              · exact pbs_nil
                              · refine pd_cmp (bin_eqX (okb ok) ns) ?_ ?_
                                · exact ph_var
                                · exact ph_var
                          · refine pb_or1 ?_
                            refine pb_cmp (bin_neX ok ns) ?_ ?_
                            · refine PD.toH ?_
                              refine pd_call (n := 1) (f__law_above.kn (rm.mono (by decide))) ok.gd (takes_of rfl rfl rfl rfl) rfl ((acons_len anil_len)) ?_
                              refine pl_cons ?_ ?_
                              · exact pd_var
                              · exact pl_nil
                            · exact ph_var
                        · refine pbl_one ?_
                          refine pst_ret ?_
                          exact pd_bl
                        · exact pbl_nil
              · refine pbl_one ?_
                refine pst_ret ?_
                refine pd_cmp (bin_eqX ok ns) ?_ ?_
                · refine PD.toH ?_
                  refine pd_blt (call_repr ok ns) cal_repr rfl hb.repr rfl ?_
                  refine plh_cons ?_ ?_
                  · exact ph_var
                  · exact plh_nil
                · exact ph_var
end
end Pi
namespace Pi
open PySem PySem.Spec PyProof.Rows L2 LamX
section
variable {P : Program} {w : World} {K : PySem.W.Frag} {mg : Str → Option Value} {base : Heap} {f : Addr} {cd : Value} {A : Around} {outer : List PySem.Env} {s : Shared} {H : Hp} {E : XK}
theorem r__law_raised (hb : Blt mg) (a' : Addr) (pn : List (Addr × Obj)) (gd9 : A.guards = some []) (rm : Room 1 (dcx P w K mg base n__law_raised "_law_raised" (defScope (top 108)) f cd A outer s H fun _ _ _ => False).A) (h__law_marks : FKT (GK K) P w K mg base "_law_marks" 1 m__law_marks) : PD (GK K) (Cx.suite (dcx P w K mg base n__law_raised "_law_raised" (defScope (top 108)) f cd A outer s H fun _ _ _ => False) a' pn) (wE fun _ _ _ => False) H (excE (top 108) 0) f1__law_raised ∧ PD (GK K) (Cx.suite (dcx P w K mg base n__law_raised "_law_raised" (defScope (top 108)) f cd A outer s H fun _ _ _ => False) a' pn) (wE fun _ _ _ => False) H (excE (top 108) 1) f2__law_raised := by
  have hrm : L2H.RoomH 1 (Cx.suite (dcx P w K mg base n__law_raised "_law_raised" (defScope (top 108)) f cd A outer s H fun _ _ _ => False) a' pn).A := ⟨rm.dp, rm.un⟩
  refine ⟨?_, ?_⟩
  · refine PN.toD ?_
    refine pn_cat ?_ ?_
    · refine PD.toH ?_
      refine @pd_cst _ _ _ _ _ _ ?_
      kernel_rfl
    · refine PD.toH ?_
      refine pd_callT (n := 1) h__law_marks hrm gd9 L2.takes0 rfl ((acons_len anil_len)) ?_
      refine pl_cons ?_ ?_
      · exact pd_var
      · exact pl_nil
  · refine PN.toD ?_
    refine pn_cat ?_ ?_
    · refine PD.toH ?_
      refine @pd_cst _ _ _ _ _ _ ?_
      kernel_rfl
    · refine PD.toH ?_
      refine pd_callT (n := 1) h__law_marks hrm gd9 L2.takes0 rfl ((acons_len anil_len)) ?_
      refine pl_cons ?_ ?_
      · exact pd_var
      · exact pl_nil
end
end Pi
namespace Pi
open PySem PySem.Spec PyProof.Rows L2 LamX
section
variable {P : Program} {w : World} {K : PySem.W.Frag} {mg : Str → Option Value} {base : Heap} {f : Addr} {cd : Value} {A : Around} {outer : List PySem.Env} {s : Shared} {H : Hp} {E : XK}
theorem b__law_raised_right (hb : Blt mg) (ns : NoSys K) (ok : COk (dcx P w K mg base n__law_raised_right "_law_raised_right" (defScope (top 109)) f cd A outer s H E)) (rm : Room 10 (dcx P w K mg base n__law_raised_right "_law_raised_right" (defScope (top 109)) f cd A outer s H E).A) (f_check_depth : FK (GK K) P w K mg base "check_depth" 4 m_check_depth 7) (f_depth : FK (GK K) P w K mg base "depth" 3 m_depth 8) (f_need_poly : FK (GK K) P w K mg base "need_poly" 2 m_need_poly 6) (f_norm : FK (GK K) P w K mg base "norm" 2 m_norm 4) (f_nought_lot : FK (GK K) P w K mg base "nought_lot" 2 m_nought_lot 5) (f_points : FK (GK K) P w K mg base "points" 1 m_points 4) (f_rest_in : FK (GK K) P w K mg base "rest_in" 3 m_rest_in 8) (f_uncovered : FK (GK K) P w K mg base "uncovered" 2 m_uncovered 4) (f_value_at : FK (GK K) P w K mg base "value_at" 3 m_value_at 7) (f_zeros : FK (GK K) P w K mg base "zeros" 2 m_zeros 6) (lam : LamK (GK K) (dcx P w K mg base n__law_raised_right "_law_raised_right" (defScope (top 109)) f cd A outer s H E)) (q_raised : RaisF (GK K) P w K mg base "_law_raised" hitC f1__law_raised f2__law_raised) : PBl (GK K) (dcx P w K mg base n__law_raised_right "_law_raised_right" (defScope (top 109)) f cd A outer s H E) E H (defBody (top 109)) g__law_raised_right := by
  have nd := nd__law_raised_right
  have hu : (dcx P w K mg base n__law_raised_right "_law_raised_right" (defScope (top 109)) f cd A outer s H E).A.units + 1 < cLine := by have := ok.un; omega
  refine pbl_cons ?_ ?_
  · refine @pst_unp _ _ _ _ _ _ _ _ _ _ _ rfl ?_ (pgs_cons (pg_name nd rfl (by first | exact Or.inl rfl | exact Or.inr rfl)) (pgs_cons (pg_name nd rfl (by first | exact Or.inl rfl | exact Or.inr rfl)) pgs_nil)) rfl rfl rfl rfl rfl
    refine @pd_cst _ _ _ _ _ _ ?_
    kernel_rfl
  · refine pbl_cons ?_ ?_
    · refine @pst_own _ _ _ _ _ _ _ 0 "said" _ nd ?_ rfl (by first | exact Or.inl rfl | exact Or.inr rfl) ?_ (by first | exact .inl rfl | exact .inr rfl)
      · refine pn_lst ?_
        refine pl_cons ?_ ?_
        · refine @pd_raised _ _ _ _ _ _ _ _ _ _ _ 8 _ _ _ _ q_raised ⟨lam.ex⟩ ok.gd (rm.mono (by decide)) rfl (fun A outer s2 H E f c9 gd9 rm => ?_) (lamS_by rfl) rfl (fun _ _ _ _ _ => rfl) (by decide)
          have ok := lam_ok gd9 rm ok.sys
          refine pd_call (n := 1) (f_points.kn (rm.mono (by decide))) ok.gd (takes_of rfl rfl rfl rfl) rfl ((acons_len anil_len)) ?_
          refine pl_cons ?_ ?_
          · exact pd_non
          · exact pl_nil
        · refine pl_cons ?_ ?_
          · refine @pd_raisedd _ _ _ _ _ _ _ _ "x" _ _ _ _ _ _ 8 _ _ _ _ q_raised ⟨lam.ex⟩ ok.gd (rm.mono (by decide)) rfl (fun A outer s2 H E f c9 gd9 rm => ?_) (lamD_by rfl) rfl rfl (ldBind_by fun _ _ _ _ _ _ _ _ => ⟨_, rfl, rfl⟩) (by decide)
            have ok := lam_ok gd9 rm ok.sys
            refine pd_call (n := 2) (f_need_poly.kn (rm.mono (by decide))) ok.gd (takes_of rfl rfl rfl rfl) rfl ((acons_len (acons_len anil_len))) ?_
            refine pl_cons ?_ ?_
            · exact pd_var
            · refine pl_cons ?_ ?_
              · exact pd_non
              · exact pl_nil
          · exact pl_nil
      · rfl
    · refine pbl_cons ?_ ?_
      · refine @pst_own _ _ _ _ _ _ _ 0 "said" _ nd ?_ rfl (by first | exact Or.inl rfl | exact Or.inr rfl) ?_ (by first | exact .inl rfl | exact .inr rfl)
        · refine pn_cat ?_ ?_
          · exact ph_var
          · refine PN.toH ?_
            refine pn_lst ?_
            refine pl_cons ?_ ?_
            · refine @pd_raised _ _ _ _ _ _ _ _ _ _ _ 8 _ _ _ _ q_raised ⟨lam.ex⟩ ok.gd (rm.mono (by decide)) rfl (fun A outer s2 H E f c9 gd9 rm => ?_) (lamS_by rfl) rfl (fun _ _ _ _ _ => rfl) (by decide)
              have ok := lam_ok gd9 rm ok.sys
              refine pd_call (n := 3) (f_value_at.kn (rm.mono (by decide))) ok.gd (takes_of rfl rfl rfl rfl) rfl ((acons_len (acons_len (acons_len anil_len)))) ?_
              refine pl_cons ?_ ?_
              · exact pd_var
              · refine pl_cons ?_ ?_
                · exact pd_var
                · refine pl_cons ?_ ?_
                  · exact pd_non
                  · exact pl_nil
            · refine pl_cons ?_ ?_
              · refine @pd_raisedd _ _ _ _ _ _ _ _ "x" _ _ _ _ _ _ 8 _ _ _ _ q_raised ⟨lam.ex⟩ ok.gd (rm.mono (by decide)) rfl (fun A outer s2 H E f c9 gd9 rm => ?_) (lamD_by rfl) rfl rfl (ldBind_by fun _ _ _ _ _ _ _ _ => ⟨_, rfl, rfl⟩) (by decide)
                have ok := lam_ok gd9 rm ok.sys
                refine pd_call (n := 2) (f_zeros.kn (rm.mono (by decide))) ok.gd (takes_of rfl rfl rfl rfl) rfl ((acons_len (acons_len anil_len))) ?_
                refine pl_cons ?_ ?_
                · exact pd_var
                · refine pl_cons ?_ ?_
                  · exact pd_non
                  · exact pl_nil
              · exact pl_nil
        · rfl
      · refine pbl_cons ?_ ?_
        · refine @pst_own _ _ _ _ _ _ _ 0 "said" _ nd ?_ rfl (by first | exact Or.inl rfl | exact Or.inr rfl) ?_ (by first | exact .inl rfl | exact .inr rfl)
          · refine pn_cat ?_ ?_
            · exact ph_var
            · refine PN.toH ?_
              refine pn_lst ?_
              refine pl_cons ?_ ?_
              · refine @pd_raised _ _ _ _ _ _ _ _ _ _ _ 8 _ _ _ _ q_raised ⟨lam.ex⟩ ok.gd (rm.mono (by decide)) rfl (fun A outer s2 H E f c9 gd9 rm => ?_) (lamS_by rfl) rfl (fun _ _ _ _ _ => rfl) (by decide)
                have ok := lam_ok gd9 rm ok.sys
                refine pd_call (n := 3) (f_rest_in.kn (rm.mono (by decide))) ok.gd (takes_of rfl rfl rfl rfl) rfl ((acons_len (acons_len (acons_len anil_len)))) ?_
                refine pl_cons ?_ ?_
                · exact pd_var
                · refine pl_cons ?_ ?_
                  · exact pd_var
                  · refine pl_cons ?_ ?_
                    · exact pd_non
                    · exact pl_nil
              · refine pl_cons ?_ ?_
                · refine @pd_raisedd _ _ _ _ _ _ _ _ "x" _ _ _ _ _ _ 8 _ _ _ _ q_raised ⟨lam.ex⟩ ok.gd (rm.mono (by decide)) rfl (fun A outer s2 H E f c9 gd9 rm => ?_) (lamD_by rfl) rfl rfl (ldBind_by fun _ _ _ _ _ _ _ _ => ⟨_, rfl, rfl⟩) (by decide)
                  have ok := lam_ok gd9 rm ok.sys
                  refine pd_call (n := 3) (f_depth.kn (rm.mono (by decide))) ok.gd (takes_of rfl rfl rfl rfl) rfl ((acons_len (acons_len (acons_len anil_len)))) ?_
                  refine pl_cons ?_ ?_
                  · exact pd_var
                  · refine pl_cons ?_ ?_
                    · exact pd_non
                    · refine pl_cons ?_ ?_
                      · refine @pd_cst _ _ _ _ _ _ ?_
                        kernel_rfl
                      · exact pl_nil
                · exact pl_nil
          · rfl
        · refine pbl_cons ?_ ?_
          · refine @pst_own _ _ _ _ _ _ _ 0 "said" _ nd ?_ rfl (by first | exact Or.inl rfl | exact Or.inr rfl) ?_ (by first | exact .inl rfl | exact .inr rfl)
            · refine pn_cat ?_ ?_
              · exact ph_var
              · refine PN.toH ?_
                refine pn_lst ?_
                refine pl_cons ?_ ?_
                · refine @pd_raised _ _ _ _ _ _ _ _ _ _ _ 8 _ _ _ _ q_raised ⟨lam.ex⟩ ok.gd (rm.mono (by decide)) rfl (fun A outer s2 H E f c9 gd9 rm => ?_) (lamS_by rfl) rfl (fun _ _ _ _ _ => rfl) (by decide)
                  have ok := lam_ok gd9 rm ok.sys
                  refine pd_call (n := 2) (f_uncovered.kn (rm.mono (by decide))) ok.gd (takes_of rfl rfl rfl rfl) rfl ((acons_len (acons_len anil_len))) ?_
                  refine pl_cons ?_ ?_
                  · exact pd_var
                  · refine pl_cons ?_ ?_
                    · exact pd_non
                    · exact pl_nil
                · refine pl_cons ?_ ?_
                  · refine @pd_raisedd _ _ _ _ _ _ _ _ "x" _ _ _ _ _ _ 8 _ _ _ _ q_raised ⟨lam.ex⟩ ok.gd (rm.mono (by decide)) rfl (fun A outer s2 H E f c9 gd9 rm => ?_) (lamD_by rfl) rfl rfl (ldBind_by fun _ _ _ _ _ _ _ _ => ⟨_, rfl, rfl⟩) (by decide)
                    have ok := lam_ok gd9 rm ok.sys
                    refine pd_call (n := 2) (f_nought_lot.kn (rm.mono (by decide))) ok.gd (takes_of rfl rfl rfl rfl) rfl ((acons_len (acons_len anil_len))) ?_
                    refine pl_cons ?_ ?_
                    · exact pd_int
                    · refine pl_cons ?_ ?_
                      · exact pd_non
                      · exact pl_nil
                  · exact pl_nil
            · rfl
          · refine pbl_cons ?_ ?_
            · refine @pst_own _ _ _ _ _ _ _ 0 "said" _ nd ?_ rfl (by first | exact Or.inl rfl | exact Or.inr rfl) ?_ (by first | exact .inl rfl | exact .inr rfl)
              · refine pn_cat ?_ ?_
                · exact ph_var
                · refine PN.toH ?_
                  refine pn_lst ?_
                  refine pl_cons ?_ ?_
                  · refine @pd_raised _ _ _ _ _ _ _ _ _ _ _ 8 _ _ _ _ q_raised ⟨lam.ex⟩ ok.gd (rm.mono (by decide)) rfl (fun A outer s2 H E f c9 gd9 rm => ?_) (lamS_by rfl) rfl (fun _ _ _ _ _ => rfl) (by decide)
                    have ok := lam_ok gd9 rm ok.sys
                    refine pd_call (n := 2) (f_norm.kn (rm.mono (by decide))) ok.gd (takes_of rfl rfl rfl rfl) rfl ((acons_len (acons_len anil_len))) ?_
                    refine pl_cons ?_ ?_
                    · exact pd_var
                    · refine pl_cons ?_ ?_
                      · exact pd_int
                      · exact pl_nil
                  · refine pl_cons ?_ ?_
                    · refine @pd_raisedd _ _ _ _ _ _ _ _ "x" _ _ _ _ _ _ 8 _ _ _ _ q_raised ⟨lam.ex⟩ ok.gd (rm.mono (by decide)) rfl (fun A outer s2 H E f c9 gd9 rm => ?_) (lamD_by rfl) rfl rfl (ldBind_by fun _ _ _ _ _ _ _ _ => ⟨_, rfl, rfl⟩) (by decide)
                      have ok := lam_ok gd9 rm ok.sys
                      refine pd_call (n := 4) (f_check_depth.kn (rm.mono (by decide))) ok.gd (takes_of rfl rfl rfl rfl) rfl ((acons_len (acons_len (acons_len (acons_len anil_len))))) ?_
                      refine pl_cons ?_ ?_
                      · exact pd_var
                      · refine pl_cons ?_ ?_
                        · refine @pd_cst _ _ _ _ _ _ ?_
                          kernel_rfl
                        · refine pl_cons ?_ ?_
                          · refine @pd_cst _ _ _ _ _ _ ?_
                            kernel_rfl
                          · refine pl_cons ?_ ?_
                            · exact pd_int
                            · exact pl_nil
                    · exact pl_nil
              · rfl
            · refine pbl_cons ?_ ?_
              · refine pst_app (i := 0) ?_
                refine @pd_raised _ _ _ _ _ _ _ _ _ _ _ 8 _ _ _ _ q_raised ⟨lam.ex⟩ ok.gd (rm.mono (by decide)) rfl (fun A outer s2 H E f c9 gd9 rm => ?_) (lamS_by rfl) rfl (fun _ _ _ _ _ => rfl) (by decide)
                have ok := lam_ok gd9 rm ok.sys
                refine pd_call (n := 3) (f_depth.kn (rm.mono (by decide))) ok.gd (takes_of rfl rfl rfl rfl) rfl ((acons_len (acons_len (acons_len anil_len)))) ?_
                refine pl_cons ?_ ?_
                · refine @pd_cst _ _ _ _ _ _ ?_
                  kernel_rfl
                · refine pl_cons ?_ ?_
                  · refine @pd_cst _ _ _ _ _ _ ?_
                    kernel_rfl
                  · refine pl_cons ?_ ?_
                    · refine @pd_cst _ _ _ _ _ _ ?_
                      kernel_rfl
                    · exact pl_nil
              · refine pbl_cons ?_ ?_
                · refine pst_setLc [("at", 4)] rfl nd ?_ (blkOk_by rfl) tgok_name (fun s0 H1 C cl fp => (pg_name nd rfl (by first | exact Or.inl rfl | exact Or.inr rfl))) (fun s0 H1 C cl fp => ?_) (fun s0 H1 C cl fp => ?_)
                  · refine pit_range1 hb.range ?_
                    refine pl_cons ?_ ?_
                    · exact pd_int
                    · exact pl_nil
                  · exact pbs_nil
                  · refine PN.toD ?_
                    refine pn_cat ?_ ?_
                    · refine PN.toH ?_
                      refine pn_lst ?_
                      refine pl_cons ?_ ?_
                      · refine pd_if ?_ ?_ ?_
                        · refine pb_cmp (bin_lt (okb ok)) ?_ ?_
                          · exact ph_var
                          · refine PD.toH ?_
                            exact pd_int
                        · exact pd_str
                        · exact pd_str
                      · exact pl_nil
                    · refine PN.toH ?_
                      refine pn_lc [("k", 5)] rfl nd ?_ (blkOk_by rfl) tgok_name (fun s0 H1 C cl fp => (pg_name nd rfl (.inl rfl))) (fun s0 H1 C cl fp => ?_) (fun s0 H1 C cl fp => ?_)
                      · refine pit_range1 hb.range ?_
                        refine pl_cons ?_ ?_
                        · exact pd_int
                        · exact pl_nil
                      · exact pbs_nil
                      · refine pd_cmp (bin_eqX (okb (okb ok)) ns) ?_ ?_
                        · exact ph_var
                        · exact ph_var
                · refine pbl_one ?_
                  refine pst_ret ?_
                  refine pd_and ?_ ?_
                  · refine pd_cmp (bin_eqX ok ns) ?_ ?_
                    · exact ph_var
                    · exact ph_var
                  · refine pd_one ?_
                    refine pd_cmp (bin_eqX ok ns) ?_ ?_
                    · refine PD.toH ?_
                      refine @pd_raised _ _ _ _ _ _ _ _ _ _ _ 8 _ _ _ _ q_raised ⟨lam.ex⟩ ok.gd (rm.mono (by decide)) rfl (fun A outer s2 H E f c9 gd9 rm => ?_) (lamS_by rfl) rfl (fun _ _ _ _ _ => rfl) (by decide)
                      have ok := lam_ok gd9 rm ok.sys
                      refine pd_call (n := 1) (f_points.kn (rm.mono (by decide))) ok.gd (takes_of rfl rfl rfl rfl) rfl ((acons_len anil_len)) ?_
                      refine pl_cons ?_ ?_
                      · exact pd_var
                      · exact pl_nil
                    · refine PD.toH ?_
                      refine @pd_cst _ _ _ _ _ _ ?_
                      kernel_rfl
end
end Pi
namespace Pi
open PySem PySem.Spec PyProof.Rows L2 LamX
section
variable {P : Program} {w : World} {K : PySem.W.Frag} {mg : Str → Option Value} {base : Heap} {f : Addr} {cd : Value} {A : Around} {outer : List PySem.Env} {s : Shared} {H : Hp} {E : XK}
theorem b_law (hb : Blt mg) (ns : NoSys K) (ok : COk (dcx P w K mg base n_law "law" (defScope (top 110)) f cd A outer s H E)) (rm : Room 11 (dcx P w K mg base n_law "law" (defScope (top 110)) f cd A outer s H E).A) (f__law_above : FK (GK K) P w K mg base "_law_above" 1 m__law_above 1) (f__law_begun : FK (GK K) P w K mg base "_law_begun" 2 m__law_begun 1) (f__law_made_right : FK (GK K) P w K mg base "_law_made_right" 1 m__law_made_right 3) (f__law_marks : FK (GK K) P w K mg base "_law_marks" 1 m__law_marks 1) (f__law_raised_right : FK (GK K) P w K mg base "_law_raised_right" 0 m__law_raised_right 11) (f__law_things : FK (GK K) P w K mg base "_law_things" 1 m__law_things 3) (r_RestError : XBare P w K mg "RestError") (s_str : StrOk K okS) : PBl (GK K) (dcx P w K mg base n_law "law" (defScope (top 110)) f cd A outer s H E) E H (defBody (top 110)) g_law := by
  have nd := nd_law
  have hu : (dcx P w K mg base n_law "law" (defScope (top 110)) f cd A outer s H E).A.units + 1 < cLine := by have := ok.un; omega
  refine pbl_cons ?_ ?_
  · refine pst_for (passes_of rfl) rfl ?_ (pg_name nd rfl (by first | exact Or.inl rfl | exact Or.inr rfl)) tgok_name ?_
    · refine pit_range1 hb.range ?_
      refine pl_cons ?_ ?_
      · refine pd_bin bin_add ?_ ?_
        · refine PD.toH ?_
          exact pd_int
        · refine PD.toH ?_
          refine pd_blt (call_min2 rfl) cal_min2 rfl hb.min rfl ?_
          refine plh_cons ?_ ?_
          · refine PD.toH ?_
            refine pd_blt call_lenX cal_len rfl hb.len rfl ?_
            refine plh_cons ?_ ?_
            · exact ph_var
            · exact plh_nil
          · refine plh_cons ?_ ?_
            · refine PD.toH ?_
              exact pd_int
            · exact plh_nil
      · exact pl_nil
    · refine pbl_cons ?_ ?_
      · refine @pst_set _ _ _ _ _ _ _ 3 "m" _ nd ?_ rfl (by first | exact Or.inl rfl | exact Or.inr rfl) ?_ (by first | exact .inl rfl | exact .inr rfl)
        · refine pd_call (n := 2) (f__law_begun.kn (rm.mono (by decide))) ok.gd (takes_of rfl rfl rfl rfl) rfl ((acons_len (acons_len anil_len))) ?_
          refine pl_cons ?_ ?_
          · exact pd_var
          · refine pl_cons ?_ ?_
            · exact pd_var
            · exact pl_nil
        · rfl
      · refine pbl_one ?_
        refine pst_if ?_ ?_ ?_
        · refine pb_cmp (bin_neX ok ns) ?_ ?_
          · refine PN.toH ?_
            refine pn_lc [("thing", 5)] rfl nd ?_ (blkOk_by rfl) tgok_name (fun s0 H1 C cl fp => (pg_name nd rfl (.inl rfl))) (fun s0 H1 C cl fp => ?_) (fun s0 H1 C cl fp => ?_)
            · refine pit_dat ?_
              refine pd_call (n := 1) (f__law_things.kn (rm.mono (by decide))) ok.gd (takes_of rfl rfl rfl rfl) rfl ((acons_len anil_len)) ?_
              refine pl_cons ?_ ?_
              · exact pd_var
              · exact pl_nil
            · refine pbs_one ?_
              refine pb_not ?_
              refine pb_of ?_
              refine pd_call (n := 1) (f__law_made_right.kn (rm.mono (by decide))) (okb ok).gd L2.takes0 rfl ((acons_len anil_len)) ?_
              refine pl_cons ?_ ?_
              · exact pd_var
              · exact pl_nil
            · exact pd_var
          · refine PD.toH ?_
            refine @pd_cst _ _ _ _ _ _ ?_
            kernel_rfl
        · refine pbl_one ?_
          refine pst_ret ?_
          exact pd_bl
        · exact pbl_nil
  · refine pbl_cons ?_ ?_
    · refine @pst_forT _ _ _ _ _ _ _ _ _ _ _ _ _ _ _ (passes_of rfl) rfl ?_ (pg_name nd rfl (by first | exact Or.inl rfl | exact Or.inr rfl)) tgok_name ?_
      · refine pit_dat ?_
        refine @pd_cst _ _ _ _ _ _ ?_
        kernel_rfl
      · refine pbl_cons ?_ ?_
        · refine @pst_set _ _ _ _ _ _ _ 4 "bare" _ nd ?_ rfl (by first | exact Or.inl rfl | exact Or.inr rfl) ?_ (by first | exact .inl rfl | exact .inr rfl)
          · refine pd_bare r_RestError rfl ?_
            exact pd_var
          · rfl
        · refine pbl_cons ?_ ?_
          · refine pst_if ?_ ?_ ?_
            · refine PBW.pb ?_
              refine pb_or ?_ ?_
              · refine pb_cmp (bin_neX ok ns) ?_ ?_
                · refine PD.toH ?_
                  refine pd_call (n := 1) (f__law_marks.kn (rm.mono (by decide))) ok.gd (takes_of rfl rfl rfl rfl) rfl ((acons_len anil_len)) ?_
                  refine pl_cons ?_ ?_
                  · exact pd_var
                  · exact pl_nil
                · refine PN.toH ?_
                  refine pn_rep ?_ ?_
                  · refine PD.toH ?_
                    refine @pd_cst _ _ _ _ _ _ ?_
                    kernel_rfl
                  · refine PD.toH ?_
                    exact pd_int
              · refine pb_or1 ?_
                refine pb_cmp (bin_neX ok ns) ?_ ?_
                · refine PD.toH ?_
                  refine pd_strX s_str (by have := ok.un; omega) rfl hb.str ?_
                  exact pd_var
                · exact ph_var
            · refine pbl_one ?_
              refine pst_ret ?_
              exact pd_bl
            · exact pbl_nil
          · refine pbl_one ?_
            refine pst_if ?_ ?_ ?_
            · refine pb_cmp (bin_neX ok ns) ?_ ?_
              · refine PD.toH ?_
                refine pd_call (n := 1) (f__law_above.kn (rm.mono (by decide))) ok.gd (takes_of rfl rfl rfl rfl) rfl ((acons_len anil_len)) ?_
                refine pl_cons ?_ ?_
                · exact pd_var
                · exact pl_nil
              · refine PD.toH ?_
                refine @pd_cst _ _ _ _ _ _ ?_
                kernel_rfl
            · refine pbl_one ?_
              refine pst_ret ?_
              exact pd_bl
            · exact pbl_nil
    · refine pbl_one ?_
      refine pst_ret ?_
      exact pd_call0 (f__law_raised_right.kn (rm.mono (by decide))) ok.gd (takes_of rfl rfl rfl rfl) rfl
end
end Pi
namespace Pi
open PySem PySem.Spec PyProof.Rows L2
def topB : D → Bool
  | .obj _ => false
  | .exc _ _ _ => false
  | .ktp _ => false
  | .kls _ => false
  | .dcx _ => false
  | .bex _ _ => false
  | _ => true
mutual
def D.pl : D → Bool
  | .tup xs => D.plAll xs
  | .lst xs => D.plAll xs
  | .dct kvs => D.plKv kvs
  | .obj _ => false
  | .exc _ _ _ => false
  | .ktp _ => false
  | .kls _ => false
  | .dcx _ => false
  | .bex _ _ => false
  | _ => true
def D.plAll : List D → Bool
  | [] => true
  | x :: xs => D.pl x && D.plAll xs
def D.plKv : List (Key × D) → Bool
  | [] => true
  | (_, x) :: xs => D.pl x && D.plKv xs
end
theorem pl_top {x : D} (h : x.pl = true) : topB x = true := by
  cases x <;> first | rfl | (simp [D.pl] at h)
theorem plAll_iff {xs : List D} : D.plAll xs = true ↔ ∀ x ∈ xs, x.pl = true := by
  induction xs with
  | nil => simp [D.plAll]
  | cons x xs ih => simp [D.plAll, ih]
theorem pl_lst {xs : List D} : (D.lst xs).pl = true ↔ ∀ x ∈ xs, x.pl = true := by
  rw [← plAll_iff]
  simp [D.pl]
mutual
theorem pl_still : ∀ x : D, x.pl = true → x.still = true
  | .non, _ => by simp [D.still]
  | .bl _, _ => by simp [D.still]
  | .int _, _ => by simp [D.still]
  | .str _, _ => by simp [D.still]
  | .tup xs, h => by simp only [D.still]; exact pl_stillAll xs (by simpa [D.pl] using h)
  | .lst xs, h => by simp only [D.still]; exact pl_stillAll xs (by simpa [D.pl] using h)
  | .dct kvs, h => by simp only [D.still]; exact pl_stillKv kvs (by simpa [D.pl] using h)
  | .obj _, h => by simp [D.pl] at h
  | .exc _ _ _, h => by simp [D.pl] at h
  | .ktp _, h => by simp [D.pl] at h
  | .kls _, h => by simp [D.pl] at h
  | .dcx _, h => by simp [D.pl] at h
  | .bex _ _, h => by simp [D.pl] at h
theorem pl_stillAll : ∀ xs : List D, D.plAll xs = true → D.stillAll xs = true
  | [], _ => by simp [D.stillAll]
  | x :: xs, h => by
    have h' : x.pl = true ∧ D.plAll xs = true := by simpa [D.plAll] using h
    simp [D.stillAll, pl_still x h'.1, pl_stillAll xs h'.2]
theorem pl_stillKv : ∀ xs : List (Key × D), D.plKv xs = true → D.stillKv xs = true
  | [], _ => by simp [D.stillKv]
  | (_, x) :: xs, h => by
    have h' : x.pl = true ∧ D.plKv xs = true := by simpa [D.plKv] using h
    simp [D.stillKv, pl_still x h'.1, pl_stillKv xs h'.2]
end
mutual
def D.short : D → Bool
  | .tup xs => decide (xs.length ≤ 16777216) && D.shortAll xs
  | .lst xs => decide (xs.length ≤ 16777216) && D.shortAll xs
  | _ => true
def D.shortAll : List D → Bool
  | [] => true
  | x :: xs => D.short x && D.shortAll xs
end
theorem shortAll_iff {xs : List D} : D.shortAll xs = true ↔ ∀ x ∈ xs, x.short = true := by
  induction xs with
  | nil => simp [D.shortAll]
  | cons x xs ih => simp [D.shortAll, ih]
theorem lim1 {b : Type} (x : b) (st : St) : lim 1 x st = .ok x st := q_lim (by decide)
@[simp] theorem q_eTup (f : Env → Mo (List D)) (r : Env) (st : St) : eTup f r st = match f r st with
  | .ok x st' => lim x.length (D.tup x) st'
  | .err k x st' => .err k x st'
  | .bad => .bad := by
  unfold eTup
  rw [q_bind]
  cases f r st <;> rfl
@[simp] theorem q_nLst (f : Env → Mo (List D)) (r : Env) (st : St) : nLst f r st = match f r st with
  | .ok x st' => lim x.length x st'
  | .err k x st' => .err k x st'
  | .bad => .bad := by
  unfold nLst
  rw [q_bind]
  cases f r st <;> rfl
theorem textFrom_le {n : Nat} : ∀ (ts : List Str) (k : Nat) (acc : Str), (∀ t ∈ ts, t.length ≤ n) → (textFrom k acc ts).length ≤ acc.length + (n + 2) * ts.length
  | [], k, acc, _ => by show acc.length ≤ acc.length + (n + 2) * 0; omega
  | t :: r, k, acc, h => by
    have ih := textFrom_le r (k + 1) (acc ++ (if k > 0 then ", " else "" : String) ++ t) fun u hu => h u (by simp [hu])
    have e : (acc ++ (if k > 0 then ", " else "" : String) ++ t).length = acc.length + (if k > 0 then 2 else 0) + t.length := by
      rw [strLen_append, strLen_append]
      split <;> rfl
    have ht := h t (by simp)
    rw [e] at ih
    show (textFrom (k + 1) _ r).length ≤ _
    have d1 : (if k > 0 then 2 else 0 : Nat) ≤ 2 := by split <;> omega
    have m : (n + 2) * (t :: r).length = (n + 2) * r.length + (n + 2) := by rw [List.length_cons, Nat.mul_succ]
    rw [m]
    omega
theorem shownAll_len : ∀ xs : List D, (PyData.shownAll (D.pyAll xs)).length = xs.length
  | [] => by simp [D.pyAll, PyData.shownAll]
  | x :: xs => by simp [D.pyAll, PyData.shownAll, shownAll_len xs]
theorem shownAll_le {n : Nat} : ∀ xs : List D, (∀ x ∈ xs, x.py.shown.length ≤ n) → ∀ t ∈ PyData.shownAll (D.pyAll xs), t.length ≤ n
  | [], _, t, h => by simp [D.pyAll, PyData.shownAll] at h
  | x :: xs, hx, t, h => by
    simp only [D.pyAll, PyData.shownAll, List.mem_cons] at h
    rcases h with rfl | h
    · exact hx x (by simp)
    · exact shownAll_le xs (fun y hy => hx y (by simp [hy])) t h
theorem showableAll_of : ∀ xs : List D, (∀ x ∈ xs, x.py.showable = true) → PyData.showableAll (D.pyAll xs) = true
  | [], _ => by simp [D.pyAll, PyData.showableAll]
  | x :: xs, h => by simp [D.pyAll, PyData.showableAll, h x (by simp), showableAll_of xs fun y hy => h y (by simp [hy])]
theorem depthAll_le {k : Nat} : ∀ xs : List D, (∀ x ∈ xs, x.py.depth ≤ k) → PyData.depthAll (D.pyAll xs) ≤ k
  | [], _ => by simp [D.pyAll, PyData.depthAll]
  | x :: xs, h => by
    have h1 := h x (by simp)
    have h2 := depthAll_le xs fun y hy => h y (by simp [hy])
    simp only [D.pyAll, PyData.depthAll]
    omega
structure Bd (n k : Nat) (d : D) : Prop where
  pl : d.pl = true
  ss : d.short = true
  sh : d.py.showable = true
  dp : d.py.depth ≤ k
  ln : d.py.shown.length ≤ n
theorem Bd.mono {n k n' k' : Nat} {d : D} (h : Bd n k d) (hn : n ≤ n') (hk : k ≤ k') : Bd n' k' d := ⟨h.pl, h.ss, h.sh, Nat.le_trans h.dp hk, Nat.le_trans h.ln hn⟩
theorem Bd.top {n k : Nat} {d : D} (h : Bd n k d) : topB d = true := pl_top h.pl
theorem bd_lst {n k l : Nat} {xs : List D} (h : ∀ x ∈ xs, Bd n k x) (hl : xs.length ≤ l) (hm : l ≤ 16777216) : Bd ((n + 2) * l + 3) (k + 1) (.lst xs) where
  pl := pl_lst.mpr fun x hx => (h x hx).pl
  ss := by
    have : D.shortAll xs = true := shortAll_iff.mpr fun x hx => (h x hx).ss
    simp only [D.short, this, Bool.and_true, decide_eq_true_eq]
    omega
  sh := by
    show (PyData.list (D.pyAll xs)).showable = true
    simp only [PyData.showable]
    exact showableAll_of xs fun x hx => (h x hx).sh
  dp := by
    have := depthAll_le (k := k) xs fun x hx => (h x hx).dp
    show (PyData.list (D.pyAll xs)).depth ≤ _
    simp only [PyData.depth]
    omega
  ln := by
    show (PyData.list (D.pyAll xs)).shown.length ≤ _
    simp only [PyData.shown]
    unfold listText
    rw [strLen_append]
    have j := textFrom_le (n := n) (PyData.shownAll (D.pyAll xs)) 0 "[" (shownAll_le xs fun x hx => (h x hx).ln)
    rw [shownAll_len] at j
    have m := Nat.mul_le_mul_left (n + 2) hl
    have a1 : (("[" : String) : Str).length = 1 := rfl
    have a2 : (("]" : String) : Str).length = 1 := rfl
    omega
def bdB (n k : Nat) (d : D) : Bool := d.pl && (d.short && (d.py.showable && (Nat.ble d.py.depth k && Nat.ble d.py.shown.length n)))
theorem bd_of {n k : Nat} {d : D} (h : bdB n k d = true) : Bd n k d := by
  unfold bdB at h
  simp only [Bool.and_eq_true] at h
  exact ⟨h.1, h.2.1, h.2.2.1, Nat.le_of_ble_eq_true h.2.2.2.1, Nat.le_of_ble_eq_true h.2.2.2.2⟩
theorem repr_q {d : D} {n k : Nat} (h : Bd n k d) (hn : n ≤ 16777216) (hk : k ≤ 190) : oRepr [d] = some (.str d.py.shown) := by
  have e : reprOk d = true := by
    unfold reprOk
    rw [pl_still d h.pl, h.sh, Nat.ble_eq_true_of_le (Nat.le_trans h.dp hk), Nat.ble_eq_true_of_le (Nat.le_trans h.ln hn)]
    rfl
  show (match reprOk d with
    | true => some (D.str d.py.shown)
    | false => none) = _
  rw [e]
def parR (i j : Nat) (r : Env) : Res (List D) → Res Fl
  | .ok [x, y] st => .ok (.nx ((r.set i (some (.d x))).set j (some (.d y)))) st
  | .ok _ _ => .bad
  | .err c x st => .err c x st
  | .bad => .bad
@[simp] theorem parR_ok (i j : Nat) (r : Env) (x y : D) (st : St) : parR i j r (.ok [x, y] st) = .ok (.nx ((r.set i (some (.d x))).set j (some (.d y)))) st := rfl
@[simp] theorem q_sPar (i j : Nat) (f : Env → Mo (List D)) (r : Env) (st : St) : sPar i j f r st = parR i j r (f r st) := by
  unfold sPar
  rw [q_bind]
  cases f r st with
  | ok x st' =>
    match x with
    | [] => rfl
    | [_] => rfl
    | [_, _] => rfl
    | _ :: _ :: _ :: _ => rfl
  | err c x st' => rfl
  | bad => rfl
def parR3 (i j l : Nat) (r : Env) : Res (List D) → Res Fl
  | .ok [x, y, z] st => .ok (.nx (((r.set i (some (.d x))).set j (some (.d y))).set l (some (.d z)))) st
  | .ok _ _ => .bad
  | .err c x st => .err c x st
  | .bad => .bad
@[simp] theorem parR3_ok (i j l : Nat) (r : Env) (x y z : D) (st : St) : parR3 i j l r (.ok [x, y, z] st) = .ok (.nx (((r.set i (some (.d x))).set j (some (.d y))).set l (some (.d z)))) st := rfl
@[simp] theorem q_sPar3 (i j l : Nat) (f : Env → Mo (List D)) (r : Env) (st : St) : sPar3 i j l f r st = parR3 i j l r (f r st) := by
  unfold sPar3
  rw [q_bind]
  cases f r st with
  | ok x st' =>
    match x with
    | [] => rfl
    | [_] => rfl
    | [_, _] => rfl
    | [_, _, _] => rfl
    | _ :: _ :: _ :: _ :: _ => rfl
  | err c x st' => rfl
  | bad => rfl
def cell (l s : Int) (c : List Int) (p : Int) : MO := .dk [(.inr "left", .int l), (.inr "seed", .int s), (.inr "cells", .lst (c.map .int)), (.inr "spot", .int p)]
structure Gd (st : St) (n b : Nat) : Prop where
  ex : ∃ (l s : Int) (c : List Int) (p : Int), st[n]? = some (cell l s c p) ∧ c ≠ [] ∧ 0 ≤ p ∧ p ≤ b
theorem Gd.mono {st : St} {n b b' : Nat} (h : Gd st n b) (e : b ≤ b') : Gd st n b' := by
  obtain ⟨l, s, c, p, h1, h2, h3, h4⟩ := h.ex
  exact ⟨l, s, c, p, h1, h2, h3, by omega⟩
def getR (x y : D) : Mo D := Mo.opt x.at >>= fun n => Mo.opt y.key >>= fun k => stGet n k
def putR (x y z : D) (r : Env) : Mo Fl := Mo.opt x.at >>= fun n => Mo.opt y.key >>= fun k => stPut n k z >>= fun _ => pure (.nx r)
section
variable (r : Env) (st : St)
@[simp] theorem q_eGet (f g : Env → Mo D) : eGet f g r st = match f r st with
  | .ok x st' => (match g r st' with
    | .ok y st2 => getR x y st2
    | .err k x st' => .err k x st'
    | .bad => .bad)
  | .err k x st' => .err k x st'
  | .bad => .bad := by
  unfold eGet
  rw [q_bind]
  cases f r st with
  | ok x st' =>
    dsimp only
    rw [q_bind]
    cases g r st' <;> rfl
  | err c x st' => rfl
  | bad => rfl
@[simp] theorem q_sPut (f g h : Env → Mo D) : sPut f g h r st = match h r st with
  | .ok z st' => (match f r st' with
    | .ok x st2 => (match g r st2 with
      | .ok y st3 => putR x y z r st3
      | .err k x st' => .err k x st'
      | .bad => .bad)
    | .err k x st' => .err k x st'
    | .bad => .bad)
  | .err k x st' => .err k x st'
  | .bad => .bad := by
  unfold sPut
  rw [q_bind]
  cases h r st with
  | ok x st' =>
    dsimp only
    rw [q_bind]
    cases f r st' with
    | ok y st2 =>
      dsimp only
      rw [q_bind]
      cases g r st2 <;> rfl
    | err c x st' => rfl
    | bad => rfl
  | err c x st' => rfl
  | bad => rfl
end
section
variable {l s : Int} {c : List Int} {p : Int} {n : Nat} {st : St}
theorem getR_cell {k : Str} {x : D} (h : st[n]? = some (cell l s c p)) (e : getD (.inr k) [(.inr "left", .int l), (.inr "seed", .int s), (.inr "cells", .lst (c.map .int)), (.inr "spot", .int p)] = some x) : getR (.obj n) (.str k) st = .ok x st := by
  show stGet n (.inr k) st = _
  unfold stGet
  rw [h]
  show (match getD (.inr k) [(.inr "left", .int l), (.inr "seed", .int s), (.inr "cells", .lst (c.map .int)), (.inr "spot", .int p)] with
    | some x => Res.ok x st
    | none => .bad) = _
  rw [e]
theorem putR_cell {k : Str} {z : D} {r : Env} {m : MO} (h : st[n]? = some (cell l s c p)) (e : MO.dk (putD [(.inr "left", .int l), (.inr "seed", .int s), (.inr "cells", .lst (c.map .int)), (.inr "spot", .int p)] (.inr k) z) = m) : putR (.obj n) (.str k) z r st = .ok (.nx r) (st.set n m) := by
  show (stPut n (.inr k) z >>= fun _ => pure (Fl.nx r)) st = _
  rw [q_bind]
  have : stPut n (.inr k) z st = .ok () (st.set n m) := by
    unfold stPut
    rw [h]
    show Res.ok () (st.set n (MO.dk (putD [(.inr "left", .int l), (.inr "seed", .int s), (.inr "cells", .lst (c.map .int)), (.inr "spot", .int p)] (.inr k) z))) = _
    rw [e]
  rw [this]
  rfl
theorem get_left (h : st[n]? = some (cell l s c p)) : getR (.obj n) (.str "left") st = .ok (.int l) st := getR_cell h (by kernel_rfl)
theorem get_seed (h : st[n]? = some (cell l s c p)) : getR (.obj n) (.str "seed") st = .ok (.int s) st := getR_cell h (by kernel_rfl)
theorem get_cells (h : st[n]? = some (cell l s c p)) : getR (.obj n) (.str "cells") st = .ok (.lst (c.map .int)) st := getR_cell h (by kernel_rfl)
theorem get_spot (h : st[n]? = some (cell l s c p)) : getR (.obj n) (.str "spot") st = .ok (.int p) st := getR_cell h (by kernel_rfl)
theorem put_left {z : Int} {r : Env} (h : st[n]? = some (cell l s c p)) : putR (.obj n) (.str "left") (.int z) r st = .ok (.nx r) (st.set n (cell z s c p)) := putR_cell h (by kernel_rfl)
theorem put_spot {z : Int} {r : Env} (h : st[n]? = some (cell l s c p)) : putR (.obj n) (.str "spot") (.int z) r st = .ok (.nx r) (st.set n (cell l s c z)) := putR_cell h (by kernel_rfl)
theorem set_cell {m : MO} (h : st[n]? = some (cell l s c p)) : (st.set n m)[n]? = some m := by
  rw [List.getElem?_set_self (List.getElem?_eq_some_iff.mp h).1]
end
theorem small_of {i : Int} (h1 : -18446744073709551616 < i) (h2 : i < 18446744073709551616) : smallI i = true := by
  unfold smallI big
  simp only [Bool.and_eq_true, decide_eq_true_eq]
  exact ⟨h1, h2⟩
@[simp] theorem q_intI (i : Int) : oInt [.int i] = some (.int i) := rfl
theorem ix_mod {c : List Int} (hc : c ≠ []) (p : Int) : ∃ v, oIx (.lst (c.map .int)) (.int (p % (c.length : Nat))) = some (.int v) := by
  have l0 : 0 < c.length := List.length_pos_iff.mpr hc
  have h1 : 0 ≤ p % (c.length : Nat) := Int.emod_nonneg _ (by omega)
  have h2 : p % (c.length : Nat) < (c.length : Nat) := Int.emod_lt_of_pos _ (by omega)
  obtain ⟨k, hk⟩ := Int.eq_ofNat_of_zero_le h1
  rw [hk] at h2 ⊢
  have h3 : k < (c.map D.int).length := by
    rw [List.length_map]
    omega
  refine ⟨c[k]'(by simpa using h3), ?_⟩
  rw [q_ixL h3]
  simp
def top0 : Nat := 1000000000
theorem draw_q {st : St} {n b : Nat} {many : Int} (g : Gd st n b) (hb : b ≤ top0) (m1 : 1 ≤ many) (m2 : many ≤ 1000000) : ∃ (v : Int) (st' : St), m__law_draw [.obj n, .int many] st = .ok (.int v) st' ∧ 0 ≤ v ∧ v < many ∧ Gd st' n (b + 1) := by
  obtain ⟨l, s, c, p, h, hc, p0, p1⟩ := g.ex
  unfold top0 at hb
  have hm : 0 < many := by omega
  by_cases hl : 0 < l
  · refine ⟨l % many, st.set n (cell (l / many) s c p), ?_, Int.emod_nonneg _ (by omega), Int.emod_lt_of_pos _ hm, ⟨_, _, _, _, set_cell h, hc, p0, by omega⟩⟩
    simp [m__law_draw, q_run, g__law_draw, get_left h, hl, q_modI hm, q_fdivI hm (by omega), put_left h]
  · obtain ⟨v, hv⟩ := ix_mod hc p
    have h2 := set_cell (m := cell l s c (p + 1)) h
    have k1 : smallI 40503 = true := by decide
    have k2 : smallI p = true := small_of (by omega) (by omega)
    have k3 : smallI (2 * p + 3) = true := small_of (by omega) (by omega)
    have k4 : smallI 2 = true := by decide
    have k5 : smallI 69621 = true := by decide
    have k6 : smallI 48271 = true := by decide
    have lenc : 0 < ((c.length : Nat) : Int) := by
      have := List.length_pos_iff.mpr hc
      omega
    generalize hB : (v * (2 * p + 3) + (s + 40503 * p * p)) % 2147483647 = B
    have B0 : 0 ≤ B := by
      rw [← hB]
      exact Int.emod_nonneg _ (by decide)
    have B1 : B < 2147483647 := by
      rw [← hB]
      exact Int.emod_lt_of_pos _ (by decide)
    have k7 : smallI B = true := small_of (by omega) (by omega)
    generalize hC : (B * B + 69621 * p + s) % 2147483629 = C
    have dl : decide (0 < l) = false := decide_eq_false hl
    refine ⟨(C * 48271 + p) % 2147483647 / 11 % many, st.set n (cell l s c (p + 1)), ?_, Int.emod_nonneg _ (by omega), Int.emod_lt_of_pos _ hm, ⟨_, _, _, _, h2, hc, by omega, by omega⟩⟩
    simp [m__law_draw, q_run, g__law_draw, get_left h, dl, get_spot h, put_spot h, get_cells h2, get_seed h2, q_mulI (.inl k1), q_mulI (.inr k2), q_mulI (.inl k4), q_mulI (.inr k3), q_mulI (.inl k5), q_mulI (.inr k6), q_modI lenc, hv, q_modI (show (0 : Int) < 2147483647 by decide), hB, q_mulI (.inl k7), q_modI (show (0 : Int) < 2147483629 by decide), hC, q_fdivI (show (0 : Int) < 11 by decide) (by decide), q_modI hm]
theorem law_of_q {st : St} {n b : Nat} {xs : List D} (g : Gd st n b) (hb : b ≤ top0) (h : xs ≠ []) (l : xs.length ≤ 1000000) : ∃ (x : D) (st' : St), m__law_of [.obj n, .lst xs] st = .ok x st' ∧ x ∈ xs ∧ Gd st' n (b + 1) := by
  have l0 : 0 < xs.length := List.length_pos_iff.mpr h
  obtain ⟨v, st', e, v0, v1, g'⟩ := draw_q (many := (xs.length : Nat)) g hb (by omega) (by omega)
  obtain ⟨k, hk⟩ := Int.eq_ofNat_of_zero_le v0
  subst hk
  have hk : k < xs.length := by omega
  refine ⟨xs[k], st', ?_, List.getElem_mem hk, g'⟩
  simp [m__law_of, q_run, g__law_of, e, q_ixL hk]
theorem cut_ints (ns : List Int) (lo hi : Option Int) : ∃ ms : List Int, cutD (ns.map D.int) lo hi = ms.map D.int ∧ ms.length ≤ ns.length := by
  refine ⟨(ns.drop (sx ns.length 0 lo)).take (sx ns.length ns.length hi - sx ns.length 0 lo), ?_, ?_⟩
  · unfold cutD
    rw [List.length_map, List.map_take, List.map_drop]
  · rw [List.length_take, List.length_drop]
    omega
@[simp] theorem q_nSliceK (xs : List D) (f : Env → Mo D) (lo hi : Env → Mo (Option Int)) (r : Env) (st : St) (l u : Option Int) (h1 : f r st = .ok (.kls xs) st) (h2 : lo r st = .ok l st) (h3 : hi r st = .ok u st) : nSlice f lo hi r st = .ok (cutD xs l u) st := by
  unfold nSlice
  rw [q_bind, h1]
  dsimp only
  rw [q_bind, h2]
  dsimp only
  rw [q_bind, h3]
  rfl
theorem q_nCat {f g : Env → Mo D} {r : Env} {st st1 st2 : St} {xs ys : List D} (h1 : f r st = .ok (.lst xs) st1) (h2 : g r st1 = .ok (.lst ys) st2) (h : xs.length + ys.length ≤ 16777216) : nCat f g r st = .ok (xs ++ ys) st2 := by
  unfold nCat
  rw [q_bind, h1]
  dsimp only
  rw [q_bind, h2]
  exact q_lim h
theorem filter_ints (p : D → Bool) : ∀ ns : List Int, ∃ ms : List Int, (List.filter p (ns.map D.int)).map id = ms.map D.int ∧ ms.length ≤ ns.length
  | [] => ⟨[], rfl, Nat.le_refl _⟩
  | n :: ns => by
    obtain ⟨ms, h1, h2⟩ := filter_ints p ns
    rw [List.map_cons]
    cases e : p (.int n) with
    | true =>
      refine ⟨n :: ms, ?_, by simp; omega⟩
      rw [List.filter_cons_of_pos e, List.map_cons, h1]
      rfl
    | false =>
      refine ⟨ms, ?_, by simp; omega⟩
      rw [List.filter_cons_of_neg (by rw [e]; decide), h1]
def geP : D → Bool
  | .int i => decide (1000000000000000000 ≤ i)
  | _ => false
theorem begun_q {ns : List Int} (hl : ns.length ≤ 1000) {k : Int} (k0 : 0 ≤ k) (k1 : k ≤ 1000) (st : St) : ∃ st', m__law_begun [.kls (ns.map .int), .int k] st = .ok (.obj st.length) st' ∧ Gd st' st.length 0 := by
  obtain ⟨as, ha, la⟩ := cut_ints ns (some k) none
  obtain ⟨bs, hb, lb⟩ := cut_ints ns none (some k)
  have cells : ∀ a2 a3 a4 a5 : Option SV, (nCat (nFz (nSlice (hVar 0) (pSome (eVar 1)) (pNone))) (nFz (nSlice (hVar 0) (pNone) (pSome (eVar 1))))) [some (.d (.kls (ns.map .int))), some (.d (.int k)), a2, a3, a4, a5] st = .ok ((as ++ bs).map D.int) st := fun a2 a3 a4 a5 => by
    rw [List.map_append]
    refine q_nCat (st1 := st) ?_ ?_ (by simp; omega)
    · rw [q_nFz, q_nSliceK (ns.map D.int) _ _ _ _ _ (some k) none rfl rfl rfl, ha]
    · rw [q_nFz, q_nSliceK (ns.map D.int) _ _ _ _ _ none (some k) rfl rfl rfl, hb]
  generalize hC : as ++ bs = cs at cells
  have lc : cs.length ≤ 2000 := by
    rw [← hC, List.length_append]
    omega
  obtain ⟨gs, hg, lg⟩ := filter_ints geP cs
  have great : ∀ a3 a4 a5 : Option SV, (nLc (iDat (eVar 2)) (tgN 5) [5] (bCmp oGe (hVar 5) (eBin oPow (eC (.int 10)) (eC (.int 18)))) (eVar 5)) [some (.d (.kls (ns.map .int))), some (.d (.int k)), some (.d (.lst (cs.map D.int))), a3, a4, a5] st = .ok (gs.map D.int) st := fun a3 a4 a5 => by
    unfold nLc
    rw [q_bind, q_iDat]
    show (lim (cs.map D.int).length (cs.map D.int) >>= _) st = _
    rw [q_bind, q_lim (by rw [List.length_map]; omega)]
    dsimp only
    rw [← hg]
    refine lcL_pure (p := geP) (F := id) _ fun x hx => ?_
    obtain ⟨i, _, rfl⟩ := List.mem_map.mp hx
    exact ⟨_, rfl, rfl, fun _ => rfl⟩
  have left : ∀ a4 a5 : Option SV, ∃ l : Int, (eIf (bCmp oNeX (hVar 3) (eC (.lst []))) (eBin oIx (hVar 3) (eC (.int 0))) (eC (.int 0))) [some (.d (.kls (ns.map .int))), some (.d (.int k)), some (.d (.lst (cs.map D.int))), some (.d (.lst (gs.map D.int))), a4, a5] st = .ok (.int l) st := fun a4 a5 => by
    cases gs with
    | nil => exact ⟨0, by simp⟩
    | cons g gs => exact ⟨g, by simp [oIx, place]⟩
  have loop := forL_all (b := tgN 5) (g := sSet 4 (eBin oMod (eBlt oInt (aCons (eBin oAdd (eBin oMulX (hVar 4) (eC (.int 48271))) (hVar 5)) (aNil))) (eC (.int 2147483647))))
    (I := fun _ r s => s = st ∧ ∃ (s : Int) (a5 : Option SV), r = [some (.d (.kls (ns.map .int))), some (.d (.int k)), some (.d (.lst (cs.map D.int))), some (.d (.lst (gs.map D.int))), some (.d (.int s)), a5]) (cs.map D.int) [some (.d (.kls (ns.map .int))), some (.d (.int k)), some (.d (.lst (cs.map D.int))), some (.d (.lst (gs.map D.int))), some (.d (.int (59 + k))), none] st 0 ⟨rfl, _, _, rfl⟩ fun j x r s0 hx ⟨hs, s, a5, hr⟩ => by
      obtain ⟨i, _, rfl⟩ := List.mem_map.mp (List.mem_of_getElem? hx)
      subst hs hr
      refine ⟨_, _, _, rfl, ?_, rfl, (s * 48271 + i) % 2147483647, some (.d (.int i)), rfl⟩
      simp [q_mulI (j := 48271) (i := s) (.inr (by decide)), q_modI (show (0 : Int) < 2147483647 by decide)]
  obtain ⟨r2, st2, hloop, hst, s, a5, hr⟩ := loop
  subst hst hr
  obtain ⟨l, hl2⟩ := left (some (.d (.int s))) a5
  have last : (nCat (hVar 2) (nFz (nLst (aCons (eBin oAdd (eBin oMulX (eC (.int 43)) (hVar 1)) (eC (.int 13))) (aNil))))) [some (.d (.kls (ns.map .int))), some (.d (.int k)), some (.d (.lst (cs.map D.int))), some (.d (.lst (gs.map D.int))), some (.d (.int s)), a5] st2 = .ok ((cs ++ [43 * k + 13]).map D.int) st2 := by
    rw [List.map_append]
    refine q_nCat (st1 := st2) rfl ?_ (by simp; omega)
    simp [lim1, q_mulI (i := 43) (j := k) (.inl (by decide))]
  refine ⟨st2 ++ [cell l s (cs ++ [43 * k + 13]) 0], ?_, ⟨l, s, cs ++ [43 * k + 13], 0, by simp, by simp, by omega, by omega⟩⟩
  have ob : ∀ {f : Env → Mo (List (D × D))} {r : Env}, f r st2 = .ok [(.str "left", .int l), (.str "seed", .int s), (.str "cells", .lst ((cs ++ [43 * k + 13]).map D.int)), (.str "spot", .int 0)] st2 → eObj f r st2 = .ok (.obj st2.length) (st2 ++ [cell l s (cs ++ [43 * k + 13]) 0]) := fun {f r} e => by
    unfold eObj
    rw [q_bind, e]
    have d : dispD [(D.str "left", .int l), (.str "seed", .int s), (.str "cells", .lst ((cs ++ [43 * k + 13]).map D.int)), (.str "spot", .int 0)] = some [(.inr "left", .int l), (.inr "seed", .int s), (.inr "cells", .lst ((cs ++ [43 * k + 13]).map D.int)), (.inr "spot", .int 0)] := by kernel_rfl
    show (Mo.opt (dispD _) >>= _) st2 = _
    rw [q_bind, d]
    rfl
  simp only [m__law_begun, q_run, g__law_begun]
  simp [cells, great, D.items]
  rw [hloop]
  simp only [seqR_nx, q_sRet]
  rw [ob (by simp only [q_prCons, q_eC, hl2, q_nFz, last, q_vCons0, q_vZero, q_prNil])]
  rfl
def Wd_ (n c : Nat) (f : Mo D) (P : D → Prop) : Prop := ∀ (st : St) (b : Nat), Gd st n b → b + c ≤ top0 → ∃ (x : D) (st' : St), f st = .ok x st' ∧ P x ∧ Gd st' n (b + c)
section
variable {n c c1 c2 c' l : Nat} {r : Env} {P Q : D → Prop}
theorem Wd_.mono {f : Mo D} (h : Wd_ n c f P) (hc : c ≤ c') (hp : ∀ x, P x → Q x) : Wd_ n c' f Q := fun st b g hb => by
  obtain ⟨x, st', e, p, g'⟩ := h st b g (by omega)
  exact ⟨x, st', e, hp x p, g'.mono (by omega)⟩
end
def Ws_ (n c : Nat) (g : Mo Fl) (P : D → Prop) : Prop := ∀ (st : St) (b : Nat), Gd st n b → b + c ≤ top0 → ∃ (x : D) (st' : St), g st = .ok (.ret x) st' ∧ P x ∧ Gd st' n (b + c)
section
variable {n c c1 c2 c' l : Nat} {r : Env} {P Q : D → Prop}
theorem Ws_.mono {g : Mo Fl} (h : Ws_ n c g P) (hc : c ≤ c') : Ws_ n c' g P := fun st b gd hb => by
  obtain ⟨x, st', e, p, g'⟩ := h st b gd (by omega)
  exact ⟨x, st', e, p, g'.mono (by omega)⟩
end
def tlen : D → Nat
  | .tup xs => xs.length
  | _ => 0
structure Bl (L N K : Nat) (x : D) : Prop where
  bd : Bd N K x
  tl : tlen x ≤ L
theorem Bl.mono {L N K L' N' K' : Nat} {x : D} (h : Bl L N K x) (h1 : L ≤ L') (h2 : N ≤ N') (h3 : K ≤ K') : Bl L' N' K' x := ⟨h.bd.mono h2 h3, Nat.le_trans h.tl h1⟩
section
variable {n L N K : Nat} {p m : Int}
end
abbrev Tms := List (List Int × Int)
theorem rng1_q {u : Int} (h0 : 0 ≤ u) (h1 : u ≤ 1000000) : rng1 [.int u] = some (rangeD 0 u.toNat) := by
  show (match decide (-4611686018427387904 ≤ u) && decide (u < 4611686018427387904) with
    | true => some (rangeD 0 u.toNat)
    | false => none) = _
  rw [decide_eq_true (by omega), decide_eq_true (by omega)]
  rfl
section
variable {n : Nat} {p m high many : Int}
end
theorem rangeD_at {lo : Int} {n k : Nat} {x : D} (h : (rangeD lo n)[k]? = some x) : x = .int (lo + (k : Int)) ∧ k < n := by
  unfold rangeD at h
  rw [List.getElem?_map] at h
  obtain ⟨j, hj, rfl⟩ := Option.map_eq_some_iff.mp h
  have := List.getElem?_eq_some_iff.mp hj
  obtain ⟨hk, e⟩ := this
  rw [List.getElem_range] at e
  subst e
  exact ⟨rfl, by simpa using hk⟩
theorem sum_mod {a : Type} {p : Int} {f g : a → Int} : ∀ {l : List a}, (∀ x ∈ l, f x % p = g x % p) → (l.map f).sum % p = (l.map g).sum % p
  | [], _ => rfl
  | x :: l, h => by
    rw [List.map_cons, List.map_cons, List.sum_cons, List.sum_cons, Int.add_emod, h x (by simp), sum_mod fun y hy => h y (by simp [hy]), ← Int.add_emod]
def mon : List Int → List Int → Int
  | e :: es, x :: xs => x ^ e.toNat * mon es xs
  | _, _ => 1
def lesI (p e : Int) : Int := if e = 0 then 0 else (e - 1) % (p - 1) + 1
def Pm (p : Nat) : Prop := p = 2 ∨ p = 3 ∨ p = 5 ∨ p = 7
structure Fd (p n : Nat) : Prop where
  pm : Pm p
  n1 : 1 ≤ n
  n4 : n ≤ 4
  no : ¬ (p = 7 ∧ n = 4)
theorem Fd.p2 {p n : Nat} (h : Fd p n) : 2 ≤ p ∧ p ≤ 7 := by
  rcases h.pm with rfl | rfl | rfl | rfl <;> omega
theorem range1_q {r : Env} {f : Env → Mo D} {st : St} {n : Nat} (h : f r st = .ok (.int (n : Int)) st) (hn : n ≤ 1000000) : iRng1 (aCons f (aNil)) r st = .ok (rangeD 0 n) st := by
  rw [q_iRng1, q_aCons, h]
  dsimp only
  rw [q_aNil]
  dsimp only
  rw [rng1_q (by omega) (by omega), Int.toNat_natCast]
  rfl
theorem nLc_q {f : Env → Mo (List D)} {b : D → Env → Option Env} {vs : List Nat} {c : Env → Mo Bool} {e : Env → Mo D} {r : Env} {st st' : St} {xs : List D} {z : Res (List D)} (h1 : f r st = .ok xs st') (hl : xs.length ≤ 16777216) (h2 : lcL b c e (wipeE vs r) xs st' = z) : nLc f b vs c e r st = z := by
  unfold nLc
  rw [q_bind, h1]
  dsimp only
  rw [q_bind, q_lim hl]
  exact h2
theorem seq_step {g h : Stm} {r r' : Env} {st st' : St} {z : Res Fl} (e : g r st = .ok (.nx r') st') (k : h r' st' = z) : sSeq g h r st = z := by
  rw [q_seq, e]
  exact k
def s0 (p : Nat) (ms : Tms) (v : List Int) : Int := ((ms.map fun q => if v = q.1.map (lesI p) then q.2 else 0).sum) % p
theorem eBlt1_q {o : List D → Option D} {f : Env → Mo D} {r : Env} {st st1 : St} {x y : D} (hf : f r st = .ok x st1) (ho : o [x] = some y) : eBlt o (aCons f (aNil)) r st = .ok y st1 := by
  rw [q_eBlt, q_aCons, hf]
  dsimp only
  rw [q_aNil]
  dsimp only
  rw [ho]
  rfl
def bs (b : Bool) (xs : List D) : D := match b with
  | true => .lst xs
  | false => .tup xs
theorem call1_q {m : List D → Mo D} {f : Env → Mo D} {r : Env} {st s1 : St} {x : D} {z : Res D} (hf : f r st = .ok x s1) (hm : m [x] s1 = z) : eCall m (aCons f (aNil)) r st = z := by
  rw [q_eCall, q_aCons, hf]
  dsimp only
  rw [q_aNil]
  exact hm
theorem call2_q {m : List D → Mo D} {f g : Env → Mo D} {r : Env} {st s1 s2 : St} {x y : D} {z : Res D} (hf : f r st = .ok x s1) (hg : g r s1 = .ok y s2) (hm : m [x, y] s2 = z) : eCall m (aCons f (aCons g (aNil))) r st = z := by
  rw [q_eCall, q_aCons, hf]
  dsimp only
  rw [q_aCons, hg]
  dsimp only
  rw [q_aNil]
  exact hm
theorem run_q {n : Nat} {g : Stm} {ds : List D} {st st' : St} {x : D} (h : g (ds.map (fun x => some (.d x)) ++ List.replicate (n - ds.length) none) st = .ok (.ret x) st') : runD n g ds st = .ok x st' := by
  rw [q_run, h]
  rfl
theorem sRet_q {f : Env → Mo D} {r : Env} {st st' : St} {x : D} (h : f r st = .ok x st') : sRet f r st = .ok (.ret x) st' := by
  rw [q_sRet, h]
theorem eOp_q {o : D → D → Option D} {f g : Env → Mo D} {r : Env} {st s1 s2 : St} {x y z : D} (hf : f r st = .ok x s1) (hg : g r s1 = .ok y s2) (ho : o x y = some z) : eBin o f g r st = .ok z s2 := by
  rw [q_eBin, hf]
  dsimp only
  rw [hg]
  dsimp only
  rw [ho]
  rfl
theorem sSet_q {i : Nat} {f : Env → Mo D} {r : Env} {st s1 : St} {x : D} (h : f r st = .ok x s1) : sSet i f r st = .ok (.nx (r.set i (some (.d x)))) s1 := by
  rw [q_sSet, h]
theorem ifNo_q {c : Env → Mo Bool} {g h : Stm} {r : Env} {st s1 : St} {z : Res Fl} (hc : c r st = .ok false s1) (hh : h r s1 = z) : sIf c g h r st = z := by
  rw [q_sIf, hc]
  exact hh
theorem sFor_q {f : Env → Mo (List D)} {b : D → Env → Option Env} {g : Stm} {r : Env} {st s1 : St} {xs : List D} {z : Res Fl} (hf : f r st = .ok xs s1) (h : forL b g xs r s1 = z) : sFor f b g r st = z := by
  rw [q_sFor, hf]
  exact h
theorem bOp_q {o : D → D → Option D} {f g : Env → Mo D} {r : Env} {st s1 s2 : St} {x y : D} {b : Bool} (hf : f r st = .ok x s1) (hg : g r s1 = .ok y s2) (ho : o x y = some (.bl b)) : bCmp o f g r st = .ok b s2 := by
  rw [q_bCmp, eOp_q hf hg ho]
  rfl
theorem bNot_f {f : Env → Mo D} {r : Env} {st s1 : St} (h : f r st = .ok (.bl true) s1) : bNot (bOf f) r st = .ok false s1 := by
  rw [q_bNot, q_bOf, h]
  rfl
def cg (p : Nat) (a b : Int) : Prop := a % (p : Int) = b % (p : Int)
theorem cg.rfl' {p : Nat} {a : Int} : cg p a a := rfl
theorem cg.sm {p : Nat} {a b : Int} (h : cg p a b) : cg p b a := Eq.symm h
theorem cg.tr {p : Nat} {a b c : Int} (h : cg p a b) (k : cg p b c) : cg p a c := Eq.trans h k
theorem cg.add {p : Nat} {a b c d : Int} (h : cg p a b) (k : cg p c d) : cg p (a + c) (b + d) := by
  unfold cg at *
  rw [Int.add_emod, h, k, ← Int.add_emod]
theorem cg.mul {p : Nat} {a b c d : Int} (h : cg p a b) (k : cg p c d) : cg p (a * c) (b * d) := by
  unfold cg at *
  rw [Int.mul_emod, h, k, ← Int.mul_emod]
theorem cg.sub {p : Nat} {a b c d : Int} (h : cg p a b) (k : cg p c d) : cg p (a - c) (b - d) := by
  have := h.add (cg.mul (cg.rfl' (a := -1)) k)
  rwa [show a + -1 * c = a - c by omega, show b + -1 * d = b - d by omega] at this
theorem cg.pow {p : Nat} {a b : Int} (h : cg p a b) : ∀ k : Nat, cg p (a ^ k) (b ^ k)
  | 0 => by rw [Int.pow_zero, Int.pow_zero]; exact cg.rfl'
  | k + 1 => by
    rw [Int.pow_succ, Int.pow_succ]
    exact (cg.pow h k).mul h
theorem cg.md {p : Nat} {a : Int} : cg p (a % (p : Int)) a := Int.emod_emod _ _
theorem cg.sum {p : Nat} {a : Type} {f g : a → Int} {l : List a} (h : ∀ x ∈ l, cg p (f x) (g x)) : cg p (l.map f).sum (l.map g).sum := sum_mod h
abbrev Tm := List (List Int × Int)
def sumT (ms : Tm) (v : List Int) : Int := (ms.map fun q => q.2 * mon q.1 v).sum
def LowF (p n : Nat) (d : Int) (F : List Int → Int) : Prop := ∃ ms : Tm, (∀ q ∈ ms, q.1.length = n ∧ (∀ e ∈ q.1, 0 ≤ e) ∧ q.1.sum ≤ d) ∧ ∀ x, x.length = n → cg p (F x) (sumT ms x)
theorem LowF.mono {p n : Nat} {d d' : Int} {F : List Int → Int} (h : LowF p n d F) (hd : d ≤ d') : LowF p n d' F := by
  obtain ⟨ms, h1, h2⟩ := h
  exact ⟨ms, fun q hq => ⟨(h1 q hq).1, (h1 q hq).2.1, by have := (h1 q hq).2.2; omega⟩, h2⟩
theorem LowF.congr {p n : Nat} {d : Int} {F G : List Int → Int} (h : LowF p n d F) (e : ∀ x, x.length = n → cg p (G x) (F x)) : LowF p n d G := by
  obtain ⟨ms, h1, h2⟩ := h
  exact ⟨ms, h1, fun x hx => (e x hx).tr (h2 x hx)⟩
theorem aNil_q {r : Env} {st : St} : aNil r st = .ok [] st := rfl
theorem aCons_q {f : Env → Mo D} {g : Env → Mo (List D)} {r : Env} {st s1 s2 : St} {x : D} {xs : List D} (hf : f r st = .ok x s1) (hg : g r s1 = .ok xs s2) : aCons f g r st = .ok (x :: xs) s2 := by
  rw [q_aCons, hf]
  dsimp only
  rw [hg]
theorem lcW {n c : Nat} {P : D → Prop} {b : D → Env → Option Env} {e : Env → Mo D} {r : Env} : ∀ (xs : List D), (∀ x ∈ xs, ∃ r1, b x r = some r1 ∧ Wd_ n c (e r1) P) → ∀ (st : St) (b0 : Nat), Gd st n b0 → b0 + c * xs.length ≤ top0 →
    ∃ (ys : List D) (st' : St), lcL b bYes e r xs st = .ok ys st' ∧ (∀ y ∈ ys, P y) ∧ ys.length = xs.length ∧ Gd st' n (b0 + c * xs.length)
  | [], _, st, b0, g, _ => ⟨[], st, rfl, (fun y h => by cases h), rfl, by simpa using g⟩
  | x :: xs, h, st, b0, g, hb => by
    rw [List.length_cons, Nat.mul_add] at hb
    obtain ⟨r1, h1, h2⟩ := h x List.mem_cons_self
    obtain ⟨y, s1, f1, py, g1⟩ := h2 st b0 g (by omega)
    obtain ⟨ys, s2, f2, pys, ly, g2⟩ := lcW xs (fun z hz => h z (List.mem_cons_of_mem _ hz)) s1 (b0 + c) g1 (by omega)
    refine ⟨y :: ys, s2, ?_, fun z hz => ?_, by rw [List.length_cons, List.length_cons, ly], g2.mono (by rw [List.length_cons, Nat.mul_add]; omega)⟩
    · show (Mo.opt (b x r) >>= fun r1 => nx (bYes r1) >>= fun k => match k with
        | true => nx (e r1) >>= fun y => lcL b bYes e r xs >>= fun ys => pure (y :: ys)
        | false => lcL b bYes e r xs) st = _
      rw [h1, q_bind, q_some]
      dsimp only
      rw [q_bind]
      show (nx (e r1) >>= fun y => lcL b bYes e r xs >>= fun ys => pure (y :: ys)) st = _
      rw [q_bind, show nx (e r1) st = .ok y s1 from by unfold nx; rw [f1]]
      dsimp only
      rw [q_bind, f2]
      rfl
    · rcases List.mem_cons.mp hz with z1 | z1
      · rw [z1]; exact py
      · exact pys z z1
end Pi
namespace Pi
open PySem PySem.Spec PyProof.Rows L2
theorem draw9_q {st : St} {n b : Nat} {many : Int} (g : Gd st n b) (hb : b ≤ top0) (m1 : 1 ≤ many) (m2 : many ≤ 1000000000) : ∃ (v : Int) (st' : St), m__law_draw [.obj n, .int many] st = .ok (.int v) st' ∧ 0 ≤ v ∧ v < many ∧ Gd st' n (b + 1) := by
  obtain ⟨l, s, c, p, h, hc, p0, p1⟩ := g.ex
  unfold top0 at hb
  have hm : 0 < many := by omega
  by_cases hl : 0 < l
  · refine ⟨l % many, st.set n (cell (l / many) s c p), ?_, Int.emod_nonneg _ (by omega), Int.emod_lt_of_pos _ hm, ⟨_, _, _, _, set_cell h, hc, p0, by omega⟩⟩
    simp [m__law_draw, q_run, g__law_draw, get_left h, hl, q_modI hm, q_fdivI hm (by omega), put_left h]
  · obtain ⟨v, hv⟩ := ix_mod hc p
    have h2 := set_cell (m := cell l s c (p + 1)) h
    have k1 : smallI 40503 = true := by decide
    have k2 : smallI p = true := small_of (by omega) (by omega)
    have k3 : smallI (2 * p + 3) = true := small_of (by omega) (by omega)
    have k4 : smallI 2 = true := by decide
    have k5 : smallI 69621 = true := by decide
    have k6 : smallI 48271 = true := by decide
    have lenc : 0 < ((c.length : Nat) : Int) := by
      have := List.length_pos_iff.mpr hc
      omega
    generalize hB : (v * (2 * p + 3) + (s + 40503 * p * p)) % 2147483647 = B
    have B0 : 0 ≤ B := by
      rw [← hB]
      exact Int.emod_nonneg _ (by decide)
    have B1 : B < 2147483647 := by
      rw [← hB]
      exact Int.emod_lt_of_pos _ (by decide)
    have k7 : smallI B = true := small_of (by omega) (by omega)
    generalize hC : (B * B + 69621 * p + s) % 2147483629 = C
    have dl : decide (0 < l) = false := decide_eq_false hl
    refine ⟨(C * 48271 + p) % 2147483647 / 11 % many, st.set n (cell l s c (p + 1)), ?_, Int.emod_nonneg _ (by omega), Int.emod_lt_of_pos _ hm, ⟨_, _, _, _, h2, hc, by omega, by omega⟩⟩
    simp [m__law_draw, q_run, g__law_draw, get_left h, dl, get_spot h, put_spot h, get_cells h2, get_seed h2, q_mulI (.inl k1), q_mulI (.inr k2), q_mulI (.inl k4), q_mulI (.inr k3), q_mulI (.inl k5), q_mulI (.inr k6), q_modI lenc, hv, q_modI (show (0 : Int) < 2147483647 by decide), hB, q_mulI (.inl k7), q_modI (show (0 : Int) < 2147483629 by decide), hC, q_fdivI (show (0 : Int) < 11 by decide) (by decide), q_modI hm]
def GoodT (x : D) : Prop := ∃ n k, Bd n k x ∧ n ≤ 100000 ∧ k ≤ 100
theorem good_of {x : D} (h : bdB 100000 100 x = true) : GoodT x := ⟨100000, 100, bd_of h, Nat.le_refl _, Nat.le_refl _⟩
theorem good_int {i : Int} (h0 : 0 ≤ i) (h1 : i < 1000000000) : GoodT (.int i) := by
  refine ⟨100000, 100, ⟨rfl, rfl, ?_, Nat.zero_le _, ?_⟩, Nat.le_refl _, Nat.le_refl _⟩
  · show decide (i.natAbs.log2 < 1920) = true
    refine decide_eq_true ?_
    by_cases z : i.natAbs = 0
    · rw [z]; decide
    · exact (Nat.log2_lt z).mpr (Nat.lt_of_lt_of_le (show i.natAbs < 2 ^ 30 by omega) (Nat.pow_le_pow_right (by decide) (by decide)))
  · have e : (toString i).length ≤ 9 + 1 := int_text_length_le10 (by decide) (by omega)
    have e2 : (PyData.shown (.int i)) = Str.ofString (toString i) := by simp only [PyData.shown]
    show (PyData.shown (.int i)).length ≤ 100000
    rw [e2]
    have e3 : (Str.ofString (toString i)).length ≤ 4300 + 1 := by
      have q := PyProof.Rows.ofString_length (toString i)
      have q2 : (toString i).toList.length = (toString i).length := by first | exact String.length_toList | exact (String.length_toList _) | rfl
      omega
    omega
def rep11 (x : D) : D := .lst [x, x, x, x, x, x, x, x, x, x, x]
theorem good_repr {x : D} (h : GoodT x) : ∃ w, oRepr [x] = some (.str w) := by
  obtain ⟨n, k, b, hn, hk⟩ := h
  exact ⟨_, repr_q b (by omega) (by omega)⟩
theorem good_rep11 {x : D} (h : GoodT x) : ∃ w, oRepr [rep11 x] = some (.str w) := by
  obtain ⟨n, k, b, hn, hk⟩ := h
  have B : Bd ((n + 2) * 11 + 3) (k + 1) (rep11 x) := bd_lst (l := 11) (xs := [x, x, x, x, x, x, x, x, x, x, x]) (fun y hy => by
    simp only [List.mem_cons, List.not_mem_nil, or_false, or_self] at hy
    subst hy
    exact b) (by simp) (by omega)
  exact ⟨_, repr_q B (by omega) (by omega)⟩
end Pi
namespace Pi
open PySem PySem.Spec PyProof.Rows L2
def errL (x : D) : D := .lst [.exc "BadField" "place" x, .exc "BadPoly" "place" x, .exc "BadPoint" "value" x, .exc "BadSystem" "place" x, .exc "BadBox" "value" x, .exc "BadLot" "value" x, .exc "BadPlanes" "place" x, .exc "BadVectors" "place" x, .exc "BadNumber" "value" x, .exc "BadPaper" "word" x, .exc "TooGreat" "most" x]
theorem fields_q (x : D) (st : St) : m__law_fields_of [errL x] st = .ok (rep11 x) st := by kernel_rfl
abbrev inY : Stm := sSeq (sSet 7 (nFz (nLst (aCons (eBin oLt (hVar 5) (eC (.int 10))) (aCons (eBin oLt (hVar 5) (eC (.int 10))) (aCons (eBin oEqX (hVar 5) (eC (.int 10))) (aCons (eC (.bl false)) (aCons (eC (.bl false)) (aCons (eC (.bl false)) (aCons (eBin oEqX (hVar 5) (eC (.int 10))) (aCons (eC (.bl true)) (aNil)))))))))))) (sIf (bOr (bCmp oNeX (eCall m__law_marks (aCons (eVar 6) (aNil))) (nFz (nLc (iRng1 (aCons (eC (.int 11)) (aNil))) (tgN 8) [8] (bYes) (eBin oEqX (hVar 8) (hVar 5))))) (bCmp oNeX (eCall m__law_above (aCons (eVar 6) (aNil))) (hVar 7))) (sRet (eC (.bl false))) (sNext))
theorem innerY_q (x y z w : D) (a5 a6 a7 a8 : Option SV) (st : St) : ∃ b5 b6 b7 b8 : Option SV, sFor (iFun enumX (aCons (eVar 4) (aNil))) (tgT [5, 6]) inY [some (.d x), some (.d w), some (.d y), some (.d z), some (.d (errL x)), a5, a6, a7, a8] st = .ok (.nx [some (.d x), some (.d w), some (.d y), some (.d z), some (.d (errL x)), b5, b6, b7, b8]) st :=
  ⟨some (.d (.int 10)), some (.d (.exc "TooGreat" "most" x)), some (.d (.lst [.bl false, .bl false, .bl true, .bl false, .bl false, .bl false, .bl true, .bl true])), a8, by kernel_rfl⟩
abbrev rowY : Stm := sSeq (sIf (bCmp oNeX (eBlt oRepr (aCons (eCall m__law_fields_of (aCons (eVar 4) (aNil))) (aNil))) (eBlt oRepr (aCons (nFz (nRep (nFz (nLst (aCons (eVar 0) (aNil)))) (eC (.int 11)))) (aNil)))) (sRet (eC (.bl false))) (sNext)) (sFor (iFun enumX (aCons (eVar 4) (aNil))) (tgT [5, 6]) inY)
theorem rep11_q (x : D) (r : Env) (st : St) (h : eVar 0 r st = .ok x st) : nFz (nRep (nFz (nLst (aCons (eVar 0) (aNil)))) (eC (.int 11))) r st = .ok (rep11 x) st := by
  have h1 : (nFz (nLst (aCons (eVar 0) (aNil)))) r st = .ok (.lst [x]) st := by
    rw [q_nFz, q_nLst, aCons_q h aNil_q]
    rfl
  rw [q_nFz]
  have h2 : nRep (nFz (nLst (aCons (eVar 0) (aNil)))) (eC (.int 11)) r st = .ok [x, x, x, x, x, x, x, x, x, x, x] st := by
    unfold nRep
    rw [q_bind, h1]
    rfl
  rw [h2]
  rfl
theorem neS_q (w : Str) : oNeX (.str w) (.str w) = some (.bl false) := by
  have e : oNeX (.str w) (.str w) = some (.bl (!decide (w = w))) := by first | rfl | kernel_rfl
  rw [e, decide_eq_true rfl] <;> rfl
theorem eqS_q (w : Str) : oEqX (.str w) (.str w) = some (.bl true) := by
  have e : oEqX (.str w) (.str w) = some (.bl (decide (w = w))) := by first | rfl | kernel_rfl
  rw [e, decide_eq_true rfl]
theorem rowY_q {x : D} (g : GoodT x) (y z w : D) (a5 a6 a7 a8 : Option SV) (st : St) : ∃ b5 b6 b7 b8 : Option SV, rowY [some (.d x), some (.d w), some (.d y), some (.d z), some (.d (errL x)), a5, a6, a7, a8] st = .ok (.nx [some (.d x), some (.d w), some (.d y), some (.d z), some (.d (errL x)), b5, b6, b7, b8]) st := by
  obtain ⟨u, hu⟩ := good_rep11 g
  obtain ⟨b5, b6, b7, b8, h⟩ := innerY_q x y z w a5 a6 a7 a8 st
  refine ⟨b5, b6, b7, b8, ?_⟩
  refine seq_step (r' := [some (.d x), some (.d w), some (.d y), some (.d z), some (.d (errL x)), a5, a6, a7, a8]) (st' := st) (ifNo_q (bOp_q (eBlt1_q (call1_q rfl (fields_q x st)) hu) (eBlt1_q (rep11_q x _ _ rfl) hu) (neS_q u)) rfl) h
theorem made_right_q {x : D} (g : GoodT x) (st : St) : m__law_made_right [x] st = .ok (.bl true) st := by
  obtain ⟨w, hw⟩ := good_repr g
  refine run_q ?_
  show g__law_made_right [some (.d x), none, none, none, none, none, none, none, none] st = _
  unfold g__law_made_right
  refine seq_step (r' := [some (.d x), some (.d (.str w)), none, none, none, none, none, none, none]) (st' := st) (sSet_q (eBlt1_q rfl hw)) ?_
  refine seq_step (r' := [some (.d x), some (.d (.str w)), some (.d (.lst [.exc "BadField" "place" x, .exc "BadPoly" "place" x, .exc "BadPoint" "value" x, .exc "BadSystem" "place" x, .exc "BadBox" "value" x, .exc "BadLot" "value" x])), none, none, none, none, none, none]) (st' := st) (by kernel_rfl) ?_
  refine seq_step (r' := [some (.d x), some (.d (.str w)), some (.d (errL x)), none, none, none, none, none, none]) (st' := st) (by kernel_rfl) ?_
  refine seq_step (r' := [some (.d x), some (.d (.str w)), some (.d (errL x)), some (.d (.lst [.exc "BadField" "place" x, .exc "BadPoly" "place" x, .exc "BadPoint" "value" x, .exc "BadSystem" "place" x])), none, none, none, none, none]) (st' := st) (by kernel_rfl) ?_
  refine seq_step (r' := [some (.d x), some (.d (.str w)), some (.d (errL x)), some (.d (.lst [.exc "BadField" "place" x, .exc "BadPoly" "place" x, .exc "BadPoint" "value" x, .exc "BadSystem" "place" x, .exc "BadBox" "value" x, .exc "BadLot" "value" x, .exc "BadPlanes" "place" x, .exc "BadVectors" "place" x])), none, none, none, none, none]) (st' := st) (by kernel_rfl) ?_
  refine seq_step (r' := [some (.d x), some (.d (.str w)), some (.d (errL x)), some (.d (errL x)), none, none, none, none, none]) (st' := st) (by kernel_rfl) ?_
  obtain ⟨b5, b6, b7, b8, h1⟩ := rowY_q g (errL x) (errL x) (.str w) none none none none st
  obtain ⟨c5, c6, c7, c8, h2⟩ := rowY_q g (errL x) (errL x) (.str w) b5 b6 b7 b8 st
  refine seq_step (r' := [some (.d x), some (.d (.str w)), some (.d (errL x)), some (.d (errL x)), some (.d (errL x)), c5, c6, c7, c8]) (st' := st) (sFor_q (xs := [errL x, errL x]) (s1 := st) rfl ?_) ?_
  · have f1 : forL (tgN 4) rowY [errL x, errL x] [some (.d x), some (.d (.str w)), some (.d (errL x)), some (.d (errL x)), none, none, none, none, none] st = .ok (.nx [some (.d x), some (.d (.str w)), some (.d (errL x)), some (.d (errL x)), some (.d (errL x)), c5, c6, c7, c8]) st := by
      rw [forL_cons (r1 := [some (.d x), some (.d (.str w)), some (.d (errL x)), some (.d (errL x)), some (.d (errL x)), none, none, none, none]) rfl, h1, loopR_nx, forL_cons (r1 := [some (.d x), some (.d (.str w)), some (.d (errL x)), some (.d (errL x)), some (.d (errL x)), b5, b6, b7, b8]) rfl, h2, loopR_nx, forL_nil]
    exact f1
  · exact sRet_q (eOp_q (eBlt1_q rfl hw) rfl (eqS_q w))
end Pi
namespace Pi
open PySem PySem.Spec PyProof.Rows L2
def poolL (v : Int) : List D := [.non, .int 0, .bl true, .bl false, .int (-1), .int v, .int 1000000000000000000000000000000, .str "", .str "poly", .str "0", .tup [], .tup [.int 0], .tup [.non], .lst [], .lst [.lst [], .dct []]]
def poolM : List D := [.dct [], .dct [(.inr "a", .lst [.int 1])], .tup [.int 2, .int 1], .tup [.tup [.int 1, .int 2], .lst [.int 3]], .str "form", .tup [.tup []], .lst [.non], .dct [(.inl 1, .tup [.int 2, .lst [.int 3]])], .tup [.bl true, .str "x", .non]]
theorem good_pool {v : Int} (h0 : 0 ≤ v) (h1 : v < 1000000000) : ∀ x ∈ poolL v ++ poolM, GoodT x := fun x hx => by
  simp only [poolL, poolM, List.mem_append, List.mem_cons, List.not_mem_nil, or_false] at hx
  rcases hx with (rfl | rfl | rfl | rfl | rfl | rfl | rfl | rfl | rfl | rfl | rfl | rfl | rfl | rfl | rfl) | (rfl | rfl | rfl | rfl | rfl | rfl | rfl | rfl | rfl)
  all_goals first | exact good_int h0 h1 | exact good_of (by decide +kernel)
abbrev firstF : Env → Mo D := nFz (nLst (aCons (eC (.non)) (aCons (eC (.int 0)) (aCons (eC (.bl true)) (aCons (eC (.bl false)) (aCons (eUn oNeg (eC (.int 1))) (aCons (eCall m__law_draw (aCons (eVar 0) (aCons (eBin oPow (eC (.int 10)) (eC (.int 9))) (aNil)))) (aCons (eBin oPow (eC (.int 10)) (eC (.int 30))) (aCons (eC (.str "")) (aCons (eC (.str "poly")) (aCons (eC (.str "0")) (aCons (eC (.tup [])) (aCons (eC (.tup [.int 0])) (aCons (eC (.tup [.non])) (aCons (eC (.lst [])) (aCons (nFz (nLst (aCons (eC (.lst [])) (aCons (eC (.dct [])) (aNil))))) (aNil)))))))))))))))))
theorem lim15 {b : Type} (x : b) (st : St) : lim 15 x st = .ok x st := q_lim (by decide)
theorem first_q {r : Env} {st st' : St} {n : Nat} {v : Int} (h : eVar 0 r st = .ok (.obj n) st) (e : m__law_draw [.obj n, .int 1000000000] st = .ok (.int v) st') : firstF r st = .ok (.lst (poolL v)) st' := by
  have d : (eCall m__law_draw (aCons (eVar 0) (aCons (eBin oPow (eC (.int 10)) (eC (.int 9))) (aNil)))) r st = .ok (.int v) st' := by
    refine call2_q (x := .obj n) (y := .int 1000000000) h ?_ e
    kernel_rfl
  have last : ∀ s : St, (nFz (nLst (aCons (eC (.lst [])) (aCons (eC (.dct [])) (aNil))))) r s = .ok (.lst [.lst [], .dct []]) s := fun s => by kernel_rfl
  delta firstF
  rw [q_nFz, q_nLst]
  rw [aCons_q (x := .non) (s1 := st) rfl (aCons_q (x := .int 0) (s1 := st) rfl (aCons_q (x := .bl true) (s1 := st) rfl (aCons_q (x := .bl false) (s1 := st) rfl (aCons_q (x := .int (-1)) (s1 := st) (by kernel_rfl) (aCons_q (x := .int v) (s1 := st') d
    (aCons_q (x := .int 1000000000000000000000000000000) (s1 := st') (by kernel_rfl) (aCons_q (x := .str "") (s1 := st') rfl (aCons_q (x := .str "poly") (s1 := st') rfl (aCons_q (x := .str "0") (s1 := st') rfl (aCons_q (x := .tup []) (s1 := st') rfl
    (aCons_q (x := .tup [.int 0]) (s1 := st') rfl (aCons_q (x := .tup [.non]) (s1 := st') rfl (aCons_q (x := .lst []) (s1 := st') rfl (aCons_q (x := .lst [.lst [], .dct []]) (s1 := st') (last st') aNil_q))))))))))))))]
  show (match lim 15 (poolL v) st' with
    | .ok xs s => Res.ok (D.lst xs) s
    | .err c x s => .err c x s
    | .bad => .bad) = _
  rw [lim15]
theorem cat24 {v : Int} : (poolL v ++ poolM).length = 24 := rfl
theorem things_q {st : St} {n b : Nat} (g : Gd st n b) (hb : b + 5 ≤ top0) : ∃ (xs : List D) (st' : St), m__law_things [.obj n] st = .ok (.lst xs) st' ∧ (∀ x ∈ xs, GoodT x) ∧ xs.length = 8 := by
  obtain ⟨v, s1, e1, v0, v1, g1⟩ := draw9_q (many := 1000000000) g (by omega) (by decide) (by decide)
  have hg := good_pool v0 v1
  have pool := lcW (n := n) (c := 1) (P := GoodT) (b := tgN 2) (e := eCall m__law_of (aCons (eVar 0) (aCons (eVar 1) (aNil)))) (r := [some (.d (.obj n)), some (.d (.lst (poolL v ++ poolM))), none]) (rangeD 0 4) (fun x hx => ⟨[some (.d (.obj n)), some (.d (.lst (poolL v ++ poolM))), some (.d x)], rfl, fun st2 b2 g2 hb2 => by
    obtain ⟨y, s3, e3, my, g3⟩ := law_of_q (xs := poolL v ++ poolM) g2 (by omega) (by simp [poolL]) (by rw [cat24]; decide)
    exact ⟨y, s3, call2_q rfl rfl e3, hg y my, g3⟩⟩) s1 (b + 1) g1 (by show b + 1 + 1 * 4 ≤ top0; omega)
  obtain ⟨ys, s2, e2, py, ly, g2⟩ := pool
  have ly4 : ys.length = 4 := ly
  refine ⟨[.non, .tup [], .int 0, .bl false] ++ ys, s2, ?_, fun x hx => ?_, by rw [List.length_append, ly4]; rfl⟩
  · refine run_q ?_
    show g__law_things [some (.d (.obj n)), none, none] st = _
    unfold g__law_things
    refine seq_step (r' := [some (.d (.obj n)), some (.d (.lst (poolL v))), none]) (st' := s1) (sSet_q (first_q (n := n) rfl e1)) ?_
    refine seq_step (r' := [some (.d (.obj n)), some (.d (.lst (poolL v ++ poolM))), none]) (st' := s1) (sSet_q ?_) ?_
    · rw [q_nFz, q_nCat (xs := poolL v) (ys := poolM) (st1 := s1) (st2 := s1) rfl (by kernel_rfl) (by rw [← List.length_append, cat24]; decide)]
    · refine sRet_q ?_
      have lc : (nLc (iRng1 (aCons (eC (.int 4)) (aNil))) (tgN 2) [2] (bYes) (eCall m__law_of (aCons (eVar 0) (aCons (eVar 1) (aNil))))) [some (.d (.obj n)), some (.d (.lst (poolL v ++ poolM))), none] s1 = .ok ys s2 :=
        nLc_q (xs := rangeD 0 4) (st' := s1) (range1_q (n := 4) rfl (by decide)) (by decide) e2
      rw [q_nFz, q_nCat (xs := [.non, .tup [], .int 0, .bl false]) (ys := ys) (st1 := s1) (st2 := s2) rfl (by rw [q_nFz, lc]) (by rw [ly4]; decide)]
  · rcases List.mem_append.mp hx with h | h
    · simp only [List.mem_cons, List.not_mem_nil, or_false] at h
      rcases h with rfl | rfl | rfl | rfl <;> exact good_of (by decide +kernel)
    · exact py x h
end Pi
namespace Pi
open PySem PySem.Spec PyProof.Rows L2
theorem call0_q {m : List D → Mo D} {r : Env} {st : St} {z : Res D} (hm : m [] st = z) : eCall m aNil r st = z := by
  rw [q_eCall, q_aNil]
  exact hm
theorem cnt6_q (ns : List Int) : ∃ c : Nat, c ≤ 9 ∧ ∀ (r : Env) (st : St), iRng1 (aCons (eBin oAdd (eC (.int 3)) (eBlt oMin2 (aCons (eBlt oLen (aCons (hVar 0) (aNil))) (aCons (eC (.int 6)) (aNil))))) (aNil)) (some (.d (.kls (ns.map .int))) :: r) st = .ok (rangeD 0 c) st := by
  have z : ∃ c : Nat, c ≤ 9 ∧ (3 + (match decide ((6 : Int) < (ns.length : Nat)) with
    | true => (6 : Int)
    | false => (ns.length : Nat))) = (c : Int) := by
    cases e : decide ((6 : Int) < (ns.length : Nat)) with
    | true => exact ⟨9, by omega, rfl⟩
    | false =>
      have := of_decide_eq_false e
      exact ⟨3 + ns.length, by omega, by dsimp only; omega⟩
  obtain ⟨c, hc, e⟩ := z
  refine ⟨c, hc, fun r st => ?_⟩
  have rg : rng1 [.int (c : Int)] = some (rangeD 0 c) := by
    rw [rng1_q (by omega) (by omega), Int.toNat_natCast]
  have mn : oMin2 [.int (ns.length : Nat), .int 6] = some (.int (match decide ((6 : Int) < (ns.length : Nat)) with
    | true => (6 : Int)
    | false => (ns.length : Nat))) := rfl
  simp only [q_iRng1, q_aCons, q_eBin, q_eC, q_eBlt, q_hZero, q_aNil, q_lenK, List.length_map, q_some, mn, q_addI, e, rg]
abbrev lawY : Stm := sSeq (sSet 3 (eCall m__law_begun (aCons (eVar 0) (aCons (eVar 1) (aNil))))) (sIf (bCmp oNeX (nFz (nLc (iDat (eCall m__law_things (aCons (eVar 3) (aNil)))) (tgN 5) [5] (bNot (bOf (eCall m__law_made_right (aCons (eVar 5) (aNil))))) (eVar 5))) (eC (.lst []))) (sRet (eC (.bl false))) (sNext))
theorem turn_k22 {ns : List Int} (hl : ns.length ≤ 1000) {k : Int} (k0 : 0 ≤ k) (k1 : k ≤ 1000) (a2 a3 a4 a5 : Option SV) (st : St) :
    ∃ (b3 : Option SV) (st' : St), lawY [some (.d (.kls (ns.map .int))), some (.d (.int k)), a2, a3, a4, a5] st = .ok (.nx [some (.d (.kls (ns.map .int))), some (.d (.int k)), a2, b3, a4, a5]) st' := by
  obtain ⟨st1, e1, g1⟩ := begun_q hl k0 k1 st
  generalize hn : st.length = n at e1 g1
  obtain ⟨xs, st2, e2, hx, lx⟩ := things_q g1 (by unfold top0; omega)
  refine ⟨some (.d (.obj n)), st2, ?_⟩
  refine seq_step (r' := [some (.d (.kls (ns.map .int))), some (.d (.int k)), a2, some (.d (.obj n)), a4, a5]) (st' := st1) (sSet_q (call2_q rfl rfl e1)) ?_
  have it : iDat (eCall m__law_things (aCons (eVar 3) (aNil))) [some (.d (.kls (ns.map .int))), some (.d (.int k)), a2, some (.d (.obj n)), a4, a5] st1 = .ok xs st2 := by
    rw [q_iDat, call1_q (x := .obj n) (s1 := st1) rfl e2]
    rfl
  have lc := lcL_pure (b := tgN 5) (c := bNot (bOf (eCall m__law_made_right (aCons (eVar 5) (aNil))))) (e := eVar 5) (r := wipeE [5] [some (.d (.kls (ns.map .int))), some (.d (.int k)), a2, some (.d (.obj n)), a4, a5]) (st := st2) (p := fun _ => false) (F := id) xs fun x hxx =>
    ⟨[some (.d (.kls (ns.map .int))), some (.d (.int k)), a2, some (.d (.obj n)), a4, some (.d x)], rfl, bNot_f (call1_q (x := x) (s1 := st2) rfl (made_right_q (hx x hxx) st2)), fun z => (by cases z)⟩
  have lc2 : (xs.filter fun _ => false).map id = [] := by simp
  rw [lc2] at lc
  exact ifNo_q (bOp_q (x := .lst []) (y := .lst []) (s1 := st2) (s2 := st2) (by rw [q_nFz, nLc_q (xs := xs) (st' := st2) it (by omega) lc]) rfl rfl) rfl
theorem raised_right_q (st : St) : m__law_raised_right [] st = .ok (.bl true) st := by kernel_rfl
abbrev textY : Stm := sSeq (sSet 4 (eBex "RestError" (eVar 2))) (sSeq (sIf (bOr (bCmp oNeX (eCall m__law_marks (aCons (eVar 4) (aNil))) (nFz (nRep (eC (.lst [.bl false])) (eC (.int 11))))) (bCmp oNeX (eStrX okS (eVar 4)) (hVar 2))) (sRet (eC (.bl false))) (sNext)) (sIf (bCmp oNeX (eCall m__law_above (aCons (eVar 4) (aNil))) (eC (.lst [.bl true, .bl true, .bl false, .bl false, .bl false, .bl false, .bl false, .bl true]))) (sRet (eC (.bl false))) (sNext)))
theorem texts_q (a0 a1 a2 a3 a4 a5 : Option SV) (st : St) : sFor (iDat (eC (.tup [.str "no rest", .str "", .str "two words"]))) (tgN 2) textY [a0, a1, a2, a3, a4, a5] st = .ok (.nx [a0, a1, some (.d (.str "two words")), a3, some (.d (.bex "RestError" "two words")), a5]) st := by kernel_rfl
theorem law_k22 (ns : List Int) (hl : ns.length ≤ 63) : ∃ st', m_law [.kls (ns.map .int)] [] = .ok (.bl true) st' := by
  obtain ⟨c, hc, hit⟩ := cnt6_q ns
  have loop := forL_all (b := tgN 1) (g := lawY)
    (I := fun _ r _ => ∃ a1 a3 : Option SV, r = [some (.d (.kls (ns.map .int))), a1, none, a3, none, none]) (rangeD 0 c) [some (.d (.kls (ns.map .int))), none, none, none, none, none] [] 0 ⟨_, _, rfl⟩ fun k x r s hx ⟨a1, a3, hr⟩ => by
      subst hr
      obtain ⟨rfl, hk⟩ := rangeD_at hx
      obtain ⟨b3, st', e⟩ := turn_k22 (ns := ns) (by omega) (k := 0 + (k : Int)) (by omega) (by omega) none a3 none none s
      exact ⟨_, _, st', rfl, e, _, b3, rfl⟩
  obtain ⟨r2, st2, e, a1, a3, hr⟩ := loop
  subst hr
  delta lawY at e
  refine ⟨st2, run_q ?_⟩
  show g_law [some (.d (.kls (ns.map .int))), none, none, none, none, none] [] = _
  unfold g_law
  refine seq_step (r' := [some (.d (.kls (ns.map .int))), a1, none, a3, none, none]) (st' := st2) ?_ ?_
  · refine sFor_q (xs := rangeD 0 c) (s1 := []) (hit _ _) ?_
    exact e
  · exact seq_step (texts_q _ _ _ _ _ _ st2) (sRet_q (call0_q (raised_right_q st2)))
end Pi
namespace Pi
open PySem PySem.Spec PyProof.Rows L2 LamX
structure Wd (K : PySem.W.Frag) (h base : Heap) (mg : Str → Option Value) : Prop where
  X : K.In h
  G : h.Ns mainGlobals mg
  c : SaysP faT fnT (lamDefs.map fun z => (z, none)) exT h K
  tb : ∀ z ∈ lamDefs, TabB base mg (He.cT K (z, none)).1 (He.cT K (z, none)).2
section
variable {P : Program} {w : World} {K : PySem.W.Frag} {h base : Heap} {mg : Str → Option Value}
theorem Wd.hg (W : Wd K h base mg) : ∀ x ∈ gloNames, mg x = some (.ref (He.ga K x)) := fun x hx => He.glo_ok W.X W.G (W.c.d.facts (f := .glo x) (List.mem_append_left _ (List.mem_map.mpr ⟨x, hx, rfl⟩)))
theorem Wd.hf (W : Wd K h base mg) : ∀ x ∈ gloNames, mg x = some (.ref (He.fAd K (x, none))) := W.hg
theorem Wd.b (W : Wd K h base mg) : Blt mg := blt_of fun x hx => He.free_ok W.X W.G (W.c.d.facts (f := .free x) (List.mem_append_right _ (List.mem_map.mpr ⟨x, List.mem_append_left _ hx, rfl⟩)))
theorem Wd.be (W : Wd K h base mg) : BltE mg := bltE_of fun x hx => He.free_ok W.X W.G (W.c.d.facts (f := .free x) (List.mem_append_right _ (List.mem_map.mpr ⟨x, List.mem_append_right _ hx, rfl⟩)))
theorem Wd.sy (W : Wd K h base mg) : sysB K = true := (both W.c.more).1
theorem Wd.tok (W : Wd K h base mg) : tabsOk K lamDefs = true := (both (both W.c.more).2).1
theorem Wd.kcs (W : Wd K h base mg) : cxT.all (fun q => glcB K q.1 q.2) = true := (both (both (both W.c.more).2).2).1
theorem Wd.kin (W : Wd K h base mg) : kinB K errNames ["place", "value", "word", "most"] = true := (both (both (both (both W.c.more).2).2).2).1
theorem Wd.kinv (W : Wd K h base mg) : kinvB K supT ["BadField", "BadPoly", "BadPoint", "BadSystem", "BadBox", "BadLot", "BadPlanes", "BadVectors", "BadNumber", "BadPaper", "TooGreat", "RestError"] [("ValueError", "ValueError"), ("OverflowError", "OverflowError"), ("LookupError", "LookupError"), ("RuntimeError", "RuntimeError"), ("TypeError", "TypeError"), ("ArithmeticError", "ArithmeticError"), ("Exception", "Exception")] = true := (both (both (both (both (both W.c.more).2).2).2).2).1
theorem Wd.bar (W : Wd K h base mg) : bares.all (bareB K) = true := (both (both (both (both (both (both W.c.more).2).2).2).2).2).1
theorem Wd.hitc (W : Wd K h base mg) : hitcB K hitL "RestError" "TooGreat" = true := (both (both (both (both (both (both (both W.c.more).2).2).2).2).2).2).1
theorem Wd.rs_BadBox (W : Wd K h base mg) : raisB K "BadBox" "value" = true := (both (both (both (both (both (both (both (both W.c.more).2).2).2).2).2).2).2).1
theorem Wd.rs_BadField (W : Wd K h base mg) : raisB K "BadField" "place" = true := (both (both (both (both (both (both (both (both (both W.c.more).2).2).2).2).2).2).2).2).1
theorem Wd.rs_BadLot (W : Wd K h base mg) : raisB K "BadLot" "value" = true := (both (both (both (both (both (both (both (both (both (both W.c.more).2).2).2).2).2).2).2).2).2).1
theorem Wd.rs_BadNumber (W : Wd K h base mg) : raisB K "BadNumber" "value" = true := (both (both (both (both (both (both (both (both (both (both (both W.c.more).2).2).2).2).2).2).2).2).2).2).1
theorem Wd.rs_BadPaper (W : Wd K h base mg) : raisB K "BadPaper" "word" = true := (both (both (both (both (both (both (both (both (both (both (both (both W.c.more).2).2).2).2).2).2).2).2).2).2).2).1
theorem Wd.rs_BadPlanes (W : Wd K h base mg) : raisB K "BadPlanes" "place" = true := (both (both (both (both (both (both (both (both (both (both (both (both (both W.c.more).2).2).2).2).2).2).2).2).2).2).2).2).1
theorem Wd.rs_BadPoint (W : Wd K h base mg) : raisB K "BadPoint" "value" = true := (both (both (both (both (both (both (both (both (both (both (both (both (both (both W.c.more).2).2).2).2).2).2).2).2).2).2).2).2).2).1
theorem Wd.rs_BadPoly (W : Wd K h base mg) : raisB K "BadPoly" "place" = true := (both (both (both (both (both (both (both (both (both (both (both (both (both (both (both W.c.more).2).2).2).2).2).2).2).2).2).2).2).2).2).2).1
theorem Wd.rs_BadSystem (W : Wd K h base mg) : raisB K "BadSystem" "place" = true := (both (both (both (both (both (both (both (both (both (both (both (both (both (both (both (both W.c.more).2).2).2).2).2).2).2).2).2).2).2).2).2).2).2).1
theorem Wd.rs_BadVectors (W : Wd K h base mg) : raisB K "BadVectors" "place" = true := (both (both (both (both (both (both (both (both (both (both (both (both (both (both (both (both (both W.c.more).2).2).2).2).2).2).2).2).2).2).2).2).2).2).2).2).1
theorem Wd.rs_TooGreat (W : Wd K h base mg) : raisO K "TooGreat" "most" = true := (both (both (both (both (both (both (both (both (both (both (both (both (both (both (both (both (both W.c.more).2).2).2).2).2).2).2).2).2).2).2).2).2).2).2).2).2
theorem Wd.sys (W : Wd K h base mg) : ∃ o, K.lookup sysModules = some o := (sysB_ok W.sy).1
theorem Wd.ns (W : Wd K h base mg) : NoSys K := (sysB_ok W.sy).2
theorem Wd.kc_MOST_PLANES (W : Wd K h base mg) : GlC K mg "MOST_PLANES" cMOST_PLANES := glc_of W.X W.G (List.all_eq_true.mp W.kcs ("MOST_PLANES", cMOST_PLANES) (by simp [cxT]))
theorem Wd.kc_MOST_POINTS_fields (W : Wd K h base mg) : GlC K mg "MOST_POINTS_fields" cMOST_POINTS_fields := glc_of W.X W.G (List.all_eq_true.mp W.kcs ("MOST_POINTS_fields", cMOST_POINTS_fields) (by simp [cxT]))
theorem Wd.kc_MOST_POINTS_hidden (W : Wd K h base mg) : GlC K mg "MOST_POINTS_hidden" cMOST_POINTS_hidden := glc_of W.X W.G (List.all_eq_true.mp W.kcs ("MOST_POINTS_hidden", cMOST_POINTS_hidden) (by simp [cxT]))
theorem Wd.kc_MOST_POLYS (W : Wd K h base mg) : GlC K mg "MOST_POLYS" cMOST_POLYS := glc_of W.X W.G (List.all_eq_true.mp W.kcs ("MOST_POLYS", cMOST_POLYS) (by simp [cxT]))
theorem Wd.kc_MOST_POWER (W : Wd K h base mg) : GlC K mg "MOST_POWER" cMOST_POWER := glc_of W.X W.G (List.all_eq_true.mp W.kcs ("MOST_POWER", cMOST_POWER) (by simp [cxT]))
theorem Wd.kc_MOST_TERMS (W : Wd K h base mg) : GlC K mg "MOST_TERMS" cMOST_TERMS := glc_of W.X W.G (List.all_eq_true.mp W.kcs ("MOST_TERMS", cMOST_TERMS) (by simp [cxT]))
theorem Wd.kc_MOST_UNKNOWNS (W : Wd K h base mg) : GlC K mg "MOST_UNKNOWNS" cMOST_UNKNOWNS := glc_of W.X W.G (List.all_eq_true.mp W.kcs ("MOST_UNKNOWNS", cMOST_UNKNOWNS) (by simp [cxT]))
theorem Wd.kc_MOST_VECTORS (W : Wd K h base mg) : GlC K mg "MOST_VECTORS" cMOST_VECTORS := glc_of W.X W.G (List.all_eq_true.mp W.kcs ("MOST_VECTORS", cMOST_VECTORS) (by simp [cxT]))
theorem Wd.kc_PRIMES (W : Wd K h base mg) : GlC K mg "PRIMES" cPRIMES := glc_of W.X W.G (List.all_eq_true.mp W.kcs ("PRIMES", cPRIMES) (by simp [cxT]))
theorem Wd.F_is_integer (W : Wd K h base mg) : ∃ fd, FunD K "is_integer" "is_integer" (defArgs (top 18)) (defBody (top 18)) (defScope (top 18)) [] [] (He.fAd K ("is_integer", none)) fd := W.c.d.def_ 0 (d := dd_is_integer) rfl
theorem Wd.F_is_integer_in (W : Wd K h base mg) : ∃ fd, FunD K "is_integer_in" "is_integer_in" (defArgs (top 19)) (defBody (top 19)) (defScope (top 19)) [] [] (He.fAd K ("is_integer_in", none)) fd := W.c.d.def_ 1 (d := dd_is_integer_in) rfl
theorem Wd.F_is_prime (W : Wd K h base mg) : ∃ fd, FunD K "is_prime" "is_prime" (defArgs (top 20)) (defBody (top 20)) (defScope (top 20)) [] [] (He.fAd K ("is_prime", none)) fd := W.c.d.def_ 2 (d := dd_is_prime) rfl
theorem Wd.F_is_tuple_of (W : Wd K h base mg) : ∃ fd, FunD K "is_tuple_of" "is_tuple_of" (defArgs (top 21)) (defBody (top 21)) (defScope (top 21)) [] [] (He.fAd K ("is_tuple_of", none)) fd := W.c.d.def_ 3 (d := dd_is_tuple_of) rfl
theorem Wd.F_are_rests (W : Wd K h base mg) : ∃ fd, FunD K "are_rests" "are_rests" (defArgs (top 22)) (defBody (top 22)) (defScope (top 22)) [] [] (He.fAd K ("are_rests", none)) fd := W.c.d.def_ 4 (d := dd_are_rests) rfl
theorem Wd.F_is_ascending (W : Wd K h base mg) : ∃ fd, FunD K "is_ascending" "is_ascending" (defArgs (top 24)) (defBody (top 24)) (defScope (top 24)) [] [] (He.fAd K ("is_ascending", none)) fd := W.c.d.def_ 5 (d := dd_is_ascending) rfl
theorem Wd.F_power_of (W : Wd K h base mg) : ∃ fd, FunD K "power_of" "power_of" (defArgs (top 26)) (defBody (top 26)) (defScope (top 26)) [] [] (He.fAd K ("power_of", none)) fd := W.c.d.def_ 6 (d := dd_power_of) rfl
theorem Wd.F_need_field (W : Wd K h base mg) : ∃ fd, FunD K "need_field" "need_field" (defArgs (top 27)) (defBody (top 27)) (defScope (top 27)) [] [] (He.fAd K ("need_field", none)) fd := W.c.d.def_ 7 (d := dd_need_field) rfl
theorem Wd.F_is_point (W : Wd K h base mg) : ∃ fd, FunD K "is_point" "is_point" (defArgs (top 28)) (defBody (top 28)) (defScope (top 28)) [] [] (He.fAd K ("is_point", none)) fd := W.c.d.def_ 8 (d := dd_is_point) rfl
theorem Wd.F_need_point (W : Wd K h base mg) : ∃ fd, FunD K "need_point" "need_point" (defArgs (top 29)) (defBody (top 29)) (defScope (top 29)) [] [] (He.fAd K ("need_point", none)) fd := W.c.d.def_ 9 (d := dd_need_point) rfl
theorem Wd.F_points (W : Wd K h base mg) : ∃ fd, FunD K "points" "points" (defArgs (top 30)) (defBody (top 30)) (defScope (top 30)) [] [] (He.fAd K ("points", none)) fd := W.c.d.def_ 10 (d := dd_points) rfl
theorem Wd.F__are_powers (W : Wd K h base mg) : ∃ fd, FunD K "_are_powers" "_are_powers" (defArgs (top 34)) (defBody (top 34)) (defScope (top 34)) [] [] (He.fAd K ("_are_powers", none)) fd := W.c.d.def_ 11 (d := dd__are_powers) rfl
theorem Wd.F__is_term (W : Wd K h base mg) : ∃ fd, FunD K "_is_term" "_is_term" (defArgs (top 35)) (defBody (top 35)) (defScope (top 35)) [] [] (He.fAd K ("_is_term", none)) fd := W.c.d.def_ 12 (d := dd__is_term) rfl
theorem Wd.F_poly_fault (W : Wd K h base mg) : ∃ fd, FunD K "poly_fault" "poly_fault" (defArgs (top 36)) (defBody (top 36)) (defScope (top 36)) [] [] (He.fAd K ("poly_fault", none)) fd := W.c.d.def_ 13 (d := dd_poly_fault) rfl
theorem Wd.F_need_poly (W : Wd K h base mg) : ∃ fd, FunD K "need_poly" "need_poly" (defArgs (top 37)) (defBody (top 37)) (defScope (top 37)) [] [] (He.fAd K ("need_poly", none)) fd := W.c.d.def_ 14 (d := dd_need_poly) rfl
theorem Wd.F_value_at (W : Wd K h base mg) : ∃ fd, FunD K "value_at" "value_at" (defArgs (top 38)) (defBody (top 38)) (defScope (top 38)) [] [] (He.fAd K ("value_at", none)) fd := W.c.d.def_ 15 (d := dd_value_at) rfl
theorem Wd.F__is_lot (W : Wd K h base mg) : ∃ fd, FunD K "_is_lot" "_is_lot" (defArgs (top 56)) (defBody (top 56)) (defScope (top 56)) [] [] (He.fAd K ("_is_lot", none)) fd := W.c.d.def_ 16 (d := dd__is_lot) rfl
theorem Wd.F__need_lot_and_point (W : Wd K h base mg) : ∃ fd, FunD K "_need_lot_and_point" "_need_lot_and_point" (defArgs (top 55)) (defBody (top 55)) (defScope (top 55)) [] [] (He.fAd K ("_need_lot_and_point", none)) fd := W.c.d.def_ 17 (d := dd__need_lot_and_point) rfl
theorem Wd.F_depth_paper (W : Wd K h base mg) : ∃ fd, FunD K "depth_paper" "depth_paper" (defArgs (top 53)) (defBody (top 53)) (defScope (top 53)) [] [] (He.fAd K ("depth_paper", none)) fd := W.c.d.def_ 18 (d := dd_depth_paper) rfl
theorem Wd.F_depth (W : Wd K h base mg) : ∃ fd, FunD K "depth" "depth" (defArgs (top 52)) (defBody (top 52)) (defScope (top 52)) [] [] (He.fAd K ("depth", none)) fd := W.c.d.def_ 19 (d := dd_depth) rfl
theorem Wd.F_check_depth (W : Wd K h base mg) : ∃ fd, FunD K "check_depth" "check_depth" (defArgs (top 54)) (defBody (top 54)) (defScope (top 54)) [] [] (He.fAd K ("check_depth", none)) fd := W.c.d.def_ 20 (d := dd_check_depth) rfl
theorem Wd.F__is_place (W : Wd K h base mg) : ∃ fd, FunD K "_is_place" "_is_place" (defArgs (top 70)) (defBody (top 70)) (defScope (top 70)) [] [] (He.fAd K ("_is_place", none)) fd := W.c.d.def_ 21 (d := dd__is_place) rfl
theorem Wd.F__need_poly_and_box (W : Wd K h base mg) : ∃ fd, FunD K "_need_poly_and_box" "_need_poly_and_box" (defArgs (top 69)) (defBody (top 69)) (defScope (top 69)) [] [] (He.fAd K ("_need_poly_and_box", none)) fd := W.c.d.def_ 22 (d := dd__need_poly_and_box) rfl
theorem Wd.F_rest_in (W : Wd K h base mg) : ∃ fd, FunD K "rest_in" "rest_in" (defArgs (top 68)) (defBody (top 68)) (defScope (top 68)) [] [] (He.fAd K ("rest_in", none)) fd := W.c.d.def_ 23 (d := dd_rest_in) rfl
theorem Wd.F_uncovered (W : Wd K h base mg) : ∃ fd, FunD K "uncovered" "uncovered" (defArgs (top 75)) (defBody (top 75)) (defScope (top 75)) [] [] (He.fAd K ("uncovered", none)) fd := W.c.d.def_ 24 (d := dd_uncovered) rfl
theorem Wd.F_need_system (W : Wd K h base mg) : ∃ fd, FunD K "need_system" "need_system" (defArgs (top 81)) (defBody (top 81)) (defScope (top 81)) [] [] (He.fAd K ("need_system", none)) fd := W.c.d.def_ 25 (d := dd_need_system) rfl
theorem Wd.F__marks (W : Wd K h base mg) : ∃ fd, FunD K "_marks" "_marks" (defArgs (top 82)) (defBody (top 82)) (defScope (top 82)) [] [] (He.fAd K ("_marks", none)) fd := W.c.d.def_ 26 (d := dd__marks) rfl
theorem Wd.F_zeros (W : Wd K h base mg) : ∃ fd, FunD K "zeros" "zeros" (defArgs (top 83)) (defBody (top 83)) (defScope (top 83)) [] [] (He.fAd K ("zeros", none)) fd := W.c.d.def_ 27 (d := dd_zeros) rfl
theorem Wd.F_norm (W : Wd K h base mg) : ∃ fd, FunD K "norm" "norm" (defArgs (top 86)) (defBody (top 86)) (defScope (top 86)) [] [] (He.fAd K ("norm", none)) fd := W.c.d.def_ 28 (d := dd_norm) rfl
theorem Wd.F__need_prime (W : Wd K h base mg) : ∃ fd, FunD K "_need_prime" "_need_prime" (defArgs (top 94)) (defBody (top 94)) (defScope (top 94)) [] [] (He.fAd K ("_need_prime", none)) fd := W.c.d.def_ 29 (d := dd__need_prime) rfl
theorem Wd.F__need_few (W : Wd K h base mg) : ∃ fd, FunD K "_need_few" "_need_few" (defArgs (top 95)) (defBody (top 95)) (defScope (top 95)) [] [] (He.fAd K ("_need_few", none)) fd := W.c.d.def_ 30 (d := dd__need_few) rfl
theorem Wd.F__need_vectors (W : Wd K h base mg) : ∃ fd, FunD K "_need_vectors" "_need_vectors" (defArgs (top 96)) (defBody (top 96)) (defScope (top 96)) [] [] (He.fAd K ("_need_vectors", none)) fd := W.c.d.def_ 31 (d := dd__need_vectors) rfl
theorem Wd.F_nought_lot (W : Wd K h base mg) : ∃ fd, FunD K "nought_lot" "nought_lot" (defArgs (top 93)) (defBody (top 93)) (defScope (top 93)) [] [] (He.fAd K ("nought_lot", none)) fd := W.c.d.def_ 32 (d := dd_nought_lot) rfl
theorem Wd.F__law_begun (W : Wd K h base mg) : ∃ fd, FunD K "_law_begun" "_law_begun" (defArgs (top 100)) (defBody (top 100)) (defScope (top 100)) [] [] (He.fAd K ("_law_begun", none)) fd := W.c.d.def_ 33 (d := dd__law_begun) rfl
theorem Wd.F__law_draw (W : Wd K h base mg) : ∃ fd, FunD K "_law_draw" "_law_draw" (defArgs (top 101)) (defBody (top 101)) (defScope (top 101)) [] [] (He.fAd K ("_law_draw", none)) fd := W.c.d.def_ 34 (d := dd__law_draw) rfl
theorem Wd.F__law_of (W : Wd K h base mg) : ∃ fd, FunD K "_law_of" "_law_of" (defArgs (top 102)) (defBody (top 102)) (defScope (top 102)) [] [] (He.fAd K ("_law_of", none)) fd := W.c.d.def_ 35 (d := dd__law_of) rfl
theorem Wd.F__law_marks (W : Wd K h base mg) : ∃ fd, FunD K "_law_marks" "_law_marks" (defArgs (top 103)) (defBody (top 103)) (defScope (top 103)) [] [] (He.fAd K ("_law_marks", none)) fd := W.c.d.def_ 36 (d := dd__law_marks) rfl
theorem Wd.F__law_above (W : Wd K h base mg) : ∃ fd, FunD K "_law_above" "_law_above" (defArgs (top 104)) (defBody (top 104)) (defScope (top 104)) [] [] (He.fAd K ("_law_above", none)) fd := W.c.d.def_ 37 (d := dd__law_above) rfl
theorem Wd.F__law_things (W : Wd K h base mg) : ∃ fd, FunD K "_law_things" "_law_things" (defArgs (top 105)) (defBody (top 105)) (defScope (top 105)) [] [] (He.fAd K ("_law_things", none)) fd := W.c.d.def_ 38 (d := dd__law_things) rfl
theorem Wd.F__law_fields_of (W : Wd K h base mg) : ∃ fd, FunD K "_law_fields_of" "_law_fields_of" (defArgs (top 106)) (defBody (top 106)) (defScope (top 106)) [] [] (He.fAd K ("_law_fields_of", none)) fd := W.c.d.def_ 39 (d := dd__law_fields_of) rfl
theorem Wd.F__law_made_right (W : Wd K h base mg) : ∃ fd, FunD K "_law_made_right" "_law_made_right" (defArgs (top 107)) (defBody (top 107)) (defScope (top 107)) [] [] (He.fAd K ("_law_made_right", none)) fd := W.c.d.def_ 40 (d := dd__law_made_right) rfl
theorem Wd.F__law_raised (W : Wd K h base mg) : ∃ fd, FunD K "_law_raised" "_law_raised" (defArgs (top 108)) (defBody (top 108)) (defScope (top 108)) [] [] (He.fAd K ("_law_raised", none)) fd := W.c.d.def_ 41 (d := dd__law_raised) rfl
theorem Wd.F__law_raised_right (W : Wd K h base mg) : ∃ fd, FunD K "_law_raised_right" "_law_raised_right" (defArgs (top 109)) (defBody (top 109)) (defScope (top 109)) [] [] (He.fAd K ("_law_raised_right", none)) fd := W.c.d.def_ 42 (d := dd__law_raised_right) rfl
theorem Wd.F_law (W : Wd K h base mg) : ∃ fd, FunD K "law" "law" (defArgs (top 110)) (defBody (top 110)) (defScope (top 110)) [] [] (He.fAd K ("law", none)) fd := W.c.d.def_ 43 (d := dd_law) rfl
theorem Wd.I_BadBox (W : Wd K h base mg) : ∃ fd, FunD K "__init__" "BadBox.__init__" (defArgs (methOf (top 7))) (defBody (methOf (top 7))) (defScope (methOf (top 7))) [] [] (He.ma K (He.ga K "BadBox") "__init__") fd := W.c.d.def_ 44 (d := di_BadBox) rfl
theorem Wd.kx_BadBox (W : Wd K h base mg) : XF (GK K) P w K mg base "BadBox" eBadBox := by
  obtain ⟨fd, I⟩ := W.I_BadBox
  exact xf_of (y := "value") (p1 := ⟨24, 8, 24, 12⟩) (p2 := ⟨24, 8, 24, 18⟩) (p3 := ⟨24, 21, 24, 26⟩) (p4 := ⟨24, 8, 24, 26⟩) (scope := defScope (methOf (top 7))) (params := defArgs (methOf (top 7))) W.rs_BadBox rfl rfl (W.hg "BadBox" (by decide +kernel)) I ⟨rfl, rfl, rfl, by decide +kernel, rfl, by decide +kernel, by decide +kernel⟩ rfl rfl rfl rfl (fun _ _ _ => rfl) (fun _ _ _ _ _ _ us hl => match us, hl with | [_, _], _ => rfl)
theorem Wd.I_BadField (W : Wd K h base mg) : ∃ fd, FunD K "__init__" "BadField.__init__" (defArgs (methOf (top 3))) (defBody (methOf (top 3))) (defScope (methOf (top 3))) [] [] (He.ma K (He.ga K "BadField") "__init__") fd := W.c.d.def_ 45 (d := di_BadField) rfl
theorem Wd.kx_BadField (W : Wd K h base mg) : XF (GK K) P w K mg base "BadField" eBadField := by
  obtain ⟨fd, I⟩ := W.I_BadField
  exact xf_of (y := "place") (p1 := ⟨8, 8, 8, 12⟩) (p2 := ⟨8, 8, 8, 18⟩) (p3 := ⟨8, 21, 8, 26⟩) (p4 := ⟨8, 8, 8, 26⟩) (scope := defScope (methOf (top 3))) (params := defArgs (methOf (top 3))) W.rs_BadField rfl rfl (W.hg "BadField" (by decide +kernel)) I ⟨rfl, rfl, rfl, by decide +kernel, rfl, by decide +kernel, by decide +kernel⟩ rfl rfl rfl rfl (fun _ _ _ => rfl) (fun _ _ _ _ _ _ us hl => match us, hl with | [_, _], _ => rfl)
theorem Wd.I_BadLot (W : Wd K h base mg) : ∃ fd, FunD K "__init__" "BadLot.__init__" (defArgs (methOf (top 8))) (defBody (methOf (top 8))) (defScope (methOf (top 8))) [] [] (He.ma K (He.ga K "BadLot") "__init__") fd := W.c.d.def_ 46 (d := di_BadLot) rfl
theorem Wd.kx_BadLot (W : Wd K h base mg) : XF (GK K) P w K mg base "BadLot" eBadLot := by
  obtain ⟨fd, I⟩ := W.I_BadLot
  exact xf_of (y := "value") (p1 := ⟨28, 8, 28, 12⟩) (p2 := ⟨28, 8, 28, 18⟩) (p3 := ⟨28, 21, 28, 26⟩) (p4 := ⟨28, 8, 28, 26⟩) (scope := defScope (methOf (top 8))) (params := defArgs (methOf (top 8))) W.rs_BadLot rfl rfl (W.hg "BadLot" (by decide +kernel)) I ⟨rfl, rfl, rfl, by decide +kernel, rfl, by decide +kernel, by decide +kernel⟩ rfl rfl rfl rfl (fun _ _ _ => rfl) (fun _ _ _ _ _ _ us hl => match us, hl with | [_, _], _ => rfl)
theorem Wd.I_BadNumber (W : Wd K h base mg) : ∃ fd, FunD K "__init__" "BadNumber.__init__" (defArgs (methOf (top 11))) (defBody (methOf (top 11))) (defScope (methOf (top 11))) [] [] (He.ma K (He.ga K "BadNumber") "__init__") fd := W.c.d.def_ 47 (d := di_BadNumber) rfl
theorem Wd.kx_BadNumber (W : Wd K h base mg) : XF (GK K) P w K mg base "BadNumber" eBadNumber := by
  obtain ⟨fd, I⟩ := W.I_BadNumber
  exact xf_of (y := "value") (p1 := ⟨40, 8, 40, 12⟩) (p2 := ⟨40, 8, 40, 18⟩) (p3 := ⟨40, 21, 40, 26⟩) (p4 := ⟨40, 8, 40, 26⟩) (scope := defScope (methOf (top 11))) (params := defArgs (methOf (top 11))) W.rs_BadNumber rfl rfl (W.hg "BadNumber" (by decide +kernel)) I ⟨rfl, rfl, rfl, by decide +kernel, rfl, by decide +kernel, by decide +kernel⟩ rfl rfl rfl rfl (fun _ _ _ => rfl) (fun _ _ _ _ _ _ us hl => match us, hl with | [_, _], _ => rfl)
theorem Wd.I_BadPaper (W : Wd K h base mg) : ∃ fd, FunD K "__init__" "BadPaper.__init__" (defArgs (methOf (top 12))) (defBody (methOf (top 12))) (defScope (methOf (top 12))) [] [] (He.ma K (He.ga K "BadPaper") "__init__") fd := W.c.d.def_ 48 (d := di_BadPaper) rfl
theorem Wd.kx_BadPaper (W : Wd K h base mg) : XF (GK K) P w K mg base "BadPaper" eBadPaper := by
  obtain ⟨fd, I⟩ := W.I_BadPaper
  exact xf_of (y := "word") (p1 := ⟨44, 8, 44, 12⟩) (p2 := ⟨44, 8, 44, 17⟩) (p3 := ⟨44, 20, 44, 24⟩) (p4 := ⟨44, 8, 44, 24⟩) (scope := defScope (methOf (top 12))) (params := defArgs (methOf (top 12))) W.rs_BadPaper rfl rfl (W.hg "BadPaper" (by decide +kernel)) I ⟨rfl, rfl, rfl, by decide +kernel, rfl, by decide +kernel, by decide +kernel⟩ rfl rfl rfl rfl (fun _ _ _ => rfl) (fun _ _ _ _ _ _ us hl => match us, hl with | [_, _], _ => rfl)
theorem Wd.I_BadPlanes (W : Wd K h base mg) : ∃ fd, FunD K "__init__" "BadPlanes.__init__" (defArgs (methOf (top 9))) (defBody (methOf (top 9))) (defScope (methOf (top 9))) [] [] (He.ma K (He.ga K "BadPlanes") "__init__") fd := W.c.d.def_ 49 (d := di_BadPlanes) rfl
theorem Wd.kx_BadPlanes (W : Wd K h base mg) : XF (GK K) P w K mg base "BadPlanes" eBadPlanes := by
  obtain ⟨fd, I⟩ := W.I_BadPlanes
  exact xf_of (y := "place") (p1 := ⟨32, 8, 32, 12⟩) (p2 := ⟨32, 8, 32, 18⟩) (p3 := ⟨32, 21, 32, 26⟩) (p4 := ⟨32, 8, 32, 26⟩) (scope := defScope (methOf (top 9))) (params := defArgs (methOf (top 9))) W.rs_BadPlanes rfl rfl (W.hg "BadPlanes" (by decide +kernel)) I ⟨rfl, rfl, rfl, by decide +kernel, rfl, by decide +kernel, by decide +kernel⟩ rfl rfl rfl rfl (fun _ _ _ => rfl) (fun _ _ _ _ _ _ us hl => match us, hl with | [_, _], _ => rfl)
theorem Wd.I_BadPoint (W : Wd K h base mg) : ∃ fd, FunD K "__init__" "BadPoint.__init__" (defArgs (methOf (top 5))) (defBody (methOf (top 5))) (defScope (methOf (top 5))) [] [] (He.ma K (He.ga K "BadPoint") "__init__") fd := W.c.d.def_ 50 (d := di_BadPoint) rfl
theorem Wd.kx_BadPoint (W : Wd K h base mg) : XF (GK K) P w K mg base "BadPoint" eBadPoint := by
  obtain ⟨fd, I⟩ := W.I_BadPoint
  exact xf_of (y := "value") (p1 := ⟨16, 8, 16, 12⟩) (p2 := ⟨16, 8, 16, 18⟩) (p3 := ⟨16, 21, 16, 26⟩) (p4 := ⟨16, 8, 16, 26⟩) (scope := defScope (methOf (top 5))) (params := defArgs (methOf (top 5))) W.rs_BadPoint rfl rfl (W.hg "BadPoint" (by decide +kernel)) I ⟨rfl, rfl, rfl, by decide +kernel, rfl, by decide +kernel, by decide +kernel⟩ rfl rfl rfl rfl (fun _ _ _ => rfl) (fun _ _ _ _ _ _ us hl => match us, hl with | [_, _], _ => rfl)
theorem Wd.I_BadPoly (W : Wd K h base mg) : ∃ fd, FunD K "__init__" "BadPoly.__init__" (defArgs (methOf (top 4))) (defBody (methOf (top 4))) (defScope (methOf (top 4))) [] [] (He.ma K (He.ga K "BadPoly") "__init__") fd := W.c.d.def_ 51 (d := di_BadPoly) rfl
theorem Wd.kx_BadPoly (W : Wd K h base mg) : XF (GK K) P w K mg base "BadPoly" eBadPoly := by
  obtain ⟨fd, I⟩ := W.I_BadPoly
  exact xf_of (y := "place") (p1 := ⟨12, 8, 12, 12⟩) (p2 := ⟨12, 8, 12, 18⟩) (p3 := ⟨12, 21, 12, 26⟩) (p4 := ⟨12, 8, 12, 26⟩) (scope := defScope (methOf (top 4))) (params := defArgs (methOf (top 4))) W.rs_BadPoly rfl rfl (W.hg "BadPoly" (by decide +kernel)) I ⟨rfl, rfl, rfl, by decide +kernel, rfl, by decide +kernel, by decide +kernel⟩ rfl rfl rfl rfl (fun _ _ _ => rfl) (fun _ _ _ _ _ _ us hl => match us, hl with | [_, _], _ => rfl)
theorem Wd.I_BadSystem (W : Wd K h base mg) : ∃ fd, FunD K "__init__" "BadSystem.__init__" (defArgs (methOf (top 6))) (defBody (methOf (top 6))) (defScope (methOf (top 6))) [] [] (He.ma K (He.ga K "BadSystem") "__init__") fd := W.c.d.def_ 52 (d := di_BadSystem) rfl
theorem Wd.kx_BadSystem (W : Wd K h base mg) : XF (GK K) P w K mg base "BadSystem" eBadSystem := by
  obtain ⟨fd, I⟩ := W.I_BadSystem
  exact xf_of (y := "place") (p1 := ⟨20, 8, 20, 12⟩) (p2 := ⟨20, 8, 20, 18⟩) (p3 := ⟨20, 21, 20, 26⟩) (p4 := ⟨20, 8, 20, 26⟩) (scope := defScope (methOf (top 6))) (params := defArgs (methOf (top 6))) W.rs_BadSystem rfl rfl (W.hg "BadSystem" (by decide +kernel)) I ⟨rfl, rfl, rfl, by decide +kernel, rfl, by decide +kernel, by decide +kernel⟩ rfl rfl rfl rfl (fun _ _ _ => rfl) (fun _ _ _ _ _ _ us hl => match us, hl with | [_, _], _ => rfl)
theorem Wd.I_BadVectors (W : Wd K h base mg) : ∃ fd, FunD K "__init__" "BadVectors.__init__" (defArgs (methOf (top 10))) (defBody (methOf (top 10))) (defScope (methOf (top 10))) [] [] (He.ma K (He.ga K "BadVectors") "__init__") fd := W.c.d.def_ 53 (d := di_BadVectors) rfl
theorem Wd.kx_BadVectors (W : Wd K h base mg) : XF (GK K) P w K mg base "BadVectors" eBadVectors := by
  obtain ⟨fd, I⟩ := W.I_BadVectors
  exact xf_of (y := "place") (p1 := ⟨36, 8, 36, 12⟩) (p2 := ⟨36, 8, 36, 18⟩) (p3 := ⟨36, 21, 36, 26⟩) (p4 := ⟨36, 8, 36, 26⟩) (scope := defScope (methOf (top 10))) (params := defArgs (methOf (top 10))) W.rs_BadVectors rfl rfl (W.hg "BadVectors" (by decide +kernel)) I ⟨rfl, rfl, rfl, by decide +kernel, rfl, by decide +kernel, by decide +kernel⟩ rfl rfl rfl rfl (fun _ _ _ => rfl) (fun _ _ _ _ _ _ us hl => match us, hl with | [_, _], _ => rfl)
theorem Wd.I_TooGreat (W : Wd K h base mg) : ∃ fd, FunD K "__init__" "TooGreat.__init__" (defArgs (methOf (top 13))) (defBody (methOf (top 13))) (defScope (methOf (top 13))) [] [] (He.ma K (He.ga K "TooGreat") "__init__") fd := W.c.d.def_ 54 (d := di_TooGreat) rfl
theorem Wd.kx_TooGreat (W : Wd K h base mg) : XFO (GK K) P w K mg base "TooGreat" eTooGreat := by
  obtain ⟨fd, I⟩ := W.I_TooGreat
  exact xfO_of (y := "most") (p1 := ⟨48, 8, 48, 12⟩) (p2 := ⟨48, 8, 48, 17⟩) (p3 := ⟨48, 20, 48, 24⟩) (p4 := ⟨48, 8, 48, 24⟩) (scope := defScope (methOf (top 13))) (params := defArgs (methOf (top 13))) W.rs_TooGreat rfl rfl (W.hg "TooGreat" (by decide +kernel)) I ⟨rfl, rfl, rfl, by decide +kernel, rfl, by decide +kernel, by decide +kernel⟩ rfl rfl rfl rfl (fun _ _ _ => rfl) (fun _ _ _ _ _ _ us hl => match us, hl with | [_, _], _ => rfl)
theorem Wd.ky_BadBox (W : Wd K h base mg) : XFW (GK K) P w K mg base "BadBox" eBadBox "value" := by
  obtain ⟨fd, I⟩ := W.I_BadBox
  exact xfw_of (y := "value") (p1 := ⟨24, 8, 24, 12⟩) (p2 := ⟨24, 8, 24, 18⟩) (p3 := ⟨24, 21, 24, 26⟩) (p4 := ⟨24, 8, 24, 26⟩) (scope := defScope (methOf (top 7))) (params := defArgs (methOf (top 7))) W.rs_BadBox rfl rfl (W.hg "BadBox" (by decide +kernel)) I ⟨rfl, rfl, rfl, by decide +kernel, rfl, by decide +kernel, by decide +kernel⟩ rfl rfl rfl rfl (fun _ _ _ => rfl) (fun _ _ _ _ _ _ _ _ => rfl)
theorem Wd.ky_BadField (W : Wd K h base mg) : XFW (GK K) P w K mg base "BadField" eBadField "place" := by
  obtain ⟨fd, I⟩ := W.I_BadField
  exact xfw_of (y := "place") (p1 := ⟨8, 8, 8, 12⟩) (p2 := ⟨8, 8, 8, 18⟩) (p3 := ⟨8, 21, 8, 26⟩) (p4 := ⟨8, 8, 8, 26⟩) (scope := defScope (methOf (top 3))) (params := defArgs (methOf (top 3))) W.rs_BadField rfl rfl (W.hg "BadField" (by decide +kernel)) I ⟨rfl, rfl, rfl, by decide +kernel, rfl, by decide +kernel, by decide +kernel⟩ rfl rfl rfl rfl (fun _ _ _ => rfl) (fun _ _ _ _ _ _ _ _ => rfl)
theorem Wd.ky_BadLot (W : Wd K h base mg) : XFW (GK K) P w K mg base "BadLot" eBadLot "value" := by
  obtain ⟨fd, I⟩ := W.I_BadLot
  exact xfw_of (y := "value") (p1 := ⟨28, 8, 28, 12⟩) (p2 := ⟨28, 8, 28, 18⟩) (p3 := ⟨28, 21, 28, 26⟩) (p4 := ⟨28, 8, 28, 26⟩) (scope := defScope (methOf (top 8))) (params := defArgs (methOf (top 8))) W.rs_BadLot rfl rfl (W.hg "BadLot" (by decide +kernel)) I ⟨rfl, rfl, rfl, by decide +kernel, rfl, by decide +kernel, by decide +kernel⟩ rfl rfl rfl rfl (fun _ _ _ => rfl) (fun _ _ _ _ _ _ _ _ => rfl)
theorem Wd.ky_BadNumber (W : Wd K h base mg) : XFW (GK K) P w K mg base "BadNumber" eBadNumber "value" := by
  obtain ⟨fd, I⟩ := W.I_BadNumber
  exact xfw_of (y := "value") (p1 := ⟨40, 8, 40, 12⟩) (p2 := ⟨40, 8, 40, 18⟩) (p3 := ⟨40, 21, 40, 26⟩) (p4 := ⟨40, 8, 40, 26⟩) (scope := defScope (methOf (top 11))) (params := defArgs (methOf (top 11))) W.rs_BadNumber rfl rfl (W.hg "BadNumber" (by decide +kernel)) I ⟨rfl, rfl, rfl, by decide +kernel, rfl, by decide +kernel, by decide +kernel⟩ rfl rfl rfl rfl (fun _ _ _ => rfl) (fun _ _ _ _ _ _ _ _ => rfl)
theorem Wd.ky_BadPaper (W : Wd K h base mg) : XFW (GK K) P w K mg base "BadPaper" eBadPaper "word" := by
  obtain ⟨fd, I⟩ := W.I_BadPaper
  exact xfw_of (y := "word") (p1 := ⟨44, 8, 44, 12⟩) (p2 := ⟨44, 8, 44, 17⟩) (p3 := ⟨44, 20, 44, 24⟩) (p4 := ⟨44, 8, 44, 24⟩) (scope := defScope (methOf (top 12))) (params := defArgs (methOf (top 12))) W.rs_BadPaper rfl rfl (W.hg "BadPaper" (by decide +kernel)) I ⟨rfl, rfl, rfl, by decide +kernel, rfl, by decide +kernel, by decide +kernel⟩ rfl rfl rfl rfl (fun _ _ _ => rfl) (fun _ _ _ _ _ _ _ _ => rfl)
theorem Wd.ky_BadPlanes (W : Wd K h base mg) : XFW (GK K) P w K mg base "BadPlanes" eBadPlanes "place" := by
  obtain ⟨fd, I⟩ := W.I_BadPlanes
  exact xfw_of (y := "place") (p1 := ⟨32, 8, 32, 12⟩) (p2 := ⟨32, 8, 32, 18⟩) (p3 := ⟨32, 21, 32, 26⟩) (p4 := ⟨32, 8, 32, 26⟩) (scope := defScope (methOf (top 9))) (params := defArgs (methOf (top 9))) W.rs_BadPlanes rfl rfl (W.hg "BadPlanes" (by decide +kernel)) I ⟨rfl, rfl, rfl, by decide +kernel, rfl, by decide +kernel, by decide +kernel⟩ rfl rfl rfl rfl (fun _ _ _ => rfl) (fun _ _ _ _ _ _ _ _ => rfl)
theorem Wd.ky_BadPoint (W : Wd K h base mg) : XFW (GK K) P w K mg base "BadPoint" eBadPoint "value" := by
  obtain ⟨fd, I⟩ := W.I_BadPoint
  exact xfw_of (y := "value") (p1 := ⟨16, 8, 16, 12⟩) (p2 := ⟨16, 8, 16, 18⟩) (p3 := ⟨16, 21, 16, 26⟩) (p4 := ⟨16, 8, 16, 26⟩) (scope := defScope (methOf (top 5))) (params := defArgs (methOf (top 5))) W.rs_BadPoint rfl rfl (W.hg "BadPoint" (by decide +kernel)) I ⟨rfl, rfl, rfl, by decide +kernel, rfl, by decide +kernel, by decide +kernel⟩ rfl rfl rfl rfl (fun _ _ _ => rfl) (fun _ _ _ _ _ _ _ _ => rfl)
theorem Wd.ky_BadPoly (W : Wd K h base mg) : XFW (GK K) P w K mg base "BadPoly" eBadPoly "place" := by
  obtain ⟨fd, I⟩ := W.I_BadPoly
  exact xfw_of (y := "place") (p1 := ⟨12, 8, 12, 12⟩) (p2 := ⟨12, 8, 12, 18⟩) (p3 := ⟨12, 21, 12, 26⟩) (p4 := ⟨12, 8, 12, 26⟩) (scope := defScope (methOf (top 4))) (params := defArgs (methOf (top 4))) W.rs_BadPoly rfl rfl (W.hg "BadPoly" (by decide +kernel)) I ⟨rfl, rfl, rfl, by decide +kernel, rfl, by decide +kernel, by decide +kernel⟩ rfl rfl rfl rfl (fun _ _ _ => rfl) (fun _ _ _ _ _ _ _ _ => rfl)
theorem Wd.ky_BadSystem (W : Wd K h base mg) : XFW (GK K) P w K mg base "BadSystem" eBadSystem "place" := by
  obtain ⟨fd, I⟩ := W.I_BadSystem
  exact xfw_of (y := "place") (p1 := ⟨20, 8, 20, 12⟩) (p2 := ⟨20, 8, 20, 18⟩) (p3 := ⟨20, 21, 20, 26⟩) (p4 := ⟨20, 8, 20, 26⟩) (scope := defScope (methOf (top 6))) (params := defArgs (methOf (top 6))) W.rs_BadSystem rfl rfl (W.hg "BadSystem" (by decide +kernel)) I ⟨rfl, rfl, rfl, by decide +kernel, rfl, by decide +kernel, by decide +kernel⟩ rfl rfl rfl rfl (fun _ _ _ => rfl) (fun _ _ _ _ _ _ _ _ => rfl)
theorem Wd.ky_BadVectors (W : Wd K h base mg) : XFW (GK K) P w K mg base "BadVectors" eBadVectors "place" := by
  obtain ⟨fd, I⟩ := W.I_BadVectors
  exact xfw_of (y := "place") (p1 := ⟨36, 8, 36, 12⟩) (p2 := ⟨36, 8, 36, 18⟩) (p3 := ⟨36, 21, 36, 26⟩) (p4 := ⟨36, 8, 36, 26⟩) (scope := defScope (methOf (top 10))) (params := defArgs (methOf (top 10))) W.rs_BadVectors rfl rfl (W.hg "BadVectors" (by decide +kernel)) I ⟨rfl, rfl, rfl, by decide +kernel, rfl, by decide +kernel, by decide +kernel⟩ rfl rfl rfl rfl (fun _ _ _ => rfl) (fun _ _ _ _ _ _ _ _ => rfl)
theorem Wd.ky_TooGreat (W : Wd K h base mg) : XFWO (GK K) P w K mg base "TooGreat" eTooGreat "most" := by
  obtain ⟨fd, I⟩ := W.I_TooGreat
  exact xfwO_of (y := "most") (p1 := ⟨48, 8, 48, 12⟩) (p2 := ⟨48, 8, 48, 17⟩) (p3 := ⟨48, 20, 48, 24⟩) (p4 := ⟨48, 8, 48, 24⟩) (scope := defScope (methOf (top 13))) (params := defArgs (methOf (top 13))) W.rs_TooGreat rfl rfl (W.hg "TooGreat" (by decide +kernel)) I ⟨rfl, rfl, rfl, by decide +kernel, rfl, by decide +kernel, by decide +kernel⟩ rfl rfl rfl rfl (fun _ _ _ => rfl) (fun _ _ _ _ _ _ _ _ => rfl)
theorem Wd.kr_RestError (W : Wd K h base mg) : XBare P w K mg "RestError" := bare_of (List.all_eq_true.mp W.bar "RestError" (by decide +kernel)) (W.hg "RestError" (by decide +kernel))
theorem Wd.ks_str (W : Wd K h base mg) : StrOk K okS := strOk_of W.bar
theorem Wd.k_is_integer (W : Wd K h base mg) : FK (GK K) P w K mg base "is_integer" 1 m_is_integer 1 := by
  obtain ⟨fd, F⟩ := W.F_is_integer
  refine fk_of (st := top 18) (g := g_is_integer) F (W.hf "is_integer" (by decide +kernel)) W.sys sc_is_integer rfl (fun _ _ => rfl) (fun _ _ _ _ _ _ us hl => match us, hl with | [_], _ => rfl) ?_
  intro cdv A outer s H E e9 rm ok
  have h1 := @b_is_integer P w K mg base (He.fAd K ("is_integer", none)) cdv A outer s H E W.b W.ns ok rm
  assumption
theorem Wd.k_is_integer_in (W : Wd K h base mg) : FK (GK K) P w K mg base "is_integer_in" 3 m_is_integer_in 2 := by
  obtain ⟨fd, F⟩ := W.F_is_integer_in
  refine fk_of (st := top 19) (g := g_is_integer_in) F (W.hf "is_integer_in" (by decide +kernel)) W.sys sc_is_integer_in rfl (fun _ _ => rfl) (fun _ _ _ _ _ _ us hl => match us, hl with | [_, _, _], _ => rfl) ?_
  intro cdv A outer s H E e9 rm ok
  have h1 := @b_is_integer_in P w K mg base (He.fAd K ("is_integer_in", none)) cdv A outer s H E W.b W.ns ok rm (W.k_is_integer)
  assumption
theorem Wd.k_is_prime (W : Wd K h base mg) : FK (GK K) P w K mg base "is_prime" 1 m_is_prime 2 := by
  obtain ⟨fd, F⟩ := W.F_is_prime
  refine fk_of (st := top 20) (g := g_is_prime) F (W.hf "is_prime" (by decide +kernel)) W.sys sc_is_prime rfl (fun _ _ => rfl) (fun _ _ _ _ _ _ us hl => match us, hl with | [_], _ => rfl) ?_
  intro cdv A outer s H E e9 rm ok
  have h1 := @b_is_prime P w K mg base (He.fAd K ("is_prime", none)) cdv A outer s H E W.b W.ns ok rm (W.kc_PRIMES) (W.k_is_integer)
  assumption
theorem Wd.k_is_tuple_of (W : Wd K h base mg) : FK (GK K) P w K mg base "is_tuple_of" 2 m_is_tuple_of 1 := by
  obtain ⟨fd, F⟩ := W.F_is_tuple_of
  refine fk_of (st := top 21) (g := g_is_tuple_of) F (W.hf "is_tuple_of" (by decide +kernel)) W.sys sc_is_tuple_of rfl (fun _ _ => rfl) (fun _ _ _ _ _ _ us hl => match us, hl with | [_, _], _ => rfl) ?_
  intro cdv A outer s H E e9 rm ok
  have h1 := @b_is_tuple_of P w K mg base (He.fAd K ("is_tuple_of", none)) cdv A outer s H E W.b W.ns ok rm
  assumption
theorem Wd.k_are_rests (W : Wd K h base mg) : FK (GK K) P w K mg base "are_rests" 3 m_are_rests 3 := by
  obtain ⟨fd, F⟩ := W.F_are_rests
  refine fk_of (st := top 22) (g := g_are_rests) F (W.hf "are_rests" (by decide +kernel)) W.sys sc_are_rests rfl (fun _ _ => rfl) (fun _ _ _ _ _ _ us hl => match us, hl with | [_, _, _], _ => rfl) ?_
  intro cdv A outer s H E e9 rm ok
  have h1 := @b_are_rests P w K mg base (He.fAd K ("are_rests", none)) cdv A outer s H E W.b W.ns ok rm (W.k_is_integer_in) (W.k_is_tuple_of)
  assumption
theorem Wd.k_is_ascending (W : Wd K h base mg) : FK (GK K) P w K mg base "is_ascending" 1 m_is_ascending 1 := by
  obtain ⟨fd, F⟩ := W.F_is_ascending
  refine fk_of (st := top 24) (g := g_is_ascending) F (W.hf "is_ascending" (by decide +kernel)) W.sys sc_is_ascending rfl (fun _ _ => rfl) (fun _ _ _ _ _ _ us hl => match us, hl with | [_], _ => rfl) ?_
  intro cdv A outer s H E e9 rm ok
  have h1 := @b_is_ascending P w K mg base (He.fAd K ("is_ascending", none)) cdv A outer s H E W.b W.ns ok rm
  assumption
theorem Wd.k_power_of (W : Wd K h base mg) : FK (GK K) P w K mg base "power_of" 2 m_power_of 1 := by
  obtain ⟨fd, F⟩ := W.F_power_of
  refine fk_of (st := top 26) (g := g_power_of) F (W.hf "power_of" (by decide +kernel)) W.sys sc_power_of rfl (fun _ _ => rfl) (fun _ _ _ _ _ _ us hl => match us, hl with | [_, _], _ => rfl) ?_
  intro cdv A outer s H E e9 rm ok
  have h1 := @b_power_of P w K mg base (He.fAd K ("power_of", none)) cdv A outer s H E W.b W.ns ok rm
  assumption
theorem Wd.k_need_field (W : Wd K h base mg) : FK (GK K) P w K mg base "need_field" 1 m_need_field 3 := by
  obtain ⟨fd, F⟩ := W.F_need_field
  refine fk_of (st := top 27) (g := g_need_field) F (W.hf "need_field" (by decide +kernel)) W.sys sc_need_field rfl (fun _ _ => rfl) (fun _ _ _ _ _ _ us hl => match us, hl with | [_], _ => rfl) ?_
  intro cdv A outer s H E e9 rm ok
  have h1 := @b_need_field P w K mg base (He.fAd K ("need_field", none)) cdv A outer s H E W.b W.ns ok rm (W.kc_MOST_POINTS_fields) (W.kc_MOST_UNKNOWNS) (W.k_is_integer_in) (W.k_is_prime) (W.k_is_tuple_of) (W.k_power_of) (W.kx_BadField)
  assumption
theorem Wd.k_is_point (W : Wd K h base mg) : FK (GK K) P w K mg base "is_point" 2 m_is_point 4 := by
  obtain ⟨fd, F⟩ := W.F_is_point
  refine fk_of (st := top 28) (g := g_is_point) F (W.hf "is_point" (by decide +kernel)) W.sys sc_is_point rfl (fun _ _ => rfl) (fun _ _ _ _ _ _ us hl => match us, hl with | [_, _], _ => rfl) ?_
  intro cdv A outer s H E e9 rm ok
  have h1 := @b_is_point P w K mg base (He.fAd K ("is_point", none)) cdv A outer s H E W.b W.ns ok rm (W.k_are_rests)
  assumption
theorem Wd.k_need_point (W : Wd K h base mg) : FK (GK K) P w K mg base "need_point" 2 m_need_point 5 := by
  obtain ⟨fd, F⟩ := W.F_need_point
  refine fk_of (st := top 29) (g := g_need_point) F (W.hf "need_point" (by decide +kernel)) W.sys sc_need_point rfl (fun _ _ => rfl) (fun _ _ _ _ _ _ us hl => match us, hl with | [_, _], _ => rfl) ?_
  intro cdv A outer s H E e9 rm ok
  have h1 := @b_need_point P w K mg base (He.fAd K ("need_point", none)) cdv A outer s H E W.b W.ns ok rm (W.k_is_point) (W.k_need_field) (W.kx_BadPoint)
  assumption
theorem Wd.k_points (W : Wd K h base mg) : FK (GK K) P w K mg base "points" 1 m_points 4 := by
  obtain ⟨fd, F⟩ := W.F_points
  refine fk_of (st := top 30) (g := g_points) F (W.hf "points" (by decide +kernel)) W.sys sc_points rfl (fun _ _ => rfl) (fun _ _ _ _ _ _ us hl => match us, hl with | [_], _ => rfl) ?_
  intro cdv A outer s H E e9 rm ok
  have h1 := @b_points P w K mg base (He.fAd K ("points", none)) cdv A outer s H E W.b W.ns ok rm (W.k_need_field)
  assumption
theorem Wd.k__are_powers (W : Wd K h base mg) : FK (GK K) P w K mg base "_are_powers" 2 m__are_powers 3 := by
  obtain ⟨fd, F⟩ := W.F__are_powers
  refine fk_of (st := top 34) (g := g__are_powers) F (W.hf "_are_powers" (by decide +kernel)) W.sys sc__are_powers rfl (fun _ _ => rfl) (fun _ _ _ _ _ _ us hl => match us, hl with | [_, _], _ => rfl) ?_
  intro cdv A outer s H E e9 rm ok
  have h1 := @b__are_powers P w K mg base (He.fAd K ("_are_powers", none)) cdv A outer s H E W.b W.ns ok rm (W.kc_MOST_POWER) (W.k_is_integer_in) (W.k_is_tuple_of)
  assumption
theorem Wd.k__is_term (W : Wd K h base mg) : FK (GK K) P w K mg base "_is_term" 2 m__is_term 4 := by
  obtain ⟨fd, F⟩ := W.F__is_term
  refine fk_of (st := top 35) (g := g__is_term) F (W.hf "_is_term" (by decide +kernel)) W.sys sc__is_term rfl (fun _ _ => rfl) (fun _ _ _ _ _ _ us hl => match us, hl with | [_, _], _ => rfl) ?_
  intro cdv A outer s H E e9 rm ok
  have h1 := @b__is_term P w K mg base (He.fAd K ("_is_term", none)) cdv A outer s H E W.b W.ns ok rm (W.k__are_powers) (W.k_is_integer_in) (W.k_is_tuple_of)
  assumption
theorem Wd.k_poly_fault (W : Wd K h base mg) : FK (GK K) P w K mg base "poly_fault" 2 m_poly_fault 5 := by
  obtain ⟨fd, F⟩ := W.F_poly_fault
  refine fk_of (st := top 36) (g := g_poly_fault) F (W.hf "poly_fault" (by decide +kernel)) W.sys sc_poly_fault rfl (fun _ _ => rfl) (fun _ _ _ _ _ _ us hl => match us, hl with | [_, _], _ => rfl) ?_
  intro cdv A outer s H E e9 rm ok
  have h1 := @b_poly_fault P w K mg base (He.fAd K ("poly_fault", none)) cdv A outer s H E W.b W.ns ok rm (W.kc_MOST_TERMS) (W.k__is_term)
  assumption
theorem Wd.k_need_poly (W : Wd K h base mg) : FK (GK K) P w K mg base "need_poly" 2 m_need_poly 6 := by
  obtain ⟨fd, F⟩ := W.F_need_poly
  refine fk_of (st := top 37) (g := g_need_poly) F (W.hf "need_poly" (by decide +kernel)) W.sys sc_need_poly rfl (fun _ _ => rfl) (fun _ _ _ _ _ _ us hl => match us, hl with | [_, _], _ => rfl) ?_
  intro cdv A outer s H E e9 rm ok
  have h1 := @b_need_poly P w K mg base (He.fAd K ("need_poly", none)) cdv A outer s H E W.b W.ns ok rm (W.k_need_field) (W.k_poly_fault) (W.kx_BadPoly)
  assumption
theorem Wd.k_value_at (W : Wd K h base mg) : FK (GK K) P w K mg base "value_at" 3 m_value_at 7 := by
  obtain ⟨fd, F⟩ := W.F_value_at
  refine fk_of (st := top 38) (g := g_value_at) F (W.hf "value_at" (by decide +kernel)) W.sys sc_value_at rfl (fun _ _ => rfl) (fun _ _ _ _ _ _ us hl => match us, hl with | [_, _, _], _ => rfl) ?_
  intro cdv A outer s H E e9 rm ok
  have h1 := @b_value_at P w K mg base (He.fAd K ("value_at", none)) cdv A outer s H E W.b W.ns ok rm (W.k_need_point) (W.k_need_poly)
  assumption
theorem Wd.k__is_lot (W : Wd K h base mg) : FK (GK K) P w K mg base "_is_lot" 2 m__is_lot 5 := by
  obtain ⟨fd, F⟩ := W.F__is_lot
  refine fk_of (st := top 56) (g := g__is_lot) F (W.hf "_is_lot" (by decide +kernel)) W.sys sc__is_lot rfl (fun _ _ => rfl) (fun _ _ _ _ _ _ us hl => match us, hl with | [_, _], _ => rfl) ?_
  intro cdv A outer s H E e9 rm ok
  have h1 := @b__is_lot P w K mg base (He.fAd K ("_is_lot", none)) cdv A outer s H E W.b W.ns ok rm (W.k_is_ascending) (W.k_is_point)
  assumption
theorem Wd.k__need_lot_and_point (W : Wd K h base mg) : FK (GK K) P w K mg base "_need_lot_and_point" 3 m__need_lot_and_point 6 := by
  obtain ⟨fd, F⟩ := W.F__need_lot_and_point
  refine fk_of (st := top 55) (g := g__need_lot_and_point) F (W.hf "_need_lot_and_point" (by decide +kernel)) W.sys sc__need_lot_and_point rfl (fun _ _ => rfl) (fun _ _ _ _ _ _ us hl => match us, hl with | [_, _, _], _ => rfl) ?_
  intro cdv A outer s H E e9 rm ok
  have h1 := @b__need_lot_and_point P w K mg base (He.fAd K ("_need_lot_and_point", none)) cdv A outer s H E W.b W.ns ok rm (W.kc_MOST_POINTS_hidden) (W.k__is_lot) (W.k_need_field) (W.k_need_point) (W.k_power_of) (W.kx_BadLot) (W.kx_BadPoint) (W.kx_TooGreat)
  assumption
theorem Wd.k_depth_paper (W : Wd K h base mg) : FK (GK K) P w K mg base "depth_paper" 3 m_depth_paper 7 := by
  obtain ⟨fd, F⟩ := W.F_depth_paper
  refine fk_of (st := top 53) (g := g_depth_paper) F (W.hf "depth_paper" (by decide +kernel)) W.sys sc_depth_paper rfl (fun _ _ => rfl) (fun _ _ _ _ _ _ us hl => match us, hl with | [_, _, _], _ => rfl) ?_
  intro cdv A outer s H E e9 rm ok
  have h1 := @b_depth_paper P w K mg base (He.fAd K ("depth_paper", none)) cdv A outer s H E W.b W.ns ok rm (W.k__need_lot_and_point)
  assumption
theorem Wd.k_depth (W : Wd K h base mg) : FK (GK K) P w K mg base "depth" 3 m_depth 8 := by
  obtain ⟨fd, F⟩ := W.F_depth
  refine fk_of (st := top 52) (g := g_depth) F (W.hf "depth" (by decide +kernel)) W.sys sc_depth rfl (fun _ _ => rfl) (fun _ _ _ _ _ _ us hl => match us, hl with | [_, _, _], _ => rfl) ?_
  intro cdv A outer s H E e9 rm ok
  have h1 := @b_depth P w K mg base (He.fAd K ("depth", none)) cdv A outer s H E W.b W.ns ok rm (W.k_depth_paper)
  assumption
theorem Wd.k_check_depth (W : Wd K h base mg) : FK (GK K) P w K mg base "check_depth" 4 m_check_depth 7 := by
  obtain ⟨fd, F⟩ := W.F_check_depth
  refine fk_of (st := top 54) (g := g_check_depth) F (W.hf "check_depth" (by decide +kernel)) W.sys sc_check_depth rfl (fun _ _ => rfl) (fun _ _ _ _ _ _ us hl => match us, hl with | [_, _, _, _], _ => rfl) ?_
  intro cdv A outer s H E e9 rm ok
  have h1 := @b_check_depth P w K mg base (He.fAd K ("check_depth", none)) cdv A outer s H E W.b W.ns ok rm (W.k__need_lot_and_point) (W.k_is_tuple_of) (W.kx_BadPaper)
  assumption
theorem Wd.k__is_place (W : Wd K h base mg) : FK (GK K) P w K mg base "_is_place" 2 m__is_place 4 := by
  obtain ⟨fd, F⟩ := W.F__is_place
  refine fk_of (st := top 70) (g := g__is_place) F (W.hf "_is_place" (by decide +kernel)) W.sys sc__is_place rfl (fun _ _ => rfl) (fun _ _ _ _ _ _ us hl => match us, hl with | [_, _], _ => rfl) ?_
  intro cdv A outer s H E e9 rm ok
  have h1 := @b__is_place P w K mg base (He.fAd K ("_is_place", none)) cdv A outer s H E W.b W.ns ok rm (W.k_are_rests) (W.k_is_ascending)
  assumption
theorem Wd.k__need_poly_and_box (W : Wd K h base mg) : FK (GK K) P w K mg base "_need_poly_and_box" 3 m__need_poly_and_box 7 := by
  obtain ⟨fd, F⟩ := W.F__need_poly_and_box
  refine fk_of (st := top 69) (g := g__need_poly_and_box) F (W.hf "_need_poly_and_box" (by decide +kernel)) W.sys sc__need_poly_and_box rfl (fun _ _ => rfl) (fun _ _ _ _ _ _ us hl => match us, hl with | [_, _, _], _ => rfl) ?_
  intro cdv A outer s H E e9 rm ok
  have h1 := @b__need_poly_and_box P w K mg base (He.fAd K ("_need_poly_and_box", none)) cdv A outer s H E W.b W.ns ok rm (W.k__is_place) (W.k_is_tuple_of) (W.k_need_poly) (W.kx_BadBox)
  assumption
theorem Wd.k_rest_in (W : Wd K h base mg) : FK (GK K) P w K mg base "rest_in" 3 m_rest_in 8 := by
  obtain ⟨fd, F⟩ := W.F_rest_in
  refine fk_of (st := top 68) (g := g_rest_in) F (W.hf "rest_in" (by decide +kernel)) W.sys sc_rest_in rfl (fun _ _ => rfl) (fun _ _ _ _ _ _ us hl => match us, hl with | [_, _, _], _ => rfl) ?_
  intro cdv A outer s H E e9 rm ok
  have h1 := @b_rest_in P w K mg base (He.fAd K ("rest_in", none)) cdv A outer s H E W.b W.ns ok rm (W.k__need_poly_and_box)
  assumption
theorem Wd.k_uncovered (W : Wd K h base mg) : FK (GK K) P w K mg base "uncovered" 2 m_uncovered 4 := by
  obtain ⟨fd, F⟩ := W.F_uncovered
  refine fk_of (st := top 75) (g := g_uncovered) F (W.hf "uncovered" (by decide +kernel)) W.sys sc_uncovered rfl (fun _ _ => rfl) (fun _ _ _ _ _ _ us hl => match us, hl with | [_, _], _ => rfl) ?_
  intro cdv A outer s H E e9 rm ok
  have h1 := @b_uncovered P w K mg base (He.fAd K ("uncovered", none)) cdv A outer s H E W.b W.ns ok rm (W.kc_MOST_PLANES) (W.k_need_field) (W.kx_BadPlanes)
  assumption
theorem Wd.k_need_system (W : Wd K h base mg) : FK (GK K) P w K mg base "need_system" 2 m_need_system 4 := by
  obtain ⟨fd, F⟩ := W.F_need_system
  refine fk_of (st := top 81) (g := g_need_system) F (W.hf "need_system" (by decide +kernel)) W.sys sc_need_system rfl (fun _ _ => rfl) (fun _ _ _ _ _ _ us hl => match us, hl with | [_, _], _ => rfl) ?_
  intro cdv A outer s H E e9 rm ok
  have h1 := @b_need_system P w K mg base (He.fAd K ("need_system", none)) cdv A outer s H E W.b W.ns ok rm (W.kc_MOST_POLYS) (W.k_need_field) (W.kx_BadSystem)
  assumption
theorem Wd.k__marks (W : Wd K h base mg) : FK (GK K) P w K mg base "_marks" 2 m__marks 5 := by
  obtain ⟨fd, F⟩ := W.F__marks
  refine fk_of (st := top 82) (g := g__marks) F (W.hf "_marks" (by decide +kernel)) W.sys sc__marks rfl (fun _ _ => rfl) (fun _ _ _ _ _ _ us hl => match us, hl with | [_, _], _ => rfl) ?_
  intro cdv A outer s H E e9 rm ok
  have h1 := @b__marks P w K mg base (He.fAd K ("_marks", none)) cdv A outer s H E W.b W.ns ok rm (W.k_need_system)
  assumption
theorem Wd.k_zeros (W : Wd K h base mg) : FK (GK K) P w K mg base "zeros" 2 m_zeros 6 := by
  obtain ⟨fd, F⟩ := W.F_zeros
  refine fk_of (st := top 83) (g := g_zeros) F (W.hf "zeros" (by decide +kernel)) W.sys sc_zeros rfl (fun _ _ => rfl) (fun _ _ _ _ _ _ us hl => match us, hl with | [_, _], _ => rfl) ?_
  intro cdv A outer s H E e9 rm ok
  have h1 := @b_zeros P w K mg base (He.fAd K ("zeros", none)) cdv A outer s H E W.b W.ns ok rm (W.k__marks)
  assumption
theorem Wd.k_norm (W : Wd K h base mg) : FK (GK K) P w K mg base "norm" 2 m_norm 4 := by
  obtain ⟨fd, F⟩ := W.F_norm
  refine fk_of (st := top 86) (g := g_norm) F (W.hf "norm" (by decide +kernel)) W.sys sc_norm rfl (fun _ _ => rfl) (fun _ _ _ _ _ _ us hl => match us, hl with | [_, _], _ => rfl) ?_
  intro cdv A outer s H E e9 rm ok
  have h1 := @b_norm P w K mg base (He.fAd K ("norm", none)) cdv A outer s H E W.b W.ns ok rm (W.k_is_integer_in) (W.k_need_field) (W.kx_BadNumber)
  assumption
theorem Wd.k__need_prime (W : Wd K h base mg) : FK (GK K) P w K mg base "_need_prime" 1 m__need_prime 3 := by
  obtain ⟨fd, F⟩ := W.F__need_prime
  refine fk_of (st := top 94) (g := g__need_prime) F (W.hf "_need_prime" (by decide +kernel)) W.sys sc__need_prime rfl (fun _ _ => rfl) (fun _ _ _ _ _ _ us hl => match us, hl with | [_], _ => rfl) ?_
  intro cdv A outer s H E e9 rm ok
  have h1 := @b__need_prime P w K mg base (He.fAd K ("_need_prime", none)) cdv A outer s H E W.b W.ns ok rm (W.k_is_prime) (W.kx_BadNumber)
  assumption
theorem Wd.k__need_few (W : Wd K h base mg) : FK (GK K) P w K mg base "_need_few" 1 m__need_few 3 := by
  obtain ⟨fd, F⟩ := W.F__need_few
  refine fk_of (st := top 95) (g := g__need_few) F (W.hf "_need_few" (by decide +kernel)) W.sys sc__need_few rfl (fun _ _ => rfl) (fun _ _ _ _ _ _ us hl => match us, hl with | [_], _ => rfl) ?_
  intro cdv A outer s H E e9 rm ok
  have h1 := @b__need_few P w K mg base (He.fAd K ("_need_few", none)) cdv A outer s H E W.b W.ns ok rm (W.kc_MOST_VECTORS) (W.kx_BadVectors)
  assumption
theorem Wd.k__need_vectors (W : Wd K h base mg) : FK (GK K) P w K mg base "_need_vectors" 2 m__need_vectors 4 := by
  obtain ⟨fd, F⟩ := W.F__need_vectors
  refine fk_of (st := top 96) (g := g__need_vectors) F (W.hf "_need_vectors" (by decide +kernel)) W.sys sc__need_vectors rfl (fun _ _ => rfl) (fun _ _ _ _ _ _ us hl => match us, hl with | [_, _], _ => rfl) ?_
  intro cdv A outer s H E e9 rm ok
  have h1 := @b__need_vectors P w K mg base (He.fAd K ("_need_vectors", none)) cdv A outer s H E W.b W.ns ok rm (W.k__need_few) (W.k__need_prime)
  assumption
theorem Wd.k_nought_lot (W : Wd K h base mg) : FK (GK K) P w K mg base "nought_lot" 2 m_nought_lot 5 := by
  obtain ⟨fd, F⟩ := W.F_nought_lot
  refine fk_of (st := top 93) (g := g_nought_lot) F (W.hf "nought_lot" (by decide +kernel)) W.sys sc_nought_lot rfl (fun _ _ => rfl) (fun _ _ _ _ _ _ us hl => match us, hl with | [_, _], _ => rfl) ?_
  intro cdv A outer s H E e9 rm ok
  have h1 := @b_nought_lot P w K mg base (He.fAd K ("nought_lot", none)) cdv A outer s H E W.b W.ns ok rm (W.k__need_vectors)
  assumption
theorem Wd.k__law_begun (W : Wd K h base mg) : FK (GK K) P w K mg base "_law_begun" 2 m__law_begun 1 := by
  obtain ⟨fd, F⟩ := W.F__law_begun
  refine fk_of (st := top 100) (g := g__law_begun) F (W.hf "_law_begun" (by decide +kernel)) W.sys sc__law_begun rfl (fun _ _ => rfl) (fun _ _ _ _ _ _ us hl => match us, hl with | [_, _], _ => rfl) ?_
  intro cdv A outer s H E e9 rm ok
  have h1 := @b__law_begun P w K mg base (He.fAd K ("_law_begun", none)) cdv A outer s H E W.b W.ns ok rm
  assumption
theorem Wd.k__law_draw (W : Wd K h base mg) : FK (GK K) P w K mg base "_law_draw" 2 m__law_draw 1 := by
  obtain ⟨fd, F⟩ := W.F__law_draw
  refine fk_of (st := top 101) (g := g__law_draw) F (W.hf "_law_draw" (by decide +kernel)) W.sys sc__law_draw rfl (fun _ _ => rfl) (fun _ _ _ _ _ _ us hl => match us, hl with | [_, _], _ => rfl) ?_
  intro cdv A outer s H E e9 rm ok
  have h1 := @b__law_draw P w K mg base (He.fAd K ("_law_draw", none)) cdv A outer s H E W.b W.ns ok rm
  assumption
theorem Wd.k__law_of (W : Wd K h base mg) : FK (GK K) P w K mg base "_law_of" 2 m__law_of 2 := by
  obtain ⟨fd, F⟩ := W.F__law_of
  refine fk_of (st := top 102) (g := g__law_of) F (W.hf "_law_of" (by decide +kernel)) W.sys sc__law_of rfl (fun _ _ => rfl) (fun _ _ _ _ _ _ us hl => match us, hl with | [_, _], _ => rfl) ?_
  intro cdv A outer s H E e9 rm ok
  have h1 := @b__law_of P w K mg base (He.fAd K ("_law_of", none)) cdv A outer s H E W.b W.ns ok rm (W.k__law_draw)
  assumption
theorem Wd.k__law_marks (W : Wd K h base mg) : FK (GK K) P w K mg base "_law_marks" 1 m__law_marks 1 := by
  obtain ⟨fd, F⟩ := W.F__law_marks
  refine fk_of (st := top 103) (g := g__law_marks) F (W.hf "_law_marks" (by decide +kernel)) W.sys sc__law_marks rfl (fun _ _ => rfl) (fun _ _ _ _ _ _ us hl => match us, hl with | [_], _ => rfl) ?_
  intro cdv A outer s H E e9 rm ok
  have h1 := @b__law_marks P w K mg base (He.fAd K ("_law_marks", none)) cdv A outer s H E W.b W.ns ok rm (isv_g W.kinv (by decide +kernel) (W.hg "BadBox" (by decide +kernel))) (isv_g W.kinv (by decide +kernel) (W.hg "BadField" (by decide +kernel))) (isv_g W.kinv (by decide +kernel) (W.hg "BadLot" (by decide +kernel))) (isv_g W.kinv (by decide +kernel) (W.hg "BadNumber" (by decide +kernel))) (isv_g W.kinv (by decide +kernel) (W.hg "BadPaper" (by decide +kernel))) (isv_g W.kinv (by decide +kernel) (W.hg "BadPlanes" (by decide +kernel))) (isv_g W.kinv (by decide +kernel) (W.hg "BadPoint" (by decide +kernel))) (isv_g W.kinv (by decide +kernel) (W.hg "BadPoly" (by decide +kernel))) (isv_g W.kinv (by decide +kernel) (W.hg "BadSystem" (by decide +kernel))) (isv_g W.kinv (by decide +kernel) (W.hg "BadVectors" (by decide +kernel))) (isv_g W.kinv (by decide +kernel) (W.hg "TooGreat" (by decide +kernel)))
  assumption
theorem Wd.kh__law_marks (W : Wd K h base mg) : FKT (GK K) P w K mg base "_law_marks" 1 m__law_marks := by
  obtain ⟨fd, F⟩ := W.F__law_marks
  refine fkT_of (st := top 103) (g := g__law_marks) F (W.hf "_law_marks" (by decide +kernel)) W.sys sc__law_marks rfl (fun _ _ => rfl) (fun _ _ _ _ _ _ us hl => match us, hl with | [_], _ => rfl) ?_
  intro cdv A outer s H E ok
  exact bT__law_marks W.b ok (v_BadBox := isv_g W.kinv (by decide +kernel) (W.hg "BadBox" (by decide +kernel))) (v_BadField := isv_g W.kinv (by decide +kernel) (W.hg "BadField" (by decide +kernel))) (v_BadLot := isv_g W.kinv (by decide +kernel) (W.hg "BadLot" (by decide +kernel))) (v_BadNumber := isv_g W.kinv (by decide +kernel) (W.hg "BadNumber" (by decide +kernel))) (v_BadPaper := isv_g W.kinv (by decide +kernel) (W.hg "BadPaper" (by decide +kernel))) (v_BadPlanes := isv_g W.kinv (by decide +kernel) (W.hg "BadPlanes" (by decide +kernel))) (v_BadPoint := isv_g W.kinv (by decide +kernel) (W.hg "BadPoint" (by decide +kernel))) (v_BadPoly := isv_g W.kinv (by decide +kernel) (W.hg "BadPoly" (by decide +kernel))) (v_BadSystem := isv_g W.kinv (by decide +kernel) (W.hg "BadSystem" (by decide +kernel))) (v_BadVectors := isv_g W.kinv (by decide +kernel) (W.hg "BadVectors" (by decide +kernel))) (v_TooGreat := isv_g W.kinv (by decide +kernel) (W.hg "TooGreat" (by decide +kernel)))
theorem Wd.k__law_above (W : Wd K h base mg) : FK (GK K) P w K mg base "_law_above" 1 m__law_above 1 := by
  obtain ⟨fd, F⟩ := W.F__law_above
  refine fk_of (st := top 104) (g := g__law_above) F (W.hf "_law_above" (by decide +kernel)) W.sys sc__law_above rfl (fun _ _ => rfl) (fun _ _ _ _ _ _ us hl => match us, hl with | [_], _ => rfl) ?_
  intro cdv A outer s H E e9 rm ok
  have h1 := @b__law_above P w K mg base (He.fAd K ("_law_above", none)) cdv A outer s H E W.b W.ns ok rm (isv_b W.kinv (by decide +kernel)) (W.be) (isv_b W.kinv (by decide +kernel)) (isv_b W.kinv (by decide +kernel)) (isv_b W.kinv (by decide +kernel)) (isv_g W.kinv (by decide +kernel) (W.hg "RestError" (by decide +kernel))) (isv_b W.kinv (by decide +kernel)) (isv_b W.kinv (by decide +kernel)) (isv_b W.kinv (by decide +kernel))
  assumption
theorem Wd.k__law_things (W : Wd K h base mg) : FK (GK K) P w K mg base "_law_things" 1 m__law_things 3 := by
  obtain ⟨fd, F⟩ := W.F__law_things
  refine fk_of (st := top 105) (g := g__law_things) F (W.hf "_law_things" (by decide +kernel)) W.sys sc__law_things rfl (fun _ _ => rfl) (fun _ _ _ _ _ _ us hl => match us, hl with | [_], _ => rfl) ?_
  intro cdv A outer s H E e9 rm ok
  have h1 := @b__law_things P w K mg base (He.fAd K ("_law_things", none)) cdv A outer s H E W.b W.ns ok rm (W.k__law_draw) (W.k__law_of)
  assumption
theorem Wd.k__law_fields_of (W : Wd K h base mg) : FK (GK K) P w K mg base "_law_fields_of" 1 m__law_fields_of 1 := by
  obtain ⟨fd, F⟩ := W.F__law_fields_of
  refine fk_of (st := top 106) (g := g__law_fields_of) F (W.hf "_law_fields_of" (by decide +kernel)) W.sys sc__law_fields_of rfl (fun _ _ => rfl) (fun _ _ _ _ _ _ us hl => match us, hl with | [_], _ => rfl) ?_
  intro cdv A outer s H E e9 rm ok
  have h1 := @b__law_fields_of P w K mg base (He.fAd K ("_law_fields_of", none)) cdv A outer s H E W.b W.ns ok rm (xat_of W.kin (by decide +kernel)) (xat_of W.kin (by decide +kernel)) (xat_of W.kin (by decide +kernel)) (xat_of W.kin (by decide +kernel))
  assumption
theorem Wd.k__law_made_right (W : Wd K h base mg) : FK (GK K) P w K mg base "_law_made_right" 1 m__law_made_right 3 := by
  obtain ⟨fd, F⟩ := W.F__law_made_right
  refine fk_of (st := top 107) (g := g__law_made_right) F (W.hf "_law_made_right" (by decide +kernel)) W.sys sc__law_made_right rfl (fun _ _ => rfl) (fun _ _ _ _ _ _ us hl => match us, hl with | [_], _ => rfl) ?_
  intro cdv A outer s H E e9 rm ok
  have h1 := @b__law_made_right P w K mg base (He.fAd K ("_law_made_right", none)) cdv A outer s H E W.b W.ns ok rm (W.k__law_above) (W.k__law_fields_of) (W.k__law_marks) (W.kx_BadBox) (W.kx_BadField) (W.kx_BadLot) (W.kx_BadNumber) (W.kx_BadPaper) (W.kx_BadPlanes) (W.kx_BadPoint) (W.kx_BadPoly) (W.kx_BadSystem) (W.kx_BadVectors) (W.kx_TooGreat) (W.ky_BadBox) (W.ky_BadField) (W.ky_BadLot) (W.ky_BadNumber) (W.ky_BadPaper) (W.ky_BadPlanes) (W.ky_BadPoint) (W.ky_BadPoly) (W.ky_BadSystem) (W.ky_BadVectors) (W.ky_TooGreat)
  assumption
def posQ : Nat → Pos := fun n => ([⟨0, 0, 0, 0⟩, ⟨462, 4, 462, 9⟩, ⟨462, 12, 462, 14⟩, ⟨462, 4, 462, 14⟩, ⟨464, 8, 464, 12⟩, ⟨464, 8, 464, 14⟩, ⟨464, 8, 464, 14⟩, ⟨465, 11, 465, 20⟩, ⟨466, 8, 466, 13⟩, ⟨466, 8, 466, 40⟩, ⟨465, 4, 466, 40⟩, ⟨467, 11, 467, 19⟩, ⟨468, 8, 468, 13⟩, ⟨468, 8, 468, 41⟩, ⟨467, 4, 468, 41⟩, ⟨463, 4, 468, 41⟩, ⟨469, 11, 469, 16⟩, ⟨469, 4, 469, 16⟩] : List Pos).getD n ⟨0, 0, 0, 0⟩
theorem tx_raised : RaisTx (defScope (top 108)) "call" "found" "e" "RestError" "TooGreat" (excE (top 108) 0) (excE (top 108) 1) posQ "_law_raised" := ⟨by decide, rfl, rfl, rfl, rfl, rfl, rfl, fun _ _ _ => rfl, fun _ _ _ => rfl, fun _ _ _ => rfl, fun _ _ _ => rfl⟩
theorem tB_raised : defBody (top 108) = raisedB "call" "found" "e" "RestError" "TooGreat" (excE (top 108) 0) (excE (top 108) 1) posQ := by kernel_rfl
theorem hitG (K : PySem.W.Frag) : ∀ c n b, hitL[c]? = some (n, b) → (GK K).cls c = He.ga K n := fun c n b e => by
  show He.ga K (errNames.getD c "") = _
  have q : errNames[c]? = some n := by
    have z : errNames = hitL.map Prod.fst := by decide +kernel
    rw [z, List.getElem?_map, e] <;> rfl
  rw [List.getD_eq_getElem?_getD, q] <;> rfl
theorem Wd.kq (W : Wd K h base mg) : RaisF (GK K) P w K mg base "_law_raised" hitC f1__law_raised f2__law_raised := by
  obtain ⟨fd, F⟩ := W.F__law_raised
  refine raised_of (st := top 108) tB_raised tx_raised (hitc_of (hitG K) W.hitc) (W.hg "RestError" (by decide +kernel)) (W.hg "TooGreat" (by decide +kernel)) (W.hf "_law_raised" (by decide +kernel)) F sc__law_raised (fun _ _ _ _ _ _ us hl => match us, hl with | [_], _ => rfl) ?_
  intro A outer cdg s H a' pn gd9 rm
  exact r__law_raised W.b a' pn gd9 rm (h__law_marks := W.kh__law_marks)
theorem Wd.k__law_raised_right (W : Wd K h base mg) : FK (GK K) P w K mg base "_law_raised_right" 0 m__law_raised_right 11 := by
  obtain ⟨fd, F⟩ := W.F__law_raised_right
  refine fk_of (st := top 109) (g := g__law_raised_right) F (W.hf "_law_raised_right" (by decide +kernel)) W.sys sc__law_raised_right rfl (fun _ _ => rfl) (fun _ _ _ _ _ _ us hl => match us, hl with | [], _ => rfl) ?_
  intro cdv A outer s H E e9 rm ok
  have h1 := @b__law_raised_right P w K mg base (He.fAd K ("_law_raised_right", none)) cdv A outer s H E W.b W.ns ok rm (W.k_check_depth) (W.k_depth) (W.k_need_poly) (W.k_norm) (W.k_nought_lot) (W.k_points) (W.k_rest_in) (W.k_uncovered) (W.k_value_at) (W.k_zeros) (lamK_of rfl (by decide +kernel) F e9 (W.tb "_law_raised_right" (by decide +kernel)) W.tok) (W.kq)
  assumption
theorem Wd.law (W : Wd K h base mg) {fd : FuncData} (F : FunD K "law" "law" (defArgs (top 110)) (defBody (top 110)) (defScope (top 110)) [] [] (He.fAd K ("law", none)) fd) : FnG P w K mg base 12 (He.fAd K ("law", none)) fd ["script"] (spM (GK K) K 1 m_law) := by
  refine fg_of (st := top 110) (n := 1) (g := g_law) F W.sys sc_law rfl (fun _ _ => rfl) ?_
  intro cdv A outer s H E e9 rm ok
  have h1 := @b_law P w K mg base (He.fAd K ("law", none)) cdv A outer s H E W.b W.ns ok rm (W.k__law_above) (W.k__law_begun) (W.k__law_made_right) (W.k__law_marks) (W.k__law_raised_right) (W.k__law_things) (W.kr_RestError) (W.ks_str)
  assumption
end
theorem facts {P : Program} {w : World} {K : PySem.W.Frag} {h : Heap} {mg : Str → Option Value} (X : K.In h) (G : h.Ns mainGlobals mg) (c : SaysP faT fnT (lamDefs.map fun z => (z, none)) exT h K) (base0 : Heap) (tb0 : ∀ z ∈ lamDefs, TabB base0 mg (He.cT K (z, none)).1 (He.cT K (z, none)).2) : True := trivial
end Pi
open PySem PySem.W PySem.Calls PyProof.Rows
theorem claimT (math : ∀ ns : List Int, ns.length ≤ 63 → (∀ z ∈ ns, Builtin.Int.intBits z ≤ 1048576) → ∃ st, Pi.m_law [.kls (ns.map .int)] [] = .ok (.bl true) st) : PySem.Challenge.rw_primezeros_k22_exceptions.Holds := by
  w_on; o_law
  refine HandSHeadRun.head_imp (r := Pi.rowT) (q := view Pi.rowT.prog [0, 110]) (H := Pi.hkT) (ob := Pi.obT) (M := 60000) (loose := Pi.looseT) (d := HandSHeadRun.topDef Pi.rowT.prog 110) (kwd := []) Pi.obT_eq
    Pi.runT (by kernel_rfl) (by kernel_rfl) (by kernel_rfl) (by rfl) (by first | assumption | decide +kernel) (by decide +kernel) ⟨rfl, rfl, rfl, rfl, rfl, by decide +kernel⟩ ?hw ?hc
  case hw => w_witness2
  case hc =>
    refine Pi.walkG (l := Pi.lawT) (n := 63) (k := 12) (x := "script") rfl (by decide) (by kernel_rfl) ⟨rfl, by decide, by decide⟩ ?F
    intro w mg fa h Y G hmg0
    obtain ⟨K, KX, c⟩ := Y
    obtain ⟨fd, F⟩ : ∃ fd, L2.FunD K "law" "law" (Pi.dd_law).params (Pi.dd_law).body (Pi.dd_law).scope [] [] (He.fAd K ("law", none)) fd := c.d.def_ 43 (d := Pi.dd_law) rfl
    have hm : mg ("law" : PySem.Str) = some (.ref (He.fAd K ("law", none))) := He.glo_ok KX G (c.d.facts (f := .glo "law") (List.mem_append_left _ (List.mem_map.mpr ⟨"law", by decide +kernel, rfl⟩)))
    have hmg : mg ("law" : PySem.Str) = some (.ref fa) := by
      have e : (HandSHeadRun.topDef Pi.rowT.prog 110).name = ("law" : PySem.Str) := by kernel_rfl
      rw [← e]
      exact hmg0
    have e := hmg.symm.trans hm
    cases e
    exact ⟨K, KX, Pi.lawG_of (st := Pi.top 110) (ls := Pi.lamDefs) (G := Pi.GK K) (m := Pi.m_law) KX c rfl F (fun _ _ _ _ _ _ us hl => match us, hl with | [_], _ => rfl) (fun base _ _ tb => Pi.Wd.law (h := h) ⟨KX, G, c, tb⟩ F) math⟩
set_option maxRecDepth 100000 in
set_option maxHeartbeats 8000000 in
theorem PySem.Challenge.cw_primezeros_k22_exceptions_holds : PySem.Challenge.rw_primezeros_k22_exceptions.Holds := by
  exact claimT fun ns hl _ => Pi.law_k22 ns hl
