import PyProof.Rows.All
import Wide.All
import OpenK.AllK
import Wide.FinOn
import HandS.ForMost
import HandS.ForExc
import HandS.Wide
import HandS.WideMore
import HandS.Small
import HandS.DictTup
import HandS.Gcd
import HandS.Style
import HandS.CallSlots
import HandS.IsInst
import HandS.Flow
import HandS.ExcField
import HandS.Defaults
import HandS.RaiseMore
import HandS.TupAny
import HandS.Zip
import HandS.Rev
import HandS.RevRange
import HandS.NoneIn
import HandS.TryOnly
import HandS.ExcIs
import KE.KExcIs
import HandS.EndBits
import PyProof.ReprBulk
import PyProof.P3Eq
import KE.GoesEnum
import HandS.StrMore
import HandS.FStr
import KE.KDictZip
import KE.KItemsList
import HandS.Zip0
import HandS.Deep
import PyProof.P3In
import PyProof.WalksMore
import PyProof.WalkInts
import HandS.List
import PyProof.Rows.IntBool
import KE.DatumOrd
import HandS.Strs
import HandS.Words
import KE.SortData
import HandS.SortInts
import HandS.OwnEq
import PySem.Challenge.RW_leastfield_k41_slopes_on_triangles
set_option Elab.async false
set_option linter.all false
set_option maxRecDepth 100000
set_option maxHeartbeats 4000000
/-! ## A dict as a set of tuples of ints, tracked or known: what it is to the hand layer -/
namespace V2
open PySem PySem.Spec PyProof.Rows L2
open PySem.W (Frag)
def ikent (x : List Int × Addr × Value) : DictEntry := ⟨reduceHash (Builtin.Tuple.tupleHashOf (x.1.map hashInt)), .ref x.2.1, x.2.2⟩
theorem ikent_eq (P : Program) (w : World) : ikent = entryOfKey (tupleKind (intKind P w)) := by funext x; rfl
/-- the dict at a: its keys, where they stand, its values -/
def KdAt (a : Addr) (xs : List (List Int × Addr × Value)) (h : Heap) : Prop :=
  ∃ o es ep, h.get? a = some o ∧ o.ExactDict ∧ o.data = .dict es ep ∧ es.toList = xs.map ikent ∧ (xs.map (·.1)).Nodup
def kdO (a : Addr) (xs : List (List Int × Addr × Value)) : HO := .ext (KdAt a xs)
theorem kd_ok {P : Program} {w : World} {H : Hp} {h : Heap} {a : Addr} {xs : List (List Int × Addr × Value)} (k : KdAt a xs h) : ObjOk P w H h a (kdO a xs) := by
  obtain ⟨o, es, ep, e, r⟩ := k
  refine ⟨⟨o, es, ep, e, r⟩, ⟨o, e⟩, ?_⟩
  rintro h1 h2 ⟨o1, es1, ep1, e1, r1⟩ k
  exact ⟨o1, es1, ep1, k _ e1, r1⟩
/-- a tuple of ints -/
def IsKey (K : Frag) (H : Hp) (b : Addr) (ks : List Int) : Prop := SqT K H b (ks.map V.int)
section
variable {X : Cx} {pins : List (Addr × Obj)} {σ : L2.St} {H : Hp} {s : Shared}
theorem ints_are {P : Program} {w : World} : ∀ {ks : List Int} {us : List Value}, Vals (ks.map V.int) us → ItemsAre (intKind P w) ks us
  | [], _, r => by cases r; exact .nil
  | k :: ks, _, r => by
    cases r with
    | cons h t =>
      obtain ⟨t1, rfl⟩ := h
      exact .cons (by simp [PySem.intKind, Value.isInt]) (ints_are t)
theorem key_at (I : Inv X pins σ H s) {b : Addr} {ks : List Int} (h : IsKey X.K H b ks) : (tupleKind (intKind X.prog X.w)).is s.heap ks b := by
  rcases h with h | ⟨o, its, n, hk, hc, hd, hz, r⟩
  · obtain ⟨_, its, r, o, h1, h2, n, h3⟩ := (show ObjOk X.prog X.w H s.heap b (.tup (ks.map V.int)) from h.ok I.hok)
    exact ⟨o, its.toArray, n, h1, h2, h3, by simpa using ints_are r⟩
  · exact ⟨o, its, n, I.kIn b o hk, hc, hd, ints_are r⟩
theorem kd_of (I : Inv X pins σ H s) {a : Addr} {xs : List (List Int × Addr × Value)} (e : H a = some (kdO a xs)) (hk : ∀ z ∈ xs, IsKey X.K H z.2.1 z.1) : s.heap.DictOfH (tupleKind (intKind X.prog X.w)) a xs := by
  obtain ⟨⟨o, es, ep, h1, h2, h3, h4, h5⟩, _⟩ := (show ObjOk X.prog X.w H s.heap a (kdO a xs) from I.hok a _ e)
  exact ⟨o, es, ep, h1, h2, h3, by rw [h4, ikent_eq X.prog X.w], fun x hx => key_at I (hk x hx), h5⟩
/-- whether a key is there -/
theorem atKey_some {xs : List (List Int × Addr × Value)} {k : List Int} : (atKey xs k).isSome = xs.any fun z => decide (z.1 = k) := by
  induction xs with
  | nil => rfl
  | cons x xs ih =>
    unfold atKey at ih ⊢
    simp only [List.find?_cons, List.any_cons]
    by_cases c : x.1 = k
    · simp [c]
    · simp [c] at ih ⊢
      exact ih
/-- d[k] = v -/
def rSetKd (K : Frag) : TSet := fun o i v H Q => ∃ d xs b ks, o = .ref d ∧ (d == sysModules) = false ∧ H d = some (kdO d xs) ∧ i = .ref b ∧ IsKey K H b ks ∧ (∀ z ∈ xs, IsKey K H z.2.1 z.1) ∧ xs.length < sizeLine ∧
  ∀ r, Q (upd H d (kdO d (storedH xs ks b r)))
theorem set_kd (hu : X.A.units + 1 < cLine) : PSet X (rSetKd X.K) := by
  intro pins s σ H o i v ov iv u Q I ro ri rv h
  obtain ⟨d, xs, b, ks, rfl, hd, e, rfl, hb, hx, hl, q⟩ := h
  cases (show ov = Value.ref d from ro)
  cases (show iv = Value.ref b from ri)
  refine wpAny_setItem_heap (hsz := Nat.le_of_lt hl) (tupleKind_room_in1 hu) (key_at I hb) (kd_of I e hx) fun h' dd' hs => ?_
  obtain ⟨q1, es, ep, hq, h2, h3, h4, _, h5⟩ := dd'
  refine ⟨_, ?_, q u⟩
  refine I.write (x := d) (e := d) (by rw [e]; exact True.intro) (.inl rfl) (fun b q hb z => (hs.2 b hb).trans z) ⟨q1, hq⟩ (kd_ok ⟨q1, es, ep, hq, h2, h3, ?_, h5⟩)
  rw [h4, ikent_eq X.prog X.w]
end
end V2
set_option Elab.async false
set_option linter.all false
set_option maxRecDepth 100000
set_option maxHeartbeats 4000000
/-! ## Data without addresses over the hand layer -/
namespace V2
open PySem PySem.Spec PyProof.Rows L2
open PySem.W (Frag)
/-- a value: data (never changed), or a place of the store -/
inductive D where
  | d (p : PyData)
  | loc (n : Nat)
  /-- a tuple that is known to have no dict -/
  | tp (ps : List PyData)
  /-- an object of a class of the program, its attributes data -/
  | ob (C : Str) (fs : List (Str × PyData))
  /-- a tuple of a place and data -/
  | pr (n : Nat) (q : PyData)
/-- the store: lists that may be changed -/
inductive O where
  | lst (xs : List D)
  | keys (ks : List (List Int))
abbrev Ho := List O
abbrev En := List (Option D)
/-- an exception: its class by name, its one field (if its class has an __init__) -/
structure Ex where
  cls : Str
  fld : Option (Str × D)
/-! ### what they stand for -/
def TupR (K : Frag) (as : List Addr) (H : Hp) (a : Addr) (xs : List V) : Prop :=
  (Rd H a (.tup xs) ∧ a ∉ as) ∨
    ∃ (o : Obj) (its : Array Value) (n : Nat), K.lookup a = some o ∧ o.cls = .type "tuple" ∧ o.data = .seq its n ∧ its.size ≤ sizeLine ∧ Vals xs its.toList
def LstR (K : Frag) (as : List Addr) (H : Hp) (a : Addr) (xs : List V) : Prop :=
  (Rd H a (.lst xs) ∧ a ∉ as) ∨
    ∃ (o : Obj) (its : Array Value) (n : Nat), K.lookup a = some o ∧ o.cls = .type "list" ∧ o.dict = none ∧ o.data = .seq its n ∧ its.size ≤ sizeLine ∧ Vals xs its.toList
theorem TupR.sq {K : Frag} {as : List Addr} {H : Hp} {a : Addr} {xs : List V} (h : TupR K as H a xs) : SqT K H a xs := h.elim (fun z => .inl z.1) .inr
theorem LstR.sq {K : Frag} {as : List Addr} {H : Hp} {a : Addr} {xs : List V} (h : LstR K as H a xs) : SqL K H a xs := h.elim (fun z => .inl z.1) .inr
mutual
inductive Dv (K : Frag) (as : List Addr) (H : Hp) : V → PyData → Prop
  | non : Dv K as H .non .none
  | bl (b : Bool) : Dv K as H (.bl b) (.bool b)
  | int (i : Int) : Dv K as H (.int i) (.int i)
  | str (x : Str) : Dv K as H (.str x) (.str x)
  | lst {a : Addr} {xs : List V} {ds : List PyData} : LstR K as H a xs → DvAll K as H xs ds → Dv K as H (.ref a) (.list ds)
  | tup {a : Addr} {xs : List V} {ds : List PyData} : TupR K as H a xs → DvAll K as H xs ds → Dv K as H (.ref a) (.tuple ds)
inductive DvAll (K : Frag) (as : List Addr) (H : Hp) : List V → List PyData → Prop
  | nil : DvAll K as H [] []
  | cons {v : V} {vs : List V} {d : PyData} {ds : List PyData} : Dv K as H v d → DvAll K as H vs ds → DvAll K as H (v :: vs) (d :: ds)
end
/-- behind: more places; what is no place stands as it stood -/
structure Later (as : List Addr) (H : Hp) (as' : List Addr) (H' : Hp) : Prop where
  more : ∃ l, as' = as ++ l
  keep : ∀ p o, H p = some o → p ∉ as → H' p = some o ∧ p ∉ as'
theorem Later.refl (as : List Addr) (H : Hp) : Later as H as H := ⟨⟨[], by simp⟩, fun p o h n => ⟨h, n⟩⟩
theorem Later.trans {as as1 as2 : List Addr} {H H1 H2 : Hp} (a : Later as H as1 H1) (b : Later as1 H1 as2 H2) : Later as H as2 H2 := by
  refine ⟨?_, fun p o h n => ?_⟩
  · obtain ⟨l, rfl⟩ := a.more
    obtain ⟨m, rfl⟩ := b.more
    exact ⟨l ++ m, by simp⟩
  · obtain ⟨h1, n1⟩ := a.keep p o h n
    exact b.keep p o h1 n1
/-- a new thing that is no place -/
theorem Later.new {as : List Addr} {H : Hp} {p : Addr} (o : HO) (hp : H p = none) : Later as H as (upd H p o) :=
  ⟨⟨[], by simp⟩, fun q u h n => ⟨by rw [upd_ne (ne_of_none h hp)]; exact h, n⟩⟩
/-- a new place -/
theorem Later.place {as : List Addr} {H : Hp} {p : Addr} (o : HO) (hp : H p = none) : Later as H (as ++ [p]) (upd H p o) :=
  ⟨⟨[p], rfl⟩, fun q u h n => ⟨by rw [upd_ne (ne_of_none h hp)]; exact h, by
    have := ne_of_none h hp
    simp [n, this]⟩⟩
/-- a place is written -/
theorem Later.write {as : List Addr} {H : Hp} {p : Addr} (o : HO) (hp : p ∈ as) : Later as H as (upd H p o) :=
  ⟨⟨[], by simp⟩, fun q u h n => ⟨by rw [upd_ne (fun e => n (by rw [e]; exact hp))]; exact h, n⟩⟩
theorem Later.at {as as1 : List Addr} {H H1 : Hp} (l : Later as H as1 H1) {n : Nat} {a : Addr} (h : as[n]? = some a) : as1[n]? = some a := by
  obtain ⟨m, rfl⟩ := l.more
  rw [List.getElem?_append_left (List.getElem?_eq_some_iff.mp h).1]
  exact h
section
variable {K : Frag} {as as1 : List Addr} {H H1 : Hp}
theorem TupR.later (l : Later as H as1 H1) {a : Addr} {xs : List V} (h : TupR K as H a xs) : TupR K as1 H1 a xs := by
  rcases h with ⟨h | ⟨o, h⟩, n⟩ | h
  · obtain ⟨q, m⟩ := l.keep _ _ h n
    exact .inl ⟨.inl q, m⟩
  · obtain ⟨q, m⟩ := l.keep _ _ h n
    exact .inl ⟨.inr ⟨o, q⟩, m⟩
  · exact .inr h
theorem LstR.later (l : Later as H as1 H1) {a : Addr} {xs : List V} (h : LstR K as H a xs) : LstR K as1 H1 a xs := by
  rcases h with ⟨h | ⟨o, h⟩, n⟩ | h
  · obtain ⟨q, m⟩ := l.keep _ _ h n
    exact .inl ⟨.inl q, m⟩
  · obtain ⟨q, m⟩ := l.keep _ _ h n
    exact .inl ⟨.inr ⟨o, q⟩, m⟩
  · exact .inr h
mutual
theorem Dv.later (l : Later as H as1 H1) : ∀ {p : PyData} {v : V}, Dv K as H v p → Dv K as1 H1 v p
  | .none, _, h => by cases h; exact .non
  | .bool b, _, h => by cases h; exact .bl b
  | .int i, _, h => by cases h; exact .int i
  | .str x, _, h => by cases h; exact .str x
  | .list ds, _, h => by
    cases h with
    | lst hs ha => exact .lst (hs.later l) (DvAll.later l ha)
  | .tuple ds, _, h => by
    cases h with
    | tup hs ha => exact .tup (hs.later l) (DvAll.later l ha)
  | .dict _, _, h => by cases h
theorem DvAll.later (l : Later as H as1 H1) : ∀ {ps : List PyData} {vs : List V}, DvAll K as H vs ps → DvAll K as1 H1 vs ps
  | [], _, h => by cases h; exact .nil
  | d :: ds, _, h => by
    cases h with
    | cons h1 h2 => exact .cons (Dv.later l h1) (DvAll.later l h2)
end
mutual
theorem Dv.dp : ∀ {p : PyData} {v : V}, Dv K as H v p → Dp K H v p
  | .none, _, h => by cases h; exact .non
  | .bool b, _, h => by cases h; exact .bl b
  | .int i, _, h => by cases h; exact .int i
  | .str x, _, h => by cases h; exact .str x
  | .list ds, _, h => by
    cases h with
    | lst hs ha => exact .lst hs.sq (DvAll.dp ha)
  | .tuple ds, _, h => by
    cases h with
    | tup hs ha => exact .tup hs.sq (DvAll.dp ha)
  | .dict _, _, h => by cases h
theorem DvAll.dp : ∀ {ps : List PyData} {vs : List V}, DvAll K as H vs ps → DpAll K H vs ps
  | [], _, h => by cases h; exact .nil
  | d :: ds, _, h => by
    cases h with
    | cons h1 h2 => exact .cons (Dv.dp h1) (DvAll.dp h2)
end
theorem DvAll.length : ∀ {vs : List V} {ps : List PyData}, DvAll K as H vs ps → vs.length = ps.length
  | _, _, .nil => rfl
  | _, _, .cons _ h => by rw [List.length_cons, List.length_cons, DvAll.length h]
theorem DvAll.get : ∀ {vs : List V} {ps : List PyData} {i : Nat} {p : PyData}, DvAll K as H vs ps → ps[i]? = some p → ∃ v, vs[i]? = some v ∧ Dv K as H v p
  | _, _, _, _, .nil, e => by simp at e
  | _, _, 0, p, .cons r _, e => by simp at e; subst e; exact ⟨_, rfl, r⟩
  | _, _, i + 1, p, .cons _ t, e => by
    obtain ⟨v, h1, h2⟩ := DvAll.get (i := i) t (by simpa using e)
    exact ⟨v, by simpa using h1, h2⟩
theorem DvAll.append : ∀ {vs ws : List V} {ps qs : List PyData}, DvAll K as H vs ps → DvAll K as H ws qs → DvAll K as H (vs ++ ws) (ps ++ qs)
  | _, _, _, _, .nil, h => h
  | _, _, _, _, .cons r t, h => .cons r (DvAll.append t h)
theorem DvAll.take : ∀ {vs : List V} {ps : List PyData} (n : Nat), DvAll K as H vs ps → DvAll K as H (vs.take n) (ps.take n)
  | _, _, 0, _ => .nil
  | _, _, n + 1, .nil => .nil
  | _, _, n + 1, .cons r t => .cons r (DvAll.take n t)
theorem DvAll.drop : ∀ {vs : List V} {ps : List PyData} (n : Nat), DvAll K as H vs ps → DvAll K as H (vs.drop n) (ps.drop n)
  | _, _, 0, h => h
  | _, _, n + 1, .nil => .nil
  | _, _, n + 1, .cons r t => DvAll.drop n t
theorem DvAll.reverse : ∀ {vs : List V} {ps : List PyData}, DvAll K as H vs ps → DvAll K as H vs.reverse ps.reverse
  | _, _, .nil => .nil
  | _, _, .cons r t => by
    rw [List.reverse_cons, List.reverse_cons]
    exact (DvAll.reverse t).append (.cons r .nil)
theorem DvAll.ints : ∀ (ns : List Int), DvAll K as H (ns.map V.int) (ns.map PyData.int)
  | [] => .nil
  | n :: ns => .cons (.int n) (DvAll.ints ns)
/-- the name of a class of the head -/
def nmIn (K : Frag) (a : Addr) : Option Str := match K.lookup a with
  | some ⟨_, _, .cls cd, _⟩ => some cd.name
  | _ => none
/-- a value -/
inductive Rel (K : Frag) (as : List Addr) (H : Hp) : V → D → Prop
  | d {v : V} {p : PyData} : Dv K as H v p → Rel K as H v (.d p)
  | loc {a : Addr} {n : Nat} : as[n]? = some a → Rel K as H (.ref a) (.loc n)
  | tp {a : Addr} {o : Obj} {xs : List V} {ps : List PyData} : H a = some (.frz o (.tup xs)) → o.dict = none → a ∉ as → DvAll K as H xs ps → Rel K as H (.ref a) (.tp ps)
  | ob {a Ca dx : Addr} {vs : List (Str × V)} {C : Str} {fs : List (Str × PyData)} : H a = some (.ins Ca dx vs) → nmIn K Ca = some C → a ∉ as → vs.map (·.1) = fs.map (·.1) → DvAll K as H (vs.map (·.2)) (fs.map (·.2)) → Rel K as H (.ref a) (.ob C fs)
  | pr {t a : Addr} {n : Nat} {v : V} {q : PyData} : TupR K as H t [.ref a, v] → as[n]? = some a → Dv K as H v q → Rel K as H (.ref t) (.pr n q)
theorem Rel.later (l : Later as H as1 H1) {v : V} {x : D} (h : Rel K as H v x) : Rel K as1 H1 v x := by
  cases h with
  | d h => exact .d (h.later l)
  | loc h => exact .loc (l.at h)
  | tp h1 h2 h3 h4 => exact .tp (l.keep _ _ h1 h3).1 h2 (l.keep _ _ h1 h3).2 (h4.later l)
  | ob h1 h2 h3 h4 h5 => exact .ob (l.keep _ _ h1 h3).1 h2 (l.keep _ _ h1 h3).2 h4 (h5.later l)
  | pr h1 h2 h3 => exact .pr (h1.later l) (l.at h2) (h3.later l)
inductive RelAll (K : Frag) (as : List Addr) (H : Hp) : List V → List D → Prop
  | nil : RelAll K as H [] []
  | cons {v : V} {vs : List V} {d : D} {ds : List D} : Rel K as H v d → RelAll K as H vs ds → RelAll K as H (v :: vs) (d :: ds)
theorem RelAll.later (l : Later as H as1 H1) : ∀ {vs : List V} {xs : List D}, RelAll K as H vs xs → RelAll K as1 H1 vs xs
  | _, _, .nil => .nil
  | _, _, .cons r t => .cons (r.later l) (RelAll.later l t)
theorem RelAll.length : ∀ {vs : List V} {xs : List D}, RelAll K as H vs xs → vs.length = xs.length
  | _, _, .nil => rfl
  | _, _, .cons _ h => by rw [List.length_cons, List.length_cons, RelAll.length h]
theorem RelAll.get : ∀ {vs : List V} {xs : List D} {i : Nat} {x : D}, RelAll K as H vs xs → xs[i]? = some x → ∃ v, vs[i]? = some v ∧ Rel K as H v x
  | _, _, _, _, .nil, e => by simp at e
  | _, _, 0, p, .cons r _, e => by simp at e; subst e; exact ⟨_, rfl, r⟩
  | _, _, i + 1, p, .cons _ t, e => by
    obtain ⟨v, h1, h2⟩ := RelAll.get (i := i) t (by simpa using e)
    exact ⟨v, by simpa using h1, h2⟩
theorem RelAll.append : ∀ {vs ws : List V} {ps qs : List D}, RelAll K as H vs ps → RelAll K as H ws qs → RelAll K as H (vs ++ ws) (ps ++ qs)
  | _, _, _, _, .nil, h => h
  | _, _, _, _, .cons r t, h => .cons r (RelAll.append t h)
theorem RelAll.take : ∀ {vs : List V} {ps : List D} (n : Nat), RelAll K as H vs ps → RelAll K as H (vs.take n) (ps.take n)
  | _, _, 0, _ => .nil
  | _, _, n + 1, .nil => .nil
  | _, _, n + 1, .cons r t => .cons r (RelAll.take n t)
theorem RelAll.drop : ∀ {vs : List V} {ps : List D} (n : Nat), RelAll K as H vs ps → RelAll K as H (vs.drop n) (ps.drop n)
  | _, _, 0, h => h
  | _, _, n + 1, .nil => .nil
  | _, _, n + 1, .cons r t => RelAll.drop n t
theorem RelAll.set : ∀ {vs : List V} {xs : List D} (i : Nat) {v : V} {x : D}, Rel K as H v x → RelAll K as H vs xs → RelAll K as H (vs.set i v) (xs.set i x)
  | _, _, _, _, _, _, .nil => .nil
  | _, _, 0, _, _, r, .cons _ t => .cons r t
  | _, _, i + 1, _, _, r, .cons q t => .cons q (RelAll.set i r t)
theorem RelAll.dropLast {vs : List V} {xs : List D} (h : RelAll K as H vs xs) : RelAll K as H vs.dropLast xs.dropLast := by
  rw [List.dropLast_eq_take, List.dropLast_eq_take, h.length]
  exact h.take _
theorem RelAll.reverse : ∀ {vs : List V} {ps : List D}, RelAll K as H vs ps → RelAll K as H vs.reverse ps.reverse
  | _, _, .nil => .nil
  | _, _, .cons r t => by
    rw [List.reverse_cons, List.reverse_cons]
    exact (RelAll.reverse t).append (.cons r .nil)
theorem DvAll.rel : ∀ {vs : List V} {ps : List PyData}, DvAll K as H vs ps → RelAll K as H vs (ps.map D.d)
  | _, _, .nil => .nil
  | _, _, .cons r t => .cons (.d r) (DvAll.rel t)
/-- all are data -/
def allD : List D → Option (List PyData)
  | [] => some []
  | .d p :: xs => (allD xs).map (p :: ·)
  | .loc _ :: _ => none
  | .tp _ :: _ => none
  | .ob _ _ :: _ => none
  | .pr _ _ :: _ => none
theorem allD_map : ∀ ps : List PyData, allD (ps.map D.d) = some ps
  | [] => rfl
  | p :: ps => by simp [allD, allD_map ps]
theorem allD_some : ∀ {xs : List D} {ps : List PyData}, allD xs = some ps → xs = ps.map D.d
  | [], ps, h => by simp [allD] at h; subst h; rfl
  | .d p :: xs, ps, h => by
    simp only [allD, Option.map_eq_some_iff] at h
    obtain ⟨q, h1, rfl⟩ := h
    rw [allD_some h1]
    rfl
  | .loc _ :: _, ps, h => by simp [allD] at h
  | .tp _ :: _, ps, h => by simp [allD] at h
  | .ob _ _ :: _, ps, h => by simp [allD] at h
  | .pr _ _ :: _, ps, h => by simp [allD] at h
theorem RelAll.data : ∀ {vs : List V} {ps : List PyData}, RelAll K as H vs (ps.map D.d) → DvAll K as H vs ps
  | _, [], h => by cases h; exact .nil
  | _, p :: ps, h => by
    cases h with
    | cons h1 h2 =>
      cases h1 with
      | d h1 => exact .cons h1 (RelAll.data h2)
theorem RelAll.ofAllD {vs : List V} {xs : List D} {ps : List PyData} (h : RelAll K as H vs xs) (e : allD xs = some ps) : DvAll K as H vs ps := by
  rw [allD_some e] at h
  exact h.data
/-- the store -/
def ObR (K : Frag) (as : List Addr) (H : Hp) (a : Addr) : O → Prop
  | .lst xs => ∃ vs, H a = some (.lst vs) ∧ RelAll K as H vs xs
  | .keys ks => (a == sysModules) = false ∧ ∃ xs : List (List Int × Addr × Value), H a = some (kdO a xs) ∧ xs.map (·.1) = ks ∧ ∀ z ∈ xs, TupR K as H z.2.1 (z.1.map V.int)
structure HeapR (K : Frag) (as : List Addr) (H : Hp) (h : Ho) : Prop where
  len : as.length = h.length
  nd : as.Nodup
  ob : ∀ (i : Nat) (o : O) (a : Addr), h[i]? = some o → as[i]? = some a → ObR K as H a o
theorem ObR.later (l : Later as H as1 H1) {a : Addr} {o : O} (e : H1 a = H a) (h : ObR K as H a o) : ObR K as1 H1 a o := by
  cases o with
  | lst xs =>
    obtain ⟨vs, h1, h2⟩ := h
    exact ⟨vs, e.trans h1, h2.later l⟩
  | keys ks =>
    obtain ⟨h0, xs, h1, h2, h3⟩ := h
    exact ⟨h0, xs, e.trans h1, h2, fun z hz => (h3 z hz).later l⟩
theorem ObR.there {a : Addr} {o : O} (h : ObR K as H a o) : ∃ u, H a = some u := by
  cases o with
  | lst xs =>
    obtain ⟨vs, h1, _⟩ := h
    exact ⟨_, h1⟩
  | keys ks =>
    obtain ⟨_, xs, h1, _⟩ := h
    exact ⟨_, h1⟩
theorem HeapR.at {h : Ho} (r : HeapR K as H h) {n : Nat} {o : O} (e : h[n]? = some o) : ∃ a, as[n]? = some a ∧ ObR K as H a o := by
  have hn : n < as.length := by
    rw [r.len]
    exact (List.getElem?_eq_some_iff.mp e).1
  exact ⟨as[n], List.getElem?_eq_getElem hn, r.ob n o _ e (List.getElem?_eq_getElem hn)⟩
theorem HeapR.there {h : Ho} (r : HeapR K as H h) {a : Addr} (ha : a ∈ as) : ∃ u, H a = some u := by
  obtain ⟨n, hn, e⟩ := List.mem_iff_getElem.mp ha
  have hn' : n < h.length := by rw [← r.len]; exact hn
  exact (r.ob n _ a (List.getElem?_eq_getElem hn') (by rw [List.getElem?_eq_getElem hn, e])).there
/-- a new thing that is no place -/
theorem HeapR.new {h : Ho} (r : HeapR K as H h) {p : Addr} (o : HO) (hp : H p = none) : HeapR K as (upd H p o) h := by
  refine ⟨r.len, r.nd, fun i u a e1 e2 => ?_⟩
  have q := r.ob i u a e1 e2
  obtain ⟨z, hz⟩ := q.there
  exact q.later (Later.new o hp) (upd_ne (ne_of_none hz hp))
/-- a new place -/
theorem HeapR.place {h : Ho} (r : HeapR K as H h) {p : Addr} {vs : List V} {xs : List D} (hp : H p = none) (hv : RelAll K as H vs xs) :
    HeapR K (as ++ [p]) (upd H p (.lst vs)) (h ++ [.lst xs]) ∧ (as ++ [p])[h.length]? = some p := by
  have l : Later as H (as ++ [p]) (upd H p (.lst vs)) := Later.place _ hp
  have hpas : p ∉ as := fun hm => by
    obtain ⟨u, e⟩ := r.there hm
    rw [hp] at e
    cases e
  have at' : (as ++ [p])[h.length]? = Option.some p := by rw [← r.len]; simp
  refine ⟨⟨by simp [r.len], by
    rw [List.nodup_append]
    exact ⟨r.nd, by simp, fun a ha b hb => by
      rw [List.mem_singleton] at hb
      rw [hb]
      exact fun e => hpas (e ▸ ha)⟩, fun i u a e1 e2 => ?_⟩, at'⟩
  by_cases hi : i < h.length
  · rw [List.getElem?_append_left hi] at e1
    rw [List.getElem?_append_left (by rw [r.len]; exact hi)] at e2
    have q := r.ob i u a e1 e2
    obtain ⟨z, hz⟩ := q.there
    exact q.later l (upd_ne (ne_of_none hz hp))
  · have hi' : i = h.length := by
      have := (List.getElem?_eq_some_iff.mp e1).1
      simp at this
      omega
    subst hi'
    simp at e1
    subst e1
    rw [at'] at e2
    cases e2
    exact ⟨vs, upd_same, hv.later l⟩
/-- a place is written -/
theorem HeapR.write {h : Ho} (r : HeapR K as H h) {n : Nat} {a : Addr} {vs : List V} {xs : List D} (ha : as[n]? = some a) (hv : RelAll K as H vs xs) :
    HeapR K as (upd H a (.lst vs)) (h.set n (.lst xs)) := by
  have hm : a ∈ as := List.mem_of_getElem? ha
  have l : Later as H as (upd H a (.lst vs)) := Later.write _ hm
  refine ⟨by rw [List.length_set]; exact r.len, r.nd, fun i u b e1 e2 => ?_⟩
  by_cases hi : n = i
  · subst hi
    have hn : n < h.length := by rw [← r.len]; exact (List.getElem?_eq_some_iff.mp ha).1
    rw [List.getElem?_set_self hn] at e1
    cases e1
    rw [ha] at e2
    cases e2
    exact ⟨vs, upd_same, hv.later l⟩
  · rw [List.getElem?_set_ne hi] at e1
    have ne : b ≠ a := fun e => hi (by
      subst e
      exact nd_ix r.nd ha e2)
    exact (r.ob i u b e1 e2).later l (upd_ne ne)
/-- a place is written, of any kind -/
theorem HeapR.writeO {h : Ho} (r : HeapR K as H h) {n : Nat} {a : Addr} {ob : HO} {o : O} (ha : as[n]? = some a) (hv : ObR K as (upd H a ob) a o) :
    HeapR K as (upd H a ob) (h.set n o) := by
  have hm : a ∈ as := List.mem_of_getElem? ha
  have l : Later as H as (upd H a ob) := Later.write _ hm
  refine ⟨by rw [List.length_set]; exact r.len, r.nd, fun i u b e1 e2 => ?_⟩
  by_cases hi : n = i
  · subst hi
    have hn : n < h.length := by rw [← r.len]; exact (List.getElem?_eq_some_iff.mp ha).1
    rw [List.getElem?_set_self hn] at e1
    cases e1
    rw [ha] at e2
    cases e2
    exact hv
  · rw [List.getElem?_set_ne hi] at e1
    have ne : b ≠ a := fun e => hi (by
      subst e
      exact nd_ix r.nd ha e2)
    exact (r.ob i u b e1 e2).later l (upd_ne ne)
/-- the frame -/
def EnvR (K : Frag) (as : List Addr) (H : Hp) (ρ : En) (σ : L2.St) : Prop :=
  ρ.length = σ.length ∧ ∀ (i : Nat) (x : D), ρ[i]? = some (some x) → ∃ v, σ[i]? = some (some v) ∧ Rel K as H v x
theorem EnvR.later (l : Later as H as1 H1) {ρ : En} {σ : L2.St} (h : EnvR K as H ρ σ) : EnvR K as1 H1 ρ σ :=
  ⟨h.1, fun i x e => let ⟨v, h1, h2⟩ := h.2 i x e; ⟨v, h1, h2.later l⟩⟩
theorem EnvR.set {ρ : En} {σ : L2.St} (h : EnvR K as H ρ σ) (i : Nat) {v : V} {x : D} (r : Rel K as H v x) : EnvR K as H (ρ.set i (some x)) (σ.set i (some v)) := by
  refine ⟨by rw [List.length_set, List.length_set]; exact h.1, fun j y e => ?_⟩
  by_cases hj : i = j
  · subst hj
    have hl : i < ρ.length := by
      have := (List.getElem?_eq_some_iff.mp e).1
      simpa using this
    rw [List.getElem?_set_self hl] at e
    cases e
    exact ⟨v, by rw [List.getElem?_set_self (by rw [← h.1]; exact hl)], r⟩
  · rw [List.getElem?_set_ne hj] at e
    obtain ⟨w, h1, h2⟩ := h.2 j y e
    exact ⟨w, by rw [List.getElem?_set_ne hj]; exact h1, h2⟩
end
/-- forget slots -/
def wipeD (ρ : En) : List Nat → En
  | [] => ρ
  | v :: vs => (wipeD ρ vs).set v none
theorem EnvR.wipe {K : Frag} {as : List Addr} {H : Hp} {ρ : En} {σ : L2.St} (h : EnvR K as H ρ σ) : ∀ vs : List Nat, EnvR K as H (wipeD ρ vs) (L2.wipe σ vs)
  | [] => h
  | v :: vs => by
    have ih := EnvR.wipe h vs
    refine ⟨by unfold wipeD L2.wipe; rw [List.length_set, List.length_set]; exact ih.1, fun j y e => ?_⟩
    unfold wipeD at e
    unfold L2.wipe
    by_cases hj : v = j
    · subst hj
      by_cases hl : v < (wipeD ρ vs).length
      · rw [List.getElem?_set_self hl] at e; cases e
      · rw [List.getElem?_eq_none (by simpa using hl)] at e; cases e
    · rw [List.getElem?_set_ne hj] at e
      obtain ⟨w, h1, h2⟩ := ih.2 j y e
      exact ⟨w, by rw [List.getElem?_set_ne hj]; exact h1, h2⟩
/-- an exception's class and its own dict -/
def ExR (K : Frag) (mg : Str → Option Value) (as : List Addr) (H : Hp) (cls : Value) (d : Option Addr) (x : Ex) : Prop :=
  ∃ C, mg x.cls = some (.ref C) ∧ cls = .ref C ∧
    match x.fld with
    | none => True
    | some (f, y) => ∃ dd v, d = some dd ∧ dd ∉ as ∧ H dd = some (.xd [(f, v)]) ∧ Rel K as H v y
theorem ExR.later {K : Frag} {mg : Str → Option Value} {as as1 : List Addr} {H H1 : Hp} (l : Later as H as1 H1) {cls : Value} {d : Option Addr} {x : Ex} (h : ExR K mg as H cls d x) : ExR K mg as1 H1 cls d x := by
  obtain ⟨C, h1, h2, h3⟩ := h
  refine ⟨C, h1, h2, ?_⟩
  cases e : x.fld with
  | none => trivial
  | some q =>
    obtain ⟨f, y⟩ := q
    rw [e] at h3
    obtain ⟨dd, v, e1, e2, e3, e4⟩ := h3
    obtain ⟨k1, k2⟩ := l.keep _ _ e3 e2
    exact ⟨dd, v, e1, k2, k1, e4.later l⟩
/-! ### readings over data -/
abbrev KD := D → Ho → Prop
abbrev XD := Ex → Ho → Prop
abbrev WE := En → Ho → KD → XD → Prop
abbrev WA := En → Ho → (List D → Ho → Prop) → XD → Prop
abbrev WT := En → Ho → (Bool → Ho → Prop) → XD → Prop
structure Nx where
  nx : En → Ho → Prop
  rt : D → Ho → Prop
  bk : En → Ho → Prop
  ct : En → Ho → Prop
  ex : Ex → En → Ho → Prop
abbrev WS := En → Ho → Nx → Prop
/-- what a wish about exceptions is, over data -/
def XTo (X : Cx) (W : WX) (as : List Addr) (H : Hp) (σ : L2.St) (E : XD) : Prop :=
  ∀ x h' cls dd as1 H', E x h' → Later as H as1 H' → HeapR X.K as1 H' h' → ExR X.K X.mg as1 H' cls dd x → W cls dd σ H'
def KTo (X : Cx) (as : List Addr) (H : Hp) (Q : KD) (QV : VK) : Prop :=
  ∀ y h' v as1 H', Q y h' → Later as H as1 H' → HeapR X.K as1 H' h' → Rel X.K as1 H' v y → QV v H'
def ATo (X : Cx) (as : List Addr) (H : Hp) (Q : List D → Ho → Prop) (QV : List V → Hp → Prop) : Prop :=
  ∀ ys h' vs as1 H', Q ys h' → Later as H as1 H' → HeapR X.K as1 H' h' → RelAll X.K as1 H' vs ys → QV vs H'
def TTo (X : Cx) (as : List Addr) (H : Hp) (Q : Bool → Ho → Prop) (QV : Bool → Hp → Prop) : Prop :=
  ∀ b h' as1 H', Q b h' → Later as H as1 H' → HeapR X.K as1 H' h' → QV b H'
structure STo (X : Cx) (W : WX) (as : List Addr) (H : Hp) (D : Nx) (D' : Ends) : Prop where
  nx : ∀ ρ h' σ as1 H', D.nx ρ h' → Later as H as1 H' → HeapR X.K as1 H' h' → EnvR X.K as1 H' ρ σ → D'.nx σ H'
  bk : ∀ ρ h' σ as1 H', D.bk ρ h' → Later as H as1 H' → HeapR X.K as1 H' h' → EnvR X.K as1 H' ρ σ → D'.bk σ H'
  ct : ∀ ρ h' σ as1 H', D.ct ρ h' → Later as H as1 H' → HeapR X.K as1 H' h' → EnvR X.K as1 H' ρ σ → D'.ct σ H'
  rt : ∀ y h' v as1 H', D.rt y h' → Later as H as1 H' → HeapR X.K as1 H' h' → Rel X.K as1 H' v y → D'.rt v H'
  ex : ∀ x ρ h' cls dd σ as1 H', D.ex x ρ h' → Later as H as1 H' → HeapR X.K as1 H' h' → EnvR X.K as1 H' ρ σ → ExR X.K X.mg as1 H' cls dd x → W cls dd σ H'
theorem XTo.later {X : Cx} {W : WX} {as as1 : List Addr} {H H1 : Hp} {σ : L2.St} {E : XD} (h : XTo X W as H σ E) (l : Later as H as1 H1) : XTo X W as1 H1 σ E :=
  fun x h' cls dd as2 H2 e l2 r xr => h x h' cls dd as2 H2 e (l.trans l2) r xr
theorem KTo.later {X : Cx} {as as1 : List Addr} {H H1 : Hp} {Q : KD} {QV : VK} (h : KTo X as H Q QV) (l : Later as H as1 H1) : KTo X as1 H1 Q QV :=
  fun y h' v as2 H2 e l2 r xr => h y h' v as2 H2 e (l.trans l2) r xr
theorem ATo.later {X : Cx} {as as1 : List Addr} {H H1 : Hp} {Q : List D → Ho → Prop} {QV : List V → Hp → Prop} (h : ATo X as H Q QV) (l : Later as H as1 H1) : ATo X as1 H1 Q QV :=
  fun y h' v as2 H2 e l2 r xr => h y h' v as2 H2 e (l.trans l2) r xr
theorem TTo.later {X : Cx} {as as1 : List Addr} {H H1 : Hp} {Q : Bool → Ho → Prop} {QV : Bool → Hp → Prop} (h : TTo X as H Q QV) (l : Later as H as1 H1) : TTo X as1 H1 Q QV :=
  fun y h' as2 H2 e l2 r => h y h' as2 H2 e (l.trans l2) r
theorem STo.later {X : Cx} {W : WX} {as as1 : List Addr} {H H1 : Hp} {D : Nx} {D' : Ends} (h : STo X W as H D D') (l : Later as H as1 H1) : STo X W as1 H1 D D' :=
  ⟨fun ρ h' σ as2 H2 e l2 => h.nx ρ h' σ as2 H2 e (l.trans l2), fun ρ h' σ as2 H2 e l2 => h.bk ρ h' σ as2 H2 e (l.trans l2), fun ρ h' σ as2 H2 e l2 => h.ct ρ h' σ as2 H2 e (l.trans l2),
    fun y h' v as2 H2 e l2 => h.rt y h' v as2 H2 e (l.trans l2), fun x ρ h' cls dd σ as2 H2 e l2 => h.ex x ρ h' cls dd σ as2 H2 e (l.trans l2)⟩
/-- soundness: the reading t asks no more than f does -/
def SpE (X : Cx) (W : WX) (t : TE) (f : WE) : Prop := ∀ σ H as ρ h Q E QV, EnvR X.K as H ρ σ → HeapR X.K as H h → f ρ h Q E → KTo X as H Q QV → XTo X W as H σ E → t σ H QV
def SpT (X : Cx) (W : WX) (t : TT) (f : WT) : Prop := ∀ σ H as ρ h Q E QV, EnvR X.K as H ρ σ → HeapR X.K as H h → f ρ h Q E → TTo X as H Q QV → XTo X W as H σ E → t σ H QV
def SpA (X : Cx) (W : WX) (t : TA) (f : WA) : Prop := ∀ σ H as ρ h Q E QV, EnvR X.K as H ρ σ → HeapR X.K as H h → f ρ h Q E → ATo X as H Q QV → XTo X W as H σ E → t σ H QV
def SpS (X : Cx) (W : WX) (t : TS) (f : WS) : Prop := ∀ σ H as ρ h D D', EnvR X.K as H ρ σ → HeapR X.K as H h → f ρ h D → STo X W as H D D' → t D' σ H
def SE (X : Cx) (W : WX) (e : Expr) (f : WE) : Prop := ∃ t, PE X e t ∧ SpE X W t f
def ST (X : Cx) (W : WX) (e : Expr) (f : WT) : Prop := ∃ t, PT X e t ∧ SpT X W t f
def SW (X : Cx) (W : WX) (e : Expr) (f : WT) : Prop := ∃ t, PW X e t ∧ SpT X W t f
def SA (X : Cx) (W : WX) (e : List Expr) (f : WA) : Prop := ∃ t, PA X e t ∧ SpA X W t f
def SS (X : Cx) (W : WX) (s : Stmt) (f : WS) : Prop := ∃ t, PS X s t ∧ SpS X W t f
def SB (X : Cx) (W : WX) (s : List Stmt) (f : WS) : Prop := ∃ t, PSs X s t ∧ SpS X W t f
end V2
set_option Elab.async false
set_option linter.all false
set_option maxRecDepth 100000
set_option maxHeartbeats 4000000
namespace V2
open PySem PySem.Spec PyProof.Rows L2
open PySem.W (Frag)
section
variable {X : Cx} {W : WX} {as : List Addr} {H : Hp} {h : Ho} {Q : KD} {QV : VK}
theorem KTo.q (k : KTo X as H Q QV) (r : HeapR X.K as H h) {v : V} {y : D} (q : Q y h) (rv : Rel X.K as H v y) : QV v H := k _ _ _ _ _ q (Later.refl _ _) r rv
theorem KTo.qd (k : KTo X as H Q QV) (r : HeapR X.K as H h) {v : V} {y : PyData} (q : Q (.d y) h) (rv : Dv X.K as H v y) : QV v H := k.q r q (.d rv)
/-- a new tuple or list, by value -/
theorem KTo.newTup (k : KTo X as H Q QV) (r : HeapR X.K as H h) {vs : List V} {ps : List PyData} (q : Q (.d (.tuple ps)) h) (rv : DvAll X.K as H vs ps) {p : Addr} (hp : H p = none) : QV (.ref p) (upd H p (.tup vs)) := by
  have l : Later as H as (upd H p (.tup vs)) := Later.new _ hp
  refine k _ _ _ _ _ q l (r.new _ hp) (.d (.tup (.inl ⟨.inl upd_same, fun hm => ?_⟩) (rv.later l)))
  obtain ⟨u, e⟩ := r.there hm
  rw [hp] at e
  cases e
theorem KTo.newLst (k : KTo X as H Q QV) (r : HeapR X.K as H h) {vs : List V} {ps : List PyData} (q : Q (.d (.list ps)) h) (rv : DvAll X.K as H vs ps) {p : Addr} (hp : H p = none) : QV (.ref p) (upd H p (.lst vs)) := by
  have l : Later as H as (upd H p (.lst vs)) := Later.new _ hp
  refine k _ _ _ _ _ q l (r.new _ hp) (.d (.lst (.inl ⟨.inl upd_same, fun hm => ?_⟩) (rv.later l)))
  obtain ⟨u, e⟩ := r.there hm
  rw [hp] at e
  cases e
/-- a new list, a place -/
theorem KTo.newLoc (k : KTo X as H Q QV) (r : HeapR X.K as H h) {vs : List V} {xs : List D} (q : Q (.loc h.length) (h ++ [.lst xs])) (rv : RelAll X.K as H vs xs) {p : Addr} (hp : H p = none) : QV (.ref p) (upd H p (.lst vs)) := by
  obtain ⟨r1, e⟩ := r.place hp rv
  exact k _ _ _ _ _ q (Later.place _ hp) r1 (.loc e)
end
/-! ### names and constants -/
def fVar (i : Nat) : WE := fun ρ h Q _ => match ρ[i]? with
  | some (some d) => Q d h
  | _ => False
def fC (p : PyData) : WE := fun _ h Q _ => Q (.d p) h
section
variable {X : Cx} {W : WX} {pos : Pos}
theorem SE.var (i : Nat) {x : Str} (hN : X.N[i]? = some x := by rfl) (hv : Vis X.env.scope x := by first | exact Or.inl rfl | exact Or.inr (Or.inl rfl) | exact Or.inr (Or.inr rfl)) (hd : (x == ("__debug__" : Str)) = false := by decide)
    (hcd : (x == ("__classdict__" : Str)) = false := by decide) : SE X W (.Name x pos) (fVar i) := by
  refine ⟨_, pe_var hN hv hd hcd, fun σ H as ρ h Q E QV eR hR hq k _ => ?_⟩
  unfold fVar at hq
  split at hq
  · rename_i d e
    obtain ⟨v, e2, r⟩ := eR.2 i d e
    exact ⟨v, e2, k.q hR hq r⟩
  · exact hq.elim
theorem SE.int {i : Int} {j} : SE X W (.Constant (.int i) j pos) (fC (.int i)) := ⟨_, pe_int, fun _ _ _ _ _ _ _ _ _ hR hq k _ => k.qd hR hq (.int i)⟩
theorem SE.bl {b : Bool} {j} : SE X W (.Constant (.bool b) j pos) (fC (.bool b)) := ⟨_, pe_bl, fun _ _ _ _ _ _ _ _ _ hR hq k _ => k.qd hR hq (.bl b)⟩
theorem SE.non {j} : SE X W (.Constant .none j pos) (fC .none) := ⟨_, pe_non, fun _ _ _ _ _ _ _ _ _ hR hq k _ => k.qd hR hq .non⟩
theorem SE.str {x : Str} {j} : SE X W (.Constant (.str x) j pos) (fC (.str x)) := ⟨_, pe_str, fun _ _ _ _ _ _ _ _ _ hR hq k _ => k.qd hR hq (.str x)⟩
/-- a constant of the module that is a tuple of the written part -/
theorem SE.glob {x : Str} {v : V} {u : Value} {p : PyData} (hg : Gl X x) (hm : X.mg x = some u) (r : RelV v u) (hv : ∀ as H, Dv X.K as H v p) (hd : (x == ("__debug__" : Str)) = false := by decide) : SE X W (.Name x pos) (fC p) :=
  ⟨_, pe_glob hg hm r hd, fun _ H as _ _ _ _ _ _ hR hq k _ => k.qd hR hq (hv as H)⟩
end
/-! ### arguments -/
def aNil : WA := fun _ h Q _ => Q [] h
def aCons (f : WE) (g : WA) : WA := fun ρ h Q E => f ρ h (fun x h1 => g ρ h1 (fun xs h2 => Q (x :: xs) h2) E) E
section
variable {X : Cx} {W : WX} {e : Expr} {es : List Expr} {f : WE} {g : WA} {pos : Pos}
theorem SA.nil : SA X W [] aNil := ⟨_, pa_nil, fun _ _ _ _ _ _ _ _ _ hR hq k _ => k _ _ _ _ _ hq (Later.refl _ _) hR .nil⟩
theorem SA.cons (he : SE X W e f) (hr : SA X W es g) (hs : starEach (e :: es) X.env = (false, eval e X.env) :: starEach es X.env := by rfl) : SA X W (e :: es) (aCons f g) := by
  obtain ⟨te, pe, se⟩ := he
  obtain ⟨ta, pa, sa⟩ := hr
  refine ⟨_, pa_cons pe pa hs, fun σ H as ρ h Q E QV eR hR hq k kx => ?_⟩
  refine se σ H as ρ h _ E _ eR hR hq (fun x h1 v as1 H1 hq1 l1 r1 rv => ?_) kx
  refine sa σ H1 as1 ρ h1 _ E _ (eR.later l1) r1 hq1 (fun xs h2 vs as2 H2 hq2 l2 r2 rvs => ?_) (kx.later l1)
  exact k _ _ _ _ _ hq2 (l1.trans l2) r2 (.cons (rv.later l2) rvs)
end
/-! ### operators of two -/
abbrev WR2 := D → D → Ho → KD → Prop
def fBin (r : WR2) (fa fb : WE) : WE := fun ρ h Q E => fa ρ h (fun x h1 => fb ρ h1 (fun y h2 => r x y h2 Q) E) E
def Cp2 (X : Cx) (rV : R2) (r : WR2) : Prop := ∀ x y h Q v w as H QV, Rel X.K as H v x → Rel X.K as H w y → HeapR X.K as H h → r x y h Q → KTo X as H Q QV → rV v w H QV
section
variable {X : Cx} {W : WX} {a b : Expr} {fa fb : WE} {pos : Pos}
theorem sp_op {rV : R2} {r : WR2} {ta tb : TE} (c : Cp2 X rV r) (ha : SpE X W ta fa) (hb : SpE X W tb fb) : SpE X W (tOp rV ta tb) (fBin r fa fb) := by
  intro σ H as ρ h Q E QV eR hR hq k kx
  refine ha σ H as ρ h _ E _ eR hR hq (fun x h1 v as1 H1 hq1 l1 r1 rv => ?_) kx
  refine hb σ H1 as1 ρ h1 _ E _ (eR.later l1) r1 hq1 (fun y h2 w as2 H2 hq2 l2 r2 rw' => ?_) (kx.later l1)
  exact c x y h2 Q v w as2 H2 QV (rv.later l2) rw' r2 hq2 (k.later (l1.trans l2))
theorem SE.bin {op : Operator} {rV : R2} {r : WR2} (ho : OpR X (binaryOp op) rV) (c : Cp2 X rV r) (ha : SE X W a fa) (hb : SE X W b fb) : SE X W (.BinOp a op b pos) (fBin r fa fb) := by
  obtain ⟨ta, pa, sa⟩ := ha
  obtain ⟨tb, pb, sb⟩ := hb
  exact ⟨_, pe_op ho pa pb, sp_op c sa sb⟩
theorem SE.cmp {op : CmpOp} {rV : R2} {r : WR2} (ho : OpR X (compareOp op) rV) (c : Cp2 X rV r) (ha : SE X W a fa) (hb : SE X W b fb) (hm : behindInMarks op b = false) : SE X W (.Compare a [op] [b] pos) (fBin r fa fb) := by
  obtain ⟨ta, pa, sa⟩ := ha
  obtain ⟨tb, pb, sb⟩ := hb
  exact ⟨_, pe_cmpR ho pa pb hm, sp_op c sa sb⟩
end
/-- two ints -/
def rInts (C : Int → Int → Prop) (g : Int → Int → PyData) : WR2 := fun x y h Q => match x, y with
  | .d (.int i), .d (.int j) => C i j ∧ Q (.d (g i j)) h
  | _, _ => False
section
variable {X : Cx}
theorem cp_ints {C : Int → Int → Prop} {gV : Int → Int → V} {g : Int → Int → PyData} (hg : ∀ K as H i j, Dv K as H (gV i j) (g i j)) : Cp2 X (rI C gV) (rInts C g) := by
  intro x y h Q v w as H QV rx ry hR hq k
  unfold rInts at hq
  split at hq
  · rename_i i j
    cases rx with | d rx =>
    cases ry with | d ry =>
    cases rx
    cases ry
    exact ⟨i, j, rfl, rfl, hq.1, k.qd hR hq.2 (hg _ _ _ _ _)⟩
  · exact hq.elim
theorem cp_ints0 {gV : Int → Int → V} {g : Int → Int → PyData} (hg : ∀ K as H i j, Dv K as H (gV i j) (g i j)) : Cp2 X (rI0 gV) (rInts (fun _ _ => True) g) := by
  intro x y h Q v w as H QV rx ry hR hq k
  unfold rInts at hq
  split at hq
  · rename_i i j
    cases rx with | d rx =>
    cases ry with | d ry =>
    cases rx
    cases ry
    exact ⟨i, j, rfl, rfl, k.qd hR hq.2 (hg _ _ _ _ _)⟩
  · exact hq.elim
def CDivA (_ j : Int) : Prop := j ≠ 0 ∧ j.natAbs.log2 < 9000
theorem op_fdivA : OpR X (binaryOp .FloorDiv) (rI CDivA fun i j => .int (i.fdiv j)) := opI fun i j _ _ _ _ _ hc q => floordiv_int hc.1 q (.inl (PyProof.noPylong_of_log2 hc.2))
end
/-- the items of a list or tuple -/
def items (h : Ho) : D → Option (List D)
  | .d (.list ps) => some (ps.map D.d)
  | .d (.tuple ps) => some (ps.map D.d)
  | .d _ => none
  | .loc n => match h[n]? with
    | some (.lst xs) => some xs
    | _ => none
  | .tp _ => none
  | .ob _ _ => none
  | .pr _ _ => none
theorem items_rel {K : Frag} {as : List Addr} {H : Hp} {h : Ho} {v : V} {x : D} {xs : List D} (r : Rel K as H v x) (hR : HeapR K as H h) (e : items h x = some xs) :
    ∃ a vs, v = .ref a ∧ (SqL K H a vs ∨ SqT K H a vs) ∧ RelAll K as H vs xs := by
  cases r with
  | d r =>
    cases r with
    | lst s al =>
      simp only [items, Option.some.injEq] at e
      subst e
      exact ⟨_, _, rfl, .inl s.sq, al.rel⟩
    | tup s al =>
      simp only [items, Option.some.injEq] at e
      subst e
      exact ⟨_, _, rfl, .inr s.sq, al.rel⟩
    | non => simp [items] at e
    | bl => simp [items] at e
    | int => simp [items] at e
    | str => simp [items] at e
  | tp _ _ _ _ => simp [items] at e
  | ob _ _ _ _ _ => simp [items] at e
  | pr _ _ _ => simp [items] at e
  | loc ha =>
    rename_i a n
    simp only [items] at e
    split at e
    · rename_i ys en
      cases e
      obtain ⟨b, hb, ob⟩ := hR.at en
      rw [ha] at hb
      cases hb
      obtain ⟨vs, e1, e2⟩ := ob
      exact ⟨a, vs, rfl, .inl (SqL.of e1), e2⟩
    · cases e
/-- the items of a list -/
def litems (h : Ho) : D → Option (List D)
  | .d (.list ps) => some (ps.map D.d)
  | .d _ => none
  | .loc n => match h[n]? with
    | some (.lst xs) => some xs
    | _ => none
  | .tp _ => none
  | .ob _ _ => none
  | .pr _ _ => none
theorem litems_rel {K : Frag} {as : List Addr} {H : Hp} {h : Ho} {v : V} {x : D} {xs : List D} (r : Rel K as H v x) (hR : HeapR K as H h) (e : litems h x = some xs) :
    ∃ a vs, v = .ref a ∧ SqL K H a vs ∧ RelAll K as H vs xs := by
  cases r with
  | d r =>
    cases r with
    | lst s al =>
      simp only [litems, Option.some.injEq] at e
      subst e
      exact ⟨_, _, rfl, s.sq, al.rel⟩
    | tup s al => simp [litems] at e
    | non => simp [litems] at e
    | bl => simp [litems] at e
    | int => simp [litems] at e
    | str => simp [litems] at e
  | tp _ _ _ _ => simp [litems] at e
  | ob _ _ _ _ _ => simp [litems] at e
  | pr _ _ _ => simp [litems] at e
  | loc ha =>
    rename_i a n
    simp only [litems] at e
    split at e
    · rename_i ys en
      cases e
      obtain ⟨b, hb, ob⟩ := hR.at en
      rw [ha] at hb
      cases hb
      obtain ⟨vs, e1, e2⟩ := ob
      exact ⟨a, vs, rfl, SqL.of e1, e2⟩
    · cases e
/-- data, or a place that holds data -/
def datum (h : Ho) : D → Option PyData
  | .d p => some p
  | .loc n => match h[n]? with
    | some (.lst xs) => (allD xs).map PyData.list
    | _ => none
  | .tp _ => none
  | .ob _ _ => none
  | .pr _ _ => none
theorem datum_dp {K : Frag} {as : List Addr} {H : Hp} {h : Ho} {v : V} {x : D} {p : PyData} (r : Rel K as H v x) (hR : HeapR K as H h) (e : datum h x = some p) : Dp K H v p := by
  cases r with
  | d r =>
    simp only [datum, Option.some.injEq] at e
    subst e
    exact r.dp
  | tp _ _ _ _ => simp [datum] at e
  | ob _ _ _ _ _ => simp [datum] at e
  | pr _ _ _ => simp [datum] at e
  | loc ha =>
    simp only [datum] at e
    split at e
    · rename_i ys en
      simp only [Option.map_eq_some_iff] at e
      obtain ⟨ps, e1, rfl⟩ := e
      obtain ⟨b, hb, ob⟩ := hR.at en
      rw [ha] at hb
      cases hb
      obtain ⟨vs, e2, e3⟩ := ob
      exact .lst (SqL.of e2) (DvAll.dp (e3.ofAllD e1))
    · cases e
/-! ### + -/
/-- list + list, also of what is only read -/
def rCatR (K : Frag) : R2 := fun x y H Q => ∃ l b xs zs, x = .ref l ∧ y = .ref b ∧ SqL K H l xs ∧ SqL K H b zs ∧ xs.length + zs.length ≤ sizeLine ∧ ∀ p, H p = none → Q (.ref p) (upd H p (.lst (xs ++ zs)))
theorem op_catR {X : Cx} : OpR X (binaryOp .Add) (rCatR X.K) := by
  intro pins s σ H x y v u Q I rx ry h
  obtain ⟨l, b, xs, zs, rfl, rfl, h1, h2, hz, q⟩ := h
  cases rx; cases ry
  obtain ⟨i1, r1, ⟨⟨c1, d1, t1, s1⟩, n1, g1, k1, m1, e1⟩, z1⟩ := I.list h1
  obtain ⟨i2, r2, ⟨⟨c2, d2, t2, s2⟩, n2, g2, k2, m2, e2⟩, z2⟩ := I.list h2
  simp only at k1 e1 k2 e2
  subst k1; subst e1; subst k2; subst e2
  have hsz : i1.toArray.size + i2.toArray.size ≤ sizeLine := by
    rw [List.size_toArray, List.size_toArray, ← r1.length, ← r2.length]; exact hz
  refine concat_meets ⟨_, g1, rfl⟩ ⟨_, g2, rfl⟩ noFill_list_add seq_list_add F.slot_list_add F.entry_list_add (F.args_list_add_2 _ _)
    (list_addW l b i1.toArray i2.toArray n1 n2 d1 d2 s1 s2 hsz) ⟨g1, g2, ?_⟩
  have ea : i1.toArray ++ i2.toArray = (i1 ++ i2).toArray := by simp
  rw [ea]
  exact ⟨.ref _, _, I.lnew (t' := s.toks) (r1.append r2) (by rw [List.length_append]; exact hz), rfl, q _ I.fresh⟩
def rAdd2 : WR2 := fun x y h Q => match x, y with
  | .d (.int i), .d (.int j) => Q (.d (.int (i + j))) h
  | .d (.str a), .d (.str b) => a.length + b.length ≤ sizeLine ∧ Q (.d (.str (a ++ b))) h
  | .d (.list ps), .d (.list qs) => ps.length + qs.length ≤ sizeLine ∧ Q (.d (.list (ps ++ qs))) h
  | .d (.tuple ps), .d (.tuple qs) => ps.length + qs.length ≤ sizeLine ∧ Q (.d (.tuple (ps ++ qs))) h
  | _, _ => False
def rAddV (K : Frag) : R2 := fun x y H Q => rI0 (fun i j => .int (i + j)) x y H Q ∨ (∃ i j, x = .str i ∧ y = .str j ∧ i.length + j.length ≤ sizeLine ∧ Q (.str (i ++ j)) H) ∨ rCatR K x y H Q ∨ rCatA K x y H Q
section
variable {X : Cx}
theorem op_addV : OpR X (binaryOp .Add) (rAddV X.K) := op_add.or (op_add_str.or (op_catR.or op_catA))
theorem cp_add : Cp2 X (rAddV X.K) rAdd2 := by
  intro x y h Q v w as H QV rx ry hR hq k
  unfold rAdd2 at hq
  split at hq
  · cases rx with | d rx =>
    cases ry with | d ry =>
    cases rx
    cases ry
    exact .inl ⟨_, _, rfl, rfl, k.qd hR hq (.int _)⟩
  · cases rx with | d rx =>
    cases ry with | d ry =>
    cases rx
    cases ry
    exact .inr (.inl ⟨_, _, rfl, rfl, hq.1, k.qd hR hq.2 (.str _)⟩)
  · cases rx with | d rx =>
    cases ry with | d ry =>
    cases rx with | lst sx ax =>
    cases ry with | lst sy ay =>
    refine .inr (.inr (.inl ⟨_, _, _, _, rfl, rfl, sx.sq, sy.sq, by rw [ax.length, ay.length]; exact hq.1, fun p hp => ?_⟩))
    exact k.newLst hR hq.2 (ax.append ay) hp
  · cases rx with | d rx =>
    cases ry with | d ry =>
    cases rx with | tup sx ax =>
    cases ry with | tup sy ay =>
    refine .inr (.inr (.inr ⟨_, _, _, _, rfl, rfl, sx.sq, sy.sq, by rw [ax.length, ay.length]; exact hq.1, fun e => ?_, fun _ e => ?_, fun _ _ p hp => ?_⟩))
    · subst e
      cases ax
      exact k.qd hR hq.2 (.tup sy ay)
    · subst e
      cases ay
      have := hq.2
      rw [List.append_nil] at this
      exact k.qd hR this (.tup sx ax)
    · exact k.newTup hR hq.2 (ax.append ay) hp
  · exact hq.elim
theorem SE.add {W : WX} {a b : Expr} {fa fb : WE} {pos : Pos} (ha : SE X W a fa) (hb : SE X W b fb) : SE X W (.BinOp a .Add b pos) (fBin rAdd2 fa fb) := .bin op_addV cp_add ha hb
abbrev rSub2 : WR2 := rInts (fun _ _ => True) fun i j => .int (i - j)
abbrev rMul2 : WR2 := rInts CMulW fun i j => .int (i * j)
abbrev rDiv2 : WR2 := rInts CDivA fun i j => .int (i.fdiv j)
abbrev rMod2 : WR2 := rInts (fun _ j => 0 < j) fun i j => .int (i % j)
abbrev rPow2 : WR2 := rInts CPow fun i j => .int (i ^ j.toNat)
theorem SE.sub {W : WX} {a b : Expr} {fa fb : WE} {pos : Pos} (ha : SE X W a fa) (hb : SE X W b fb) : SE X W (.BinOp a .Sub b pos) (fBin rSub2 fa fb) := .bin op_sub (cp_ints0 fun _ _ _ _ _ => .int _) ha hb
theorem SE.mul {W : WX} {a b : Expr} {fa fb : WE} {pos : Pos} (ha : SE X W a fa) (hb : SE X W b fb) : SE X W (.BinOp a .Mult b pos) (fBin rMul2 fa fb) := .bin op_mulW (cp_ints fun _ _ _ _ _ => .int _) ha hb
theorem SE.div {W : WX} {a b : Expr} {fa fb : WE} {pos : Pos} (ha : SE X W a fa) (hb : SE X W b fb) : SE X W (.BinOp a .FloorDiv b pos) (fBin rDiv2 fa fb) := .bin op_fdivA (cp_ints fun _ _ _ _ _ => .int _) ha hb
theorem SE.mod {W : WX} {a b : Expr} {fa fb : WE} {pos : Pos} (ha : SE X W a fa) (hb : SE X W b fb) : SE X W (.BinOp a .Mod b pos) (fBin rMod2 fa fb) := .bin op_mod (cp_ints fun _ _ _ _ _ => .int _) ha hb
theorem SE.pow {W : WX} {a b : Expr} {fa fb : WE} {pos : Pos} (ha : SE X W a fa) (hb : SE X W b fb) : SE X W (.BinOp a .Pow b pos) (fBin rPow2 fa fb) := .bin op_pow (cp_ints fun _ _ _ _ _ => .int _) ha hb
/-! ### comparisons -/
abbrev rCmp2 (p : Int → Int → Bool) : WR2 := rInts (fun _ _ => True) fun i j => .bool (p i j)
variable {W : WX} {a b : Expr} {fa fb : WE} {pos : Pos}
theorem SE.lt (ha : SE X W a fa) (hb : SE X W b fb) : SE X W (.Compare a [.Lt] [b] pos) (fBin (rCmp2 fun i j => decide (i < j)) fa fb) := .cmp op_lt (cp_ints0 fun _ _ _ _ _ => .bl _) ha hb (nomark _)
theorem SE.le (ha : SE X W a fa) (hb : SE X W b fb) : SE X W (.Compare a [.LtE] [b] pos) (fBin (rCmp2 fun i j => decide (i ≤ j)) fa fb) := .cmp op_le (cp_ints0 fun _ _ _ _ _ => .bl _) ha hb (nomark _)
theorem SE.gt (ha : SE X W a fa) (hb : SE X W b fb) : SE X W (.Compare a [.Gt] [b] pos) (fBin (rCmp2 fun i j => decide (j < i)) fa fb) := .cmp op_gt (cp_ints0 fun _ _ _ _ _ => .bl _) ha hb (nomark _)
theorem SE.ge (ha : SE X W a fa) (hb : SE X W b fb) : SE X W (.Compare a [.GtE] [b] pos) (fBin (rCmp2 fun i j => decide (j ≤ i)) fa fb) := .cmp op_ge (cp_ints0 fun _ _ _ _ _ => .bl _) ha hb (nomark _)
/-- == : ints at once, other data by the model's own comparison -/
def rEq2 : WR2 := fun x y h Q => match x, y with
  | .d (.int i), .d (.int j) => Q (.d (.bool (decide (i = j)))) h
  | .d (.str i), .d (.str j) => Q (.d (.bool (decide (i = j)))) h
  | _, _ => match datum h x, datum h y with
    | some p, some q => SeqAt.shaped p = true ∧ SeqAt.shaped q = true ∧ Q (.d (.bool (PyData.eqv p q))) h
    | _, _ => False
def rNe2 : WR2 := fun x y h Q => match x, y with
  | .d (.int i), .d (.int j) => Q (.d (.bool (!decide (i = j)))) h
  | .d (.str i), .d (.str j) => Q (.d (.bool (!decide (i = j)))) h
  | _, _ => match datum h x, datum h y with
    | some p, some q => SeqAt.shaped p = true ∧ SeqAt.shaped q = true ∧ Q (.d (.bool (!PyData.eqv p q))) h
    | _, _ => False
theorem int_vdec (i j : Int) : decide (V.int i = V.int j) = decide (i = j) := by
  by_cases e : i = j
  · subst e; simp
  · rw [decide_eq_false e, decide_eq_false fun z => e (V.int.inj z)]
theorem str_vdec (i j : Str) : decide (V.str i = V.str j) = decide (i = j) := by
  by_cases e : i = j
  · subst e; simp
  · rw [decide_eq_false e, decide_eq_false fun z => e (V.str.inj z)]
theorem cp_eq : Cp2 X (fun x y H Q => rEq x y H Q ∨ rEqD X.K x y H Q) rEq2 := by
  intro x y h Q v w as H QV rx ry hR hq k
  unfold rEq2 at hq
  split at hq
  · cases rx with | d rx =>
    cases ry with | d ry =>
    cases rx
    cases ry
    exact .inl ⟨rfl, by rw [int_vdec]; exact k.qd hR hq (.bl _)⟩
  · cases rx with | d rx =>
    cases ry with | d ry =>
    cases rx
    cases ry
    exact .inl ⟨rfl, by rw [str_vdec]; exact k.qd hR hq (.bl _)⟩
  · split at hq
    · rename_i p q e1 e2
      exact .inr ⟨p, q, datum_dp rx hR e1, datum_dp ry hR e2, hq.1, hq.2.1, k.qd hR hq.2.2 (.bl _)⟩
    · exact hq.elim
theorem cp_ne : Cp2 X (fun x y H Q => rNe x y H Q ∨ rNeD X.K x y H Q) rNe2 := by
  intro x y h Q v w as H QV rx ry hR hq k
  unfold rNe2 at hq
  split at hq
  · cases rx with | d rx =>
    cases ry with | d ry =>
    cases rx
    cases ry
    exact .inl ⟨rfl, by rw [int_vdec]; exact k.qd hR hq (.bl _)⟩
  · cases rx with | d rx =>
    cases ry with | d ry =>
    cases rx
    cases ry
    exact .inl ⟨rfl, by rw [str_vdec]; exact k.qd hR hq (.bl _)⟩
  · split at hq
    · rename_i p q e1 e2
      exact .inr ⟨p, q, datum_dp rx hR e1, datum_dp ry hR e2, hq.1, hq.2.1, k.qd hR hq.2.2 (.bl _)⟩
    · exact hq.elim
theorem SE.eq (hu : X.A.units + 64 < cLine) (ha : SE X W a fa) (hb : SE X W b fb) : SE X W (.Compare a [.Eq] [b] pos) (fBin rEq2 fa fb) := .cmp (op_eq.or (op_eqD hu)) cp_eq ha hb (nomark _)
theorem SE.ne (hu : X.A.units + 64 < cLine) (ha : SE X W a fa) (hb : SE X W b fb) : SE X W (.Compare a [.NotEq] [b] pos) (fBin rNe2 fa fb) := .cmp (op_ne.or (op_neD hu)) cp_ne ha hb (nomark _)
/-- is None -/
def isNon : D → Bool
  | .d .none => true
  | _ => false
def rIsN2 : WR2 := fun x y h Q => match y with
  | .d .none => Q (.d (.bool (isNon x))) h
  | _ => False
def rNotN2 : WR2 := fun x y h Q => match y with
  | .d .none => Q (.d (.bool (!isNon x))) h
  | _ => False
theorem isnon_rel {K : Frag} {as : List Addr} {H : Hp} {v : V} {x : D} (r : Rel K as H v x) : decide (v = V.non) = isNon x := by
  cases r with
  | d r => cases r <;> first | rfl | exact decide_eq_false (fun z => by cases z)
  | loc _ => exact decide_eq_false (fun z => by cases z)
  | tp _ _ _ _ => exact decide_eq_false (fun z => by cases z)
  | ob _ _ _ _ _ => exact decide_eq_false (fun z => by cases z)
  | pr _ _ _ => exact decide_eq_false (fun z => by cases z)
theorem cp_isN : Cp2 X (fun x y H Q => y = .non ∧ Q (.bl (decide (x = .non))) H) rIsN2 := by
  intro x y h Q v w as H QV rx ry hR hq k
  unfold rIsN2 at hq
  split at hq
  · cases ry with | d ry =>
    cases ry
    refine ⟨rfl, ?_⟩
    rw [isnon_rel rx]
    exact k.qd hR hq (.bl _)
  · exact hq.elim
end
/-! ### one -/
def fUn (g : Int → PyData) (fa : WE) : WE := fun ρ h Q E => fa ρ h (fun x h1 => match x with
  | .d (.int i) => Q (.d (g i)) h1
  | _ => False) E
section
variable {X : Cx} {W : WX} {a b : Expr} {fa fb : WE} {pos : Pos}
theorem SE.neg (ha : SE X W a fa) : SE X W (.UnaryOp .USub a pos) (fUn (fun i => .int (-i)) fa) := by
  obtain ⟨ta, pa, sa⟩ := ha
  refine ⟨_, pe_un un_neg pa, fun σ H as ρ h Q E QV eR hR hq k kx => ?_⟩
  refine sa σ H as ρ h _ E _ eR hR hq (fun x h1 v as1 H1 hq1 l1 r1 rv => ?_) kx
  split at hq1
  · cases rv with | d rv =>
    cases rv
    exact ⟨_, rfl, (k.later l1).qd r1 hq1 (.int _)⟩
  · exact hq1.elim
/-! ### tests -/
/-- a value that is True or False -/
def tVal (fa : WE) : WT := fun ρ h Q E => fa ρ h (fun x h1 => match x with
  | .d (.bool b) => Q b h1
  | _ => False) E
theorem sp_val {t : TE} (sa : SpE X W t fa) : SpT X W (tB t) (tVal fa) := by
  intro σ H as ρ h Q E QV eR hR hq k kx
  refine sa σ H as ρ h _ E _ eR hR hq (fun x h1 v as1 H1 hq1 l1 r1 rv => ?_) kx
  split at hq1
  · cases rv with | d rv =>
    cases rv
    exact ⟨_, rfl, k _ _ _ _ hq1 l1 r1⟩
  · exact hq1.elim
def tAnd2 (f g : WT) : WT := fun ρ h Q E => f ρ h (fun b h1 => if b = true then g ρ h1 Q E else Q false h1) E
def tOr2 (f g : WT) : WT := fun ρ h Q E => f ρ h (fun b h1 => if b = true then Q true h1 else g ρ h1 Q E) E
def tNot2 (f : WT) : WT := fun ρ h Q E => f ρ h (fun b h1 => Q (!b) h1) E
end
section
variable {X : Cx} {W : WX} {a b : Expr} {rest : List Expr} {fa fb : WE} {f g : WT} {pos : Pos}
theorem ST.val (ha : SE X W a fa) (he : ∀ whole, isTrue a X.env whole = (do let v ← whole; standAt a.pos; holding [v] (truthy v)) := by intro _; rfl) : ST X W a (tVal fa) := by
  obtain ⟨ta, pa, sa⟩ := ha
  exact ⟨_, pt_val pa he, sp_val sa⟩
theorem sp_test {t : TE} (sa : SpE X W t fa) : SpT X W (tTest t) (tVal fa) := sp_val sa
/-- a comparison as a test -/
theorem ST.cmp {op : CmpOp} {rV : R2} {r : WR2} (ho : OpR X (compareOp op) rV) (c : Cp2 X rV r) (ha : SE X W a fa) (hb : SE X W b fb) (hm : behindInMarks op b = false) : ST X W (.Compare a [op] [b] pos) (tVal (fBin r fa fb)) := by
  obtain ⟨ta, pa, sa⟩ := ha
  obtain ⟨tb, pb, sb⟩ := hb
  exact ⟨_, pt_cmpR ho pa pb hm, sp_test (sp_op c sa sb)⟩
theorem ST.lt (ha : SE X W a fa) (hb : SE X W b fb) : ST X W (.Compare a [.Lt] [b] pos) (tVal (fBin (rCmp2 fun i j => decide (i < j)) fa fb)) := .cmp op_lt (cp_ints0 fun _ _ _ _ _ => .bl _) ha hb (nomark _)
theorem ST.le (ha : SE X W a fa) (hb : SE X W b fb) : ST X W (.Compare a [.LtE] [b] pos) (tVal (fBin (rCmp2 fun i j => decide (i ≤ j)) fa fb)) := .cmp op_le (cp_ints0 fun _ _ _ _ _ => .bl _) ha hb (nomark _)
theorem ST.gt (ha : SE X W a fa) (hb : SE X W b fb) : ST X W (.Compare a [.Gt] [b] pos) (tVal (fBin (rCmp2 fun i j => decide (j < i)) fa fb)) := .cmp op_gt (cp_ints0 fun _ _ _ _ _ => .bl _) ha hb (nomark _)
theorem ST.ge (ha : SE X W a fa) (hb : SE X W b fb) : ST X W (.Compare a [.GtE] [b] pos) (tVal (fBin (rCmp2 fun i j => decide (j ≤ i)) fa fb)) := .cmp op_ge (cp_ints0 fun _ _ _ _ _ => .bl _) ha hb (nomark _)
theorem ST.eq (hu : X.A.units + 64 < cLine) (ha : SE X W a fa) (hb : SE X W b fb) : ST X W (.Compare a [.Eq] [b] pos) (tVal (fBin rEq2 fa fb)) := .cmp (op_eq.or (op_eqD hu)) cp_eq ha hb (nomark _)
theorem ST.ne (hu : X.A.units + 64 < cLine) (ha : SE X W a fa) (hb : SE X W b fb) : ST X W (.Compare a [.NotEq] [b] pos) (tVal (fBin rNe2 fa fb)) := .cmp (op_ne.or (op_neD hu)) cp_ne ha hb (nomark _)
theorem ST.isN (ha : SE X W a fa) (hb : SE X W b fb) : ST X W (.Compare a [.Is] [b] pos) (tVal (fBin rIsN2 fa fb)) := .cmp op_isN cp_isN ha hb (nomark _)
theorem SW.and1 (ha : ST X W a f) : SW X W (.BoolOp .And [a] pos) f := let ⟨_, p, s⟩ := ha; ⟨_, pw_and1 p, s⟩
theorem SW.or1 (ha : ST X W a f) : SW X W (.BoolOp .Or [a] pos) f := let ⟨_, p, s⟩ := ha; ⟨_, pw_or1 p, s⟩
theorem SW.and (ha : ST X W a f) (hb : SW X W (.BoolOp .And (b :: rest) pos) g) : SW X W (.BoolOp .And (a :: b :: rest) pos) (tAnd2 f g) := by
  obtain ⟨_, pa, sa⟩ := ha
  obtain ⟨_, pb, sb⟩ := hb
  refine ⟨_, pw_and pa pb, fun σ H as ρ h Q E QV eR hR hq k kx => ?_⟩
  refine sa σ H as ρ h _ E _ eR hR hq (fun c h1 as1 H1 hq1 l1 r1 => ?_) kx
  cases c with
  | true => exact iteT (sb σ H1 as1 ρ h1 Q E QV (eR.later l1) r1 hq1 (k.later l1) (kx.later l1))
  | false => exact iteF (k _ _ _ _ hq1 l1 r1)
theorem SW.or (ha : ST X W a f) (hb : SW X W (.BoolOp .Or (b :: rest) pos) g) : SW X W (.BoolOp .Or (a :: b :: rest) pos) (tOr2 f g) := by
  obtain ⟨_, pa, sa⟩ := ha
  obtain ⟨_, pb, sb⟩ := hb
  refine ⟨_, pw_or pa pb, fun σ H as ρ h Q E QV eR hR hq k kx => ?_⟩
  refine sa σ H as ρ h _ E _ eR hR hq (fun c h1 as1 H1 hq1 l1 r1 => ?_) kx
  cases c with
  | true => exact iteT (k _ _ _ _ hq1 l1 r1)
  | false => exact iteF (sb σ H1 as1 ρ h1 Q E QV (eR.later l1) r1 hq1 (k.later l1) (kx.later l1))
theorem SW.pt {e : Expr} (hs : SW X W e f) : ST X W e f := let ⟨_, p, s⟩ := hs; ⟨_, p.pt, s⟩
theorem ST.not (ha : ST X W a f) : ST X W (.UnaryOp .Not a pos) (tNot2 f) := by
  obtain ⟨_, pa, sa⟩ := ha
  refine ⟨_, pt_not pa, fun σ H as ρ h Q E QV eR hR hq k kx => ?_⟩
  exact sa σ H as ρ h _ E _ eR hR hq (fun c h1 as1 H1 hq1 l1 r1 => k _ _ _ _ hq1 l1 r1) kx
/-- .. as values: the first ones are True or False -/
def fAnd (fa fb : WE) : WE := fun ρ h Q E => fa ρ h (fun x h1 => match x with
  | .d (.bool true) => fb ρ h1 Q E
  | .d (.bool false) => Q (.d (.bool false)) h1
  | _ => False) E
def fOr (fa fb : WE) : WE := fun ρ h Q E => fa ρ h (fun x h1 => match x with
  | .d (.bool false) => fb ρ h1 Q E
  | .d (.bool true) => Q (.d (.bool true)) h1
  | _ => False) E
def fNot (fa : WE) : WE := fun ρ h Q E => fa ρ h (fun x h1 => match x with
  | .d (.bool b) => Q (.d (.bool (!b))) h1
  | _ => False) E
theorem SE.one {op} (ha : SE X W a fa) : SE X W (.BoolOp op [a] pos) fa := let ⟨_, p, s⟩ := ha; ⟨_, pe_one p, s⟩
theorem SE.and (ha : SE X W a fa) (hb : SE X W (.BoolOp .And (b :: rest) pos) fb) : SE X W (.BoolOp .And (a :: b :: rest) pos) (fAnd fa fb) := by
  obtain ⟨_, pa, sa⟩ := ha
  obtain ⟨_, pb, sb⟩ := hb
  refine ⟨_, pe_and pa pb, fun σ H as ρ h Q E QV eR hR hq k kx => ?_⟩
  refine sa σ H as ρ h _ E _ eR hR hq (fun x h1 v as1 H1 hq1 l1 r1 rv => ?_) kx
  split at hq1
  · cases rv with | d rv =>
    cases rv
    exact ⟨true, rfl, iteT (sb σ H1 as1 ρ h1 Q E QV (eR.later l1) r1 hq1 (k.later l1) (kx.later l1))⟩
  · cases rv with | d rv =>
    cases rv
    exact ⟨false, rfl, iteF ((k.later l1).qd r1 hq1 (.bl _))⟩
  · exact hq1.elim
theorem SE.or (ha : SE X W a fa) (hb : SE X W (.BoolOp .Or (b :: rest) pos) fb) : SE X W (.BoolOp .Or (a :: b :: rest) pos) (fOr fa fb) := by
  obtain ⟨_, pa, sa⟩ := ha
  obtain ⟨_, pb, sb⟩ := hb
  refine ⟨_, pe_or pa pb, fun σ H as ρ h Q E QV eR hR hq k kx => ?_⟩
  refine sa σ H as ρ h _ E _ eR hR hq (fun x h1 v as1 H1 hq1 l1 r1 rv => ?_) kx
  split at hq1
  · cases rv with | d rv =>
    cases rv
    exact ⟨false, rfl, iteF (sb σ H1 as1 ρ h1 Q E QV (eR.later l1) r1 hq1 (k.later l1) (kx.later l1))⟩
  · cases rv with | d rv =>
    cases rv
    exact ⟨true, rfl, iteT ((k.later l1).qd r1 hq1 (.bl _))⟩
  · exact hq1.elim
theorem SE.not (ha : SE X W a fa) : SE X W (.UnaryOp .Not a pos) (fNot fa) := by
  obtain ⟨_, pa, sa⟩ := ha
  refine ⟨_, pe_not pa, fun σ H as ρ h Q E QV eR hR hq k kx => ?_⟩
  refine sa σ H as ρ h _ E _ eR hR hq (fun x h1 v as1 H1 hq1 l1 r1 rv => ?_) kx
  split at hq1
  · cases rv with | d rv =>
    cases rv
    exact ⟨_, rfl, (k.later l1).qd r1 hq1 (.bl _)⟩
  · exact hq1.elim
def fIf (t : WT) (fa fb : WE) : WE := fun ρ h Q E => t ρ h (fun b h1 => if b = true then fa ρ h1 Q E else fb ρ h1 Q E) E
theorem SE.ifExp {c : Expr} {t : WT} (hc : ST X W c t) (ha : SE X W a fa) (hb : SE X W b fb) : SE X W (.IfExp c a b pos) (fIf t fa fb) := by
  obtain ⟨_, pc, sc⟩ := hc
  obtain ⟨_, pa, sa⟩ := ha
  obtain ⟨_, pb, sb⟩ := hb
  refine ⟨_, pe_ifExp pc pa pb, fun σ H as ρ h Q E QV eR hR hq k kx => ?_⟩
  refine sc σ H as ρ h _ E _ eR hR hq (fun c h1 as1 H1 hq1 l1 r1 => ?_) kx
  cases c with
  | true => exact iteT (sa σ H1 as1 ρ h1 Q E QV (eR.later l1) r1 hq1 (k.later l1) (kx.later l1))
  | false => exact iteF (sb σ H1 as1 ρ h1 Q E QV (eR.later l1) r1 hq1 (k.later l1) (kx.later l1))
/-! ### displays -/
variable {es : List Expr} {ga : WA}
/-- a tuple of data -/
def fTup (ga : WA) : WE := fun ρ h Q E => ga ρ h (fun xs h1 => match allD xs with
  | some ps => ps.length ≤ sizeLine ∧ Q (.d (.tuple ps)) h1
  | none => False) E
/-- a list of data that is never changed -/
def fLst (ga : WA) : WE := fun ρ h Q E => ga ρ h (fun xs h1 => match allD xs with
  | some ps => ps.length ≤ sizeLine ∧ Q (.d (.list ps)) h1
  | none => False) E
/-- a list that may be changed -/
def fLoc (ga : WA) : WE := fun ρ h Q E => ga ρ h (fun xs h1 => xs.length ≤ sizeLine ∧ Q (.loc h1.length) (h1 ++ [.lst xs])) E
theorem SE.tup {x1} (ha : SA X W es ga) : SE X W (.Tuple es x1 pos) (fTup ga) := by
  obtain ⟨_, pa, sa⟩ := ha
  refine ⟨_, pe_tup pa, fun σ H as ρ h Q E QV eR hR hq k kx => ?_⟩
  refine sa σ H as ρ h _ E _ eR hR hq (fun xs h1 vs as1 H1 hq1 l1 r1 rv => ?_) kx
  split at hq1
  · rename_i ps e
    have dv := rv.ofAllD e
    exact ⟨by rw [dv.length]; exact hq1.1, fun p hp => (k.later l1).newTup r1 hq1.2 dv hp⟩
  · exact hq1.elim
theorem SE.lst (ha : SA X W es ga) : SE X W (.List es pos) (fLst ga) := by
  obtain ⟨_, pa, sa⟩ := ha
  refine ⟨_, pe_lst pa, fun σ H as ρ h Q E QV eR hR hq k kx => ?_⟩
  refine sa σ H as ρ h _ E _ eR hR hq (fun xs h1 vs as1 H1 hq1 l1 r1 rv => ?_) kx
  split at hq1
  · rename_i ps e
    have dv := rv.ofAllD e
    exact ⟨by rw [dv.length]; exact hq1.1, fun p hp => (k.later l1).newLst r1 hq1.2 dv hp⟩
  · exact hq1.elim
theorem SE.loc (ha : SA X W es ga) : SE X W (.List es pos) (fLoc ga) := by
  obtain ⟨_, pa, sa⟩ := ha
  refine ⟨_, pe_lst pa, fun σ H as ρ h Q E QV eR hR hq k kx => ?_⟩
  refine sa σ H as ρ h _ E _ eR hR hq (fun xs h1 vs as1 H1 hq1 l1 r1 rv => ?_) kx
  exact ⟨by rw [rv.length]; exact hq1.1, fun p hp => (k.later l1).newLoc r1 hq1.2 rv hp⟩
/-! ### subscripts -/
def rIx2 : WR2 := fun x y h Q => match y with
  | .d (.int i) => match items h x with
    | some xs => match atI xs i with
      | some v => Q v h
      | none => False
    | none => False
  | _ => False
theorem RelAll.atI {K : Frag} {as : List Addr} {H : Hp} {vs : List V} {xs : List D} (r : RelAll K as H vs xs) {i : Int} {x : D} (e : L2.atI xs i = some x) : ∃ v, L2.atI vs i = some v ∧ Rel K as H v x := by
  unfold L2.atI at e
  cases q : ixN xs.length i with
  | none => rw [q] at e; cases e
  | some j =>
    rw [q] at e
    obtain ⟨v, e1, e2⟩ := r.get (show xs[j]? = some x from e)
    refine ⟨v, ?_, e2⟩
    unfold L2.atI
    rw [r.length, q]
    exact e1
theorem cp_ix : Cp2 X (fun x y H Q => rIxL X.K x y H Q ∨ rIxT X.K x y H Q) rIx2 := by
  intro x y h Q v w as H QV rx ry hR hq k
  unfold rIx2 at hq
  split at hq
  · rename_i i
    cases ry with | d ry =>
    cases ry
    split at hq
    · rename_i xs e
      split at hq
      · rename_i z ez
        obtain ⟨a, vs, rfl, s, ra⟩ := items_rel rx hR e
        obtain ⟨u, e1, e2⟩ := ra.atI ez
        rcases s with s | s
        · exact .inl ⟨a, vs, i, u, rfl, rfl, s, e1, k.q hR hq e2⟩
        · exact .inr ⟨a, vs, i, u, rfl, rfl, s, e1, k.q hR hq e2⟩
      · exact hq.elim
    · exact hq.elim
  · exact hq.elim
theorem SE.ix (ha : SE X W a fa) (hb : SE X W b fb) (hs : PlainIx b := by exact fun _ _ => rfl) : SE X W (.Subscript a b pos) (fBin rIx2 fa fb) := by
  obtain ⟨ta, pa, sa⟩ := ha
  obtain ⟨tb, pb, sb⟩ := hb
  exact ⟨_, pe_ix (ix_list.or ix_tup) pa pb hs, sp_op cp_ix sa sb⟩
/-! ### slices -/
def SO (X : Cx) (W : WX) (e : Option Expr) (f : En → Ho → (Option Int → Ho → Prop) → XD → Prop) : Prop :=
  ∃ t, PO X e t ∧ ∀ σ H as ρ h Q E (QV : Option Int → Hp → Prop), EnvR X.K as H ρ σ → HeapR X.K as H h → f ρ h Q E →
    (∀ o h' as1 H', Q o h' → Later as H as1 H' → HeapR X.K as1 H' h' → QV o H') → XTo X W as H σ E → t σ H QV
def oNone : En → Ho → (Option Int → Ho → Prop) → XD → Prop := fun _ h Q _ => Q none h
def oSome (f : WE) : En → Ho → (Option Int → Ho → Prop) → XD → Prop := fun ρ h Q E => f ρ h (fun x h1 => match x with
  | .d (.int i) => Q (some i) h1
  | _ => False) E
theorem SO.none : SO X W none oNone := ⟨_, po_none, fun σ H as ρ h Q E QV _ hR hq k _ => k _ _ _ _ hq (Later.refl _ _) hR⟩
theorem SO.some (ha : SE X W a fa) : SO X W (some a) (oSome fa) := by
  obtain ⟨_, pa, sa⟩ := ha
  refine ⟨_, po_some pa, fun σ H as ρ h Q E QV eR hR hq k kx => ?_⟩
  refine sa σ H as ρ h _ E _ eR hR hq (fun x h1 v as1 H1 hq1 l1 r1 rv => ?_) kx
  split at hq1
  · cases rv with | d rv =>
    cases rv
    exact ⟨_, rfl, k _ _ _ _ hq1 l1 r1⟩
  · exact hq1.elim
def cut {α : Type} (xs : List α) (lo hi : Option Int) : List α := (xs.drop (HT.sIx xs.length 0 lo)).take (HT.sIx xs.length xs.length hi - HT.sIx xs.length 0 lo)
theorem DvAll.cut {K : Frag} {as : List Addr} {H : Hp} {vs : List V} {ps : List PyData} (r : DvAll K as H vs ps) (lo hi : Option Int) : DvAll K as H (cutV vs lo hi) (V2.cut ps lo hi) := by
  unfold cutV V2.cut
  rw [r.length]
  exact (r.drop _).take _
def fSl (fa : WE) (lo hi : En → Ho → (Option Int → Ho → Prop) → XD → Prop) : WE := fun ρ h Q E => fa ρ h (fun x h1 => lo ρ h1 (fun l h2 => hi ρ h2 (fun u h3 => match x with
  | .d (.list ps) => Q (.d (.list (cut ps l u))) h3
  | .d (.tuple ps) => Q (.d (.tuple (cut ps l u))) h3
  | _ => False) E) E) E
theorem SE.slice {lo hi : Option Expr} {fl fu} {p2 : Pos} (ha : SE X W a fa) (hl : SO X W lo fl) (hu : SO X W hi fu) : SE X W (.Subscript a (.Slice lo hi Option.none p2) pos) (fSl fa fl fu) := by
  obtain ⟨_, pa, sa⟩ := ha
  obtain ⟨_, pl, sl⟩ := hl
  obtain ⟨_, pu, su⟩ := hu
  refine ⟨_, pe_slice (sl_list.or sl_tupA) pa pl pu, fun σ H as ρ h Q E QV eR hR hq k kx => ?_⟩
  refine sa σ H as ρ h _ E _ eR hR hq (fun x h1 v as1 H1 hq1 l1 r1 rv => ?_) kx
  refine sl σ H1 as1 ρ h1 _ E _ (eR.later l1) r1 hq1 (fun lo h2 as2 H2 hq2 l2 r2 => ?_) (kx.later l1)
  refine su σ H2 as2 ρ h2 _ E _ ((eR.later l1).later l2) r2 hq2 (fun hi h3 as3 H3 hq3 l3 r3 => ?_) ((kx.later l1).later l2)
  have k3 := ((k.later l1).later l2).later l3
  have rv3 := (rv.later l2).later l3
  split at hq3
  · cases rv3 with | d rv3 =>
    cases rv3 with | lst sx ax =>
    exact .inl ⟨_, _, rfl, sx.sq, fun p hp => k3.newLst r3 hq3 (ax.cut _ _) hp⟩
  · cases rv3 with | d rv3 =>
    cases rv3 with | tup sx ax =>
    rename_i ps _ _
    refine .inr ⟨_, _, rfl, sx.sq, fun e => ?_, fun _ p hp => k3.newTup r3 hq3 (ax.cut _ _) hp⟩
    have ee : V2.cut ps lo hi = ps := by
      rw [ax.length] at e
      unfold V2.cut
      rw [e.1, e.2]
      simp
    rw [ee] at hq3
    exact k3.qd r3 hq3 (.tup sx ax)
  · exact hq3.elim
/-- xs[::-1]: a new list; a place, or data -/
def fRevLoc (fa : WE) : WE := fun ρ h Q E => fa ρ h (fun x h1 => match litems h1 x with
  | some xs => Q (.loc h1.length) (h1 ++ [.lst xs.reverse])
  | none => False) E
def fRev (fa : WE) : WE := fun ρ h Q E => fa ρ h (fun x h1 => match x with
  | .d (.list ps) => Q (.d (.list ps.reverse)) h1
  | _ => False) E
theorem SE.revLoc {e : Expr} {k : Nat} {p1 p2 p3 : Pos} (ha : SE X W e fa) : SE X W (.Subscript e (.Slice Option.none Option.none (Option.some (.UnaryOp .USub (.Constant (.int 1) k p1) p2)) p3) pos) (fRevLoc fa) := by
  obtain ⟨_, pa, sa⟩ := ha
  refine ⟨_, pe_revL pa, fun σ H as ρ h Q E QV eR hR hq k kx => ?_⟩
  refine sa σ H as ρ h _ E _ eR hR hq (fun x h1 v as1 H1 hq1 l1 r1 rv => ?_) kx
  split at hq1
  · rename_i xs e
    obtain ⟨a, vs, rfl, s, ra⟩ := litems_rel rv r1 e
    exact ⟨a, vs, rfl, s, fun p hp => (k.later l1).newLoc r1 hq1 ra.reverse hp⟩
  · exact hq1.elim
end
end V2
set_option Elab.async false
set_option linter.all false
set_option maxRecDepth 100000
set_option maxHeartbeats 4000000
namespace V2
open PySem PySem.Spec PyProof.Rows L2
open PySem.W (Frag)
mutual
theorem dp_noDict {K : Frag} {H : Hp} : ∀ {p : PyData} {v : V}, Dp K H v p → p.hasDict = false
  | .none, _, _ => by simp [PyData.hasDict]
  | .bool _, _, _ => by simp [PyData.hasDict]
  | .int _, _, _ => by simp [PyData.hasDict]
  | .str _, _, _ => by simp [PyData.hasDict]
  | .list ds, _, h => by
    cases h with
    | lst _ ha => simp only [PyData.hasDict]; exact dpAll_noDict ha
  | .tuple ds, _, h => by
    cases h with
    | tup _ ha => simp only [PyData.hasDict]; exact dpAll_noDict ha
  | .dict _, _, h => by cases h
theorem dpAll_noDict {K : Frag} {H : Hp} : ∀ {ps : List PyData} {vs : List V}, DpAll K H vs ps → PyData.hasDictAll ps = false
  | [], _, _ => by simp [PyData.hasDictAll]
  | d :: ds, _, h => by
    cases h with
    | cons h1 h2 => simp only [PyData.hasDictAll, dp_noDict h1, dpAll_noDict h2, Bool.or_self]
end
section
variable {X : Cx} {W : WX} {a : Expr} {es : List Expr} {ga : WA} {pos p : Pos}
abbrev WR := List D → Ho → KD → Prop
def CpA (X : Cx) (rV : List V → Hp → VK → Prop) (r : WR) : Prop := ∀ xs h Q vs as H QV, RelAll X.K as H vs xs → HeapR X.K as H h → r xs h Q → KTo X as H Q QV → rV vs H QV
def fCall (r : WR) (ga : WA) : WE := fun ρ h Q E => ga ρ h (fun xs h1 => r xs h1 Q) E
theorem sp_call {rV : List V → Hp → VK → Prop} {r : WR} {t : TA} (c : CpA X rV r) (sa : SpA X W t ga) : SpE X W (tCB rV t) (fCall r ga) := by
  intro σ H as ρ h Q E QV eR hR hq k kx
  exact sa σ H as ρ h _ E _ eR hR hq (fun xs h1 vs as1 H1 hq1 l1 r1 rv => c xs h1 Q vs as1 H1 QV rv r1 hq1 (k.later l1)) kx
/-- a built-in function by its name -/
theorem SE.callB {id : String} {x : Str} {rV : List V → Hp → VK → Prop} {r : WR} (hc : CallR X (.builtin id) rV) (c : CpA X rV r) (hg : Gl X x) (hm : X.mg x = none) (hv : bootBuiltins x = some (.builtin id)) (ha : SA X W (a :: es) ga)
    (hn : x ≠ "__name__" := by decide) (hdb : (x == ("__debug__" : Str)) = false := by decide)
    (he : starEach (a :: es) X.env = (false, eval a X.env) :: starEach es X.env := by rfl) (hpl : (backTo pos (starEach es X.env)).any (·.1) = false := by rfl) : SE X W (.Call (.Name x p) (a :: es) [] pos) (fCall r ga) := by
  obtain ⟨_, pa, sa⟩ := ha
  exact ⟨_, pe_callB hc hg hm hv pa hn hdb he hpl, sp_call c sa⟩
theorem SE.callTy {T : String} {x : Str} {rV : List V → Hp → VK → Prop} {r : WR} (hc : CallR X (.type T) rV) (c : CpA X rV r) (hg : Gl X x) (hm : X.mg x = none) (hv : bootBuiltins x = some (.type T)) (ha : SA X W (a :: es) ga)
    (hn : x ≠ "__name__" := by decide) (hdb : (x == ("__debug__" : Str)) = false := by decide)
    (he : starEach (a :: es) X.env = (false, eval a X.env) :: starEach es X.env := by rfl) (hpl : (backTo pos (starEach es X.env)).any (·.1) = false := by rfl) : SE X W (.Call (.Name x p) (a :: es) [] pos) (fCall r ga) := by
  obtain ⟨_, pa, sa⟩ := ha
  exact ⟨_, pe_callTy hc hg hm hv pa hn hdb he hpl, sp_call c sa⟩
/-- a module's name for a built-in function -/
theorem SE.callM {id : String} {x : Str} {rV : List V → Hp → VK → Prop} {r : WR} (hc : CallR X (.builtin id) rV) (c : CpA X rV r) (hg : Gl X x) (hm : X.mg x = some (.builtin id)) (ha : SA X W (a :: es) ga) (hdb : (x == ("__debug__" : Str)) = false := by decide)
    (he : starEach (a :: es) X.env = (false, eval a X.env) :: starEach es X.env := by rfl) (hpl : (backTo pos (starEach es X.env)).any (·.1) = false := by rfl) : SE X W (.Call (.Name x p) (a :: es) [] pos) (fCall r ga) := by
  obtain ⟨_, pa, sa⟩ := ha
  exact ⟨_, pe_callBfun hc hg hm pa hdb he hpl, sp_call c sa⟩
/-! ### the built-in functions -/
def rAbs : WR := fun xs h Q => match xs with
  | [.d (.int i)] => Q (.d (.int (if i < 0 then -i else i))) h
  | _ => False
theorem rel_int {K : Frag} {as : List Addr} {H : Hp} {v : V} {i : Int} (r : Rel K as H v (.d (.int i))) : v = .int i := by
  cases r with | d r => cases r; rfl
theorem rel_bl {K : Frag} {as : List Addr} {H : Hp} {v : V} {i : Bool} (r : Rel K as H v (.d (.bool i))) : v = .bl i := by
  cases r with | d r => cases r; rfl
theorem relAll1 {K : Frag} {as : List Addr} {H : Hp} {vs : List V} {x : D} (r : RelAll K as H vs [x]) : ∃ v, vs = [v] ∧ Rel K as H v x := by
  cases r with | cons r t => cases t; exact ⟨_, rfl, r⟩
theorem relAll2 {K : Frag} {as : List Addr} {H : Hp} {vs : List V} {x y : D} (r : RelAll K as H vs [x, y]) : ∃ v w, vs = [v, w] ∧ Rel K as H v x ∧ Rel K as H w y := by
  cases r with | cons r t => cases t with | cons r2 t => cases t; exact ⟨_, _, rfl, r, r2⟩
theorem cp_abs : CpA X (fun xs H Q => ∃ i, xs = [.int i] ∧ Q (.int (if i < 0 then -i else i)) H) rAbs := by
  intro xs h Q vs as H QV rv hR hq k
  unfold rAbs at hq
  split at hq
  · obtain ⟨v, rfl, r⟩ := relAll1 rv
    rw [rel_int r]
    exact ⟨_, rfl, k.qd hR hq (.int _)⟩
  · exact hq.elim
def rInt1 : WR := fun xs h Q => match xs with
  | [.d (.int i)] => Q (.d (.int i)) h
  | [.d (.bool b)] => Q (.d (.int (if b then 1 else 0))) h
  | _ => False
theorem cp_int1 : CpA X (fun xs H Q => (∃ i, xs = [.int i] ∧ Q (.int i) H) ∨ ∃ k, xs = [.bl k] ∧ Q (.int (if k then 1 else 0)) H) rInt1 := by
  intro xs h Q vs as H QV rv hR hq k
  unfold rInt1 at hq
  split at hq
  · obtain ⟨v, rfl, r⟩ := relAll1 rv
    rw [rel_int r]
    exact .inl ⟨_, rfl, k.qd hR hq (.int _)⟩
  · obtain ⟨v, rfl, r⟩ := relAll1 rv
    rw [rel_bl r]
    exact .inr ⟨_, rfl, k.qd hR hq (.int _)⟩
  · exact hq.elim
def rGcd2 : WR := fun xs h Q => match xs with
  | [.d (.int i), .d (.int j)] => Q (.d (.int (Nat.gcd i.natAbs j.natAbs : Nat))) h
  | _ => False
theorem cp_gcd : CpA X rGcd rGcd2 := by
  intro xs h Q vs as H QV rv hR hq k
  unfold rGcd2 at hq
  split at hq
  · obtain ⟨v, w, rfl, r1, r2⟩ := relAll2 rv
    rw [rel_int r1, rel_int r2]
    exact ⟨_, _, rfl, k.qd hR hq (.int _)⟩
  · exact hq.elim
def rLen : WR := fun xs h Q => match xs with
  | [x] => match items h x with
    | some ys => Q (.d (.int ys.length)) h
    | none => False
  | _ => False
theorem cp_len : CpA X (fun xs H Q => ∃ p ys, xs = [.ref p] ∧ (SqL X.K H p ys ∨ SqT X.K H p ys) ∧ Q (.int ys.length) H) rLen := by
  intro xs h Q vs as H QV rv hR hq k
  unfold rLen at hq
  split at hq
  · split at hq
    · rename_i ys e
      obtain ⟨v, rfl, r⟩ := relAll1 rv
      obtain ⟨a, us, rfl, s, ra⟩ := items_rel r hR e
      exact ⟨a, us, rfl, s, by rw [ra.length]; exact k.qd hR hq (.int _)⟩
    · exact hq.elim
  · exact hq.elim
def rMax2 : WR := fun xs h Q => match xs with
  | [.d (.int i), .d (.int j)] => Q (.d (.int (if j > i then j else i))) h
  | _ => False
def rMin2 : WR := fun xs h Q => match xs with
  | [.d (.int i), .d (.int j)] => Q (.d (.int (if j < i then j else i))) h
  | _ => False
/-- repr of data at any depth -/
def rReprV (K : Frag) : List V → Hp → VK → Prop := fun xs H Q => ∃ v d, xs = [v] ∧ Dp K H v d ∧ d.showable = true ∧ d.depth < 60 ∧ d.shown.length ≤ sizeLine ∧ Q (.str d.shown) H
theorem call_reprD (hg : X.A.guards = some []) (hu : X.A.units + 64 < cLine) : CallR X (.builtin "repr") (rReprV X.K) := by
  intro pins s σ H xs us Q I r h
  obtain ⟨v, d, rfl, hd, hs, hdep, hz, q⟩ := h
  obtain ⟨u, rfl, ru⟩ := vals1 r
  have fin : ∀ tk t, EP X pins σ Q (.str d.shown t) { s with toks := tk } := fun tk t => ⟨.str d.shown, H, I.tok _, ⟨_, rfl⟩, q⟩
  cases hd with
  | non =>
    cases ru
    exact P.repr_of_none (by simp only [PyData.shown] at fin; exact fin _ _)
  | bl b =>
    cases ru
    exact P.repr_of_bool (by simp only [PyData.shown] at fin; cases b <;> exact fin _ _)
  | int i =>
    obtain ⟨t, rfl⟩ := ru
    simp only [PyData.showable, decide_eq_true_eq] at hs
    exact P.repr_of_int hs (by simp only [PyData.shown] at fin; exact fin _ _)
  | str x =>
    obtain ⟨t, rfl⟩ := ru
    simp only [PyData.shown] at hz
    exact P.repr_of_str (by simp only [PyData.shown] at fin; exact fin _ _) hz
  | lst h1 h2 =>
    have hd' : Dp X.K H _ _ := .lst h1 h2
    obtain ⟨as, rd⟩ := Dp.reads I _ _ u hd' ru
    cases ru
    refine repr_of_reads' rd hs (fun e => by rw [dp_noDict hd'] at e; cases e) hg (by omega) (fun _ _ e => e) (fun h' t tk kp => ?_) hz
    exact ⟨.str _, H, I.kept kp, ⟨_, rfl⟩, q⟩
  | tup h1 h2 =>
    have hd' : Dp X.K H _ _ := .tup h1 h2
    obtain ⟨as, rd⟩ := Dp.reads I _ _ u hd' ru
    cases ru
    refine repr_of_reads' rd hs (fun e => by rw [dp_noDict hd'] at e; cases e) hg (by omega) (fun _ _ e => e) (fun h' t tk kp => ?_) hz
    exact ⟨.str _, H, I.kept kp, ⟨_, rfl⟩, q⟩
def rRepr : WR := fun xs h Q => match xs with
  | [x] => match datum h x with
    | some p => p.showable = true ∧ p.depth < 60 ∧ p.shown.length ≤ sizeLine ∧ Q (.d (.str p.shown)) h
    | none => False
  | _ => False
theorem cp_repr : CpA X (rReprV X.K) rRepr := by
  intro xs h Q vs as H QV rv hR hq k
  unfold rRepr at hq
  split at hq
  · split at hq
    · rename_i p e
      obtain ⟨v, rfl, r⟩ := relAll1 rv
      exact ⟨v, p, rfl, datum_dp r hR e, hq.1, hq.2.1, hq.2.2.1, k.qd hR hq.2.2.2 (.str _)⟩
    · exact hq.elim
  · exact hq.elim
/-- sum of ints -/
def intsOf : List D → Option (List Int)
  | [] => some []
  | .d (.int i) :: xs => (intsOf xs).map (i :: ·)
  | _ :: _ => none
theorem intsOf_some : ∀ {xs : List D} {ns : List Int}, intsOf xs = some ns → xs = ns.map fun i => D.d (.int i)
  | [], ns, h => by simp [intsOf] at h; subst h; rfl
  | .d (.int i) :: xs, ns, h => by
    simp only [intsOf, Option.map_eq_some_iff] at h
    obtain ⟨q, h1, rfl⟩ := h
    rw [intsOf_some h1]; rfl
  | .d .none :: _, _, h => by simp [intsOf] at h
  | .d (.bool _) :: _, _, h => by simp [intsOf] at h
  | .d (.str _) :: _, _, h => by simp [intsOf] at h
  | .d (.list _) :: _, _, h => by simp [intsOf] at h
  | .d (.tuple _) :: _, _, h => by simp [intsOf] at h
  | .d (.dict _) :: _, _, h => by simp [intsOf] at h
  | .loc _ :: _, _, h => by simp [intsOf] at h
  | .tp _ :: _, _, h => by simp [intsOf] at h
  | .ob _ _ :: _, _, h => by simp [intsOf] at h
  | .pr _ _ :: _, _, h => by simp [intsOf] at h
theorem RelAll.ints {K : Frag} {as : List Addr} {H : Hp} : ∀ {ns : List Int} {vs : List V}, RelAll K as H vs (ns.map fun i => D.d (.int i)) → vs = ns.map V.int
  | [], _, h => by cases h; rfl
  | n :: ns, _, h => by
    cases h with
    | cons h1 h2 => rw [rel_int h1, RelAll.ints h2]; rfl
def rSum : WR := fun xs h Q => match xs with
  | [x] => match litems h x with
    | some ys => match intsOf ys with
      | some ns => Q (.d (.int ns.sum)) h
      | none => False
    | none => False
  | _ => False
theorem cp_sum : CpA X (L2.rSum X.K) rSum := by
  intro xs h Q vs as H QV rv hR hq k
  unfold rSum at hq
  split at hq
  · split at hq
    · split at hq
      · rename_i e _ ns en
        obtain ⟨v, rfl, r⟩ := relAll1 rv
        obtain ⟨a, us, rfl, s, ra⟩ := litems_rel r hR e
        rw [intsOf_some en] at ra
        rw [ra.ints] at s
        exact ⟨a, ns, rfl, s, k.qd hR hq (.int _)⟩
      · exact hq.elim
    · exact hq.elim
  · exact hq.elim
variable {es : List Expr}
theorem SE.abs (hg : Gl X "abs") (hm : X.mg "abs" = none) (ha : SA X W [a] ga) (he : starEach [a] X.env = (false, eval a X.env) :: starEach [] X.env := by rfl) : SE X W (.Call (.Name "abs" p) [a] [] pos) (fCall rAbs ga) := .callB call_abs cp_abs hg hm (by decide +kernel) ha (he := he) (hpl := rfl)
theorem SE.int1 (hg : Gl X "int") (hm : X.mg "int" = none) (ha : SA X W [a] ga) (he : starEach [a] X.env = (false, eval a X.env) :: starEach [] X.env := by rfl) : SE X W (.Call (.Name "int" p) [a] [] pos) (fCall rInt1 ga) := .callTy call_int1 cp_int1 hg hm (by decide +kernel) ha (he := he) (hpl := rfl)
theorem SE.len (hg : Gl X "len") (hm : X.mg "len" = none) (ha : SA X W [a] ga) (he : starEach [a] X.env = (false, eval a X.env) :: starEach [] X.env := by rfl) : SE X W (.Call (.Name "len" p) [a] [] pos) (fCall rLen ga) := .callB call_len_seq cp_len hg hm (by decide +kernel) ha (he := he) (hpl := rfl)
theorem SE.repr (hgu : X.A.guards = some []) (hu : X.A.units + 64 < cLine) (hg : Gl X "repr") (hm : X.mg "repr" = none) (ha : SA X W [a] ga) (he : starEach [a] X.env = (false, eval a X.env) :: starEach [] X.env := by rfl) : SE X W (.Call (.Name "repr" p) [a] [] pos) (fCall rRepr ga) := .callB (call_reprD hgu hu) cp_repr hg hm (by decide +kernel) ha (he := he) (hpl := rfl)
theorem SE.sum (hg : Gl X "sum") (hm : X.mg "sum" = none) (hc : X.calm = true) (ha : SA X W [a] ga) (he : starEach [a] X.env = (false, eval a X.env) :: starEach [] X.env := by rfl) : SE X W (.Call (.Name "sum" p) [a] [] pos) (fCall rSum ga) := .callB (cr_sum hc) cp_sum hg hm (by decide +kernel) ha (he := he) (hpl := rfl)
theorem SE.gcd (hg : Gl X "gcd") (hm : X.mg "gcd" = some (.builtin "math.gcd")) (ha : SA X W (a :: es) ga) (he : starEach (a :: es) X.env = (false, eval a X.env) :: starEach es X.env := by rfl) (hpl : (backTo pos (starEach es X.env)).any (·.1) = false := by rfl) : SE X W (.Call (.Name "gcd" p) (a :: es) [] pos) (fCall rGcd2 ga) := .callM cr_gcd cp_gcd hg hm ha (he := he) (hpl := hpl)
/-! ### methods that change a list of the store -/
variable {o : Expr} {fo : WE} {apos cpos : Pos}
/-- xs.append(e) -/
def fAppend (fo : WE) (ga : WA) : WE := fun ρ h Q E => fo ρ h (fun x h1 => match x with
  | .loc n => match h1[n]? with
    | some (.lst _) => ga ρ h1 (fun ys h2 => match ys, h2[n]? with
      | [y], some (.lst xs) => xs.length < sizeLine ∧ Q (.d .none) (h2.set n (.lst (xs ++ [y])))
      | _, _ => False) E
    | _ => False
  | _ => False) E
theorem KTo.write {as : List Addr} {H : Hp} {h : Ho} {Q : KD} {QV : VK} (k : KTo X as H Q QV) (r : HeapR X.K as H h) {n : Nat} {b : Addr} {vs : List V} {xs : List D} {y : D} {v : V} (hb : as[n]? = some b) (q : Q y (h.set n (.lst xs))) (rv : RelAll X.K as H vs xs)
    (ry : Rel X.K as H v y) : QV v (upd H b (.lst vs)) := by
  have l : Later as H as (upd H b (.lst vs)) := Later.write _ (List.mem_of_getElem? hb)
  exact k _ _ _ _ _ q l (r.write hb rv) (ry.later l)
theorem SE.append {e : Expr} (ho : SE X W o fo) (ha : SA X W [e] ga) (hbase : attributeBase o "append" X.env (eval o X.env) = eval o X.env := by rfl)
    (hfew : ((backTo cpos (starEach [e] X.env)).all (fun x => !x.1) && (backToKw cpos (keywordEach [] X.env)).all (fun x => x.1.isSome)
      && decide ([e].length + ([] : List Keyword).length + (if ([] : List Keyword).isEmpty then 0 else 1) < 30)) = true := by rfl)
    (hline : (apos.endLine == cpos.line) = true := by rfl) (hs : starEach [e] X.env = (false, eval e X.env) :: starEach [] X.env := by rfl) : SE X W (.Call (.Attribute o "append" apos) [e] [] cpos) (fAppend fo ga) := by
  obtain ⟨_, po, so⟩ := ho
  obtain ⟨_, pa, sa⟩ := ha
  refine ⟨_, pe_bm PySem.F.plainAttrs_list PySem.F.slot_list_append PySem.F.type_list_append mt_append po pa hbase hfew hline hs rfl, fun σ H as ρ h Q E QV eR hR hq k kx => ?_⟩
  refine so σ H as ρ h _ E _ eR hR hq (fun x h1 v as1 H1 hq1 l1 r1 rv => ?_) kx
  split at hq1
  · rename_i n
    split at hq1
    · rename_i xs0 e0
      cases rv with | loc hn =>
      obtain ⟨b, hb, vs0, o1, o2⟩ := r1.at e0
      rw [hn] at hb
      cases hb
      refine ⟨.inl ⟨rfl, _, SqL.of o1⟩, ?_⟩
      refine sa σ H1 as1 ρ h1 _ E _ (eR.later l1) r1 hq1 (fun ys h2 us as2 H2 hq2 l2 r2 rvs => ?_) (kx.later l1)
      split at hq2
      · rename_i y xs e2
        obtain ⟨u, rfl, ru⟩ := relAll1 rvs
        obtain ⟨b, hb, vs, o3, o4⟩ := r2.at e2
        rw [l2.at hn] at hb
        cases hb
        refine ⟨_, vs, u, rfl, rfl, o3, by rw [o4.length]; exact hq2.1, ?_⟩
        exact ((k.later l1).later l2).write r2 (l2.at hn) hq2.2 (o4.append (.cons ru .nil)) (.d .non)
      · exact hq2.elim
    · exact hq1.elim
  · exact hq1.elim
/-- xs.pop() -/
def fPop (fo : WE) : WE := fun ρ h Q E => fo ρ h (fun x h1 => match x with
  | .loc n => match h1[n]? with
    | some (.lst xs) => match xs[xs.length - 1]? with
      | some y => Q y (h1.set n (.lst xs.dropLast))
      | none => False
    | _ => False
  | _ => False) E
theorem SE.pop (ho : SE X W o fo) (hbase : attributeBase o "pop" X.env (eval o X.env) = eval o X.env := by rfl) (hline : (apos.endLine == cpos.line) = true := by rfl) : SE X W (.Call (.Attribute o "pop" apos) [] [] cpos) (fPop fo) := by
  obtain ⟨_, po, so⟩ := ho
  refine ⟨_, pe_bm0 PySem.F.plainAttrs_list PySem.F.slot_list_pop PySem.F.type_list_pop mt_pop po hbase hline, fun σ H as ρ h Q E QV eR hR hq k kx => ?_⟩
  refine so σ H as ρ h _ E _ eR hR hq (fun x h1 v as1 H1 hq1 l1 r1 rv => ?_) kx
  split at hq1
  · split at hq1
    · rename_i n _ xs e0
      split at hq1
      · rename_i _ y ey
        cases rv with | loc hn =>
        obtain ⟨b, hb, vs, o1, o2⟩ := r1.at e0
        rw [hn] at hb
        cases hb
        obtain ⟨u, eu, ru⟩ := o2.get ey
        exact ⟨.inl ⟨rfl, _, SqL.of o1⟩, _, vs, u, rfl, rfl, o1, by rw [o2.length]; exact eu, (k.later l1).write r1 hn hq1 o2.dropLast ru⟩
      · exact hq1.elim
    · exact hq1.elim
  · exact hq1.elim
end
end V2
set_option Elab.async false
set_option linter.all false
set_option maxRecDepth 100000
set_option maxHeartbeats 4000000
namespace V2
open PySem PySem.Spec PyProof.Rows L2
open PySem.W (Frag)
/-! ### what is walked -/
/-- the items, and what must stay so of the store while it is walked -/
abbrev WI := En → Ho → (List D → (Ho → Prop) → Ho → Prop) → XD → Prop
/-- the walk J of the items xs, from the state as1 H1 on, while st holds -/
def Walks (K : Frag) (as1 : List Addr) (H1 : Hp) (xs : List D) (st : Ho → Prop) (J : It) : Prop :=
  ∀ i as2 H2 h2, Later as1 H1 as2 H2 → HeapR K as2 H2 h2 → st h2 → (i < xs.length → J.go i H2) ∧ (i = xs.length → J.stop i H2) ∧
    ∀ v H3, J.yld i H2 v H3 → ∀ x, xs[i]? = some x → Later as2 H2 as2 H3 ∧ HeapR K as2 H3 h2 ∧ Rel K as2 H3 v x
def SI (X : Cx) (W : WX) (tg it : Expr) (f : WI) : Prop :=
  ∃ wi : TI, PI X tg it wi ∧ ∀ σ H as ρ h Q E (R : It → Hp → Prop), EnvR X.K as H ρ σ → HeapR X.K as H h → f ρ h Q E →
    (∀ xs st h1 as1 H1 (J : It), Q xs st h1 → st h1 → Later as H as1 H1 → HeapR X.K as1 H1 h1 → Walks X.K as1 H1 xs st J → R J H1) → XTo X W as H σ E → wi σ H R
section
variable {X : Cx} {W : WX} {tg a : Expr} {fa : WE} {ga : WA} {pos p : Pos}
/-- a list or a tuple, data or a place -/
def stay (x : D) (xs : List D) : Ho → Prop := fun h => match x with
  | .loc n => h[n]? = some (.lst xs)
  | _ => True
theorem stay_items {x : D} {xs : List D} {h : Ho} (e : items h x = some xs) : stay x xs h := by
  unfold stay
  split
  · rename_i n
    simp only [items] at e
    split at e
    · rename_i ys en
      cases e
      exact en
    · cases e
  · trivial
def iSeq (fa : WE) : WI := fun ρ h Q E => fa ρ h (fun x h1 => match items h1 x with
  | some xs => Q xs (stay x xs) h1
  | none => False) E
def tSeqI (K : Frag) (tl : TE) : TI := fun σ H R => tl σ H fun x H1 => ∃ b, x = .ref b ∧ (((∃ xs, SqL K H1 b xs) ∧ R (Itl K b) H1) ∨ ((∃ xs, SqT K H1 b xs) ∧ R (Itt K b) H1))
theorem pi_seqI {l : Expr} {tl : TE} (hl : PE X l tl) : PI X tg l (tSeqI X.K tl) := by
  refine ⟨fun pins s σ H R I hw => ?_⟩
  refine thn (hl.run pins s σ H _ I hw) fun v s1 ⟨x, H1, I1, r1, b, eb, q1⟩ => ?_
  subst eb
  cases r1
  rcases q1 with ⟨⟨xs, hq⟩, q⟩ | ⟨⟨xs, hq⟩, q⟩
  · obtain ⟨its, rv, pl, hz⟩ := I1.list hq
    exact wpAny_pyIter_list pl.isList (pi_one (tk := s1.toks) I1 _ (turn_list b _) ⟨_, Heap.get?_push_size _ rfl, rfl, rfl⟩ q)
  · obtain ⟨its, rv, pl, hz⟩ := I1.tuple hq
    exact wpAny_pyIter_tuple (show s1.heap.IsTuple b its.toArray from pl) (pi_one (tk := s1.toks) I1 _ (turn_tuple b _) ⟨_, Heap.get?_push_size _ rfl, rfl, rfl⟩ q)
/-- the vs of a D that has items, at a later state: the same place -/
theorem walks_list {K : Frag} {as1 : List Addr} {H1 : Hp} {h1 : Ho} {x : D} {xs : List D} {b : Addr} (r : Rel K as1 H1 (.ref b) x) (hR : HeapR K as1 H1 h1) (e : items h1 x = some xs) {vs : List V} (s : SqL K H1 b vs)
    (nt : ∀ ps, x ≠ .d (.tuple ps)) : Walks K as1 H1 xs (stay x xs) (Itl K b) := by
  have key : ∀ as2 H2 h2, Later as1 H1 as2 H2 → HeapR K as2 H2 h2 → stay x xs h2 → ∃ us, SqL K H2 b us ∧ RelAll K as2 H2 us xs := by
    intro as2 H2 h2 l r2 st
    cases r with
    | d r =>
      cases r with
      | lst sx ax =>
        simp only [items, Option.some.injEq] at e
        subst e
        exact ⟨_, (sx.later l).sq, (ax.later l).rel⟩
      | tup sx ax => exact absurd rfl (nt _)
    | tp _ _ _ _ => simp [items] at e
    | ob _ _ _ _ _ => simp [items] at e
    | pr _ _ _ => simp [items] at e
    | @loc _ n hb =>
      have st' : h2[n]? = some (O.lst xs) := st
      obtain ⟨c, hc, us, o1, o2⟩ := r2.at st'
      rw [l.at hb] at hc
      cases hc
      exact ⟨us, SqL.of o1, o2⟩
  intro i as2 H2 h2 l r2 st
  obtain ⟨us, q1, q2⟩ := key as2 H2 h2 l r2 st
  refine ⟨fun hi => ⟨us, us[i]'(by rw [q2.length]; exact hi), q1, List.getElem?_eq_getElem _⟩, fun hi => ⟨us, q1, by rw [q2.length]; exact Nat.le_of_eq hi.symm⟩, fun v H3 y z ez => ?_⟩
  obtain ⟨rfl, y⟩ := y
  obtain ⟨u, eu, ru⟩ := q2.get ez
  have := y us q1
  rw [eu] at this
  cases this
  exact ⟨Later.refl _ _, r2, ru⟩
theorem walks_tup {K : Frag} {as1 : List Addr} {H1 : Hp} {b : Addr} {vs : List V} {ps : List PyData} {st : Ho → Prop} (s : TupR K as1 H1 b vs) (al : DvAll K as1 H1 vs ps) : Walks K as1 H1 (ps.map D.d) st (Itt K b) := by
  intro i as2 H2 h2 l r2 _
  have q1 := (s.later l).sq
  have q2 := (al.later l).rel
  refine ⟨fun hi => ⟨vs, vs[i]'(by rw [q2.length]; exact hi), q1, List.getElem?_eq_getElem _⟩, fun hi => ⟨vs, q1, by rw [q2.length]; exact Nat.le_of_eq hi.symm⟩, fun v H3 y z ez => ?_⟩
  obtain ⟨rfl, y⟩ := y
  obtain ⟨u, eu, ru⟩ := q2.get ez
  have := y vs q1
  rw [eu] at this
  cases this
  exact ⟨Later.refl _ _, r2, ru⟩
theorem SI.seq (ha : SE X W a fa) : SI X W tg a (iSeq fa) := by
  obtain ⟨_, pa, sa⟩ := ha
  refine ⟨_, pi_seqI pa, fun σ H as ρ h Q E R eR hR hq k kx => ?_⟩
  refine sa σ H as ρ h _ E _ eR hR hq (fun x h1 v as1 H1 hq1 l1 r1 rv => ?_) kx
  split at hq1
  · rename_i xs e
    have st := stay_items e
    obtain ⟨b, vs, rfl, s, ra⟩ := items_rel rv r1 e
    refine ⟨b, rfl, ?_⟩
    by_cases nt : ∀ ps, x ≠ .d (.tuple ps)
    · have hl : ∃ us, SqL X.K H1 b us := by
        cases rv with
        | d r =>
          cases r with
          | lst sx ax => exact ⟨_, sx.sq⟩
          | tup sx ax => exact absurd rfl (nt _)
        | tp _ _ _ _ => simp [items] at e
        | ob _ _ _ _ _ => simp [items] at e
        | pr _ _ _ => simp [items] at e
        | loc hb =>
          simp only [items] at e
          split at e
          · rename_i ys en
            obtain ⟨c, hc, us, o1, o2⟩ := r1.at en
            rw [hb] at hc
            cases hc
            exact ⟨us, SqL.of o1⟩
          · cases e
      obtain ⟨us, hl⟩ := hl
      exact .inl ⟨⟨us, hl⟩, k xs _ h1 as1 H1 _ hq1 st l1 r1 (walks_list rv r1 e hl nt)⟩
    · have nt' : ∃ ps, x = .d (.tuple ps) := Classical.byContradiction fun z => nt fun ps e => z ⟨ps, e⟩
      obtain ⟨ps, rfl⟩ := nt'
      cases rv with | d r =>
      cases r with | tup sx ax =>
      simp only [items, Option.some.injEq] at e
      subst e
      exact .inr ⟨⟨_, sx.sq⟩, k _ _ h1 as1 H1 _ hq1 st l1 r1 (walks_tup sx ax)⟩
  · exact hq1.elim
/-- range(n), range(a, b) -/
def rangeD (lo : Int) (n : Nat) : List D := (List.range n).map fun i => D.d (.int (lo + (i : Nat)))
theorem walks_range {K : Frag} {as1 : List Addr} {H1 : Hp} {lo : Int} {n : Nat} {st : Ho → Prop} : Walks K as1 H1 (rangeD lo n) st (Itr lo n) := by
  intro i as2 H2 h2 l r2 _
  have hlen : (rangeD lo n).length = n := by simp [rangeD]
  refine ⟨fun hi => by rw [hlen] at hi; exact hi, fun hi => by rw [hlen] at hi; exact Nat.le_of_eq hi.symm, fun v H3 y z ez => ?_⟩
  obtain ⟨rfl, rfl⟩ := y
  refine ⟨Later.refl _ _, r2, ?_⟩
  unfold rangeD at ez
  rw [List.getElem?_map] at ez
  cases q : (List.range n)[i]? with
  | none => rw [q] at ez; cases ez
  | some j =>
    rw [q] at ez
    cases ez
    have : j = i := by
      obtain ⟨h1, h2⟩ := List.getElem?_eq_some_iff.mp q
      simpa using h2.symm
    subst this
    exact .d (.int _)
def iRange1 (ga : WA) : WI := fun ρ h Q E => ga ρ h (fun ys h1 => match ys with
  | [.d (.int j)] => -(2 ^ 62) ≤ j ∧ j < 2 ^ 62 ∧ Q (rangeD 0 j.toNat) (fun _ => True) h1
  | _ => False) E
def iRange2 (ga : WA) : WI := fun ρ h Q E => ga ρ h (fun ys h1 => match ys with
  | [.d (.int i), .d (.int j)] => (-(2 ^ 62) ≤ i ∧ i < 2 ^ 62 ∧ -(2 ^ 62) ≤ j ∧ j < 2 ^ 62) ∧ Q (rangeD i (j - i).toNat) (fun _ => True) h1
  | _ => False) E
theorem SI.range1 (hg : Gl X "range") (hm : X.mg "range" = none) (ha : SA X W [a] ga) (hs : starEach [a] X.env = [(false, eval a X.env)] := by rfl) : SI X W tg (.Call (.Name "range" p) [a] [] pos) (iRange1 ga) := by
  obtain ⟨_, pa, sa⟩ := ha
  refine ⟨_, pi_range1 hg hm pa hs, fun σ H as ρ h Q E R eR hR hq k kx => ?_⟩
  refine sa σ H as ρ h _ E _ eR hR hq (fun ys h1 vs as1 H1 hq1 l1 r1 rv => ?_) kx
  split at hq1
  · obtain ⟨v, rfl, r⟩ := relAll1 rv
    rw [rel_int r]
    exact ⟨_, rfl, hq1.1, hq1.2.1, k _ _ h1 as1 H1 _ hq1.2.2 trivial l1 r1 walks_range⟩
  · exact hq1.elim
theorem SI.range2 {b : Expr} (hg : Gl X "range") (hm : X.mg "range" = none) (ha : SA X W [a, b] ga) (hs : starEach [a, b] X.env = [(false, eval a X.env), (false, eval b X.env)] := by rfl) (hs2 : starEach [b] X.env = [(false, eval b X.env)] := by rfl) :
    SI X W tg (.Call (.Name "range" p) [a, b] [] pos) (iRange2 ga) := by
  obtain ⟨_, pa, sa⟩ := ha
  refine ⟨_, pi_range2 hg hm pa hs hs2, fun σ H as ρ h Q E R eR hR hq k kx => ?_⟩
  refine sa σ H as ρ h _ E _ eR hR hq (fun ys h1 vs as1 H1 hq1 l1 r1 rv => ?_) kx
  split at hq1
  · obtain ⟨v, w, rfl, r, r'⟩ := relAll2 rv
    rw [rel_int r, rel_int r']
    exact ⟨_, _, rfl, hq1.1, k _ _ h1 as1 H1 _ hq1.2 trivial l1 r1 walks_range⟩
  · exact hq1.elim
end
/-! ### targets: names and tuples of names -/
abbrev WG := D → Ho → En → Option En
def SG (X : Cx) (tg : Expr) (g : WG) (sl : List Nat) : Prop :=
  ∃ t, PG X tg t ∧ ∀ (v : V) x σ H as ρ h ρ' (Q : L2.St → Hp → Prop), EnvR X.K as H ρ σ → HeapR X.K as H h → Rel X.K as H v x → g x h ρ = some ρ' →
    (∀ σ', EnvR X.K as H ρ' σ' → (∀ vs : List Nat, (∀ i ∈ sl, i ∈ vs) → L2.wipe σ' vs = L2.wipe σ vs) → Q σ' H) → t v σ H Q
abbrev WGs := List D → Ho → En → Option En
def SGs (X : Cx) (tg : List Expr) (g : WGs) (sl : List Nat) : Prop :=
  ∃ t, PGs X tg t ∧ ∀ (v : List V) x σ H as ρ h ρ' (Q : L2.St → Hp → Prop), EnvR X.K as H ρ σ → HeapR X.K as H h → RelAll X.K as H v x → g x h ρ = some ρ' →
    (∀ σ', EnvR X.K as H ρ' σ' → (∀ vs : List Nat, (∀ i ∈ sl, i ∈ vs) → L2.wipe σ' vs = L2.wipe σ vs) → Q σ' H) → t v σ H Q
theorem wipe_set {σ : L2.St} {i : Nat} {o : Option V} : ∀ {vs : List Nat}, i ∈ vs → L2.wipe (σ.set i o) vs = L2.wipe σ vs
  | v :: vs, hm => by
    unfold L2.wipe
    by_cases hv : i ∈ vs
    · rw [wipe_set hv]
    · have e : v = i := by
        rcases List.mem_cons.mp hm with e | e
        · exact e.symm
        · exact absurd e hv
      subst e
      have key : ∀ (ws : List Nat), v ∉ ws → L2.wipe (σ.set v o) ws = (L2.wipe σ ws).set v o := by
        intro ws
        induction ws with
        | nil => intro _; rfl
        | cons w ws ih =>
          intro hn
          simp only [List.mem_cons, not_or] at hn
          unfold L2.wipe
          rw [ih hn.2, List.set_comm _ _ (fun e => hn.1 e)]
      rw [key vs hv, List.set_set]
def gNm (i : Nat) : WG := fun x _ ρ => some (ρ.set i (some x))
def gsNil : WGs := fun ps _ ρ => match ps with
  | [] => some ρ
  | _ => none
def gsCons (g : WG) (gs : WGs) : WGs := fun ps h ρ => match ps with
  | p :: ps => (g p h ρ).bind fun ρ' => gs ps h ρ'
  | [] => none
def gTp (n : Nat) (gs : WGs) : WG := fun x h ρ => match items h x with
  | some xs => if xs.length = n then gs xs h ρ else none
  | none => none
theorem pg_or {X : Cx} {e : Expr} {t u : TG} (h1 : PG X e t) (h2 : PG X e u) : PG X e (fun v σ H Q => t v σ H Q ∨ u v σ H Q) :=
  ⟨fun pins s σ H v w Q I r hw => hw.elim (fun a => h1.run pins s σ H v w Q I r a) fun a => h2.run pins s σ H v w Q I r a⟩
section
variable {X : Cx} {pos : Pos}
theorem SG.name (i : Nat) {x : Str} (hN : X.N.Nodup) (hi : X.N[i]? = some x) (hx : Loc X.env.scope x) (hf : X.fn x = true ∨ X.env.scope.names.lookup x = some .local := by first | exact .inl rfl | exact .inr rfl | assumption) : SG X (.Name x pos) (gNm i) [i] := by
  refine ⟨_, pg_name hN hi hx hf, fun v x σ H as ρ h ρ' Q eR hR r e k => ?_⟩
  simp only [gNm, Option.some.injEq] at e
  subst e
  exact k _ (eR.set i r) fun vs hv => wipe_set (hv i (by simp))
theorem SGs.nil : SGs X [] gsNil [] := by
  refine ⟨_, pgs_nil, fun v x σ H as ρ h ρ' Q eR hR r e k => ?_⟩
  unfold gsNil at e
  split at e
  · cases e
    cases r
    exact ⟨rfl, k _ eR fun _ _ => rfl⟩
  · cases e
theorem SGs.cons {e : Expr} {es : List Expr} {g : WG} {gs : WGs} {sl sls : List Nat} (h1 : SG X e g sl) (h2 : SGs X es gs sls)
    (hs : (assignEach (e :: es) X.env).map (·.2) = assign e X.env :: (assignEach es X.env).map (·.2) := by rfl) : SGs X (e :: es) (gsCons g gs) (sl ++ sls) := by
  obtain ⟨_, p1, s1⟩ := h1
  obtain ⟨_, p2, s2⟩ := h2
  refine ⟨_, pgs_cons p1 p2 hs, fun v x σ H as ρ h ρ' Q eR hR r e k => ?_⟩
  unfold gsCons at e
  split at e
  · rename_i p ps
    cases r with
    | cons r rs =>
      rw [Option.bind_eq_some_iff] at e
      obtain ⟨ρ1, e1, e2⟩ := e
      refine ⟨_, _, rfl, s1 _ _ σ H as ρ h ρ1 _ eR hR r e1 fun σ1 eR1 w1 => ?_⟩
      refine s2 _ _ σ1 H as ρ1 h ρ' Q eR1 hR rs e2 fun σ2 eR2 w2 => k _ eR2 fun vs hv => ?_
      rw [w2 vs fun i hi => hv i (List.mem_append_right _ hi), w1 vs fun i hi => hv i (List.mem_append_left _ hi)]
  · cases e
theorem SG.tup {es : List Expr} {k n : Nat} {gs : WGs} {sl : List Nat} (hc : X.calm = true) (h : SGs X es gs sl) (hn : (assignEach es X.env).length = n := by rfl) (hst : (assignEach es X.env).findIdx? (·.1) = none := by rfl) : SG X (.Tuple es k pos) (gTp n gs) sl := by
  obtain ⟨_, p, s⟩ := h
  refine ⟨_, pg_or (pg_tup hc p hn hst) (pg_unl hc p hn hst), fun v x σ H as ρ h ρ' Q eR hR r e k => ?_⟩
  unfold gTp at e
  split at e
  · rename_i xs ei
    split at e
    · rename_i hl
      obtain ⟨a, vs, rfl, sq, ra⟩ := items_rel r hR ei
      rcases sq with sq | sq
      · exact .inr ⟨_, _, rfl, sq, by rw [ra.length]; exact hl, s _ _ σ H as ρ h ρ' Q eR hR ra e k⟩
      · exact .inl ⟨_, _, rfl, sq, by rw [ra.length]; exact hl, s _ _ σ H as ρ h ρ' Q eR hR ra e k⟩
    · cases e
  · cases e
/-! ### statements -/
variable {W : WX} {a e c : Expr} {fa fe : WE} {t : WT} {st : Stmt} {rest body orelse : List Stmt} {f g : WS}
def sNext : WS := fun ρ h D => D.nx ρ h
def sSeq (f g : WS) : WS := fun ρ h D => f ρ h { D with nx := fun ρ1 h1 => g ρ1 h1 D }
theorem SB.nil : SB X W [] sNext := ⟨_, pss_nil, fun σ H as ρ h D D' eR hR hq k => k.nx _ _ _ _ _ hq (Later.refl _ _) hR eR⟩
theorem SB.one (h : SS X W st f) : SB X W [st] f := let ⟨_, p, s⟩ := h; ⟨_, pss_one p, s⟩
theorem SB.cons (h : SS X W st f) (h2 : SB X W rest g) : SB X W (st :: rest) (sSeq f g) := by
  obtain ⟨_, p, s⟩ := h
  obtain ⟨_, p2, s2⟩ := h2
  refine ⟨_, pss_cons p p2, fun σ H as ρ h D D' eR hR hq k => ?_⟩
  refine s σ H as ρ h _ _ eR hR hq ⟨fun ρ1 h1 σ1 as1 H1 q l r eR1 => ?_, fun ρ1 h1 σ1 as1 H1 q l r eR1 => k.bk _ _ _ _ _ q l r eR1, fun ρ1 h1 σ1 as1 H1 q l r eR1 => k.ct _ _ _ _ _ q l r eR1, fun y h1 v as1 H1 q l r rv => k.rt _ _ _ _ _ q l r rv,
    fun x ρ1 h1 cls dd σ1 as1 H1 q l r eR1 xr => k.ex _ _ _ _ _ _ _ _ q l r eR1 xr⟩
  exact s2 σ1 H1 as1 ρ1 h1 D D' eR1 r q (k.later l)
def exOf (D : Nx) (ρ : En) : XD := fun x h => D.ex x ρ h
theorem STo.x {as : List Addr} {H : Hp} {D : Nx} {D' : Ends} (k : STo X W as H D D') {ρ : En} {σ : L2.St} (eR : EnvR X.K as H ρ σ) : XTo X W as H σ (exOf D ρ) :=
  fun x h' cls dd as1 H1 q l r xr => k.ex x ρ h' cls dd σ as1 H1 q l r (eR.later l) xr
/-- target = e -/
def sAsg (fe : WE) (g : WG) : WS := fun ρ h D => fe ρ h (fun x h1 => match g x h1 ρ with
  | some ρ1 => D.nx ρ1 h1
  | none => False) (exOf D ρ)
theorem sp_asg {te : TE} {tg : TG} {g : WG} {sl : List Nat} (se : SpE X W te fe)
    (sg : ∀ (v : V) x σ H as ρ h ρ' (Q : L2.St → Hp → Prop), EnvR X.K as H ρ σ → HeapR X.K as H h → Rel X.K as H v x → g x h ρ = some ρ' → (∀ σ', EnvR X.K as H ρ' σ' → (∀ vs : List Nat, (∀ i ∈ sl, i ∈ vs) → L2.wipe σ' vs = L2.wipe σ vs) → Q σ' H) → tg v σ H Q) :
    SpS X W (tAsg te tg) (sAsg fe g) := by
  intro σ H as ρ h D D' eR hR hq k
  refine se σ H as ρ h _ _ _ eR hR hq (fun x h1 v as1 H1 hq1 l1 r1 rv => ?_) (k.x eR)
  split at hq1
  · rename_i ρ1 e1
    exact sg v x σ H1 as1 ρ h1 ρ1 _ (eR.later l1) r1 rv e1 fun σ' eR' _ => k.nx _ _ _ _ _ hq1 l1 r1 eR'
  · exact hq1.elim
theorem SS.set (i : Nat) {x : Str} {pos' : Pos} (hN : X.N.Nodup) (hi : X.N[i]? = some x) (hx : Loc X.env.scope x) (he : SE X W e fe) (hs : swapsWith e (some (.Name x pos')) pos.line X.env = pure false := by rfl) (hf : X.fn x = true ∨ X.env.scope.names.lookup x = some .local := by first | exact .inl rfl | exact .inr rfl | assumption) :
    SS X W (.Assign [.Name x pos'] e pos) (sAsg fe (gNm i)) := by
  obtain ⟨_, p, s⟩ := he
  refine ⟨_, ps_set hN hi hx p hs hf, sp_asg (sl := [i]) s fun v x σ H as ρ h ρ' Q eR hR r e k => ?_⟩
  simp only [gNm, Option.some.injEq] at e
  subst e
  exact k _ (eR.set i r) fun vs hv => wipe_set (hv i (by simp))
theorem SS.asg {tg : Expr} {g : WG} {sl : List Nat} (he : SE X W e fe) (hg : SG X tg g sl) (hs : swapsWithSole [tg] e pos.line X.env = pure false := by rfl) (hw : swappedStores [tg] e X.env = pure none := by rfl)
    (h1 : (assignEach [tg] X.env).map (·.2) = [assign tg X.env] := by rfl) : SS X W (.Assign [tg] e pos) (sAsg fe g) := by
  obtain ⟨_, p, s⟩ := he
  obtain ⟨_, p2, s2⟩ := hg
  exact ⟨_, ps_asg p p2 hs hw h1, sp_asg s s2⟩
/-- a, b = x, y (local names) -/
def sPar (i j : Nat) (ga : WA) : WS := fun ρ h D => ga ρ h (fun xs h1 => match xs with
  | [x, y] => D.nx ((ρ.set i (some x)).set j (some y)) h1
  | _ => False) (exOf D ρ)
theorem SS.par (i j : Nat) {x y : Str} {b : Expr} {ga : WA} {px py pt : Pos} {kt k2 pt2} (hc : X.calm = true) (hN : X.N.Nodup) (hi : X.N[i]? = some x) (hj : X.N[j]? = some y) (hij : i ≠ j)
    (hx : X.env.scope.names.lookup x = some .local) (hy : X.env.scope.names.lookup y = some .local) (ha : SA X W [a, b] ga)
    (hw : swappedStores [.Tuple [.Name x px, .Name y py] kt pt] (.Tuple [a, b] k2 pt2) X.env = pure (some [x, y]))
    (hs : swapsWithSole [.Tuple [.Name x px, .Name y py] kt pt] (.Tuple [a, b] k2 pt2) pos.line X.env = pure false := by rfl) :
    SS X W (.Assign [.Tuple [.Name x px, .Name y py] kt pt] (.Tuple [a, b] k2 pt2) pos) (sPar i j ga) := by
  obtain ⟨_, p, s⟩ := ha
  refine ⟨_, ps_par hc hN hi hj hij hx hy p hw hs, fun σ H as ρ h D D' eR hR hq k => ?_⟩
  refine s σ H as ρ h _ _ _ eR hR hq (fun xs h1 vs as1 H1 hq1 l1 r1 rv => ?_) (k.x eR)
  split at hq1
  · obtain ⟨v, w, rfl, r, r'⟩ := relAll2 rv
    exact ⟨v, w, rfl, k.nx _ _ _ _ _ hq1 l1 r1 (((eR.later l1).set i r).set j r')⟩
  · exact hq1.elim
def sPar3 (i j l : Nat) (ga : WA) : WS := fun ρ h D => ga ρ h (fun xs h1 => match xs with
  | [x, y, z] => D.nx (((ρ.set i (some x)).set j (some y)).set l (some z)) h1
  | _ => False) (exOf D ρ)
/-- o[i] = e, o a list of the store -/
def sSub (fe fo fi : WE) : WS := fun ρ h D => fe ρ h (fun y h1 => fo ρ h1 (fun x h2 => fi ρ h2 (fun z h3 => match x, z with
  | .loc n, .d (.int k) => match h3[n]? with
    | some (.lst xs) => match ixN xs.length k with
      | some j => D.nx ρ (h3.set n (.lst (xs.set j y)))
      | none => False
    | _ => False
  | _, _ => False) (exOf D ρ)) (exOf D ρ)) (exOf D ρ)
theorem STo.kx {as : List Addr} {H : Hp} {D : Nx} {D' : Ends} (k : STo X W as H D D') {ρ : En} {σ : L2.St} (eR : EnvR X.K as H ρ σ) {as1 : List Addr} {H1 : Hp} (l : Later as H as1 H1) : XTo X W as1 H1 σ (exOf D ρ) := (k.later l).x (eR.later l)
theorem SS.sub {o i : Expr} {fo fi : WE} {pos' : Pos} (he : SE X W e fe) (ho : SE X W o fo) (hi : SE X W i fi)
    (ha : ∀ v, assign (.Subscript o i pos') X.env v = (do
      let ov ← holding [v] (eval o X.env)
      let iv ← holding [v, ov] (eval i X.env)
      standAt pos'
      holding [v, ov, iv] (setItem ov iv v)
      release [v, ov, iv] []) := by intro _; rfl) (hs : swapsWithSole [.Subscript o i pos'] e pos.line X.env = pure false := by rfl) (hw : swappedStores [.Subscript o i pos'] e X.env = pure none := by rfl)
    (h1 : (assignEach [.Subscript o i pos'] X.env).map (·.2) = [assign (.Subscript o i pos') X.env] := by rfl) : SS X W (.Assign [.Subscript o i pos'] e pos) (sSub fe fo fi) := by
  obtain ⟨_, pe, se⟩ := he
  obtain ⟨_, po, so⟩ := ho
  obtain ⟨_, pi, si⟩ := hi
  refine ⟨_, ps_asg pe (pg_sub po pi set_list ha) hs hw h1, fun σ H as ρ h D D' eR hR hq k => ?_⟩
  refine se σ H as ρ h _ _ _ eR hR hq (fun y h1 v as1 H1 hq1 l1 r1 rv => ?_) (k.x eR)
  refine so σ H1 as1 ρ h1 _ _ _ (eR.later l1) r1 hq1 (fun x h2 u as2 H2 hq2 l2 r2 ru => ?_) (k.kx eR l1)
  have l12 := l1.trans l2
  refine si σ H2 as2 ρ h2 _ _ _ (eR.later l12) r2 hq2 (fun z h3 w as3 H3 hq3 l3 r3 rw' => ?_) (k.kx eR l12)
  have l13 := l12.trans l3
  split at hq3
  · rename_i n kk
    split at hq3
    · rename_i xs en
      split at hq3
      · rename_i j ej
        have ru3 := ru.later l3
        cases ru3 with | loc hb =>
        rw [rel_int rw']
        obtain ⟨b, hb', vs, o1, o2⟩ := r3.at en
        rw [hb] at hb'
        cases hb'
        have rv3 := (rv.later l2).later l3
        refine ⟨_, vs, kk, j, rfl, rfl, o1, by rw [o2.length]; exact ej, ?_⟩
        have lw : Later as3 H3 as3 (upd H3 _ (.lst (vs.set j v))) := Later.write _ (List.mem_of_getElem? hb)
        exact k.nx _ _ _ _ _ hq3 (l13.trans lw) (r3.write hb (o2.set j rv3)) (eR.later (l13.trans lw))
      · exact hq3.elim
    · exact hq3.elim
  · exact hq3.elim
def sDrop (fe : WE) : WS := fun ρ h D => fe ρ h (fun _ h1 => D.nx ρ h1) (exOf D ρ)
theorem SS.expr (he : SE X W e fe) (hs : swapsWith e none pos.line X.env = pure false := by rfl) : SS X W (.Expr e pos) (sDrop fe) := by
  obtain ⟨_, p, s⟩ := he
  refine ⟨_, ps_expr p hs, fun σ H as ρ h D D' eR hR hq k => ?_⟩
  exact s σ H as ρ h _ _ _ eR hR hq (fun y h1 w as1 H1 hq1 l1 r1 rw' => k.nx _ _ _ _ _ hq1 l1 r1 (eR.later l1)) (k.x eR)
def sRet (fe : WE) : WS := fun ρ h D => fe ρ h D.rt (exOf D ρ)
theorem SS.ret (he : SE X W e fe) : SS X W (.Return (some e) pos) (sRet fe) := by
  obtain ⟨_, p, s⟩ := he
  refine ⟨_, ps_ret p, fun σ H as ρ h D D' eR hR hq k => ?_⟩
  exact s σ H as ρ h _ _ _ eR hR hq (fun y h1 w as1 H1 hq1 l1 r1 rw' => k.rt _ _ _ _ _ hq1 l1 r1 rw') (k.x eR)
theorem SS.pass : SS X W (.Pass pos) sNext := ⟨_, ps_pass, fun σ H as ρ h D D' eR hR hq k => k.nx _ _ _ _ _ hq (Later.refl _ _) hR eR⟩
def sBrk : WS := fun ρ h D => D.bk ρ h
theorem SS.brk : SS X W (.Break pos) sBrk := ⟨_, ps_break, fun σ H as ρ h D D' eR hR hq k => k.bk _ _ _ _ _ hq (Later.refl _ _) hR eR⟩
def sIf (t : WT) (f g : WS) : WS := fun ρ h D => t ρ h (fun b h1 => if b = true then f ρ h1 D else g ρ h1 D) (exOf D ρ)
theorem SS.ifS (hc : ST X W c t) (hb : SB X W body f) (ho : SB X W orelse g) : SS X W (.If c body orelse pos) (sIf t f g) := by
  obtain ⟨_, pc, sc⟩ := hc
  obtain ⟨_, pb, sb⟩ := hb
  obtain ⟨_, po, so⟩ := ho
  refine ⟨_, ps_if pc pb po, fun σ H as ρ h D D' eR hR hq k => ?_⟩
  refine sc σ H as ρ h _ _ _ eR hR hq (fun b h1 as1 H1 hq1 l1 r1 => ?_) (k.x eR)
  cases b with
  | true => exact iteT (sb σ H1 as1 ρ h1 D D' (eR.later l1) r1 hq1 (k.later l1))
  | false => exact iteF (so σ H1 as1 ρ h1 D D' (eR.later l1) r1 hq1 (k.later l1))
/-- while -/
def sWhile (t : WT) (f : WS) : WS := fun ρ h D => ∃ I : Nat → En → Ho → Prop, (∃ m, I m ρ h) ∧ ∀ m ρ h, I m ρ h → t ρ h (fun b h1 => if b = true then
    f ρ h1 { D with nx := fun ρ' h' => ∃ m', m' < m ∧ I m' ρ' h', ct := fun ρ' h' => ∃ m', m' < m ∧ I m' ρ' h', bk := D.nx } else D.nx ρ h1) (exOf D ρ)
theorem SS.whileS (hp : PassesOwn (model X.prog X.w) X.A X.env X.xe) (hc : ST X W c t) (hb : SB X W body f) : SS X W (.While c body [] pos) (sWhile t f) := by
  obtain ⟨_, pc, sc⟩ := hc
  obtain ⟨_, pb, sb⟩ := hb
  refine ⟨_, ps_while hp pc pb, fun σ H as ρ h D D' eR hR hq k => ?_⟩
  obtain ⟨I, ⟨m0, i0⟩, turn⟩ := hq
  refine ⟨fun m σ' H' => ∃ as' ρ' h', Later as H as' H' ∧ HeapR X.K as' H' h' ∧ EnvR X.K as' H' ρ' σ' ∧ I m ρ' h', ⟨m0, as, ρ, h, Later.refl _ _, hR, eR, i0⟩, ?_⟩
  rintro m σ1 H1 ⟨as1, ρ1, h1, l1, r1, eR1, i1⟩
  refine sc σ1 H1 as1 ρ1 h1 _ _ _ eR1 r1 (turn m ρ1 h1 i1) (fun b h2 as2 H2 hq2 l2 r2 => ?_) ((k.later l1).x eR1)
  have l12 := l1.trans l2
  cases b with
  | true =>
    refine iteT ⟨fun σ' H' => ∃ m', m' < m ∧ ∃ as' ρ' h', Later as H as' H' ∧ HeapR X.K as' H' h' ∧ EnvR X.K as' H' ρ' σ' ∧ I m' ρ' h', fun _ _ z => z, ?_⟩
    refine sb σ1 H2 as2 ρ1 h2 _ _ (eR1.later l2) r2 hq2 ⟨?_, ?_, ?_, ?_, ?_⟩
    · rintro ρ3 h3 σ3 as3 H3 ⟨m', hm, i3⟩ l3 r3 eR3
      exact ⟨m', hm, as3, ρ3, h3, l12.trans l3, r3, eR3, i3⟩
    · intro ρ3 h3 σ3 as3 H3 q l3 r3 eR3
      exact k.nx _ _ _ _ _ q (l12.trans l3) r3 eR3
    · rintro ρ3 h3 σ3 as3 H3 ⟨m', hm, i3⟩ l3 r3 eR3
      exact ⟨m', hm, as3, ρ3, h3, l12.trans l3, r3, eR3, i3⟩
    · intro y h3 v as3 H3 q l3 r3 rv
      exact k.rt _ _ _ _ _ q (l12.trans l3) r3 rv
    · intro x ρ3 h3 cls dd σ3 as3 H3 q l3 r3 eR3 xr
      exact k.ex _ _ _ _ _ _ _ _ q (l12.trans l3) r3 eR3 xr
  | false => exact iteF (k.nx _ _ _ _ _ hq2 l12 r2 (eR1.later l2))
/-- for -/
def forGo (g : WG) (f : WS) (N : Nx) (st : Ho → Prop) : List D → En → Ho → Prop
  | [], ρ, h => N.nx ρ h
  | x :: xs, ρ, h => match g x h ρ with
    | some ρ1 => f ρ1 h { N with nx := fun ρ2 h2 => st h2 ∧ forGo g f N st xs ρ2 h2, ct := fun ρ2 h2 => st h2 ∧ forGo g f N st xs ρ2 h2, bk := N.nx }
    | none => False
def sFor (wi : WI) (g : WG) (f : WS) : WS := fun ρ h D => wi ρ h (fun xs st h1 => forGo g f D st xs ρ h1) (exOf D ρ)
theorem SS.forS {tg it : Expr} {wi : WI} {g : WG} {sl : List Nat} (hp : PassesOwn (model X.prog X.w) X.A X.env X.xe) (hc : X.calm = true) (hi : SI X W tg it wi) (hg : SG X tg g sl) (hb : SB X W body f)
    (hs : ∀ x, foldedSetIterable it X.env x = pure x := by intro _; rfl) : SS X W (.For tg it body [] pos) (sFor wi g f) := by
  obtain ⟨_, pi, si⟩ := hi
  obtain ⟨_, pg, sg⟩ := hg
  obtain ⟨_, pb, sb⟩ := hb
  refine ⟨_, ps_for hp hc pi pg pb hs, fun σ H as ρ h D D' eR hR hq k => ?_⟩
  refine si σ H as ρ h _ _ _ eR hR hq (fun xs st h1 as1 H1 J hq1 st1 l1 r1 wk => ?_) (k.x eR)
  refine ⟨fun i m σ' H' => m = xs.length - i ∧ i ≤ xs.length ∧ ∃ as' ρ' h', Later as1 H1 as' H' ∧ HeapR X.K as' H' h' ∧ EnvR X.K as' H' ρ' σ' ∧ st h' ∧ forGo g f D st (xs.drop i) ρ' h',
    ⟨xs.length, by simp, Nat.zero_le _, as1, ρ, h1, Later.refl _ _, r1, eR.later l1, st1, hq1⟩, ?_⟩
  rintro i m σ2 H2 ⟨rfl, hi, as2, ρ2, h2, l2, r2, eR2, st2, fg⟩
  obtain ⟨w1, w2, w3⟩ := wk i as2 H2 h2 l2 r2 st2
  have l12 := l1.trans l2
  by_cases hlt : i < xs.length
  · refine .inr ⟨w1 hlt, fun σ' H' => i + 1 ≤ xs.length ∧ ∃ as' ρ' h', Later as1 H1 as' H' ∧ HeapR X.K as' H' h' ∧ EnvR X.K as' H' ρ' σ' ∧ st h' ∧ forGo g f D st (xs.drop (i + 1)) ρ' h',
      fun σ' H' z => ⟨xs.length - (i + 1), by omega, rfl, z.1, z.2⟩, fun v H3 y => ?_⟩
    obtain ⟨l3, r3, rv⟩ := w3 v H3 y xs[i] (List.getElem?_eq_getElem hlt)
    rw [List.drop_eq_getElem_cons hlt] at fg
    unfold forGo at fg
    split at fg
    · rename_i ρ3 e3
      have l23 := l2.trans l3
      have l13 := l12.trans l3
      refine sg v _ σ2 H3 as2 ρ2 h2 ρ3 _ (eR2.later l3) r3 rv e3 fun σ3 eR3 _ => ?_
      refine sb σ3 H3 as2 ρ3 h2 _ _ eR3 r3 fg ⟨?_, ?_, ?_, ?_, ?_⟩
      · rintro ρ4 h4 σ4 as4 H4 ⟨q1, q2⟩ l4 r4 eR4
        exact ⟨hlt, as4, ρ4, h4, l23.trans l4, r4, eR4, q1, q2⟩
      · intro ρ4 h4 σ4 as4 H4 q l4 r4 eR4
        exact k.nx _ _ _ _ _ q (l13.trans l4) r4 eR4
      · rintro ρ4 h4 σ4 as4 H4 ⟨q1, q2⟩ l4 r4 eR4
        exact ⟨hlt, as4, ρ4, h4, l23.trans l4, r4, eR4, q1, q2⟩
      · intro y h4 v as4 H4 q l4 r4 rv
        exact k.rt _ _ _ _ _ q (l13.trans l4) r4 rv
      · intro x ρ4 h4 cls dd σ4 as4 H4 q l4 r4 eR4 xr
        exact k.ex _ _ _ _ _ _ _ _ q (l13.trans l4) r4 eR4 xr
    · exact fg.elim
  · have e : i = xs.length := by omega
    subst e
    rw [List.drop_length] at fg
    unfold forGo at fg
    exact .inl ⟨w2 rfl, k.nx _ _ _ _ _ fg l12 r2 eR2⟩
end
end V2
set_option Elab.async false
set_option linter.all false
set_option maxRecDepth 100000
set_option maxHeartbeats 4000000
namespace V2
open PySem PySem.Spec PyProof.Rows L2
open PySem.W (Frag)
/-! ### defs and their calls -/
abbrev WF := List D → Ho → KD → XD → Prop
/-- the promise over data -/
def spD (K : Frag) (mg : Str → Option Value) (m : Nat) (F : WF) : Sp := fun vs H Q E => ∃ as xs h Q0 E0, vs.length = m ∧ RelAll K as H vs xs ∧ HeapR K as H h ∧ F xs h Q0 E0 ∧
  (∀ y h' v as1 H1, Q0 y h' → Later as H as1 H1 → HeapR K as1 H1 h' → Rel K as1 H1 v y → Q v H1) ∧
  (∀ x h' cls dd as1 H1, E0 x h' → Later as H as1 H1 → HeapR K as1 H1 h' → ExR K mg as1 H1 cls dd x → E cls dd H1)
structure FnG (P : Program) (w : World) (K : Frag) (mg : Str → Option Value) (base : Heap) (k : Nat) (f : Addr) (fd : FuncData) (ps : List Str) (F : WF) : Prop where
  run : ∀ (A : Around) (outer : List Env) (s : Shared) (H : Hp) (args : Args) (us : List Value) (vs : List V) (Q : VK) (E : XK), Room k A → A.guards = some [] → Env0 P w K mg base A outer s H → BindsTo s fd args (ps.zip us) → Vals vs us →
    spD K mg ps.length F vs H Q E → codeAny (model P w) A (.call (.ref f) args) (CR (L2.CX P w) outer P w H s Q E) s
theorem FnG.mono {P : Program} {w : World} {K : Frag} {mg : Str → Option Value} {base : Heap} {j k : Nat} {f : Addr} {fd : FuncData} {ps : List Str} {F : WF} (g : FnG P w K mg base j f fd ps F) (h : j ≤ k) : FnG P w K mg base k f fd ps F :=
  ⟨fun A outer s H args us vs Q E hr => g.run A outer s H args us vs Q E (hr.mono h)⟩
/-- another reading that asks more -/
theorem FnG.imp {P : Program} {w : World} {K : Frag} {mg : Str → Option Value} {base : Heap} {k : Nat} {f : Addr} {fd : FuncData} {ps : List Str} {F G : WF} (g : FnG P w K mg base k f fd ps F) (h : ∀ xs ho Q E, G xs ho Q E → F xs ho Q E) : FnG P w K mg base k f fd ps G :=
  ⟨fun A outer s H args us vs Q E hr hg e0 hb hv ⟨as, xs, ho, Q0, E0, h1, h2, h3, h4, h5, h6⟩ => g.run A outer s H args us vs Q E hr hg e0 hb hv ⟨as, xs, ho, Q0, E0, h1, h2, h3, h _ _ _ _ h4, h5, h6⟩⟩
def bodyN (rt : KD) (E : XD) : Nx := { nx := fun _ h => rt (.d .none) h, rt := rt, bk := fun _ _ => False, ct := fun _ _ => False, ex := fun x _ h => E x h }
/-- a def of n names, m of them parameters -/
def mir (n m : Nat) (f : WS) : WF := fun xs h Q E => xs.length = m ∧ f (xs.map some ++ List.replicate (n - m) none) h (bodyN Q E)
theorem env_start {K : Frag} {as : List Addr} {H : Hp} {N : List Str} {vs : List V} {xs : List D} (r : RelAll K as H vs xs) : EnvR K as H (xs.map some ++ List.replicate (N.length - xs.length) none) (L2.start N vs) := by
  unfold L2.start
  refine ⟨by simp [r.length], fun i x e => ?_⟩
  have hl := r.length
  by_cases hi : i < xs.length
  · rw [List.getElem?_append_left (by simpa using hi), List.getElem?_map] at e
    cases q : xs[i]? with
    | none => rw [q] at e; cases e
    | some y =>
      rw [q] at e
      cases e
      obtain ⟨v, e1, e2⟩ := r.get q
      exact ⟨v, by rw [List.getElem?_append_left (by simpa [hl] using hi), List.getElem?_map, e1]; rfl, e2⟩
  · rw [List.getElem?_append_right (by simpa using hi), List.getElem?_replicate] at e
    split at e <;> cases e
section
variable {P : Program} {w : World} {K : Frag} {mg : Str → Option Value} {base : Heap}
theorem fnG_of {x qual : Str} {st : Stmt} {f : Addr} {fd : FuncData} {N ps : List Str} {k : Nat} {fb : WS} (F : Fun K x qual st f fd) (S : FnScope N ps (defScope st))
    (hb : ∀ (cdv : Value) (A : Around) (outer : List Env) (s : Shared) (H : Hp) (E : XK), Room k (A.deeper (envOfC qual (defScope st) s.heap.objs.size f cdv)) → A.guards = some [] →
      SB (cxOf (L2.CX P w) P w K mg base N qual (defScope st) f cdv A outer s H E) (fun cls d _ H => E cls d H) (defBody st) fb) :
    FnG P w K mg base (k + 1) f fd ps (mir N.length ps.length fb) := by
  obtain ⟨oc, od, kV, doc, pm, an, cdv, ct, osl, rfl, lk, hcd⟩ := F.ex
  refine ⟨fun A outer s H args us vs Q E hr hgu e0 hbind rv hsp => ?_⟩
  obtain ⟨as, xs, ho, Q0, E0, hm, rel, hp, ⟨hxl, hf⟩, kq, kx⟩ := hsp
  have hpar : ∀ y ∈ ps.zip us, (defScope st).names.lookup y.1 = some .local ∨ ((defScope st).names.lookup y.1 = some .cell ∧ ((cellsFrom (s.heap.objs.size + 1) (defScope st).names []).lookup y.1).isSome = true) := by
    intro y hy
    rcases S.par y.1 (List.of_mem_zip hy).1 with q | q
    · exact .inl q
    · exact .inr ⟨q, PySem.W.cellsFrom_some _ _ _ (.inl q)⟩
  have inK := e0.mod.kin.keeps (fun b o e => (e0.bs b o e).1)
  refine codeAny_call_function hr.depth (inK _ _ lk) rfl S.co S.gen rfl (PySem.W.codeRec_of inK hcd) (hbind _ _ _ _ ?_)
  refine wpAny_newFunctionEnv_cells S.kind hpar fun env eenv s1 ic => ?_
  subst eenv
  refine ⟨(e0.mod.nolimit.keeps fun b o e => (e0.bs b o e).1).keeps ic.toInCall.keep, codeAny_func ?_⟩
  obtain ⟨t, pt, spt⟩ := hb cdv A outer s H E (hr.deeper _) hgu
  have J : Inv (cxOf (L2.CX P w) P w K mg base N qual (defScope st) f cdv A outer s H E) [] (L2.start N vs) H s1 := inv_start S hr.hd e0 hm rv ic
  have en := env_start (N := N) rel
  rw [hxl] at en
  refine wpAny_mono (pt.run [] s1 _ H { nx := fun _ H' => Q .non H', rt := Q } J (spt _ H as _ ho _ _ en hp hf ⟨?_, ?_, ?_, ?_, ?_⟩)) (fun fl s' hs => ?_) fun e s' hs => hs
  · intro ρ h' σ as1 H1 q l r _
    exact kq _ _ _ _ _ q l r (.d .non)
  · exact fun _ _ _ _ _ q _ _ _ => q.elim
  · exact fun _ _ _ _ _ q _ _ _ => q.elim
  · exact fun y h' v as1 H1 q l r rr => kq _ _ _ _ _ q l r rr
  · exact fun x ρ h' cls dd σ as1 H1 q l r _ xr => kx _ _ _ _ _ _ q l r xr
  · cases fl with
    | ret u =>
      obtain ⟨v, σ', H', J', rv', q⟩ := hs
      exact ⟨v, H', J'.os, J'.bare, J'.base, J'.hok, rv', q⟩
    | next =>
      obtain ⟨σ', H', J', q⟩ := hs
      exact ⟨.non, H', J'.os, J'.bare, J'.base, J'.hok, rfl, q⟩
    | brk =>
      obtain ⟨_, _, _, q⟩ := hs
      exact False.elim q
    | cont =>
      obtain ⟨_, _, _, q⟩ := hs
      exact False.elim q
end
def fFn (F : WF) (ga : WA) : WE := fun ρ h Q E => ga ρ h (fun xs h1 => F xs h1 Q E) E
section
variable {X : Cx} {W : WX} {k : Nat} {f : Addr} {fd : FuncData} {ps : List Str} {F : WF} {x : Str} {p pos : Pos} {e : Expr} {es : List Expr} {ga : WA}
theorem run_fnG {pins : List (Addr × Obj)} {σ : L2.St} {H : Hp} {s : Shared} {Q : VK} {args : Args} {us : List Value} {vs : List V} (G : FnG X.prog X.w X.K X.mg X.base k f fd ps F) (hr : Room k X.A) (hgu : X.A.guards = some []) (tk : Takes X W)
    (I : Inv X pins σ H s) (hb : BindsTo s fd args (ps.zip us)) (r : Vals vs us) (h : spD X.K X.mg ps.length F vs H Q (fun cls d H' => W cls d σ H')) : wpAny (model X.prog X.w) X.A (call (.ref f) args.pos args.kw) (EP X pins σ Q) X.xe s := by
  refine wpAny_call (codeAny_mono (G.run X.A X.stack s H args us vs Q _ hr hgu I.env0 hb r h) fun r s' hq => ?_)
  cases r with
  | error e => exact passAt tk σ pins H s e s' I hq
  | ok fl =>
    cases fl with
    | ret u => exact I.after hq
    | next => exact hq.elim
    | brk => exact hq.elim
    | cont => exact hq.elim
def tFn (X : Cx) (W : WX) (m : Nat) (F : WF) (t : TA) : TE := fun σ H Q => t σ H fun vs H1 => spD X.K X.mg m F vs H1 Q (fun cls d H' => W cls d σ H')
theorem sp_fn {t : TA} {m : Nat} (hlen : ∀ xs ho Q E, F xs ho Q E → xs.length = m) (sa : SpA X W t ga) : SpE X W (tFn X W m F t) (fFn F ga) := by
  intro σ H as ρ h Q E QV eR hR hq kq kx
  refine sa σ H as ρ h _ E _ eR hR hq (fun xs h1 vs as1 H1 hq1 l1 r1 rv => ?_) kx
  exact ⟨as1, xs, h1, Q, E, by rw [rv.length]; exact hlen _ _ _ _ hq1, rv, r1, hq1, fun y h' v as2 H2 q l r rr => kq.later l1 y h' v as2 H2 q l r rr, fun x h' cls dd as2 H2 q l r xr => kx.later l1 x h' cls dd as2 H2 q l r xr⟩
/-- f(e, ..) -/
theorem SE.call (G : FnG X.prog X.w X.K X.mg X.base k f fd ps F) (hlen : ∀ xs ho Q E, F xs ho Q E → xs.length = ps.length) (hr : Room k X.A) (hgu : X.A.guards = some []) (tk : Takes X W) (hg : Gl X x) (hm : X.mg x = some (.ref f)) (hk : PySem.W.keepIn X.K (.ref f) = true)
    (hb : Binds X.K fd ps []) (ha : SA X W (e :: es) ga) (hdb : (x == ("__debug__" : Str)) = false := by decide) (he : starEach (e :: es) X.env = (false, eval e X.env) :: starEach es X.env := by rfl)
    (hpl : (backTo pos (starEach es X.env)).any (·.1) = false := by rfl) : SE X W (.Call (.Name x p) (e :: es) [] pos) (fFn F ga) := by
  obtain ⟨t, pa, sa⟩ := ha
  refine ⟨tFn X W ps.length F t, ⟨fun pins s σ H Q I hw => ?_⟩, sp_fn hlen sa⟩
  refine wpAny_Call_Name_kw (ld_glob I hg hm ?_ hdb)
  refine PySem.W.callWith_K (h₀ := X.base) I.ok.mod.kin hk (thn (pa.run pos pins s σ H _ I hw) fun us s1 ⟨vs, H1, I1, r, q⟩ => ⟨I1.kIn, ?_⟩) he hpl
  have hl : us.length = ps.length := by
    obtain ⟨as, xs, h, Q0, E0, hm', _⟩ := q
    rw [← r.length, hm']
  have b := hb s1 us I1.kIn (by rw [List.append_nil]; exact hl)
  rw [List.append_nil] at b
  exact run_fnG (args := ⟨us, []⟩) G hr hgu tk I1 b r q
/-! keywords -/
def SKw (X : Cx) (W : WX) (kws : List Keyword) (g : WA) : Prop := ∃ t, PK X kws t ∧ SpA X W t g
theorem SKw.nil : SKw X W [] aNil := ⟨_, pk_nil, fun _ _ _ _ _ _ _ _ _ hR hq k _ => k _ _ _ _ _ hq (Later.refl _ _) hR .nil⟩
theorem SKw.cons {nm : Option Str} {kpos : Pos} {fe : WE} {kws : List Keyword} {g : WA} (he : SE X W e fe) (hr : SKw X W kws g) : SKw X W (⟨nm, e, kpos⟩ :: kws) (aCons fe g) := by
  obtain ⟨te, pe, se⟩ := he
  obtain ⟨ta, pa, sa⟩ := hr
  refine ⟨_, pk_cons pe pa, fun σ H as ρ h Q E QV eR hR hq k kx => ?_⟩
  refine se σ H as ρ h _ E _ eR hR hq (fun x h1 v as1 H1 hq1 l1 r1 rv => ?_) kx
  refine sa σ H1 as1 ρ h1 _ E _ (eR.later l1) r1 hq1 (fun xs h2 vs as2 H2 hq2 l2 r2 rvs => ?_) (kx.later l1)
  exact k _ _ _ _ _ hq2 (l1.trans l2) r2 (.cons (rv.later l2) rvs)
/-- a permutation of the keywords into the parameters' order: place i of the parameters is keyword at ix[i] -/
def pick {α : Type} (ix : List Nat) (xs : List α) : List α := ix.filterMap fun i => xs[i]?
theorem RelAll.pick {K : Frag} {as : List Addr} {H : Hp} {vs : List V} {xs : List D} (r : RelAll K as H vs xs) : ∀ ix : List Nat, RelAll K as H (V2.pick ix vs) (V2.pick ix xs)
  | [] => .nil
  | i :: ix => by
    have ih := RelAll.pick r ix
    unfold V2.pick at ih ⊢
    rw [List.filterMap_cons, List.filterMap_cons]
    cases q : xs[i]? with
    | none =>
      have : vs[i]? = none := by
        rw [List.getElem?_eq_none_iff] at q ⊢
        rw [r.length]; exact q
      rw [this]
      exact ih
    | some y =>
      obtain ⟨v, e1, e2⟩ := r.get q
      rw [e1]
      exact .cons e2 ih
theorem vals_pick {vs : List V} {us : List Value} (r : Vals vs us) : ∀ ix : List Nat, Vals (V2.pick ix vs) (V2.pick ix us)
  | [] => .nil
  | i :: ix => by
    have ih := vals_pick r ix
    unfold V2.pick at ih ⊢
    rw [List.filterMap_cons, List.filterMap_cons]
    cases q : vs[i]? with
    | none =>
      have : us[i]? = none := by
        rw [List.getElem?_eq_none_iff] at q ⊢
        rw [← r.length]; exact q
      rw [this]
      exact ih
    | some y =>
      obtain ⟨v, e1, e2⟩ := r.get q
      rw [e1]
      exact .cons e2 ih
/-- how keywords bind: all parameters by keywords ks -/
def KwB (K : Frag) (fd : FuncData) (ps ks : List Str) (ix : List Nat) : Prop := ∀ (s : Shared) (us : List Value), K.In s.heap → us.length = ks.length → BindsTo s fd ⟨[], ks.zip us⟩ (ps.zip (V2.pick ix us))
def fFnK (ix : List Nat) (n : Nat) (F : WF) (ga : WA) : WE := fun ρ h Q E => ga ρ h (fun xs h1 => xs.length = n ∧ F (V2.pick ix xs) h1 Q E) E
/-- f(k = e, ..), all by keywords -/
theorem SE.callK {kws : List Keyword} {g : WA} {ks : List Str} {ix : List Nat} (G : FnG X.prog X.w X.K X.mg X.base k f fd ps F) (hlen : ∀ xs ho Q E, F xs ho Q E → xs.length = ps.length) (hr : Room k X.A) (hgu : X.A.guards = some []) (tk : Takes X W) (hg : Gl X x) (hm : X.mg x = some (.ref f))
    (hk : PySem.W.keepIn X.K (.ref f) = true) (hb : KwB X.K fd ps ks ix) (ha : SKw X W kws g)
    (hall : (backToKw pos (keywordEach kws X.env)).all (·.1.isSome) = true := by rfl) (hks : (backToKw pos (keywordEach kws X.env)).filterMap (·.1) = ks := by rfl)
    (hdb : (x == ("__debug__" : Str)) = false := by decide)
    (hpl : ((backTo pos (starEach [] X.env)).any (·.1) || (backToKw pos (keywordEach kws X.env)).any (·.1.isNone)) = false := by rfl) : SE X W (.Call (.Name x p) [] kws pos) (fFnK ix ks.length F g) := by
  obtain ⟨t, pa, sa⟩ := ha
  refine ⟨fun σ H Q => t σ H fun vs H1 => vs.length = ks.length ∧ spD X.K X.mg ps.length F (V2.pick ix vs) H1 Q (fun cls d H' => W cls d σ H'), ⟨fun pins s σ H Q I hw => ?_⟩, ?_⟩
  · refine wpAny_Call_Name_kw (ld_glob I hg hm ?_ hdb)
    refine PySem.W.callWith_KW0 (h₀ := X.base) I.ok.mod.kin hk hall (thn (pa.run pos pins s σ H _ I hw) fun us s1 ⟨vs, H1, I1, r, hl, q⟩ => ⟨I1.kIn, ?_⟩) hpl
    rw [hks]
    have b := hb s1 us I1.kIn (by rw [← r.length]; exact hl)
    exact run_fnG (args := ⟨[], ks.zip us⟩) G hr hgu tk I1 b (vals_pick r ix) q
  · intro σ H as ρ h Q E QV eR hR hq kq kx
    refine sa σ H as ρ h _ E _ eR hR hq (fun xs h1 vs as1 H1 hq1 l1 r1 rv => ?_) kx
    have rp := rv.pick ix
    refine ⟨by rw [rv.length, hq1.1], as1, _, h1, Q, E, by rw [rp.length]; exact hlen _ _ _ _ hq1.2, rp, r1, hq1.2, fun y h' v as2 H2 q l r rr => kq.later l1 y h' v as2 H2 q l r rr, fun x h' cls dd as2 H2 q l r xr => kx.later l1 x h' cls dd as2 H2 q l r xr⟩
end
theorem mir_len {n m : Nat} {f : WS} : ∀ xs ho Q E, mir n m f xs ho Q E → xs.length = m := fun _ _ _ _ h => h.1
end V2
set_option Elab.async false
set_option linter.all false
set_option maxRecDepth 100000
set_option maxHeartbeats 4000000
namespace V2
open PySem PySem.Spec PyProof.Rows L2
open PySem.W (Frag)
/-! ### the reading over data, as a reading of the layer (the same in every context of one K, mg) -/
def cE (K : Frag) (mg : Str → Option Value) (W : WX) (f : WE) : TE := fun σ H QV => ∃ as ρ h Q E, EnvR K as H ρ σ ∧ HeapR K as H h ∧ f ρ h Q E ∧
  (∀ y h' v as1 H', Q y h' → Later as H as1 H' → HeapR K as1 H' h' → Rel K as1 H' v y → QV v H') ∧ (∀ x h' cls dd as1 H', E x h' → Later as H as1 H' → HeapR K as1 H' h' → ExR K mg as1 H' cls dd x → W cls dd σ H')
theorem SE.c {X : Cx} {W : WX} {e : Expr} {f : WE} (h : SE X W e f) : PE X e (cE X.K X.mg W f) := by
  obtain ⟨t, pt, st⟩ := h
  exact ⟨fun pins s σ H Q I ⟨as, ρ, ho, Q0, E0, h1, h2, h3, h4, h5⟩ => pt.run pins s σ H Q I (st σ H as ρ ho Q0 E0 Q h1 h2 h3 h4 h5)⟩
def cT (K : Frag) (mg : Str → Option Value) (W : WX) (f : WT) : TT := fun σ H QV => ∃ as ρ h Q E, EnvR K as H ρ σ ∧ HeapR K as H h ∧ f ρ h Q E ∧
  (∀ y h' as1 H', Q y h' → Later as H as1 H' → HeapR K as1 H' h' → QV y H') ∧ (∀ x h' cls dd as1 H', E x h' → Later as H as1 H' → HeapR K as1 H' h' → ExR K mg as1 H' cls dd x → W cls dd σ H')
theorem ST.c {X : Cx} {W : WX} {e : Expr} {f : WT} (h : ST X W e f) : PT X e (cT X.K X.mg W f) := by
  obtain ⟨t, pt, st⟩ := h
  exact ⟨fun pins s σ H Q I ⟨as, ρ, ho, Q0, E0, h1, h2, h3, h4, h5⟩ => pt.run pins s σ H Q I (st σ H as ρ ho Q0 E0 Q h1 h2 h3 h4 h5)⟩
def cG (K : Frag) (g : WG) (sl : List Nat) : TG := fun v σ H Q => ∃ as x ρ h ρ', EnvR K as H ρ σ ∧ HeapR K as H h ∧ Rel K as H v x ∧ g x h ρ = some ρ' ∧
    (∀ σ', EnvR K as H ρ' σ' → (∀ vs : List Nat, (∀ i ∈ sl, i ∈ vs) → L2.wipe σ' vs = L2.wipe σ vs) → Q σ' H)
theorem SG.c {X : Cx} {tg : Expr} {g : WG} {sl : List Nat} (h : SG X tg g sl) : PG X tg (cG X.K g sl) := by
  obtain ⟨t, pt, st⟩ := h
  exact ⟨fun pins s σ H v u Q I r ⟨as, x, ρ, ho, ρ', h1, h2, h3, h4, h5⟩ => pt.run pins s σ H v u Q I r (st v x σ H as ρ ho ρ' Q h1 h2 h3 h4 h5)⟩
/-! ### list comprehensions of one clause -/
def noX : XD := fun _ _ => False
/-- nothing leaves -/
def WF0 : WX := fun _ _ _ _ => False
/-- the turns: the items so far stand at place n -/
def lcGo (g : WG) (tt : WT) (te : WE) (st : Ho → Prop) (n : Nat) (ρ : En) (Q : Ho → Prop) : List D → Ho → Prop
  | [], h => Q h
  | x :: xs, h => match g x h ρ with
    | some ρ1 => tt ρ1 h (fun b h1 => if b = true then te ρ1 h1 (fun y h2 => match h2[n]? with
        | some (.lst acc) => acc.length < sizeLine ∧ st (h2.set n (.lst (acc ++ [y]))) ∧ lcGo g tt te st n ρ Q xs (h2.set n (.lst (acc ++ [y])))
        | _ => False) noX else st h1 ∧ lcGo g tt te st n ρ Q xs h1) noX
    | none => False
/-- the new list is a place -/
def fLcL (wi : WI) (g : WG) (tt : WT) (te : WE) (own : List Nat) : WE := fun ρ h Q E => wi ρ h (fun xs st h1 =>
  st (h1 ++ [.lst []]) ∧ lcGo g tt te st h1.length (wipeD ρ own) (fun h2 => Q (.loc h1.length) h2) xs (h1 ++ [.lst []])) E
/-- no place n stands in the store -/
def noRefD (n : Nat) : D → Bool
  | .loc m => m != n
  | .pr m _ => m != n
  | _ => true
def noRef (n : Nat) (h : Ho) : Bool := h.all fun o => match o with
  | .lst xs => xs.all (noRefD n)
  | .keys _ => true
/-- the new list is data: the store behind is as long as ahead, and nothing in it leads to the list -/
def fLcV (wi : WI) (g : WG) (tt : WT) (te : WE) (own : List Nat) : WE := fun ρ h Q E => wi ρ h (fun xs st h1 =>
  st (h1 ++ [.lst []]) ∧ lcGo g tt te st h1.length (wipeD ρ own) (fun h2 => ∃ hh acc ps, h2 = hh ++ [.lst acc] ∧ hh.length = h1.length ∧ (hh = h1 ∨ noRef h1.length hh = true) ∧ allD acc = some ps ∧ Q (.d (.list ps)) hh) xs (h1 ++ [.lst []])) E
def tTrue : WT := fun _ h Q _ => Q true h
section
variable {X : Cx} {W : WX} {elt tg it : Expr} {ifs : List Expr} {scope : Scope} {own : List (Str × Nat)} {pos : Pos} {wi : WI} {g : WG} {sl : List Nat} {tt : WT} {te : WE}
def STs (X : Cx) (W : WX) (ifs : List Expr) (f : WT) : Prop := ∃ t, PTs X ifs t ∧ SpT X W t f
theorem STs.nil : STs X W [] tTrue := ⟨_, pts_nil, fun _ _ _ _ _ _ _ _ _ hR hq k _ => k _ _ _ _ hq (Later.refl _ _) hR⟩
theorem STs.one {c : Expr} {f : WT} (h : ST X W c f) : STs X W [c] f := let ⟨_, p, s⟩ := h; ⟨_, pts_one p, s⟩
theorem STs.c {f : WT} (h : STs X W ifs f) : PTs X ifs (cT X.K X.mg W f) := by
  obtain ⟨t, pt, st⟩ := h
  exact ⟨fun pins s σ H Q I ⟨as, ρ, ho, Q0, E0, h1, h2, h3, h4, h5⟩ => pt.run pins s σ H Q I (st σ H as ρ ho Q0 E0 Q h1 h2 h3 h4 h5)⟩
theorem wipe_wipe (σ : L2.St) (vs : List Nat) : L2.wipe (L2.wipe σ vs) vs = L2.wipe σ vs := by
  have key : ∀ (ws us : List Nat), (∀ i ∈ ws, i ∈ us) → ∀ τ, L2.wipe (L2.wipe τ ws) us = L2.wipe τ us := by
    intro ws
    induction ws with
    | nil => intro us _ τ; rfl
    | cons w ws ih =>
      intro us hs τ
      show L2.wipe ((L2.wipe τ ws).set w none) us = _
      rw [wipe_set (hs w (by simp)), ih us (fun i hi => hs i (List.mem_cons_of_mem _ hi))]
  exact key vs vs (fun _ h => h) σ
/-- the walk of the turns, in the layer -/
theorem lc_walk {K : Frag} {mg : Str → Option Value} {as1 : List Addr} {H1 : Hp} {h1 : Ho} {σ : L2.St} {ρ : En} {xs : List D} {st : Ho → Prop} {J : It} {Qf : Ho → Prop} {QV : VK} {ow : List Nat} (hsl : ∀ i ∈ sl, i ∈ ow)
    (r1 : HeapR K as1 H1 h1) (eR : EnvR K as1 H1 ρ σ) (wk : Walks K as1 H1 xs st J) (st1 : st (h1 ++ [.lst []])) (go : lcGo g tt te st h1.length (wipeD ρ ow) Qf xs (h1 ++ [.lst []]))
    (kq : ∀ p as2 H2 h2, H1 p = none → Qf h2 → Later as1 H1 as2 H2 → HeapR K as2 H2 h2 → as2[h1.length]? = some p → QV (.ref p) H2) :
    ∀ p, H1 p = none → ∃ Wm : Nat → Nat → Hp → Prop, (∃ m, Wm 0 m (upd H1 p (.lst []))) ∧ ∀ i m H, Wm i m H →
      (J.stop i H ∧ QV (.ref p) H) ∨ (J.go i H ∧ ∃ Nx : Hp → Prop, (∀ H', Nx H' → ∃ m', m' < m ∧ Wm (i + 1) m' H') ∧ ∀ x H', J.yld i H x H' → cG K g sl x (L2.wipe σ ow) H' fun σ2 H2 => L2.wipe σ2 ow = L2.wipe σ ow ∧ cT K mg WF0 tt σ2 H2 fun b H3 =>
        if b = true then cE K mg WF0 te σ2 H3 fun y H4 => ∃ acc, H4 p = some (.lst acc) ∧ acc.length < sizeLine ∧ Nx (upd H4 p (.lst (acc ++ [y]))) else Nx H3) := by
  intro p hp
  obtain ⟨rp, ep⟩ := r1.place (vs := []) (xs := []) hp .nil
  have lp : Later as1 H1 (as1 ++ [p]) (upd H1 p (.lst [])) := Later.place _ hp
  refine ⟨fun i m H => m = xs.length - i ∧ i ≤ xs.length ∧ ∃ as2 h2, Later as1 H1 as2 H ∧ as2[h1.length]? = some p ∧ HeapR K as2 H h2 ∧ st h2 ∧ lcGo g tt te st h1.length (wipeD ρ ow) Qf (xs.drop i) h2,
    ⟨xs.length, by simp, Nat.zero_le _, _, _, lp, ep, rp, st1, go⟩, ?_⟩
  rintro i m H ⟨rfl, hi, as2, h2, l2, e2, r2, st2, go2⟩
  obtain ⟨w1, w2, w3⟩ := wk i as2 H h2 l2 r2 st2
  by_cases hlt : i < xs.length
  · refine .inr ⟨w1 hlt, fun H' => i + 1 ≤ xs.length ∧ ∃ as3 h3, Later as1 H1 as3 H' ∧ as3[h1.length]? = some p ∧ HeapR K as3 H' h3 ∧ st h3 ∧ lcGo g tt te st h1.length (wipeD ρ ow) Qf (xs.drop (i + 1)) h3,
      fun H' z => ⟨xs.length - (i + 1), by omega, rfl, z.1, z.2⟩, fun v H' y => ?_⟩
    obtain ⟨l3, r3, rv⟩ := w3 v H' y xs[i] (List.getElem?_eq_getElem hlt)
    rw [List.drop_eq_getElem_cons hlt] at go2
    unfold lcGo at go2
    split at go2
    · rename_i ρ1 e1
      have l13 := l2.trans l3
      refine ⟨as2, _, _, h2, ρ1, (eR.later l13).wipe ow, r3, rv, e1, fun σ2 eR2 hw => ⟨?_, ?_⟩⟩
      · rw [hw ow hsl, wipe_wipe]
      · refine ⟨as2, ρ1, h2, _, _, eR2, r3, go2, fun b h3 as3 H3 q3 l4 r4 => ?_, fun _ _ _ _ _ _ z => z.elim⟩
        cases b with
        | false =>
          refine iteF ⟨hlt, as3, h3, l13.trans l4, l4.at e2, r4, ?_⟩
          exact q3
        | true =>
          refine iteT ⟨as3, ρ1, h3, _, _, eR2.later l4, r4, q3, fun y h4 w as4 H4 q4 l5 r5 rw' => ?_, fun _ _ _ _ _ _ z => z.elim⟩
          split at q4
          · rename_i acc ea
            have e4 := l5.at (l4.at e2)
            obtain ⟨b, hb, vs, o1, o2⟩ := r5.at ea
            rw [e4] at hb
            cases hb
            have lw : Later as4 H4 as4 (upd H4 p (.lst (vs ++ [w]))) := Later.write _ (List.mem_of_getElem? e4)
            exact ⟨vs, o1, by rw [o2.length]; exact q4.1, hlt, as4, _, ((l13.trans l4).trans l5).trans lw, e4, r5.write e4 (o2.append (.cons rw' .nil)), q4.2.1, q4.2.2⟩
          · exact q4.elim
    · exact go2.elim
  · have e : i = xs.length := by omega
    subst e
    rw [List.drop_length] at go2
    unfold lcGo at go2
    exact .inl ⟨w2 rfl, kq p as2 H h2 hp go2 l2 r2 e2⟩
variable (hc : X.calm = true) (hN : X.N.Nodup) (hi : SI X W tg it wi) (ok : BlkOk X.N X.env.scope scope own) (hsl : ∀ i ∈ sl, i ∈ own.map (·.2))
    (hg : ∀ (s : Shared) (H : Hp) (C : Addr) (cl : List (Str × Addr)) (fp : List Addr), SG (X.blk s H scope (compEnvC scope cl C X.env) fp) tg g sl)
    (ht : ∀ (s : Shared) (H : Hp) (C : Addr) (cl : List (Str × Addr)) (fp : List Addr), STs (X.blk s H scope (compEnvC scope cl C X.env) fp) WF0 ifs tt)
    (he : ∀ (s : Shared) (H : Hp) (C : Addr) (cl : List (Str × Addr)) (fp : List Addr), SE (X.blk s H scope (compEnvC scope cl C X.env) fp) WF0 elt te)
include hc hN hi ok hsl hg ht he
theorem sp_lc {t : TI} (st' : ∀ σ H as ρ h Q E (R : It → Hp → Prop), EnvR X.K as H ρ σ → HeapR X.K as H h → wi ρ h Q E →
    (∀ xs st h1 as1 H1 (J : It), Q xs st h1 → st h1 → Later as H as1 H1 → HeapR X.K as1 H1 h1 → Walks X.K as1 H1 xs st J → R J H1) → XTo X W as H σ E → t σ H R) :
    SpE X W (tLc t (cG X.K g sl) (cT X.K X.mg WF0 tt) (cE X.K X.mg WF0 te) (own.map (·.2))) (fLcL wi g tt te (own.map (·.2))) ∧
    SpE X W (tLc t (cG X.K g sl) (cT X.K X.mg WF0 tt) (cE X.K X.mg WF0 te) (own.map (·.2))) (fLcV wi g tt te (own.map (·.2))) := by
  constructor
  · intro σ H as ρ h Q E QV eR hR hq k kx
    refine st' σ H as ρ h _ E _ eR hR hq (fun xs st h1 as1 H1 J q1 s1 l1 r1 wk => ?_) kx
    refine lc_walk hsl r1 (eR.later l1) wk q1.1 q1.2 fun p as2 H2 h2 hp q2 l2 r2 e2 => ?_
    exact k _ _ _ _ _ q2 (l1.trans l2) r2 (.loc e2)
  · intro σ H as ρ h Q E QV eR hR hq k kx
    refine st' σ H as ρ h _ E _ eR hR hq (fun xs st h1 as1 H1 J q1 s1 l1 r1 wk => ?_) kx
    refine lc_walk hsl r1 (eR.later l1) wk q1.1 q1.2 fun p as2 H2 h2 hp q2 l2 r2 e2 => ?_
    obtain ⟨hh, acc, ps, rfl, hlen, hno, hps, q⟩ := q2
    -- the last place is taken away
    have hal : as2.length = hh.length + 1 := by rw [r2.len]; simp
    have al1 : as1.length = h1.length := r1.len
    obtain ⟨mo, hmo⟩ := l2.more
    have hmo1 : mo.length = 1 := by
      have := congrArg List.length hmo
      rw [List.length_append] at this
      omega
    obtain ⟨p', rfl⟩ : ∃ p', mo = [p'] := by
      cases mo with
      | nil => simp at hmo1
      | cons a t => cases t with
        | nil => exact ⟨a, rfl⟩
        | cons _ _ => simp at hmo1
    have ep : p' = p := by
      rw [hmo, ← al1] at e2
      simpa using e2
    subst ep
    subst hmo
    have hpn : p' ∉ as1 := fun hm => by
      obtain ⟨u, e⟩ := r1.there hm
      rw [hp] at e
      cases e
    obtain ⟨b, hb, vs, o1, o2⟩ := r2.at (n := hh.length) (o := .lst acc) (by simp)
    have ebp : b = p' := by
      rw [hlen, ← al1] at hb
      simpa using hb.symm
    subst ebp
    have l2' : Later as1 H1 as1 H2 := ⟨⟨[], by simp⟩, fun q o e n => ⟨(l2.keep q o e n).1, n⟩⟩
    have back : Later (as1 ++ [b]) H2 as1 H2 → True := fun _ => trivial
    have dvBack : ∀ {v : V} {d : PyData}, Dv X.K (as1 ++ [b]) H2 v d → Dv X.K as1 H2 v d := by
      have key : ∀ (q : Addr) (o : HO), H2 q = some o → q ∉ as1 ++ [b] → H2 q = some o ∧ q ∉ as1 := fun q o e n => ⟨e, fun m => n (List.mem_append_left _ m)⟩
      intro v d hd
      have tupB : ∀ {a : Addr} {ys : List V}, TupR X.K (as1 ++ [b]) H2 a ys → TupR X.K as1 H2 a ys := fun z => z.elim (fun z => .inl ⟨z.1, fun m => z.2 (List.mem_append_left _ m)⟩) .inr
      have lstB : ∀ {a : Addr} {ys : List V}, LstR X.K (as1 ++ [b]) H2 a ys → LstR X.K as1 H2 a ys := fun z => z.elim (fun z => .inl ⟨z.1, fun m => z.2 (List.mem_append_left _ m)⟩) .inr
      exact Dv.rec (motive_1 := fun v d _ => Dv X.K as1 H2 v d) (motive_2 := fun vs ds _ => DvAll X.K as1 H2 vs ds) .non (fun b => .bl b) (fun i => .int i) (fun x => .str x) (fun s _ ih => .lst (lstB s) ih) (fun s _ ih => .tup (tupB s) ih) .nil (fun _ _ ih1 ih2 => .cons ih1 ih2) hd
    have dvsBack : ∀ (ds : List PyData) (vs : List V), DvAll X.K (as1 ++ [b]) H2 vs ds → DvAll X.K as1 H2 vs ds := by
      intro ds
      induction ds with
      | nil => intro vs hd; cases hd; exact .nil
      | cons d ds ih => intro vs hd; cases hd with | cons z1 z2 => exact .cons (dvBack z1) (ih _ z2)
    have relBack : ∀ {v : V} {x : D}, Rel X.K (as1 ++ [b]) H2 v x → noRefD h1.length x = true → Rel X.K as1 H2 v x := by
      intro v x rx hn
      cases rx with
      | d rx => exact .d (dvBack rx)
      | @loc a m hm =>
        simp only [noRefD, bne_iff_ne, ne_eq] at hn
        have hlt := (List.getElem?_eq_some_iff.mp hm).1
        simp at hlt
        have : m < as1.length := by omega
        rw [List.getElem?_append_left this] at hm
        exact .loc hm
      | tp z1 z2 z3 z4 => exact .tp z1 z2 (fun m => z3 (List.mem_append_left _ m)) (dvsBack _ _ z4)
      | ob z1 z2 z3 z4 z5 => exact .ob z1 z2 (fun m => z3 (List.mem_append_left _ m)) z4 (dvsBack _ _ z5)
      | @pr t a m v q z1 hm z3 =>
        simp only [noRefD, bne_iff_ne, ne_eq] at hn
        have hlt := (List.getElem?_eq_some_iff.mp hm).1
        simp at hlt
        have : m < as1.length := by omega
        rw [List.getElem?_append_left this] at hm
        exact .pr (z1.elim (fun z => .inl ⟨z.1, fun m => z.2 (List.mem_append_left _ m)⟩) .inr) hm (dvBack z3)
    have allBack : ∀ {vs : List V} {xs : List D}, RelAll X.K (as1 ++ [b]) H2 vs xs → (∀ x ∈ xs, noRefD h1.length x = true) → RelAll X.K as1 H2 vs xs := by
      intro vs xs ra
      induction ra with
      | nil => intro _; exact .nil
      | cons r t ih => intro hn; exact .cons (relBack r (hn _ (by simp))) (ih fun x hx => hn x (List.mem_cons_of_mem _ hx))
    have hclean : ∀ (i : Nat) (ys : List D), hh[i]? = some (.lst ys) → ∀ x ∈ ys, noRefD h1.length x = true := by
      intro i ys e x hx
      rcases hno with rfl | hno
      · -- the store as it was: each place within is an old one
        obtain ⟨a, ha, us, u1, u2⟩ := r1.at e
        obtain ⟨j, hj, ej⟩ := List.mem_iff_getElem.mp hx
        obtain ⟨v, _, rvx⟩ := u2.get (i := j) (x := x) (by rw [List.getElem?_eq_getElem hj, ej])
        cases rvx with
        | d _ => rfl
        | tp _ _ _ _ => rfl
        | ob _ _ _ _ _ => rfl
        | @pr t a m v q _ hm _ =>
          have := (List.getElem?_eq_some_iff.mp hm).1
          simp only [noRefD, bne_iff_ne, ne_eq]
          omega
        | @loc a m hm =>
          have := (List.getElem?_eq_some_iff.mp hm).1
          simp only [noRefD, bne_iff_ne, ne_eq]
          omega
      · unfold noRef at hno
        rw [List.all_eq_true] at hno
        have := hno _ (List.mem_of_getElem? e)
        simp only [List.all_eq_true] at this
        exact this x hx
    have r2' : HeapR X.K as1 H2 hh := by
      refine ⟨by omega, r1.nd, fun i o a e1 e2 => ?_⟩
      have hi' : i < as1.length := (List.getElem?_eq_some_iff.mp e2).1
      have q2 := r2.ob i o a (by rw [List.getElem?_append_left (by omega)]; exact e1) (by rw [List.getElem?_append_left hi']; exact e2)
      cases o with
      | lst ys =>
        obtain ⟨us, u1, u2⟩ := q2
        exact ⟨us, u1, allBack u2 (hclean i ys e1)⟩
      | keys ks =>
        obtain ⟨h0, xs, u1, u2, u3⟩ := q2
        exact ⟨h0, xs, u1, u2, fun z hz => (u3 z hz).imp (fun t => ⟨t.1, fun hm => t.2 (List.mem_append_left _ hm)⟩) id⟩
    have dv := o2.ofAllD hps
    have dvl : DvAll X.K as1 H2 vs ps := by
      have := DvAll.rec (motive_1 := fun _ _ _ => True) (motive_2 := fun vs ds _ => DvAll X.K as1 H2 vs ds) (K := X.K) (as := as1 ++ [b]) (H := H2) trivial (fun _ => trivial) (fun _ => trivial) (fun _ => trivial) (fun _ _ _ => trivial) (fun _ _ _ => trivial) .nil (fun h1 _ _ ih2 => .cons (dvBack h1) ih2) dv
      exact this
    exact k _ _ _ _ _ q (l1.trans l2') r2' (.d (.lst (.inl ⟨.inl o1, hpn⟩) dvl))
theorem SE.lcV (hs : ∀ x, foldedSetIterable it X.env x = pure x := by intro _; rfl) : SE X W (.ListComp elt [⟨tg, it, ifs, 0⟩] scope pos) (fLcV wi g tt te (own.map (·.2))) := by
  obtain ⟨t, pi, st'⟩ := id hi
  exact ⟨_, pe_lc hc hN pi ok (fun s H C cl fp => (hg s H C cl fp).c) (fun s H C cl fp => (ht s H C cl fp).c) (fun s H C cl fp => (he s H C cl fp).c) hs, (sp_lc hc hN hi ok hsl hg ht he st').2⟩
theorem SS.setLcV {i : Nat} {y : Str} {py spos : Pos} (hy : X.N[i]? = some y) (hyl : X.env.scope.names.lookup y = some .local) (hsw : swapsWith (.ListComp elt [⟨tg, it, ifs, 0⟩] scope pos) (some (.Name y py)) spos.line X.env = pure true)
    (hs : ∀ x, foldedSetIterable it X.env x = pure x := by intro _; rfl) : SS X W (.Assign [.Name y py] (.ListComp elt [⟨tg, it, ifs, 0⟩] scope pos) spos) (sAsg (fLcV wi g tt te (own.map (·.2))) (gNm i)) := by
  obtain ⟨t, pi, st'⟩ := id hi
  refine ⟨_, ps_setLc hc hN hy hyl hsw pi ok (fun s H C cl fp => (hg s H C cl fp).c) (fun s H C cl fp => (ht s H C cl fp).c) (fun s H C cl fp => (he s H C cl fp).c) hs, sp_asg (sl := [i]) (sp_lc hc hN hi ok hsl hg ht he st').2 fun v x σ H as ρ h ρ' Q eR hR r e k => ?_⟩
  simp only [gNm, Option.some.injEq] at e
  subst e
  exact k _ (eR.set i r) fun vs hv => wipe_set (hv i (by simp))
end
end V2
set_option Elab.async false
set_option linter.all false
set_option maxRecDepth 100000
set_option maxHeartbeats 4000000
namespace V2
open PySem PySem.Spec PyProof.Rows L2
open PySem.W (Frag)
open PySem.Builtin PySem.Builtin.ObjectAttr
/-! ### own exceptions over Exception -/
/-- own classes, then Exception's chain -/
inductive Refs : List Value → Prop
  | nil : Refs [.type "Exception", .type "BaseException", .type "object"]
  | cons (c : Addr) {r : List Value} : Refs r → Refs (.ref c :: r)
theorem Refs.pass (self : Value) : ∀ {l : List Value}, Refs l → refuseLoop self "__setattr__" l = pure ()
  | _, .nil => F.store_Exception.passes self
  | _, .cons _ r => by rw [refuseLoop_ref]; exact Refs.pass self r
theorem Refs.has (n : String) : ∀ {l : List Value}, Refs l → l.contains (.type n) = ([.type "Exception", .type "BaseException", .type "object"] : List Value).contains (.type n)
  | _, .nil => rfl
  | _, .cons _ r => by rw [List.contains_cons, Refs.has n r]; rfl
theorem Refs.ne : ∀ {l : List Value}, Refs l → l.isEmpty = false
  | _, .nil => rfl
  | _, .cons _ _ => rfl
section
variable {prog : Program} {w : World} {A : Around} {E : Value → Shared → Prop} {R : Result → Shared → Prop} {hp : Heap} {g : Array GenState} {d : Drawn} {t : Nat} {os : OsState}
/-- self.name = v on an exception that has no dict yet -/
theorem refs_osa {K : Frag} {name : Str} {tk : Tok} {v : Value} {x C : Addr} {fv : Array Value} {cd : ClassData} (inK : K.In hp) (ox : hp.get? x = some { cls := .ref C, data := .fields fv }) (ecd : PySem.W.clsIn K C = some cd) (rf : Refs cd.mro)
    (edict : cd.hasDict = true) (noF : PySem.W.findIn K (.ref C) name = some none)
    (fin : ∀ h' tk' dx, (∀ b o, b ≠ x → hp.get? b = some o → h'.get? b = some o) → hp.objs.size ≤ dx → dx ≠ x → h'.get? x = some { cls := .ref C, dict := some dx, data := .fields fv } →
      h'.Ns1 dx (fun y => if y = name then some v else none) → R (.ok (.ret .none)) ⟨h', g, d, tk', os⟩) :
    codeAny (model prog w) A (.call (.builtin "object.__setattr__") ⟨[.ref x, .str name tk, v], []⟩) R ⟨hp, g, d, t, os⟩ := by
  have inst : PySem.W.InstAt hp x { cls := .ref C, data := .fields fv } C none := ⟨ox, rfl, rfl, trivial⟩
  have so := F.store_object
  have isob : cd.mro.contains (.type "object") = true := (rf.has "object").trans (by decide +kernel)
  have apart : x ≠ hp.objs.size := Nat.ne_of_lt (Heap.lt_size ox)
  have lob : PySem.W.Looks (model prog w) hp (isInstance (.ref x) (.type "object")) true := inst.type.andThen (PySem.W.looks_mroIn inK (by unfold PySem.W.mroIn; rw [ecd, Option.bind_some, if_neg (by rw [rf.ne]; decide), isob]))
  refine codeAny_call_builtin so.slot.plain so.entry (@PySem.W.check_slot (model prog w) _ _ ⟨hp, g, d, t, os⟩ "object.__setattr__" "object" "__setattr__" (.ref x) [.str name tk, v] [] _ so.kind so.split lob (so.args (.ref x) (.str name tk) v) ?_)
  have lm : PySem.W.Looks (model prog w) hp (mroOf (.ref C)) cd.mro := (PySem.W.looks_clsIn inK ecd).andThen .now
  have l3 : PySem.W.Looks (model prog w) hp (storeTaker? none) none := .now
  have lcd : PySem.W.Looks (model prog w) hp (classData C) cd := PySem.W.looks_clsIn inK ecd
  rw [PySem.W.osa_eq, refuse_eq]
  refine wpAny_bind (wpAny_bind (inst.type.at (wpAny_bind (lm.at ?_))))
  rw [rf.pass _]
  refine wpAny_pure (wpAny_bind (inst.type.at (wpAny_bind ((PySem.W.looks_findIn inK noF).at (wpAny_bind (l3.at ?_))))))
  show wpAny _ _ (storeInOwnDict (.ref x) (.ref C) (.str name tk) name v false) _ _ _
  obtain ⟨cn, cb, cm, cns, cq, chd, csn, csb, cab, ccol, cdel⟩ := cd
  dsimp only at edict
  subst edict
  unfold storeInOwnDict ownDictForStores
  repeat (first | with_reducible refine HandSPX.store_in_new ?_ ?_ | with_reducible refine wpAny_loadPart_at ox ?_ | with_reducible refine lcd.at ?_ | wp_step)
  · exact ⟨_, #[], _, (Heap.get?_update_ne _ _ _ _ apart.symm).trans (Heap.get?_push_at rfl rfl), rfl, fun e he => absurd he (by simp), fun _ => rfl⟩
  · intro h' tk' hn' hs
    have ox1 : (hp.push { cls := .type "dict", data := .dict #[] }).get? x = some { cls := .ref C, data := .fields fv } := Heap.get?_push_of_some _ ox
    refine fin h' tk' hp.objs.size (fun b o hb ho => ?_) (Nat.le_refl _) apart.symm ?_ hn'
    · exact (hs.2 b (Nat.ne_of_lt (Heap.lt_size ho))).trans ((Heap.get?_update_ne _ _ _ _ hb).trans (Heap.get?_push_of_some _ ho))
    · exact (hs.2 x apart).trans (Heap.get?_update_self _ ox1 rfl)
end
/-- what __init__(self, fld) leaves of a fresh exception at x -/
structure InitBehind (fld : Str) (h h' : Heap) (x C dx t1 : Addr) (v : Value) : Prop where
  keep : ∀ b o, b ≠ x → h.get? b = some o → h'.get? b = some o
  obj : h'.get? x = some { cls := .ref C, dict := some dx, data := .fields #[.ref t1, .none, .none, .none, .bool false, .none] }
  dbig : h.objs.size ≤ dx
  dne : dx ≠ x
  ns : h'.Ns1 dx (fun y => if y = fld then some v else none)
/-- a made exception -/
structure MadeX (fld : Str) (h h' : Heap) (e C d : Addr) (v : Value) : Prop where
  keep : ∀ b o, h.get? b = some o → h'.get? b = some o
  new : h.objs.size ≤ e
  obj : ∃ oe vs, h'.get? e = some oe ∧ oe.cls = .ref C ∧ oe.dict = some d ∧ oe.data = .fields vs ∧ vs[1]? = some .none
  dbig : h.objs.size ≤ d
  dne : d ≠ e
  ns : h'.Ns1 d (fun y => if y = fld then some v else none)
/-- what the written part says of a class -/
structure XCls (K : Frag) (mg : Str → Option Value) (cn : Str) (C : Addr) : Prop where
  gC : mg cn = some (.ref C)
  cls : ∃ nm q N bs bm sn sub ab col dd k0 k1 k2 k3 k5, K.lookup C = some (excClassObj nm q C N bs bm true sn sub ab col dd k0 k1 k2 k3 k5 "Exception.__new__") ∧ Refs bm
  kC : PySem.W.keepIn K (.ref C) = true
  exC : PySem.W.subIn K (.ref C) (.type "BaseException") = some true
  tyC : PySem.W.typeIn K (.ref C) = some (.type "type")
  hdC : PySem.W.hasDictIn K C = true
/-- with an __init__ at fI that stores one field -/
structure XOwn (K : Frag) (mg : Str → Option Value) (cn : Str) (C fI : Addr) (fld : Str) : Prop extends XCls K mg cn C where
  sa : PySem.W.findIn K (.ref C) "__setattr__" = some (some (.builtin "object.__setattr__"))
  noN : PySem.W.findIn K (.ref C) fld = some none
  iC : PySem.W.findIn K (.ref C) "__init__" = some (some (.ref fI))
  tC : PySem.W.typeIn K (.ref fI) = some (.type "function")
  init : ∀ {prog : Program} {w : World} {A : Around} {R : Result → Shared → Prop} {s : Shared} {x t0 : Addr} {v : Value}, K.In s.heap → s.heap.NoLimit → s.heap.get? x = some (HandSPX.excO C t0) → A.depth < recursionLimit →
    (∀ h' tk dx, InitBehind fld s.heap h' x C dx t0 v → R (.ok (.ret .none)) { s with heap := h', toks := tk }) → codeAny (model prog w) A (.call (.ref fI) ⟨[.ref x, v], []⟩) R s
theorem one_fits (v : Value) : [v].length ≤ sizeLine := by
  rw [sizeLine_eq]
  exact (by decide : 1 ≤ 16777216)
section
variable {prog : Program} {w : World} {A : Around} {E : Value → Shared → Prop} {R : Result → Shared → Prop} {s : Shared} {K : Frag} {mg : Str → Option Value} {C fI : Addr} {cn fld : Str}
theorem x_made (T : XOwn K mg cn C fI fld) {v : Value} (inK : K.In s.heap) (hlim : s.heap.NoLimit) (hroom : A.depth + 1 < recursionLimit)
    (hq : ∀ h' tk e d, MadeX fld s.heap h' e C d v → R (.ok (.ret (.ref e))) { s with heap := h', toks := tk }) : codeAny (model prog w) A (.call (.ref C) ⟨[v], []⟩) R s := by
  obtain ⟨nm, q, N, bs, bm, sn, sub, ab, col, dd, k0, k1, k2, k3, k5, hC, hbm⟩ := T.cls
  obtain ⟨hp, gg, dr, tk, os⟩ := s
  have up : ∀ b o, hp.get? b = some o → ((hp.push (PySem.W.kdv_tup [v])).push (HandSPX.excO C hp.objs.size)).get? b = some o := fun b o e => Heap.get?_push_of_some _ (Heap.get?_push_of_some _ e)
  have there : ((hp.push (PySem.W.kdv_tup [v])).push (HandSPX.excO C hp.objs.size)).get? (hp.objs.size + 1) = some (HandSPX.excO C hp.objs.size) := by heap_get
  refine HandSPX.call_own F.excBase_Exception (fun n => hbm.has n) (inK _ _ hC) (PySem.W.looks_findIn inK T.iC) (fun self => PySem.W.bind_fn inK self T.tC) (one_fits v) ?_
  refine T.init (s := ⟨(hp.push (PySem.W.kdv_tup [v])).push (HandSPX.excO C hp.objs.size), gg, dr, tk, os⟩) (inK.keeps up) (hlim.keeps up) there ?_ fun h' tk' dx ⟨k', hx, dn, dne, hns⟩ => ?_
  · show A.depth + 1 < recursionLimit
    exact hroom
  · have old : ∀ b o, hp.get? b = some o → h'.get? b = some o := fun b o e => k' b o (Nat.ne_of_lt (Nat.lt_succ_of_lt (Heap.lt_size e))) (up b o e)
    have z : hp.objs.size + 1 + 1 ≤ dx := by
      have q := dn
      simp only [Heap.size_push] at q
      exact q
    exact ⟨rfl, hq h' tk' (hp.objs.size + 1) dx ⟨old, Nat.le_succ _, ⟨_, _, hx, rfl, rfl, rfl, rfl⟩, (by show hp.objs.size ≤ dx; omega), dne, hns⟩⟩
end
theorem relO_one {v : V} {v' : Value} {fld : Str} (r : RelV v v') (f : Str) : RelO (List.lookup f [(fld, v)]) (if f = fld then some v' else none) := by
  by_cases hw : f = fld
  · subst hw
    rw [if_pos rfl]
    have q : List.lookup f [(f, v)] = some v := by simp [List.lookup]
    rw [q]
    exact r
  · rw [if_neg hw]
    have qw : (f == fld) = false := by simpa using hw
    have q2 : List.lookup f [(fld, v)] = none := by simp [List.lookup, qw]
    rw [q2]
    trivial
section
variable {X : Cx} {W : WX} {C fI : Addr} {cn fld : Str}
def tMkX (C : Addr) (fld : Str) (ta : TA) : L2.St → Hp → XK → Prop := fun σ H Q => ta σ H fun vs H1 => ∃ v, vs = [v] ∧ ∀ d, H1 d = none → Q (.ref C) (some d) (upd H1 d (.xd [(fld, v)]))
theorem pmk_x {a : Expr} {ta : TA} {p pos : Pos} {k : Nat} (T : XOwn X.K X.mg cn C fI fld) (hr : Room k X.A) (ha : PA X [a] ta) (hg : Gl X cn) (hdb : (cn == ("__debug__" : Str)) = false := by decide)
    (he : starEach (a :: []) X.env = (false, eval a X.env) :: starEach [] X.env := by rfl) (hpl : (backTo pos (starEach [] X.env)).any (·.1) = false := by rfl) : PMk X (.Call (.Name cn p) [a] [] pos) (tMkX C fld ta) := by
  intro pins s σ H Q I h
  refine wpAny_Call_Name_kw (ld_glob I hg T.gC ?_ hdb)
  refine PySem.W.callWith_K (h₀ := X.base) I.ok.mod.kin T.kC (thn (ha.run pos pins s σ H _ I h) fun us s1 hh => ?_) he hpl
  obtain ⟨vs, H1, I1, r1, v, ev, q1⟩ := hh
  subst ev
  refine ⟨I1.kIn, ?_⟩
  obtain ⟨u, rfl, rv⟩ := vals1 r1
  show wpAny _ _ (call (.ref C) [u]) _ _ _
  have nol := I1.nolimit
  obtain ⟨hp, g, dr, tk, os⟩ := s1
  refine wpAny_call (x_made T I1.kIn nol (by have := hr.dp; omega) fun h' tk' e d M => ?_)
  show MkP X pins σ Q (.ref e) ⟨h', g, dr, tk', os⟩
  obtain ⟨oe, fv, hoe, hc, hd, hdat, h1⟩ := M.obj
  obtain ⟨G', g1, g2⟩ := restrict h' fun b => decide (b ≠ e)
  have gk : ∀ b, b ≠ e → G'.get? b = h'.get? b := fun b hb => g1 b (decide_eq_true hb)
  have ge : G'.get? e = none := g2 e (by simp)
  have old : ∀ b o, hp.get? b = some o → G'.get? b = some o := fun b o q => (gk b (Nat.ne_of_lt (Nat.lt_of_lt_of_le (Heap.lt_size q) M.new))).trans (M.keep b o q)
  have ob : ObjOk X.prog X.w (upd H1 d (.xd [(fld, v)])) G' d (.xd [(fld, v)]) := ⟨_, M.ns.at (fun o q => (gk d M.dne).trans q), fun f => relO_one rv f⟩
  have J : Inv X pins σ (upd H1 d (.xd [(fld, v)])) ⟨G', g, dr, tk', os⟩ := I1.laid (t' := tk') old M.dbig ob
  refine ⟨e, oe, fv, ⟨G', g, dr, tk', os⟩, _, .ref C, some d, rfl, J, fun b o q => ?_, ge, hoe, ⟨hc, hd⟩, hdat, h1, ?_, rfl, I1.bare, raises_own T.exC T.tyC, q1 d (I1.hok.fresh M.dbig)⟩
  · by_cases hb : b = e
    · have q' : G'.get? b = some o := q
      rw [hb, ge] at q'
      cases q'
    · exact (gk b hb).symm.trans q
  · rw [upd_ne (Ne.symm M.dne)]
    exact I1.hok.fresh M.new
/-- raise C(e) -/
def sRaise (cn fld : Str) (ga : WA) : WS := fun ρ h D => ga ρ h (fun xs h1 => match xs with
  | [y] => D.ex ⟨cn, some (fld, y)⟩ ρ h1
  | _ => False) (exOf D ρ)
theorem SS.raise {a : Expr} {ga : WA} {p pos pos2 : Pos} {k : Nat} (hc : X.calm = true) (T : XOwn X.K X.mg cn C fI fld) (hr : Room k X.A) (tk : Takes X W) (ha : SA X W [a] ga) (hg : Gl X cn) (hdb : (cn == ("__debug__" : Str)) = false := by decide)
    (he : starEach (a :: []) X.env = (false, eval a X.env) :: starEach [] X.env := by rfl) (hpl : (backTo pos (starEach [] X.env)).any (·.1) = false := by rfl) :
    SS X W (.Raise (some (.Call (.Name cn p) [a] [] pos)) none pos2) (sRaise cn fld ga) := by
  obtain ⟨ta, pa, sa⟩ := ha
  refine ⟨_, ps_raise hc tk (pmk_x T hr pa hg hdb he hpl), fun σ H as ρ h D D' eR hR hq k => ?_⟩
  refine sa σ H as ρ h _ _ _ eR hR hq (fun xs h1 vs as1 H1 hq1 l1 r1 rv => ?_) (k.x eR)
  split at hq1
  · obtain ⟨v, rfl, r⟩ := relAll1 rv
    refine ⟨v, rfl, fun d hd => ?_⟩
    have l2 : Later as1 H1 as1 (upd H1 d (.xd [(fld, v)])) := Later.new _ hd
    have hda : d ∉ as1 := fun hm => by
      obtain ⟨u, e⟩ := r1.there hm
      rw [hd] at e
      cases e
    exact k.ex _ _ _ _ _ _ _ _ hq1 (l1.trans l2) (r1.new _ hd) (eR.later (l1.trans l2)) ⟨C, T.gC, rfl, d, v, rfl, hda, upd_same, r.later l2⟩
  · exact hq1.elim
end
/-! ### def __init__(self, fld): self.fld = fld -/
namespace XI
def iA (fld : Str) (p1 p2 : Pos) : Arguments := { posonlyargs := [], args := [{ arg := "self", annotation := none, pos := p1 }, { arg := fld, annotation := none, pos := p2 }], vararg := none, kwonlyargs := [], kw_defaults := [], kwarg := none, defaults := [] }
def iB (fld : Str) (q1 q2 q3 q4 : Pos) : List Stmt := [.Assign [.Attribute (.Name "self" q1) fld q2] (.Name fld q3) q4]
def iS (fld : Str) : Scope := { kind := .function, names := [(PySem.Str.ofString "self", .local), (fld, .local)], isGenerator := false, isCoroutine := false, more := [] }
end XI
def XInit (K : Frag) (fI : Addr) (fld qn : Str) : Prop := ∃ (oc : Value) (od : Option Addr) (doc pm : Value) (an : Option Addr) (cdv ct : Value) (osl : Array (Option Value)) (p1 p2 q1 q2 q3 q4 : Pos),
  K.lookup fI = some ⟨oc, od, .func (PySem.W.fnOf "__init__" qn (XI.iA fld p1 p2) (XI.iB fld q1 q2 q3 q4) (XI.iS fld) .none .none doc pm an cdv ct), osl⟩ ∧ PySem.W.codeIn K cdv qn = true
def XBind (fld : Str) : Prop := ∀ (qn : Str) (p1 p2 q1 q2 q3 q4 : Pos) (doc pm : Value) (an : Option Addr) (cdv ct a b : Value),
  bindArgs (PySem.W.fnOf "__init__" qn (XI.iA fld p1 p2) (XI.iB fld q1 q2 q3 q4) (XI.iS fld) .none .none doc pm an cdv ct) ⟨[a, b], []⟩ = pure ([(("self" : Str), a), (fld, b)] : List (Str × Value))
theorem xbind_word : XBind "word" := fun _ _ _ _ _ _ _ _ _ _ _ _ _ _ => by first | rfl | with_unfolding_all rfl
theorem read_local {M : Model} {s : Shared} {name : Str} {scope : Scope} {L a : Addr} {cd : Value} {m : Str → Option Value} {x : Str} {pos : Pos} {v : Value} {Q : Value → Shared → Prop} {A : Around} {E : Value → Shared → Prop} (hn : s.heap.Ns L m) (hv : m x = some v) (h : Q v s)
    (hk : scope.kind = .function) (hl : (envOfC name scope L a cd).kindOf x = some .local) (hd : (x == ("__debug__" : Str)) = false) : wpAny M A (eval (.Name x pos) (envOfC name scope L a cd)) Q E s :=
  wpAny_Name (wpAny_loadName_local hk hl hn hv h) hd
theorem x_init {K : Frag} {mg : Str → Option Value} {cn : Str} {C fI : Addr} {fld qn : Str} (T : XCls K mg cn C) (sa : PySem.W.findIn K (.ref C) "__setattr__" = some (some (.builtin "object.__setattr__"))) (noN : PySem.W.findIn K (.ref C) fld = some none)
    (fn : XInit K fI fld qn) (hbA : XBind fld) (hne : fld ≠ "self") (hdbg : (fld == ("__debug__" : Str)) = false)
    {prog : Program} {w : World} {A : Around} {R : Result → Shared → Prop} {s : Shared} {x t0 : Addr} {v : Value} (inK : K.In s.heap) (hlim : s.heap.NoLimit) (hx : s.heap.get? x = some (HandSPX.excO C t0)) (hroom : A.depth < recursionLimit)
    (hq : ∀ h' tk dx, InitBehind fld s.heap h' x C dx t0 v → R (.ok (.ret .none)) { s with heap := h', toks := tk }) : codeAny (model prog w) A (.call (.ref fI) ⟨[.ref x, v], []⟩) R s := by
  obtain ⟨oc, od, doc, pm, an, cdv, ct, osl, p1, p2, q1, q2, q3, q4, ho, hcd⟩ := fn
  obtain ⟨nm, q, N, bs, bm, sn, sub, ab, col, dd, k0, k1, k2, k3, k5, hC, hbm⟩ := T.cls
  have hcl : PySem.W.clsIn K C = some { name := nm, bases := bs, mro := .ref C :: bm, ns := N, qualname := q, hasDict := true, slotNames := sn, subclasses := sub, abstract := ab, collection := col, hasDel := false } := by unfold PySem.W.clsIn; rw [hC] <;> rfl
  have hns' : (("self" : Str) == fld) = false := by simpa using fun e => hne e.symm
  have hns2 : (fld == ("self" : Str)) = false := by simpa using hne
  have kS : (envOfC qn (XI.iS fld) s.heap.objs.size fI cdv).kindOf ("self" : Str) = some .local := rfl
  have kF : (envOfC qn (XI.iS fld) s.heap.objs.size fI cdv).kindOf fld = some .local := by
    show List.lookup fld [(PySem.Str.ofString "self", NameKind.local), (fld, NameKind.local)] = some .local
    have e2 : (fld == PySem.Str.ofString "self") = false := hns2
    simp [List.lookup, e2]
  refine Att.call_fn (binds := [("self", .ref x), (fld, v)]) inK hlim ho hcd hroom (BindsTo.of_eq ?b1) ?b2 (fun s₁ IC => ?_) rfl rfl rfl
  case b1 => exact hbA qn p1 p2 q1 q2 q3 q4 doc pm an cdv ct (.ref x) v
  case b2 =>
    have e1 : List.lookup (PySem.Str.ofString "self") (XI.iS fld).names = some .local := rfl
    have e2 : List.lookup fld (XI.iS fld).names = some .local := kF
    simp [e1, e2]
  obtain ⟨h₁, tk₁, rfl⟩ := IC.toInCall.same
  have kp : ∀ b o, s.heap.get? b = some o → h₁.get? b = some o := IC.toInCall.keep
  have hn := IC.toInCall.ns
  have inK1 : K.In h₁ := inK.keeps kp
  show wpAny _ _ (execs _ _) _ _ _
  refine wpAny_execs_cons (plainObj_wpAny_Assign_Attribute ?_)
  refine read_local (v := v) hn ?v1 (read_local (v := .ref x) hn ?v2 ?_ rfl kS (by decide)) rfl kF hdbg
  case v1 => simp [bindL, kS, kF]
  case v2 =>
    have e1 : ¬ PySem.Str.ofString "self" = fld := fun e => hne e.symm
    simp [bindL, kS, kF, e1]
  refine PySem.W.set_plain inK1 (ox := HandSPX.excO C t0) (od := none) ⟨kp _ _ hx, rfl, rfl, trivial⟩ sa ?_
  refine refs_osa inK1 (kp _ _ hx) hcl (.cons C hbm) rfl noN (fun h₃ tk₃ dx k₃ dn dne hx₃ hn₃ => ?_)
  show wpAny _ _ (execs _ _) _ _ _
  have z : s.heap.objs.size < h₁.objs.size := hn.lt
  exact wpAny_execs_nil (hq h₃ tk₃ dx ⟨fun b o hb e => k₃ b o hb (kp b o e), hx₃, by show s.heap.objs.size ≤ dx; have : h₁.objs.size ≤ dx := dn; omega, dne, hn₃⟩)
/-- all that is asked of a class with such an __init__ -/
theorem XOwn.mk' {K : Frag} {mg : Str → Option Value} {cn : Str} {C fI : Addr} {fld qn : Str} (T : XCls K mg cn C) (sa : PySem.W.findIn K (.ref C) "__setattr__" = some (some (.builtin "object.__setattr__"))) (noN : PySem.W.findIn K (.ref C) fld = some none)
    (iC : PySem.W.findIn K (.ref C) "__init__" = some (some (.ref fI))) (tC : PySem.W.typeIn K (.ref fI) = some (.type "function")) (fn : XInit K fI fld qn) (hbA : XBind fld) (hne : fld ≠ "self") (hdbg : (fld == ("__debug__" : Str)) = false) : XOwn K mg cn C fI fld :=
  { T with sa := sa, noN := noN, iC := iC, tC := tC, init := x_init T sa noN fn hbA hne hdbg }
end V2
set_option Elab.async false
set_option linter.all false
set_option maxRecDepth 100000
set_option maxHeartbeats 4000000
namespace V2
open PySem PySem.Spec PyProof.Rows L2
open PySem.W (Frag)
/-! ### try: body, except c as n: suite -/
theorem EnvR.none {K : Frag} {as : List Addr} {H : Hp} {ρ : En} {σ : L2.St} (h : EnvR K as H ρ σ) (i : Nat) (o : Option V) : EnvR K as H (ρ.set i none) (σ.set i o) := by
  refine ⟨by rw [List.length_set, List.length_set]; exact h.1, fun j y e => ?_⟩
  by_cases hj : i = j
  · subst hj
    by_cases hl : i < ρ.length
    · rw [List.getElem?_set_self hl] at e; cases e
    · rw [List.getElem?_eq_none (by simpa using hl)] at e; cases e
  · rw [List.getElem?_set_ne hj] at e
    obtain ⟨w, h1, h2⟩ := h.2 j y e
    exact ⟨w, by rw [List.getElem?_set_ne hj]; exact h1, h2⟩
/-! ### in a suite: the held exception's field, and what it is one of -/
abbrev XE' := Ex → WE
section
variable (X : Cx) (i : Nat)
/-- slot i holds the exception -/
def Hold (a : Addr) (cls : Value) (d : Option Addr) (x : Ex) (σ : L2.St) (as : List Addr) (H : Hp) : Prop := σ[i]? = some (some (.ref a)) ∧ ExR X.K X.mg as H cls d x
def SXE (e : Expr) (fe : XE') : Prop := ∀ (a : Addr) (oe : Obj) (cls : Value) (d : Option Addr) (pn : List (Addr × Obj)), Zc cls d oe → (∃ vs, oe.data = .fields vs) →
  ∃ t, PE (X.suite a ((a, oe) :: pn)) e t ∧ ∀ x σ H as ρ h Q E QV, EnvR X.K as H ρ σ → HeapR X.K as H h → Hold X i a cls d x σ as H → fe x ρ h Q E → KTo X as H Q QV → t σ H QV
def SXT (e : Expr) (fe : Ex → WT) : Prop := ∀ (a : Addr) (oe : Obj) (cls : Value) (d : Option Addr) (pn : List (Addr × Obj)), Zc cls d oe → (∃ vs, oe.data = .fields vs) →
  ∃ t, PT (X.suite a ((a, oe) :: pn)) e t ∧ ∀ x σ H as ρ h Q E QV, EnvR X.K as H ρ σ → HeapR X.K as H h → Hold X i a cls d x σ as H → fe x ρ h Q E → TTo X as H Q QV → t σ H QV
def SXW (e : Expr) (fe : Ex → WT) : Prop := ∀ (a : Addr) (oe : Obj) (cls : Value) (d : Option Addr) (pn : List (Addr × Obj)), Zc cls d oe → (∃ vs, oe.data = .fields vs) →
  ∃ t, PW (X.suite a ((a, oe) :: pn)) e t ∧ ∀ x σ H as ρ h Q E QV, EnvR X.K as H ρ σ → HeapR X.K as H h → Hold X i a cls d x σ as H → fe x ρ h Q E → TTo X as H Q QV → t σ H QV
def SXA (e : List Expr) (fe : Ex → WA) : Prop := ∀ (a : Addr) (oe : Obj) (cls : Value) (d : Option Addr) (pn : List (Addr × Obj)), Zc cls d oe → (∃ vs, oe.data = .fields vs) →
  ∃ t, PA (X.suite a ((a, oe) :: pn)) e t ∧ ∀ x σ H as ρ h Q E QV, EnvR X.K as H ρ σ → HeapR X.K as H h → Hold X i a cls d x σ as H → fe x ρ h Q E → ATo X as H Q QV → t σ H QV
end
section
variable {X : Cx} {i : Nat} {a' : Expr} {n : Str} {pos p : Pos} {e b : Expr} {es rest : List Expr} {fe fb : XE'} {ga : Ex → WA} {ft gt : Ex → WT}
theorem Hold.later {a : Addr} {cls : Value} {d : Option Addr} {x : Ex} {σ : L2.St} {as as1 : List Addr} {H H1 : Hp} (l : Later as H as1 H1) (h : Hold X i a cls d x σ as H) : Hold X i a cls d x σ as1 H1 := ⟨h.1, h.2.later l⟩
/-- e.f, e of the class cn -/
def xFld (cn f : Str) : XE' := fun x _ h Q _ => x.cls = cn ∧ ∃ y, x.fld = some (f, y) ∧ Q y h
theorem SXE.fld {C : Addr} {cn : Str} (T : XfC X.K C) (gC : X.mg cn = some (.ref C)) (f : Str) (hno : PySem.W.findIn X.K (.ref C) f = some none) (hN : X.N[i]? = some n) (hv : Vis X.env.scope n) (hd : (n == ("__debug__" : Str)) = false := by decide) (hcd : (n == ("__classdict__" : Str)) = false := by decide)
    (hb : attributeBase (.Name n p) f X.env (eval (.Name n p) X.env) = eval (.Name n p) X.env := by rfl) : SXE X i (.Attribute (.Name n p) f pos) (xFld cn f) := by
  intro a oe cls d pn hz hf
  refine ⟨_, pe_xf T hno hz hf (pe_var (i := i) hN hv hd hcd) hb, fun x σ H as ρ h Q E QV eR hR ho hq k => ?_⟩
  obtain ⟨ec, y, ef, q⟩ := hq
  obtain ⟨C', g1, g2, g3⟩ := ho.2
  rw [ec, gC] at g1
  cases g1
  rw [ef] at g3
  obtain ⟨dd, v, e1, e2, e3, e4⟩ := g3
  refine ⟨.ref a, ho.1, rfl, g2, dd, _, v, e1, e3, by simp [List.lookup], k.q hR q e4⟩
theorem SXA.nil : SXA X i [] (fun _ => aNil) := fun a oe cls d pn hz hd => ⟨_, pa_nil, fun x σ H as ρ h Q E QV eR hR _ hq k => k _ _ _ _ _ hq (Later.refl _ _) hR .nil⟩
theorem SXA.cons (he : SXE X i e fe) (ha : SXA X i es ga) (hs : starEach (e :: es) X.env = (false, eval e X.env) :: starEach es X.env := by rfl) : SXA X i (e :: es) (fun x => aCons (fe x) (ga x)) := by
  intro a oe cls d pn hz hd
  obtain ⟨_, pe, se⟩ := he a oe cls d pn hz hd
  obtain ⟨_, pa, sa⟩ := ha a oe cls d pn hz hd
  refine ⟨_, pa_cons pe pa hs, fun x σ H as ρ h Q E QV eR hR ho hq k => ?_⟩
  refine se x σ H as ρ h _ E _ eR hR ho hq (fun y h1 v as1 H1 hq1 l1 r1 rv => ?_)
  refine sa x σ H1 as1 ρ h1 _ E _ (eR.later l1) r1 (ho.later l1) hq1 (fun xs h2 vs as2 H2 hq2 l2 r2 rvs => ?_)
  exact k _ _ _ _ _ hq2 (l1.trans l2) r2 (.cons (rv.later l2) rvs)
theorem SXE.tup {x1} (ha : SXA X i es ga) : SXE X i (.Tuple es x1 pos) (fun x => fTup (ga x)) := by
  intro a oe cls d pn hz hd
  obtain ⟨_, pa, sa⟩ := ha a oe cls d pn hz hd
  refine ⟨_, pe_tup pa, fun x σ H as ρ h Q E QV eR hR ho hq k => ?_⟩
  refine sa x σ H as ρ h _ E _ eR hR ho hq (fun xs h1 vs as1 H1 hq1 l1 r1 rv => ?_)
  split at hq1
  · rename_i ps ep
    have dv := rv.ofAllD ep
    exact ⟨by rw [dv.length]; exact hq1.1, fun p hp => (k.later l1).newTup r1 hq1.2 dv hp⟩
  · exact hq1.elim
theorem SXE.lst (ha : SXA X i es ga) : SXE X i (.List es pos) (fun x => fLst (ga x)) := by
  intro a oe cls d pn hz hd
  obtain ⟨_, pa, sa⟩ := ha a oe cls d pn hz hd
  refine ⟨_, pe_lst pa, fun x σ H as ρ h Q E QV eR hR ho hq k => ?_⟩
  refine sa x σ H as ρ h _ E _ eR hR ho hq (fun xs h1 vs as1 H1 hq1 l1 r1 rv => ?_)
  split at hq1
  · rename_i ps ep
    have dv := rv.ofAllD ep
    exact ⟨by rw [dv.length]; exact hq1.1, fun p hp => (k.later l1).newLst r1 hq1.2 dv hp⟩
  · exact hq1.elim
theorem SXW.pt (h : SXW X i e ft) : SXT X i e ft := fun a oe cls d pn hz hd => let ⟨_, p, s⟩ := h a oe cls d pn hz hd; ⟨_, p.pt, s⟩
theorem SXE.bin {op : CmpOp} {rV : Cx → R2} {r : WR2} (ho' : ∀ X', OpR X' (compareOp op) (rV X')) (c : Cp2 X (rV X) r) (hK : ∀ X' : Cx, X'.K = X.K → rV X' = rV X) (he : SXE X i e fe) (hb : SXE X i b fb) (hm : behindInMarks op b = false) : SXE X i (.Compare e [op] [b] pos) (fun x => fBin r (fe x) (fb x)) := by
  intro a oe cls d pn hz hd
  obtain ⟨_, pe, se⟩ := he a oe cls d pn hz hd
  obtain ⟨_, pb, sb⟩ := hb a oe cls d pn hz hd
  refine ⟨_, pe_cmpR (ho' _) pe pb hm, fun x σ H as ρ h Q E QV eR hR ho hq k => ?_⟩
  rw [hK (X.suite a ((a, oe) :: pn)) rfl]
  refine se x σ H as ρ h _ E _ eR hR ho hq (fun y h1 v as1 H1 hq1 l1 r1 rv => ?_)
  refine sb x σ H1 as1 ρ h1 _ E _ (eR.later l1) r1 (ho.later l1) hq1 (fun z h2 w as2 H2 hq2 l2 r2 rw' => ?_)
  exact c y z h2 Q v w as2 H2 QV (rv.later l2) rw' r2 hq2 (k.later (l1.trans l2))
end
end V2
set_option Elab.async false
set_option linter.all false
set_option maxRecDepth 100000
set_option maxHeartbeats 4000000
namespace V2
open PySem PySem.Spec PyProof.Rows L2
open PySem.W (Frag)
/-- the script as data -/
def scriptD (ns : List Int) : D := .d (.list (ns.map PyData.int))
/-- the law over data: it says True, nothing is raised -/
def Says (F : WF) (ns : List Int) : Prop := F [scriptD ns] [] (fun y _ => y = .d (.bool true)) noX
theorem law_endG {P : Program} {w : World} {K : Frag} {mg mb : Str → Option Value} {k : Nat} {fa a : Addr} {fd : FuncData} {x : Str} {F : WF} {s₁ : Shared} {vs : List Value} {ns : List Int}
    (inK : K.In s₁.heap) (gns : s₁.heap.Ns mainGlobals mg) (gb : s₁.heap.Ns builtinsNs mb) (gbb : ∀ x : Str, x ≠ "__name__" → mb x = bootBuiltins x) (nol : s₁.heap.NoLimit) (gen : s₁.gens = #[])
    (oa : s₁.heap.get? a = some { cls := .type "list", data := .seq vs.toArray }) (hints : IntsAre vs ns) (hl : ns.length ≤ sizeLine) (hr : Room k callerA)
    (G : ∀ base : Heap, K.In base → base.Ns mainGlobals mg → FnG P w K mg base k fa fd [x] F) (bind1 : ∀ (s : Shared) (u : Value), BindsTo s fd ⟨[u], []⟩ [(x, u)]) (says : Says F ns) :
    codeAny (model P w) callerA (.call (.ref fa) ⟨[.ref a], []⟩) (fun r s' => r = .ok (.ret (.bool true)) ∧ OldK s₁.heap s'.heap ∧ s'.os = s₁.os ∧ AllBare s'.gens) s₁ := by
  have rv := vals_ints hints
  have main : ∀ H : Hp, Only H → LstR K [] H a (ns.map V.int) → HOk P w H s₁.heap → (∀ b, H b ≠ none → b = a) → (H a ≠ none → K.lookup a = none) →
      codeAny (model P w) callerA (.call (.ref fa) ⟨[.ref a], []⟩) (fun r s' => r = .ok (.ret (.bool true)) ∧ OldK s₁.heap s'.heap ∧ s'.os = s₁.os ∧ AllBare s'.gens) s₁ := by
    intro H only lst ok onlyA notK
    have noDict : ∀ {b : Addr} {o : Obj} {es : Array DictEntry} {ep : Nat}, s₁.heap.get? b = some o → o.data = .dict es ep → H b = none := by
      intro b o es ep e d
      refine Classical.byContradiction fun z => ?_
      rw [onlyA b z, oa] at e
      cases e
      cases d
    have nsH : ∀ {b : Addr} {m : Str → Option Value}, s₁.heap.Ns b m → (hidT s₁.heap H).Ns b m := by
      rintro b m ⟨o, es, ep, e, d, r⟩
      exact ⟨o, es, ep, hidT_get e (noDict e d), d, r⟩
    have baseK : K.In (hidT s₁.heap H) := by
      intro b o e
      refine hidT_get (inK b o e) (Classical.byContradiction fun z => ?_)
      have eb := onlyA b z
      subst eb
      rw [notK z] at e
      cases e
    obtain ⟨mc, nol1, nol2⟩ := id nol
    have md : Mod K mg (hidT s₁.heap H) := ⟨baseK, nsH gns, ⟨mb, nsH gb, gbb⟩, ⟨mc, nsH nol1, nol2⟩⟩
    have e0 : Env0 P w K mg (hidT s₁.heap H) callerA [] s₁ H := ⟨rfl, md, fun b o e => of_hidT e, Nat.le_of_eq (hidT_size _ _), trivial, fun b hb => absurd (show b ∈ ([] : List Addr) from hb) (by simp), ok, .of_eq gen⟩
    have sp : spD K mg 1 F [.ref a] H (fun v _ => v = .bl true) (fun _ _ _ => False) := by
      refine ⟨[], [scriptD ns], [], _, _, rfl, .cons (.d (.lst lst (DvAll.ints ns))) .nil, ⟨rfl, List.nodup_nil, fun i o b e => by simp at e⟩, says, fun y h' v as1 H1 q l r rr => ?_, fun x h' cls dd as1 H1 q => q.elim⟩
      subst q
      exact rel_bl rr
    refine codeAny_mono ((G _ baseK (nsH gns)).run callerA [] s₁ H ⟨[.ref a], []⟩ [.ref a] [.ref a] _ _ hr rfl e0 (bind1 s₁ (.ref a)) (.cons rfl .nil) sp) fun r s' h => ?_
    cases r with
    | error e =>
      obtain ⟨_, _, _, _, _, _, _, _, _, _, _, _, z⟩ := h
      exact z.elim
    | ok fl =>
      cases fl with
      | next => exact h.elim
      | brk => exact h.elim
      | cont => exact h.elim
      | ret u =>
        obtain ⟨v, H', os, bare, un, ok', r', q⟩ := h
        have q' : v = .bl true := q
        subst q'
        obtain rfl : u = Value.bool true := r'
        refine ⟨rfl, OldK.of_keep fun b o e => ?_, os, bare⟩
        rcases only b with z | ⟨ob, xs, z⟩
        · exact un.keep b o e z (by intro y; exact absurd (show b ∈ ([] : List Addr) from y) (by simp)) (by simp)
        · have z2 := un.frzs b ob _ z
          obtain ⟨e1, _⟩ := ok b _ z
          obtain ⟨e2, _⟩ := ok' b _ z2
          rw [e] at e1
          cases e1
          exact e2
  cases hk : K.lookup a with
  | some o =>
    have e := inK a o hk
    rw [oa] at e
    cases e
    refine main (fun _ => none) (fun _ => .inl rfl) (.inr ⟨_, vs.toArray, _, hk, rfl, rfl, rfl, by rw [List.size_toArray, hints.length]; exact hl, by simpa using rv⟩) (fun b u z => nomatch z) (fun b z => absurd rfl z) (fun z => absurd rfl z)
  | none =>
    have self : (fun b => if b = a then some (HO.frz { cls := .type "list", data := .seq vs.toArray } (.lst (ns.map V.int))) else none : Hp) a = some (.frz { cls := .type "list", data := .seq vs.toArray } (.lst (ns.map V.int))) := if_pos rfl
    refine main (fun b => if b = a then some (.frz { cls := .type "list", data := .seq vs.toArray } (.lst (ns.map V.int))) else none) (fun b => ?_) (.inl ⟨.inr ⟨_, self⟩, by simp⟩) (fun b u z => ?_) (fun b z => ?_) (fun _ => hk)
    · by_cases hb : b = a
      · subst hb; exact .inr ⟨_, _, self⟩
      · exact .inl (if_neg hb)
    · by_cases hb : b = a
      · subst hb
        rw [self] at z
        cases z
        exact ⟨oa, by rw [List.length_map]; exact hl, vs, _, rv, oa⟩
      · have z' : (none : Option HO) = some u := (if_neg hb).symm.trans z
        cases z'
    · exact Classical.byContradiction fun hb => z (if_neg hb)
/-- the goal that k_head leaves, from the law's reading over data -/
theorem walkG {l : PySem.W.OpenLaw} {n k : Nat} {q : Program} {loose : List Str} {XP : (Str → Option Value) → Heap → Prop} {YP : World → Heap → Prop} {d : DefRec} {K : Params → Frag} {F : WF} {x : Str}
    (hn : l.most = some n) (hn2 : n ≤ sizeLine) (hdf : d.params.defaults = []) (hr : Room k callerA) (hY : ∀ (w : World) (h : Heap), YP w h → (K w.params).In h)
    (all : ∀ (w : World) (mg : Str → Option Value) (fa : Addr) (h : Heap), (K w.params).In h → h.Ns mainGlobals mg → mg d.name = some (.ref fa) →
      ∃ fd : FuncData, (∀ (s : Shared) (u : Value), BindsTo s fd ⟨[u], []⟩ [(x, u)]) ∧ ∀ base : Heap, (K w.params).In base → base.Ns mainGlobals mg → FnG l.prog w (K w.params) mg base k fa fd [x] F)
    (says : ∀ ns : List Int, ns.length ≤ n → (∀ i ∈ ns, Builtin.Int.intBits i ≤ 1048576) → Says F ns) : PySem.W.WalkO q loose XP YP l.row.toRowW d [] (fun f vs => PySem.call f vs) := by
  refine Att.attach_callB hn hdf fun w s₀ s₁ mg mb fa o pm cd doc a vs ns G Y ho hd hcd hmg hobj hints hlen hbits hg => ?_
  have inK := hY w _ Y
  obtain ⟨fd, hb, hF⟩ := all w mg fa _ inK G.T.g hmg
  exact law_endG inK G.T.g G.T.b G.T.builtins G.T.nolimit hg hobj hints (Nat.le_trans hlen hn2) hr hF hb (says ns hlen hbits)
end V2
set_option Elab.async false
set_option linter.all false
set_option maxRecDepth 100000
set_option maxHeartbeats 4000000
namespace V2
open PySem PySem.Spec PyProof.Rows L2
open PySem.W (Frag)
section
variable {X : Cx} {W : WX} {a b c : Expr} {fa fb fc : WE} {pos : Pos} {ga : WA}
theorem relAll3 {K : Frag} {as : List Addr} {H : Hp} {vs : List V} {x y z : D} (r : RelAll K as H vs [x, y, z]) : ∃ u v w, vs = [u, v, w] ∧ Rel K as H u x ∧ Rel K as H v y ∧ Rel K as H w z := by
  cases r with | cons r t => cases t with | cons r2 t => cases t with | cons r3 t => cases t; exact ⟨_, _, _, rfl, r, r2, r3⟩
theorem SS.par3 (i j l : Nat) {x y z : Str} {px py pz pt : Pos} {kt k2 pt2} (hc : X.calm = true) (hN : X.N.Nodup) (hi : X.N[i]? = some x) (hj : X.N[j]? = some y) (hl : X.N[l]? = some z) (hij : i ≠ j) (hil : i ≠ l) (hjl : j ≠ l)
    (hx : X.env.scope.names.lookup x = some .local) (hy : X.env.scope.names.lookup y = some .local) (hz : X.env.scope.names.lookup z = some .local) (ha : SA X W [a, b, c] ga)
    (hw : swappedStores [.Tuple [.Name x px, .Name y py, .Name z pz] kt pt] (.Tuple [a, b, c] k2 pt2) X.env = pure (some [x, y, z]))
    (hs : swapsWithSole [.Tuple [.Name x px, .Name y py, .Name z pz] kt pt] (.Tuple [a, b, c] k2 pt2) pos.line X.env = pure false := by rfl) :
    SS X W (.Assign [.Tuple [.Name x px, .Name y py, .Name z pz] kt pt] (.Tuple [a, b, c] k2 pt2) pos) (sPar3 i j l ga) := by
  obtain ⟨_, p, s⟩ := ha
  refine ⟨_, ps_par3 hc hN hi hj hl hij hil hjl hx hy hz p hw hs, fun σ H as ρ h D D' eR hR hq k => ?_⟩
  refine s σ H as ρ h _ _ _ eR hR hq (fun xs h1 vs as1 H1 hq1 l1 r1 rv => ?_) (k.x eR)
  split at hq1
  · obtain ⟨u, v, w, rfl, r, r', r''⟩ := relAll3 rv
    exact ⟨u, v, w, rfl, k.nx _ _ _ _ _ hq1 l1 r1 ((((eR.later l1).set i r).set j r').set l r'')⟩
  · exact hq1.elim
end
/-- a def's facts as they are found in the written part -/
structure DefAt (K : Frag) (mg : Str → Option Value) (x : Str) (st : Stmt) (f : Addr) (fd : FuncData) : Prop where
  F : Fun K x x st f fd
  gl : mg x = some (.ref f)
  kp : PySem.W.keepIn K (.ref f) = true
section
variable {P : Program} {w : World} {K : Frag} {mg : Str → Option Value} {base : Heap}
/-- a call's facts in short -/
theorem SE.fn {X : Cx} {W : WX} {k j : Nat} {f : Addr} {fd : FuncData} {ps : List Str} {F : WF} {x : Str} {st : Stmt} {p pos : Pos} {e : Expr} {es : List Expr} {ga : WA} (D : DefAt X.K X.mg x st f fd) (G : FnG X.prog X.w X.K X.mg X.base j f fd ps F)
    (hlen : ∀ xs ho Q E, F xs ho Q E → xs.length = ps.length) (hr : Room k X.A) (hj : j ≤ k) (hgu : X.A.guards = some []) (tk : Takes X W) (hg : Gl X x) (hb : Binds X.K fd ps []) (ha : SA X W (e :: es) ga) (hdb : (x == ("__debug__" : Str)) = false := by decide)
    (he : starEach (e :: es) X.env = (false, eval e X.env) :: starEach es X.env := by rfl) (hpl : (backTo pos (starEach es X.env)).any (·.1) = false := by rfl) : SE X W (.Call (.Name x p) (e :: es) [] pos) (fFn F ga) :=
  .call G hlen (hr.mono hj) hgu tk hg D.gl D.kp hb ha hdb he hpl
theorem SE.fnK {X : Cx} {W : WX} {k j : Nat} {f : Addr} {fd : FuncData} {ps : List Str} {F : WF} {x : Str} {st : Stmt} {p pos : Pos} {kws : List Keyword} {g : WA} {ks : List Str} {ix : List Nat} (D : DefAt X.K X.mg x st f fd) (G : FnG X.prog X.w X.K X.mg X.base j f fd ps F)
    (hlen : ∀ xs ho Q E, F xs ho Q E → xs.length = ps.length) (hr : Room k X.A) (hj : j ≤ k) (hgu : X.A.guards = some []) (tk : Takes X W) (hg : Gl X x) (hb : KwB X.K fd ps ks ix) (ha : SKw X W kws g)
    (hall : (backToKw pos (keywordEach kws X.env)).all (·.1.isSome) = true := by rfl) (hks : (backToKw pos (keywordEach kws X.env)).filterMap (·.1) = ks := by rfl) (hdb : (x == ("__debug__" : Str)) = false := by decide)
    (hpl : ((backTo pos (starEach [] X.env)).any (·.1) || (backToKw pos (keywordEach kws X.env)).any (·.1.isNone)) = false := by rfl) : SE X W (.Call (.Name x p) [] kws pos) (fFnK ix ks.length F g) :=
  .callK G hlen (hr.mono hj) hgu tk hg D.gl D.kp hb ha hall hks hdb hpl
end
end V2
namespace V2
open PySem PySem.Spec PyProof.Rows L2
open PySem.W (Frag)
section
variable {P : Program} {w : World} {K : Frag} {mg : Str → Option Value} {base : Heap} {N : List Str} {qual : Str} {sc : Scope} {f : Addr} {cdv : Value} {A : Around} {outer : List Env} {s : Shared} {H : Hp} {E : XK}
/-- in a def's body: what it lets out is taken; nothing stands in a loop's way -/
theorem tkD : Takes (cxOf (L2.CX P w) P w K mg base N qual sc f cdv A outer s H E) (fun cls d _ H' => E cls d H') := takes_of rfl rfl rfl rfl
theorem poD : PassesOwn (model P w) (cxOf (L2.CX P w) P w K mg base N qual sc f cdv A outer s H E).A (cxOf (L2.CX P w) P w K mg base N qual sc f cdv A outer s H E).env (cxOf (L2.CX P w) P w K mg base N qual sc f cdv A outer s H E).xe := passes_of rfl
theorem tk0 {X : Cx} : Takes X WF0 := takes0
end
end V2
namespace V2
open PySem PySem.Spec PyProof.Rows L2
open PySem.W (Frag)
/-- a clause that takes one class, and is reached by it alone -/
def only (cn : Str) (s : Str) : Option Bool := if s = cn then some true else none
end V2
set_option Elab.async false
set_option linter.all false
set_option maxRecDepth 100000
set_option maxHeartbeats 4000000
/-! ## Going through a reading, step by step -/
namespace V2
open PySem PySem.Spec PyProof.Rows L2
open PySem.W (Frag)
inductive GetAt : Nat → En → D → Prop
  | zero {d : D} {l : En} : GetAt 0 (some d :: l) d
  | succ {n : Nat} {a : Option D} {l : En} {d : D} : GetAt n l d → GetAt (n + 1) (a :: l) d
inductive SetAt : Nat → En → D → En → Prop
  | zero {a : Option D} {d : D} {l : En} : SetAt 0 (a :: l) d (some d :: l)
  | succ {n : Nat} {a : Option D} {d : D} {l l' : En} : SetAt n l d l' → SetAt (n + 1) (a :: l) d (a :: l')
theorem GetAt.eq {n : Nat} {l : En} {d : D} (h : GetAt n l d) : l[n]? = some (some d) := by
  induction h with
  | zero => rfl
  | succ _ ih => rw [List.getElem?_cons_succ]; exact ih
theorem SetAt.eq {n : Nat} {l l' : En} {d : D} (h : SetAt n l d l') : l.set n (some d) = l' := by
  induction h with
  | zero => rfl
  | succ _ ih => rw [List.set_cons_succ, ih]
inductive Pad : Nat → En → Prop
  | zero : Pad 0 []
  | succ {n : Nat} {l : En} : Pad n l → Pad (n + 1) (none :: l)
inductive Pre : List D → En → En → Prop
  | nil {l : En} : Pre [] l l
  | cons {x : D} {xs : List D} {l l' : En} : Pre xs l l' → Pre (x :: xs) l (some x :: l')
theorem Pad.eq {n : Nat} {l : En} (p : Pad n l) : l = List.replicate n none := by
  induction p with
  | zero => rfl
  | succ _ ih => rw [List.replicate_succ, ih]
theorem Pre.eq {xs : List D} {l l' : En} (p : Pre xs l l') : xs.map some ++ l = l' := by
  induction p with
  | nil => rfl
  | cons _ ih => rw [List.map_cons, List.cons_append, ih]
section
variable {ρ ρ1 ρ2 ρ3 : En} {h : Ho} {Q : KD} {E : XD} {d x y z : D} {fa fb : WE} {ga : WA} {r : WR2} {nx : En → Ho → Prop} {rt : KD} {bk ct : En → Ho → Prop} {ex : Ex → En → Ho → Prop} {f g : WS} {i j : Int} {t u : WT} {b : Bool} {QA : List D → Ho → Prop} {QT : Bool → Ho → Prop}
theorem i_var {n : Nat} (e : GetAt n ρ d) (k : Q d h) : fVar n ρ h Q E := by
  unfold fVar
  rw [e.eq]
  exact k
theorem i_c {p : PyData} (k : Q (.d p) h) : fC p ρ h Q E := k
theorem i_nil (k : QA [] h) : aNil ρ h QA E := k
theorem i_cons (k : fa ρ h (fun x h1 => ga ρ h1 (fun xs h2 => QA (x :: xs) h2) E) E) : aCons fa ga ρ h QA E := k
theorem i_bin (k : fa ρ h (fun x h1 => fb ρ h1 (fun y h2 => r x y h2 Q) E) E) : fBin r fa fb ρ h Q E := k
theorem i_ints {C : Int → Int → Prop} {gg : Int → Int → PyData} (c : C i j) (k : Q (.d (gg i j)) h) : rInts C gg (.d (.int i)) (.d (.int j)) h Q := ⟨c, k⟩
theorem i_ints0 {gg : Int → Int → PyData} (k : Q (.d (gg i j)) h) : rInts (fun _ _ => True) gg (.d (.int i)) (.d (.int j)) h Q := ⟨trivial, k⟩
theorem i_add (k : Q (.d (.int (i + j))) h) : rAdd2 (.d (.int i)) (.d (.int j)) h Q := k
theorem i_eqi (k : Q (.d (.bool (decide (i = j)))) h) : rEq2 (.d (.int i)) (.d (.int j)) h Q := k
theorem i_nei (k : Q (.d (.bool (!decide (i = j)))) h) : rNe2 (.d (.int i)) (.d (.int j)) h Q := k
theorem i_eqs {i j : Str} (k : Q (.d (.bool (decide (i = j)))) h) : rEq2 (.d (.str i)) (.d (.str j)) h Q := k
theorem i_nes {i j : Str} (k : Q (.d (.bool (!decide (i = j)))) h) : rNe2 (.d (.str i)) (.d (.str j)) h Q := k
theorem i_ned {p q : PyData} (ex : datum h x = some p) (ey : datum h y = some q) (hp : SeqAt.shaped p = true) (hq : SeqAt.shaped q = true) (ni : (∀ i, x ≠ .d (.int i)) ∧ ∀ i, x ≠ .d (.str i)) (k : Q (.d (.bool (!PyData.eqv p q))) h) : rNe2 x y h Q := by
  unfold rNe2
  split
  · exact (ni.1 _ rfl).elim
  · exact (ni.2 _ rfl).elim
  · rw [ex, ey]
    exact ⟨hp, hq, k⟩
theorem i_un {gg : Int → PyData} (k : fa ρ h (fun x h1 => ∃ i, x = .d (.int i) ∧ Q (.d (gg i)) h1) E) : fUn gg fa ρ h Q E := by
  have e : (fun (x : D) (h1 : Ho) => ∃ i, x = .d (.int i) ∧ Q (.d (gg i)) h1) = (fun x h1 => match x with
      | .d (.int i) => Q (.d (gg i)) h1
      | _ => False) := by
    funext x h1
    apply propext
    constructor
    · rintro ⟨i, rfl, q⟩; exact q
    · split
      · exact fun q => ⟨_, rfl, q⟩
      · exact False.elim
  rw [e] at k
  exact k
theorem i_val (k : fa ρ h (fun x h1 => ∃ b, x = .d (.bool b) ∧ QT b h1) E) : tVal fa ρ h QT E := by
  have e : (fun (x : D) (h1 : Ho) => ∃ b, x = .d (.bool b) ∧ QT b h1) = (fun x h1 => match x with
      | .d (.bool b) => QT b h1
      | _ => False) := by
    funext x h1
    apply propext
    constructor
    · rintro ⟨i, rfl, q⟩; exact q
    · split
      · exact fun q => ⟨_, rfl, q⟩
      · exact False.elim
  rw [e] at k
  exact k
theorem i_isb {P : Bool → Prop} (k : P b) : ∃ b', D.d (.bool b) = .d (.bool b') ∧ P b' := ⟨b, rfl, k⟩
theorem i_isi {P : Int → Prop} (k : P i) : ∃ i', D.d (.int i) = .d (.int i') ∧ P i' := ⟨i, rfl, k⟩
theorem i_isr {P : Int → Prop} (k : P i) : ∃ i', [D.d (.int i)] = [.d (.int i')] ∧ P i' := ⟨i, rfl, k⟩
theorem i_and2 (k : t ρ h (fun b h1 => if b = true then u ρ h1 QT E else QT false h1) E) : tAnd2 t u ρ h QT E := k
theorem i_or2 (k : t ρ h (fun b h1 => if b = true then QT true h1 else u ρ h1 QT E) E) : tOr2 t u ρ h QT E := k
theorem i_not2 (k : t ρ h (fun b h1 => QT (!b) h1) E) : tNot2 t ρ h QT E := k
theorem i_fif (k : t ρ h (fun b h1 => if b = true then fa ρ h1 Q E else fb ρ h1 Q E) E) : fIf t fa fb ρ h Q E := k
theorem i_ifT {p q : Prop} (e : b = true) (k : p) : if b = true then p else q := by rw [if_pos e]; exact k
theorem i_ifF {p q : Prop} (e : b = false) (k : q) : if b = true then p else q := by rw [e, if_neg (by decide)]; exact k
theorem i_ite {p q : Prop} (k1 : b = true → p) (k2 : b = false → q) : if b = true then p else q := by
  cases b with
  | true => rw [if_pos rfl]; exact k1 rfl
  | false => rw [if_neg (by decide)]; exact k2 rfl
inductive AllD : List D → List PyData → Prop
  | nil : AllD [] []
  | cons {p : PyData} {xs : List D} {ps : List PyData} : AllD xs ps → AllD (.d p :: xs) (p :: ps)
theorem AllD.eq {xs : List D} {ps : List PyData} (a : AllD xs ps) : allD xs = some ps := by
  induction a with
  | nil => rfl
  | cons _ ih => simp only [allD, ih, Option.map_some, Option.bind_some]
theorem allD_iff : ∀ {xs : List D} {ps : List PyData}, allD xs = some ps → AllD xs ps
  | [], ps, e => by cases e; exact .nil
  | .d p :: xs, ps, e => by
    simp only [allD, Option.map_eq_some_iff] at e
    obtain ⟨qs, e1, rfl⟩ := e
    exact .cons (allD_iff e1)
  | .loc _ :: xs, ps, e => by cases e
  | .tp _ :: xs, ps, e => by cases e
  | .ob _ _ :: xs, ps, e => by cases e
  | .pr _ _ :: xs, ps, e => by cases e
theorem m_allD {P : List PyData → Ho → Prop} : (fun (xs : List D) (h1 : Ho) => ∃ ps, AllD xs ps ∧ P ps h1) = (fun xs h1 => match allD xs with
    | some ps => P ps h1
    | none => False) := by
  funext xs h1
  apply propext
  constructor
  · rintro ⟨ps, a, q⟩
    rw [a.eq]
    exact q
  · split
    · rename_i ps e
      exact fun q => ⟨ps, allD_iff e, q⟩
    · exact False.elim
theorem i_tup (k : ga ρ h (fun xs h1 => ∃ ps, AllD xs ps ∧ ps.length ≤ sizeLine ∧ Q (.d (.tuple ps)) h1) E) : fTup ga ρ h Q E := by
  rw [m_allD (P := fun ps h1 => ps.length ≤ sizeLine ∧ Q (.d (.tuple ps)) h1)] at k
  exact k
theorem i_lst (k : ga ρ h (fun xs h1 => ∃ ps, AllD xs ps ∧ ps.length ≤ sizeLine ∧ Q (.d (.list ps)) h1) E) : fLst ga ρ h Q E := by
  rw [m_allD (P := fun ps h1 => ps.length ≤ sizeLine ∧ Q (.d (.list ps)) h1)] at k
  exact k
theorem i_all {xs : List D} {ps : List PyData} {P : List PyData → Prop} (a : AllD xs ps) (l : ps.length ≤ sizeLine) (k : P ps) : ∃ ps, AllD xs ps ∧ ps.length ≤ sizeLine ∧ P ps := ⟨ps, a, l, k⟩
theorem i_loc (k : ga ρ h (fun xs h1 => xs.length ≤ sizeLine ∧ Q (.loc h1.length) (h1 ++ [.lst xs])) E) : fLoc ga ρ h Q E := k
/-- subscripts -/
theorem i_ix {xs : List D} (e : items h x = some xs) (ea : L2.atI xs i = some y) (k : Q y h) : rIx2 x (.d (.int i)) h Q := by
  simp only [rIx2, e, ea]
  exact k
/-- calls -/
theorem i_call {r : WR} (k : ga ρ h (fun xs h1 => r xs h1 Q) E) : fCall r ga ρ h Q E := k
theorem i_fn {F : WF} (k : ga ρ h (fun xs h1 => F xs h1 Q E) E) : fFn F ga ρ h Q E := k
theorem i_fnk {F : WF} {ix : List Nat} {n : Nat} (k : ga ρ h (fun xs h1 => xs.length = n ∧ ∃ ys, V2.pick ix xs = ys ∧ F ys h1 Q E) E) : fFnK ix n F ga ρ h Q E := by
  have e : (fun (xs : List D) (h1 : Ho) => xs.length = n ∧ ∃ ys, V2.pick ix xs = ys ∧ F ys h1 Q E) = (fun xs h1 => xs.length = n ∧ F (V2.pick ix xs) h1 Q E) := by
    funext xs h1
    apply propext
    exact ⟨fun ⟨a, ys, e, q⟩ => ⟨a, by rw [e]; exact q⟩, fun ⟨a, q⟩ => ⟨a, _, rfl, q⟩⟩
  rw [e] at k
  exact k
theorem i_pk1 {P : List D → Prop} (k : P [x]) : [x].length = 1 ∧ ∃ ys, V2.pick [0] [x] = ys ∧ P ys := ⟨rfl, _, rfl, k⟩
theorem i_pk2 {P : List D → Prop} (k : P [y, x]) : [x, y].length = 2 ∧ ∃ ys, V2.pick [1, 0] [x, y] = ys ∧ P ys := ⟨rfl, _, rfl, k⟩
theorem i_abs (k : Q (.d (.int (if i < 0 then -i else i))) h) : rAbs [.d (.int i)] h Q := k
theorem i_toint (k : Q (.d (.int i)) h) : rInt1 [.d (.int i)] h Q := k
theorem i_gcd (k : Q (.d (.int (Nat.gcd i.natAbs j.natAbs : Nat))) h) : rGcd2 [.d (.int i), .d (.int j)] h Q := k
theorem i_len {xs : List D} (e : items h x = some xs) (k : Q (.d (.int xs.length)) h) : rLen [x] h Q := by
  simp only [rLen, e]
  exact k
theorem i_repr {p : PyData} (hs : p.showable = true) (hd : p.depth < 60) (hz : p.shown.length ≤ sizeLine) (k : Q (.d (.str p.shown)) h) : rRepr [.d p] h Q := ⟨hs, hd, hz, k⟩
theorem i_fand (k : fa ρ h (fun x h1 => ∃ b, x = .d (.bool b) ∧ if b = true then fb ρ h1 Q E else Q (.d (.bool false)) h1) E) : fAnd fa fb ρ h Q E := by
  have e : (fun (x : D) (h1 : Ho) => ∃ b, x = .d (.bool b) ∧ if b = true then fb ρ h1 Q E else Q (.d (.bool false)) h1) = (fun x h1 => match x with
      | .d (.bool true) => fb ρ h1 Q E
      | .d (.bool false) => Q (.d (.bool false)) h1
      | _ => False) := by
    funext x h1
    apply propext
    constructor
    · rintro ⟨b, rfl, q⟩
      cases b with
      | true => simpa using q
      | false => simpa using q
    · split
      · exact fun q => ⟨true, rfl, by simpa using q⟩
      · exact fun q => ⟨false, rfl, by simpa using q⟩
      · exact False.elim
  rw [e] at k
  exact k
/-- statements -/
theorem i_mir {xs : List D} {n m : Nat} {l : En} (hl : xs.length = m) (p : Pad (n - m) l) (q : Pre xs l ρ) (k : f ρ h ⟨fun _ h => Q (.d .none) h, Q, fun _ _ => False, fun _ _ => False, fun x _ h => E x h⟩) : mir n m f xs h Q E := by
  refine ⟨hl, ?_⟩
  rw [← p.eq, q.eq]
  exact k
theorem i_seq (k : f ρ h ⟨fun ρ1 h1 => g ρ1 h1 ⟨nx, rt, bk, ct, ex⟩, rt, bk, ct, ex⟩) : sSeq f g ρ h ⟨nx, rt, bk, ct, ex⟩ := k
theorem i_next (k : nx ρ h) : sNext ρ h ⟨nx, rt, bk, ct, ex⟩ := k
theorem i_ret (k : fa ρ h rt (fun x h => ex x ρ h)) : sRet fa ρ h ⟨nx, rt, bk, ct, ex⟩ := k
theorem i_drop (k : fa ρ h (fun _ h1 => nx ρ h1) (fun x h => ex x ρ h)) : sDrop fa ρ h ⟨nx, rt, bk, ct, ex⟩ := k
theorem i_brk (k : bk ρ h) : sBrk ρ h ⟨nx, rt, bk, ct, ex⟩ := k
theorem i_if (k : t ρ h (fun b h1 => if b = true then f ρ h1 ⟨nx, rt, bk, ct, ex⟩ else g ρ h1 ⟨nx, rt, bk, ct, ex⟩) (fun x h => ex x ρ h)) : sIf t f g ρ h ⟨nx, rt, bk, ct, ex⟩ := k
theorem i_asgn {n : Nat} (k : fa ρ h (fun x h1 => ∃ ρ1, SetAt n ρ x ρ1 ∧ nx ρ1 h1) (fun x h => ex x ρ h)) (hn : n < ρ.length) : sAsg fa (gNm n) ρ h ⟨nx, rt, bk, ct, ex⟩ := by
  have e : (fun (x : D) (h1 : Ho) => ∃ ρ1, SetAt n ρ x ρ1 ∧ nx ρ1 h1) = fun x h1 => nx (ρ.set n (some x)) h1 := by
    funext x h1
    apply propext
    constructor
    · rintro ⟨ρ1, s, q⟩
      rw [s.eq]
      exact q
    · intro q
      refine ⟨_, ?_, q⟩
      clear k q
      induction n generalizing ρ with
      | zero =>
        cases ρ with
        | nil => exact absurd hn (by simp)
        | cons a l => exact .zero
      | succ n ih =>
        cases ρ with
        | nil => exact absurd hn (by simp)
        | cons a l => exact .succ (ih (by simpa using hn))
  rw [e] at k
  exact k
theorem i_set {n : Nat} {P : En → Prop} (s : SetAt n ρ x ρ1) (k : P ρ1) : ∃ ρ1, SetAt n ρ x ρ1 ∧ P ρ1 := ⟨ρ1, s, k⟩
/-- a, b = a pair -/
theorem i_asg2 {n m : Nat} (k : fa ρ h (fun x h1 => ∃ p q ρ1 ρ2, x = .d (.tuple [p, q]) ∧ SetAt n ρ (.d p) ρ1 ∧ SetAt m ρ1 (.d q) ρ2 ∧ nx ρ2 h1) (fun x h => ex x ρ h)) (mo : ∀ (P P' : KD), (∀ x h, P x h → P' x h) → fa ρ h P (fun x h => ex x ρ h) → fa ρ h P' (fun x h => ex x ρ h)) : sAsg fa (gTp 2 (gsCons (gNm n) (gsCons (gNm m) gsNil))) ρ h ⟨nx, rt, bk, ct, ex⟩ := by
  refine mo _ _ (fun x h1 => ?_) k
  rintro ⟨p, q, ρ1, ρ2, rfl, s1, s2, hq⟩
  have e : gTp 2 (gsCons (gNm n) (gsCons (gNm m) gsNil)) (.d (.tuple [p, q])) h1 ρ = some ρ2 := by
    simp only [gTp, items, List.map_cons, List.map_nil, List.length_cons, List.length_nil, if_true, gsCons, gNm, gsNil, Option.bind_some, s1.eq, s2.eq]
  rw [e]
  exact hq
theorem mo_var {n : Nat} (P P' : KD) (p : ∀ x h, P x h → P' x h) : fVar n ρ h P E → fVar n ρ h P' E := by
  unfold fVar
  split
  · exact p _ _
  · exact id
theorem i_asg2v {n m l : Nat} {p q : PyData} (e : GetAt l ρ (.d (.tuple [p, q]))) (s1 : SetAt n ρ (.d p) ρ1) (s2 : SetAt m ρ1 (.d q) ρ2) (k : nx ρ2 h) : sAsg (fVar l) (gTp 2 (gsCons (gNm n) (gsCons (gNm m) gsNil))) ρ h ⟨nx, rt, bk, ct, ex⟩ :=
  i_asg2 (i_var e ⟨p, q, ρ1, ρ2, rfl, s1, s2, k⟩) fun P P' hp => mo_var P P' hp
theorem i_par {n m : Nat} (k : ga ρ h (fun xs h1 => ∃ x y ρ1 ρ2, xs = [x, y] ∧ SetAt n ρ x ρ1 ∧ SetAt m ρ1 y ρ2 ∧ nx ρ2 h1) (fun x h => ex x ρ h)) (hn : n < ρ.length) (hm : m < ρ.length) : sPar n m ga ρ h ⟨nx, rt, bk, ct, ex⟩ := by
  have st : ∀ (n : Nat) (ρ : En) (x : D), n < ρ.length → SetAt n ρ x (ρ.set n (some x)) := by
    intro n
    induction n with
    | zero =>
      intro ρ x hn
      cases ρ with
      | nil => exact absurd hn (by simp)
      | cons a l => exact .zero
    | succ n ih =>
      intro ρ x hn
      cases ρ with
      | nil => exact absurd hn (by simp)
      | cons a l => exact .succ (ih _ _ (by simpa using hn))
  have e : (fun (xs : List D) (h1 : Ho) => ∃ x y ρ1 ρ2, xs = [x, y] ∧ SetAt n ρ x ρ1 ∧ SetAt m ρ1 y ρ2 ∧ nx ρ2 h1) = (fun xs h1 => match xs with
      | [x, y] => nx ((ρ.set n (some x)).set m (some y)) h1
      | _ => False) := by
    funext xs h1
    apply propext
    constructor
    · rintro ⟨x, y, ρ1, ρ2, rfl, s1, s2, hq⟩
      simp only
      rw [s1.eq, s2.eq]
      exact hq
    · split
      · intro hq
        exact ⟨_, _, _, _, rfl, st _ _ _ hn, st _ _ _ (by simpa using hm), hq⟩
      · exact False.elim
  rw [e] at k
  exact k
theorem i_pair {n m : Nat} {P : En → Prop} (s1 : SetAt n ρ x ρ1) (s2 : SetAt m ρ1 y ρ2) (k : P ρ2) : ∃ x' y' ρ1 ρ2, [x, y] = [x', y'] ∧ SetAt n ρ x' ρ1 ∧ SetAt m ρ1 y' ρ2 ∧ P ρ2 := ⟨x, y, ρ1, ρ2, rfl, s1, s2, k⟩
theorem i_par3 {n m l : Nat} (k : ga ρ h (fun xs h1 => ∃ x y z ρ1 ρ2 ρ3, xs = [x, y, z] ∧ SetAt n ρ x ρ1 ∧ SetAt m ρ1 y ρ2 ∧ SetAt l ρ2 z ρ3 ∧ nx ρ3 h1) (fun x h => ex x ρ h)) (hn : n < ρ.length) (hm : m < ρ.length) (hl : l < ρ.length) : sPar3 n m l ga ρ h ⟨nx, rt, bk, ct, ex⟩ := by
  have st : ∀ (n : Nat) (ρ : En) (x : D), n < ρ.length → SetAt n ρ x (ρ.set n (some x)) := by
    intro n
    induction n with
    | zero =>
      intro ρ x hn
      cases ρ with
      | nil => exact absurd hn (by simp)
      | cons a l => exact .zero
    | succ n ih =>
      intro ρ x hn
      cases ρ with
      | nil => exact absurd hn (by simp)
      | cons a l => exact .succ (ih _ _ (by simpa using hn))
  have e : (fun (xs : List D) (h1 : Ho) => ∃ x y z ρ1 ρ2 ρ3, xs = [x, y, z] ∧ SetAt n ρ x ρ1 ∧ SetAt m ρ1 y ρ2 ∧ SetAt l ρ2 z ρ3 ∧ nx ρ3 h1) = (fun xs h1 => match xs with
      | [x, y, z] => nx (((ρ.set n (some x)).set m (some y)).set l (some z)) h1
      | _ => False) := by
    funext xs h1
    apply propext
    constructor
    · rintro ⟨x, y, z, ρ1, ρ2, ρ3, rfl, s1, s2, s3, hq⟩
      simp only
      rw [s1.eq, s2.eq, s3.eq]
      exact hq
    · split
      · intro hq
        exact ⟨_, _, _, _, _, _, rfl, st _ _ _ hn, st _ _ _ (by simpa using hm), st _ _ _ (by simpa using hl), hq⟩
      · exact False.elim
  rw [e] at k
  exact k
theorem i_trip {n m l : Nat} {P : En → Prop} (s1 : SetAt n ρ x ρ1) (s2 : SetAt m ρ1 y ρ2) (s3 : SetAt l ρ2 z ρ3) (k : P ρ3) : ∃ x' y' z' ρ1 ρ2 ρ3, [x, y, z] = [x', y', z'] ∧ SetAt n ρ x' ρ1 ∧ SetAt m ρ1 y' ρ2 ∧ SetAt l ρ2 z' ρ3 ∧ P ρ3 := ⟨x, y, z, ρ1, ρ2, ρ3, rfl, s1, s2, s3, k⟩
theorem i_raise {cn fld : Str} (k : ga ρ h (fun xs h1 => ∃ y, xs = [y] ∧ ex ⟨cn, some (fld, y)⟩ ρ h1) (fun x h => ex x ρ h)) : sRaise cn fld ga ρ h ⟨nx, rt, bk, ct, ex⟩ := by
  have e : (fun (xs : List D) (h1 : Ho) => ∃ y, xs = [y] ∧ ex ⟨cn, some (fld, y)⟩ ρ h1) = (fun xs h1 => match xs with
      | [y] => ex ⟨cn, some (fld, y)⟩ ρ h1
      | _ => False) := by
    funext xs h1
    apply propext
    constructor
    · rintro ⟨j, rfl, hq⟩; exact hq
    · split
      · exact fun hq => ⟨_, rfl, hq⟩
      · exact False.elim
  rw [e] at k
  exact k
theorem i_one {P : D → Prop} (k : P x) : ∃ y, [x] = [y] ∧ P y := ⟨x, rfl, k⟩
/-- for -/
theorem for_ind {st : Ho → Prop} {wg : WG} {xs : List D} (I : Nat → En → Ho → Prop)
    (hs : ∀ k x ρ h (G : En → Ho → Prop), xs[k]? = some x → I k ρ h → (∀ ρ2 h2, I (k + 1) ρ2 h2 → G ρ2 h2) → ∃ ρ1, wg x h ρ = some ρ1 ∧ f ρ1 h ⟨fun ρ2 h2 => st h2 ∧ G ρ2 h2, rt, nx, fun ρ2 h2 => st h2 ∧ G ρ2 h2, ex⟩)
    (he : ∀ ρ h, I xs.length ρ h → nx ρ h) (h0 : I 0 ρ h) : forGo wg f ⟨nx, rt, bk, ct, ex⟩ st xs ρ h := by
  have aux : ∀ (ys : List D) (k : Nat), (∀ j, ys[j]? = xs[k + j]?) → k + ys.length = xs.length → ∀ ρ h, I k ρ h → forGo wg f ⟨nx, rt, bk, ct, ex⟩ st ys ρ h := by
    intro ys
    induction ys with
    | nil => intro k _ hl ρ h hi; exact he ρ h (by rw [← hl]; simpa using hi)
    | cons y ys ih =>
      intro k hj hl ρ h hi
      obtain ⟨ρ1, e1, e2⟩ := hs k y ρ h (fun ρ2 h2 => forGo wg f ⟨nx, rt, bk, ct, ex⟩ st ys ρ2 h2) (by rw [← Nat.add_zero k, ← hj 0]; rfl) hi (fun ρ2 h2 i2 => ih (k + 1) (fun j => by rw [Nat.add_assoc, Nat.add_comm 1 j, ← hj (j + 1)]; rfl) (by rw [← hl, List.length_cons]; omega) ρ2 h2 i2)
      unfold forGo
      rw [e1]
      exact e2
  exact aux xs 0 (fun j => by rw [Nat.zero_add]) (by simp) ρ h h0
theorem i_for {wi : WI} {wg : WG} (k : wi ρ h (fun xs st h1 => forGo wg f ⟨nx, rt, bk, ct, ex⟩ st xs ρ h1) (fun x h => ex x ρ h)) : sFor wi wg f ρ h ⟨nx, rt, bk, ct, ex⟩ := k
theorem i_range1 {QI : List D → (Ho → Prop) → Ho → Prop} (k : ga ρ h (fun ys h1 => ∃ j, ys = [.d (.int j)] ∧ -(2 ^ 62) ≤ j ∧ j < 2 ^ 62 ∧ QI (rangeD 0 j.toNat) (fun _ => True) h1) E) : iRange1 ga ρ h QI E := by
  have e : (fun (ys : List D) (h1 : Ho) => ∃ j, ys = [.d (.int j)] ∧ -(2 ^ 62) ≤ j ∧ j < 2 ^ 62 ∧ QI (rangeD 0 j.toNat) (fun _ => True) h1) = (fun ys h1 => match ys with
      | [.d (.int j)] => -(2 ^ 62) ≤ j ∧ j < 2 ^ 62 ∧ QI (rangeD 0 j.toNat) (fun _ => True) h1
      | _ => False) := by
    funext ys h1
    apply propext
    constructor
    · rintro ⟨j, rfl, hq⟩; exact hq
    · split
      · exact fun hq => ⟨_, rfl, hq⟩
      · exact False.elim
  rw [e] at k
  exact k
theorem i_iseq {QI : List D → (Ho → Prop) → Ho → Prop} {xs : List D} {n : Nat} (e : GetAt n ρ x) (ei : items h x = some xs) (k : QI xs (stay x xs) h) : iSeq (fVar n) ρ h QI E := by
  refine i_var e ?_
  simp only [ei]
  exact k
/-- comprehensions whose list is data: test and item leave the store alone -/
theorem lc_ind {st : Ho → Prop} {wg : WG} {tt : WT} {te : WE} {hb : Ho} {QH : Ho → Prop} {xs : List D} (I : Nat → List D → Prop) (hst : ∀ h, st h)
    (hs : ∀ k x acc, xs[k]? = some x → I k acc → ∃ ρ1 b, wg x (hb ++ [.lst acc]) ρ = some ρ1 ∧ (∀ P : Bool → Ho → Prop, P b (hb ++ [.lst acc]) → tt ρ1 (hb ++ [.lst acc]) P noX) ∧
      (b = true → ∃ y, (∀ P : KD, P y (hb ++ [.lst acc]) → te ρ1 (hb ++ [.lst acc]) P noX) ∧ acc.length < sizeLine ∧ I (k + 1) (acc ++ [y])) ∧ (b = false → I (k + 1) acc))
    (he : ∀ acc, I xs.length acc → QH (hb ++ [.lst acc])) (h0 : I 0 []) : lcGo wg tt te st hb.length ρ QH xs (hb ++ [.lst []]) := by
  have aux : ∀ (ys : List D) (k : Nat), (∀ j, ys[j]? = xs[k + j]?) → k + ys.length = xs.length → ∀ acc, I k acc → lcGo wg tt te st hb.length ρ QH ys (hb ++ [.lst acc]) := by
    intro ys
    induction ys with
    | nil => intro k _ hl acc hi; exact he acc (by rw [← hl]; simpa using hi)
    | cons y ys ih =>
      intro k hj hl acc hi
      obtain ⟨ρ1, b, e1, e2, e3, e4⟩ := hs k y acc (by rw [← Nat.add_zero k, ← hj 0]; rfl) hi
      have ihk := ih (k + 1) (fun j => by rw [Nat.add_assoc, Nat.add_comm 1 j, ← hj (j + 1)]; rfl) (by rw [← hl, List.length_cons]; omega)
      unfold lcGo
      rw [e1]
      refine e2 _ ?_
      cases b with
      | true =>
        rw [if_pos rfl]
        obtain ⟨z, f1, f2, f3⟩ := e3 rfl
        refine f1 _ ?_
        have g1 : (hb ++ [O.lst acc])[hb.length]? = some (.lst acc) := by simp
        have g2 : (hb ++ [O.lst acc]).set hb.length (.lst (acc ++ [z])) = hb ++ [.lst (acc ++ [z])] := by simp
        simp only [g1, g2]
        exact ⟨f2, hst _, ihk _ f3⟩
      | false =>
        rw [if_neg (by decide)]
        exact ⟨hst _, ihk _ (e4 rfl)⟩
  exact aux xs 0 (fun j => by rw [Nat.zero_add]) (by simp) [] h0
end
end V2
set_option Elab.async false
set_option linter.all false
set_option maxRecDepth 100000
set_option maxHeartbeats 4000000
/-! ## Fractions as data -/
namespace V2
open PySem PySem.Spec PyProof.Rows L2
abbrev fr (q : Rat) : PyData := .tuple [.int q.num, .int q.den]
/-- no greater than n binary figures -/
def Sz (n : Nat) (q : Rat) : Prop := q.num.natAbs < 2 ^ n ∧ q.den < 2 ^ n
theorem log2_lt {k n : Nat} (hk : 0 < n) (h : k < 2 ^ n) : k.log2 < n := by
  by_cases z : k = 0
  · subst z; have e : Nat.log2 0 = 0 := by decide
    rw [e]; exact hk
  · exact (Nat.log2_lt z).mpr h
theorem Sz.mono {n m : Nat} {q : Rat} (s : Sz n q) (h : n ≤ m) : Sz m q :=
  ⟨Nat.lt_of_lt_of_le s.1 (Nat.pow_le_pow_right (by decide) h), Nat.lt_of_lt_of_le s.2 (Nat.pow_le_pow_right (by decide) h)⟩
theorem Sz.neg {n : Nat} {q : Rat} (s : Sz n q) : Sz n (-q) := ⟨by rw [Rat.neg_num, Int.natAbs_neg]; exact s.1, by rw [Rat.neg_den]; exact s.2⟩
theorem mul_lt_pow {a b n m : Nat} (h1 : a < 2 ^ n) (h2 : b < 2 ^ m) : a * b < 2 ^ (n + m) := by
  rw [Nat.pow_add]
  exact Nat.mul_lt_mul'' h1 h2
theorem Sz.mk' {n : Nat} {p : Int} {q : Nat} (z : q ≠ 0) (h1 : p.natAbs < 2 ^ n) (h2 : q < 2 ^ n) : Sz n (mkRat p q) := by
  unfold Sz
  rw [Rat.num_mkRat, Rat.den_mkRat, if_neg z, if_neg z]
  refine ⟨?_, Nat.lt_of_le_of_lt (Nat.div_le_self _ _) h2⟩
  rw [Int.natAbs_ediv_of_dvd (Int.ofNat_dvd_left.2 (Nat.gcd_dvd_right _ _)), Int.natAbs_natCast]
  exact Nat.lt_of_le_of_lt (Nat.div_le_self _ _) h1
theorem den_mul_ne (a b : Rat) : a.den * b.den ≠ 0 := Nat.mul_ne_zero a.den_nz b.den_nz
theorem add_mk (a b : Rat) : a + b = mkRat (a.num * b.den + b.num * a.den) (a.den * b.den) := by
  conv => lhs; rw [← Rat.mkRat_self a, ← Rat.mkRat_self b, Rat.mkRat_add_mkRat _ _ a.den_nz b.den_nz]
theorem mul_mk (a b : Rat) : a * b = mkRat (a.num * b.num) (a.den * b.den) := by
  conv => lhs; rw [← Rat.mkRat_self a, ← Rat.mkRat_self b, Rat.mkRat_mul_mkRat]
theorem Sz.mul {n m : Nat} {a b : Rat} (s : Sz n a) (t : Sz m b) : Sz (n + m) (a * b) := by
  rw [mul_mk]
  exact .mk' (den_mul_ne a b) (by rw [Int.natAbs_mul]; exact mul_lt_pow s.1 t.1) (mul_lt_pow s.2 t.2)
theorem Sz.add {n m : Nat} {a b : Rat} (s : Sz n a) (t : Sz m b) : Sz (n + m + 1) (a + b) := by
  rw [add_mk]
  have h1 : (a.num * b.den).natAbs < 2 ^ (n + m) := by rw [Int.natAbs_mul]; exact mul_lt_pow s.1 t.2
  have h2 : (b.num * a.den).natAbs < 2 ^ (n + m) := by rw [Int.natAbs_mul, Nat.mul_comm]; exact mul_lt_pow s.2 t.1
  have h3 := Int.natAbs_add_le (a.num * b.den) (b.num * a.den)
  have h4 := mul_lt_pow s.2 t.2
  exact .mk' (den_mul_ne a b) (by rw [Nat.pow_succ]; omega) (by rw [Nat.pow_succ]; omega)
theorem Sz.sub {n m : Nat} {a b : Rat} (s : Sz n a) (t : Sz m b) : Sz (n + m + 1) (a - b) := by
  rw [Rat.sub_eq_add_neg]
  exact s.add t.neg
/-! ### the text of data made of ints -/
theorem shown_int_len {i : Int} {n : Nat} (h0 : 0 < n) (h : i.natAbs < 2 ^ n) : (PyData.int i).shown.length ≤ n + 1 := by
  have e := int_text_length_le10 (k := n) h0 (Nat.lt_of_lt_of_le h (Nat.pow_le_pow_left (by decide) n))
  show (Str.ofString (toString i)).length ≤ n + 1
  rw [PySem.ofString_length]; exact e
theorem fr_leaves {q : Rat} {n : Nat} (h0 : 0 < n) (s : Sz n q) : PyData.leavesShort (n + 1) (fr q) = true := by
  simp only [fr, PyData.leavesShort, PyData.leavesShortAll, Bool.and_true, Bool.and_eq_true, decide_eq_true_eq]
  exact ⟨shown_int_len h0 s.1, shown_int_len h0 (by simpa using s.2)⟩
theorem fr_showable {q : Rat} {n : Nat} (h0 : 0 < n) (hn : n ≤ 1920) (s : Sz n q) : (fr q).showable = true := by
  have h1 := log2_lt h0 s.1
  have h2 := log2_lt h0 s.2
  simp only [fr, PyData.showable, PyData.showableAll, Bool.and_true, Bool.and_eq_true, decide_eq_true_eq, Int.natAbs_natCast]
  omega
theorem fr_len {q : Rat} {n : Nat} (h0 : 8 ≤ n) (hn : n ≤ 1920) (s : Sz n q) : (fr q).shown.length ≤ sizeLine := by
  have h := PyData.shown_le_bulk (n + 1) (by omega) (fr q) (fr_leaves (by omega) s)
  have e : (fr q).bulk = 2 := rfl
  rw [e] at h
  have : sizeLine = 2 ^ 24 := rfl
  omega
/-! ### quotients -/
theorem fdiv_nat (i : Int) (k : Nat) : i.fdiv k = i / (k : Int) := Int.fdiv_eq_ediv_of_nonneg i (Int.natCast_nonneg k)
theorem cdiv_nat {i : Int} {k n : Nat} (h0 : k ≠ 0) (hn : 0 < n) (h : k < 2 ^ n) (h2 : n ≤ 9000) : CDivA i (k : Int) := by
  refine ⟨by exact_mod_cast h0, ?_⟩
  rw [Int.natAbs_natCast]
  exact Nat.lt_of_lt_of_le (log2_lt hn h) h2
/-- what is told as top and bottom, in lowest terms -/
theorem low_eq {p : Int} {q : Nat} (h : q ≠ 0) : fr (mkRat p q) = .tuple [.int (p.fdiv (Nat.gcd p.natAbs q : Nat)), .int ((q : Int).fdiv (Nat.gcd p.natAbs q : Nat))] := by
  unfold fr
  rw [Rat.num_mkRat, Rat.den_mkRat, if_neg h, if_neg h, fdiv_nat, fdiv_nat, Nat.gcd_comm q p.natAbs, Int.natCast_ediv]
end V2
set_option Elab.async false
set_option linter.all false
set_option maxRecDepth 100000
set_option maxHeartbeats 4000000
namespace V2
def big : Nat := 4000
open PySem PySem.Spec PyProof.Rows L2
theorem plus_eq (a b : Rat) {g g2 : Nat} {t s' top : Int} (hg : g = Nat.gcd a.den b.den) (ht : t = (a.den : Int).fdiv (g : Nat)) (hs : s' = (b.den : Int).fdiv (g : Nat)) (htop : top = a.num * s' + b.num * t) (hg2 : g2 = Nat.gcd top.natAbs g) :
    fr (a + b) = .tuple [.int (top.fdiv (g2 : Nat)), .int (t * (b.den : Int).fdiv (g2 : Nat))] := by
  have hq := Nat.pos_of_ne_zero a.den_nz
  have hb := Nat.pos_of_ne_zero b.den_nz
  have gp : 0 < g := by rw [hg]; exact Nat.gcd_pos_of_pos_left _ hq
  obtain ⟨q', eq⟩ : g ∣ a.den := by rw [hg]; exact Nat.gcd_dvd_left _ _
  obtain ⟨r', er⟩ : g ∣ b.den := by rw [hg]; exact Nat.gcd_dvd_right _ _
  have e1 : a.den / g = q' := by rw [eq, Nat.mul_div_cancel_left _ gp]
  have e2 : b.den / g = r' := by rw [er, Nat.mul_div_cancel_left _ gp]
  have t1 : t = (q' : Int) := by rw [ht, fdiv_nat, ← Int.natCast_ediv, e1]
  have s1 : s' = (r' : Int) := by rw [hs, fdiv_nat, ← Int.natCast_ediv, e2]
  have aux := Rat.add.aux a b hg rfl rfl
  rw [e1, e2] at aux
  simp only at aux
  have htop' : top = a.num * (r' : Int) + b.num * (q' : Int) := by rw [htop, s1, t1]
  rw [← htop', ← hg2] at aux
  have q'p : 0 < q' := Nat.pos_of_ne_zero fun z => by subst z; simp at eq; omega
  have dn : q' * b.den ≠ 0 := Nat.mul_ne_zero (by omega) (by omega)
  have ev : a + b = mkRat top (q' * b.den) := by
    rw [add_mk, Rat.mkRat_eq_iff (den_mul_ne a b) dn, htop', eq, er]
    simp only [Int.natCast_mul]
    grind
  rw [ev, low_eq dn, ← aux, t1]
  congr 3
  have d2 : g2 ∣ b.den := by rw [hg2]; exact Nat.dvd_trans (Nat.gcd_dvd_right _ _) ⟨r', er⟩
  rw [fdiv_nat, fdiv_nat, ← Int.natCast_ediv, ← Int.natCast_ediv, Nat.mul_div_assoc _ d2, Int.natCast_mul]
theorem times_eq (a b : Rat) {g1 g2 : Nat} (h1 : g1 = Nat.gcd a.num.natAbs b.den) (h2 : g2 = Nat.gcd b.num.natAbs a.den) :
    fr (a * b) = .tuple [.int ((a.num.fdiv (g1 : Nat)) * (b.num.fdiv (g2 : Nat))), .int (((a.den : Int).fdiv (g2 : Nat)) * ((b.den : Int).fdiv (g1 : Nat)))] := by
  show fr (Rat.mul a b) = _
  rw [Rat.mul.eq_1]
  unfold fr
  simp only [Int.divExact_eq_ediv, Nat.divExact_eq_div, fdiv_nat, ← h1, ← h2, Int.natCast_mul, Int.natCast_ediv]
theorem neg_eq (a : Rat) : fr (-a) = .tuple [.int (-a.num), .int a.den] := by
  unfold fr
  rw [Rat.neg_num, Rat.neg_den]
theorem inv_pos (b : Rat) (h : 0 < b.num) : fr b⁻¹ = .tuple [.int b.den, .int b.num] := by
  show fr (Rat.inv b) = _
  rw [Rat.inv.eq_1, dif_neg (by omega), dif_pos h]
  unfold fr
  simp only [Int.natAbs_of_nonneg (Int.le_of_lt h)]
theorem inv_neg (b : Rat) (h : b.num < 0) : fr b⁻¹ = .tuple [.int (-b.den), .int (-b.num)] := by
  show fr (Rat.inv b) = _
  rw [Rat.inv.eq_1, dif_pos h]
  unfold fr
  simp only [Int.ofNat_natAbs_of_nonpos (Int.le_of_lt h)]
theorem Sz.inv {n : Nat} {b : Rat} (s : Sz n b) (h : b ≠ 0) : Sz n b⁻¹ := by
  have hz : b.num ≠ 0 := fun z => h (Rat.num_eq_zero.1 z)
  show Sz n (Rat.inv b)
  rw [Rat.inv.eq_1]
  by_cases c : b.num < 0
  · rw [dif_pos c]
    exact ⟨by show (-(b.den : Int)).natAbs < _; rw [Int.natAbs_neg, Int.natAbs_natCast]; exact s.2, s.1⟩
  · rw [dif_neg c, dif_pos (by omega)]
    exact ⟨by show ((b.den : Int)).natAbs < _; rw [Int.natAbs_natCast]; exact s.2, s.1⟩
theorem Sz.div {n m : Nat} {a b : Rat} (s : Sz n a) (t : Sz m b) (h : b ≠ 0) : Sz (n + m) (a / b) := by
  rw [Rat.div_def]
  exact s.mul (t.inv h)
theorem v_fdiv_le (i : Int) (k : Nat) : (i.fdiv (k : Int)).natAbs ≤ i.natAbs := by
  rw [fdiv_nat]
  exact Int.natAbs_ediv_le_natAbs i k
theorem cmulw {i j : Int} {n : Nat} (hn : 0 < n) (h1 : i.natAbs < 2 ^ n) (h2 : j.natAbs < 2 ^ n) (h : n ≤ 9000) : CMulW i j := by
  have a := log2_lt hn h1
  have b := log2_lt hn h2
  unfold CMulW
  omega
theorem cdiv_gr {i : Int} {m k n : Nat} (h0 : k ≠ 0) (hn : 0 < n) (h : k < 2 ^ n) (h2 : n ≤ 9000) : CDivA i ((Nat.gcd m k : Nat) : Int) :=
  cdiv_nat (fun z => h0 (Nat.eq_zero_of_gcd_eq_zero_right z)) hn (Nat.lt_of_le_of_lt (Nat.gcd_le_right m (Nat.pos_of_ne_zero h0)) h) h2
theorem gcd_ne {m k : Nat} (h0 : k ≠ 0) : Nat.gcd m k ≠ 0 := fun z => h0 (Nat.eq_zero_of_gcd_eq_zero_right z)
theorem gcd_lt {m k n : Nat} (h0 : k ≠ 0) (h : k < 2 ^ n) : Nat.gcd m k < 2 ^ n := Nat.lt_of_le_of_lt (Nat.gcd_le_right m (Nat.pos_of_ne_zero h0)) h
theorem nab (k : Nat) : (k : Int).natAbs = k := Int.natAbs_natCast k
end V2
set_option Elab.async false
set_option linter.all false
set_option maxRecDepth 100000
set_option maxHeartbeats 4000000
/-! ## The drawn numbers -/
namespace V2
open PySem PySem.Spec PyProof.Rows L2
abbrev cell (i : Int) : D := .d (.int i)
/-- the store behind the start of a law: the drawn numbers, and the number that is mixed -/
structure Deal (rest : Ho) (h : Ho) : Prop where
  is : ∃ (cs : List Int) (mix : Int), h = .lst (cs.map cell) :: .lst [.loc 0, cell mix] :: rest ∧ cs.length ≤ 63 ∧ (∀ c ∈ cs, 0 ≤ c) ∧ 0 ≤ mix ∧ mix < 2 ^ 31
theorem shaped_ints (cs : List Int) : SeqAt.shaped (.list (cs.map PyData.int)) = true := by
  have h1 : ∀ cs : List Int, PyData.canLayAll0 (cs.map PyData.int) = true := by
    intro cs
    induction cs with
    | nil => rfl
    | cons c cs ih => simp only [List.map_cons, PyData.canLayAll0, PyData.canLay0, ih, Bool.and_self]
  have h2 : ∀ cs : List Int, PyData.depthAll (cs.map PyData.int) ≤ 63 := by
    intro cs
    induction cs with
    | nil => exact Nat.zero_le _
    | cons c cs ih => simp only [List.map_cons, PyData.depthAll, PyData.depth]; omega
  unfold SeqAt.shaped
  simp only [PyData.canLay0, PyData.depth, Bool.and_eq_true]
  exact ⟨h1 cs, decide_eq_true (Nat.succ_le_succ (h2 cs))⟩
theorem datum_cells {cs : List Int} {rest : Ho} : datum (.lst (cs.map cell) :: rest) (.loc 0) = some (.list (cs.map PyData.int)) := by
  have e : cs.map cell = (cs.map PyData.int).map D.d := by rw [List.map_map]; rfl
  show (allD (cs.map cell)).map PyData.list = _
  rw [e, allD_map]
  rfl
theorem atI_last {α : Type} {xs : List α} {y : α} : L2.atI (xs ++ [y]) (-1) = some y := by
  unfold L2.atI ixN
  rw [if_neg (by decide), if_pos (by rw [List.length_append, List.length_singleton]; omega)]
  simp only [Option.bind_some]
  have : ((-1 : Int) + ((xs ++ [y]).length : Nat)).toNat = xs.length := by rw [List.length_append, List.length_singleton]; omega
  rw [this]
  simp
section
variable {ρ : En} {h hb : Ho} {Q : KD} {E : XD} {fa : WE} {wi : WI} {wg : WG} {tt : WT} {te : WE} {own : List Nat} {st : Ho → Prop} {xs : List D}
theorem i_sl0 {i : Nat} {j : Int} {ps : List PyData} (e : GetAt i ρ (.d (.list ps))) (k : Q (.d (.list (cut ps none (some j)))) h) : fSl (fVar i) oNone (oSome (fC (.int j))) ρ h Q E := i_var e k
theorem i_iseqG {QI : List D → (Ho → Prop) → Ho → Prop} (k : fa ρ h (fun x h1 => ∃ xs, items h1 x = some xs ∧ QI xs (stay x xs) h1) E) : iSeq fa ρ h QI E := by
  have e1 : (fun (x : D) (h1 : Ho) => ∃ xs, items h1 x = some xs ∧ QI xs (stay x xs) h1) = (fun x h1 => match items h1 x with
      | some xs => QI xs (stay x xs) h1
      | none => False) := by
    funext x h1
    apply propext
    constructor
    · rintro ⟨xs, e2, q⟩
      rw [e2]
      exact q
    · split
      · rename_i xs e3
        exact fun q => ⟨_, e3, q⟩
      · exact False.elim
  rw [e1] at k
  exact k
theorem i_lcv (k : wi ρ h (fun xs st h1 => st (h1 ++ [.lst []]) ∧ lcGo wg tt te st h1.length (wipeD ρ own) (fun h2 => ∃ hh acc ps, h2 = hh ++ [.lst acc] ∧ hh.length = h1.length ∧ (hh = h1 ∨ noRef h1.length hh = true) ∧ allD acc = some ps ∧ Q (.d (.list ps)) hh) xs (h1 ++ [.lst []])) E) : fLcV wi wg tt te own ρ h Q E := k
theorem lcv_ind {QL : List PyData → Ho → Prop} (I : Nat → List D → Prop) (hst : ∀ h, st h)
    (hs : ∀ k x acc, xs[k]? = some x → I k acc → ∃ ρ1 b, wg x (hb ++ [.lst acc]) ρ = some ρ1 ∧ (∀ P : Bool → Ho → Prop, P b (hb ++ [.lst acc]) → tt ρ1 (hb ++ [.lst acc]) P noX) ∧
      (b = true → ∃ y, (∀ P : KD, P y (hb ++ [.lst acc]) → te ρ1 (hb ++ [.lst acc]) P noX) ∧ acc.length < sizeLine ∧ I (k + 1) (acc ++ [y])) ∧ (b = false → I (k + 1) acc))
    (he : ∀ acc, I xs.length acc → ∃ ps, AllD acc ps ∧ QL ps hb) (h0 : I 0 []) :
    st (hb ++ [.lst []]) ∧ lcGo wg tt te st hb.length ρ (fun h2 => ∃ hh acc ps, h2 = hh ++ [.lst acc] ∧ hh.length = hb.length ∧ (hh = hb ∨ noRef hb.length hh = true) ∧ allD acc = some ps ∧ QL ps hh) xs (hb ++ [.lst []]) := by
  refine ⟨hst _, lc_ind I hst hs (fun acc hi => ?_) h0⟩
  obtain ⟨ps, a, q⟩ := he acc hi
  exact ⟨hb, acc, ps, rfl, rfl, .inl rfl, a.eq, q⟩
theorem stay_d {p : PyData} {xs : List D} (h : Ho) : stay (.d p) xs h := trivial
def revK (Q : KD) : KD := fun x h1 => match litems h1 x with
  | some xs => Q (.loc h1.length) (h1 ++ [.lst xs.reverse])
  | none => False
theorem i_revloc (k : fa ρ h (revK Q) E) : fRevLoc fa ρ h Q E := k
theorem revK_lst {ps : List PyData} (k : Q (.loc h.length) (h ++ [.lst (ps.map D.d).reverse])) : revK Q (.d (.list ps)) h := k
theorem allD_cells (cs : List Int) : AllD (cs.map cell) (cs.map PyData.int) := by
  induction cs with
  | nil => exact .nil
  | cons c cs ih => exact .cons ih
end
theorem i_asgG {ρ : En} {h : Ho} {fa : WE} {g : WG} {nx : En → Ho → Prop} {rt : KD} {bk ct : En → Ho → Prop} {ex : Ex → En → Ho → Prop} (k : fa ρ h (fun x h1 => ∃ ρ1, g x h1 ρ = some ρ1 ∧ nx ρ1 h1) (fun x h => ex x ρ h)) : sAsg fa g ρ h ⟨nx, rt, bk, ct, ex⟩ := by
  have e1 : (fun (x : D) (h1 : Ho) => ∃ ρ1, g x h1 ρ = some ρ1 ∧ nx ρ1 h1) = (fun x h1 => match g x h1 ρ with
      | some ρ1 => nx ρ1 h1
      | none => False) := by
    funext x h1
    apply propext
    constructor
    · rintro ⟨xs, e2, q⟩
      rw [e2]
      exact q
    · split
      · rename_i xs e3
        exact fun q => ⟨_, e3, q⟩
      · exact False.elim
  rw [e1] at k
  exact k
theorem nil_or_snoc {α : Type} (xs : List α) : xs = [] ∨ ∃ l c, xs = l ++ [c] := by
  rcases List.eq_nil_or_concat xs with h | ⟨l, c, h⟩
  · exact .inl h
  · exact .inr ⟨l, c, by rw [h, List.concat_eq_append]⟩
theorem mix_mul {mix : Int} (h0 : 0 ≤ mix) (h1 : mix < 2 ^ 31) : CMulW mix 48271 := cmulw (n := 31) (by decide) (by omega) (by decide) (by decide)
theorem ni_loc {n : Nat} : (∀ i, D.loc n ≠ .d (.int i)) ∧ ∀ i, D.loc n ≠ .d (.str i) := ⟨fun _ e => (by cases e), fun _ e => (by cases e)⟩
theorem ints_ne {cs : List Int} (h : cs ≠ []) : PyData.eqv (.list (cs.map PyData.int)) (.list []) = false := by
  cases cs with
  | nil => exact absurd rfl h
  | cons c cs => simp [PyData.eqv, PyData.eqvAll]
section
variable {ρ : En} {h h2 : Ho} {Q : KD} {E : XD} {fo fi fe : WE} {ga : WA} {nx : En → Ho → Prop} {rt : KD} {bk ct : En → Ho → Prop} {ex : Ex → En → Ho → Prop} {f : WS} {t : WT}
theorem i_while (I : Nat → En → Ho → Prop) {m0 : Nat} (h0 : I m0 ρ h) (he : ∀ m ρ h, I m ρ h → nx ρ h)
    (hs : (∀ m ρ h, I m ρ h → nx ρ h) → ∀ m ρ h, I m ρ h → t ρ h (fun b h1 => if b = true then f ρ h1 ⟨fun ρ' h' => ∃ m', m' < m ∧ I m' ρ' h', rt, nx, fun ρ' h' => ∃ m', m' < m ∧ I m' ρ' h', ex⟩ else nx ρ h1) (fun x h => ex x ρ h)) : sWhile t f ρ h ⟨nx, rt, bk, ct, ex⟩ :=
  ⟨I, ⟨m0, h0⟩, hs he⟩
def popK (Q : KD) : KD := fun x h1 => match x with
  | .loc n => match h1[n]? with
    | some (.lst xs) => match xs[xs.length - 1]? with
      | some y => Q y (h1.set n (.lst xs.dropLast))
      | none => False
    | _ => False
  | _ => False
theorem i_pop (k : fo ρ h (popK Q) E) : fPop fo ρ h Q E := k
theorem popK_loc {n : Nat} {xs : List D} {y : D} (e : h[n]? = some (.lst (xs ++ [y]))) (es : h.set n (.lst xs) = h2) (k : Q y h2) : popK Q (.loc n) h := by
  have e1 : (xs ++ [y])[(xs ++ [y]).length - 1]? = some y := by simp
  simp only [popK, e, e1, List.dropLast_concat, es]
  exact k
def appK (ga : WA) (ρ : En) (Q : KD) (E : XD) : KD := fun x h1 => match x with
  | .loc n => match h1[n]? with
    | some (.lst _) => ga ρ h1 (fun ys h2 => match ys, h2[n]? with
      | [y], some (.lst xs) => xs.length < sizeLine ∧ Q (.d .none) (h2.set n (.lst (xs ++ [y])))
      | _, _ => False) E
    | _ => False
  | _ => False
theorem i_append (k : fo ρ h (appK ga ρ Q E) E) : fAppend fo ga ρ h Q E := k
theorem appK_loc {n : Nat} {xs0 : List D} (e : h[n]? = some (.lst xs0)) (k : ga ρ h (fun ys h2 => ∃ y xs, ys = [y] ∧ h2[n]? = some (.lst xs) ∧ xs.length < sizeLine ∧ Q (.d .none) (h2.set n (.lst (xs ++ [y])))) E) : appK ga ρ Q E (.loc n) h := by
  have e1 : (fun (ys : List D) (h2 : Ho) => ∃ y xs, ys = [y] ∧ h2[n]? = some (.lst xs) ∧ xs.length < sizeLine ∧ Q (.d .none) (h2.set n (.lst (xs ++ [y])))) = (fun ys h2 => match ys, h2[n]? with
      | [y], some (.lst xs) => xs.length < sizeLine ∧ Q (.d .none) (h2.set n (.lst (xs ++ [y])))
      | _, _ => False) := by
    funext ys h2
    apply propext
    constructor
    · rintro ⟨y, xs, rfl, e2, q⟩
      simp only [e2]
      exact q
    · split
      · rename_i y xs e3
        exact fun q => ⟨_, _, rfl, e3, q⟩
      · exact False.elim
  rw [e1] at k
  simp only [appK, e]
  exact k
def subK (nx : En → Ho → Prop) (ρ : En) (y x z : D) (h3 : Ho) : Prop := match x, z with
  | .loc n, .d (.int k) => match h3[n]? with
    | some (.lst xs) => match ixN xs.length k with
      | some j => nx ρ (h3.set n (.lst (xs.set j y)))
      | none => False
    | _ => False
  | _, _ => False
theorem i_sub (k : fe ρ h (fun y h1 => fo ρ h1 (fun x h2 => fi ρ h2 (fun z h3 => subK nx ρ y x z h3) (fun x h => ex x ρ h)) (fun x h => ex x ρ h)) (fun x h => ex x ρ h)) : sSub fe fo fi ρ h ⟨nx, rt, bk, ct, ex⟩ := k
theorem subK_loc {n j : Nat} {i : Int} {xs : List D} {y : D} (e : h[n]? = some (.lst xs)) (ej : ixN xs.length i = some j) (es : h.set n (.lst (xs.set j y)) = h2) (k : nx ρ h2) : subK nx ρ y (.loc n) (.d (.int i)) h := by
  simp only [subK, e, ej, es]
  exact k
end
theorem halved {i x y : Nat} (c : 0 < y) (hp : (i = 0 ∧ x * y < 2 ^ 8000) ∨ (0 < i ∧ y < x ∧ x * y < 2 ^ (8001 - i))) : y * (x % y) < 2 ^ (8001 - (i + 1)) := by
  have e : 8001 - (i + 1) = 8000 - i := by omega
  rw [e]
  have h1 : x % y < y := Nat.mod_lt _ c
  rcases hp with ⟨rfl, hp⟩ | ⟨_, hx, hp⟩
  · have h2 : x % y ≤ x := Nat.mod_le _ _
    have := Nat.mul_le_mul_left y h2
    rw [Nat.mul_comm x y] at hp
    exact Nat.lt_of_le_of_lt this hp
  · have h3 : x % y + y ≤ x := by
      have := Nat.mod_add_div x y
      have h4 : 1 ≤ x / y := (Nat.one_le_div_iff c).2 (by omega)
      have := Nat.mul_le_mul_left y h4
      omega
    have h5 : 2 * (y * (x % y)) ≤ x * y := by
      have : y * (2 * (x % y)) ≤ y * x := Nat.mul_le_mul_left y (by omega)
      rw [Nat.mul_comm x y]
      rw [Nat.mul_left_comm] at this
      exact this
    have h6 : 2 ≤ x * y := by
      have : 2 * 1 ≤ x * y := Nat.mul_le_mul (by omega) c
      omega
    by_cases z : 8001 - i = 0
    · rw [z] at hp
      omega
    · have e2 : 8001 - i = (8000 - i) + 1 := by omega
      rw [e2, Nat.pow_succ] at hp
      omega
end V2
set_option Elab.async false
set_option linter.all false
set_option maxRecDepth 100000
set_option maxHeartbeats 4000000
/-! ## More built-in functions and comparisons over data -/
namespace V2
open PySem PySem.Spec PyProof.Rows L2
open PySem.W (Frag)
section
variable {X : Cx} {W : WX} {a b c : Expr} {es : List Expr} {ga : WA} {fa fb fc : WE} {pos p : Pos}
/-! ### list(x), tuple(x): data -/
def rList1 : WR := fun xs h Q => match xs with
  | [x] => match items h x with
    | some ys => match allD ys with
      | some ps => Q (.d (.list ps)) h
      | none => False
    | none => False
  | _ => False
theorem cp_list1 : CpA X (fun xs H Q => ∃ p ys, xs = [.ref p] ∧ (SqL X.K H p ys ∨ SqT X.K H p ys) ∧ ∀ l, H l = none → Q (.ref l) (upd H l (.lst ys))) rList1 := by
  intro xs h Q vs as H QV rv hR hq k
  unfold rList1 at hq
  split at hq
  · split at hq
    · rename_i ys e
      split at hq
      · rename_i ps e2
        obtain ⟨v, rfl, r⟩ := relAll1 rv
        obtain ⟨a, us, rfl, s, ra⟩ := items_rel r hR e
        exact ⟨a, us, rfl, s, fun l hl => k.newLst hR hq (ra.ofAllD e2) hl⟩
      · exact hq.elim
    · exact hq.elim
  · exact hq.elim
def rTup1 : WR := fun xs h Q => match xs with
  | [.d (.tuple ps)] => Q (.d (.tuple ps)) h
  | [x] => match litems h x with
    | some ys => match allD ys with
      | some ps => Q (.d (.tuple ps)) h
      | none => False
    | none => False
  | _ => False
theorem cp_tup1 : CpA X (fun xs H Q => ∃ p ys, xs = [.ref p] ∧ ((SqL X.K H p ys ∧ ∀ l, H l = none → Q (.ref l) (upd H l (.tup ys))) ∨ (SqT X.K H p ys ∧ Q (.ref p) H))) rTup1 := by
  intro xs h Q vs as H QV rv hR hq k
  unfold rTup1 at hq
  split at hq
  · obtain ⟨v, rfl, r⟩ := relAll1 rv
    cases r with | d r =>
    cases r with | tup sx ax =>
    exact ⟨_, _, rfl, .inr ⟨sx.sq, k.qd hR hq (.tup sx ax)⟩⟩
  · split at hq
    · rename_i ys e
      split at hq
      · rename_i ps e2
        obtain ⟨v, rfl, r⟩ := relAll1 rv
        obtain ⟨a, us, rfl, s, ra⟩ := litems_rel r hR e
        exact ⟨a, us, rfl, .inl ⟨s, fun l hl => k.newTup hR hq (ra.ofAllD e2) hl⟩⟩
      · exact hq.elim
    · exact hq.elim
  · exact hq.elim
theorem SE.list1 (hg : Gl X "list") (hm : X.mg "list" = none) (ha : SA X W [a] ga) (he : starEach [a] X.env = (false, eval a X.env) :: starEach [] X.env := by rfl) : SE X W (.Call (.Name "list" p) [a] [] pos) (fCall rList1 ga) := .callTy call_list_of cp_list1 hg hm (by decide +kernel) ha (he := he) (hpl := rfl)
theorem SE.tup1 (hg : Gl X "tuple") (hm : X.mg "tuple" = none) (ha : SA X W [a] ga) (he : starEach [a] X.env = (false, eval a X.env) :: starEach [] X.env := by rfl) : SE X W (.Call (.Name "tuple" p) [a] [] pos) (fCall rTup1 ga) := .callTy call_tuple_of cp_tup1 hg hm (by decide +kernel) ha (he := he) (hpl := rfl)
/-! ### isinstance(x, T), T a built-in class, x data -/
def tyName : PyData → String
  | .none => "NoneType"
  | .bool _ => "bool"
  | .int _ => "int"
  | .str _ => "str"
  | .list _ => "list"
  | .tuple _ => "tuple"
  | .dict _ => "dict"
def fIsi (T : String) (fa : WE) : WE := fun ρ h Q E => fa ρ h (fun x h1 => match x with
  | .d p => ∃ b, kitB (tyName p) T = some b ∧ Q (.d (.bool b)) h1
  | .loc n => (∃ xs, h1[n]? = some (.lst xs)) ∧ ∃ b, kitB "list" T = some b ∧ Q (.d (.bool b)) h1
  | .tp _ => False
  | .ob _ _ => False
  | .pr _ _ => False) E
theorem tyx_lst {K : Frag} {as : List Addr} {H : Hp} {a : Addr} {xs : List V} (h : LstR K as H a xs) : TyX K H (.ref a) (.type "list") := by
  rcases h with ⟨h | ⟨o, h⟩, _⟩ | ⟨o, its, n, e, c, _⟩
  · exact .base (.lst h)
  · exact .base (.frz h)
  · exact .kList e c
theorem tyx_tup {K : Frag} {as : List Addr} {H : Hp} {a : Addr} {xs : List V} (h : TupR K as H a xs) : TyX K H (.ref a) (.type "tuple") := by
  rcases h with ⟨h | ⟨o, h⟩, _⟩ | ⟨o, its, n, e, c, _⟩
  · exact .base (.tup h)
  · exact .fTuple h
  · exact .kTuple e c
theorem tyx_d {K : Frag} {as : List Addr} {H : Hp} {v : V} {p : PyData} (r : Dv K as H v p) : TyX K H v (.type (tyName p)) := by
  cases r with
  | non => exact .base .non
  | bl b => exact .base (.bl b)
  | int i => exact .base (.int i)
  | str x => exact .base (.str x)
  | lst s _ => exact tyx_lst s
  | tup s _ => exact tyx_tup s
theorem SE.isi {T : String} {x : Str} {p1 p2 p3 : Pos} (hg : Gl X "isinstance") (hm : X.mg "isinstance" = none) (hgc : Gl X x) (hmc : X.mg x = none) (hv : bootBuiltins x = some (.type T)) (ha : SE X W a fa)
    (hn : x ≠ "__name__" := by decide) (hdc : (x == ("__debug__" : Str)) = false := by decide)
    (he : starEach [a, .Name x p3] X.env = (false, eval a X.env) :: starEach [.Name x p3] X.env := by rfl) (he2 : starEach [.Name x p3] X.env = (false, eval (.Name x p3) X.env) :: starEach [] X.env := by rfl) (hpl : (backTo pos (starEach [.Name x p3] X.env)).any (·.1) = false := by rfl) :
    SE X W (.Call (.Name "isinstance" p1) [a, .Name x p3] [] pos) (fIsi T fa) := by
  obtain ⟨_, pa, sa⟩ := ha
  refine ⟨_, pe_callB call_isi hg hm (by decide +kernel) (pa_cons pa (pa_cons (pe_bltn (v := .ty T) hgc hmc hv rfl hn hdc) pa_nil he2) he) (he := he) (hpl := hpl), fun σ H as ρ h Q E QV eR hR hq k kx => ?_⟩
  refine sa σ H as ρ h _ E _ eR hR hq (fun y h1 v as1 H1 hq1 l1 r1 rv => ?_) kx
  cases rv with
  | d rv =>
    obtain ⟨b, e, q⟩ := hq1
    exact ⟨v, .ty T, _, _, b, rfl, .ty T, tyx_d rv, kit_ty e, (k.later l1).qd r1 q (.bl b)⟩
  | tp _ _ _ _ => exact hq1.elim
  | ob _ _ _ _ _ => exact hq1.elim
  | pr _ _ _ => exact hq1.elim
  | loc ha =>
    obtain ⟨⟨xs, en⟩, b, e, q⟩ := hq1
    obtain ⟨a2, ha2, ob⟩ := r1.at en
    rw [ha] at ha2
    cases ha2
    obtain ⟨vs, e2, _⟩ := ob
    exact ⟨_, .ty T, _, _, b, rfl, .ty T, .base (.lst e2), kit_ty e, (k.later l1).qd r1 q (.bl b)⟩
/-! ### a op b op c -/
def fChain (r r' : WR2) (fa fb fc : WE) : WE := fun ρ h Q E => fa ρ h (fun x h1 => fb ρ h1 (fun y h2 => r x y h2 (fun z h3 => match z with
  | .d (.bool true) => fc ρ h3 (fun w h4 => r' y w h4 Q) E
  | .d (.bool false) => Q (.d (.bool false)) h3
  | _ => False)) E) E
/-- how a comparison reads: the model's rule and ours -/
def CmpR (X : Cx) (op : CmpOp) (r : WR2) : Prop := ∃ rV, OpR X (compareOp op) rV ∧ Cp2 X rV r
theorem CmpR.lt : CmpR X .Lt (rCmp2 fun i j => decide (i < j)) := ⟨_, op_lt, cp_ints0 fun _ _ _ _ _ => .bl _⟩
theorem CmpR.le : CmpR X .LtE (rCmp2 fun i j => decide (i ≤ j)) := ⟨_, op_le, cp_ints0 fun _ _ _ _ _ => .bl _⟩
theorem CmpR.ge : CmpR X .GtE (rCmp2 fun i j => decide (j ≤ i)) := ⟨_, op_ge, cp_ints0 fun _ _ _ _ _ => .bl _⟩
theorem CmpR.eq (hu : X.A.units + 64 < cLine) : CmpR X .Eq rEq2 := ⟨_, op_eq.or (op_eqD hu), cp_eq⟩
theorem CmpR.ne (hu : X.A.units + 64 < cLine) : CmpR X .NotEq rNe2 := ⟨_, op_ne.or (op_neD hu), cp_ne⟩
/-! ### x in xs: flat items -/
/-! ### math.lcm of three -/
end
open PySem.Calls PySem.W in
theorem run_lcm3 (a : Int) (t : Tok) (b : Int) (u : Tok) (c : Int) (u2 : Tok) (hc0 : ¬(max 1 a.natAbs).log2 / 30 + 1 > 450) (hc1 : ¬(max a.natAbs b.natAbs).log2 / 30 + 1 > 450) (hc2 : ¬(max ((Nat.lcm 1 a.natAbs).lcm b.natAbs) c.natAbs).log2 / 30 + 1 > 450)
    (hsz : (((((Nat.lcm 1 a.natAbs).lcm b.natAbs).lcm c.natAbs : Nat) : Int)).natAbs.log2 < bitsLine) :
    Gives (Builtin.«math.lcm» ⟨[.int a t, .int b u, .int c u2], []⟩) (.int (((((Nat.lcm 1 a.natAbs).lcm b.natAbs).lcm c.natAbs : Nat) : Int))) :=
  .of_wp fun M A E s Q h => by
    obtain ⟨hp, g, d, tk, os⟩ := s
    have e1 : Nat.lcm 1 a.natAbs = a.natAbs := by simp [Nat.lcm]
    wp_walk
    rw [if_neg hc2]
    wp_walk
    (try (refine wpAny_ite_false (decide_eq_false (Nat.not_le.mpr hsz)) ?_; wp_walk))
    exact ⟨_, rfl, h⟩
open PySem.Calls PySem.W in
theorem args_lcm3 (a b c : Value) : argsOk "math.lcm" ⟨[a, b, c], []⟩ := by unfold argsOk; kernel_rfl
theorem lcm_lt {a b n m : Nat} (ha : a < 2 ^ n) (hb : b < 2 ^ m) : Nat.lcm a b < 2 ^ (n + m) :=
  Nat.lt_of_le_of_lt (PySem.W.mc_lcm_le a b) (mul_lt_pow ha hb)
theorem roomy {k n : Nat} (hn : 0 < n) (h : k < 2 ^ n) (h2 : n ≤ 13000) : ¬ k.log2 / 30 + 1 > 450 := by
  have := log2_lt hn h
  omega
def rLcm3V : List V → Hp → VK → Prop := fun vs H Q => ∃ a b c : Int, vs = [.int a, .int b, .int c] ∧ (a.natAbs < 2 ^ big ∧ b.natAbs < 2 ^ big ∧ c.natAbs < 2 ^ big) ∧ Q (.int ((Nat.lcm (Nat.lcm a.natAbs b.natAbs) c.natAbs : Nat) : Int)) H
open PySem.Calls PySem.W in
theorem cr_lcm3 {X : Cx} : CallR X (.builtin "math.lcm") rLcm3V := by
  intro pins s σ H vs us Q I r h
  obtain ⟨a, b, c, rfl, ⟨ha, hb, hc⟩, q⟩ := h
  cases r with | cons r1 r =>
  cases r with | cons r2 r =>
  cases r with | cons r3 r =>
  cases r
  rename_i u1 u2 u3
  obtain ⟨t1, rfl⟩ := (show ∃ t, u1 = Value.int a t from r1)
  obtain ⟨t2, rfl⟩ := (show ∃ t, u2 = Value.int b t from r2)
  obtain ⟨t3, rfl⟩ := (show ∃ t, u3 = Value.int c t from r3)
  have e1 : Nat.lcm 1 a.natAbs = a.natAbs := PySem.W.mc_lcm_one _
  have hb0 : 0 < big := by decide
  have l1 := lcm_lt ha hb
  have l2 := lcm_lt l1 hc
  have p1 : (1 : Nat) < 2 ^ big := Nat.one_lt_two_pow (by decide)
  have g := run_lcm3 a t1 b t2 c t3 (roomy hb0 (Nat.max_lt.2 ⟨p1, ha⟩) (by decide)) (roomy hb0 (Nat.max_lt.2 ⟨ha, hb⟩) (by decide))
    (roomy (n := big + big) (by decide) (Nat.max_lt.2 ⟨by rw [e1]; exact l1, Nat.lt_of_lt_of_le hc (Nat.pow_le_pow_right (by decide) (Nat.le_add_right _ _))⟩) (by decide))
    (by rw [e1, Int.natAbs_natCast]; exact Nat.lt_of_lt_of_le (log2_lt (by decide) l2) (by decide))
  rw [e1] at g
  exact call_function_meets PySem.W.MGF.kind_lcm PySem.W.MGF.plain_lcm PySem.W.MGF.entry_lcm (args_lcm3 _ _ _) g.meets ⟨.int _, H, I.tok _, ⟨_, rfl⟩, q⟩
def rLcm3 : WR := fun xs h Q => match xs with
  | [.d (.int a), .d (.int b), .d (.int c)] => (a.natAbs < 2 ^ big ∧ b.natAbs < 2 ^ big ∧ c.natAbs < 2 ^ big) ∧ Q (.d (.int ((Nat.lcm (Nat.lcm a.natAbs b.natAbs) c.natAbs : Nat) : Int))) h
  | _ => False
theorem cp_lcm3 {X : Cx} : CpA X rLcm3V rLcm3 := by
  intro xs h Q vs as H QV rv hR hq k
  unfold rLcm3 at hq
  split at hq
  · obtain ⟨u, v, w, rfl, r1, r2, r3⟩ := relAll3 rv
    rw [rel_int r1, rel_int r2, rel_int r3]
    exact ⟨_, _, _, rfl, hq.1, k.qd hR hq.2 (.int _)⟩
  · exact hq.elim
theorem SE.lcm3 {X : Cx} {W : WX} {a : Expr} {es : List Expr} {ga : WA} {pos p : Pos} (hg : Gl X "lcm") (hm : X.mg "lcm" = some (.builtin "math.lcm")) (ha : SA X W (a :: es) ga) (he : starEach (a :: es) X.env = (false, eval a X.env) :: starEach es X.env := by rfl) (hpl : (backTo pos (starEach es X.env)).any (·.1) = false := by rfl) : SE X W (.Call (.Name "lcm" p) (a :: es) [] pos) (fCall rLcm3 ga) := .callM cr_lcm3 cp_lcm3 hg hm ha (he := he) (hpl := hpl)
theorem i_lcm3 {a b c : Int} {h : Ho} {Q : KD} (hb : a.natAbs < 2 ^ big ∧ b.natAbs < 2 ^ big ∧ c.natAbs < 2 ^ big) (k : Q (.d (.int ((Nat.lcm (Nat.lcm a.natAbs b.natAbs) c.natAbs : Nat) : Int))) h) : rLcm3 [.d (.int a), .d (.int b), .d (.int c)] h Q := ⟨hb, k⟩
/-- no greater than n binary figures -/
def Bd (n : Nat) (i : Int) : Prop := i.natAbs < 2 ^ n
theorem Bd.mono {n m : Nat} {i : Int} (h : Bd n i) (k : n ≤ m) : Bd m i := Nat.lt_of_lt_of_le h (Nat.pow_le_pow_right (by decide) k)
theorem Bd.add {n m : Nat} {i j : Int} (a : Bd n i) (b : Bd m j) : Bd (max n m + 1) (i + j) := by
  have a' := a.mono (Nat.le_max_left n m)
  have b' := b.mono (Nat.le_max_right n m)
  unfold Bd at *
  rw [Nat.pow_succ]
  have := Int.natAbs_add_le i j
  omega
theorem Bd.neg {n : Nat} {i : Int} (a : Bd n i) : Bd n (-i) := by
  unfold Bd at *
  rw [Int.natAbs_neg]; exact a
theorem Bd.sub {n m : Nat} {i j : Int} (a : Bd n i) (b : Bd m j) : Bd (max n m + 1) (i - j) := by
  rw [Int.sub_eq_add_neg]
  exact a.add b.neg
theorem Bd.mul {n m : Nat} {i j : Int} (a : Bd n i) (b : Bd m j) : Bd (n + m) (i * j) := by
  unfold Bd at *
  rw [Int.natAbs_mul]
  exact mul_lt_pow a b
theorem Bd.div {n : Nat} {i : Int} {k : Nat} (a : Bd n i) : Bd n (i.fdiv (k : Int)) := Nat.lt_of_le_of_lt (v_fdiv_le i k) a
theorem cmB {n m : Nat} {i j : Int} (a : Bd n i) (b : Bd m j) (h : n + m < 900000) : CMulW i j := by
  have e1 := log2_lt (Nat.succ_pos n) (a.mono (Nat.le_succ n))
  have e2 := log2_lt (Nat.succ_pos m) (b.mono (Nat.le_succ m))
  unfold CMulW
  omega
end V2
set_option Elab.async false
set_option linter.all false
set_option maxRecDepth 100000
set_option maxHeartbeats 4000000
/-! ## Points as data, and their grid -/
namespace V2
open PySem PySem.Spec PyProof.Rows L2
abbrev Pt := Rat × Rat
abbrev ptD (p : Pt) : PyData := .tuple [fr p.1, fr p.2]
def Lc (pts : List Pt) : Nat := pts.foldl (fun L p => Nat.lcm (Nat.lcm L p.1.den) p.2.den) 1
theorem Lc_snoc (pts : List Pt) (p : Pt) : Lc (pts ++ [p]) = Nat.lcm (Nat.lcm (Lc pts) p.1.den) p.2.den := by
  unfold Lc
  rw [List.foldl_append]
  rfl
theorem Lc_take_succ {pts : List Pt} {k : Nat} {p : Pt} (h : pts[k]? = some p) : Lc (pts.take (k + 1)) = Nat.lcm (Nat.lcm (Lc (pts.take k)) p.1.den) p.2.den := by
  rw [List.take_succ, h]
  exact Lc_snoc _ _
theorem Lc_ne (pts : List Pt) : Lc pts ≠ 0 := by
  have aux : ∀ (n : Nat) (qs : List Pt), qs.length = n → Lc qs ≠ 0 := by
    intro n
    induction n with
    | zero => intro qs e; cases qs with
      | nil => decide
      | cons a l => cases e
    | succ n ih =>
      intro qs e
      rcases List.eq_nil_or_concat qs with rfl | ⟨l, c, rfl⟩
      · cases e
      · rw [List.concat_eq_append, Lc_snoc]
        have h1 := ih l (by simpa using e)
        exact Nat.lcm_ne_zero (Nat.lcm_ne_zero h1 c.1.den_nz) c.2.den_nz
  exact aux _ pts rfl
theorem Lc_step_dvd {pts : List Pt} {k : Nat} : Lc (pts.take k) ∣ Lc (pts.take (k + 1)) := by
  cases h : pts[k]? with
  | none => rw [List.take_succ, h]; simp
  | some p =>
    rw [Lc_take_succ h]
    exact Nat.dvd_trans (Nat.dvd_lcm_left _ _) (Nat.dvd_lcm_left _ _)
theorem Lc_take_dvd {pts : List Pt} {k : Nat} : ∀ j, Lc (pts.take k) ∣ Lc (pts.take (k + j))
  | 0 => Nat.dvd_refl _
  | j + 1 => Nat.dvd_trans (Lc_take_dvd j) Lc_step_dvd
theorem Lc_dvd_all {pts : List Pt} {k : Nat} : Lc (pts.take k) ∣ Lc pts := by
  by_cases h : k ≤ pts.length
  · have := Lc_take_dvd (pts := pts) (k := k) (pts.length - k)
    rw [Nat.add_sub_cancel' h, List.take_length] at this
    exact this
  · rw [List.take_of_length_le (by omega)]
    exact Nat.dvd_refl _
theorem Lc_den {pts : List Pt} {p : Pt} (h : p ∈ pts) : p.1.den ∣ Lc pts ∧ p.2.den ∣ Lc pts := by
  obtain ⟨k, hk, e⟩ := List.mem_iff_getElem.1 h
  have e : pts[k]? = some p := by rw [List.getElem?_eq_getElem hk, e]
  have d := Lc_dvd_all (pts := pts) (k := k + 1)
  rw [Lc_take_succ e] at d
  exact ⟨Nat.dvd_trans (Nat.dvd_trans (Nat.dvd_lcm_right _ _) (Nat.dvd_lcm_left _ _)) d, Nat.dvd_trans (Nat.dvd_lcm_right _ _) d⟩
theorem Lc_least {b : Nat} (pts : List Pt) (h : ∀ p ∈ pts, p.1.den ∣ b ∧ p.2.den ∣ b) : Lc pts ∣ b := by
  have aux : ∀ k, Lc (pts.take k) ∣ b := by
    intro k
    induction k with
    | zero => exact ⟨b, by show b = Lc [] * b; rw [show Lc [] = 1 from rfl, Nat.one_mul]⟩
    | succ k ih =>
      cases e : pts[k]? with
      | none => rw [List.take_succ, e]; simpa using ih
      | some p =>
        rw [Lc_take_succ e]
        have m : p ∈ pts := List.mem_of_getElem? e
        exact Nat.lcm_dvd (Nat.lcm_dvd ih (h p m).1) (h p m).2
  have := aux pts.length
  rwa [List.take_length] at this
/-- a fraction on the grid of bottom L -/
def gr (L : Nat) (q : Rat) : Int := q.num * ((L : Int).fdiv q.den)
theorem gr_mul {L : Nat} {q : Rat} (h : q.den ∣ L) {x : Int} {b : Nat} (hb : b ≠ 0) (e : q = mkRat x b) : gr L q * b = x * L := by
  obtain ⟨m, rfl⟩ := h
  have hq := Nat.pos_of_ne_zero q.den_nz
  have e1 : ((q.den * m : Nat) : Int).fdiv q.den = m := by
    rw [fdiv_nat, Int.natCast_mul, Int.mul_ediv_cancel_left _ (by omega)]
  unfold gr
  rw [e1]
  have e2 : mkRat q.num q.den = mkRat x b := by rw [Rat.mkRat_self]; exact e
  rw [Rat.mkRat_eq_iff q.den_nz hb] at e2
  rw [Int.natCast_mul]
  have : q.num * ↑m * ↑b = (q.num * b) * m := by rw [Int.mul_assoc, Int.mul_comm (m : Int), ← Int.mul_assoc]
  rw [this, e2, Int.mul_assoc]
abbrev grD (L : Nat) (p : Pt) : PyData := .tuple [.int (gr L p.1), .int (gr L p.2)]
end V2
set_option Elab.async false
set_option linter.all false
set_option maxRecDepth 100000
set_option maxHeartbeats 4000000
/-! ## Lists that are places beside the drawn numbers -/
namespace V2
open PySem PySem.Spec PyProof.Rows L2
section
variable {rest h : Ho}
theorem Deal.len (d : Deal rest h) : h.length = rest.length + 2 := by
  obtain ⟨cs, m, rfl, _⟩ := d.is
  rfl
theorem Deal.get (d : Deal rest h) (i : Nat) : h[i + 2]? = rest[i]? := by
  obtain ⟨cs, m, rfl, _⟩ := d.is
  rfl
theorem Deal.snoc (d : Deal rest h) (o : O) : Deal (rest ++ [o]) (h ++ [o]) := by
  obtain ⟨cs, m, rfl, q⟩ := d.is
  exact ⟨cs, m, rfl, q⟩
theorem Deal.put (d : Deal rest h) (i : Nat) (o : O) : Deal (rest.set i o) (h.set (i + 2) o) := by
  obtain ⟨cs, m, rfl, q⟩ := d.is
  exact ⟨cs, m, rfl, q⟩
theorem Deal.at' (d : Deal rest h) {i : Nat} {o : O} (e : rest[i]? = some o) : h[i + 2]? = some o := by rw [d.get, e]
theorem Deal.items (d : Deal rest h) {i : Nat} {xs : List D} (e : rest[i]? = some (.lst xs)) : V2.items h (.loc (i + 2)) = some xs := by
  show (match h[i + 2]? with
    | some (.lst xs) => some xs
    | _ => none) = some xs
  rw [d.get, e]
end
theorem i_pk3 {x y z : D} {P : List D → Prop} (k : P [z, y, x]) : [x, y, z].length = 3 ∧ ∃ ys, V2.pick [2, 1, 0] [x, y, z] = ys ∧ P ys := ⟨rfl, _, rfl, k⟩
theorem i_pk4 {x y z w : D} {P : List D → Prop} (k : P [w, z, y, x]) : [x, y, z, w].length = 4 ∧ ∃ ys, V2.pick [3, 2, 1, 0] [x, y, z, w] = ys ∧ P ys := ⟨rfl, _, rfl, k⟩
/-- data that can be shown, of some length -/
def Sh (k : Nat) (p : PyData) : Prop := p.showable = true ∧ p.depth ≤ k ∧ PyData.leavesShort 1001 p = true ∧ p.bulk ≤ 4 ^ k
theorem Sh.len {k : Nat} {p : PyData} (s : Sh k p) (hk : k ≤ 5) : p.showable = true ∧ p.depth < 60 ∧ p.shown.length ≤ sizeLine := by
  refine ⟨s.1, by have := s.2.1; omega, ?_⟩
  have h1 := PyData.shown_le_bulk 1001 (by decide) p s.2.2.1
  have h2 := s.2.2.2
  have h3 : 4 ^ k ≤ 4 ^ 5 := Nat.pow_le_pow_right (by decide) hk
  have : sizeLine = 2 ^ 24 := rfl
  have h4 : (1001 + 2) * p.bulk ≤ (1001 + 2) * 4 ^ 5 := Nat.mul_le_mul_left _ (Nat.le_trans h2 h3)
  have : (4 : Nat) ^ 5 = 1024 := by decide
  omega
end V2
set_option Elab.async false
set_option linter.all false
set_option maxRecDepth 100000
set_option maxHeartbeats 4000000
/-! ## More steps through a reading -/
namespace V2
open PySem PySem.Spec PyProof.Rows L2
section
variable {ρ : En} {h : Ho} {Q : KD} {E : XD} {fa fb fc : WE} {x : D} {i j : Int}
theorem i_chain {r r' : WR2} (k : fa ρ h (fun x h1 => fb ρ h1 (fun y h2 => r x y h2 (fun z h3 => ∃ b, z = .d (.bool b) ∧ if b = true then fc ρ h3 (fun w h4 => r' y w h4 Q) E else Q (.d (.bool false)) h3)) E) E) : fChain r r' fa fb fc ρ h Q E := by
  have e : ∀ y : D, (fun (z : D) (h3 : Ho) => ∃ b, z = .d (.bool b) ∧ if b = true then fc ρ h3 (fun w h4 => r' y w h4 Q) E else Q (.d (.bool false)) h3) = (fun z h3 => match z with
      | .d (.bool true) => fc ρ h3 (fun w h4 => r' y w h4 Q) E
      | .d (.bool false) => Q (.d (.bool false)) h3
      | _ => False) := by
    intro y
    funext z h3
    apply propext
    constructor
    · rintro ⟨b, rfl, q⟩
      cases b with
      | true => simpa using q
      | false => simpa using q
    · split
      · exact fun q => ⟨true, rfl, by simpa using q⟩
      · exact fun q => ⟨false, rfl, by simpa using q⟩
      · exact False.elim
  simp only [e] at k
  exact k
def mx (i j : Int) : Int := if j > i then j else i
def mn (i j : Int) : Int := if j < i then j else i
theorem i_max2 (k : Q (.d (.int (mx i j))) h) : rMax2 [.d (.int i), .d (.int j)] h Q := k
theorem i_min2 (k : Q (.d (.int (mn i j))) h) : rMin2 [.d (.int i), .d (.int j)] h Q := k
theorem i_isN (k : Q (.d (.bool (isNon x))) h) : rIsN2 x (.d .none) h Q := k
theorem i_notN (k : Q (.d (.bool (!isNon x))) h) : rNotN2 x (.d .none) h Q := k
theorem i_neG {p q : PyData} (e : p = q) (hs : SeqAt.shaped p = true) (k : Q (.d (.bool false)) h) : rNe2 (.d p) (.d q) h Q := by
  subst e
  have hr : PyData.eqv p p = true := SeqAt.eqv_refl p (by unfold SeqAt.shaped at hs; exact (Bool.and_eq_true_iff.1 hs).1)
  unfold rNe2
  split
  · rename_i i j e1 e2
    cases e1; cases e2
    rw [decide_eq_true rfl]; exact k
  · rename_i i j e1 e2
    cases e1; cases e2
    rw [decide_eq_true rfl]; exact k
  · show (match datum h (.d p), datum h (.d p) with
      | some p, some q => SeqAt.shaped p = true ∧ SeqAt.shaped q = true ∧ Q (.d (.bool (!PyData.eqv p q))) h
      | _, _ => False)
    refine ⟨hs, hs, ?_⟩
    rw [hr]
    exact k
theorem i_eqG {p q : PyData} (e : p = q) (hs : SeqAt.shaped p = true) (k : Q (.d (.bool true)) h) : rEq2 (.d p) (.d q) h Q := by
  subst e
  have hr : PyData.eqv p p = true := SeqAt.eqv_refl p (by unfold SeqAt.shaped at hs; exact (Bool.and_eq_true_iff.1 hs).1)
  unfold rEq2
  split
  · rename_i i j e1 e2
    cases e1; cases e2
    rw [decide_eq_true rfl]; exact k
  · rename_i i j e1 e2
    cases e1; cases e2
    rw [decide_eq_true rfl]; exact k
  · show (match datum h (.d p), datum h (.d p) with
      | some p, some q => SeqAt.shaped p = true ∧ SeqAt.shaped q = true ∧ Q (.d (.bool (PyData.eqv p q))) h
      | _, _ => False)
    refine ⟨hs, hs, ?_⟩
    rw [hr]
    exact k
end
end V2
set_option Elab.async false
set_option linter.all false
set_option maxRecDepth 100000
set_option maxHeartbeats 4000000
/-! ## What comes behind a statement, by a name -/
namespace V2
open PySem PySem.Spec PyProof.Rows L2
def Go (nx : En → Ho → Prop) (g : WS) (D : Nx) : Prop := ∀ ρ h, g ρ h D → nx ρ h
section
variable {ρ : En} {h : Ho} {nx : En → Ho → Prop} {rt : KD} {bk ct : En → Ho → Prop} {ex : Ex → En → Ho → Prop} {f g : WS} {D : Nx}
theorem i_seqg (k : ∀ nx', Go nx' g ⟨nx, rt, bk, ct, ex⟩ → f ρ h ⟨nx', rt, bk, ct, ex⟩) : sSeq f g ρ h ⟨nx, rt, bk, ct, ex⟩ := k _ fun _ _ q => q
theorem i_go (a : Go nx g D) (k : g ρ h D) : nx ρ h := a _ _ k
theorem i_nesr {i : Str} {Q : KD} (k : Q (.d (.bool false)) h) : rNe2 (.d (.str i)) (.d (.str i)) h Q := by
  refine i_nes ?_
  rw [decide_eq_true rfl]
  exact k
end
end V2
set_option Elab.async false
set_option linter.all false
set_option maxRecDepth 100000
set_option maxHeartbeats 4000000
/-! ## reversed(x) -/
namespace V2
open PySem PySem.Spec PyProof.Rows L2
open PySem.W (Frag)
end V2
set_option Elab.async false
set_option linter.all false
set_option maxRecDepth 100000
set_option maxHeartbeats 4000000
/-! ## a tuple's slice with a step -/
namespace V2
open PySem PySem.Spec PyProof.Rows L2
open PySem.W (Frag)
theorem vals_pickF {xs : List V} {us : List Value} (r : Vals xs us) (f : Nat → Nat) : ∀ ks : List Nat, Vals (ks.filterMap fun k => xs[f k]?) (ks.filterMap fun k => us[f k]?)
  | [] => .nil
  | k :: ks => by
    have ih := vals_pickF r f ks
    rw [List.filterMap_cons, List.filterMap_cons]
    by_cases hk : f k < xs.length
    · have e := List.getElem?_eq_getElem hk
      obtain ⟨u, e2, ru⟩ := r.get e
      rw [e, e2]
      exact .cons ru ih
    · have e : xs[f k]? = none := List.getElem?_eq_none (by omega)
      have e2 : us[f k]? = none := List.getElem?_eq_none (by rw [← r.length]; omega)
      rw [e, e2]
      exact ih
theorem dv_pickF {K : Frag} {as : List Addr} {H : Hp} {vs : List V} {ps : List PyData} (r : DvAll K as H vs ps) (f : Nat → Nat) : ∀ ks : List Nat, DvAll K as H (ks.filterMap fun k => vs[f k]?) (ks.filterMap fun k => ps[f k]?)
  | [] => .nil
  | k :: ks => by
    have ih := dv_pickF r f ks
    rw [List.filterMap_cons, List.filterMap_cons]
    by_cases hk : f k < ps.length
    · have e := List.getElem?_eq_getElem hk
      obtain ⟨u, e2, ru⟩ := r.get e
      rw [e, e2]
      exact .cons ru ih
    · have e : ps[f k]? = none := List.getElem?_eq_none (by omega)
      have e2 : vs[f k]? = none := List.getElem?_eq_none (by rw [r.length]; omega)
      rw [e, e2]
      exact ih
/-- a step that is told in the text -/
def StepC (X : Cx) (e : Expr) (c : Int) : Prop := ∃ t, PO X (some e) t ∧ ∀ σ H (Q : Option Int → Hp → Prop), Q (some c) H → t σ H Q
theorem stepc_int {X : Cx} {j : Int} {k : Nat} {p1 : Pos} : StepC X (.Constant (.int j) k p1) j := ⟨_, po_some pe_int, fun _ _ _ q => ⟨j, rfl, q⟩⟩
end V2
set_option Elab.async false
set_option linter.all false
set_option maxRecDepth 100000
set_option maxHeartbeats 4000000
/-! ## The simplest fraction of a range -/
namespace V2
open PySem PySem.Spec PyProof.Rows L2
theorem rle {a b : Rat} : a ≤ b ↔ a.num * b.den ≤ b.num * a.den := Rat.le_iff a b
theorem dpos (a : Rat) : (0 : Int) < a.den := by have := a.den_nz; omega
theorem int_num (p : Int) : (p : Rat).num = p := rfl
theorem int_den (p : Int) : (p : Rat).den = 1 := rfl
/-- an integer more -/
theorem padd (p : Int) (q : Rat) : ((p : Rat) + q).num = p * q.den + q.num ∧ ((p : Rat) + q).den = q.den := by
  have cop : Nat.Coprime (p * q.den + q.num).natAbs q.den := by
    have h1 := Nat.gcd_dvd_left (p * q.den + q.num).natAbs q.den
    have h2 := Nat.gcd_dvd_right (p * q.den + q.num).natAbs q.den
    have h3 : ((Nat.gcd (p * q.den + q.num).natAbs q.den : Nat) : Int) ∣ p * q.den + q.num := Int.ofNat_dvd_left.2 h1
    have h4 : ((Nat.gcd (p * q.den + q.num).natAbs q.den : Nat) : Int) ∣ (q.den : Int) := Int.natCast_dvd_natCast.2 h2
    have h5 : ((Nat.gcd (p * q.den + q.num).natAbs q.den : Nat) : Int) ∣ q.num := by
      have := Int.dvd_sub h3 (Int.dvd_trans h4 (Int.dvd_mul_left p _))
      have e : p * (q.den : Int) + q.num - p * q.den = q.num := by omega
      rwa [e] at this
    have h6 := Nat.dvd_gcd (Int.ofNat_dvd_left.1 h5) h2
    have h7 : Nat.gcd q.num.natAbs q.den = 1 := q.reduced
    rw [h7] at h6
    exact Nat.dvd_one.1 h6
  have e : (p : Rat) + q = ⟨p * q.den + q.num, q.den, q.den_nz, cop⟩ := by
    rw [Rat.mk_eq_mkRat, add_mk, int_num, int_den, Rat.mkRat_eq_iff (by have := q.den_nz; omega) q.den_nz]
    simp
  rw [e]
  exact ⟨rfl, rfl⟩
theorem psub (p : Int) (q : Rat) : (q - (p : Rat)).num = q.num - p * q.den ∧ (q - (p : Rat)).den = q.den := by
  have e : q - (p : Rat) = ((-p : Int) : Rat) + q := by rw [Rat.intCast_neg]; grind
  rw [e]
  have := padd (-p) q
  exact ⟨by rw [this.1, Int.neg_mul]; omega, this.2⟩
theorem inv_nd {t : Rat} (h : 0 < t.num) : (1 / t).num = t.den ∧ ((1 / t).den : Int) = t.num := by
  have e : 1 / t = t⁻¹ := by rw [Rat.div_def, Rat.one_mul]
  have := inv_pos t h
  rw [← e] at this
  simp only [fr, PyData.tuple.injEq, List.cons.injEq, PyData.int.injEq, and_true] at this
  exact this
/-! ### floors and ceilings -/
def flo (q : Rat) : Int := q.num.fdiv q.den
def cei (q : Rat) : Int := -((-q.num).fdiv q.den)
theorem flo_iff {p : Int} {q : Rat} : p ≤ flo q ↔ (p : Rat) ≤ q := by
  rw [rle, int_num, int_den]
  unfold flo
  rw [fdiv_nat, Int.le_ediv_iff_mul_le (dpos q)]
  simp
theorem cei_iff {p : Int} {q : Rat} : cei q ≤ p ↔ q ≤ (p : Rat) := by
  rw [rle, int_num, int_den]
  unfold cei
  rw [fdiv_nat]
  have h := Int.le_ediv_iff_mul_le (a := -p) (b := -q.num) (dpos q)
  have : -(-q.num / (q.den : Int)) ≤ p ↔ -p ≤ -q.num / (q.den : Int) := by omega
  rw [this, h, Int.neg_mul]
  simp only [Int.natCast_one, Int.mul_one]
  omega
theorem flo_le (q : Rat) : (flo q : Rat) ≤ q := flo_iff.1 (Int.le_refl _)
theorem flo_mono {a b : Rat} (h : a ≤ b) : flo a ≤ flo b := flo_iff.2 (Rat.le_trans (flo_le a) h)
/-! ### of all in a range: the least bottom, of these the least; where all are above 0 the least top, too -/
structure Best (lo hi r : Rat) : Prop where
  ge : lo ≤ r
  le : r ≤ hi
  den : ∀ x, lo ≤ x → x ≤ hi → r.den ≤ x.den
  low : ∀ x, lo ≤ x → x ≤ hi → x.den = r.den → r ≤ x
  num : 0 < lo.num → ∀ x, lo ≤ x → x ≤ hi → r.num ≤ x.num
theorem pos_of_le {a b : Rat} (h : a ≤ b) (ha : 0 < a.num) : 0 < b.num := by
  rw [rle] at h
  have h1 : 0 < a.num * b.den := Int.mul_pos ha (dpos b)
  exact Int.pos_of_mul_pos_left (Int.lt_of_lt_of_le h1 h) (dpos a)
theorem inv_le {a b : Rat} (ha : 0 < a.num) (h : a ≤ b) : 1 / b ≤ 1 / a := by
  have hb := pos_of_le h ha
  rw [rle] at h ⊢
  rw [(inv_nd ha).1, (inv_nd ha).2, (inv_nd hb).1, (inv_nd hb).2]
  rw [Int.mul_comm, Int.mul_comm (a.den : Int)]
  exact h
theorem inv_inv' {a : Rat} (ha : 0 < a.num) : 1 / (1 / a) = a := by
  have h1 := inv_nd ha
  have h2 := inv_nd (t := 1 / a) (by rw [h1.1]; exact dpos a)
  refine Rat.ext ?_ ?_
  · rw [h2.1, h1.2]
  · have := h2.2
    rw [h1.1] at this
    exact_mod_cast this
/-- the range of one turn further -/
structure Turned (lo hi : Rat) (p : Int) : Prop where
  p_eq : p = flo lo
  le : lo ≤ hi
  no : ¬ cei lo ≤ flo hi
section
variable {lo hi : Rat} {p : Int} (t : Turned lo hi p)
include t
theorem Turned.lo_pos : 0 < (lo - (p : Rat)).num := by
  have h1 : ¬ lo ≤ (p : Rat) := fun z => t.no (Int.le_trans (cei_iff.2 z) (by rw [t.p_eq]; exact flo_mono t.le))
  rw [rle, int_num, int_den] at h1
  rw [(psub p lo).1]
  simp only [Int.natCast_one, Int.mul_one] at h1
  omega
theorem Turned.sub_le : lo - (p : Rat) ≤ hi - (p : Rat) := by
  have h := t.le
  rw [rle] at h ⊢
  rw [(psub p lo).1, (psub p lo).2, (psub p hi).1, (psub p hi).2, Int.sub_mul, Int.sub_mul]
  have e : p * (lo.den : Int) * hi.den = p * hi.den * lo.den := by grind
  omega
theorem Turned.hi_pos : 0 < (hi - (p : Rat)).num := pos_of_le t.sub_le t.lo_pos
theorem Turned.hi_lt : (hi - (p : Rat)).num < hi.den := by
  have h1 : cei lo ≤ p + 1 := by
    refine cei_iff.2 ?_
    have : ¬ p + 1 ≤ flo lo := by have := t.p_eq; omega
    rw [flo_iff] at this
    exact Rat.le_of_lt (Rat.not_le.1 this)
  have h2 : ¬ p + 1 ≤ flo hi := fun z => t.no (Int.le_trans h1 z)
  rw [flo_iff, rle, int_num, int_den] at h2
  rw [(psub p hi).1]
  have e : (p + 1) * (hi.den : Int) = p * hi.den + hi.den := by rw [Int.add_mul, Int.one_mul]
  rw [e] at h2
  simp only [Int.natCast_one, Int.mul_one] at h2
  omega
theorem Turned.lo_lt : (lo - (p : Rat)).num < lo.den := by
  have : ¬ p + 1 ≤ flo lo := by have := t.p_eq; omega
  rw [flo_iff, rle, int_num, int_den] at this
  rw [(psub p lo).1]
  have e : (p + 1) * (lo.den : Int) = p * lo.den + lo.den := by rw [Int.add_mul, Int.one_mul]
  rw [e] at this
  simp only [Int.natCast_one, Int.mul_one] at this
  omega
theorem Turned.range : 1 / (hi - (p : Rat)) ≤ 1 / (lo - (p : Rat)) := inv_le t.lo_pos t.sub_le
theorem Turned.dens : (1 / (hi - (p : Rat))).den < hi.den ∧ (1 / (lo - (p : Rat))).den < lo.den := by
  have h1 := (inv_nd t.hi_pos).2
  have h2 := (inv_nd t.lo_pos).2
  have h3 := t.hi_lt
  have h4 := t.lo_lt
  omega
theorem Turned.sz {n : Nat} (s1 : Sz n lo) (s2 : Sz n hi) : Sz n (1 / (hi - (p : Rat))) ∧ Sz n (1 / (lo - (p : Rat))) := by
  have h1 := inv_nd t.hi_pos
  have h2 := inv_nd t.lo_pos
  have d := t.dens
  refine ⟨⟨?_, Nat.lt_trans d.1 s2.2⟩, ⟨?_, Nat.lt_trans d.2 s1.2⟩⟩
  · rw [h1.1, (psub p hi).2, nab]; exact s2.2
  · rw [h2.1, (psub p lo).2, nab]; exact s1.2
end
theorem Best.sz {lo hi r : Rat} {n : Nat} (b : Best lo hi r) (s1 : Sz n lo) (s2 : Sz n hi) : Sz (n + n) r := by
  have hd := b.den lo (Rat.le_refl) (Rat.le_trans b.ge b.le)
  have hdn : r.den < 2 ^ n := Nat.lt_of_le_of_lt hd s1.2
  refine ⟨?_, Nat.lt_of_lt_of_le hdn (Nat.pow_le_pow_right (by decide) (by omega))⟩
  have h1 := rle.1 b.ge
  have h2 := rle.1 b.le
  rw [Nat.pow_add]
  have dl := dpos lo
  have dh := dpos hi
  have dr := dpos r
  by_cases c : 0 ≤ r.num
  · have k1 : r.num ≤ r.num * hi.den := by
      have := Int.mul_le_mul_of_nonneg_left (show (1 : Int) ≤ hi.den by omega) c
      omega
    have k2 : hi.num * r.den ≤ hi.num.natAbs * r.den := Int.mul_le_mul_of_nonneg_right (by omega) (by omega)
    have k3 : r.num.natAbs ≤ hi.num.natAbs * r.den := by
      have : (r.num.natAbs : Int) ≤ ((hi.num.natAbs * r.den : Nat) : Int) := by rw [Int.natCast_mul]; omega
      exact_mod_cast this
    exact Nat.lt_of_le_of_lt k3 (Nat.mul_lt_mul'' s2.1 hdn)
  · have k1 : -r.num ≤ (-r.num) * lo.den := by
      have := Int.mul_le_mul_of_nonneg_left (show (1 : Int) ≤ lo.den by omega) (show 0 ≤ -r.num by omega)
      omega
    have k2 : (-lo.num) * r.den ≤ lo.num.natAbs * r.den := Int.mul_le_mul_of_nonneg_right (by omega) (by omega)
    rw [Int.neg_mul] at k1 k2
    have k3 : r.num.natAbs ≤ lo.num.natAbs * r.den := by
      have : (r.num.natAbs : Int) ≤ ((lo.num.natAbs * r.den : Nat) : Int) := by rw [Int.natCast_mul]; omega
      exact_mod_cast this
    exact Nat.lt_of_le_of_lt k3 (Nat.mul_lt_mul'' s1.1 hdn)
end V2
set_option Elab.async false
set_option linter.all false
set_option maxRecDepth 100000
set_option maxHeartbeats 4000000
namespace V2
open PySem PySem.Spec PyProof.Rows L2
section
variable {ρ : En} {h : Ho} {Q : KD} {E : XD} {nx : En → Ho → Prop} {rt : KD} {bk ct : En → Ho → Prop} {ex : Ex → En → Ho → Prop} {f : WS} {t : WT}
theorem i_eqsr {i : Str} (k : Q (.d (.bool true)) h) : rEq2 (.d (.str i)) (.d (.str i)) h Q := by
  refine i_eqs ?_
  rw [decide_eq_true rfl]
  exact k
theorem i_whileE (I : Nat → En → Ho → Prop) {m0 : Nat} (h0 : I m0 ρ h)
    (hs : ∀ m ρ h, I m ρ h → t ρ h (fun b h1 => if b = true then f ρ h1 ⟨fun ρ' h' => ∃ m', m' < m ∧ I m' ρ' h', rt, nx, fun ρ' h' => ∃ m', m' < m ∧ I m' ρ' h', ex⟩ else nx ρ h1) (fun x h => ex x ρ h)) : sWhile t f ρ h ⟨nx, rt, bk, ct, ex⟩ :=
  ⟨I, ⟨m0, h0⟩, hs⟩
theorem i_range2 {ga : WA} {QI : List D → (Ho → Prop) → Ho → Prop} (k : ga ρ h (fun ys h1 => ∃ i j, ys = [.d (.int i), .d (.int j)] ∧ (-(2 ^ 62) ≤ i ∧ i < 2 ^ 62 ∧ -(2 ^ 62) ≤ j ∧ j < 2 ^ 62) ∧ QI (rangeD i (j - i).toNat) (fun _ => True) h1) E) : iRange2 ga ρ h QI E := by
  have e : (fun (ys : List D) (h1 : Ho) => ∃ i j, ys = [.d (.int i), .d (.int j)] ∧ (-(2 ^ 62) ≤ i ∧ i < 2 ^ 62 ∧ -(2 ^ 62) ≤ j ∧ j < 2 ^ 62) ∧ QI (rangeD i (j - i).toNat) (fun _ => True) h1) = (fun ys h1 => match ys with
      | [.d (.int i), .d (.int j)] => (-(2 ^ 62) ≤ i ∧ i < 2 ^ 62 ∧ -(2 ^ 62) ≤ j ∧ j < 2 ^ 62) ∧ QI (rangeD i (j - i).toNat) (fun _ => True) h1
      | _ => False) := by
    funext ys h1
    apply propext
    constructor
    · rintro ⟨i, j, rfl, hq⟩; exact hq
    · split
      · exact fun hq => ⟨_, _, rfl, hq⟩
      · exact False.elim
  rw [e] at k
  exact k
theorem i_isr2 {i j : Int} {P : Int → Int → Prop} (k : P i j) : ∃ i' j', [D.d (.int i), D.d (.int j)] = [.d (.int i'), .d (.int j')] ∧ P i' j' := ⟨i, j, rfl, k⟩
end
/-! ### quotients beside what is less -/
/-- the other way round, and over 1 -/
theorem Best.neg_den {lo hi r s : Rat} (a : Best lo hi r) (b : Best (-hi) (-lo) s) : s.den = r.den := by
  have h1 := b.den (-r) (Rat.neg_le_neg a.le) (Rat.neg_le_neg a.ge)
  have h2 := a.den (-s) (by have := b.le; have := Rat.neg_le_neg this; rwa [Rat.neg_neg] at this) (by have := b.ge; have := Rat.neg_le_neg this; rwa [Rat.neg_neg] at this)
  rw [Rat.neg_den] at h1 h2
  omega
theorem Best.inv {lo hi r s : Rat} (hp : 0 < lo.num) (a : Best lo hi r) (b : Best (1 / hi) (1 / lo) s) : s = 1 / r := by
  have hr := pos_of_le a.ge hp
  have hh := pos_of_le a.le hr
  have h0 : 0 < (1 / hi).num := by rw [(inv_nd hh).1]; exact dpos _
  have hs := pos_of_le b.ge h0
  have m1 : 1 / hi ≤ 1 / r := inv_le hr a.le
  have m2 : 1 / r ≤ 1 / lo := inv_le hp a.ge
  have g1 : lo ≤ 1 / s := by have := inv_le hs b.le; rwa [inv_inv' hp] at this
  have g2 : 1 / s ≤ hi := by have := inv_le h0 b.ge; rwa [inv_inv' hh] at this
  have ir := inv_nd hr
  have is := inv_nd hs
  have d1 := b.den _ m1 m2
  have n1 := b.num h0 _ m1 m2
  have d2 := a.den _ g1 g2
  have n2 := a.num hp _ g1 g2
  rw [ir.1] at n1
  rw [is.1] at n2
  have e1 : s.num = (1 / r).num := by rw [ir.1]; have := is.2; omega
  have e2 : s.den = (1 / r).den := by have := ir.2; omega
  exact Rat.ext e1 e2
theorem Best.sub {lo hi lo' hi' r s : Rat} (a : Best lo hi r) (b : Best lo' hi' s) (h1 : lo ≤ lo') (h2 : hi' ≤ hi) : r.den ≤ s.den := a.den s (Rat.le_trans h1 b.ge) (Rat.le_trans b.le h2)
/-! ### what is walked through: its length -/
def Long (n : Nat) (us : List Int) (a b : Rat) : Prop := us = [] ∨ ((a.den : Int) < a.num ∧ (b.den : Int) < b.num ∧ us.length ≤ 2 * n ∧ a.num.natAbs * a.den < 2 ^ (2 * n + 1 - us.length) ∧ b.num.natAbs * b.den < 2 ^ (2 * n + 1 - us.length))
theorem Long.len {n : Nat} {us : List Int} {a b : Rat} (l : Long n us a b) : us.length ≤ 2 * n := by
  rcases l with rfl | l
  · exact Nat.zero_le _
  · exact l.2.2.1
end V2
set_option Elab.async false
set_option linter.all false
set_option maxRecDepth 100000
set_option maxHeartbeats 4000000
/-! ## zip and enumerate over lists and tuples, whichever -/
namespace V2
open PySem PySem.Spec PyProof.Rows L2
open PySem.W (Frag)
/-- of a source: true for a list, false for a tuple -/
def HasS (k : Bool) (h : Heap) (a : Addr) (its : Array Value) : Prop := match k with
  | true => h.IsList a its
  | false => h.IsTuple a its
def ItS (k : Bool) (h : Heap) (it a : Addr) (i : Nat) : Prop := match k with
  | true => h.IsListIter it a i
  | false => h.IsTupleIter it a i
def SqS (k : Bool) (K : Frag) (H : Hp) (a : Addr) (xs : List V) : Prop := match k with
  | true => SqL K H a xs
  | false => SqT K H a xs
def newS (k : Bool) (a : Addr) : Obj := match k with
  | true => { cls := .type "list_iterator", data := .fields #[.ref a, .int 0 0] }
  | false => { cls := .type "tuple_iterator", data := .fields #[.ref a, .int 0 0] }
section
variable {k : Bool} {h h2 : Heap} {it a : Addr} {i : Nat} {its : Array Value}
theorem ItS.obj (q : ItS k h it a i) : ∃ o, h.get? it = some o ∧ ∀ v, o.data ≠ .cell v := by
  cases k
  · obtain ⟨o, e, _, d⟩ := q
    exact ⟨o, e, fun v z => by rw [d] at z; cases z⟩
  · obtain ⟨o, e, _, d⟩ := q
    exact ⟨o, e, fun v z => by rw [d] at z; cases z⟩
theorem ItS.at (q : ItS k h it a i) (e : ∀ o, h.get? it = some o → h2.get? it = some o) : ItS k h2 it a i := by
  cases k
  · exact Heap.IsTupleIter.at q e
  · exact Heap.IsListIter.at q e
theorem ItS.start (e : h.get? it = some (newS k a)) : ItS k h it a 0 := by
  cases k
  · exact ⟨_, e, rfl, rfl⟩
  · exact ⟨_, e, rfl, rfl⟩
theorem HasS.live (q : HasS k h a its) : ∃ o, h.get? a = some o := by
  cases k
  · obtain ⟨o, e, _⟩ := q
    exact ⟨o, e⟩
  · obtain ⟨o, e, _⟩ := q
    exact ⟨o, e⟩
theorem begins_s : Begins (.ref a) (newS k a) (fun h => HasS k h a its) := by
  cases k
  · exact begins_tuple a its
  · exact begins_list a its
theorem draws_s {prog : Program} {w : World} {A : Around} (hh : A.handled = none) (ne : a ≠ it) : Draws prog w A it [it, a] its.size (fun i v => its[i]? = some v) (fun i h => ItS k h it a i ∧ HasS k h a its) := by
  cases k
  · exact Draws.tuple hh it a ne its
  · exact Draws.list hh it a ne its
end
theorem inv_s {k : Bool} {X : Cx} {pins : List (Addr × Obj)} {σ : L2.St} {H : Hp} {s : Shared} (I : Inv X pins σ H s) {a : Addr} {xs : List V} (q : SqS k X.K H a xs) : ∃ its : List Value, Vals xs its ∧ HasS k s.heap a its.toArray := by
  cases k
  · obtain ⟨its, rv, pl, _⟩ := I.tuple q
    exact ⟨its, rv, pl⟩
  · obtain ⟨its, rv, pl, _⟩ := I.list q
    exact ⟨its, rv, pl.isList⟩
theorem inj_s {k : Bool} {X : Cx} {pins : List (Addr × Obj)} {σ : L2.St} {H : Hp} {s : Shared} (I : Inv X pins σ H s) {a : Addr} {xs ys : List V} (q : SqS k X.K H a xs) (r : SqS k X.K H a ys) : xs = ys := by
  cases k
  · exact I.tuple_inj q r
  · exact I.list_inj q r
/-! ### zip -/
/-- the sources as they stand at each turn, the items in new pairs -/
def ItZ (k l : Bool) (K : Frag) (a b : Addr) : It :=
  ⟨fun i H => ∃ (xs ys : List V) (x y : V), SqS k K H a xs ∧ SqS l K H b ys ∧ xs[i]? = some x ∧ ys[i]? = some y,
    fun i H v H2 => ∃ T x y, v = .ref T ∧ H T = none ∧ H2 = upd H T (.tup [x, y]) ∧ (∀ xs, SqS k K H a xs → xs[i]? = some x) ∧ ∀ ys, SqS l K H b ys → ys[i]? = some y,
    fun i H => ∃ xs ys : List V, SqS k K H a xs ∧ SqS l K H b ys ∧ i ≤ xs.length ∧ i ≤ ys.length ∧ (i = xs.length ∨ i = ys.length)⟩
theorem turn_zz {P : Program} {w : World} {K : Frag} {es : List Expr} {n1 : Nat} {tp : Pos} {k l : Bool} {a b z TI TO p q : Addr} (S : ZipSep2 z TI TO p q [p, a] [q, b]) (nea : a ≠ p) (neb : b ≠ q) :
    Turn P w K (.Tuple es n1 tp) (ItZ k l K a b) [z, TI, TO, p, q] z (fun i h => IsZip h z TI TO .none ∧ IsTupOf2 h TI (.ref p) (.ref q) ∧ (∃ x y, IsTupOf2 h TO x y) ∧ ItS k h p a i ∧ ItS l h q b i) where
  mem := by simp
  obj := fun i h st c hc => by
    obtain ⟨g1, g2, ⟨x, y, g3⟩, g4, g5⟩ := st
    simp only [List.mem_cons, List.not_mem_nil, or_false] at hc
    rcases hc with rfl | rfl | rfl | rfl | rfl
    · exact ⟨_, g1, fun v e => nomatch e⟩
    · exact ⟨_, g2, fun v e => nomatch e⟩
    · exact ⟨_, g3, fun v e => nomatch e⟩
    · exact g4.obj
    · exact g5.obj
  keep := fun i h h2 st kp => by
    obtain ⟨g1, g2, ⟨x, y, g3⟩, g4, g5⟩ := st
    exact ⟨kp z (by simp) _ g1, kp TI (by simp) _ g2, ⟨x, y, kp TO (by simp) _ g3⟩, g4.at fun o e => kp p (by simp) o e, g5.at fun o e => kp q (by simp) o e⟩
  item := by
    intro X eP ew eK cal i pins s σ H E I fo st gd
    subst eP ew eK
    obtain ⟨g1, g2, ⟨x0, y0, g3⟩, g4, g5⟩ := st
    obtain ⟨xs, ys, x, y, s1, s2, ex, ey⟩ := gd
    obtain ⟨us, r1, h1⟩ := inv_s I s1
    obtain ⟨ws, r2, h2⟩ := inv_s I s2
    have hd : X.A.in1.handled = none := I.ok.hd cal
    have D1 := draws_s (k := k) (prog := X.prog) (w := X.w) (its := us.toArray) hd nea
    have D2 := draws_s (k := l) (prog := X.prog) (w := X.w) (its := ws.toArray) hd neb
    obtain ⟨u, eu, ru⟩ := r1.get ex
    obtain ⟨v, ev, rv⟩ := r2.get ey
    have i1 : i < us.toArray.size := by rw [List.size_toArray]; exact (List.getElem?_eq_some_iff.1 eu).1
    have i2 : i < ws.toArray.size := by rw [List.size_toArray]; exact (List.getElem?_eq_some_iff.1 ev).1
    have zl : z < s.heap.objs.size := Heap.lt_size g1
    refine wpAny_pyNext_zipD2_item S D1 D2 g1 g2 g3 ⟨g4, h1⟩ ⟨g5, h2⟩ i1 i2 fun x1 x2 m tk y1 y2 z' t' st1 st2 hT _ kp => ?_
    have e1 : x1 = u := by
      have : us.toArray[i]? = some x1 := y1
      rw [List.getElem?_toArray, eu] at this
      exact (Option.some.inj this).symm
    have e2 : x2 = v := by
      have : ws.toArray[i]? = some x2 := y2
      rw [List.getElem?_toArray, ev] at this
      exact (Option.some.inj this).symm
    subst e1 e2
    refine ⟨_, rfl, wpAny_letOwnedTupleGo_zip (s := { s with heap := m, toks := tk }) z' fun m2 z2 sb => ?_⟩
    have T2 : m2.get? s.heap.objs.size = some { cls := .type "tuple", data := .seq #[x1, x2] } := (sb.2 _ (Nat.ne_of_gt zl)).trans hT
    have ob : ObjOk X.prog X.w (upd H s.heap.objs.size (.tup [x, y])) m2 s.heap.objs.size (.tup [x, y]) := ⟨by show 2 ≤ sizeLine; decide, [x1, x2], .cons ru (.cons rv .nil), ⟨_, T2, rfl, _, rfl⟩⟩
    have chg : ∀ c o, c ∉ [z, TI, TO, p, q] → s.heap.get? c = some o → m2.get? c = some o := fun c o nc e => by
      simp only [List.mem_cons, List.not_mem_nil, or_false, not_or] at nc
      exact (sb.2 c nc.1).trans (kp c o nc.1 nc.2.2.1 nc.2.2.2.1 nc.2.2.2.2 e)
    have J := I.turnedNew (t' := tk) chg fo (Nat.le_refl _) ob
    refine ⟨.ref s.heap.objs.size, _, J, rfl, ⟨_, x, y, rfl, I.hok.fresh (Nat.le_refl _), rfl, fun ls e => by rw [inj_s I e s1]; exact ex, fun ls e => by rw [inj_s I e s2]; exact ey⟩, ⟨z2, ?_, ⟨x1, x2, ?_⟩, ?_, ?_⟩, fun c hc => ?_⟩
    · exact (sb.2 _ S.TIz).trans (kp _ _ S.TIz S.TITO S.TIi1 S.TIi2 g2)
    · exact (sb.2 _ S.TOz).trans t'
    · exact st1.1.at fun o e => (sb.2 _ (Ne.symm S.zi1)).trans e
    · exact st2.1.at fun o e => (sb.2 _ (Ne.symm S.zi2)).trans e
    · have hl : c < s.heap.objs.size := by
        simp only [List.mem_cons, List.not_mem_nil, or_false] at hc
        rcases hc with rfl | rfl | rfl | rfl | rfl
        · exact zl
        · exact Heap.lt_size g2
        · exact Heap.lt_size g3
        · obtain ⟨o, e, _⟩ := g4.obj; exact Heap.lt_size e
        · obtain ⟨o, e, _⟩ := g5.obj; exact Heap.lt_size e
      rw [upd_ne (Nat.ne_of_lt hl)]
      exact (fo c hc).1
  done := by
    intro X eP ew eK cal i pins s σ H E I fo st gd
    subst eP ew eK
    obtain ⟨g1, g2, ⟨x0, y0, g3⟩, g4, g5⟩ := st
    obtain ⟨xs, ys, s1, s2, l1, l2, en⟩ := gd
    obtain ⟨us, r1, h1⟩ := inv_s I s1
    obtain ⟨ws, r2, h2⟩ := inv_s I s2
    have hd : X.A.in1.handled = none := I.ok.hd cal
    have D1 := draws_s (k := k) (prog := X.prog) (w := X.w) (its := us.toArray) hd nea
    have D2 := draws_s (k := l) (prog := X.prog) (w := X.w) (its := ws.toArray) hd neb
    have a1 := r1.length
    have a2 := r2.length
    refine wpAny_pyNext_zipD2_end S D1 D2 g1 g2 g3 ⟨g4, h1⟩ ⟨g5, h2⟩ (by rw [List.size_toArray]; omega) (by rw [List.size_toArray]; omega) (by rw [List.size_toArray, List.size_toArray]; omega) fun m tk kp => ⟨rfl, ?_⟩
    refine I.turnedL (t' := tk) (ch := [z, TI, TO, p, q]) (fun c o nc e => ?_) fo
    simp only [List.mem_cons, List.not_mem_nil, or_false, not_or] at nc
    exact kp c o nc.1 nc.2.2.1 nc.2.2.2.1 nc.2.2.2.2 e
  self := fun A i s Q E st hq => wpAny_pyIter_zip st.1 hq
def iZZ (K : Frag) (ta : TA) : TI := fun σ H R => ta σ H fun vs H1 => ∃ (k l : Bool) (a b : Addr) (xs ys : List V), vs = [.ref a, .ref b] ∧ SqS k K H1 a xs ∧ SqS l K H1 b ys ∧ R (ItZ k l K a b) H1
theorem pi_zz {X : Cx} {e e2 : Expr} {ta : TA} {p pos tp : Pos} {es : List Expr} {n1 : Nat} (hg : Gl X "zip") (hm : X.mg "zip" = none) (ha : PA X [e, e2] ta)
    (hs : starEach [e, e2] X.env = (false, eval e X.env) :: starEach [e2] X.env := by rfl) (hpl : (backTo pos (starEach [e2] X.env)).any (·.1) = false := by rfl) :
    PI X (.Tuple es n1 tp) (.Call (.Name "zip" p) [e, e2] [] pos) (iZZ X.K ta) := by
  refine ⟨fun pn s0 sg G0 R J0 w0 => ?_⟩
  refine Call_ (ld_blt J0 hg hm PyProof.Rows.boot_zip (PyProof.Rows.callWith_type1 (thn (ha.run pos pn s0 sg G0 _ J0 w0) fun us a1 ⟨vs, G1, J1, r1, w1⟩ => ?_) hs hpl))
  obtain ⟨k, l, a, b, xs, ys, rfl, s1, s2, q⟩ := w1
  cases r1 with
  | cons c1 r1 =>
  cases r1 with
  | cons c2 r1 =>
  cases r1
  cases c1
  cases c2
  obtain ⟨us, _, h1⟩ := inv_s J1 s1
  obtain ⟨ws, _, h2⟩ := inv_s J1 s2
  obtain ⟨oa, ea⟩ := h1.live
  obtain ⟨ob, eb⟩ := h2.live
  have la := Heap.lt_size ea
  have lb := Heap.lt_size eb
  refine zip_begins2 (begins_s (k := k) (a := a) (its := us.toArray)) (begins_s (k := l) (a := b) (its := ws.toArray)) h1 h2 fun m hz hT hO e1 e2 _ kp => wpAny_pyIter_zip hz ?_
  have J2 : Inv X pn sg G1 { a1 with heap := m } := J1.kept (t' := a1.toks) kp
  have S := zip_sep2 (N := a1.heap.objs.size) (fp1 := [a]) (fp2 := [b]) (by simpa using la) (by simpa using lb)
  refine ⟨a1.heap.objs.size + 4, [a1.heap.objs.size + 4, a1.heap.objs.size + 2, a1.heap.objs.size + 3, a1.heap.objs.size, a1.heap.objs.size + 1], _, _, G1, rfl, J2, turn_zz (k := k) (l := l) S (Nat.ne_of_lt la) (Nat.ne_of_lt (Nat.lt_succ_of_lt lb)), ⟨hz, hT, ⟨_, _, hO⟩, ItS.start e1, ItS.start e2⟩, fun c hc => ?_, q⟩
  have hle : a1.heap.objs.size ≤ c := by
    simp only [List.mem_cons, List.not_mem_nil, or_false] at hc
    rcases hc with rfl | rfl | rfl | rfl | rfl
    · exact Nat.le_add_right _ _
    · exact Nat.le_add_right _ _
    · exact Nat.le_add_right _ _
    · exact Nat.le_refl _
    · exact Nat.le_add_right _ _
  exact J1.fpOk hle (J1.hok.fresh hle)
end V2
set_option Elab.async false
set_option linter.all false
set_option maxRecDepth 100000
set_option maxHeartbeats 4000000
/-! ## enumerate; both over data -/
namespace V2
open PySem PySem.Spec PyProof.Rows L2
open PySem.W (Frag)
/-! ### enumerate(x) -/
/-! ### both over data -/
theorem src_key {K : Frag} {as1 : List Addr} {H1 : Hp} {h1 : Ho} {x : D} {xs : List D} {a : Addr} (r : Rel K as1 H1 (.ref a) x) (e : items h1 x = some xs) :
    ∃ k : Bool, ∀ as2 H2 h2, Later as1 H1 as2 H2 → HeapR K as2 H2 h2 → stay x xs h2 → ∃ us, SqS k K H2 a us ∧ RelAll K as2 H2 us xs := by
  cases r with
  | d r =>
    cases r with
    | lst sx ax =>
      simp only [items, Option.some.injEq] at e
      subst e
      exact ⟨true, fun as2 H2 h2 l _ _ => ⟨_, (sx.later l).sq, (ax.later l).rel⟩⟩
    | tup sx ax =>
      simp only [items, Option.some.injEq] at e
      subst e
      exact ⟨false, fun as2 H2 h2 l _ _ => ⟨_, (sx.later l).sq, (ax.later l).rel⟩⟩
  | tp _ _ _ _ => simp [items] at e
  | ob _ _ _ _ _ => simp [items] at e
  | pr _ _ _ => simp [items] at e
  | @loc _ n hb =>
    refine ⟨true, fun as2 H2 h2 l r2 st => ?_⟩
    have st' : h2[n]? = some (O.lst xs) := st
    obtain ⟨c, hc, us, o1, o2⟩ := r2.at st'
    rw [l.at hb] at hc
    cases hc
    exact ⟨us, SqL.of o1, o2⟩
theorem new_pair {K : Frag} {as2 : List Addr} {H2 : Hp} {h2 : Ho} {T : Addr} {vs : List V} {ps : List PyData} (r2 : HeapR K as2 H2 h2) (hT : H2 T = none) (al : DvAll K as2 H2 vs ps) :
    Later as2 H2 as2 (upd H2 T (.tup vs)) ∧ HeapR K as2 (upd H2 T (.tup vs)) h2 ∧ Rel K as2 (upd H2 T (.tup vs)) (.ref T) (.d (.tuple ps)) := by
  have l : Later as2 H2 as2 (upd H2 T (.tup vs)) := Later.new _ hT
  refine ⟨l, r2.new _ hT, .d (.tup (.inl ⟨.inl upd_same, fun z => ?_⟩) (al.later l))⟩
  obtain ⟨u, e⟩ := r2.there z
  rw [hT] at e
  cases e
def zipD (ps qs : List PyData) : List D := (ps.zip qs).map fun z => D.d (.tuple [z.1, z.2])
def enumD (ps : List PyData) : List D := ps.zipIdx.map fun z => D.d (.tuple [.int (z.2 : Nat), z.1])
theorem zipD_len (ps qs : List PyData) : (zipD ps qs).length = min ps.length qs.length := by simp [zipD]
theorem zipD_get {ps qs : List PyData} {i : Nat} {z : D} (e : (zipD ps qs)[i]? = some z) : ∃ p q, ps[i]? = some p ∧ qs[i]? = some q ∧ z = .d (.tuple [p, q]) := by
  unfold zipD at e
  rw [List.getElem?_map, Option.map_eq_some_iff] at e
  obtain ⟨⟨p, q⟩, e1, rfl⟩ := e
  rw [List.getElem?_zip_eq_some] at e1
  exact ⟨p, q, e1.1, e1.2, rfl⟩
theorem rel_data {K : Frag} {as : List Addr} {H : Hp} {us : List V} {xs : List D} {ps : List PyData} (r : RelAll K as H us xs) (e : allD xs = some ps) {i : Nat} {u : V} {p : PyData} (eu : us[i]? = some u) (ep : ps[i]? = some p) : Dv K as H u p := by
  obtain ⟨v, e1, d⟩ := (r.ofAllD e).get ep
  rw [eu] at e1
  cases e1
  exact d
theorem allD_len {xs : List D} {ps : List PyData} (e : allD xs = some ps) : xs.length = ps.length := by rw [allD_some e, List.length_map]
section
variable {X : Cx} {W : WX} {a b : Expr} {fa fb : WE} {ga : WA} {pos p tp : Pos} {es : List Expr} {n1 : Nat}
def iZip2 (ga : WA) : WI := fun ρ h Q E => ga ρ h (fun vs h1 => ∃ x y xs ys ps qs, vs = [x, y] ∧ items h1 x = some xs ∧ items h1 y = some ys ∧ allD xs = some ps ∧ allD ys = some qs ∧ Q (zipD ps qs) (fun h => stay x xs h ∧ stay y ys h) h1) E
def iEnum1 (ga : WA) : WI := fun ρ h Q E => ga ρ h (fun vs h1 => ∃ x xs ps, vs = [x] ∧ items h1 x = some xs ∧ allD xs = some ps ∧ Q (enumD ps) (stay x xs) h1) E
theorem SI.zip (hg : Gl X "zip") (hm : X.mg "zip" = none) (ha : SA X W [a, b] ga) (hs : starEach [a, b] X.env = (false, eval a X.env) :: starEach [b] X.env := by rfl) (hpl : (backTo pos (starEach [b] X.env)).any (·.1) = false := by rfl) :
    SI X W (.Tuple es n1 tp) (.Call (.Name "zip" p) [a, b] [] pos) (iZip2 ga) := by
  obtain ⟨_, pa, sa⟩ := ha
  refine ⟨_, pi_zz hg hm pa hs hpl, fun σ H as ρ h Q E R eR hR hq k kx => ?_⟩
  refine sa σ H as ρ h _ E _ eR hR hq (fun ws h1 vs as1 H1 hq1 l1 r1 rv => ?_) kx
  obtain ⟨x, y, xs, ys, ps, qs, rfl, ex, ey, ep, eq, q⟩ := hq1
  obtain ⟨u, v, rfl, ru, ru2⟩ := relAll2 rv
  obtain ⟨a1, _, rfl, _⟩ := items_rel ru r1 ex
  obtain ⟨b1, _, rfl, _⟩ := items_rel ru2 r1 ey
  obtain ⟨k1, key1⟩ := src_key ru ex
  obtain ⟨k2, key2⟩ := src_key ru2 ey
  obtain ⟨us, s1, m1⟩ := key1 as1 H1 h1 (Later.refl _ _) r1 (stay_items ex)
  obtain ⟨ts, s2, m2⟩ := key2 as1 H1 h1 (Later.refl _ _) r1 (stay_items ey)
  refine ⟨k1, k2, a1, b1, us, ts, rfl, s1, s2, k _ _ h1 as1 H1 _ q ⟨stay_items ex, stay_items ey⟩ l1 r1 ?_⟩
  intro i as2 H2 h2 l2 r2 st
  obtain ⟨us, s1, m1⟩ := key1 as2 H2 h2 l2 r2 st.1
  obtain ⟨ts, s2, m2⟩ := key2 as2 H2 h2 l2 r2 st.2
  have n1 := m1.length.trans (allD_len ep)
  have n2 := m2.length.trans (allD_len eq)
  refine ⟨fun hi => ?_, fun hi => ?_, fun v H3 y z ez => ?_⟩
  · rw [zipD_len] at hi
    exact ⟨us, ts, us[i]'(by omega), ts[i]'(by omega), s1, s2, List.getElem?_eq_getElem _, List.getElem?_eq_getElem _⟩
  · rw [zipD_len] at hi
    exact ⟨us, ts, s1, s2, by omega, by omega, by omega⟩
  · obtain ⟨T, u1, u2, rfl, hT, rfl, f1, f2⟩ := y
    obtain ⟨p1, p2, e1, e2, rfl⟩ := zipD_get ez
    exact new_pair r2 hT (.cons (rel_data m1 ep (f1 us s1) e1) (.cons (rel_data m2 eq (f2 ts s2) e2) .nil))
end
end V2
set_option Elab.async false
set_option linter.all false
set_option maxRecDepth 100000
set_option maxHeartbeats 4000000
/-! ## all, any over a list of truths; steps for walks of pairs -/
namespace V2
open PySem PySem.Spec PyProof.Rows L2
open PySem.W (Frag)
theorem RelAll.truths {K : Frag} {as : List Addr} {H : Hp} : ∀ {bs : List Bool} {vs : List V}, RelAll K as H vs (bs.map fun b => D.d (.bool b)) → vs = bs.map V.bl
  | [], _, h => by cases h; rfl
  | b :: bs, _, h => by
    cases h with
    | cons h1 h2 =>
      cases h1 with | d h1 =>
      cases h1
      rw [RelAll.truths h2]; rfl
def rAllB : WR := fun xs h Q => ∃ (x : D) (bs : List Bool), xs = [x] ∧ litems h x = some (bs.map fun b => D.d (.bool b)) ∧ Q (.d (.bool (bs.all id))) h
def rAnyB : WR := fun xs h Q => ∃ (x : D) (bs : List Bool), xs = [x] ∧ litems h x = some (bs.map fun b => D.d (.bool b)) ∧ Q (.d (.bool (bs.any id))) h
section
variable {X : Cx} {W : WX} {a : Expr} {ga : WA} {pos p : Pos}
theorem cp_allB : CpA X (L2.rAll X.K) rAllB := by
  rintro xs h Q vs as H QV rv hR ⟨x, bs, rfl, e, q⟩ k
  obtain ⟨v, rfl, r⟩ := relAll1 rv
  obtain ⟨a, us, rfl, s, ra⟩ := litems_rel r hR e
  rw [ra.truths] at s
  exact ⟨a, bs, rfl, s, k.qd hR q (.bl _)⟩
theorem cp_anyB : CpA X (L2.rAny X.K) rAnyB := by
  rintro xs h Q vs as H QV rv hR ⟨x, bs, rfl, e, q⟩ k
  obtain ⟨v, rfl, r⟩ := relAll1 rv
  obtain ⟨a, us, rfl, s, ra⟩ := litems_rel r hR e
  rw [ra.truths] at s
  exact ⟨a, bs, rfl, s, k.qd hR q (.bl _)⟩
theorem SE.all (hg : Gl X "all") (hm : X.mg "all" = none) (hc : X.calm = true) (ha : SA X W [a] ga) (he : starEach [a] X.env = (false, eval a X.env) :: starEach [] X.env := by rfl) : SE X W (.Call (.Name "all" p) [a] [] pos) (fCall rAllB ga) := .callB (cr_all hc) cp_allB hg hm (by decide +kernel) ha (he := he) (hpl := rfl)
theorem SE.any (hg : Gl X "any") (hm : X.mg "any" = none) (hc : X.calm = true) (ha : SA X W [a] ga) (he : starEach [a] X.env = (false, eval a X.env) :: starEach [] X.env := by rfl) : SE X W (.Call (.Name "any" p) [a] [] pos) (fCall rAnyB ga) := .callB (cr_any hc) cp_anyB hg hm (by decide +kernel) ha (he := he) (hpl := rfl)
end
section
variable {ρ : En} {h : Ho} {Q : KD} {E : XD} {x y : D}
theorem i_zip2 {ga : WA} {QI : List D → (Ho → Prop) → Ho → Prop} (k : ga ρ h (fun vs h1 => ∃ x y xs ys ps qs, vs = [x, y] ∧ items h1 x = some xs ∧ items h1 y = some ys ∧ allD xs = some ps ∧ allD ys = some qs ∧ QI (zipD ps qs) (fun h => stay x xs h ∧ stay y ys h) h1) E) : iZip2 ga ρ h QI E := k
theorem i_enum1 {ga : WA} {QI : List D → (Ho → Prop) → Ho → Prop} (k : ga ρ h (fun vs h1 => ∃ x xs ps, vs = [x] ∧ items h1 x = some xs ∧ allD xs = some ps ∧ QI (enumD ps) (stay x xs) h1) E) : iEnum1 ga ρ h QI E := k
end
/-! ### isinstance of data -/
theorem i_isiD {T : String} {n : Nat} {p : PyData} {b : Bool} {ρ : En} {h : Ho} {Q : KD} {E : XD} (e : GetAt n ρ (.d p)) (hb : kitB (tyName p) T = some b) (k : Q (.d (.bool b)) h) : fIsi T (fVar n) ρ h Q E := i_var e ⟨b, hb, k⟩
def isInt : PyData → Bool
  | .int _ => true
  | .bool _ => true
  | _ => false
def isBool : PyData → Bool
  | .bool _ => true
  | _ => false
def isTup : PyData → Bool
  | .tuple _ => true
  | _ => false
theorem kit_int (p : PyData) : kitB (tyName p) "int" = some (isInt p) := by cases p <;> simp only [tyName, isInt, isBool, isTup] <;> decide +kernel
theorem kit_bool (p : PyData) : kitB (tyName p) "bool" = some (isBool p) := by cases p <;> simp only [tyName, isInt, isBool, isTup] <;> decide +kernel
theorem kit_tup (p : PyData) : kitB (tyName p) "tuple" = some (isTup p) := by cases p <;> simp only [tyName, isInt, isBool, isTup] <;> decide +kernel
end V2
set_option Elab.async false
set_option linter.all false
set_option maxRecDepth 100000
set_option maxHeartbeats 4000000
/-! ## a list's slice with a step -/
namespace V2
open PySem PySem.Spec PyProof.Rows L2
open PySem.W (Frag)
/-- what xs[lo:hi:c] picks out of a list -/
def pickL {α : Type} (xs : List α) (lo hi : Option Int) (c : Int) : List α :=
  (sliceRange (sliceBounds lo hi (some c) xs.length).1 (sliceBounds lo hi (some c) xs.length).2.1 (sliceBounds lo hi (some c) xs.length).2.2).filterMap fun k => xs[k]?
theorem vals_pickS {xs : List V} {us : List Value} (r : Vals xs us) (lo hi : Option Int) (c : Int) : Vals (pickL xs lo hi c) (pickL us lo hi c) := by
  unfold pickL
  rw [r.length]
  exact vals_pickF r (fun k => k) _
theorem dv_pickS {K : Frag} {as : List Addr} {H : Hp} {vs : List V} {ps : List PyData} (r : DvAll K as H vs ps) (lo hi : Option Int) (c : Int) : DvAll K as H (pickL vs lo hi c) (pickL ps lo hi c) := by
  unfold pickL
  rw [r.length]
  exact dv_pickF r (fun k => k) _
theorem pick_arr (us : List Value) (lo hi : Option Int) (c : Int) : slicePick us.toArray lo hi (some c) = (pickL us lo hi c).toArray := by
  unfold slicePick pickL
  rw [List.size_toArray]
  congr 2
  funext k
  exact List.getElem?_toArray ..
def tSlL (K : Frag) (te : TE) (tl th : TO) (c : Int) : TE := fun σ H Q => te σ H fun x H1 => tl σ H1 fun l H2 => th σ H2 fun u H3 => ∃ a xs, x = .ref a ∧ SqL K H3 a xs ∧ (pickL xs l u c).length ≤ sizeLine ∧ ∀ p, H3 p = none → Q (.ref p) (upd H3 p (.lst (pickL xs l u c)))
theorem pe_slL {X : Cx} {e se : Expr} {te : TE} {lo hi : Option Expr} {tl th : TO} {pos p2 : Pos} {c : Int} (c0 : c ≠ 0) (he : PE X e te) (hl : PO X lo tl) (hu : PO X hi th) (hs : StepC X se c) :
    PE X (.Subscript e (.Slice lo hi (some se) p2) pos) (tSlL X.K te tl th c) := by
  obtain ⟨ts, hs, hts⟩ := hs
  refine ⟨fun pn a0 sg G0 Q0 J0 w0 => ?_⟩
  refine Subscript_ (thn (he.run pn a0 sg G0 _ J0 w0) fun v a1 ⟨x, G1, J1, r1, w1⟩ => ?_)
  refine wpAny_Slice (thn (hl.run pn a1 sg G1 _ J1 w1) fun v1 a2 ⟨l, G2, J2, m1, w2⟩ => thn (hu.run pn a2 sg G2 _ J2 w2) fun v2 a3 ⟨u, G3, J3, m2, w3⟩ => ?_)
  refine thn (hs.run pn a3 sg G3 (fun o G4 => o = some c ∧ G4 = G3) J3 (hts sg G3 _ ⟨rfl, rfl⟩)) fun v3 a4 ⟨o, G4, J4, m3, eo, eG⟩ => ?_
  subst eo eG
  obtain ⟨b, xs, rfl, sx, hz, q⟩ := w3
  cases r1
  have J5 : Inv X pn sg G4 { a4 with heap := a4.heap.push { cls := .type "slice", data := .fields #[v1, v2, v3] } } := J4.kept (t' := a4.toks) fun _ _ z => Heap.get?_push_of_some _ z
  obtain ⟨its, rv, ht, hn⟩ := J5.list sx
  show wpAny (model X.prog X.w) X.A (subscriptTail e (.Slice lo hi (some se) p2) (.ref b) (.ref a4.heap.objs.size)) (EP X pn sg Q0) X.xe { a4 with heap := a4.heap.push { cls := .type "slice", data := .fields #[v1, v2, v3] } }
  refine tail_any (ops := [.ref b, .ref a4.heap.objs.size]) ht.isList.typeIs PySem.slot_list_getitem.lookup ?_ (by with_unfolding_all rfl)
  have hlen := rv.length
  refine wpAny_getItem_list_slice ht.isList (Heap.IsSliceOf.new _ v1 v2 v3) m1 m2 m3 (by simpa using c0) ?_ (by rw [List.size_toArray]; omega)
  rw [pick_arr]
  refine ⟨.ref _, _, J5.laid (t' := a4.toks) (o := .lst (pickL xs l u c)) (fun _ _ z => Heap.get?_push_of_some _ z) (Nat.le_refl _) ?_, rfl, q _ (J5.hok.fresh (Nat.le_refl _))⟩
  exact ⟨hz, _, 0, vals_pickS rv l u c, Heap.get?_push_size _ rfl⟩
def fSlL (c : Int) (fa : WE) (lo hi : En → Ho → (Option Int → Ho → Prop) → XD → Prop) : WE := fun ρ h Q E => fa ρ h (fun x h1 => lo ρ h1 (fun l h2 => hi ρ h2 (fun u h3 => match x with
  | .d (.list ps) => (pickL ps l u c).length ≤ sizeLine ∧ Q (.d (.list (pickL ps l u c))) h3
  | _ => False) E) E) E
theorem SE.slL {X : Cx} {W : WX} {a se : Expr} {fa : WE} {lo hi : Option Expr} {fl fu} {p2 pos : Pos} {c : Int} (c0 : c ≠ 0) (ha : SE X W a fa) (hl : SO X W lo fl) (hu : SO X W hi fu) (hs : StepC X se c) : SE X W (.Subscript a (.Slice lo hi (some se) p2) pos) (fSlL c fa fl fu) := by
  obtain ⟨_, pa, sa⟩ := ha
  obtain ⟨_, pl, sl⟩ := hl
  obtain ⟨_, pu, su⟩ := hu
  refine ⟨_, pe_slL c0 pa pl pu hs, fun σ H as ρ h Q E QV eR hR hq k kx => ?_⟩
  refine sa σ H as ρ h _ E _ eR hR hq (fun x h1 v as1 H1 hq1 l1 r1 rv => ?_) kx
  refine sl σ H1 as1 ρ h1 _ E _ (eR.later l1) r1 hq1 (fun lo h2 as2 H2 hq2 l2 r2 => ?_) (kx.later l1)
  refine su σ H2 as2 ρ h2 _ E _ ((eR.later l1).later l2) r2 hq2 (fun hi h3 as3 H3 hq3 l3 r3 => ?_) ((kx.later l1).later l2)
  have k3 := ((k.later l1).later l2).later l3
  have rv3 := (rv.later l2).later l3
  split at hq3
  · cases rv3 with | d rv3 =>
    cases rv3 with | lst sx ax =>
    have d := dv_pickS ax lo hi c
    exact ⟨_, _, rfl, sx.sq, by rw [d.length]; exact hq3.1, fun p hp => k3.newLst r3 hq3.2 d hp⟩
  · exact hq3.elim
/-! ## the truth of data -/
def tTru (fa : WE) : WT := fun ρ h Q E => fa ρ h (fun x h1 => match x with
  | .d .none => Q false h1
  | .d (.bool b) => Q b h1
  | .d (.int i) => Q (i != 0) h1
  | x => match items h1 x with
    | some xs => Q (!xs.isEmpty) h1
    | none => False) E
theorem relAll_empty {K : Frag} {as : List Addr} {H : Hp} {vs : List V} {xs : List D} (r : RelAll K as H vs xs) : (!vs.isEmpty) = !xs.isEmpty := by
  cases r <;> rfl
theorem ST.tru {X : Cx} {W : WX} {a : Expr} {fa : WE} (ha : SE X W a fa) (he : ∀ whole, isTrue a X.env whole = (do let v ← whole; standAt a.pos; holding [v] (truthy v)) := by intro _; rfl) : ST X W a (tTru fa) := by
  obtain ⟨ta, pa, sa⟩ := ha
  refine ⟨_, pt_truth pa he, fun σ H as ρ h Q E QV eR hR hq k kx => ?_⟩
  refine sa σ H as ρ h _ E _ eR hR hq (fun x h1 v as1 H1 hq1 l1 r1 rv => ?_) kx
  split at hq1
  · cases rv with | d rv =>
    cases rv
    exact ⟨_, rfl, k _ _ _ _ hq1 l1 r1⟩
  · cases rv with | d rv =>
    cases rv
    exact ⟨_, rfl, k _ _ _ _ hq1 l1 r1⟩
  · cases rv with | d rv =>
    cases rv
    exact ⟨_, rfl, k _ _ _ _ hq1 l1 r1⟩
  · split at hq1
    · rename_i xs e
      obtain ⟨p, vs, rfl, s, ra⟩ := items_rel rv r1 e
      refine ⟨_, ?_, k _ _ _ _ hq1 l1 r1⟩
      rcases s with s | s
      · exact .inl ⟨vs, s, (relAll_empty ra).symm⟩
      · exact .inr (.inl ⟨vs, s, (relAll_empty ra).symm⟩)
    · exact hq1.elim
end V2
set_option Elab.async false
set_option linter.all false
set_option maxRecDepth 100000
set_option maxHeartbeats 4000000
/-! ## the least and the greatest of a list of ints; comprehensions over places, and with draws -/
namespace V2
open PySem PySem.Spec PyProof.Rows L2
open PySem.W (Frag)
def rMinL : WR := fun xs h Q => ∃ (x : D) (ns : List Int), xs = [x] ∧ litems h x = some (ns.map fun i => D.d (.int i)) ∧ 0 < ns.length ∧ ∀ m, m ∈ ns → (∀ y, y ∈ ns → m ≤ y) → Q (.d (.int m)) h
section
variable {X : Cx} {W : WX} {a : Expr} {ga : WA} {pos p : Pos}
theorem cp_minL : CpA X (L2.rMin X.K) rMinL := by
  rintro xs h Q vs as H QV rv hR ⟨x, ns, rfl, e, hn, q⟩ k
  obtain ⟨v, rfl, r⟩ := relAll1 rv
  obtain ⟨a, us, rfl, s, ra⟩ := litems_rel r hR e
  rw [ra.ints] at s
  exact ⟨a, ns, rfl, s, hn, fun m h1 h2 => k.qd hR (q m h1 h2) (.int _)⟩
theorem SE.minL (hg : Gl X "min") (hm : X.mg "min" = none) (hc : X.calm = true) (ha : SA X W [a] ga) (he : starEach [a] X.env = (false, eval a X.env) :: starEach [] X.env := by rfl) : SE X W (.Call (.Name "min" p) [a] [] pos) (fCall rMinL ga) := .callB (cr_min hc) cp_minL hg hm (by decide +kernel) ha (he := he) (hpl := rfl)
end
section
variable {ρ : En} {h h0 hb rest : Ho} {Q : KD} {E : XD} {st : Ho → Prop} {wg : WG} {tt : WT} {te : WE} {xs : List D}
/-- lists of draws -/
theorem lcd_ind (dh : Deal rest h0) (nr : noRef (rest.length + 2) rest = true) {QL : List PyData → Ho → Prop} (I : Nat → List PyData → Prop) (hst : ∀ h, st h)
    (hs : ∀ (k : Nat) (x : D) (acc : List PyData) (h : Ho) (G : KD), xs[k]? = some x → I k acc → Deal (rest ++ [.lst (acc.map D.d)]) h → (∀ p h2, I (k + 1) (acc ++ [p]) → Deal (rest ++ [.lst (acc.map D.d)]) h2 → G (.d p) h2) → ∃ ρ1, wg x h ρ = some ρ1 ∧ acc.length < sizeLine ∧ te ρ1 h G noX)
    (he : ∀ acc h, I xs.length acc → Deal rest h → QL acc h) (hI : I 0 []) :
    st (h0 ++ [.lst []]) ∧ lcGo wg tTrue te st h0.length ρ (fun h2 => ∃ hh acc ps, h2 = hh ++ [.lst acc] ∧ hh.length = h0.length ∧ (hh = h0 ∨ noRef h0.length hh = true) ∧ allD acc = some ps ∧ QL ps hh) xs (h0 ++ [.lst []]) := by
  refine ⟨hst _, ?_⟩
  have hl := dh.len
  rw [hl]
  have aux : ∀ (ys : List D) (k : Nat), (∀ j, ys[j]? = xs[k + j]?) → k + ys.length = xs.length → ∀ acc h, I k acc → Deal (rest ++ [.lst (acc.map D.d)]) h → lcGo wg tTrue te st (rest.length + 2) ρ (fun h2 => ∃ hh acc ps, h2 = hh ++ [.lst acc] ∧ hh.length = rest.length + 2 ∧ (hh = h0 ∨ noRef (rest.length + 2) hh = true) ∧ allD acc = some ps ∧ QL ps hh) ys h := by
    intro ys
    induction ys with
    | nil =>
      intro k _ hk acc h hi d
      obtain ⟨cs, mix, rfl, h1, h2, h3, h4⟩ := d.is
      refine ⟨.lst (cs.map cell) :: .lst [.loc 0, cell mix] :: rest, acc.map D.d, acc, rfl, rfl, .inr ?_, allD_map _, he acc _ (by rw [← hk]; simpa using hi) ⟨cs, mix, rfl, h1, h2, h3, h4⟩⟩
      unfold noRef at nr ⊢
      rw [List.all_cons, List.all_cons, nr, Bool.and_true, Bool.and_eq_true]
      refine ⟨?_, ?_⟩
      · rw [List.all_eq_true]
        intro x hx
        obtain ⟨c, _, rfl⟩ := List.mem_map.1 hx
        rfl
      · show ((0 != rest.length + 2) && true && true) = true
        simp
    | cons y ys ih =>
      intro k hj hk acc h hi d
      obtain ⟨ρ1, e1, e2, e3⟩ := hs k y acc h (fun y h2 => match h2[rest.length + 2]? with
        | some (.lst acc) => acc.length < sizeLine ∧ st (h2.set (rest.length + 2) (.lst (acc ++ [y]))) ∧ lcGo wg tTrue te st (rest.length + 2) ρ (fun h2 => ∃ hh acc ps, h2 = hh ++ [.lst acc] ∧ hh.length = rest.length + 2 ∧ (hh = h0 ∨ noRef (rest.length + 2) hh = true) ∧ allD acc = some ps ∧ QL ps hh) ys (h2.set (rest.length + 2) (.lst (acc ++ [y])))
        | _ => False) (by rw [← Nat.add_zero k, ← hj 0]; rfl) hi d (fun p h2 hi2 d2 => by
          have g : h2[rest.length + 2]? = some (.lst (acc.map D.d)) := d2.at' (by simp)
          simp only [g]
          refine ⟨?_, hst _, ih (k + 1) (fun j => by rw [Nat.add_assoc, Nat.add_comm 1 j, ← hj (j + 1)]; rfl) (by rw [← hk, List.length_cons]; omega) (acc ++ [p]) _ hi2 ?_⟩
          · obtain ⟨ρ1, _, e2, _⟩ := hs k y acc h (fun _ _ => True) (by rw [← Nat.add_zero k, ← hj 0]; rfl) hi d (fun _ _ _ _ => trivial)
            rw [List.length_map]
            exact e2
          · have := d2.put rest.length (.lst (acc.map D.d ++ [D.d p]))
            rw [List.set_append_right _ _ (Nat.le_refl _), Nat.sub_self, List.set_cons_zero] at this
            rw [List.map_append]
            exact this)
      unfold lcGo
      rw [e1]
      unfold tTrue
      dsimp only
      rw [if_pos rfl]
      exact e3
  exact aux xs 0 (fun j => by rw [Nat.zero_add]) (by simp) [] _ hI (dh.snoc _)
/-- over a place that the turns leave alone -/
theorem lcv_indS {QL : List PyData → Ho → Prop} (I : Nat → List D → Prop) (hst : ∀ acc, st (hb ++ [.lst acc]))
    (hs : ∀ (k : Nat) (x : D) (acc : List D), xs[k]? = some x → I k acc → ∃ ρ1 y, wg x (hb ++ [.lst acc]) ρ = some ρ1 ∧ (∀ P : KD, P y (hb ++ [.lst acc]) → te ρ1 (hb ++ [.lst acc]) P noX) ∧ acc.length < sizeLine ∧ I (k + 1) (acc ++ [y]))
    (he : ∀ acc, I xs.length acc → ∃ ps, AllD acc ps ∧ QL ps hb) (h0 : I 0 []) :
    st (hb ++ [.lst []]) ∧ lcGo wg tTrue te st hb.length ρ (fun h2 => ∃ hh acc ps, h2 = hh ++ [.lst acc] ∧ hh.length = hb.length ∧ (hh = hb ∨ noRef hb.length hh = true) ∧ allD acc = some ps ∧ QL ps hh) xs (hb ++ [.lst []]) := by
  refine ⟨hst _, ?_⟩
  have aux : ∀ (ys : List D) (k : Nat), (∀ j, ys[j]? = xs[k + j]?) → k + ys.length = xs.length → ∀ acc, I k acc → lcGo wg tTrue te st hb.length ρ (fun h2 => ∃ hh acc ps, h2 = hh ++ [.lst acc] ∧ hh.length = hb.length ∧ (hh = hb ∨ noRef hb.length hh = true) ∧ allD acc = some ps ∧ QL ps hh) ys (hb ++ [.lst acc]) := by
    intro ys
    induction ys with
    | nil =>
      intro k _ hk acc hi
      obtain ⟨ps, a, q⟩ := he acc (by rw [← hk]; simpa using hi)
      exact ⟨hb, acc, ps, rfl, rfl, .inl rfl, a.eq, q⟩
    | cons y ys ih =>
      intro k hj hk acc hi
      obtain ⟨ρ1, z, e1, e2, e3, e4⟩ := hs k y acc (by rw [← Nat.add_zero k, ← hj 0]; rfl) hi
      have ihk := ih (k + 1) (fun j => by rw [Nat.add_assoc, Nat.add_comm 1 j, ← hj (j + 1)]; rfl) (by rw [← hk, List.length_cons]; omega)
      unfold lcGo
      rw [e1]
      unfold tTrue
      dsimp only
      rw [if_pos rfl]
      refine e2 _ ?_
      have g1 : (hb ++ [O.lst acc])[hb.length]? = some (.lst acc) := by simp
      have g2 : (hb ++ [O.lst acc]).set hb.length (.lst (acc ++ [z])) = hb ++ [.lst (acc ++ [z])] := by simp
      simp only [g1, g2]
      exact ⟨e3, hst _, ihk _ e4⟩
  exact aux xs 0 (fun j => by rw [Nat.zero_add]) (by simp) [] h0
end
end V2
set_option Elab.async false
set_option linter.all false
set_option maxRecDepth 100000
set_option maxHeartbeats 4000000
/-! ## texts over data: methods, slices, signs, numbers as texts, f-strings; more within an except suite -/
namespace V2
open PySem PySem.Spec PyProof.Rows L2
open PySem.W (Frag)
theorem MtR.mono {X : Cx} {id : String} {r r' : V → List V → Hp → VK → Prop} (h : MtR X id r) (i : ∀ x xs H Q, r' x xs H Q → r x xs H Q) : MtR X id r' := fun pins s σ H x xs v us Q I rx rs q => h pins s σ H x xs v us Q I rx rs (i _ _ _ _ q)
/-- with another text -/
def fM1 (C : Str → Str → Prop) (g : Str → Str → PyData) (fo fe : WE) : WE := fun ρ h Q E => fo ρ h (fun x h1 => match x with
  | .d (.str a) => fe ρ h1 (fun y h2 => match y with
    | .d (.str b) => C a b ∧ Q (.d (g a b)) h2
    | _ => False) E
  | _ => False) E
def strsD (ys : List Str) : List PyData := ys.map PyData.str
theorem dv_strs {K : Frag} {as : List Addr} {H : Hp} : ∀ ys : List Str, DvAll K as H (ys.map V.str) (strsD ys)
  | [] => .nil
  | y :: ys => .cons (.str y) (dv_strs ys)
section
variable {X : Cx} {W : WX} {o e a b : Expr} {fo fe fa fb : WE} {name : Str} {apos pos p : Pos} {id : String}
/-- a new list of texts, a new tuple of three -/
theorem SE.split (ho : SE X W o fo) (he : SE X W e fe) (hs : starEach [e] X.env = [(false, eval e X.env)] := by rfl) (hbase : attributeBase o "split" X.env (eval o X.env) = eval o X.env := by rfl) (hline : (apos.endLine == pos.line) = true := by rfl) :
    SE X W (.Call (.Attribute o "split" apos) [e] [] pos) (fM1 (fun a b => (b.length == 0) = false ∧ a.length + 2 ≤ sizeLine) (fun a b => .list (strsD (Txt.split a b))) fo fe) := by
  obtain ⟨_, po, so⟩ := ho
  obtain ⟨_, pe, se⟩ := he
  refine ⟨_, pe_split po pe hs hbase hline, fun σ H as ρ h Q E QV eR hR hq k kx => ?_⟩
  refine so σ H as ρ h _ E _ eR hR hq (fun x h1 v as1 H1 hq1 l1 r1 rv => ?_) kx
  split at hq1
  · cases rv with | d rv =>
    cases rv
    refine ⟨⟨_, rfl⟩, ?_⟩
    refine se σ H1 as1 ρ h1 _ E _ (eR.later l1) r1 hq1 (fun y h2 w as2 H2 hq2 l2 r2 rw' => ?_) (kx.later l1)
    split at hq2
    · cases rw' with | d rw' =>
      cases rw'
      exact ⟨_, _, rfl, rfl, hq2.1.1, hq2.1.2, fun p hp => ((k.later l1).later l2).newLst r2 hq2.2 (dv_strs _) hp⟩
    · exact hq2.elim
  · exact hq1.elim
end
/-! ### numbers and texts -/
/-! ### f-strings -/
def fJs : List WE → Str → En → Ho → (Str → Ho → Prop) → XD → Prop
  | [], acc, _, h, Q, _ => Q acc h
  | f :: fs, acc, ρ, h, Q, E => f ρ h (fun x h1 => match x with
    | .d (.str y) => (acc ++ y).length ≤ sizeLine ∧ fJs fs (acc ++ y) ρ h1 Q E
    | _ => False) E
section
variable {X : Cx} {W : WX} {a : Expr} {es : List Expr} {fa : WE} {pos : Pos}
def SJ (X : Cx) (W : WX) (es : List Expr) (fs : List WE) : Prop := ∃ ts, PJ X es ts ∧ ∀ acc σ H as ρ h (Q : Str → Ho → Prop) E (QV : Str → Hp → Prop), EnvR X.K as H ρ σ → HeapR X.K as H h → fJs fs acc ρ h Q E →
  (∀ z h' as1 H', Q z h' → Later as H as1 H' → HeapR X.K as1 H' h' → QV z H') → XTo X W as H σ E → tJs ts acc σ H QV
theorem SJ.nil : SJ X W [] [] := ⟨[], .nil, fun _ _ _ _ _ _ _ _ _ _ hR hq k _ => k _ _ _ _ hq (Later.refl _ _) hR⟩
theorem SJ.cons {fs : List WE} (ha : SE X W a fa) (hr : SJ X W es fs) : SJ X W (a :: es) (fa :: fs) := by
  obtain ⟨_, pa, sa⟩ := ha
  obtain ⟨_, pr, sr⟩ := hr
  refine ⟨_, .cons pa pr, fun acc σ H as ρ h Q E QV eR hR hq k kx => ?_⟩
  refine sa σ H as ρ h _ E _ eR hR hq (fun x h1 v as1 H1 hq1 l1 r1 rv => ?_) kx
  split at hq1
  · cases rv with | d rv =>
    cases rv
    exact ⟨_, rfl, hq1.1, sr _ σ H1 as1 ρ h1 Q E QV (eR.later l1) r1 hq1.2 (fun z h' as2 H2 q l r => k z h' as2 H2 q (l1.trans l) r) (kx.later l1)⟩
  · exact hq1.elim
end
/-! ### within an except suite -/
section
variable {X : Cx} {i : Nat} {n : Str} {pos p : Pos} {e b : Expr} {es rest : List Expr} {fe fb : XE'} {ga : Ex → WA} {ft gt : Ex → WT}
theorem SXW.or (he : SXT X i e ft) (hb : SXW X i (.BoolOp .Or (b :: rest) pos) gt) : SXW X i (.BoolOp .Or (e :: b :: rest) pos) (fun x => tOr2 (ft x) (gt x)) := by
  intro a oe cls d pn hz hd
  obtain ⟨_, pe, se⟩ := he a oe cls d pn hz hd
  obtain ⟨_, pb, sb⟩ := hb a oe cls d pn hz hd
  refine ⟨_, pw_or pe pb, fun x σ H as ρ h Q E QV eR hR ho hq k => ?_⟩
  refine se x σ H as ρ h _ E _ eR hR ho hq (fun c h1 as1 H1 hq1 l1 r1 => ?_)
  cases c with
  | true => exact iteT (k _ _ _ _ hq1 l1 r1)
  | false => exact iteF (sb x σ H1 as1 ρ h1 Q E QV (eR.later l1) r1 (ho.later l1) hq1 (k.later l1))
theorem SXE.add (he : SXE X i e fe) (hb : SXE X i b fb) : SXE X i (.BinOp e .Add b pos) (fun x => fBin rAdd2 (fe x) (fb x)) := by
  intro a oe cls d pn hz hd
  obtain ⟨_, pe, se⟩ := he a oe cls d pn hz hd
  obtain ⟨_, pb, sb⟩ := hb a oe cls d pn hz hd
  refine ⟨_, pe_op op_addV pe pb, fun x σ H as ρ h Q E QV eR hR ho hq k => ?_⟩
  refine se x σ H as ρ h _ E _ eR hR ho hq (fun y h1 v as1 H1 hq1 l1 r1 rv => ?_)
  refine sb x σ H1 as1 ρ h1 _ E _ (eR.later l1) r1 (ho.later l1) hq1 (fun z h2 w as2 H2 hq2 l2 r2 rw' => ?_)
  exact cp_add (X := X.suite a ((a, oe) :: pn)) y z h2 Q v w as2 H2 QV (rv.later l2) rw' r2 hq2 (k.later (l1.trans l2))
end
end V2
set_option Elab.async false
set_option linter.all false
set_option maxRecDepth 100000
set_option maxHeartbeats 4000000
/-! A dict that is used as a set of tuples of ints: {}, in, d[k] = v -/
namespace V2
open PySem PySem.Spec PyProof.Rows L2
open PySem.W (Frag)
def intsD : List PyData → Option (List Int)
  | [] => some []
  | .int i :: r => (intsD r).map (i :: ·)
  | _ => none
def keyOf : PyData → Option (List Int)
  | .tuple ps => intsD ps
  | _ => none
theorem intsD_vals {K : Frag} {as : List Addr} {H : Hp} : ∀ {ps : List PyData} {ks : List Int} {vs : List V}, intsD ps = some ks → DvAll K as H vs ps → vs = ks.map V.int
  | [], ks, vs, e, h => by
    cases h
    cases e
    rfl
  | p :: ps, ks, vs, e, h => by
    cases p with
    | int i =>
      simp only [intsD, Option.map_eq_some_iff] at e
      obtain ⟨r, e1, rfl⟩ := e
      cases h with
      | cons h1 h2 =>
        cases h1
        rw [intsD_vals e1 h2]
        rfl
    | _ => cases e
theorem key_rel {K : Frag} {as : List Addr} {H : Hp} {p : PyData} {ks : List Int} {v : V} (e : keyOf p = some ks) (r : Rel K as H v (.d p)) : ∃ b, v = .ref b ∧ TupR K as H b (ks.map V.int) := by
  cases p with
  | tuple ps =>
    cases r with | d r =>
    cases r with
    | @tup a xs ds h1 h2 =>
      rw [intsD_vals e h2] at h1
      exact ⟨a, rfl, h1⟩
  | _ => cases e
def addK (ks : List (List Int)) (k : List Int) : List (List Int) := if k ∈ ks then ks else ks ++ [k]
theorem any_mem {xs : List (List Int × Addr × Value)} {k : List Int} : (xs.any fun z => decide (z.1 = k)) = decide (k ∈ xs.map (·.1)) := by
  by_cases c : k ∈ xs.map (·.1)
  · rw [decide_eq_true c, List.any_eq_true]
    obtain ⟨z, h1, h2⟩ := List.mem_map.1 c
    exact ⟨z, h1, decide_eq_true h2⟩
  · rw [decide_eq_false c, List.any_eq_false]
    intro z hz e
    exact c (List.mem_map.2 ⟨z, hz, of_decide_eq_true e⟩)
/-- o[i] = e, o a dict of the store -/
def sPut (fe fo fi : WE) : WS := fun ρ h D => fe ρ h (fun y h1 => fo ρ h1 (fun x h2 => fi ρ h2 (fun z h3 => match x, z with
  | .loc n, .d p => match h3[n]? with
    | some (.keys ks) => match keyOf p with
      | some k => ks.length < sizeLine ∧ D.nx ρ (h3.set n (.keys (addK ks k)))
      | none => False
    | _ => False
  | _, _ => False) (exOf D ρ)) (exOf D ρ)) (exOf D ρ)
section
variable {X : Cx} {W : WX} {a b e : Expr} {fa fb fe : WE} {pos : Pos}
theorem stored_keys {xs : List (List Int × Addr × Value)} {k : List Int} {b : Addr} {r : Value} : (storedH xs k b r).map (·.1) = addK (xs.map (·.1)) k := by
  unfold storedH addK
  rw [atKey_some, any_mem]
  by_cases c : k ∈ xs.map (·.1)
  · rw [if_pos (decide_eq_true c), if_pos c]
    rw [List.map_map]
    apply List.map_congr_left
    intro z _
    show (putAt k r z).1 = z.1
    unfold putAt
    split <;> rfl
  · rw [if_neg (by rw [decide_eq_false c]; decide), if_neg c, List.map_append]
    rfl
theorem stored_tups {K : Frag} {as : List Addr} {H : Hp} {xs : List (List Int × Addr × Value)} {k : List Int} {b : Addr} {r : Value} (h : ∀ z ∈ xs, TupR K as H z.2.1 (z.1.map V.int)) (hb : TupR K as H b (k.map V.int)) :
    ∀ z ∈ storedH xs k b r, TupR K as H z.2.1 (z.1.map V.int) := by
  intro z hz
  unfold storedH at hz
  split at hz
  · obtain ⟨y, hy, rfl⟩ := List.mem_map.1 hz
    unfold putAt
    split
    · exact h y hy
    · exact h y hy
  · rcases List.mem_append.1 hz with hz | hz
    · exact h z hz
    · rw [List.mem_singleton] at hz
      subst hz
      exact hb
theorem SS.put {o i : Expr} {fo fi : WE} {pos' : Pos} (hu : X.A.units + 64 < cLine) (he : SE X W e fe) (ho : SE X W o fo) (hi : SE X W i fi)
    (ha : ∀ v, assign (.Subscript o i pos') X.env v = (do
      let ov ← holding [v] (eval o X.env)
      let iv ← holding [v, ov] (eval i X.env)
      standAt pos'
      holding [v, ov, iv] (setItem ov iv v)
      release [v, ov, iv] []) := by intro _; rfl) (hs : swapsWithSole [.Subscript o i pos'] e pos.line X.env = pure false := by rfl) (hw : swappedStores [.Subscript o i pos'] e X.env = pure none := by rfl)
    (h1 : (assignEach [.Subscript o i pos'] X.env).map (·.2) = [assign (.Subscript o i pos') X.env] := by rfl) : SS X W (.Assign [.Subscript o i pos'] e pos) (sPut fe fo fi) := by
  obtain ⟨_, pe, se⟩ := he
  obtain ⟨_, po, so⟩ := ho
  obtain ⟨_, pi, si⟩ := hi
  refine ⟨_, ps_asg pe (pg_sub po pi (set_kd (by omega)) ha) hs hw h1, fun σ H as ρ h D D' eR hR hq k => ?_⟩
  refine se σ H as ρ h _ _ _ eR hR hq (fun y h1 v as1 H1 hq1 l1 r1 rv => ?_) (k.x eR)
  refine so σ H1 as1 ρ h1 _ _ _ (eR.later l1) r1 hq1 (fun x h2 u as2 H2 hq2 l2 r2 ru => ?_) (k.kx eR l1)
  have l12 := l1.trans l2
  refine si σ H2 as2 ρ h2 _ _ _ (eR.later l12) r2 hq2 (fun z h3 w as3 H3 hq3 l3 r3 rw' => ?_) (k.kx eR l12)
  have l13 := l12.trans l3
  split at hq3
  · rename_i n p
    split at hq3
    · rename_i ks en
      split at hq3
      · rename_i kk ek
        obtain ⟨hlen, hq3⟩ := hq3
        have ru3 := ru.later l3
        cases ru3 with | @loc ad _ hb =>
        obtain ⟨c, rfl, tc⟩ := key_rel ek rw'
        obtain ⟨d, hb', hs', xs, o1, o2, o3⟩ := r3.at en
        rw [hb] at hb'
        cases hb'
        refine ⟨_, xs, c, kk, rfl, hs', o1, rfl, tc.sq, fun z hz => (o3 z hz).sq, ?_, fun r => ?_⟩
        · rw [← o2, List.length_map] at hlen
          exact hlen
        · have lw : Later as3 H3 as3 (upd H3 ad (kdO ad (storedH xs kk c r))) := Later.write _ (List.mem_of_getElem? hb)
          refine k.nx _ _ _ _ _ hq3 (l13.trans lw) (r3.writeO hb ⟨hs', storedH xs kk c r, upd_same, ?_, ?_⟩) (eR.later (l13.trans lw))
          · rw [stored_keys, o2]
          · exact stored_tups (fun z hz => (o3 z hz).later lw) (tc.later lw)
      · exact hq3.elim
    · exact hq3.elim
  · exact hq3.elim
end
end V2
set_option Elab.async false
set_option linter.all false
set_option maxRecDepth 100000
set_option maxHeartbeats 4000000
/-! try: body, except c: suite; without a name -/
namespace V2
open PySem PySem.Spec PyProof.Rows L2
open PySem.W (Frag)
section
variable {X : Cx} {i : Nat} {pos : Pos} {e b : Expr} {fe fb : XE'}
/-- in a suite: e == b -/
theorem SXE.eq (hu : X.A.units + 64 < cLine) (he : SXE X i e fe) (hb : SXE X i b fb) (hm : behindInMarks .Eq b = false := by rfl) : SXE X i (.Compare e [.Eq] [b] pos) (fun x => fBin rEq2 (fe x) (fb x)) := by
  intro a oe cls d pn hz hd
  obtain ⟨_, pe, se⟩ := he a oe cls d pn hz hd
  obtain ⟨_, pb, sb⟩ := hb a oe cls d pn hz hd
  refine ⟨_, pe_cmpR (op_eq.or (op_eqD hu)) pe pb hm, fun x σ H as ρ h Q E QV eR hR ho hq k => ?_⟩
  refine se x σ H as ρ h _ E _ eR hR ho hq (fun y h1 v as1 H1 hq1 l1 r1 rv => ?_)
  refine sb x σ H1 as1 ρ h1 _ E _ (eR.later l1) r1 (ho.later l1) hq1 (fun z h2 w as2 H2 hq2 l2 r2 rw' => ?_)
  exact cp_eq (X := X.suite a ((a, oe) :: pn)) y z h2 Q v w as2 H2 QV (rv.later l2) rw' r2 hq2 (k.later (l1.trans l2))
end
/-! ### the rules of V3c -/
end V2
set_option Elab.async false
set_option linter.all false
set_option maxRecDepth 100000
set_option maxHeartbeats 4000000
/-! list(zip(a, b)) of two tuples of data: the word alone; its soundness (SE.zipL) is still to be shown -/
namespace V2
open PySem PySem.Spec PyProof.Rows L2
open PySem.W (Frag)
def fZipL (ga : WA) : WE := fun ρ h Q E => ga ρ h (fun xs h1 => match xs with
  | [.d (.tuple ps), .d (.tuple qs)] => ps.length = qs.length ∧ Q (.d (.list (List.zipWith (fun p q => PyData.tuple [p, q]) ps qs))) h1
  | _ => False) E
theorem i_zipL {ρ : En} {h : Ho} {Q : KD} {E : XD} {ga : WA} (k : ga ρ h (fun xs h1 => ∃ ps qs, xs = [.d (.tuple ps), .d (.tuple qs)] ∧ ps.length = qs.length ∧ Q (.d (.list (List.zipWith (fun p q => PyData.tuple [p, q]) ps qs))) h1) E) : fZipL ga ρ h Q E := by
  have e : (fun (xs : List D) (h1 : Ho) => ∃ ps qs, xs = [.d (.tuple ps), .d (.tuple qs)] ∧ ps.length = qs.length ∧ Q (.d (.list (List.zipWith (fun p q => PyData.tuple [p, q]) ps qs))) h1) = (fun xs h1 => match xs with
      | [.d (.tuple ps), .d (.tuple qs)] => ps.length = qs.length ∧ Q (.d (.list (List.zipWith (fun p q => PyData.tuple [p, q]) ps qs))) h1
      | _ => False) := by
    funext xs h1
    apply propext
    constructor
    · rintro ⟨ps, qs, rfl, k⟩
      exact k
    · intro k
      split at k
      · exact ⟨_, _, rfl, k⟩
      · exact k.elim
  rw [e] at k
  exact k
end V2
set_option Elab.async false
set_option linter.all false
set_option maxRecDepth 100000
set_option maxHeartbeats 4000000
/-! list(zip(a, b)) of two tuples, over the machine -/
namespace VZ
open PySem PySem.Spec PyProof.Rows RZ PySem.W
section
variable {P : Program} {W : World} {Ar : Around} {Ex : Value → Shared → Prop} {st : Shared}
variable {Z I O T J K S la lb : Addr} {fl : Bool} {oT : Obj} {m n : Nat} {us vs : Array Value}
/-- a zip of two tuples, n pairs out; the last one that is out lies behind S -/
structure ZAt (h : Heap) (Z I O J K la lb S : Addr) (n : Nat) : Prop where
  pair : IsPair h I (.ref J) (.ref K)
  one : h.IsTupleIter J la n
  two : h.IsTupleIter K lb n
  self : (IsZip h Z I O .none ∧ ∃ x y, IsPair h O x y) ∨ ∃ T fl o, IsZipHeld h Z I O T fl ∧ h.get? T = some o ∧ S < T
theorem ZAt.keep {h g : Heap} (a : ZAt h Z I O J K la lb S n) (hz : Z < S) (hi : I < S) (ho : O < S) (hj : J < S) (hk : K < S) (k : ∀ c o, c ≠ S → h.get? c = some o → g.get? c = some o) : ZAt g Z I O J K la lb S n := by
  refine ⟨k _ _ (Nat.ne_of_lt hi) a.pair, a.one.at fun o e => k _ o (Nat.ne_of_lt hj) e, a.two.at fun o e => k _ o (Nat.ne_of_lt hk) e, ?_⟩
  rcases a.self with ⟨h1, x, y, h2⟩ | ⟨T, fl, o, h1, h2, h3⟩
  · exact .inl ⟨k _ _ (Nat.ne_of_lt hz) h1, x, y, k _ _ (Nat.ne_of_lt ho) h2⟩
  · exact .inr ⟨T, fl, o, k _ _ (Nat.ne_of_lt hz) h1, k _ _ (Nat.ne_of_gt h3) h2, h3⟩
/-- the pairs that were laid -/
structure Laid (us vs : Array Value) (S : Addr) (h : Heap) (as : List Addr) : Prop where
  rise : as.Pairwise (· < ·)
  above : ∀ a ∈ as, S < a
  pairs : ∀ (j : Nat) (a : Addr), as[j]? = some a → ∃ u v, us[j]? = some u ∧ vs[j]? = some v ∧ IsPair h a u v
theorem Laid.there {h : Heap} {as : List Addr} (g : Laid us vs S h as) {a : Addr} (ha : a ∈ as) : a < h.objs.size := by
  obtain ⟨j, hj⟩ := List.mem_iff_getElem?.mp ha
  obtain ⟨_, _, _, _, e⟩ := g.pairs j a hj
  exact Heap.lt_size e
theorem Laid.more {h g g2 : Heap} {as : List Addr} {u v : Value} (l : Laid us vs S h as) (hS : S < h.objs.size) (eu : us[as.length]? = some u) (ev : vs[as.length]? = some v) (k : ∀ c o, S < c → h.get? c = some o → g2.get? c = some o) (p : IsPair g2 h.objs.size u v) : Laid us vs S g2 (as ++ [h.objs.size]) := by
  refine ⟨List.pairwise_append.mpr ⟨l.rise, List.pairwise_singleton _ _, fun a ha b hb => ?_⟩, fun a ha => ?_, fun j b hj => ?_⟩
  · rw [List.mem_singleton.mp hb]; exact l.there ha
  · rcases List.mem_append.mp ha with ha | ha
    · exact l.above a ha
    · rw [List.mem_singleton.mp ha]; exact hS
  · by_cases h1 : j < as.length
    · rw [List.getElem?_append_left h1] at hj
      obtain ⟨u', v', e1, e2, e3⟩ := l.pairs j b hj
      exact ⟨u', v', e1, e2, k b _ (l.above b (List.mem_of_getElem? hj)) e3⟩
    · have hlt := (List.getElem?_eq_some_iff.mp hj).1
      have e : j = as.length := by simp at hlt; omega
      subst e
      rw [List.getElem?_concat_length] at hj
      cases hj
      exact ⟨u, v, eu, ev, p⟩
end
end VZ
set_option Elab.async false
set_option linter.all false
set_option maxRecDepth 100000
set_option maxHeartbeats 4000000
set_option Elab.async false
set_option linter.all false
set_option maxRecDepth 100000
set_option maxHeartbeats 4000000
set_option Elab.async false
set_option linter.all false
set_option maxRecDepth 100000
set_option maxHeartbeats 4000000
namespace V2
open PySem PySem.Spec PyProof.Rows L2
open PySem.W (Frag)
end V2
set_option Elab.async false
set_option linter.all false
set_option maxRecDepth 100000
set_option maxHeartbeats 4000000
/-! x in a tuple of data; x is True -/
namespace V2
open PySem PySem.Spec PyProof.Rows L2
open PySem.W (Frag)
def rNotB2 : WR2 := fun x y h Q => match x, y with
  | .d (.bool a), .d (.bool b) => Q (.d (.bool (!decide (a = b)))) h
  | _, _ => False
theorem i_notB {a b : Bool} {h : Ho} {Q : KD} (k : Q (.d (.bool (!decide (a = b)))) h) : rNotB2 (.d (.bool a)) (.d (.bool b)) h Q := k
end V2
set_option Elab.async false
set_option linter.all false
set_option maxRecDepth 100000
set_option maxHeartbeats 4000000
/-! max and min of a tuple of ints -/
namespace V2
open PySem PySem.Spec PyProof.Rows L2
open PySem.W (Frag)
def rMaxT : WR := fun xs h Q => ∃ ns : List Int, xs = [.d (.tuple (ns.map PyData.int))] ∧ 0 < ns.length ∧ ∀ m, m ∈ ns → (∀ y, y ∈ ns → y ≤ m) → Q (.d (.int m)) h
def rMinT : WR := fun xs h Q => ∃ ns : List Int, xs = [.d (.tuple (ns.map PyData.int))] ∧ 0 < ns.length ∧ ∀ m, m ∈ ns → (∀ y, y ∈ ns → m ≤ y) → Q (.d (.int m)) h
theorem i_maxT2 {i j : Int} {h : Ho} {Q : KD} (k : Q (.d (.int (max i j))) h) : rMaxT [.d (.tuple [.int i, .int j])] h Q := by
  refine ⟨[i, j], rfl, Nat.le_of_ble_eq_true rfl, fun m hm hall => ?_⟩
  have h1 := hall i (by simp)
  have h2 := hall j (by simp)
  have : m = max i j := by
    simp only [List.mem_cons, List.not_mem_nil, or_false] at hm
    omega
  rw [this]
  exact k
theorem i_minT2 {i j : Int} {h : Ho} {Q : KD} (k : Q (.d (.int (min i j))) h) : rMinT [.d (.tuple [.int i, .int j])] h Q := by
  refine ⟨[i, j], rfl, Nat.le_of_ble_eq_true rfl, fun m hm hall => ?_⟩
  have h1 := hall i (by simp)
  have h2 := hall j (by simp)
  have : m = min i j := by
    simp only [List.mem_cons, List.not_mem_nil, or_false] at hm
    omega
  rw [this]
  exact k
end V2
set_option Elab.async false
set_option linter.all false
set_option maxRecDepth 100000
set_option maxHeartbeats 4000000
/-! rules: and, or, not with a known end; slices; sums of lists and tuples; turned lists -/
namespace V2
open PySem PySem.Spec PyProof.Rows L2
section
variable {ρ : En} {h : Ho} {Q : KD} {E : XD} {fa fb : WE}
theorem i_forG (k : fa ρ h (fun x h1 => ∃ b, x = .d (.bool b) ∧ if b = true then Q (.d (.bool true)) h1 else fb ρ h1 Q E) E) : fOr fa fb ρ h Q E := by
  have e : (fun (x : D) (h1 : Ho) => ∃ b, x = .d (.bool b) ∧ if b = true then Q (.d (.bool true)) h1 else fb ρ h1 Q E) = (fun x h1 => match x with
      | .d (.bool false) => fb ρ h1 Q E
      | .d (.bool true) => Q (.d (.bool true)) h1
      | _ => False) := by
    funext x h1
    apply propext
    constructor
    · rintro ⟨b, rfl, q⟩
      cases b
      · exact q
      · exact q
    · intro q
      split at q
      · exact ⟨false, rfl, q⟩
      · exact ⟨true, rfl, q⟩
      · exact q.elim
  rw [e] at k
  exact k
theorem i_fnotG (k : fa ρ h (fun x h1 => ∃ b, x = .d (.bool b) ∧ Q (.d (.bool (!b))) h1) E) : fNot fa ρ h Q E := by
  have e : (fun (x : D) (h1 : Ho) => ∃ b, x = .d (.bool b) ∧ Q (.d (.bool (!b))) h1) = (fun x h1 => match x with
      | .d (.bool b) => Q (.d (.bool (!b))) h1
      | _ => False) := by
    funext x h1
    apply propext
    constructor
    · rintro ⟨b, rfl, q⟩
      exact q
    · intro q
      split at q
      · exact ⟨_, rfl, q⟩
      · exact q.elim
  rw [e] at k
  exact k
def slK (Q : KD) (x : D) (l u : Option Int) (h : Ho) : Prop := match x with
  | .d (.list ps) => Q (.d (.list (cut ps l u))) h
  | .d (.tuple ps) => Q (.d (.tuple (cut ps l u))) h
  | _ => False
theorem i_slG {lo hi : En → Ho → (Option Int → Ho → Prop) → XD → Prop} (k : fa ρ h (fun x h1 => lo ρ h1 (fun l h2 => hi ρ h2 (fun u h3 => slK Q x l u h3) E) E) E) : fSl fa lo hi ρ h Q E := k
theorem slT {ps : List PyData} {l u : Option Int} (k : Q (.d (.tuple (cut ps l u))) h) : slK Q (.d (.tuple ps)) l u h := k
theorem slL {ps : List PyData} {l u : Option Int} (k : Q (.d (.list (cut ps l u))) h) : slK Q (.d (.list ps)) l u h := k
theorem i_oN {K : Option Int → Ho → Prop} (k : K none h) : oNone ρ h K E := k
theorem i_oS {K : Option Int → Ho → Prop} (k : fa ρ h (fun x h1 => ∃ i, x = .d (.int i) ∧ K (some i) h1) E) : oSome fa ρ h K E := by
  have e : (fun (x : D) (h1 : Ho) => ∃ i, x = .d (.int i) ∧ K (some i) h1) = (fun x h1 => match x with
      | .d (.int i) => K (some i) h1
      | _ => False) := by
    funext x h1
    apply propext
    constructor
    · rintro ⟨b, rfl, q⟩
      exact q
    · intro q
      split at q
      · exact ⟨_, rfl, q⟩
      · exact q.elim
  rw [e] at k
  exact k
theorem i_addLL {ps qs : List PyData} (hl : ps.length + qs.length ≤ sizeLine) (k : Q (.d (.list (ps ++ qs))) h) : rAdd2 (.d (.list ps)) (.d (.list qs)) h Q := ⟨hl, k⟩
def rvK (Q : KD) (x : D) (h : Ho) : Prop := match x with
  | .d (.list ps) => Q (.d (.list ps.reverse)) h
  | _ => False
theorem i_rev (k : fa ρ h (rvK Q) E) : fRev fa ρ h Q E := k
theorem rvL {ps : List PyData} (k : Q (.d (.list ps.reverse)) h) : rvK Q (.d (.list ps)) h := k
theorem i_tupL {ps : List PyData} (k : Q (.d (.tuple ps)) h) : rTup1 [.d (.list ps)] h Q := by
  unfold rTup1
  simp only [litems, allD_map]
  exact k
theorem i_listT {ps : List PyData} (k : Q (.d (.list ps)) h) : rList1 [.d (.tuple ps)] h Q := by
  unfold rList1
  simp only [items, allD_map]
  exact k
end
end V2
set_option Elab.async false
set_option linter.all false
set_option maxRecDepth 100000
set_option maxHeartbeats 4000000
/-! an int less a bool -/
namespace V2
open PySem PySem.Spec PyProof.Rows L2
def rSubB2 : WR2 := fun x y h Q => match x, y with
  | .d (.int i), .d (.bool b) => Q (.d (.int (i - if b = true then (1 : Int) else 0))) h
  | _, _ => False
theorem i_subB {i : Int} {b : Bool} {h : Ho} {Q : KD} (k : Q (.d (.int (i - if b = true then (1 : Int) else 0))) h) : rSubB2 (.d (.int i)) (.d (.bool b)) h Q := k
end V2
set_option Elab.async false
set_option linter.all false
set_option maxRecDepth 100000
set_option maxHeartbeats 4000000
/-! a slice of a list that is a place: a new list of data -/
namespace V2
open PySem PySem.Spec PyProof.Rows L2
open PySem.W (Frag)
def plK (Q : KD) (x : D) (l u : Option Int) (h : Ho) : Prop := ∃ n xs ps, x = .loc n ∧ h[n]? = some (.lst xs) ∧ allD xs = some ps ∧ Q (.d (.list (cut ps l u))) h
def fSlP (fa : WE) (lo hi : En → Ho → (Option Int → Ho → Prop) → XD → Prop) : WE := fun ρ h Q E => fa ρ h (fun x h1 => lo ρ h1 (fun l h2 => hi ρ h2 (fun u h3 => plK Q x l u h3) E) E) E
section
variable {ρ : En} {h : Ho} {Q : KD} {E : XD} {fa : WE}
theorem i_slP {lo hi : En → Ho → (Option Int → Ho → Prop) → XD → Prop} (k : fa ρ h (fun x h1 => lo ρ h1 (fun l h2 => hi ρ h2 (fun u h3 => plK Q x l u h3) E) E) E) : fSlP fa lo hi ρ h Q E := k
end
end V2
set_option Elab.async false
set_option linter.all false
set_option maxRecDepth 100000
set_option maxHeartbeats 4000000
/-! min of a tuple or list of data that can be compared; .index of data in a tuple or list -/
namespace V2
open PySem PySem.Spec PyProof.Rows L2 PySem.SeqAt PySem.W
open PySem.W (Frag)
theorem relAll_dv {K : Frag} {as : List Addr} {H : Hp} : ∀ {us : List V} {ds : List PyData}, RelAll K as H us (ds.map D.d) → DvAll K as H us ds
  | _, [], .nil => .nil
  | _, _ :: _, .cons (.d r) t => .cons r (relAll_dv t)
section
variable {X : Cx} {W : WX} {a : Expr} {ga : WA} {pos p : Pos}
def rIndexL (K : PySem.W.Frag) : V → List V → Hp → VK → Prop := fun x xs H Q => ∃ (a : Addr) (y : V) (d : PyData) (ds : List PyData) (j : Nat) (z : PyData), x = V.ref a ∧ xs = [y] ∧ Dp K H (V.ref a) (.list ds) ∧ Dp K H y d ∧
  SeqAt.shaped (.list ds) = true ∧ SeqAt.shaped d = true ∧ d.depth ≤ 63 ∧ ds[j]? = some z ∧ PyData.eqv z d = true ∧ (∀ (m : Nat) (z' : PyData), m < j → ds[m]? = some z' → PyData.eqv z' d = false) ∧ Q (.int (j : Nat)) H
theorem mt_indexL (hu : X.A.units + 64 < cLine) : MtR X "list.index" (rIndexL X.K) := by
  intro pins s σ H x xs v us Q I rx rxs h
  obtain ⟨a, y, d, ds, j, z, rfl, rfl, hl, hy, sl, sd, dd0, hz, hzj, hno, q⟩ := h
  cases rx
  cases rxs with
  | cons ry rt =>
    rename_i uy ut
    cases rt
    obtain ⟨bs, r1⟩ := Dp.reads I d y uy hy ry
    have hxs : PyData.canLayAll0 ds = true := SeqAt.canLay_of_shaped sl
    have hroom : X.A.units + 1 + min (PyData.depthAll ds) d.depth < cLine := by have := Nat.min_le_right (PyData.depthAll ds) d.depth; omega
    cases hl with
    | lst hs ha =>
      obtain ⟨its, rv, ⟨⟨cls, dd, data, sls⟩, n, ho, hc, hdn, hdt⟩, hlen⟩ := I.list hs
      simp only at hc hdt
      subst hc
      subst hdt
      obtain ⟨as, h4⟩ := Dp.readsAll I ds _ its ha rv
      have hn : its.length = ds.length := SeqAt.ReadsAll.length ds its as h4
      have hmap : its.map (SeqAt.readOf s.heap) = ds := SeqAt.readsAll_map ds its as hxs h4
      obtain ⟨hjd, _⟩ := List.getElem?_eq_some_iff.mp hz
      have hjl : j < its.length := by omega
      have hj : j < its.toArray.size := by simpa using hjl
      have at_ : ∀ (m : Nat) (hm : m < its.toArray.size) (z' : PyData), ds[m]? = some z' → SeqAt.readOf s.heap its.toArray[m] = z' := by
        intro m hm z' hz'
        have hml : m < its.length := by simpa using hm
        rw [← hmap, List.getElem?_map, List.getElem?_eq_getElem hml] at hz'
        have e1 : SeqAt.readOf s.heap its[m] = z' := Option.some.inj (show some (SeqAt.readOf s.heap its[m]) = some z' from hz')
        simpa using e1
      refine call_meets PySem.F.slot_list_index ⟨_, ho, rfl⟩ PySem.F.entry_list_index (PySem.F.args_list_index_2 _ _)
        (SeqAt.list_indexAt a its.toArray n dd sls uy (fun u => PyData.eqv (SeqAt.readOf s.heap u) d) j hj (by have := rv.length; have := sizeLine_eq; omega) ?_ ?_) ⟨ho, SeqAt.items_eqAt (vs := its.toArray) (show ReadsAll s.heap its.toArray.toList ds as from h4) r1 hxs (SeqAt.canLay_of_shaped sd) hroom, ⟨.int (j : Nat), H, I.tok _, ⟨_, rfl⟩, q⟩⟩
      · show PyData.eqv (SeqAt.readOf s.heap its.toArray[j]) d = true
        rw [at_ j hj z hz]
        exact hzj
      · intro m hm hmj
        have hmd : m < ds.length := by
          have : m < its.length := by simpa using hm
          omega
        show PyData.eqv (SeqAt.readOf s.heap its.toArray[m]) d = false
        rw [at_ m hm ds[m] (List.getElem?_eq_getElem hmd)]
        exact hno m _ hmj (List.getElem?_eq_getElem hmd)
def idxK (Q : KD) (ds : List PyData) (d : PyData) (h : Ho) : Prop := SeqAt.shaped d = true ∧ d.depth ≤ 63 ∧ ∃ j z, ds[j]? = some z ∧ PyData.eqv z d = true ∧ (∀ (m : Nat) (z' : PyData), m < j → ds[m]? = some z' → PyData.eqv z' d = false) ∧ Q (.d (.int (j : Nat))) h
/-- t.index(x) of a tuple that is known -/
def fIdxT (fo : WE) (ga : WA) : WE := fun ρ h Q E => fo ρ h (fun x h1 => match x with
  | .tp ds => SeqAt.shaped (.tuple ds) = true ∧ ga ρ h1 (fun ys h2 => match ys with
    | [.d d] => idxK Q ds d h2
    | _ => False) E
  | _ => False) E
variable {o e : Expr} {fo : WE} {apos cpos : Pos}
/-- a known tuple as data -/
def fUnT (fo : WE) : WE := fun ρ h Q E => fo ρ h (fun x h1 => match x with
  | .tp ps => Q (.d (.tuple ps)) h1
  | _ => False) E
end
section
variable {ρ : En} {h : Ho} {Q : KD} {E : XD} {fo : WE} {ga : WA}
theorem i_idxT {ds : List PyData} (k : fo ρ h (fun x h1 => match x with
  | .tp ds => SeqAt.shaped (.tuple ds) = true ∧ ga ρ h1 (fun ys h2 => match ys with
    | [.d d] => idxK Q ds d h2
    | _ => False) E
  | _ => False) E) : fIdxT fo ga ρ h Q E := k
theorem i_unT (k : fo ρ h (fun x h1 => match x with
  | .tp ps => Q (.d (.tuple ps)) h1
  | _ => False) E) : fUnT fo ρ h Q E := k
end
end V2
set_option Elab.async false
set_option linter.all false
set_option maxRecDepth 100000
set_option maxHeartbeats 4000000
/-! objects of a class of the program whose __init__ stores its two parameters: made, their attributes read -/
namespace V2
open PySem PySem.Spec PyProof.Rows L2
open PySem.W (Frag)
/-- what the head says of a class: its name is its own, it is a plain class, it has no attribute of these names -/
structure ClsN (K : Frag) (N : Str) (C : Addr) (fl : List Str) : Prop where
  nm : nmIn K C = some N
  one : ∀ a, nmIn K a = some N → a = C
  cls : Cls K C
  no : ∀ f ∈ fl, NoAttr K C f
def spIn2 (K : Frag) (C : Addr) (f1 f2 : Str) : Sp := fun vs H Q E => ∃ x a b dx, vs = [.ref x, a, b] ∧ H x = some (.ins C dx []) ∧ Q .non (upd (upd H x (.ins C dx (putF f1 a []))) x (.ins C dx (putF f2 b (putF f1 a []))))
section
variable {P : Program} {w : World} {K : Frag} {mg : Str → Option Value} {base : Heap}
theorem init2 {N : Str} {C : Addr} {fl : List Str} {qual : Str} {st : Stmt} {f : Addr} {fd : FuncData} {p1 p2 f1 f2 : Str} {k : Nat} {q1 q2 q3 q4 q5 q6 q7 q8 : Pos} (c : ClsN K N C fl) (m1 : f1 ∈ fl) (m2 : f2 ∈ fl)
    (F : Fun K "__init__" qual st f fd) (S : FnScope ["self", p1, p2] ["self", p1, p2] (defScope st))
    (hb : defBody st = [.Assign [.Attribute (.Name "self" q1) f1 q2] (.Name p1 q3) q4, .Assign [.Attribute (.Name "self" q5) f2 q6] (.Name p2 q7) q8])
    (v0 : Vis (defScope st) "self") (v1 : Vis (defScope st) p1) (v2 : Vis (defScope st) p2) (d1 : (p1 == ("__debug__" : Str)) = false) (d2 : (p2 == ("__debug__" : Str)) = false) (e1 : (p1 == ("__classdict__" : Str)) = false) (e2 : (p2 == ("__classdict__" : Str)) = false)
    (s1 : ∀ env : Env, swapsWith (.Name p1 q3) (some (.Attribute (.Name "self" q1) f1 q2)) q4.line env = pure false) (s2 : ∀ env : Env, swapsWith (.Name p2 q7) (some (.Attribute (.Name "self" q5) f2 q6)) q8.line env = pure false) :
    FnOk P w K mg base CX0 (k + 1) f fd ["self", p1, p2] (spIn2 K C f1 f2) := by
  refine F.ok S (fun vs H Q E ⟨_, _, _, _, e, _⟩ => by rw [e]; rfl) fun cdv A outer s H vs Q E hr ⟨x, a, b, dx, ev, hx, q⟩ => ?_
  subst ev
  rw [hb]
  refine ⟨_, pss_cons (ps_fld (pe_var (i := 0) rfl v0) (pe_var (i := 1) rfl v1 d1 e1) (s1 _)) (pss_one (ps_fld (pe_var (i := 0) rfl v0) (pe_var (i := 2) rfl v2 d2 e2) (s2 _))), ?_⟩
  refine ⟨a, rfl, .ref x, rfl, x, C, dx, [], rfl, hx, c.cls, c.no _ m1, by decide, ?_⟩
  refine ⟨b, rfl, .ref x, rfl, x, C, dx, _, rfl, upd_same, c.cls, c.no _ m2, ?_, q⟩
  show 1 < 1000
  decide
end
theorem putF2 {f1 f2 : Str} (h : f1 ≠ f2) (a b : V) : putF f2 b (putF f1 a []) = [(f1, a), (f2, b)] := by
  show (if f1 = f2 then _ else _) = _
  rw [if_neg h]
  rfl
/-- N(a, b), a class that stores both -/
def fMake2 (N f1 f2 : Str) (ga : WA) : WE := fun ρ h Q E => ga ρ h (fun xs h1 => match xs with
  | [.d p, .d q] => Q (.ob N [(f1, p), (f2, q)]) h1
  | _ => False) E
/-- e.f of an object -/
def fFld (N f : Str) (fo : WE) : WE := fun ρ h Q E => fo ρ h (fun x h1 => match x with
  | .ob M fs => M = N ∧ ∃ p, fs.lookup f = some p ∧ Q (.d p) h1
  | _ => False) E
theorem fld_rel {K : Frag} {as : List Addr} {H : Hp} {f : Str} : ∀ {vs : List (Str × V)} {fs : List (Str × PyData)} {p : PyData}, vs.map (·.1) = fs.map (·.1) → DvAll K as H (vs.map (·.2)) (fs.map (·.2)) → fs.lookup f = some p → ∃ v, vs.lookup f = some v ∧ Dv K as H v p
  | [], [], _, _, _, e => by cases e
  | (g, v) :: vs, (g2, q) :: fs, p, e1, .cons h1 h2, e => by
    rw [List.map_cons, List.map_cons] at e1
    injection e1 with e3 e4
    have e3 : g = g2 := e3
    subst e3
    rw [List.lookup_cons] at e ⊢
    by_cases c : (f == g) = true
    · rw [c] at e ⊢
      cases e
      exact ⟨v, rfl, h1⟩
    · rw [Bool.not_eq_true] at c
      rw [c] at e ⊢
      exact fld_rel e4 h2 e
section
variable {X : Cx} {W : WX} {o : Expr} {fo : WE} {N f : Str} {C : Addr} {fl : List Str} {pos p : Pos} {ga : WA}
theorem SE.fld (c : ClsN X.K N C fl) (m : f ∈ fl) (ho : SE X W o fo) (hb : attributeBase o f X.env (eval o X.env) = eval o X.env := by rfl) : SE X W (.Attribute o f pos) (fFld N f fo) := by
  obtain ⟨_, po, so⟩ := ho
  refine ⟨_, pe_fld po hb, fun σ H as ρ h Q E QV eR hR hq k kx => ?_⟩
  refine so σ H as ρ h _ E _ eR hR hq (fun x h1 v as1 H1 hq1 l1 r1 rv => ?_) kx
  split at hq1
  · obtain ⟨rfl, p, ep, q⟩ := hq1
    cases rv with | ob z1 z2 z3 z4 z5 =>
    have ec := c.one _ z2
    subst ec
    obtain ⟨v, e2, d2⟩ := fld_rel z4 z5 ep
    exact ⟨_, _, _, _, v, rfl, z1, c.cls, c.no _ m, e2, (k.later l1).qd r1 q d2⟩
  · exact hq1.elim
theorem SE.make2 {k : Nat} {fi : Addr} {fd : FuncData} {ps : List Str} {f1 f2 : Str} {e1 e2 : Expr} (c : ClsN X.K N C fl) (M : Mk X.K C fi) (F : FnOk X.prog X.w X.K X.mg X.base CX0 k fi fd ps (spIn2 X.K C f1 f2)) (hne : f1 ≠ f2) (hr : Room (k + 1) X.A) (hg : Gl X N) (hm : X.mg N = some (.ref C)) (hb : Binds X.K fd ps [])
    (ha : SA X W [e1, e2] ga) (hdb : (N == ("__debug__" : Str)) = false := by decide) (he : starEach (e1 :: [e2]) X.env = (false, eval e1 X.env) :: starEach [e2] X.env := by rfl) (hpl : (backTo pos (starEach [e2] X.env)).any (·.1) = false := by rfl) :
    SE X W (.Call (.Name N p) [e1, e2] [] pos) (fMake2 N f1 f2 ga) := by
  obtain ⟨_, pa, sa⟩ := ha
  refine ⟨_, pe_make (E := E0) M F hr hg hm hb (dvs := []) .nil pass0 pa hdb he hpl, fun σ H as ρ h Q E QV eR hR hq k kx => ?_⟩
  refine sa σ H as ρ h _ E _ eR hR hq (fun xs h1 vs as1 H1 hq1 l1 r1 rv => ?_) kx
  split at hq1
  · rename_i p q
    cases rv with | cons ra rv =>
    cases rv with | cons rb rv =>
    cases rv
    cases ra with | d ra =>
    cases rb with | d rb =>
    rename_i va vb
    intro x dx hx hdx hne2
    refine ⟨x, va, vb, dx, rfl, upd_same, rfl, ?_⟩
    rw [putF2 hne, upd_upd, upd_upd]
    have hx2 : upd H1 dx (.own x) x = none := by rw [upd_ne hne2.symm]; exact hx
    have l2 : Later as1 H1 as1 (upd H1 dx (.own x)) := Later.new _ hdx
    have l3 : Later as1 (upd H1 dx (.own x)) as1 (upd (upd H1 dx (.own x)) x (.ins C dx [(f1, va), (f2, vb)])) := Later.new _ hx2
    have l4 := l2.trans l3
    have r3 : HeapR X.K as1 (upd (upd H1 dx (.own x)) x (.ins C dx [(f1, va), (f2, vb)])) h1 := (r1.new _ hdx).new _ hx2
    refine (k.later l1) _ _ _ _ _ hq1 l4 r3 (.ob upd_same c.nm (fun hm => ?_) rfl (.cons (ra.later l4) (.cons (rb.later l4) .nil)))
    obtain ⟨u, e⟩ := r1.there hm
    rw [hx] at e
    cases e
  · exact hq1.elim
end
section
variable {ρ : En} {h : Ho} {Q : KD} {E : XD} {fo : WE} {ga : WA}
def fldK (N f : Str) (Q : KD) : KD := fun x h1 => match x with
  | .ob M fs => M = N ∧ ∃ p, fs.lookup f = some p ∧ Q (.d p) h1
  | _ => False
theorem i_fld {N f : Str} (k : fo ρ h (fldK N f Q) E) : fFld N f fo ρ h Q E := k
theorem fld1 {N f : Str} {fs : List (Str × PyData)} {p : PyData} (e : fs.lookup f = some p) (k : Q (.d p) h) : fldK N f Q (.ob N fs) h := ⟨rfl, p, e, k⟩
theorem i_make2 {N f1 f2 : Str} (k : ga ρ h (fun xs h1 => match xs with
  | [.d p, .d q] => Q (.ob N [(f1, p), (f2, q)]) h1
  | _ => False) E) : fMake2 N f1 f2 ga ρ h Q E := k
end
end V2
set_option Elab.async false
set_option linter.all false
set_option maxRecDepth 100000
set_option maxHeartbeats 4000000
/-! a def that hands out its last list: data behind the call -/
namespace V2
open PySem PySem.Spec PyProof.Rows L2
open PySem.W (Frag)
section
variable {K : Frag} {as : List Addr} {H : Hp} {b : Addr}
theorem dv_back : ∀ {d : PyData} {v : V}, Dv K (as ++ [b]) H v d → Dv K as H v d := by
  intro d v hd
  have tupB : ∀ {a : Addr} {ys : List V}, TupR K (as ++ [b]) H a ys → TupR K as H a ys := fun z => z.elim (fun z => .inl ⟨z.1, fun m => z.2 (List.mem_append_left _ m)⟩) .inr
  have lstB : ∀ {a : Addr} {ys : List V}, LstR K (as ++ [b]) H a ys → LstR K as H a ys := fun z => z.elim (fun z => .inl ⟨z.1, fun m => z.2 (List.mem_append_left _ m)⟩) .inr
  exact Dv.rec (motive_1 := fun v d _ => Dv K as H v d) (motive_2 := fun vs ds _ => DvAll K as H vs ds) .non (fun b => .bl b) (fun i => .int i) (fun x => .str x) (fun s _ ih => .lst (lstB s) ih) (fun s _ ih => .tup (tupB s) ih) .nil (fun _ _ ih1 ih2 => .cons ih1 ih2) hd
theorem dvs_back : ∀ (ds : List PyData) (vs : List V), DvAll K (as ++ [b]) H vs ds → DvAll K as H vs ds := by
  intro ds
  induction ds with
  | nil => intro vs hd; cases hd; exact .nil
  | cons d ds ih => intro vs hd; cases hd with | cons z1 z2 => exact .cons (dv_back z1) (ih _ z2)
theorem rel_back {v : V} {x : D} (rx : Rel K (as ++ [b]) H v x) (hn : noRefD as.length x = true) : Rel K as H v x := by
  have tupB : ∀ {a : Addr} {ys : List V}, TupR K (as ++ [b]) H a ys → TupR K as H a ys := fun z => z.elim (fun z => .inl ⟨z.1, fun m => z.2 (List.mem_append_left _ m)⟩) .inr
  cases rx with
  | d rx => exact .d (dv_back rx)
  | @loc a m hm =>
    simp only [noRefD, bne_iff_ne, ne_eq] at hn
    have hlt := (List.getElem?_eq_some_iff.mp hm).1
    simp at hlt
    have : m < as.length := by omega
    rw [List.getElem?_append_left this] at hm
    exact .loc hm
  | tp z1 z2 z3 z4 => exact .tp z1 z2 (fun m => z3 (List.mem_append_left _ m)) (dvs_back _ _ z4)
  | ob z1 z2 z3 z4 z5 => exact .ob z1 z2 (fun m => z3 (List.mem_append_left _ m)) z4 (dvs_back _ _ z5)
  | @pr t a m v q z1 hm z3 =>
    simp only [noRefD, bne_iff_ne, ne_eq] at hn
    have hlt := (List.getElem?_eq_some_iff.mp hm).1
    simp at hlt
    have : m < as.length := by omega
    rw [List.getElem?_append_left this] at hm
    exact .pr (tupB z1) hm (dv_back z3)
theorem rels_back : ∀ {vs : List V} {xs : List D}, RelAll K (as ++ [b]) H vs xs → (∀ x ∈ xs, noRefD as.length x = true) → RelAll K as H vs xs := by
  intro vs xs ra
  induction ra with
  | nil => intro _; exact .nil
  | cons r t ih => intro hn; exact .cons (rel_back r (hn _ (by simp))) (ih fun x hx => hn x (List.mem_cons_of_mem _ hx))
theorem heap_back {hh : Ho} {o : O} (r : HeapR K (as ++ [b]) H (hh ++ [o])) (hno : noRef hh.length hh = true) : HeapR K as H hh := by
  have hl := r.len
  rw [List.length_append, List.length_append, List.length_singleton, List.length_singleton] at hl
  have hl : as.length = hh.length := by omega
  refine ⟨hl, ?_, fun i o a e1 e2 => ?_⟩
  · have := r.nd
    rw [List.nodup_append] at this
    exact this.1
  · have hi' : i < as.length := (List.getElem?_eq_some_iff.mp e2).1
    have q2 := r.ob i o a (by rw [List.getElem?_append_left (by omega)]; exact e1) (by rw [List.getElem?_append_left hi']; exact e2)
    cases o with
    | lst ys =>
      obtain ⟨us, u1, u2⟩ := q2
      refine ⟨us, u1, rels_back u2 fun x hx => ?_⟩
      unfold noRef at hno
      rw [List.all_eq_true] at hno
      have := hno _ (List.mem_of_getElem? e1)
      simp only [List.all_eq_true] at this
      rw [hl]
      exact this x hx
    | keys ks =>
      obtain ⟨h0, xs, u1, u2, u3⟩ := q2
      exact ⟨h0, xs, u1, u2, fun z hz => (u3 z hz).imp (fun t => ⟨t.1, fun hm => t.2 (List.mem_append_left _ hm)⟩) id⟩
end
/-- the last place as data -/
def frzK (Q : KD) (n0 : Nat) : KD := fun y h' => match y with
  | .loc n => ∃ hh ps, h' = hh ++ [.lst (ps.map D.d)] ∧ n = hh.length ∧ n0 ≤ n ∧ noRef n hh = true ∧ Q (.d (.list ps)) hh
  | .pr n q => ∃ hh ps, h' = hh ++ [.lst (ps.map D.d)] ∧ n = hh.length ∧ n0 ≤ n ∧ noRef n hh = true ∧ Q (.d (.tuple [.list ps, q])) hh
  | y => Q y h'
def frz (F : WF) : WF := fun xs h Q E => F xs h (frzK Q h.length) E
theorem split_last {α : Type} {l : List α} {n : Nat} {a : α} (h : l.length = n + 1) (e : l[n]? = some a) : l = l.take n ++ [a] := by
  have e2 := List.take_add_one (l := l) (i := n)
  rw [e, Option.toList_some, List.take_of_length_le (by omega)] at e2
  exact e2
theorem later_cut {as as1 as2 : List Addr} {H H1 : Hp} {a : Addr} (l : Later as H as1 H1) (e : as1 = as2 ++ [a]) (hl : as.length ≤ as2.length) : Later as H as2 H1 := by
  subst e
  obtain ⟨⟨m, em⟩, k⟩ := l
  refine ⟨⟨m.take (as2.length - as.length), ?_⟩, fun p o h n => ?_⟩
  · have e1 : (as2 ++ [a]).take as2.length = as2 := List.take_left
    rw [em, List.take_append, List.take_of_length_le hl] at e1
    exact e1.symm
  · obtain ⟨k1, k2⟩ := k p o h n
    exact ⟨k1, fun hm => k2 (List.mem_append_left _ hm)⟩
theorem FnG.frz {P : Program} {w : World} {K : Frag} {mg : Str → Option Value} {base : Heap} {k : Nat} {f : Addr} {fd : FuncData} {ps : List Str} {F : WF} (g : FnG P w K mg base k f fd ps F) : FnG P w K mg base k f fd ps (V2.frz F) := by
  refine ⟨fun A outer s H args us vs Q E hr hg e0 hb hv ⟨as, xs, ho, Q0, E0, h1, h2, h3, h4, h5, h6⟩ => g.run A outer s H args us vs Q E hr hg e0 hb hv ⟨as, xs, ho, frzK Q0 ho.length, E0, h1, h2, h3, h4, fun y h' v as1 H1 q l r rv => ?_, h6⟩⟩
  have core : ∀ (n : Nat) (hh : Ho) (ps : List PyData) (a : Addr), h' = hh ++ [.lst (ps.map D.d)] → n = hh.length → ho.length ≤ n → noRef n hh = true → as1[n]? = some a →
      ∃ as2, as1 = as2 ++ [a] ∧ Later as H as2 H1 ∧ HeapR K as2 H1 hh ∧ ∃ us, LstR K as2 H1 a us ∧ DvAll K as2 H1 us ps := by
    intro n hh ps a eh en hn nr ha
    subst eh
    subst en
    have len := r.len
    rw [List.length_append, List.length_singleton] at len
    have es := split_last len ha
    have hl2 : (as1.take hh.length).length = hh.length := by rw [List.length_take]; omega
    refine ⟨as1.take hh.length, es, later_cut l es (by rw [hl2, h3.len]; exact hn), ?_, ?_⟩
    · rw [es] at r
      exact heap_back r nr
    · obtain ⟨us, o1, o2⟩ := r.ob hh.length _ a List.getElem?_concat_length ha
      rw [es] at o2
      have nd := r.nd
      rw [es, List.nodup_append] at nd
      refine ⟨us, .inl ⟨.inl o1, fun hm => nd.2.2 a hm a (by simp) rfl⟩, dvs_back _ _ o2.data⟩
  cases y with
  | loc n =>
    obtain ⟨hh, ps, eh, en, hn, nr, q⟩ := q
    cases rv with | loc hm =>
    obtain ⟨as2, e, l2, r2, us, lr, da⟩ := core n hh ps _ eh en hn nr hm
    exact h5 _ _ _ _ _ q l2 r2 (.d (.lst lr da))
  | pr n qd =>
    obtain ⟨hh, ps, eh, en, hn, nr, q⟩ := q
    cases rv with | pr tr hm dq =>
    obtain ⟨as2, e, l2, r2, us, lr, da⟩ := core n hh ps _ eh en hn nr hm
    subst e
    refine h5 _ _ _ _ _ q l2 r2 (.d (.tup (tr.elim (fun z => .inl ⟨z.1, fun m => z.2 (List.mem_append_left _ m)⟩) .inr) (.cons (.lst lr da) (.cons (dv_back dq) .nil))))
  | d p => exact h5 _ _ _ _ _ q l r rv
  | tp ps => exact h5 _ _ _ _ _ q l r rv
  | ob C fs => exact h5 _ _ _ _ _ q l r rv
/-- a tuple of a place and data -/
def rPr : WR := fun xs h Q => match xs with
  | [.loc n, .d q] => Q (.pr n q) h
  | _ => False
section
variable {X : Cx} {W : WX} {ga : WA} {e1 e2 : Expr} {pos : Pos}
def fPr (ga : WA) : WE := fun ρ h Q E => ga ρ h (fun xs h1 => rPr xs h1 Q) E
theorem SE.pr {es : List Expr} {x1} (ha : SA X W es ga) : SE X W (.Tuple es x1 pos) (fPr ga) := by
  obtain ⟨_, pa, sa⟩ := ha
  refine ⟨_, pe_tup pa, fun σ H as ρ h Q E QV eR hR hq k kx => ?_⟩
  refine sa σ H as ρ h _ E _ eR hR hq (fun xs h1 vs as1 H1 hq1 l1 r1 rv => ?_) kx
  unfold rPr at hq1
  split at hq1
  · rename_i n q
    cases rv with | cons ra rv =>
    cases rv with | cons rb rv =>
    cases rv
    cases ra with | @loc a1 _ ra =>
    cases rb with | d rb =>
    rename_i vb
    refine ⟨by show 2 ≤ sizeLine; decide, fun p hp => ?_⟩
    have l2 := Later.new (as := as1) (.tup [.ref a1, vb]) hp
    refine (k.later l1) _ _ _ _ _ hq1 l2 (r1.new _ hp) (.pr (.inl ⟨.inl upd_same, fun hm => ?_⟩) (l2.at ra) (rb.later l2))
    obtain ⟨u, e⟩ := r1.there hm
    rw [hp] at e
    cases e
  · exact hq1.elim
end
end V2
set_option Elab.async false
set_option linter.all false
set_option maxRecDepth 100000
set_option maxHeartbeats 4000000
/-! sorted of a list of ints, and of a list of data that can be compared -/
namespace V2
open PySem PySem.Spec PyProof.Rows L2
open PySem.W (Frag EachIs dataLe)
def rSortI2 : WR := fun xs h Q => ∃ x ns, xs = [x] ∧ litems h x = some (ns.map fun i => D.d (.int i)) ∧ ∀ ns' : List Int, ns'.Perm ns → ns'.Pairwise (· ≤ ·) → Q (.d (.list (ns'.map PyData.int))) h
def rSortD : WR := fun xs h Q => ∃ x ds, xs = [x] ∧ litems h x = some (ds.map D.d) ∧ PySem.W.AllAlike ds ∧ PySem.W.Sortable ds ∧ (∀ d ∈ ds, d.depth ≤ 60) ∧ Q (.d (.list (ds.mergeSort (dataLe false id)))) h
def rSortDV (K : Frag) : List V → Hp → VK → Prop := fun vs H Q => ∃ (a : Addr) (us : List V) (ds : List PyData), vs = [V.ref a] ∧ SqL K H a us ∧ DpAll K H us ds ∧ PySem.W.AllAlike ds ∧ PySem.W.Sortable ds ∧ (∀ d ∈ ds, d.depth ≤ 60) ∧
  ∀ p, H p = none → Q (.ref p) (upd H p (.lst (((us.zip ds).mergeSort (dataLe false (·.2))).map (·.1))))
theorem dpAll_len {K : Frag} {H : Hp} : ∀ {us : List V} {ds : List PyData}, DpAll K H us ds → us.length = ds.length
  | _, _, .nil => rfl
  | _, _, .cons _ h => by rw [List.length_cons, List.length_cons, dpAll_len h]
theorem each_zip1 : ∀ {us : List V} {its : List Value} {ds : List PyData}, Vals us its → us.length = ds.length → EachIs (fun v (b : V × PyData) => RelV b.1 v) its (us.zip ds)
  | [], _, _, .nil, _ => by simp; exact .nil
  | u :: us, _, d :: ds, .cons r t, e => .cons r (each_zip1 t (by simpa using e))
theorem each_zip2 {h : Heap} : ∀ {us : List V} {its : List Value} {ds : List PyData} {as : List Addr}, ReadsAll h its ds as → us.length = ds.length → EachIs (fun v (b : V × PyData) => ∃ as, Reads h v b.2 as) its (us.zip ds)
  | [], _, [], _, .nil, _ => .nil
  | u :: us, _, d :: ds, _, .cons r t, e => .cons ⟨_, r⟩ (each_zip2 t (by simpa using e))
theorem vals_each : ∀ {out : List Value} {M : List (V × PyData)}, EachIs (fun v (b : V × PyData) => RelV b.1 v) out M → Vals (M.map (·.1)) out
  | _, _, .nil => .nil
  | _, _, .cons r t => .cons r (vals_each t)
theorem dvAll_of {K : Frag} {as : List Addr} {H : Hp} : ∀ {M : List (V × PyData)}, (∀ z ∈ M, Dv K as H z.1 z.2) → DvAll K as H (M.map (·.1)) (M.map (·.2))
  | [], _ => .nil
  | z :: M, h => .cons (h z (by simp)) (dvAll_of fun y hy => h y (by simp [hy]))
theorem dv_zip {K : Frag} {as : List Addr} {H : Hp} : ∀ {us : List V} {ds : List PyData}, DvAll K as H us ds → ∀ z ∈ us.zip ds, Dv K as H z.1 z.2
  | _, _, .nil, z, hz => by simp at hz
  | _, _, .cons r t, z, hz => by
    rw [List.zip_cons_cons] at hz
    rcases List.mem_cons.1 hz with rfl | hz
    · exact r
    · exact dv_zip t z hz
theorem dv_len {K : Frag} {as : List Addr} {H : Hp} : ∀ {us : List V} {ds : List PyData}, DvAll K as H us ds → us.length = ds.length
  | _, _, .nil => rfl
  | _, _, .cons _ h => by rw [List.length_cons, List.length_cons, dv_len h]
theorem zip_snd {us : List V} {ds : List PyData} (e : us.length = ds.length) : (us.zip ds).map (·.2) = ds := List.map_snd_zip (by omega)
theorem sort_snd {us : List V} {ds : List PyData} (e : us.length = ds.length) : ((us.zip ds).mergeSort (dataLe false (·.2))).map (·.2) = ds.mergeSort (dataLe false id) := by
  have h := List.map_mergeSort (r := dataLe false (fun b : V × PyData => b.2)) (s := dataLe false id) (f := fun b : V × PyData => b.2) (l := us.zip ds) (fun a _ b _ => rfl)
  rw [h, zip_snd e]
theorem dvs_int {K : Frag} {as : List Addr} {H : Hp} : ∀ ns : List Int, DvAll K as H (ns.map V.int) (ns.map PyData.int)
  | [] => .nil
  | i :: t => .cons (.int i) (dvs_int t)
section
variable {X : Cx} {W : WX} {a : Expr} {ga : WA} {pos p : Pos}
theorem cr_sortD (hu : X.A.units + 64 < cLine) : CallR X (.builtin "sorted") (rSortDV X.K) := by
  intro pins s σ H vs us Q I r h
  obtain ⟨a, xs, ds, rfl, hs, hp, hal, hk, dep, q⟩ := h
  obtain ⟨its, rv, hl, hz⟩ := I.list hs
  obtain ⟨as, h4⟩ := Dp.readsAll I ds _ its hp rv
  rw [Vals.ref1 r]
  have len := dpAll_len hp
  have ez := zip_snd len
  refine PySem.W.sorted_data (enc := fun b : V × PyData => b.2) (bs := xs.zip ds) hl.isList (each_zip1 rv len) (each_zip2 h4 len) (by rw [ez]; exact hal) (by rw [ez]; exact hk) (by rw [List.length_zip]; omega) (fun b hb => ?_) fun out h1 h2 => ?_
  · have := dep b.2 (List.of_mem_zip hb).2
    omega
  obtain ⟨ep, he'⟩ := PyProof.Rows.sortedAll_at s.heap its out.toArray
  have hv := vals_each h2
  have hlen : (((xs.zip ds).mergeSort (dataLe false (·.2))).map (·.1)).length ≤ sizeLine := by
    rw [List.length_map, List.length_mergeSort, List.length_zip]
    omega
  exact ⟨.ref _, upd H (s.heap.objs.size + 1) (.lst _), I.laid (t' := s.toks) (fun _ _ => PyProof.Rows.sortedAll_old) (Nat.le_succ _) ⟨hlen, out, ep, hv, he'⟩, rfl, q _ (I.hok.fresh (Nat.le_succ _))⟩
theorem cp_sortD : CpA X (rSortDV X.K) rSortD := by
  rintro xs h Q vs as H QV rv hR ⟨x, ds, rfl, e, hal, hk, dep, q⟩ k
  obtain ⟨v, rfl, r⟩ := relAll1 rv
  obtain ⟨a, us, rfl, s, ra⟩ := litems_rel r hR e
  have da := relAll_dv ra
  have len := dv_len da
  refine ⟨a, us, ds, rfl, s, DvAll.dp da, hal, hk, dep, fun p hp => ?_⟩
  have dv := dvAll_of (M := (us.zip ds).mergeSort (dataLe false (·.2))) fun z hz => dv_zip da z ((List.mergeSort_perm _ _).mem_iff.1 hz)
  rw [sort_snd len] at dv
  exact k.newLst hR q dv hp
theorem cp_sortI2 : CpA X (L2.rSortedI X.K) rSortI2 := by
  rintro xs h Q vs as H QV rv hR ⟨x, ns, rfl, e, q⟩ k
  obtain ⟨v, rfl, r⟩ := relAll1 rv
  obtain ⟨a, us, rfl, s, ra⟩ := litems_rel r hR e
  rw [ra.ints] at s
  refine ⟨a, ns, rfl, s, fun ns' p h1 h2 hp => ?_⟩
  refine k.newLst hR (q ns' h1 h2) ?_ hp
  exact dvs_int ns'
theorem SE.sortD (hg : Gl X "sorted") (hm : X.mg "sorted" = none) (hu : X.A.units + 64 < cLine) (ha : SA X W [a] ga) (he : starEach [a] X.env = (false, eval a X.env) :: starEach [] X.env := by rfl) : SE X W (.Call (.Name "sorted" p) [a] [] pos) (fCall rSortD ga) := .callB (cr_sortD hu) cp_sortD hg hm (by decide +kernel) ha (he := he) (hpl := rfl)
theorem SE.sortI (hg : Gl X "sorted") (hm : X.mg "sorted" = none) (ha : SA X W [a] ga) (he : starEach [a] X.env = (false, eval a X.env) :: starEach [] X.env := by rfl) : SE X W (.Call (.Name "sorted" p) [a] [] pos) (fCall rSortI2 ga) := .callB cr_sortedI cp_sortI2 hg hm (by decide +kernel) ha (he := he) (hpl := rfl)
end
end V2
set_option Elab.async false
set_option linter.all false
set_option maxRecDepth 100000
set_option maxHeartbeats 4000000
/-! list(x) as a place; a class by its name -/
namespace V2
open PySem PySem.Spec PyProof.Rows L2
open PySem.W (Frag)
def rListLoc : WR := fun xs h Q => ∃ x ys, xs = [x] ∧ items h x = some ys ∧ Q (.loc h.length) (h ++ [.lst ys])
section
variable {X : Cx} {W : WX} {a : Expr} {ga : WA} {pos p : Pos}
theorem cp_listLoc : CpA X (fun xs H Q => ∃ p ys, xs = [.ref p] ∧ (SqL X.K H p ys ∨ SqT X.K H p ys) ∧ ∀ l, H l = none → Q (.ref l) (upd H l (.lst ys))) rListLoc := by
  rintro xs h Q vs as H QV rv hR ⟨x, ys, rfl, e, q⟩ k
  obtain ⟨v, rfl, r⟩ := relAll1 rv
  obtain ⟨a, us, rfl, s, ra⟩ := items_rel r hR e
  exact ⟨a, us, rfl, s, fun l hl => k.newLoc hR q ra hl⟩
theorem SE.listLoc (hg : Gl X "list") (hm : X.mg "list" = none) (ha : SA X W [a] ga) (he : starEach [a] X.env = (false, eval a X.env) :: starEach [] X.env := by rfl) : SE X W (.Call (.Name "list" p) [a] [] pos) (fCall rListLoc ga) := .callTy call_list_of cp_listLoc hg hm (by decide +kernel) ha (he := he) (hpl := rfl)
end
def onlyNm (K : Frag) (N : Str) (C : Addr) : Bool := K.all fun p => match p.2 with
  | ⟨_, _, .cls cd, _⟩ => cd.name != N || p.1 == C
  | _ => true
theorem lookup_mem {α β : Type} [BEq α] [LawfulBEq α] {l : List (α × β)} {a : α} {b : β} (h : l.lookup a = some b) : (a, b) ∈ l := by
  induction l with
  | nil => cases h
  | cons p l ih =>
    obtain ⟨c, d⟩ := p
    rw [List.lookup_cons] at h
    by_cases e : (a == c) = true
    · rw [e] at h
      cases h
      rw [eq_of_beq e]
      exact List.mem_cons_self
    · rw [Bool.not_eq_true] at e
      rw [e] at h
      exact List.mem_cons_of_mem _ (ih h)
theorem onlyNm_eq {K : Frag} {N : Str} {C : Addr} (h : onlyNm K N C = true) (a : Addr) (e : nmIn K a = some N) : a = C := by
  unfold nmIn at e
  split at e
  · rename_i c d cd s he
    cases e
    have m := lookup_mem he
    unfold onlyNm at h
    rw [List.all_eq_true] at h
    have := h _ m
    simp only [Bool.or_eq_true, bne_self_eq_false, Bool.false_eq_true, false_or] at this
    exact eq_of_beq this
  · cases e
section
variable {P : Program} {w : World} {K : Frag} {mg : Str → Option Value} {base : Heap}
theorem frz_len {n m : Nat} {f : WS} : ∀ xs ho Q E, frz (mir n m f) xs ho Q E → xs.length = m := fun _ _ _ _ h => h.1
end
end V2
set_option Elab.async false
set_option linter.all false
set_option maxRecDepth 100000
set_option maxHeartbeats 4000000
/-! x in, not in a list of data -/
namespace V2
open PySem PySem.Spec PyProof.Rows L2
open PySem.W (Frag)
def rInLV (neg : Bool) (K : Frag) : R2 := fun x y H Q => ∃ d ds, Dp K H x d ∧ Dp K H y (.list ds) ∧ SeqAt.shaped d = true ∧ d.depth ≤ 63 ∧ SeqAt.shaped (.list ds) = true ∧ Q (.bl (if neg then !(ds.any fun z => PyData.eqv z d) else ds.any fun z => PyData.eqv z d)) H
def rInL2 (neg : Bool) : WR2 := fun x y h Q => match x, y with
  | .d p, .d (.list ds) => SeqAt.shaped p = true ∧ p.depth ≤ 63 ∧ SeqAt.shaped (.list ds) = true ∧ Q (.d (.bool (if neg then !(ds.any fun z => PyData.eqv z p) else ds.any fun z => PyData.eqv z p))) h
  | _, _ => False
section
variable {X : Cx} {W : WX} {a b : Expr} {fa fb : WE} {pos : Pos}
theorem op_notInLV (hu : X.A.units + 64 < cLine) : OpR X (compareOp .NotIn) (rInLV true X.K) := by
  intro pins s σ H x y v u Q I rx ry ⟨d, ds, hd, he, sd, dd, se, q⟩
  obtain ⟨m, r1⟩ := Dp.reads I d x v hd rx
  obtain ⟨n, r2⟩ := Dp.reads I (.list ds) y u he ry
  exact SeqAt.notIn_list_reads r2 r1 (SeqAt.canLay_of_shaped se) (SeqAt.canLay_of_shaped sd) (by have := Nat.min_le_right (PyData.depthAll ds) d.depth; omega) ⟨.bl _, H, I, rfl, q⟩
theorem cp_inL {neg : Bool} : Cp2 X (rInLV neg X.K) (rInL2 neg) := by
  intro x y h Q v w as H QV rx ry hR hq k
  unfold rInL2 at hq
  split at hq
  · rename_i p ds
    cases rx with | d rx =>
    cases ry with | d ry =>
    exact ⟨p, ds, rx.dp, ry.dp, hq.1, hq.2.1, hq.2.2.1, k.qd hR hq.2.2.2 (.bl _)⟩
  · exact hq.elim
theorem ST.notInL (hu : X.A.units + 64 < cLine) (ha : SE X W a fa) (hb : SE X W b fb) (hm : behindInMarks .NotIn b = false := by rfl) : ST X W (.Compare a [.NotIn] [b] pos) (tVal (fBin (rInL2 true) fa fb)) := .cmp (op_notInLV hu) cp_inL ha hb hm
end
theorem i_inL {p : PyData} {ds : List PyData} {neg : Bool} {h : Ho} {Q : KD} (h1 : SeqAt.shaped p = true) (h3 : p.depth ≤ 63) (h2 : SeqAt.shaped (.list ds) = true) (k : Q (.d (.bool (if neg then !(ds.any fun z => PyData.eqv z p) else ds.any fun z => PyData.eqv z p))) h) : rInL2 neg (.d p) (.d (.list ds)) h Q := ⟨h1, h3, h2, k⟩
end V2
set_option Elab.async false
set_option linter.all false
set_option maxRecDepth 100000
set_option maxHeartbeats 4000000
/-! .index of data in a list that is data -/
namespace V2
open PySem PySem.Spec PyProof.Rows L2 PySem.SeqAt PySem.W
open PySem.W (Frag)
/-- l.index(x) of a list that is data -/
def fIdxD (fo : WE) (ga : WA) : WE := fun ρ h Q E => fo ρ h (fun x h1 => match x with
  | .d (.list ds) => SeqAt.shaped (.list ds) = true ∧ ga ρ h1 (fun ys h2 => match ys with
    | [.d d] => idxK Q ds d h2
    | _ => False) E
  | _ => False) E
section
variable {X : Cx} {W : WX} {o e : Expr} {fo : WE} {ga : WA} {apos cpos : Pos}
theorem SE.idxD (hu : X.A.units + 64 < cLine) (ho : SE X W o fo) (ha : SA X W [e] ga) (hbase : attributeBase o "index" X.env (eval o X.env) = eval o X.env := by rfl)
    (hfew : ((backTo cpos (starEach [e] X.env)).all (fun x => !x.1) && (backToKw cpos (keywordEach [] X.env)).all (fun x => x.1.isSome)
      && decide ([e].length + ([] : List Keyword).length + (if ([] : List Keyword).isEmpty then 0 else 1) < 30)) = true := by rfl)
    (hline : (apos.endLine == cpos.line) = true := by rfl) (hs : starEach [e] X.env = (false, eval e X.env) :: starEach [] X.env := by rfl) : SE X W (.Call (.Attribute o "index" apos) [e] [] cpos) (fIdxD fo ga) := by
  obtain ⟨_, po, so⟩ := ho
  obtain ⟨_, pa, sa⟩ := ha
  refine ⟨_, pe_bm PySem.F.plainAttrs_list PySem.F.slot_list_index PySem.F.type_list_index (mt_indexL hu) po pa hbase hfew hline hs rfl, fun σ H as ρ h Q E QV eR hR hq k kx => ?_⟩
  refine so σ H as ρ h _ E _ eR hR hq (fun x h1 v as1 H1 hq1 l1 r1 rv => ?_) kx
  split at hq1
  · rename_i ds
    cases rv with | d rv =>
    cases rv with | lst hsq da =>
    refine ⟨.inl ⟨rfl, _, hsq.sq⟩, ?_⟩
    refine sa σ H1 as1 ρ h1 _ E _ (eR.later l1) r1 hq1.2 (fun ys h2 us as2 H2 hq2 l2 r2 rvs => ?_) (kx.later l1)
    split at hq2
    · obtain ⟨u, rfl, ru⟩ := relAll1 rvs
      cases ru with | d ru =>
      obtain ⟨s1, dd0, j, z, e4, e5, e6, q⟩ := hq2
      exact ⟨_, u, _, ds, j, z, rfl, rfl, ((Dv.lst hsq da).later l2).dp, ru.dp, hq1.1, s1, dd0, e4, e5, e6, ((k.later l1).later l2).qd r2 q (.int _)⟩
    · exact hq2.elim
  · exact hq1.elim
end
section
variable {ρ : En} {h : Ho} {Q : KD} {E : XD} {fo : WE} {ga : WA}
theorem i_idxD (k : fo ρ h (fun x h1 => match x with
  | .d (.list ds) => SeqAt.shaped (.list ds) = true ∧ ga ρ h1 (fun ys h2 => match ys with
    | [.d d] => idxK Q ds d h2
    | _ => False) E
  | _ => False) E) : fIdxD fo ga ρ h Q E := k
end
end V2
set_option Elab.async false
set_option linter.all false
set_option maxRecDepth 100000
set_option maxHeartbeats 4000000
/-! == of two objects by their class's own __eq__, isinstance of an object with its class -/
namespace V2
open PySem PySem.Spec PyProof.Rows L2
open PySem.W (Frag)
/-- what the head says of a class that tells itself what is equal -/
structure EqC (K : Frag) (C f : Addr) : Prop where
  fnd : PySem.W.findIn K (.ref C) "__eq__" = some (some (.ref f))
  fn : PySem.W.isFn K (.ref f) = true
/-- what isinstance asks of a class -/
structure InC (K : Frag) (C : Addr) : Prop where
  ha : PySem.W.findIn K (.ref C) "__class__" = some (some (.builtin "object.__class__"))
  hn : PySem.W.specialIn K (.builtin "object.__class__") "__get__" = some (some (.builtin "getset_descriptor.__get__"))
  ht : PySem.W.takesIn K (.builtin "object.__class__") = some true
  hm : PySem.W.mroIn K C (.type "object") = some true
  one : PySem.W.kitOne K (.ref C) (.ref C) = some true
def rEqOV (K : Frag) (mg : Str → Option Value) (C : Addr) (F : WF) : R2 := fun v w H Q => ∃ a b dx dy fs gs, v = .ref a ∧ w = .ref b ∧ H a = some (.ins C dx fs) ∧ H b = some (.ins C dy gs) ∧
  spD K mg 2 F [v, w] H (fun z H' => ∃ t, z = .bl t ∧ Q z H') (fun _ _ _ => False)
def rEqO2 (N : Str) (F : WF) : WR2 := fun x y h Q => (∃ fs gs, x = .ob N fs ∧ y = .ob N gs) ∧ F [x, y] h (fun z h' => (∃ t, z = .d (.bool t)) ∧ Q z h') noX
section
variable {X : Cx} {W : WX} {k : Nat} {f : Addr} {fd : FuncData} {ps : List Str} {F : WF} {C : Addr} {N : Str} {fl : List Str} {a b : Expr} {fa fb : WE} {pos : Pos}
theorem spD.err {K : Frag} {mg : Str → Option Value} {m : Nat} {vs : List V} {H : Hp} {Q : VK} {E : XK} (h : spD K mg m F vs H Q (fun _ _ _ => False)) : spD K mg m F vs H Q E := by
  obtain ⟨as, xs, h0, Q0, E0, h1, h2, h3, h4, h5, h6⟩ := h
  exact ⟨as, xs, h0, Q0, E0, h1, h2, h3, h4, h5, fun x h' cls dd as1 H1 e l r xr => (h6 x h' cls dd as1 H1 e l r xr).elim⟩
theorem op_eqO (ec : EqC X.K C f) (G : FnG X.prog X.w X.K X.mg X.base k f fd ps F) (hps : ps.length = 2) (hr : Room k X.A) (hgu : X.A.guards = some []) (tk : Takes X W) (hb : Binds X.K fd ps []) : OpR X (compareOp .Eq) (rEqOV X.K X.mg C F) := by
  intro pins s σ H x y v u Q I rx ry hq
  obtain ⟨a, b, dx, dy, fs, gs, rfl, rfl, ha, hb', sp⟩ := hq
  cases rx
  cases ry
  show wpAny (model X.prog X.w) X.A (richCompare .Eq (.ref a) (.ref b)) (EP X pins σ Q) X.xe s
  obtain ⟨mA, J, _⟩ := ins_get I.hok ha
  obtain ⟨mB, J', _⟩ := ins_get I.hok hb'
  obtain ⟨od, J, _⟩ := J.look
  obtain ⟨od', J', _⟩ := J'.look
  obtain ⟨m, hF⟩ := I.fr
  refine PySem.W.cmp_K (op := .Eq) (tb := .ref C) hr.units0 hF I.ok.mod.kin J J'.type (by simp [PySem.W.notFirst]) ec.fnd ec.fn ?_
  have b1 := hb s [.ref a, .ref b] I.kIn (by rw [List.append_nil, hps]; rfl)
  rw [List.append_nil] at b1
  have sp2 := spD.err (E := fun cls d H' => W cls d σ H') sp
  rw [← hps] at sp2
  have r2 : Vals [V.ref a, V.ref b] [Value.ref a, Value.ref b] := .cons rfl (.cons rfl .nil)
  refine wpAny_mono (run_fnG (args := ⟨[.ref a, .ref b], []⟩) G hr hgu tk I b1 r2 sp2) (fun r s' hq => ?_) fun _ _ x => x
  obtain ⟨z, H', I', rz, t, rfl, q⟩ := hq
  cases rz
  exact ⟨.bl t, H', I', rfl, q⟩
theorem cp_eqO (c : ClsN X.K N C fl) : Cp2 X (rEqOV X.K X.mg C F) (rEqO2 N F) := by
  intro x y h Q v w as H QV rx ry hR hq k
  obtain ⟨⟨fs, gs, rfl, rfl⟩, q⟩ := hq
  cases rx with | ob z1 z2 z3 z4 z5 =>
  cases ry with | ob y1 y2 y3 y4 y5 =>
  have e1 := c.one _ z2
  have e2 := c.one _ y2
  subst e1
  subst e2
  refine ⟨_, _, _, _, _, _, rfl, rfl, z1, y1, as, _, h, _, _, rfl, .cons (.ob z1 z2 z3 z4 z5) (.cons (.ob y1 y2 y3 y4 y5) .nil), hR, q, fun y h' v as1 H1 hq l r rr => ?_, fun x h' cls dd as1 H1 e l r xr => e⟩
  obtain ⟨⟨t, rfl⟩, hq⟩ := hq
  cases rr with | d rr =>
  cases rr
  exact ⟨t, rfl, k _ _ _ _ _ hq l r (.d (.bl t))⟩
theorem SE.eqO {j : Nat} (c : ClsN X.K N C fl) (ec : EqC X.K C f) (G : FnG X.prog X.w X.K X.mg X.base j f fd ps F) (hps : ps.length = 2) (hr : Room k X.A) (hj : j ≤ k) (hgu : X.A.guards = some []) (tk : Takes X W) (hb : Binds X.K fd ps [])
    (ha : SE X W a fa) (hb' : SE X W b fb) : SE X W (.Compare a [.Eq] [b] pos) (fBin (rEqO2 N F) fa fb) := .cmp (op_eqO ec G hps (hr.mono hj) hgu tk hb) (cp_eqO c) ha hb' (nomark _)
/-- isinstance(x, N) -/
def fIsiO (N : Str) (fa : WE) : WE := fun ρ h Q E => fa ρ h (fun x h1 => match x with
  | .ob M _ => M = N ∧ Q (.d (.bool true)) h1
  | _ => False) E
theorem SE.isiO {p1 p2 p3 : Pos} (c : ClsN X.K N C fl) (ic : InC X.K C) (hg : Gl X "isinstance") (hm : X.mg "isinstance" = none) (hgc : Gl X N) (hmc : X.mg N = some (.ref C)) (ha : SE X W a fa) (hdc : (N == ("__debug__" : Str)) = false := by decide)
    (he : starEach [a, .Name N p3] X.env = (false, eval a X.env) :: starEach [.Name N p3] X.env := by rfl) (he2 : starEach [.Name N p3] X.env = (false, eval (.Name N p3) X.env) :: starEach [] X.env := by rfl) (hpl : (backTo pos (starEach [.Name N p3] X.env)).any (·.1) = false := by rfl) :
    SE X W (.Call (.Name "isinstance" p1) [a, .Name N p3] [] pos) (fIsiO N fa) := by
  obtain ⟨_, pa, sa⟩ := ha
  refine ⟨_, pe_callB call_isi hg hm (by decide +kernel) (pa_cons pa (pa_cons (pe_glob (v := .ref C) hgc hmc rfl hdc) pa_nil he2) he) (he := he) (hpl := hpl), fun σ H as ρ h Q E QV eR hR hq k kx => ?_⟩
  refine sa σ H as ρ h _ E _ eR hR hq (fun y h1 v as1 H1 hq1 l1 r1 rv => ?_) kx
  split at hq1
  · obtain ⟨rfl, q⟩ := hq1
    cases rv with | ob z1 z2 z3 z4 z5 =>
    have e1 := c.one _ z2
    subst e1
    exact ⟨_, .ref _, _, _, true, rfl, .own _, .base (.ins z1 c.cls ic.ha ic.hn ic.ht ic.hm), ic.one, (k.later l1).qd r1 q (.bl true)⟩
  · exact hq1.elim
end
section
variable {ρ : En} {h : Ho} {Q : KD} {E : XD} {fa : WE}
def isoK (N : Str) (Q : KD) : KD := fun x h1 => match x with
  | .ob M _ => M = N ∧ Q (.d (.bool true)) h1
  | _ => False
theorem i_isiO {N : Str} (k : fa ρ h (isoK N Q) E) : fIsiO N fa ρ h Q E := k
theorem isi1 {N : Str} {fs : List (Str × PyData)} (k : Q (.d (.bool true)) h) : isoK N Q (.ob N fs) h := ⟨rfl, k⟩
theorem i_eqO {N : Str} {F : WF} {fs gs : List (Str × PyData)} (k : F [.ob N fs, .ob N gs] h (fun z h' => (∃ t, z = .d (.bool t)) ∧ Q z h') noX) : rEqO2 N F (.ob N fs) (.ob N gs) h Q := ⟨⟨fs, gs, rfl, rfl⟩, k⟩
end
/-! a, b = (x, y) where a name is a cell: the tuple is laid and unpacked, its members need be no data -/
def asgTK (n : Nat) (gs : WGs) (ρ : En) (N : En → Ho → Prop) : List D → Ho → Prop := fun xs h1 => xs.length = n ∧ n ≤ sizeLine ∧ ∃ ρ1, gs xs h1 ρ = some ρ1 ∧ N ρ1 h1
def sAsgT (n : Nat) (ga : WA) (gs : WGs) : WS := fun ρ h D => ga ρ h (asgTK n gs ρ D.nx) (exOf D ρ)
section
variable {X : Cx} {W : WX} {vs es : List Expr} {ga : WA} {gs : WGs} {sl : List Nat} {n : Nat} {pos : Pos}
theorem SS.asgT {k1 k2 p1 p2} (hc : X.calm = true) (ha : SA X W vs ga) (hg : SGs X es gs sl) (hn : (assignEach es X.env).length = n := by rfl) (hst : (assignEach es X.env).findIdx? (·.1) = none := by rfl)
    (hs : swapsWithSole [.Tuple es k1 p1] (.Tuple vs k2 p2) pos.line X.env = pure false := by rfl) (hw : swappedStores [.Tuple es k1 p1] (.Tuple vs k2 p2) X.env = pure none := by rfl)
    (h1 : (assignEach [.Tuple es k1 p1] X.env).map (·.2) = [assign (.Tuple es k1 p1) X.env] := by rfl) : SS X W (.Assign [.Tuple es k1 p1] (.Tuple vs k2 p2) pos) (sAsgT n ga gs) := by
  obtain ⟨_, pa, sa⟩ := ha
  obtain ⟨_, p, s⟩ := hg
  refine ⟨_, ps_asg (pe_tup pa) (pg_tup hc p hn hst) hs hw h1, fun σ H as ρ h D D' eR hR hq k => ?_⟩
  refine sa σ H as ρ h _ _ _ eR hR hq (fun xs h1 us as1 H1 hq1 l1 r1 rv => ?_) (k.x eR)
  obtain ⟨el, zl, ρ1, e1, hq1⟩ := hq1
  refine ⟨by rw [rv.length, el]; exact zl, fun l hl => ⟨l, us, rfl, .inl (.inl upd_same), by rw [rv.length]; exact el, ?_⟩⟩
  have l2 : Later as1 H1 as1 (upd H1 l (.tup us)) := Later.new _ hl
  exact s _ _ σ (upd H1 l (.tup us)) as1 ρ h1 ρ1 _ (eR.later (l1.trans l2)) (r1.new _ hl) (rv.later l2) e1 fun σ' eR' _ => k.nx _ _ _ _ _ hq1 (l1.trans l2) (r1.new _ hl) eR'
end
theorem i_asgT {ρ : En} {h : Ho} {D : Nx} {n : Nat} {ga : WA} {gs : WGs} (k : ga ρ h (asgTK n gs ρ D.nx) (exOf D ρ)) : sAsgT n ga gs ρ h D := k
end V2
set_option Elab.async false
set_option linter.all false
set_option maxRecDepth 100000
set_option maxHeartbeats 8000000
namespace LW
open PySem PySem.Spec PyProof.Rows L2 V2
open PySem.W (Frag)
/-! the readings over data -/
def B_eq_Mesh : WS := (sRet (fAnd (fIsiO "Mesh" (fVar 1)) (fAnd (fBin rEq2 (fFld "Mesh" "points" (fVar 0)) (fFld "Mesh" "points" (fVar 1))) (fBin rEq2 (fFld "Mesh" "triangles" (fVar 0)) (fFld "Mesh" "triangles" (fVar 1))))))
def M_eq_Mesh : WF := mir 2 2 B_eq_Mesh
def B_fraction : WS := (sSeq (sIf (tVal (fBin rEq2 (fVar 1) (fC (.int 0)))) (sRaise "InvalidSize" "word" (aCons (fC (.str "bottom")) aNil)) sNext)
  (sSeq (sAsg (fCall rGcd2 (aCons (fVar 0) (aCons (fVar 1) aNil))) (gNm 2))
  (sSeq (sIf (tVal (fBin (rCmp2 fun i j => decide (i < j)) (fVar 1) (fC (.int 0)))) (sAsg (fUn (fun i => .int (-i)) (fVar 2)) (gNm 2)) sNext)
  (sRet (fTup (aCons (fBin rDiv2 (fVar 0) (fVar 2)) (aCons (fBin rDiv2 (fVar 1) (fVar 2)) aNil)))))))
def M_fraction : WF := mir 3 2 B_fraction
def B_plus : WS := (sSeq (sAsg (fVar 0) (gTp 2 (gsCons (gNm 2) (gsCons (gNm 3) gsNil))))
  (sSeq (sAsg (fVar 1) (gTp 2 (gsCons (gNm 4) (gsCons (gNm 5) gsNil))))
  (sSeq (sAsg (fCall rGcd2 (aCons (fVar 3) (aCons (fVar 5) aNil))) (gNm 6))
  (sSeq (sAsg (fBin rDiv2 (fVar 3) (fVar 6)) (gNm 7))
  (sSeq (sAsg (fBin rAdd2 (fBin rMul2 (fVar 2) (fBin rDiv2 (fVar 5) (fVar 6))) (fBin rMul2 (fVar 4) (fVar 7))) (gNm 8))
  (sSeq (sAsg (fCall rGcd2 (aCons (fVar 8) (aCons (fVar 6) aNil))) (gNm 9))
  (sRet (fTup (aCons (fBin rDiv2 (fVar 8) (fVar 9)) (aCons (fBin rMul2 (fVar 7) (fBin rDiv2 (fVar 5) (fVar 9))) aNil))))))))))
def M_plus : WF := mir 10 2 B_plus
def B_times : WS := (sSeq (sAsg (fVar 0) (gTp 2 (gsCons (gNm 2) (gsCons (gNm 3) gsNil))))
  (sSeq (sAsg (fVar 1) (gTp 2 (gsCons (gNm 4) (gsCons (gNm 5) gsNil))))
  (sSeq (sPar 6 7 (aCons (fCall rGcd2 (aCons (fVar 2) (aCons (fVar 5) aNil))) (aCons (fCall rGcd2 (aCons (fVar 4) (aCons (fVar 3) aNil))) aNil)))
  (sRet (fTup (aCons (fBin rMul2 (fBin rDiv2 (fVar 2) (fVar 6)) (fBin rDiv2 (fVar 4) (fVar 7))) (aCons (fBin rMul2 (fBin rDiv2 (fVar 3) (fVar 7)) (fBin rDiv2 (fVar 5) (fVar 6))) aNil)))))))
def M_times : WF := mir 8 2 B_times
def B_negative : WS := (sRet (fTup (aCons (fUn (fun i => .int (-i)) (fBin rIx2 (fVar 0) (fC (.int 0)))) (aCons (fBin rIx2 (fVar 0) (fC (.int 1))) aNil))))
def M_negative : WF := mir 1 1 B_negative
def B_on_grid : WS := (sSeq (sAsg (fC (.int 1)) (gNm 1))
  (sSeq (sFor (iSeq (fVar 0)) (gTp 2 (gsCons (gTp 2 (gsCons (gNm 2) (gsCons (gNm 3) gsNil))) (gsCons (gTp 2 (gsCons (gNm 2) (gsCons (gNm 4) gsNil))) gsNil))) (sAsg (fCall rLcm3 (aCons (fVar 1) (aCons (fVar 3) (aCons (fVar 4) aNil)))) (gNm 1)))
  (sRet (fTup (aCons (fVar 1) (aCons (fLcV (iSeq (fVar 0)) (gTp 2 (gsCons (gTp 2 (gsCons (gNm 5) (gsCons (gNm 6) gsNil))) (gsCons (gTp 2 (gsCons (gNm 7) (gsCons (gNm 8) gsNil))) gsNil))) tTrue (fTup (aCons (fBin rMul2 (fVar 5) (fBin rDiv2 (fVar 1) (fVar 6))) (aCons (fBin rMul2 (fVar 7) (fBin rDiv2 (fVar 1) (fVar 8))) aNil))) [5, 6, 7, 8]) aNil))))))
def M_on_grid : WF := mir 9 1 B_on_grid
def B_whole_area : WS := (sRet (fBin rSub2 (fBin rMul2 (fBin rSub2 (fBin rIx2 (fVar 1) (fC (.int 0))) (fBin rIx2 (fVar 0) (fC (.int 0)))) (fBin rSub2 (fBin rIx2 (fVar 2) (fC (.int 1))) (fBin rIx2 (fVar 0) (fC (.int 1))))) (fBin rMul2 (fBin rSub2 (fBin rIx2 (fVar 1) (fC (.int 1))) (fBin rIx2 (fVar 0) (fC (.int 1)))) (fBin rSub2 (fBin rIx2 (fVar 2) (fC (.int 0))) (fBin rIx2 (fVar 0) (fC (.int 0)))))))
def M_whole_area : WF := mir 3 3 B_whole_area
def B__corners : WS := (sSeq (sAsg (fBin rIx2 (fFld "Mesh" "triangles" (fVar 0)) (fVar 1)) (gTp 3 (gsCons (gNm 2) (gsCons (gNm 3) (gsCons (gNm 4) gsNil)))))
  (sRet (fTup (aCons (fBin rIx2 (fFld "Mesh" "points" (fVar 0)) (fVar 2)) (aCons (fBin rIx2 (fFld "Mesh" "points" (fVar 0)) (fVar 3)) (aCons (fBin rIx2 (fFld "Mesh" "points" (fVar 0)) (fVar 4)) aNil))))))
def M__corners : WF := mir 5 2 B__corners
def B__law_source : WS := (sSeq (sAsg (fLcV (iSeq (fSl (fVar 0) oNone (oSome (fC (.int 63))))) (gNm 2) tTrue (fCall rAbs (aCons (fCall rInt1 (aCons (fVar 2) aNil)) aNil)) [2]) (gNm 1))
  (sSeq (sAsg (fC (.int 290042)) (gNm 3))
  (sSeq (sFor (iSeq (fVar 1)) (gNm 2) (sAsg (fBin rMod2 (fCall rInt1 (aCons (fBin rAdd2 (fBin rAdd2 (fBin rMul2 (fVar 3) (fC (.int 48271))) (fBin rMod2 (fVar 2) (fC (.int 2147483549)))) (fC (.int 41))) aNil)) (fC (.int 2147483647))) (gNm 3)))
  (sRet (fLoc (aCons (fRevLoc (fLcV (iSeq (fVar 1)) (gNm 2) (tVal (fBin (rCmp2 fun i j => decide (j ≤ i)) (fVar 2) (fBin rPow2 (fC (.int 10)) (fC (.int 18))))) (fVar 2) [2])) (aCons (fVar 3) aNil)))))))
def M__law_source : WF := mir 4 1 B__law_source
def B__law_any : WS := (sSeq (sWhile (tAnd2 (tVal (fBin rNe2 (fBin rIx2 (fVar 0) (fC (.int 0))) (fLst aNil))) (tVal (fBin rEq2 (fBin rIx2 (fBin rIx2 (fVar 0) (fC (.int 0))) (fUn (fun i => .int (-i)) (fC (.int 1)))) (fC (.int 0))))) (sDrop (fPop (fBin rIx2 (fVar 0) (fC (.int 0))))))
  (sSeq (sIf (tVal (fBin rNe2 (fBin rIx2 (fVar 0) (fC (.int 0))) (fLst aNil))) (sSeq (sAsg (fCall rInt1 (aCons (fPop (fBin rIx2 (fVar 0) (fC (.int 0)))) aNil)) (gNm 2))
  (sSeq (sDrop (fAppend (fBin rIx2 (fVar 0) (fC (.int 0))) (aCons (fBin rDiv2 (fVar 2) (fVar 1)) aNil)))
  (sRet (fBin rMod2 (fVar 2) (fVar 1))))) sNext)
  (sSeq (sSub (fBin rMod2 (fCall rInt1 (aCons (fBin rAdd2 (fBin rMul2 (fBin rIx2 (fVar 0) (fC (.int 1))) (fC (.int 48271))) (fC (.int 41))) aNil)) (fC (.int 2147483647))) (fVar 0) (fC (.int 1)))
  (sRet (fBin rMod2 (fCall rInt1 (aCons (fBin rDiv2 (fBin rIx2 (fVar 0) (fC (.int 1))) (fC (.int 64))) aNil)) (fVar 1))))))
def M__law_any : WF := mir 3 2 B__law_any
def B__law_common : WS := (sSeq (sPar 0 1 (aCons (fCall rAbs (aCons (fCall rInt1 (aCons (fVar 0) aNil)) aNil)) (aCons (fCall rAbs (aCons (fCall rInt1 (aCons (fVar 1) aNil)) aNil)) aNil)))
  (sSeq (sFor (iRange1 (aCons (fC (.int 9000)) aNil)) (gNm 2) (sSeq (sIf (tVal (fBin rEq2 (fVar 1) (fC (.int 0)))) sBrk sNext)
  (sPar 0 1 (aCons (fVar 1) (aCons (fBin rMod2 (fCall rInt1 (aCons (fVar 0) aNil)) (fVar 1)) aNil)))))
  (sRet (fVar 0))))
def M__law_common : WF := mir 3 2 B__law_common
def B__law_same : WS := (sRet (fBin rEq2 (fCall rRepr (aCons (fVar 0) aNil)) (fCall rRepr (aCons (fVar 1) aNil))))
def M__law_same : WF := mir 2 2 B__law_same
def B__law_cross : WS := (sRet (fBin rSub2 (fBin rMul2 (fBin rSub2 (fBin rIx2 (fVar 1) (fC (.int 0))) (fBin rIx2 (fVar 0) (fC (.int 0)))) (fBin rSub2 (fBin rIx2 (fVar 2) (fC (.int 1))) (fBin rIx2 (fVar 0) (fC (.int 1))))) (fBin rMul2 (fBin rSub2 (fBin rIx2 (fVar 1) (fC (.int 1))) (fBin rIx2 (fVar 0) (fC (.int 1)))) (fBin rSub2 (fBin rIx2 (fVar 2) (fC (.int 0))) (fBin rIx2 (fVar 0) (fC (.int 0)))))))
def M__law_cross : WF := mir 3 3 B__law_cross
def B__law_third : WS := (sSeq (sFor (iSeq (fVar 0)) (gTp 3 (gsCons (gNm 3) (gsCons (gNm 4) (gsCons (gNm 5) gsNil)))) (sSeq (sIf (tVal (fBin rEq2 (fTup (aCons (fVar 3) (aCons (fVar 4) aNil))) (fTup (aCons (fVar 1) (aCons (fVar 2) aNil))))) (sRet (fVar 5)) sNext)
  (sSeq (sIf (tVal (fBin rEq2 (fTup (aCons (fVar 4) (aCons (fVar 5) aNil))) (fTup (aCons (fVar 1) (aCons (fVar 2) aNil))))) (sRet (fVar 3)) sNext)
  (sIf (tVal (fBin rEq2 (fTup (aCons (fVar 5) (aCons (fVar 3) aNil))) (fTup (aCons (fVar 1) (aCons (fVar 2) aNil))))) (sRet (fVar 4)) sNext))))
  (sRet (fC .none)))
def M__law_third : WF := mir 6 3 B__law_third
def B_minus : WS := (sRet (fFn M_plus (aCons (fVar 0) (aCons (fFn M_negative (aCons (fVar 1) aNil)) aNil))))
def M_minus : WF := mir 2 2 B_minus
def B_over : WS := (sSeq (sAsg (fVar 1) (gTp 2 (gsCons (gNm 2) (gsCons (gNm 3) gsNil))))
  (sSeq (sIf (tVal (fBin rEq2 (fVar 2) (fC (.int 0)))) (sRaise "InvalidSize" "word" (aCons (fC (.str "bottom")) aNil)) sNext)
  (sSeq (sIf (tVal (fBin (rCmp2 fun i j => decide (i < j)) (fVar 2) (fC (.int 0)))) (sPar 2 3 (aCons (fUn (fun i => .int (-i)) (fVar 2)) (aCons (fUn (fun i => .int (-i)) (fVar 3)) aNil))) sNext)
  (sRet (fFn M_times (aCons (fVar 0) (aCons (fTup (aCons (fVar 3) (aCons (fVar 2) aNil))) aNil)))))))
def M_over : WF := mir 4 2 B_over
def B_total_of : WS := (sSeq (sAsg (fCall rList1 (aCons (fVar 0) aNil)) (gNm 1))
  (sSeq (sIf (tNot2 (tTru (fVar 1))) (sRet (fC (.tuple [(.int 0), (.int 1)]))) sNext)
  (sSeq (sWhile (tVal (fBin (rCmp2 fun i j => decide (j < i)) (fCall rLen (aCons (fVar 1) aNil)) (fC (.int 1)))) (sSeq (sAsg (fSl (fVar 1) (oSome (fBin rMul2 (fBin rDiv2 (fCall rLen (aCons (fVar 1) aNil)) (fC (.int 2))) (fC (.int 2)))) oNone) (gNm 2))
  (sAsg (fBin rAdd2 (fLcV (iZip2 (aCons (fSlL (2) (fVar 1) oNone oNone) (aCons (fSlL (2) (fVar 1) (oSome (fC (.int 1))) oNone) aNil))) (gTp 2 (gsCons (gNm 3) (gsCons (gNm 4) gsNil))) tTrue (fFn M_plus (aCons (fVar 3) (aCons (fVar 4) aNil))) [3, 4]) (fVar 2)) (gNm 1))))
  (sRet (fBin rIx2 (fVar 1) (fC (.int 0)))))))
def M_total_of : WF := mir 5 1 B_total_of
def B_doubled_area : WS := (sSeq (sAsg (fFn M_on_grid (aCons (fTup (aCons (fVar 0) (aCons (fVar 1) (aCons (fVar 2) aNil)))) aNil)) (gTp 2 (gsCons (gNm 3) (gsCons (gTp 3 (gsCons (gNm 4) (gsCons (gNm 5) (gsCons (gNm 6) gsNil)))) gsNil))))
  (sRet (fFn M_fraction (aCons (fFn M_whole_area (aCons (fVar 4) (aCons (fVar 5) (aCons (fVar 6) aNil)))) (aCons (fBin rMul2 (fVar 3) (fVar 3)) aNil)))))
def M_doubled_area : WF := mir 7 3 B_doubled_area
def B__law_of : WS := (sRet (fBin rIx2 (fVar 1) (fFn M__law_any (aCons (fVar 0) (aCons (fCall rLen (aCons (fVar 1) aNil)) aNil)))))
def M__law_of : WF := mir 2 2 B__law_of
def B__law_low : WS := (sSeq (sAsg (fFn M__law_common (aCons (fVar 0) (aCons (fVar 1) aNil))) (gNm 2))
  (sRet (fTup (aCons (fBin rDiv2 (fCall rInt1 (aCons (fVar 0) aNil)) (fVar 2)) (aCons (fBin rDiv2 (fCall rInt1 (aCons (fVar 1) aNil)) (fVar 2)) aNil)))))
def M__law_low : WF := mir 3 2 B__law_low
def B__law_split : WS := (sSeq (sPar 3 4 (aCons (fFn M__law_any (aCons (fVar 0) (aCons (fCall rLen (aCons (fVar 2) aNil)) aNil))) (aCons (fFn M__law_any (aCons (fVar 0) (aCons (fC (.int 3)) aNil))) aNil)))
  (sSeq (sAsg (fBin rAdd2 (fSl (fBin rIx2 (fVar 2) (fVar 3)) (oSome (fVar 4)) oNone) (fSl (fBin rIx2 (fVar 2) (fVar 3)) oNone (oSome (fVar 4)))) (gTp 3 (gsCons (gNm 5) (gsCons (gNm 6) (gsCons (gNm 7) gsNil)))))
  (sSeq (sAsg (fBin rDiv2 (fBin rAdd2 (fBin rAdd2 (fBin rMul2 (fC (.int 2)) (fBin rIx2 (fBin rIx2 (fVar 1) (fVar 5)) (fC (.int 0)))) (fBin rIx2 (fBin rIx2 (fVar 1) (fVar 6)) (fC (.int 0)))) (fBin rIx2 (fBin rIx2 (fVar 1) (fVar 7)) (fC (.int 0)))) (fC (.int 4))) (gNm 8))
  (sSeq (sAsg (fBin rDiv2 (fBin rAdd2 (fBin rAdd2 (fBin rMul2 (fC (.int 2)) (fBin rIx2 (fBin rIx2 (fVar 1) (fVar 5)) (fC (.int 1)))) (fBin rIx2 (fBin rIx2 (fVar 1) (fVar 6)) (fC (.int 1)))) (fBin rIx2 (fBin rIx2 (fVar 1) (fVar 7)) (fC (.int 1)))) (fC (.int 4))) (gNm 9))
  (sSeq (sAsg (fCall rLen (aCons (fVar 1) aNil)) (gNm 10))
  (sRet (fTup (aCons (fBin rAdd2 (fVar 1) (fLst (aCons (fTup (aCons (fVar 8) (aCons (fVar 9) aNil))) aNil))) (aCons (fBin rAdd2 (fBin rAdd2 (fSl (fVar 2) oNone (oSome (fVar 3))) (fSl (fVar 2) (oSome (fBin rAdd2 (fVar 3) (fC (.int 1)))) oNone)) (fLst (aCons (fLst (aCons (fVar 5) (aCons (fVar 6) (aCons (fVar 10) aNil)))) (aCons (fLst (aCons (fVar 6) (aCons (fVar 7) (aCons (fVar 10) aNil)))) (aCons (fLst (aCons (fVar 7) (aCons (fVar 5) (aCons (fVar 10) aNil)))) aNil))))) aNil)))))))))
def M__law_split : WF := mir 11 3 B__law_split
def B__law_grid : WS := (sSeq (sPar 4 5 (aCons (fLoc (aCons (fC (.int 0)) aNil)) (aCons (fLoc (aCons (fC (.int 0)) aNil)) aNil)))
  (sSeq (sFor (iRange1 (aCons (fVar 1) aNil)) (gNm 6) (sDrop (fAppend (fVar 4) (aCons (fBin rAdd2 (fBin rAdd2 (fBin rIx2 (fVar 4) (fUn (fun i => .int (-i)) (fC (.int 1)))) (fC (.int 1))) (fFn M__law_any (aCons (fVar 0) (aCons (fC (.int 4)) aNil)))) aNil))))
  (sSeq (sFor (iRange1 (aCons (fVar 2) aNil)) (gNm 6) (sDrop (fAppend (fVar 5) (aCons (fBin rAdd2 (fBin rAdd2 (fBin rIx2 (fVar 5) (fUn (fun i => .int (-i)) (fC (.int 1)))) (fC (.int 1))) (fFn M__law_any (aCons (fVar 0) (aCons (fC (.int 4)) aNil)))) aNil))))
  (sSeq (sPar 7 8 (aCons (fLst aNil) (aCons (fLst aNil) aNil)))
  (sSeq (sFor (iSeq (fVar 5)) (gNm 9) (sAsg (fBin rAdd2 (fVar 7) (fLcV (iSeq (fVar 4)) (gNm 10) tTrue (fTup (aCons (fVar 10) (aCons (fVar 9) aNil))) [10])) (gNm 7)))
  (sSeq (sFor (iRange1 (aCons (fBin rMul2 (fVar 1) (fVar 2)) aNil)) (gNm 11) (sSeq (sAsg (fBin rAdd2 (fBin rMul2 (fBin rDiv2 (fVar 11) (fVar 1)) (fBin rAdd2 (fVar 1) (fC (.int 1)))) (fBin rMod2 (fCall rInt1 (aCons (fVar 11) aNil)) (fVar 1))) (gNm 12))
  (sSeq (sPar3 13 14 15 (aCons (fBin rAdd2 (fVar 12) (fC (.int 1))) (aCons (fBin rAdd2 (fBin rAdd2 (fVar 12) (fVar 1)) (fC (.int 2))) (aCons (fBin rAdd2 (fBin rAdd2 (fVar 12) (fVar 1)) (fC (.int 1))) aNil))))
  (sIf (tVal (fBin rNe2 (fVar 11) (fVar 3))) (sAsg (fBin rAdd2 (fVar 8) (fIf (tVal (fBin rEq2 (fFn M__law_any (aCons (fVar 0) (aCons (fC (.int 2)) aNil))) (fC (.int 0)))) (fLst (aCons (fLst (aCons (fVar 12) (aCons (fVar 13) (aCons (fVar 14) aNil)))) (aCons (fLst (aCons (fVar 12) (aCons (fVar 14) (aCons (fVar 15) aNil)))) aNil))) (fLst (aCons (fLst (aCons (fVar 12) (aCons (fVar 13) (aCons (fVar 15) aNil)))) (aCons (fLst (aCons (fVar 13) (aCons (fVar 14) (aCons (fVar 15) aNil)))) aNil))))) (gNm 8)) sNext))))
  (sRet (fTup (aCons (fVar 7) (aCons (fVar 8) aNil))))))))))
def M__law_grid : WF := mir 16 4 B__law_grid
def B__law_other : WS := (sSeq (sPar 4 5 (aCons (fFn M__law_third (aCons (fVar 1) (aCons (fVar 2) (aCons (fVar 3) aNil)))) (aCons (fFn M__law_third (aCons (fVar 1) (aCons (fVar 3) (aCons (fVar 2) aNil)))) aNil)))
  (sSeq (sIf (tOr2 (tVal (fBin rIsN2 (fVar 4) (fC .none))) (tVal (fBin rIsN2 (fVar 5) (fC .none)))) (sRet (fC .none)) sNext)
  (sSeq (sIf (tOr2 (tVal (fBin (rCmp2 fun i j => decide (i ≤ j)) (fFn M__law_cross (aCons (fBin rIx2 (fVar 0) (fVar 5)) (aCons (fBin rIx2 (fVar 0) (fVar 3)) (aCons (fBin rIx2 (fVar 0) (fVar 4)) aNil)))) (fC (.int 0)))) (tVal (fBin (rCmp2 fun i j => decide (i ≤ j)) (fFn M__law_cross (aCons (fBin rIx2 (fVar 0) (fVar 5)) (aCons (fBin rIx2 (fVar 0) (fVar 4)) (aCons (fBin rIx2 (fVar 0) (fVar 2)) aNil)))) (fC (.int 0))))) (sRet (fC .none)) sNext)
  (sSeq (sAsg (fLst (aCons (fCall rSortI2 (aCons (fLst (aCons (fVar 2) (aCons (fVar 3) (aCons (fVar 4) aNil)))) aNil)) (aCons (fCall rSortI2 (aCons (fLst (aCons (fVar 2) (aCons (fVar 3) (aCons (fVar 5) aNil)))) aNil)) aNil))) (gNm 6))
  (sRet (fBin rAdd2 (fLcV (iSeq (fVar 1)) (gNm 7) (tVal (fBin (rInL2 true) (fCall rSortI2 (aCons (fVar 7) aNil)) (fVar 6))) (fVar 7) [7]) (fLst (aCons (fLst (aCons (fVar 5) (aCons (fVar 3) (aCons (fVar 4) aNil)))) (aCons (fLst (aCons (fVar 5) (aCons (fVar 4) (aCons (fVar 2) aNil)))) aNil)))))))))
def M__law_other : WF := mir 8 4 B__law_other
def B__law_moved : WS := (sSeq (sPar 5 6 (aCons (fCall rListLoc (aCons (fVar 2) aNil)) (aCons (fBin rDiv2 (fVar 1) (fC (.int 8))) aNil)))
  (sSeq (sFor (iRange2 (aCons (fC (.int 1)) (aCons (fVar 4) aNil))) (gNm 7) (sFor (iRange2 (aCons (fC (.int 1)) (aCons (fVar 3) aNil))) (gNm 8) (sSeq (sAsg (fBin rAdd2 (fBin rMul2 (fVar 7) (fBin rAdd2 (fVar 3) (fC (.int 1)))) (fVar 8)) (gNm 9))
  (sSub (fTup (aCons (fBin rSub2 (fBin rAdd2 (fBin rIx2 (fBin rIx2 (fVar 5) (fVar 9)) (fC (.int 0))) (fFn M__law_any (aCons (fVar 0) (aCons (fBin rAdd2 (fBin rMul2 (fC (.int 2)) (fVar 6)) (fC (.int 1))) aNil)))) (fVar 6)) (aCons (fBin rSub2 (fBin rAdd2 (fBin rIx2 (fBin rIx2 (fVar 5) (fVar 9)) (fC (.int 1))) (fFn M__law_any (aCons (fVar 0) (aCons (fBin rAdd2 (fBin rMul2 (fC (.int 2)) (fVar 6)) (fC (.int 1))) aNil)))) (fVar 6)) aNil))) (fVar 5) (fVar 9)))))
  (sRet (fVar 5))))
def M__law_moved : WF := frz <| mir 10 5 B__law_moved
def B__law_fan : WS := (sSeq (sAsg (fLst (aCons (fTup (aCons (fC (.int 3)) (aCons (fC (.int 0)) aNil))) (aCons (fTup (aCons (fC (.int 2)) (aCons (fC (.int 2)) aNil))) (aCons (fTup (aCons (fC (.int 0)) (aCons (fC (.int 3)) aNil))) (aCons (fTup (aCons (fUn (fun i => .int (-i)) (fC (.int 2))) (aCons (fC (.int 2)) aNil))) (aCons (fTup (aCons (fUn (fun i => .int (-i)) (fC (.int 3))) (aCons (fC (.int 0)) aNil))) (aCons (fTup (aCons (fUn (fun i => .int (-i)) (fC (.int 2))) (aCons (fUn (fun i => .int (-i)) (fC (.int 2))) aNil))) (aCons (fTup (aCons (fC (.int 0)) (aCons (fUn (fun i => .int (-i)) (fC (.int 3))) aNil))) (aCons (fTup (aCons (fC (.int 2)) (aCons (fUn (fun i => .int (-i)) (fC (.int 2))) aNil))) aNil))))))))) (gNm 2))
  (sSeq (sAsg (fLoc (aCons (fTup (aCons (fBin rSub2 (fFn M__law_any (aCons (fVar 0) (aCons (fBin rAdd2 (fVar 1) (fC (.int 1))) aNil))) (fBin rDiv2 (fVar 1) (fC (.int 2)))) (aCons (fBin rSub2 (fFn M__law_any (aCons (fVar 0) (aCons (fBin rAdd2 (fVar 1) (fC (.int 1))) aNil))) (fBin rDiv2 (fVar 1) (fC (.int 2)))) aNil))) aNil)) (gNm 3))
  (sSeq (sFor (iSeq (fVar 2)) (gNm 4) (sSeq (sAsg (fBin rMul2 (fVar 1) (fBin rAdd2 (fC (.int 1)) (fFn M__law_any (aCons (fVar 0) (aCons (fC (.int 4)) aNil))))) (gNm 5))
  (sDrop (fAppend (fVar 3) (aCons (fTup (aCons (fBin rMul2 (fVar 5) (fBin rIx2 (fVar 4) (fC (.int 0)))) (aCons (fBin rMul2 (fVar 5) (fBin rIx2 (fVar 4) (fC (.int 1)))) aNil))) aNil)))))
  (sRet (fPr (aCons (fVar 3) (aCons (fLcV (iRange2 (aCons (fC (.int 1)) (aCons (fC (.int 9)) aNil))) (gNm 6) tTrue (fLst (aCons (fC (.int 0)) (aCons (fVar 6) (aCons (fBin rAdd2 (fC (.int 1)) (fBin rMod2 (fCall rInt1 (aCons (fVar 6) aNil)) (fC (.int 8)))) aNil)))) [6]) aNil)))))))
def M__law_fan : WF := frz <| mir 7 2 B__law_fan
def B__law_worths : WS := (sSeq (sAsg (fFn M__law_any (aCons (fVar 0) (aCons (fC (.int 6)) aNil))) (gNm 2))
  (sSeq (sIf (tVal (fBin rEq2 (fVar 2) (fC (.int 0)))) (sRet (fLcV (iSeq (fVar 1)) (gNm 3) tTrue (fC (.int 7)) [3])) sNext)
  (sSeq (sIf (tVal (fBin rEq2 (fVar 2) (fC (.int 1)))) (sSeq (sAsg (fTup (aCons (fBin rSub2 (fFn M__law_any (aCons (fVar 0) (aCons (fC (.int 7)) aNil))) (fC (.int 3))) (aCons (fBin rSub2 (fFn M__law_any (aCons (fVar 0) (aCons (fC (.int 7)) aNil))) (fC (.int 3))) aNil))) (gTp 2 (gsCons (gNm 4) (gsCons (gNm 5) gsNil))))
  (sRet (fLcV (iSeq (fVar 1)) (gTp 2 (gsCons (gNm 6) (gsCons (gNm 7) gsNil))) tTrue (fBin rAdd2 (fBin rAdd2 (fBin rMul2 (fVar 4) (fVar 6)) (fBin rMul2 (fVar 5) (fVar 7))) (fC (.int 1))) [6, 7]))) sNext)
  (sSeq (sIf (tVal (fBin rEq2 (fVar 2) (fC (.int 2)))) (sSeq (sAsg (fFn M__law_any (aCons (fVar 0) (aCons (fCall rLen (aCons (fVar 1) aNil)) aNil))) (gNm 8))
  (sRet (fLcV (iRange1 (aCons (fCall rLen (aCons (fVar 1) aNil)) aNil)) (gNm 9) tTrue (fIf (tVal (fBin rEq2 (fVar 9) (fVar 8))) (fC (.int 1)) (fC (.int 0))) [9]))) sNext)
  (sRet (fLcV (iSeq (fVar 1)) (gNm 3) tTrue (fBin rSub2 (fFn M__law_any (aCons (fVar 0) (aCons (fC (.int 21)) aNil))) (fC (.int 10))) [3]))))))
def M__law_worths : WF := mir 10 2 B__law_worths
def B__law_is_fraction : WS := (sSeq (sIf (tOr2 (tNot2 (tVal (fIsi "tuple" (fVar 0)))) (tOr2 (tVal (fBin rNe2 (fCall rLen (aCons (fVar 0) aNil)) (fC (.int 2)))) (tOr2 (tNot2 (tVal (fIsi "int" (fBin rIx2 (fVar 0) (fC (.int 0)))))) (tNot2 (tVal (fIsi "int" (fBin rIx2 (fVar 0) (fC (.int 1))))))))) (sRet (fC (.bool false))) sNext)
  (sRet (fAnd (fBin (rCmp2 fun i j => decide (j < i)) (fBin rIx2 (fVar 0) (fC (.int 1))) (fC (.int 0))) (fAnd (fBin rEq2 (fFn M__law_common (aCons (fBin rIx2 (fVar 0) (fC (.int 0))) (aCons (fBin rIx2 (fVar 0) (fC (.int 1))) aNil))) (fC (.int 1))) (fAnd (fNot (fIsi "bool" (fBin rIx2 (fVar 0) (fC (.int 0))))) (fNot (fIsi "bool" (fBin rIx2 (fVar 0) (fC (.int 1))))))))))
def M__law_is_fraction : WF := mir 1 1 B__law_is_fraction
def B_wedge : WS := (sRet (fFn M_minus (aCons (fFn M_times (aCons (fBin rIx2 (fVar 0) (fC (.int 0))) (aCons (fBin rIx2 (fVar 1) (fC (.int 1))) aNil))) (aCons (fFn M_times (aCons (fBin rIx2 (fVar 0) (fC (.int 1))) (aCons (fBin rIx2 (fVar 1) (fC (.int 0))) aNil))) aNil))))
def M_wedge : WF := mir 2 2 B_wedge
def B_linear_field : WS := (sRet (fCall rTup1 (aCons (fLcV (iSeq (fFld "Mesh" "points" (fVar 0))) (gTp 2 (gsCons (gNm 4) (gsCons (gNm 5) gsNil))) tTrue (fFn M_total_of (aCons (fTup (aCons (fVar 1) (aCons (fFn M_times (aCons (fVar 2) (aCons (fVar 4) aNil))) (aCons (fFn M_times (aCons (fVar 3) (aCons (fVar 5) aNil))) aNil)))) aNil)) [4, 5]) aNil)))
def M_linear_field : WF := mir 6 4 B_linear_field
def B__law_parted : WS := (sSeq (sAsg (fLst (aCons (fTup (aCons (fC (.int 0)) (aCons (fC (.int 0)) aNil))) (aCons (fTup (aCons (fBin rMul2 (fVar 1) (fBin rAdd2 (fC (.int 2)) (fFn M__law_any (aCons (fVar 0) (aCons (fC (.int 4)) aNil))))) (aCons (fBin rMul2 (fVar 1) (fFn M__law_any (aCons (fVar 0) (aCons (fC (.int 2)) aNil)))) aNil))) (aCons (fTup (aCons (fBin rMul2 (fVar 1) (fFn M__law_any (aCons (fVar 0) (aCons (fC (.int 3)) aNil)))) (aCons (fBin rMul2 (fVar 1) (fBin rAdd2 (fC (.int 2)) (fFn M__law_any (aCons (fVar 0) (aCons (fC (.int 4)) aNil))))) aNil))) aNil)))) (gNm 2))
  (sSeq (sAsg (fLst (aCons (fLst (aCons (fC (.int 0)) (aCons (fC (.int 1)) (aCons (fC (.int 2)) aNil)))) aNil)) (gNm 3))
  (sSeq (sFor (iRange1 (aCons (fC (.int 3)) aNil)) (gNm 4) (sIf (tVal (fBin (rCmp2 fun i j => decide (j ≤ i)) (fVar 1) (fBin rIx2 (fLst (aCons (fC (.int 4)) (aCons (fC (.int 16)) (aCons (fC (.int 64)) aNil)))) (fVar 4)))) (sAsg (fFn M__law_split (aCons (fVar 0) (aCons (fVar 2) (aCons (fVar 3) aNil)))) (gTp 2 (gsCons (gNm 2) (gsCons (gNm 3) gsNil)))) sNext))
  (sRet (fTup (aCons (fVar 2) (aCons (fVar 3) aNil)))))))
def M__law_parted : WF := mir 5 2 B__law_parted
def B__law_flipped : WS := (sSeq (sAsg (fFn M__law_other (aCons (fVar 0) (aCons (fVar 1) (aCons (fBin rIx2 (fVar 2) (fC (.int 0))) (aCons (fBin rIx2 (fVar 2) (fC (.int 1))) aNil))))) (gNm 3))
  (sRet (fIf (tVal (fBin rIsN2 (fVar 3) (fC .none))) (fVar 1) (fVar 3))))
def M__law_flipped : WF := mir 4 3 B__law_flipped
def B__law_made : WS := (sSeq (sAsg (fLoc aNil) (gNm 3))
  (sSeq (sFor (iSeq (fVar 1)) (gNm 4) (sSeq (sAsg (fIdxD (fVar 4) (aCons (fCall rMinL (aCons (fVar 4) aNil)) aNil)) (gNm 5))
  (sDrop (fAppend (fVar 3) (aCons (fCall rTup1 (aCons (fBin rAdd2 (fSl (fVar 4) (oSome (fVar 5)) oNone) (fSl (fVar 4) oNone (oSome (fVar 5)))) aNil)) aNil)))))
  (sSeq (sAsg (fLcV (iSeq (fVar 0)) (gTp 2 (gsCons (gNm 7) (gsCons (gNm 8) gsNil))) tTrue (fTup (aCons (fFn M__law_low (aCons (fVar 7) (aCons (fVar 2) aNil))) (aCons (fFn M__law_low (aCons (fVar 8) (aCons (fVar 2) aNil))) aNil))) [7, 8]) (gNm 6))
  (sRet (fTup (aCons (fCall rTup1 (aCons (fVar 6) aNil)) (aCons (fCall rTup1 (aCons (fCall rSortD (aCons (fVar 3) aNil)) aNil)) aNil)))))))
def M__law_made : WF := mir 9 3 B__law_made
def B__law_plus : WS := (sRet (fFn M__law_low (aCons (fBin rAdd2 (fBin rMul2 (fBin rIx2 (fVar 0) (fC (.int 0))) (fBin rIx2 (fVar 1) (fC (.int 1)))) (fBin rMul2 (fBin rIx2 (fVar 1) (fC (.int 0))) (fBin rIx2 (fVar 0) (fC (.int 1))))) (aCons (fBin rMul2 (fBin rIx2 (fVar 0) (fC (.int 1))) (fBin rIx2 (fVar 1) (fC (.int 1)))) aNil))))
def M__law_plus : WF := mir 2 2 B__law_plus
def B__law_times : WS := (sRet (fFn M__law_low (aCons (fBin rMul2 (fBin rIx2 (fVar 0) (fC (.int 0))) (fBin rIx2 (fVar 1) (fC (.int 0)))) (aCons (fBin rMul2 (fBin rIx2 (fVar 0) (fC (.int 1))) (fBin rIx2 (fVar 1) (fC (.int 1)))) aNil))))
def M__law_times : WF := mir 2 2 B__law_times
def B_slope : WS := (sSeq (sAsg (fFn M__corners (aCons (fVar 0) (aCons (fVar 1) aNil))) (gTp 3 (gsCons (gNm 3) (gsCons (gNm 4) (gsCons (gNm 5) gsNil)))))
  (sSeq (sAsg (fLcV (iSeq (fBin rIx2 (fFld "Mesh" "triangles" (fVar 0)) (fVar 1))) (gNm 7) tTrue (fBin rIx2 (fVar 2) (fVar 7)) [7]) (gNm 6))
  (sSeq (sPar 8 9 (aCons (fFn M_minus (aCons (fBin rIx2 (fVar 6) (fC (.int 1))) (aCons (fBin rIx2 (fVar 6) (fC (.int 0))) aNil))) (aCons (fFn M_minus (aCons (fBin rIx2 (fVar 6) (fC (.int 2))) (aCons (fBin rIx2 (fVar 6) (fC (.int 0))) aNil))) aNil)))
  (sSeq (sAsg (fFn M_wedge (aCons (fTup (aCons (fVar 8) (aCons (fVar 9) aNil))) (aCons (fTup (aCons (fFn M_minus (aCons (fBin rIx2 (fVar 4) (fC (.int 1))) (aCons (fBin rIx2 (fVar 3) (fC (.int 1))) aNil))) (aCons (fFn M_minus (aCons (fBin rIx2 (fVar 5) (fC (.int 1))) (aCons (fBin rIx2 (fVar 3) (fC (.int 1))) aNil))) aNil))) aNil))) (gNm 10))
  (sSeq (sAsg (fFn M_wedge (aCons (fTup (aCons (fFn M_minus (aCons (fBin rIx2 (fVar 4) (fC (.int 0))) (aCons (fBin rIx2 (fVar 3) (fC (.int 0))) aNil))) (aCons (fFn M_minus (aCons (fBin rIx2 (fVar 5) (fC (.int 0))) (aCons (fBin rIx2 (fVar 3) (fC (.int 0))) aNil))) aNil))) (aCons (fTup (aCons (fVar 8) (aCons (fVar 9) aNil))) aNil))) (gNm 11))
  (sSeq (sAsg (fFn M_doubled_area (aCons (fVar 3) (aCons (fVar 4) (aCons (fVar 5) aNil)))) (gNm 12))
  (sRet (fTup (aCons (fFn M_over (aCons (fVar 10) (aCons (fVar 12) aNil))) (aCons (fFn M_over (aCons (fVar 11) (aCons (fVar 12) aNil))) aNil))))))))))
def M_slope : WF := mir 13 3 B_slope
def B__law_mesh : WS := (sSeq (sAsg (fTup (aCons (fFn M__law_any (aCons (fVar 0) (aCons (fC (.int 4)) aNil))) (aCons (fFn M__law_of (aCons (fVar 0) (aCons (fLst (aCons (fC (.int 1)) (aCons (fC (.int 2)) (aCons (fC (.int 9)) (aCons (fC (.int 16)) (aCons (fC (.int 30)) aNil)))))) aNil))) aNil))) (gTp 2 (gsCons (gNm 1) (gsCons (gNm 2) gsNil))))
  (sSeq (sIf (tVal (fBin rEq2 (fVar 1) (fC (.int 0)))) (sAsg (fFn M__law_fan (aCons (fVar 0) (aCons (fVar 2) aNil))) (gTp 2 (gsCons (gNm 3) (gsCons (gNm 4) gsNil)))) (sIf (tAnd2 (tVal (fBin rEq2 (fVar 1) (fC (.int 1)))) (tVal (fBin rEq2 (fFn M__law_any (aCons (fVar 0) (aCons (fC (.int 3)) aNil))) (fC (.int 0))))) (sSeq (sAsg (fFn M__law_grid (aCons (fVar 0) (aCons (fC (.int 3)) (aCons (fC (.int 3)) (aCons (fC (.int 4)) aNil))))) (gTp 2 (gsCons (gNm 3) (gsCons (gNm 4) gsNil))))
  (sAsg (fLcV (iSeq (fVar 3)) (gTp 2 (gsCons (gNm 5) (gsCons (gNm 6) gsNil))) tTrue (fTup (aCons (fBin rMul2 (fVar 2) (fVar 5)) (aCons (fBin rMul2 (fVar 2) (fVar 6)) aNil))) [5, 6]) (gNm 3))) (sIf (tVal (fBin rEq2 (fVar 1) (fC (.int 1)))) (sSeq (sPar 7 8 (aCons (fBin rAdd2 (fC (.int 1)) (fFn M__law_any (aCons (fVar 0) (aCons (fC (.int 3)) aNil)))) (aCons (fBin rAdd2 (fC (.int 1)) (fFn M__law_any (aCons (fVar 0) (aCons (fC (.int 2)) aNil)))) aNil)))
  (sSeq (sAsg (fFn M__law_grid (aCons (fVar 0) (aCons (fVar 7) (aCons (fVar 8) (aCons (fUn (fun i => .int (-i)) (fC (.int 1))) aNil))))) (gTp 2 (gsCons (gNm 3) (gsCons (gNm 4) gsNil))))
  (sAsg (fFn M__law_moved (aCons (fVar 0) (aCons (fVar 2) (aCons (fLcV (iSeq (fVar 3)) (gTp 2 (gsCons (gNm 5) (gsCons (gNm 6) gsNil))) tTrue (fTup (aCons (fBin rMul2 (fVar 2) (fVar 5)) (aCons (fBin rMul2 (fVar 2) (fVar 6)) aNil))) [5, 6]) (aCons (fVar 7) (aCons (fVar 8) aNil)))))) (gNm 3)))) (sSeq (sAsg (fFn M__law_of (aCons (fVar 0) (aCons (fLst (aCons (fC (.int 1)) (aCons (fC (.int 4)) (aCons (fC (.int 16)) (aCons (fC (.int 64)) aNil))))) aNil))) (gNm 2))
  (sAsg (fFn M__law_parted (aCons (fVar 0) (aCons (fVar 2) aNil))) (gTp 2 (gsCons (gNm 3) (gsCons (gNm 4) gsNil))))))))
  (sSeq (sAsg (fBin rSub2 (fFn M__law_any (aCons (fVar 0) (aCons (fC (.int 5)) aNil))) (fC (.int 2))) (gNm 9))
  (sSeq (sAsg (fLcV (iSeq (fVar 3)) (gTp 2 (gsCons (gNm 5) (gsCons (gNm 6) gsNil))) tTrue (fTup (aCons (fBin rAdd2 (fVar 5) (fBin rMul2 (fVar 9) (fVar 6))) (aCons (fVar 6) aNil))) [5, 6]) (gNm 3))
  (sSeq (sFor (iRange1 (aCons (fFn M__law_any (aCons (fVar 0) (aCons (fC (.int 4)) aNil))) aNil)) (gNm 10) (sSeq (sAsg (fFn M__law_of (aCons (fVar 0) (aCons (fVar 4) aNil))) (gNm 11))
  (sAsg (fFn M__law_flipped (aCons (fVar 3) (aCons (fVar 4) (aCons (fVar 11) aNil)))) (gNm 4))))
  (sRet (fTup (aCons (fVar 2) (aCons (fVar 3) (aCons (fVar 4) aNil))))))))))
def M__law_mesh : WF := mir 12 1 B__law_mesh
def B__law_energy : WS := (sSeq (sAsg (fTup (aCons (fC (.int 0)) (aCons (fC (.int 1)) aNil))) (gNm 4))
  (sSeq (sFor (iSeq (fVar 1)) (gTp 3 (gsCons (gNm 5) (gsCons (gNm 6) (gsCons (gNm 7) gsNil)))) (sSeq (sPar3 8 9 10 (aCons (fBin rIx2 (fVar 0) (fVar 5)) (aCons (fBin rIx2 (fVar 0) (fVar 6)) (aCons (fBin rIx2 (fVar 0) (fVar 7)) aNil))))
  (sSeq (sAsg (fLoc aNil) (gNm 11))
  (sSeq (sFor (iSeq (fTup (aCons (fVar 2) (aCons (fVar 3) aNil)))) (gNm 12) (sSeq (sPar 13 14 (aCons (fBin rSub2 (fBin rIx2 (fVar 12) (fVar 6)) (fBin rIx2 (fVar 12) (fVar 5))) (aCons (fBin rSub2 (fBin rIx2 (fVar 12) (fVar 7)) (fBin rIx2 (fVar 12) (fVar 5))) aNil)))
  (sDrop (fAppend (fVar 11) (aCons (fTup (aCons (fBin rSub2 (fBin rMul2 (fVar 13) (fBin rSub2 (fBin rIx2 (fVar 10) (fC (.int 1))) (fBin rIx2 (fVar 8) (fC (.int 1))))) (fBin rMul2 (fVar 14) (fBin rSub2 (fBin rIx2 (fVar 9) (fC (.int 1))) (fBin rIx2 (fVar 8) (fC (.int 1)))))) (aCons (fBin rSub2 (fBin rMul2 (fVar 14) (fBin rSub2 (fBin rIx2 (fVar 9) (fC (.int 0))) (fBin rIx2 (fVar 8) (fC (.int 0))))) (fBin rMul2 (fVar 13) (fBin rSub2 (fBin rIx2 (fVar 10) (fC (.int 0))) (fBin rIx2 (fVar 8) (fC (.int 0)))))) aNil))) aNil)))))
  (sSeq (sAsg (fBin rAdd2 (fBin rMul2 (fBin rIx2 (fBin rIx2 (fVar 11) (fC (.int 0))) (fC (.int 0))) (fBin rIx2 (fBin rIx2 (fVar 11) (fC (.int 1))) (fC (.int 0)))) (fBin rMul2 (fBin rIx2 (fBin rIx2 (fVar 11) (fC (.int 0))) (fC (.int 1))) (fBin rIx2 (fBin rIx2 (fVar 11) (fC (.int 1))) (fC (.int 1))))) (gNm 15))
  (sAsg (fFn M__law_plus (aCons (fVar 4) (aCons (fFn M__law_low (aCons (fVar 15) (aCons (fBin rMul2 (fC (.int 2)) (fFn M__law_cross (aCons (fVar 8) (aCons (fVar 9) (aCons (fVar 10) aNil))))) aNil))) aNil))) (gNm 4)))))))
  (sRet (fVar 4))))
def M__law_energy : WF := mir 16 4 B__law_energy
def B__law_less : WS := (sRet (fFn M__law_plus (aCons (fVar 0) (aCons (fTup (aCons (fBin rSub2 (fC (.int 0)) (fBin rIx2 (fVar 1) (fC (.int 0)))) (aCons (fBin rIx2 (fVar 1) (fC (.int 1))) aNil))) aNil))))
def M__law_less : WF := mir 2 2 B__law_less
def B_triangle_energy : WS := (sSeq (sAsg (fFn M_slope (aCons (fVar 0) (aCons (fVar 1) (aCons (fVar 2) aNil)))) (gTp 2 (gsCons (gNm 3) (gsCons (gNm 4) gsNil))))
  (sSeq (sAsg (fFn M__corners (aCons (fVar 0) (aCons (fVar 1) aNil))) (gTp 3 (gsCons (gNm 5) (gsCons (gNm 6) (gsCons (gNm 7) gsNil)))))
  (sRet (fFn M_times (aCons (fFn M_fraction (aCons (fC (.int 1)) (aCons (fC (.int 4)) aNil))) (aCons (fFn M_times (aCons (fFn M_plus (aCons (fFn M_times (aCons (fVar 3) (aCons (fVar 3) aNil))) (aCons (fFn M_times (aCons (fVar 4) (aCons (fVar 4) aNil))) aNil))) (aCons (fFn M_doubled_area (aCons (fVar 5) (aCons (fVar 6) (aCons (fVar 7) aNil)))) aNil))) aNil))))))
def M_triangle_energy : WF := mir 8 3 B_triangle_energy
def B__law_slope_right : WS := (sSeq (sIf (tOr2 (tNot2 (tVal (fIsi "tuple" (fVar 3)))) (tOr2 (tVal (fBin rNe2 (fCall rLen (aCons (fVar 3) aNil)) (fC (.int 2)))) (tOr2 (tNot2 (tVal (fFn M__law_is_fraction (aCons (fBin rIx2 (fVar 3) (fC (.int 0))) aNil)))) (tNot2 (tVal (fFn M__law_is_fraction (aCons (fBin rIx2 (fVar 3) (fC (.int 1))) aNil))))))) (sRet (fC (.bool false))) sNext)
  (sSeq (sFor (iRange1 (aCons (fC (.int 3)) aNil)) (gNm 4) (sSeq (sPar 5 6 (aCons (fBin rIx2 (fVar 1) (fBin rSub2 (fVar 4) (fC (.int 1)))) (aCons (fBin rIx2 (fVar 1) (fVar 4)) aNil)))
  (sSeq (sPar 7 8 (aCons (fFn M__law_less (aCons (fBin rIx2 (fBin rIx2 (fVar 0) (fVar 6)) (fC (.int 0))) (aCons (fBin rIx2 (fBin rIx2 (fVar 0) (fVar 5)) (fC (.int 0))) aNil))) (aCons (fFn M__law_less (aCons (fBin rIx2 (fBin rIx2 (fVar 0) (fVar 6)) (fC (.int 1))) (aCons (fBin rIx2 (fBin rIx2 (fVar 0) (fVar 5)) (fC (.int 1))) aNil))) aNil)))
  (sSeq (sAsg (fFn M__law_plus (aCons (fFn M__law_times (aCons (fBin rIx2 (fVar 3) (fC (.int 0))) (aCons (fVar 7) aNil))) (aCons (fFn M__law_times (aCons (fBin rIx2 (fVar 3) (fC (.int 1))) (aCons (fVar 8) aNil))) aNil))) (gNm 9))
  (sIf (tVal (fBin rNe2 (fVar 9) (fFn M__law_less (aCons (fBin rIx2 (fVar 2) (fVar 6)) (aCons (fBin rIx2 (fVar 2) (fVar 5)) aNil))))) (sRet (fC (.bool false))) sNext)))))
  (sRet (fC (.bool true)))))
def M__law_slope_right : WF := mir 10 4 B__law_slope_right
def B_law : WS := (sSeq (sAsg (fFn M__law_source (aCons (fVar 0) aNil)) (gNm 1))
  (sSeq (sAsg (fFn M__law_mesh (aCons (fVar 1) aNil)) (gTp 3 (gsCons (gNm 2) (gsCons (gNm 3) (gsCons (gNm 4) gsNil)))))
  (sSeq (sAsg (fFn M__law_made (aCons (fVar 3) (aCons (fVar 4) (aCons (fVar 2) aNil)))) (gTp 2 (gsCons (gNm 5) (gsCons (gNm 6) gsNil))))
  (sSeq (sAsgT 2 (aCons (fMake2 "Mesh" "points" "triangles" (aCons (fVar 5) (aCons (fVar 6) aNil))) (aCons (fFn M__law_of (aCons (fVar 1) (aCons (fLst (aCons (fC (.int 1)) (aCons (fC (.int 1)) (aCons (fBin rAdd2 (fC (.int 1)) (fFn M__law_any (aCons (fVar 1) (aCons (fC (.int 20)) aNil)))) aNil)))) aNil))) aNil)) (gsCons (gNm 7) (gsCons (gNm 8) gsNil)))
  (sSeq (sAsg (fFn M__law_worths (aCons (fVar 1) (aCons (fVar 3) aNil))) (gNm 9))
  (sSeq (sAsg (fCall rTup1 (aCons (fLcV (iSeq (fVar 9)) (gNm 11) tTrue (fFn M__law_low (aCons (fVar 11) (aCons (fVar 8) aNil))) [11]) aNil)) (gNm 10))
  (sSeq (sAsg (fCall rRepr (aCons (fVar 10) aNil)) (gNm 12))
  (sSeq (sFor (iRange1 (aCons (fCall rLen (aCons (fVar 6) aNil)) aNil)) (gNm 13) (sSeq (sAsg (fFn M_slope (aCons (fVar 7) (aCons (fVar 13) (aCons (fVar 10) aNil)))) (gNm 14))
  (sSeq (sIf (tOr2 (tNot2 (tVal (fFn M__law_slope_right (aCons (fVar 5) (aCons (fBin rIx2 (fVar 6) (fVar 13)) (aCons (fVar 10) (aCons (fVar 14) aNil))))))) (tVal (fBin rNe2 (fFnK [2, 1, 0] 3 M_slope (aCons (fVar 10) (aCons (fVar 13) (aCons (fVar 7) aNil)))) (fVar 14)))) (sRet (fC (.bool false))) sNext)
  (sSeq (sAsg (fFn M__law_energy (aCons (fVar 3) (aCons (fLst (aCons (fBin rIx2 (fVar 6) (fVar 13)) aNil)) (aCons (fVar 9) (aCons (fVar 9) aNil))))) (gNm 15))
  (sSeq (sAsg (fFn M__law_low (aCons (fBin rIx2 (fVar 15) (fC (.int 0))) (aCons (fBin rMul2 (fBin rMul2 (fBin rMul2 (fC (.int 2)) (fBin rIx2 (fVar 15) (fC (.int 1)))) (fVar 8)) (fVar 8)) aNil))) (gNm 16))
  (sSeq (sIf (tNot2 (tVal (fFn M__law_same (aCons (fFn M_triangle_energy (aCons (fVar 7) (aCons (fVar 13) (aCons (fVar 10) aNil)))) (aCons (fVar 16) aNil))))) (sRet (fC (.bool false))) sNext)
  (sIf (tOr2 (tVal (fBin rNe2 (fFnK [2, 1, 0] 3 M_triangle_energy (aCons (fVar 10) (aCons (fVar 13) (aCons (fVar 7) aNil)))) (fVar 16))) (tVal (fBin rNe2 (fCall rRepr (aCons (fVar 10) aNil)) (fVar 12)))) (sRet (fC (.bool false))) sNext)))))))
  (sSeq (sAsg (fLcV (iRange1 (aCons (fC (.int 3)) aNil)) (gNm 20) tTrue (fFn M__law_low (aCons (fBin rSub2 (fFn M__law_any (aCons (fVar 1) (aCons (fC (.int 41)) aNil))) (fC (.int 20))) (aCons (fBin rAdd2 (fC (.int 1)) (fFn M__law_any (aCons (fVar 1) (aCons (fC (.int 6)) aNil)))) aNil))) [20]) (gTp 3 (gsCons (gNm 17) (gsCons (gNm 18) (gsCons (gNm 19) gsNil)))))
  (sSeq (sAsg (fCall rTup1 (aCons (fLcV (iSeq (fVar 5)) (gTp 2 (gsCons (gNm 21) (gsCons (gNm 22) gsNil))) tTrue (fFn M__law_plus (aCons (fVar 17) (aCons (fFn M__law_plus (aCons (fFn M__law_times (aCons (fVar 18) (aCons (fVar 21) aNil))) (aCons (fFn M__law_times (aCons (fVar 19) (aCons (fVar 22) aNil))) aNil))) aNil))) [21, 22]) aNil)) (gNm 16))
  (sSeq (sAsg (fFn M_linear_field (aCons (fVar 7) (aCons (fVar 17) (aCons (fVar 18) (aCons (fVar 19) aNil))))) (gNm 14))
  (sSeq (sIf (tOr2 (tNot2 (tVal (fFn M__law_same (aCons (fVar 14) (aCons (fVar 16) aNil))))) (tVal (fBin rNe2 (fFnK [3, 2, 1, 0] 4 M_linear_field (aCons (fVar 19) (aCons (fVar 18) (aCons (fVar 17) (aCons (fVar 7) aNil))))) (fVar 16)))) (sRet (fC (.bool false))) sNext)
  (sSeq (sAsg (fFn M__law_any (aCons (fVar 1) (aCons (fCall rLen (aCons (fVar 6) aNil)) aNil))) (gNm 13))
  (sRet (fAnd (fFn M__law_same (aCons (fFn M_slope (aCons (fVar 7) (aCons (fVar 13) (aCons (fVar 16) aNil)))) (aCons (fTup (aCons (fVar 18) (aCons (fVar 19) aNil))) aNil))) (fBin (rEqO2 "Mesh" M_eq_Mesh) (fVar 7) (fMake2 "Mesh" "points" "triangles" (aCons (fVar 5) (aCons (fVar 6) aNil)))))))))))))))))))
def M_law : WF := mir 23 1 B_law
end LW
set_option Elab.async false
set_option linter.all false
set_option maxRecDepth 100000
set_option maxHeartbeats 40000000
namespace LW
open PySem PySem.Spec PyProof.Rows L2 V2
local macro_rules | `(tactic| array_get_dec) => `(tactic| with_reducible refine i_go (by assumption) ?_)
local macro_rules | `(tactic| array_get_dec) => `(tactic| with_reducible refine i_next ?_)
local macro_rules | `(tactic| array_get_dec) => `(tactic| with_reducible refine i_isr2 ?_)
local macro_rules | `(tactic| array_get_dec) => `(tactic| with_reducible refine i_range2 ?_)
local macro_rules | `(tactic| array_get_dec) => `(tactic| with_reducible refine i_range1 ?_)
local macro_rules | `(tactic| array_get_dec) => `(tactic| with_reducible refine i_for ?_)
local macro_rules | `(tactic| array_get_dec) => `(tactic| with_reducible refine i_brk ?_)
local macro_rules | `(tactic| array_get_dec) => `(tactic| with_reducible refine i_zip2 ?_)
local macro_rules | `(tactic| array_get_dec) => `(tactic| with_reducible refine i_enum1 ?_)
local macro_rules | `(tactic| array_get_dec) => `(tactic| with_reducible refine i_one ?_)
local macro_rules | `(tactic| array_get_dec) => `(tactic| with_reducible refine i_raise ?_)
local macro_rules | `(tactic| array_get_dec) => `(tactic| with_reducible refine i_sub ?_)
local macro_rules | `(tactic| array_get_dec) => `(tactic| with_reducible refine i_append ?_)
local macro_rules | `(tactic| array_get_dec) => `(tactic| with_reducible refine i_pop ?_)
local macro_rules | `(tactic| array_get_dec) => `(tactic| with_reducible refine i_drop ?_)
local macro_rules | `(tactic| array_get_dec) => `(tactic| with_reducible refine i_len (by with_unfolding_all exact rfl) ?_)
local macro_rules | `(tactic| array_get_dec) => `(tactic| with_reducible refine i_notN ?_)
local macro_rules | `(tactic| array_get_dec) => `(tactic| with_reducible refine i_isN ?_)
local macro_rules | `(tactic| array_get_dec) => `(tactic| with_reducible refine i_min2 ?_)
local macro_rules | `(tactic| array_get_dec) => `(tactic| with_reducible refine i_max2 ?_)
local macro_rules | `(tactic| array_get_dec) => `(tactic| with_reducible refine i_chain ?_)
local macro_rules | `(tactic| array_get_dec) => `(tactic| with_reducible refine i_lcm3 ?_ ?_)
local macro_rules | `(tactic| array_get_dec) => `(tactic| with_reducible refine i_gcd ?_)
local macro_rules | `(tactic| array_get_dec) => `(tactic| with_reducible refine i_toint ?_)
local macro_rules | `(tactic| array_get_dec) => `(tactic| with_reducible refine i_abs ?_)
local macro_rules | `(tactic| array_get_dec) => `(tactic| with_reducible refine i_pk4 ?_)
local macro_rules | `(tactic| array_get_dec) => `(tactic| with_reducible refine i_pk3 ?_)
local macro_rules | `(tactic| array_get_dec) => `(tactic| with_reducible refine i_pk2 ?_)
local macro_rules | `(tactic| array_get_dec) => `(tactic| with_reducible refine i_pk1 ?_)
local macro_rules | `(tactic| array_get_dec) => `(tactic| with_reducible refine i_fnk ?_)
local macro_rules | `(tactic| array_get_dec) => `(tactic| with_reducible refine i_fn ?_)
local macro_rules | `(tactic| array_get_dec) => `(tactic| with_reducible refine i_call ?_)
local macro_rules | `(tactic| array_get_dec) => `(tactic| with_reducible refine i_ix (by with_unfolding_all exact rfl) (by with_unfolding_all exact rfl) ?_)
local macro_rules | `(tactic| array_get_dec) => `(tactic| with_reducible refine i_ix (by assumption) (by with_unfolding_all exact rfl) ?_)
local macro_rules | `(tactic| array_get_dec) => `(tactic| with_reducible refine i_all (by repeat constructor) (by with_unfolding_all exact Nat.le_of_ble_eq_true rfl) ?_)
local macro_rules | `(tactic| array_get_dec) => `(tactic| with_reducible refine i_lst ?_)
local macro_rules | `(tactic| array_get_dec) => `(tactic| with_reducible refine i_tup ?_)
local macro_rules | `(tactic| array_get_dec) => `(tactic| with_reducible refine i_fand ?_)
local macro_rules | `(tactic| array_get_dec) => `(tactic| with_reducible refine i_fif ?_)
local macro_rules | `(tactic| array_get_dec) => `(tactic| with_reducible refine i_not2 ?_)
local macro_rules | `(tactic| array_get_dec) => `(tactic| with_reducible refine i_or2 ?_)
local macro_rules | `(tactic| array_get_dec) => `(tactic| with_reducible refine i_and2 ?_)
local macro_rules | `(tactic| array_get_dec) => `(tactic| with_reducible refine i_isr ?_)
local macro_rules | `(tactic| array_get_dec) => `(tactic| with_reducible refine i_isi ?_)
local macro_rules | `(tactic| array_get_dec) => `(tactic| with_reducible refine i_isb ?_)
local macro_rules | `(tactic| array_get_dec) => `(tactic| with_reducible refine i_val ?_)
local macro_rules | `(tactic| array_get_dec) => `(tactic| with_reducible refine i_un ?_)
local macro_rules | `(tactic| array_get_dec) => `(tactic| with_reducible refine i_nes ?_)
local macro_rules | `(tactic| array_get_dec) => `(tactic| with_reducible refine i_nesr ?_)
local macro_rules | `(tactic| array_get_dec) => `(tactic| with_reducible refine i_eqs ?_)
local macro_rules | `(tactic| array_get_dec) => `(tactic| with_reducible refine i_eqsr ?_)
local macro_rules | `(tactic| array_get_dec) => `(tactic| with_reducible refine i_nei ?_)
local macro_rules | `(tactic| array_get_dec) => `(tactic| with_reducible refine i_eqi ?_)
local macro_rules | `(tactic| array_get_dec) => `(tactic| with_reducible refine i_add ?_)
local macro_rules | `(tactic| array_get_dec) => `(tactic| with_reducible refine i_ints ?_ ?_)
local macro_rules | `(tactic| array_get_dec) => `(tactic| with_reducible refine i_ints0 ?_)
local macro_rules | `(tactic| array_get_dec) => `(tactic| with_reducible refine i_bin ?_)
local macro_rules | `(tactic| array_get_dec) => `(tactic| with_reducible refine i_nil ?_)
local macro_rules | `(tactic| array_get_dec) => `(tactic| with_reducible refine i_cons ?_)
local macro_rules | `(tactic| array_get_dec) => `(tactic| with_reducible refine i_c ?_)
local macro_rules | `(tactic| array_get_dec) => `(tactic| with_reducible refine i_var (by repeat constructor) ?_)
local macro_rules | `(tactic| array_get_dec) => `(tactic| with_reducible refine i_if ?_)
local macro_rules | `(tactic| array_get_dec) => `(tactic| with_reducible refine i_ret ?_)
local macro_rules | `(tactic| array_get_dec) => `(tactic| with_reducible refine i_trip (by repeat constructor) (by repeat constructor) (by repeat constructor) ?_)
local macro_rules | `(tactic| array_get_dec) => `(tactic| with_reducible refine i_par3 ?_ (by with_unfolding_all exact Nat.le_of_ble_eq_true rfl) (by with_unfolding_all exact Nat.le_of_ble_eq_true rfl) (by with_unfolding_all exact Nat.le_of_ble_eq_true rfl))
local macro_rules | `(tactic| array_get_dec) => `(tactic| with_reducible refine i_pair (by repeat constructor) (by repeat constructor) ?_)
local macro_rules | `(tactic| array_get_dec) => `(tactic| with_reducible refine i_par ?_ (by with_unfolding_all exact Nat.le_of_ble_eq_true rfl) (by with_unfolding_all exact Nat.le_of_ble_eq_true rfl))
local macro_rules | `(tactic| array_get_dec) => `(tactic| with_reducible refine i_set (by repeat constructor) ?_)
local macro_rules | `(tactic| array_get_dec) => `(tactic| with_reducible refine i_asgn ?_ (by with_unfolding_all exact Nat.le_of_ble_eq_true rfl))
local macro_rules | `(tactic| array_get_dec) => `(tactic| with_reducible refine i_asg2v (by repeat constructor) (by repeat constructor) (by repeat constructor) ?_)
local macro_rules | `(tactic| array_get_dec) => `(tactic| with_reducible refine i_seqg (fun _ _ => ?_))
local macro_rules
  | `(tactic| decreasing_trivial_pre_omega) => `(tactic| (apply cmB; (repeat' (first | assumption | apply Bd.add | apply Bd.sub | apply Bd.mul | apply Bd.neg)); decide))
theorem wp_fraction {p : Int} {q : Nat} {h : Ho} {Q : KD} {E : XD} {n : Nat} (hq : q ≠ 0) (hz : q < 2 ^ n) (h0 : 0 < n) (hn : n ≤ 9000) (k : Q (.d (fr (mkRat p q))) h) : M_fraction [.d (.int p), .d (.int q)] h Q E := by
  rw [low_eq hq] at k
  refine i_mir rfl (by repeat constructor) (by repeat constructor) ?_
  unfold B_fraction
  repeat' array_get_dec
  refine i_ifF (decide_eq_false (by exact_mod_cast hq)) ?_
  repeat' array_get_dec
  refine i_ifF (decide_eq_false (by omega)) ?_
  repeat' array_get_dec
  · exact cdiv_gr hq h0 hz hn
  · exact cdiv_gr hq h0 hz hn
  · exact k
theorem wp_common {a b : Int} {n m : Nat} {h : Ho} {Q : KD} {E : XD} (ha : a.natAbs < 2 ^ n) (hb : b.natAbs < 2 ^ m) (hn : n + m ≤ 8000) (k : Q (.d (.int (Nat.gcd a.natAbs b.natAbs : Nat))) h) : M__law_common [.d (.int a), .d (.int b)] h Q E := by
  refine i_mir rfl (by repeat constructor) (by repeat constructor) ?_
  unfold B__law_common
  have ab : ∀ i : Int, (if i < 0 then -i else i) = (i.natAbs : Int) := by intro i; split <;> omega
  repeat' array_get_dec
  refine ⟨by decide, by decide, ?_⟩
  rw [ab, ab]
  refine for_ind (fun k ρ h' => h' = h ∧ ∃ (x y : Nat) (z : Option D), ρ = [some (.d (.int x)), some (.d (.int y)), z] ∧ Nat.gcd x y = Nat.gcd a.natAbs b.natAbs ∧ ((k = 0 ∧ x * y < 2 ^ 8000) ∨ (0 < k ∧ y < x ∧ x * y < 2 ^ (8001 - k)))) ?_ ?_ ?_
  · rintro i x ρ h' G ex ⟨rfl, x, y, z, rfl, eg, hp⟩ hG
    refine ⟨_, rfl, ?_⟩
    show (sSeq _ _) [some (.d (.int x)), some (.d (.int y)), some _] _ _
    repeat' array_get_dec
    refine i_ite (fun c => ?_) (fun c => ?_)
    · have c : (y : Int) = 0 := of_decide_eq_true c
      have c : y = 0 := by exact_mod_cast c
      subst c
      rw [Nat.gcd_zero_right] at eg
      rw [← eg] at k
      repeat' array_get_dec
      exact k
    · have c := of_decide_eq_false c
      have c : 0 < y := by omega
      repeat' array_get_dec
      · exact_mod_cast c
      · refine ⟨trivial, hG _ _ ⟨rfl, y, x % y, _, rfl, ?_, .inr ⟨by omega, Nat.mod_lt _ c, ?_⟩⟩⟩
        · rw [← eg, Nat.gcd_comm y, ← Nat.gcd_rec, Nat.gcd_comm]
        · exact halved c hp
  · rintro ρ h' ⟨rfl, x, y, z, rfl, eg, hp⟩
    have e : (rangeD 0 (9000 : Int).toNat).length = 9000 := by simp [rangeD]
    rw [e] at hp
    have y0 : y = 0 := by
      rcases hp with ⟨hp, _⟩ | ⟨_, h1, h2⟩
      · exact absurd hp (by decide)
      · have : x * y = 0 := by
          have e : 8001 - 9000 = 0 := by decide
          rw [e] at h2
          omega
        rcases Nat.mul_eq_zero.1 this with z | z
        · omega
        · exact z
    subst y0
    rw [Nat.gcd_zero_right] at eg
    rw [← eg] at k
    repeat' array_get_dec
    exact k
  · exact ⟨rfl, _, _, _, rfl, rfl, .inl ⟨rfl, Nat.lt_of_lt_of_le (mul_lt_pow ha hb) (Nat.pow_le_pow_right (by decide) hn)⟩⟩
theorem wp_low {p : Int} {q : Nat} {n m : Nat} {h : Ho} {Q : KD} {E : XD} (hq : q ≠ 0) (ha : p.natAbs < 2 ^ n) (hb : q < 2 ^ m) (h0 : 0 < m) (hn : n + m ≤ 8000) (k : Q (.d (fr (mkRat p q))) h) : M__law_low [.d (.int p), .d (.int q)] h Q E := by
  rw [low_eq hq] at k
  refine i_mir rfl (by repeat constructor) (by repeat constructor) ?_
  unfold B__law_low
  repeat' array_get_dec
  refine wp_common ha (by rw [nab]; exact hb) hn ?_
  repeat' array_get_dec
  · exact cdiv_gr hq h0 hb (by omega)
  · exact cdiv_gr hq h0 hb (by omega)
  · exact k
theorem wp_same {p : PyData} {h : Ho} {Q : KD} {E : XD} (hs : p.showable = true) (hd : p.depth < 60) (hl : p.shown.length ≤ sizeLine) (k : Q (.d (.bool true)) h) : M__law_same [.d p, .d p] h Q E := by
  refine i_mir rfl (by repeat constructor) (by repeat constructor) ?_
  unfold B__law_same
  repeat' array_get_dec
  refine i_repr hs hd hl ?_
  repeat' array_get_dec
  refine i_repr hs hd hl ?_
  repeat' array_get_dec
  first | exact k | (rw [decide_eq_true rfl]; exact k)
theorem wp_sameF {q : Rat} {n : Nat} {h : Ho} {Q : KD} {E : XD} (s : Sz n q) (hn : n ≤ 1900) (k : Q (.d (.bool true)) h) : M__law_same [.d (fr q), .d (fr q)] h Q E := by
  have s := s.mono (m := 1900) hn
  exact wp_same (fr_showable (by decide) (by decide) s) (by show 1 < 60; decide) (fr_len (by decide) (by decide) s) k
theorem wp_any {n : Int} {rest h : Ho} {Q : KD} {E : XD} (hn : 0 < n) (hb : n < 2 ^ 100) (dh : Deal rest h) (k : ∀ v h', 0 ≤ v → v < n → Deal rest h' → Q (.d (.int v)) h') : M__law_any [.loc 1, .d (.int n)] h Q E := by
  obtain ⟨cs, mix, rfl, hl, hc, hm0, hm1⟩ := dh.is
  refine i_mir rfl (by repeat constructor) (by repeat constructor) ?_
  unfold B__law_any
  array_get_dec
  refine i_while (fun m ρ' h' => ρ' = [some (.loc 1), some (.d (.int n)), none] ∧ ∃ cs' : List Int, cs'.length = m ∧ h' = .lst (cs'.map cell) :: .lst [.loc 0, cell mix] :: rest ∧ cs'.length ≤ 63 ∧ ∀ c ∈ cs', 0 ≤ c) ⟨rfl, cs, rfl, rfl, hl, hc⟩ ?_ ?_
  · rintro m ρ' h' ⟨rfl, cs', rfl, rfl, hl, hc⟩
    rcases nil_or_snoc cs' with rfl | ⟨cs2, c, rfl⟩
    · repeat' array_get_dec
      refine i_ned (datum_cells (cs := [])) rfl rfl rfl ni_loc ?_
      repeat' array_get_dec
      refine i_ifF rfl ?_
      repeat' array_get_dec
      · exact mix_mul hm0 hm1
      · decide
      · refine subK_loc (j := 1) (h2 := .lst [] :: .lst [.loc 0, cell ((mix * 48271 + 41) % 2147483647)] :: rest) rfl rfl rfl ?_
        have m0 : 0 ≤ (mix * 48271 + 41) % 2147483647 := Int.emod_nonneg _ (by decide)
        have m1 : (mix * 48271 + 41) % 2147483647 < 2147483647 := Int.emod_lt_of_pos _ (by decide)
        repeat' array_get_dec
        · exact ⟨by decide, by decide⟩
        · exact hn
        · exact k _ _ (Int.emod_nonneg _ (by omega)) (Int.emod_lt_of_pos _ hn) ⟨[], _, rfl, hl, hc, m0, by omega⟩
    · have em : (cs2 ++ [c]).map cell = cs2.map cell ++ [cell c] := by simp
      rw [em]
      have hc2 : 0 ≤ c := hc c (by simp)
      repeat' array_get_dec
      refine i_ned (by rw [← em]; exact datum_cells (cs := cs2 ++ [c])) rfl (shaped_ints _) rfl ni_loc ?_
      rw [ints_ne (by simp)]
      repeat' array_get_dec
      refine i_ifT rfl ?_
      repeat' array_get_dec
      refine popK_loc rfl (h2 := .lst (cs2.map cell) :: .lst [.loc 0, cell mix] :: rest) rfl ?_
      repeat' array_get_dec
      refine appK_loc rfl ?_
      repeat' array_get_dec
      · exact ⟨by omega, Nat.lt_of_lt_of_le (log2_lt (n := 100) (by decide) (by omega)) (by decide)⟩
      · have hl2 : cs2.length < 63 := by rw [List.length_append, List.length_singleton] at hl; omega
        refine ⟨_, cs2.map cell, rfl, rfl, by rw [List.length_map]; exact Nat.lt_of_lt_of_le hl2 (by decide), ?_⟩
        repeat' array_get_dec
        · exact hn
        · refine k _ _ (Int.emod_nonneg _ (by omega)) (Int.emod_lt_of_pos _ hn) ⟨cs2 ++ [c.fdiv n], mix, by rw [List.map_append]; rfl, by rw [List.length_append, List.length_singleton]; omega, ?_, hm0, hm1⟩
          intro d hd
          rw [List.mem_append, List.mem_singleton] at hd
          rcases hd with hd | rfl
          · exact hc d (by simp [hd])
          · rw [Int.fdiv_eq_ediv_of_nonneg _ (by omega)]
            exact Int.ediv_nonneg hc2 (by omega)
  · intro he m ρ' h' hi
    have hi0 := hi
    obtain ⟨rfl, cs', rfl, rfl, hl, hc⟩ := hi
    rcases nil_or_snoc cs' with rfl | ⟨cs2, c, rfl⟩
    · repeat' array_get_dec
      refine i_ned (datum_cells (cs := [])) rfl rfl rfl ni_loc ?_
      repeat' array_get_dec
      refine i_ifF rfl ?_
      exact i_ifF rfl (he _ _ _ hi0)
    · have em : (cs2 ++ [c]).map cell = cs2.map cell ++ [cell c] := by simp
      rw [em] at hi0 ⊢
      repeat' array_get_dec
      refine i_ned (by rw [← em]; exact datum_cells (cs := cs2 ++ [c])) rfl (shaped_ints _) rfl ni_loc ?_
      rw [ints_ne (by simp)]
      repeat' array_get_dec
      refine i_ifT rfl ?_
      repeat' array_get_dec
      refine i_ix rfl atI_last ?_
      repeat' array_get_dec
      refine i_ite (fun e => ?_) (fun e => ?_)
      · repeat' array_get_dec
        refine popK_loc rfl (h2 := .lst (cs2.map cell) :: .lst [.loc 0, cell mix] :: rest) rfl ?_
        refine ⟨cs2.length, by simp, rfl, cs2, rfl, rfl, ?_, fun d hd => hc d (by simp [hd])⟩
        rw [List.length_append, List.length_singleton] at hl
        omega
      · exact he _ _ _ hi0
theorem wp_of {xs : List PyData} {rest h : Ho} {Q : KD} {E : XD} (hn : xs ≠ []) (hb : xs.length < 2 ^ 100) (dh : Deal rest h) (k : ∀ x h', x ∈ xs → Deal rest h' → Q (.d x) h') : M__law_of [.loc 1, .d (.list xs)] h Q E := by
  refine i_mir rfl (by repeat constructor) (by repeat constructor) ?_
  unfold B__law_of
  repeat' array_get_dec
  have hp : 0 < xs.length := List.length_pos_iff.2 hn
  rw [List.length_map]
  refine wp_any (by exact_mod_cast hp) (by exact_mod_cast hb) dh fun v h' v0 v1 dh' => ?_
  have e : L2.atI (xs.map D.d) v = some (.d (xs[v.toNat]'(by omega))) := by
    unfold L2.atI ixN
    rw [if_pos v0, if_pos (by rw [List.length_map]; exact v1)]
    simp only [Option.bind_some, List.getElem?_map]
    rw [List.getElem?_eq_getElem (by omega)]
    rfl
  refine i_ix rfl e ?_
  exact k _ _ (List.getElem_mem _) dh'
theorem wp_source {ns : List Int} {Q : KD} {E : XD} (hl : ns.length ≤ 63) (k : ∀ h', Deal [] h' → Q (.loc 1) h') : M__law_source [.d (.list (ns.map PyData.int))] [] Q E := by
  refine i_mir rfl (by repeat constructor) (by repeat constructor) ?_
  unfold B__law_source
  repeat' array_get_dec
  refine i_lcv ?_
  refine i_iseqG ?_
  refine i_sl0 (by repeat constructor) ?_
  refine ⟨_, rfl, ?_⟩
  have ec : cut (ns.map PyData.int) none (some 63) = (cut ns none (some 63)).map PyData.int := by
    unfold cut
    rw [List.length_map, ← List.map_drop, ← List.map_take]
  rw [ec]
  have lc : (cut ns none (some 63)).length ≤ 63 := by
    unfold cut
    rw [List.length_take, List.length_drop]
    omega
  generalize cut ns none (some 63) = ms at lc ⊢
  refine lcv_ind (hb := []) (fun k acc => ∃ cs : List Int, acc = cs.map cell ∧ cs.length ≤ k ∧ ∀ c ∈ cs, 0 ≤ c) stay_d ?_ ?_ ⟨[], rfl, Nat.le_refl 0, by simp⟩
  · rintro i x acc ex ⟨cs, rfl, hc, hp⟩
    rw [List.map_map, List.getElem?_map, Option.map_eq_some_iff] at ex
    obtain ⟨c, e1, rfl⟩ := ex
    have hi : i < ms.length := (List.getElem?_eq_some_iff.1 e1).1
    refine ⟨_, true, rfl, fun P q => q, fun _ => ⟨cell (if c < 0 then -c else c), fun P q => ?_, ?_, cs ++ [if c < 0 then -c else c], by simp, by simp; omega, ?_⟩, fun e => by cases e⟩
    · show fCall _ _ [_, _, some (.d (.int c)), _] _ _ _
      repeat' array_get_dec
      exact q
    · rw [List.length_map]
      exact Nat.lt_of_le_of_lt (Nat.le_trans hc (by omega : i ≤ 63)) (by decide)
    · intro d hd
      rw [List.mem_append, List.mem_singleton] at hd
      rcases hd with hd | rfl
      · exact hp d hd
      · split <;> omega
  · rintro acc ⟨cs, rfl, hc, hp⟩
    rw [List.length_map, List.length_map] at hc
    refine ⟨_, allD_cells cs, ?_⟩
    repeat' array_get_dec
    refine i_iseq (by repeat constructor) rfl ?_
    refine for_ind (fun i ρ h' => h' = [] ∧ ∃ (z : Option D) (mix : Int), ρ = [some (.d (.list (ns.map PyData.int))), some (.d (.list (cs.map PyData.int))), z, some (cell mix)] ∧ 0 ≤ mix ∧ mix < 2 ^ 31) ?_ ?_ ⟨rfl, _, _, rfl, by decide, by decide⟩
    · rintro i x ρ h' G ex ⟨rfl, z, mix, rfl, m0, m1⟩ hG
      rw [List.map_map, List.getElem?_map, Option.map_eq_some_iff] at ex
      obtain ⟨c, e1, rfl⟩ := ex
      refine ⟨_, rfl, ?_⟩
      show sAsg _ _ [_, _, some (.d (.int c)), some (cell mix)] _ _
      repeat' array_get_dec
      · exact mix_mul m0 m1
      · decide
      · decide
      · exact ⟨stay_d _, hG _ _ ⟨rfl, _, _, rfl, Int.emod_nonneg _ (by decide), Int.lt_trans (Int.emod_lt_of_pos _ (by decide)) (by decide)⟩⟩
    · rintro ρ h' ⟨rfl, z, mix, rfl, m0, m1⟩
      repeat' array_get_dec
      refine i_loc ?_
      array_get_dec
      refine i_revloc ?_
      refine i_lcv ?_
      refine i_iseq (by repeat constructor) rfl ?_
      refine lcv_ind (hb := []) (fun k acc => ∃ cs : List Int, acc = cs.map cell ∧ cs.length ≤ k ∧ ∀ c ∈ cs, 0 ≤ c) stay_d ?_ ?_ ⟨[], rfl, Nat.le_refl 0, by simp⟩
      · rintro i x acc ex ⟨ds, rfl, hc2, hp2⟩
        rw [List.map_map, List.getElem?_map, Option.map_eq_some_iff] at ex
        obtain ⟨c, e1, rfl⟩ := ex
        obtain ⟨hi, e2⟩ := List.getElem?_eq_some_iff.1 e1
        refine ⟨_, decide ((10 : Int) ^ (18 : Int).toNat ≤ c), rfl, fun P q => ?_, fun hb => ⟨cell c, fun P q => ?_, ?_, ds ++ [c], by simp, by simp; omega, ?_⟩, fun _ => ⟨ds, rfl, by omega, hp2⟩⟩
        · show tVal _ [_, _, some (.d (.int c)), _] _ _ _
          repeat' array_get_dec
          · exact ⟨by decide, by decide, by decide⟩
          · exact q
        · show fVar _ [_, _, some (.d (.int c)), _] _ _ _
          exact i_var (by repeat constructor) q
        · rw [List.length_map]
          exact Nat.lt_of_le_of_lt (Nat.le_trans hc2 (by omega : i ≤ 63)) (by decide)
        · intro d hd
          rw [List.mem_append, List.mem_singleton] at hd
          rcases hd with hd | rfl
          · exact hp2 d hd
          · exact hp _ (by rw [← e2]; exact List.getElem_mem _)
      · rintro acc ⟨ds, rfl, hc2, hp2⟩
        rw [List.length_map, List.length_map] at hc2
        refine ⟨_, allD_cells ds, ?_⟩
        refine revK_lst ?_
        repeat' array_get_dec
        refine ⟨Nat.le_of_ble_eq_true rfl, k _ ⟨ds.reverse, mix, ?_, by rw [List.length_reverse]; omega, fun c hc3 => hp2 c (List.mem_reverse.1 hc3), m0, m1⟩⟩
        have e3 : ((ds.map PyData.int).map D.d).reverse = ds.reverse.map cell := by rw [List.map_map, ← List.map_reverse]; rfl
        rw [e3]
        rfl
theorem wp_plus {a b : Rat} {h : Ho} {Q : KD} {E : XD} {n m : Nat} (sa : Sz n a) (sb : Sz m b) (hn : n + m ≤ big := by decide) (k : Q (.d (fr (a + b))) h) : M_plus [.d (fr a), .d (fr b)] h Q E := by
  have hs : 0 < big := by decide
  have sa := sa.mono (m := big) (by omega)
  have sb := sb.mono (m := big) (by omega)
  rw [plus_eq a b rfl rfl rfl rfl rfl] at k
  refine i_mir rfl (by repeat constructor) (by repeat constructor) ?_
  unfold B_plus
  repeat' array_get_dec
  · exact cdiv_gr b.den_nz hs sb.2 (by decide)
  · exact cdiv_gr b.den_nz hs sb.2 (by decide)
  · exact cmulw hs sa.1 (Nat.lt_of_le_of_lt (v_fdiv_le _ _) sb.2) (by decide)
  · exact cmulw hs sb.1 (Nat.lt_of_le_of_lt (v_fdiv_le _ _) sa.2) (by decide)
  · exact cdiv_gr (gcd_ne b.den_nz) hs (gcd_lt b.den_nz sb.2) (by decide)
  · exact cdiv_gr (gcd_ne b.den_nz) hs (gcd_lt b.den_nz sb.2) (by decide)
  · exact cmulw hs (Nat.lt_of_le_of_lt (v_fdiv_le _ _) sa.2) (Nat.lt_of_le_of_lt (v_fdiv_le _ _) sb.2) (by decide)
  · exact k
theorem wp_times {a b : Rat} {h : Ho} {Q : KD} {E : XD} {n m : Nat} (sa : Sz n a) (sb : Sz m b) (hn : n + m ≤ big := by decide) (k : Q (.d (fr (a * b))) h) : M_times [.d (fr a), .d (fr b)] h Q E := by
  have hs : 0 < big := by decide
  have sa := sa.mono (m := big) (by omega)
  have sb := sb.mono (m := big) (by omega)
  rw [times_eq a b rfl rfl] at k
  refine i_mir rfl (by repeat constructor) (by repeat constructor) ?_
  unfold B_times
  repeat' array_get_dec
  · exact cdiv_gr b.den_nz hs sb.2 (by decide)
  · exact cdiv_gr a.den_nz hs sa.2 (by decide)
  · exact cmulw hs (Nat.lt_of_le_of_lt (v_fdiv_le _ _) sa.1) (Nat.lt_of_le_of_lt (v_fdiv_le _ _) sb.1) (by decide)
  · exact cdiv_gr a.den_nz hs sa.2 (by decide)
  · exact cdiv_gr b.den_nz hs sb.2 (by decide)
  · exact cmulw hs (Nat.lt_of_le_of_lt (v_fdiv_le _ _) sa.2) (Nat.lt_of_le_of_lt (v_fdiv_le _ _) sb.2) (by decide)
  · exact k
theorem wp_negative {a : Rat} {h : Ho} {Q : KD} {E : XD} (k : Q (.d (fr (-a))) h) : M_negative [.d (fr a)] h Q E := by
  rw [neg_eq a] at k
  refine i_mir rfl (by repeat constructor) (by repeat constructor) ?_
  unfold B_negative
  repeat' array_get_dec
  exact k
theorem wp_minus {a b : Rat} {h : Ho} {Q : KD} {E : XD} {n m : Nat} (sa : Sz n a) (sb : Sz m b) (hn : n + m ≤ big := by decide) (k : Q (.d (fr (a - b))) h) : M_minus [.d (fr a), .d (fr b)] h Q E := by
  rw [Rat.sub_eq_add_neg] at k
  refine i_mir rfl (by repeat constructor) (by repeat constructor) ?_
  unfold B_minus
  repeat' array_get_dec
  refine wp_negative ?_
  repeat' array_get_dec
  exact wp_plus sa sb.neg hn k
theorem wp_on_grid {pts : List Pt} {h : Ho} {Q : KD} {E : XD} (hL : Lc pts < 2 ^ big) (hz : pts.length ≤ 100) (hp : ∀ p ∈ pts, Sz big p.1 ∧ Sz big p.2) (k : Q (.d (.tuple [.int (Lc pts : Nat), .list (pts.map (grD (Lc pts)))])) h) : M_on_grid [.d (.tuple (pts.map ptD))] h Q E := by
  have hs : sizeLine = 2 ^ 24 := rfl
  have dl : ∀ p ∈ pts, p.1.den < 2 ^ big ∧ p.2.den < 2 ^ big := fun p m =>
    ⟨Nat.lt_of_le_of_lt (Nat.le_of_dvd (Nat.pos_of_ne_zero (Lc_ne pts)) (Lc_den m).1) hL, Nat.lt_of_le_of_lt (Nat.le_of_dvd (Nat.pos_of_ne_zero (Lc_ne pts)) (Lc_den m).2) hL⟩
  have lk : ∀ k, Lc (pts.take k) < 2 ^ big := fun k => Nat.lt_of_le_of_lt (Nat.le_of_dvd (Nat.pos_of_ne_zero (Lc_ne pts)) Lc_dvd_all) hL
  refine i_mir rfl (by repeat constructor) (by repeat constructor) ?_
  unfold B_on_grid
  repeat' array_get_dec
  refine i_iseq (by repeat constructor) rfl ?_
  refine for_ind (fun k ρ h' => h' = h ∧ ∃ z2 z3 z4, ρ = [some (.d (.tuple (pts.map ptD))), some (.d (.int (Lc (pts.take k) : Nat))), z2, z3, z4, none, none, none, none]) ?_ ?_ ⟨rfl, _, _, _, rfl⟩
  · rintro i x ρ h' G ex ⟨rfl, z2, z3, z4, rfl⟩ hG
    rw [List.map_map, List.getElem?_map, Option.map_eq_some_iff] at ex
    obtain ⟨p, e1, rfl⟩ := ex
    have m : p ∈ pts := List.mem_of_getElem? e1
    refine ⟨[some (.d (.tuple (pts.map ptD))), some (.d (.int (Lc (pts.take i) : Nat))), some (.d (.int p.2.num)), some (.d (.int p.1.den)), some (.d (.int p.2.den)), none, none, none, none], rfl, ?_⟩
    repeat' array_get_dec
    · exact ⟨lk i, (dl p m).1, (dl p m).2⟩
    · exact ⟨stay_d _, hG _ _ ⟨rfl, some (.d (.int p.2.num)), some (.d (.int p.1.den)), some (.d (.int p.2.den)), by rw [Lc_take_succ e1]; rfl⟩⟩
  · rintro ρ h' ⟨rfl, z2, z3, z4, rfl⟩
    have et : Lc (pts.take ((pts.map ptD).map D.d).length) = Lc pts := by rw [List.length_map, List.length_map, List.take_length]
    rw [et]
    repeat' array_get_dec
    refine i_lcv ?_
    refine i_iseq (by repeat constructor) rfl ?_
    refine lcv_ind (hb := h') (fun k acc => acc = ((pts.take k).map (grD (Lc pts))).map D.d) stay_d ?_ ?_ rfl
    · rintro i x acc ex rfl
      rw [List.map_map, List.getElem?_map, Option.map_eq_some_iff] at ex
      obtain ⟨p, e1, rfl⟩ := ex
      have m : p ∈ pts := List.mem_of_getElem? e1
      obtain ⟨hi, _⟩ := List.getElem?_eq_some_iff.1 e1
      refine ⟨[some (.d (.tuple (pts.map ptD))), some (.d (.int (Lc pts : Nat))), z2, z3, z4, some (.d (.int p.1.num)), some (.d (.int p.1.den)), some (.d (.int p.2.num)), some (.d (.int p.2.den))], true, rfl, fun P q => q, fun _ => ⟨.d (grD (Lc pts) p), fun P q => ?_, ?_, ?_⟩, fun e => by cases e⟩
      · repeat' array_get_dec
        · exact cdiv_nat p.1.den_nz (by decide) (dl p m).1 (by decide)
        · exact cmulw (by decide) (hp p m).1.1 (Nat.lt_of_le_of_lt (v_fdiv_le _ _) hL) (by decide)
        · exact cdiv_nat p.2.den_nz (by decide) (dl p m).2 (by decide)
        · exact cmulw (by decide) (hp p m).2.1 (Nat.lt_of_le_of_lt (v_fdiv_le _ _) hL) (by decide)
        · exact q
      · rw [List.length_map, List.length_map, List.length_take]
        omega
      · rw [List.take_succ, e1]
        simp
    · rintro acc rfl
      have et : (pts.take ((pts.map ptD).map D.d).length) = pts := by rw [List.length_map, List.length_map, List.take_length]
      rw [et]
      refine ⟨pts.map (grD (Lc pts)), ?_, ?_⟩
      · generalize pts.map (grD (Lc pts)) = xs
        induction xs with
        | nil => exact .nil
        | cons a l ih => exact .cons ih
      · repeat' array_get_dec
        exact k
def ev {α : Type} : List α → List α
  | [] => []
  | [a] => [a]
  | a :: _ :: t => a :: ev t
def od {α : Type} : List α → List α
  | [] => []
  | [_] => []
  | _ :: b :: t => b :: od t
def stp : List Rat → List Rat
  | [] => []
  | [a] => [a]
  | a :: b :: t => (a + b) :: stp t
theorem ev_map {α β : Type} (f : α → β) : ∀ xs : List α, ev (xs.map f) = (ev xs).map f
  | [] => rfl
  | [_] => rfl
  | a :: b :: t => by
    show f a :: ev (t.map f) = f a :: (ev t).map f
    rw [ev_map f t]
theorem od_map {α β : Type} (f : α → β) : ∀ xs : List α, od (xs.map f) = (od xs).map f
  | [] => rfl
  | [_] => rfl
  | a :: b :: t => by
    show f b :: od (t.map f) = f b :: (od t).map f
    rw [od_map f t]
theorem sum_stp : ∀ xs : List Rat, (stp xs).sum = xs.sum
  | [] => rfl
  | [_] => rfl
  | a :: b :: t => by
    show ((a + b) :: stp t).sum = _
    rw [List.sum_cons, List.sum_cons, List.sum_cons, sum_stp t, Rat.add_assoc]
theorem len_stp : ∀ xs : List Rat, (stp xs).length = (xs.length + 1) / 2
  | [] => rfl
  | [_] => by simp [stp]
  | a :: b :: t => by
    show (stp t).length + 1 = (t.length + 1 + 1 + 1) / 2
    rw [len_stp t]
    omega
theorem sz_stp {n : Nat} : ∀ xs : List Rat, (∀ q ∈ xs, Sz n q) → ∀ q ∈ stp xs, Sz (n + n + 1) q
  | [], _, q, h => by cases h
  | [a], s, q, h => (s q h).mono (by omega)
  | a :: b :: t, s, q, h => by
    cases h with
    | head => exact (s a (.head _)).add (s b (.tail _ (.head _)))
    | tail _ h => exact sz_stp t (fun q h => s q (.tail _ (.tail _ h))) q h
theorem stp_eq : ∀ xs : List Rat, stp xs = ((ev xs).zip (od xs)).map (fun z => z.1 + z.2) ++ xs.drop (xs.length / 2 * 2)
  | [] => rfl
  | [a] => by simp [stp, ev, od]
  | a :: b :: t => by
    have e : (a :: b :: t).length / 2 * 2 = t.length / 2 * 2 + 2 := by
      show (t.length + 1 + 1) / 2 * 2 = _
      omega
    rw [e]
    show (a + b) :: stp t = (a + b) :: (((ev t).zip (od t)).map (fun z => z.1 + z.2) ++ t.drop (t.length / 2 * 2))
    rw [stp_eq t]
theorem pick_ev {α : Type} (xs : List α) (h : xs.length ≤ 10) : pickL xs none none 2 = ev xs := by
  iterate 11
    rcases xs with _ | ⟨_, xs⟩
    · first | (with_unfolding_all rfl) | simp [pickL, sliceBounds, sliceRange, ev, List.range, List.range.loop]
  simp only [List.length_cons] at h
  omega
theorem pick_od {α : Type} (xs : List α) (h : xs.length ≤ 10) : pickL xs (some 1) none 2 = od xs := by
  iterate 11
    rcases xs with _ | ⟨_, xs⟩
    · first | (with_unfolding_all rfl) | simp [pickL, sliceBounds, sliceRange, od, List.range, List.range.loop]
  simp only [List.length_cons] at h
  omega
theorem list1_data {v : PyData} {ps : List PyData} (hv : v = .list ps ∨ v = .tuple ps) {h : Ho} {Q : KD} (k : Q (.d (.list ps)) h) : V2.rList1 [.d v] h Q := by
  have e : items h (.d v) = some (ps.map D.d) := by rcases hv with rfl | rfl <;> rfl
  unfold V2.rList1
  simp only [e, allD_map]
  exact k
theorem i_truL {ρ : En} {h : Ho} {Q : Bool → Ho → Prop} {E : XD} {i : Nat} {ps : List PyData} (e : GetAt i ρ (.d (.list ps))) (k : Q (!ps.isEmpty) h) : tTru (fVar i) ρ h Q E := by
  refine i_var e ?_
  show Q (!(ps.map D.d).isEmpty) h
  rw [List.isEmpty_map]
  exact k
theorem i_slD {ρ : En} {h : Ho} {Q : KD} {E : XD} {i : Nat} {ps : List PyData} {fo : WE} (e : GetAt i ρ (.d (.list ps))) (k : fo ρ h (fun y h1 => ∃ j, y = .d (.int j) ∧ Q (.d (.list (cut ps (some j) none))) h1) E) : fSl (fVar i) (oSome fo) oNone ρ h Q E := by
  refine i_var e ?_
  have e1 : (fun (x : D) (h1 : Ho) => ∃ j, x = .d (.int j) ∧ Q (.d (.list (cut ps (some j) none))) h1) = (fun x h1 => match x with
      | .d (.int i) => Q (.d (.list (cut ps (some i) none))) h1
      | _ => False) := by
    funext x h1
    apply propext
    constructor
    · rintro ⟨j, rfl, q⟩
      exact q
    · split
      · exact fun q => ⟨_, rfl, q⟩
      · exact False.elim
  rw [e1] at k
  exact k
theorem cut_drop {α : Type} {ps : List α} {k : Nat} (h : k ≤ ps.length) : cut ps (some (k : Int)) none = ps.drop k := by
  unfold cut
  rw [HT.sIx_nat, HT.sIx_none, Nat.min_eq_left h]
  exact List.take_of_length_le (by rw [List.length_drop]; exact Nat.le_refl _)
theorem i_slL {ρ : En} {h : Ho} {Q : KD} {E : XD} {i : Nat} {c : Int} {ps : List PyData} (e : GetAt i ρ (.d (.list ps))) (hz : (pickL ps none none c).length ≤ sizeLine) (k : Q (.d (.list (pickL ps none none c))) h) : fSlL c (fVar i) oNone oNone ρ h Q E := i_var e ⟨hz, k⟩
theorem i_slL1 {ρ : En} {h : Ho} {Q : KD} {E : XD} {i : Nat} {c j : Int} {ps : List PyData} (e : GetAt i ρ (.d (.list ps))) (hz : (pickL ps (some j) none c).length ≤ sizeLine) (k : Q (.d (.list (pickL ps (some j) none c))) h) : fSlL c (fVar i) (oSome (fC (.int j))) oNone ρ h Q E := i_var e ⟨hz, k⟩
theorem ev_len {α : Type} : ∀ xs : List α, (ev xs).length ≤ xs.length ∧ (od xs).length ≤ xs.length
  | [] => ⟨Nat.le_refl _, Nat.le_refl _⟩
  | [_] => ⟨Nat.le_refl _, Nat.zero_le _⟩
  | a :: b :: t => by
    have := ev_len t
    show (ev t).length + 1 ≤ t.length + 1 + 1 ∧ (od t).length + 1 ≤ t.length + 1 + 1
    omega
theorem ev_mem {α : Type} : ∀ xs : List α, (∀ x ∈ ev xs, x ∈ xs) ∧ ∀ x ∈ od xs, x ∈ xs
  | [] => ⟨fun _ h => h, fun _ h => h⟩
  | [_] => ⟨fun _ h => h, fun _ h => by cases h⟩
  | a :: b :: t => by
    have ih := ev_mem t
    refine ⟨fun x h => ?_, fun x h => ?_⟩
    · cases h with
      | head => exact .head _
      | tail _ h => exact .tail _ (.tail _ (ih.1 x h))
    · cases h with
      | head => exact .tail _ (.head _)
      | tail _ h => exact .tail _ (.tail _ (ih.2 x h))
def Parts (s : Nat) (qs : List Rat) (t : Rat) (m : Nat) : Prop := qs.sum = t ∧ qs.length = m ∧ 0 < m ∧ m ≤ 10 ∧ ∃ k, k ≤ 4 ∧ m ≤ 2 ^ k ∧ ∀ q ∈ qs, Sz (2 ^ (4 - k) * (s + 1) - 1) q
theorem wp_total {xs : List Rat} {v : PyData} (hv : v = .list (xs.map fr) ∨ v = .tuple (xs.map fr)) (hl : xs.length ≤ 10) {s : Nat} (sz : ∀ q ∈ xs, Sz s q) (hs : (s + 1) * 8 ≤ 1900) {h : Ho} {Q : KD} {E : XD} (k : Q (.d (fr xs.sum)) h) : M_total_of [.d v] h Q E := by
  refine i_mir rfl (by repeat constructor) (by repeat constructor) ?_
  unfold B_total_of
  repeat' array_get_dec
  refine list1_data hv ?_
  repeat' array_get_dec
  refine i_truL (by repeat constructor) ?_
  rw [List.isEmpty_map, Bool.not_not]
  refine i_ite (fun c => ?_) (fun c => ?_)
  · have c : xs = [] := List.isEmpty_iff.1 c
    subst c
    repeat' array_get_dec
    exact k
  · repeat' array_get_dec
    have c : xs ≠ [] := fun e => by rw [e] at c; cases c
    refine i_whileE (fun m ρ' h' => h' = h ∧ ∃ (qs : List Rat) (z : Option D), ρ' = [some (.d v), some (.d (.list (qs.map fr))), z, none, none] ∧ Parts s qs xs.sum m) (m0 := xs.length) ⟨rfl, xs, none, rfl, rfl, rfl, List.length_pos_iff.2 c, hl, 4, by decide, by omega, fun q hq => (sz q hq).mono (by omega)⟩ ?_
    rintro m ρ' h' ⟨rfl, qs, z, rfl, hs1, hl1, hm0, hm10, kk, hk4, hm2, hz⟩
    repeat' array_get_dec
    rw [List.length_map, List.length_map, hl1]
    refine i_ite (fun c1 => ?_) (fun c1 => ?_)
    · have c1 : 1 < m := by have := of_decide_eq_true c1; omega
      repeat' array_get_dec
      refine i_slD (by repeat constructor) ?_
      repeat' array_get_dec
      · exact cdiv_nat (n := 3) (by decide) (by decide) (by decide) (by decide)
      · refine cmulw (n := 20) (by decide) ?_ (by decide) (by decide)
        rw [List.length_map, List.length_map, hl1, Int.fdiv_eq_ediv_of_nonneg _ (by decide)]
        omega
      rw [List.length_map, List.length_map, hl1]
      have ed : (m : Int).fdiv 2 * 2 = ((m / 2 * 2 : Nat) : Int) := by rw [Int.fdiv_eq_ediv_of_nonneg _ (by decide)]; omega
      rw [ed, cut_drop (by rw [List.length_map, hl1]; omega), ← List.map_drop]
      have h10 : (qs.map fr).length ≤ 10 := by rw [List.length_map, hl1]; exact hm10
      have l10 : ∀ {n : Nat}, n ≤ 10 → n ≤ sizeLine := fun h => Nat.le_trans h (by decide)
      have kp0 : 1 ≤ kk := by
        refine Nat.pos_of_ne_zero ?_
        rintro rfl
        have : (2 : Nat) ^ 0 = 1 := rfl
        omega
      have hw : 2 ^ (4 - kk) * (s + 1) ≤ 1900 := by
        refine Nat.le_trans (Nat.mul_le_mul_right _ (Nat.pow_le_pow_right (by decide) (show 4 - kk ≤ 3 by omega))) ?_
        omega
      refine i_lcv ?_
      refine i_zip2 ?_
      refine i_cons ?_
      refine i_slL (by repeat constructor) (by rw [pick_ev _ h10]; exact l10 (Nat.le_trans (ev_len _).1 h10)) ?_
      refine i_cons ?_
      refine i_slL1 (by repeat constructor) (by rw [pick_od _ h10]; exact l10 (Nat.le_trans (ev_len _).2 h10)) ?_
      refine i_nil ?_
      rw [pick_ev _ h10, pick_od _ h10, ev_map, od_map]
      refine ⟨_, _, _, _, _, _, rfl, rfl, rfl, allD_map _, allD_map _, ?_⟩
      refine lcv_ind (hb := h') (fun k acc => acc = ((((ev qs).zip (od qs)).map fun z => fr (z.1 + z.2)).take k).map D.d) (fun _ => And.intro trivial trivial) ?_ ?_ rfl
      · rintro i z acc ez rfl
        obtain ⟨p1, p2, e1, e2, rfl⟩ := zipD_get ez
        rw [List.getElem?_map, Option.map_eq_some_iff] at e1 e2
        obtain ⟨a, e1, rfl⟩ := e1
        obtain ⟨b, e2, rfl⟩ := e2
        have sa := hz a ((ev_mem qs).1 a (List.mem_of_getElem? e1))
        have sb := hz b ((ev_mem qs).2 b (List.mem_of_getElem? e2))
        refine ⟨_, true, rfl, fun P q => q, fun _ => ⟨.d (fr (a + b)), fun P q => ?_, ?_, ?_⟩, fun e => by cases e⟩
        · show fFn _ _ [_, _, _, some (.d (fr a)), some (.d (fr b))] _ _ _
          repeat' array_get_dec
          exact wp_plus sa sb (by show _ ≤ 4000; omega) q
        · have hi := (List.getElem?_eq_some_iff.1 e1).1
          have := (ev_len qs).1
          rw [List.length_map, List.length_take, List.length_map]
          exact Nat.lt_of_lt_of_le (Nat.lt_of_le_of_lt (Nat.min_le_left _ _) (show i < 11 by omega)) (by decide)
        · have ez : ((ev qs).zip (od qs))[i]? = some (a, b) := by rw [List.getElem?_zip_eq_some]; exact ⟨e1, e2⟩
          rw [List.take_succ, List.getElem?_map, ez]
          simp
      · rintro acc rfl
        rw [zipD_len, List.length_map, List.length_map, ← List.length_zip, List.take_of_length_le (by rw [List.length_map]; exact Nat.le_refl _)]
        refine ⟨_, allD_iff (allD_map _), ?_⟩
        refine i_var (by repeat constructor) ?_
        have eS : (((ev qs).zip (od qs)).map fun z => fr (z.1 + z.2)) ++ (qs.drop (m / 2 * 2)).map fr = (stp qs).map fr := by
          rw [stp_eq qs, List.map_append, List.map_map, hl1]
          rfl
        refine ⟨?_, ?_⟩
        · rw [← List.length_append, eS, List.length_map, len_stp, hl1]
          exact l10 (by omega)
        rw [eS]
        refine ⟨_, by repeat constructor, (m + 1) / 2, by omega, rfl, stp qs, _, rfl, ?_⟩
        have kp : kk ≠ 0 := by
          rintro rfl
          have : (2 : Nat) ^ 0 = 1 := rfl
          omega
        obtain ⟨j, rfl⟩ : ∃ j, kk = j + 1 := ⟨kk - 1, by omega⟩
        have p2 : 2 ^ (j + 1) = 2 * 2 ^ j := by rw [Nat.pow_succ]; omega
        refine ⟨by rw [sum_stp]; exact hs1, by rw [len_stp, hl1], by omega, by omega, j, by omega, by omega, fun q hq => (sz_stp qs hz q hq).mono ?_⟩
        have e3 : 4 - j = (4 - (j + 1)) + 1 := by omega
        rw [e3, Nat.pow_succ]
        have w1 : 0 < 2 ^ (4 - (j + 1)) * (s + 1) := Nat.mul_pos (Nat.pow_pos (by decide)) (by omega)
        rw [Nat.mul_comm (2 ^ (4 - (j + 1))) 2, Nat.mul_assoc 2]
        generalize 2 ^ (4 - (j + 1)) * (s + 1) = x at *
        omega
    · have c1 : m = 1 := by have := of_decide_eq_false c1; omega
      subst c1
      match qs, hl1 with
      | [q], _ =>
        repeat' array_get_dec
        rw [← hs1] at k
        have e1 : [q].sum = q := by rw [List.sum_cons, List.sum_nil, Rat.add_zero]
        rw [e1] at k
        exact k
theorem wp_over {a b : Rat} {h : Ho} {Q : KD} {E : XD} {n m : Nat} (hb : b ≠ 0) (sa : Sz n a) (sb : Sz m b) (hn : n + m ≤ big := by decide) (k : Q (.d (fr (a / b))) h) : M_over [.d (fr a), .d (fr b)] h Q E := by
  rw [Rat.div_def] at k
  have hz : b.num ≠ 0 := fun z => hb (Rat.num_eq_zero.1 z)
  refine i_mir rfl (by repeat constructor) (by repeat constructor) ?_
  unfold B_over
  repeat' array_get_dec
  refine i_ifF (decide_eq_false hz) ?_
  repeat' array_get_dec
  refine i_ite (fun c => ?_) (fun c => ?_)
  · have c := of_decide_eq_true c
    have e := inv_neg b c
    repeat' array_get_dec
    rw [← e]
    exact wp_times sa (sb.inv hb) hn k
  · have c := of_decide_eq_false c
    have e := inv_pos b (by omega)
    repeat' array_get_dec
    rw [← e]
    exact wp_times sa (sb.inv hb) hn k
abbrev Zp := Int × Int
abbrev zD (a : Zp) : PyData := .tuple [.int a.1, .int a.2]
def areaZ (a b c : Zp) : Int := (b.1 - a.1) * (c.2 - a.2) - (b.2 - a.2) * (c.1 - a.1)
def BdZ (n : Nat) (a : Zp) : Prop := Bd n a.1 ∧ Bd n a.2
theorem wp_area {a b c : Zp} {h : Ho} {Q : KD} {E : XD} (ha : BdZ 1000 a) (hb : BdZ 1000 b) (hc : BdZ 1000 c) (k : Q (.d (.int (areaZ a b c))) h) : M_whole_area [.d (zD a), .d (zD b), .d (zD c)] h Q E := by
  obtain ⟨a1, a2⟩ := ha
  obtain ⟨b1, b2⟩ := hb
  obtain ⟨c1, c2⟩ := hc
  refine i_mir rfl (by repeat constructor) (by repeat constructor) ?_
  unfold B_whole_area
  repeat' array_get_dec
  · decreasing_trivial_pre_omega
  · decreasing_trivial_pre_omega
  · exact k
def ptOf (b : Nat) (a : Zp) : Pt := (mkRat a.1 b, mkRat a.2 b)
def gz (L : Nat) (p : Pt) : Zp := (gr L p.1, gr L p.2)
theorem Bd.of_sz {n : Nat} {q : Rat} (s : Sz n q) : Bd n q.num := s.1
def Small (a : Zp) : Prop := Bd 60 a.1 ∧ Bd 60 a.2
theorem pt_sz {b : Nat} (hb : b ≠ 0) (hb2 : b < 2 ^ 40) {a : Zp} (ha : Small a) : Sz 60 (ptOf b a).1 ∧ Sz 60 (ptOf b a).2 :=
  ⟨.mk' hb ha.1 (Nat.lt_of_lt_of_le hb2 (by decide)), .mk' hb ha.2 (Nat.lt_of_lt_of_le hb2 (by decide))⟩
theorem den_dvd {b : Nat} (hb : b ≠ 0) (x : Int) : (mkRat x b).den ∣ b := by
  rw [Rat.den_mkRat, if_neg hb]
  exact Nat.div_dvd_of_dvd (Nat.gcd_dvd_left _ _)
theorem Lc_le {b : Nat} (hb : b ≠ 0) (as : List Zp) : Lc (as.map (ptOf b)) ∣ b := by
  refine Lc_least _ fun p hp => ?_
  obtain ⟨a, _, rfl⟩ := List.mem_map.1 hp
  exact ⟨den_dvd hb _, den_dvd hb _⟩
theorem gz_mul {b L : Nat} (hb : b ≠ 0) {a : Zp} (h : (ptOf b a).1.den ∣ L ∧ (ptOf b a).2.den ∣ L) : (gz L (ptOf b a)).1 * b = a.1 * L ∧ (gz L (ptOf b a)).2 * b = a.2 * L :=
  ⟨gr_mul h.1 hb rfl, gr_mul h.2 hb rfl⟩
theorem area_scale {A B C a b c : Zp} {β Λ : Int} (a1 : A.1 * β = a.1 * Λ) (a2 : A.2 * β = a.2 * Λ) (b1 : B.1 * β = b.1 * Λ) (b2 : B.2 * β = b.2 * Λ) (c1 : C.1 * β = c.1 * Λ) (c2 : C.2 * β = c.2 * Λ) :
    areaZ A B C * (β * β) = areaZ a b c * (Λ * Λ) := by
  have x1 : (B.1 - A.1) * β = (b.1 - a.1) * Λ := by rw [Int.sub_mul, Int.sub_mul, a1, b1]
  have x2 : (B.2 - A.2) * β = (b.2 - a.2) * Λ := by rw [Int.sub_mul, Int.sub_mul, a2, b2]
  have y1 : (C.1 - A.1) * β = (c.1 - a.1) * Λ := by rw [Int.sub_mul, Int.sub_mul, a1, c1]
  have y2 : (C.2 - A.2) * β = (c.2 - a.2) * Λ := by rw [Int.sub_mul, Int.sub_mul, a2, c2]
  unfold areaZ
  generalize B.1 - A.1 = X1 at *
  generalize B.2 - A.2 = X2 at *
  generalize C.1 - A.1 = Y1 at *
  generalize C.2 - A.2 = Y2 at *
  generalize b.1 - a.1 = x1' at *
  generalize b.2 - a.2 = x2' at *
  generalize c.1 - a.1 = y1' at *
  generalize c.2 - a.2 = y2' at *
  have e1 : (X1 * Y2 - X2 * Y1) * (β * β) = (X1 * β) * (Y2 * β) - (X2 * β) * (Y1 * β) := by grind
  rw [e1, x1, x2, y1, y2]
  grind
theorem gr_bd6 {L n m : Nat} {q : Rat} (s : Sz n q) (hL : L < 2 ^ m) : Bd (n + m) (gr L q) :=
  Bd.mul (Bd.of_sz s) (Nat.lt_of_le_of_lt (v_fdiv_le _ _) hL)
theorem wp_grid {m : Nat} (m0 : m ≠ 0) (m1 : m < 2 ^ 40) {as : List Zp} (hs : ∀ a ∈ as, Small a) (hz : as.length ≤ 100) {h : Ho} {Q : KD} {E : XD}
    (k : ∀ L : Nat, L ≠ 0 → (∀ a ∈ as, (gz L (ptOf m a)).1 * m = a.1 * L ∧ (gz L (ptOf m a)).2 * m = a.2 * L) → (∀ a ∈ as, Bd 100 (gz L (ptOf m a)).1 ∧ Bd 100 (gz L (ptOf m a)).2) → L < 2 ^ 40 → Q (.d (.tuple [.int L, .list (as.map fun a => zD (gz L (ptOf m a)))])) h) :
    M_on_grid [.d (.tuple (as.map fun a => ptD (ptOf m a)))] h Q E := by
  have hL : Lc (as.map (ptOf m)) < 2 ^ 40 := Nat.lt_of_le_of_lt (Nat.le_of_dvd (Nat.pos_of_ne_zero m0) (Lc_le m0 as)) m1
  have e1 : (as.map fun a => ptD (ptOf m a)) = (as.map (ptOf m)).map ptD := by rw [List.map_map]; rfl
  rw [e1]
  refine wp_on_grid (pts := as.map (ptOf m)) (Nat.lt_of_lt_of_le hL (Nat.pow_le_pow_right (by decide) (by decide))) (by rw [List.length_map]; exact hz) ?_ ?_
  · intro p hp
    obtain ⟨a, ha, rfl⟩ := List.mem_map.1 hp
    have := pt_sz m0 m1 (hs a ha)
    exact ⟨this.1.mono (by decide), this.2.mono (by decide)⟩
  · have k := k _ (Lc_ne (as.map (ptOf m))) (fun a ha => gz_mul m0 (Lc_den (List.mem_map.2 ⟨a, ha, rfl⟩))) (fun a ha => ⟨gr_bd6 (pt_sz m0 m1 (hs a ha)).1 hL, gr_bd6 (pt_sz m0 m1 (hs a ha)).2 hL⟩) hL
    have e2 : (as.map (ptOf m)).map (grD (Lc (as.map (ptOf m)))) = as.map fun a => zD (gz (Lc (as.map (ptOf m))) (ptOf m a)) := by rw [List.map_map]; rfl
    rw [e2]
    exact k
theorem bz_of {z : Zp} (h : Bd 100 z.1 ∧ Bd 100 z.2) : BdZ 1000 z := ⟨h.1.mono (by decide), h.2.mono (by decide)⟩
theorem mk_sq {m L : Nat} (hm : m ≠ 0) (hL : L ≠ 0) {x y : Int} (e : x * ((m : Int) * m) = y * ((L : Int) * L)) : mkRat x (L * L) = mkRat y (m * m) := by
  rw [Rat.mkRat_eq_iff (Nat.mul_ne_zero hL hL) (Nat.mul_ne_zero hm hm), Int.natCast_mul, Int.natCast_mul]
  exact e
section
variable {m : Nat} (m0 : m ≠ 0) (m1 : m < 2 ^ 40) {a b c : Zp} (sa : Small a) (sb : Small b) (sc : Small c) {h : Ho} {Q : KD} {E : XD}
include m0 m1 sa sb sc
theorem wp_darea (k : Q (.d (fr (mkRat (areaZ a b c) (m * m)))) h) : M_doubled_area [.d (ptD (ptOf m a)), .d (ptD (ptOf m b)), .d (ptD (ptOf m c))] h Q E := by
  refine i_mir rfl (by repeat constructor) (by repeat constructor) ?_
  unfold B_doubled_area
  repeat' array_get_dec
  refine i_asgG ?_
  repeat' array_get_dec
  refine wp_grid (as := [a, b, c]) m0 m1 (by simp [sa, sb, sc]) (by simp) fun L hL eg bz hl => ?_
  have ga := eg a (by simp)
  have gb := eg b (by simp)
  have gc := eg c (by simp)
  refine ⟨[some (.d (ptD (ptOf m a))), some (.d (ptD (ptOf m b))), some (.d (ptD (ptOf m c))), some (.d (.int L)), some (.d (zD (gz L (ptOf m a)))), some (.d (zD (gz L (ptOf m b)))), some (.d (zD (gz L (ptOf m c))))], rfl, ?_⟩
  repeat' array_get_dec
  refine wp_area (bz_of (bz a (by simp))) (bz_of (bz b (by simp))) (bz_of (bz c (by simp))) ?_
  have bl : Bd 40 (L : Int) := by show (L : Int).natAbs < _; rw [nab]; exact hl
  repeat' array_get_dec
  · exact cmB bl bl (by decide)
  rw [show (L : Int) * L = ((L * L : Nat) : Int) by rw [Int.natCast_mul]]
  refine wp_fraction (n := 100) (Nat.mul_ne_zero hL hL) (Nat.lt_of_lt_of_le (mul_lt_pow hl hl) (Nat.pow_le_pow_right (by decide) (by decide))) (by decide) (by decide) ?_
  rw [mk_sq m0 hL (area_scale ga.1 ga.2 gb.1 gb.2 gc.1 gc.2)]
  exact k
end
end LW
set_option Elab.async false
set_option linter.all false
set_option maxRecDepth 100000
set_option maxHeartbeats 40000000
namespace LW
open PySem PySem.Spec PyProof.Rows L2 V2
local macro_rules | `(tactic| array_get_dec) => `(tactic| with_reducible refine i_go (by assumption) ?_)
local macro_rules | `(tactic| array_get_dec) => `(tactic| with_reducible refine i_next ?_)
local macro_rules | `(tactic| array_get_dec) => `(tactic| with_reducible refine i_idxT ?_)
local macro_rules | `(tactic| array_get_dec) => `(tactic| with_reducible refine i_unT ?_)
local macro_rules | `(tactic| array_get_dec) => `(tactic| with_reducible refine i_make2 ?_)
local macro_rules | `(tactic| array_get_dec) => `(tactic| with_reducible refine fld1 (by with_unfolding_all exact rfl) ?_)
local macro_rules | `(tactic| array_get_dec) => `(tactic| with_reducible refine i_fld ?_)
local macro_rules | `(tactic| array_get_dec) => `(tactic| with_reducible refine i_isr2 ?_)
local macro_rules | `(tactic| array_get_dec) => `(tactic| with_reducible refine i_range2 ?_)
local macro_rules | `(tactic| array_get_dec) => `(tactic| with_reducible refine i_range1 ?_)
local macro_rules | `(tactic| array_get_dec) => `(tactic| with_reducible refine i_for ?_)
local macro_rules | `(tactic| array_get_dec) => `(tactic| with_reducible refine i_brk ?_)
local macro_rules | `(tactic| array_get_dec) => `(tactic| with_reducible refine i_zip2 ?_)
local macro_rules | `(tactic| array_get_dec) => `(tactic| with_reducible refine i_enum1 ?_)
local macro_rules | `(tactic| array_get_dec) => `(tactic| with_reducible refine i_one ?_)
local macro_rules | `(tactic| array_get_dec) => `(tactic| with_reducible refine i_raise ?_)
local macro_rules | `(tactic| array_get_dec) => `(tactic| with_reducible refine i_sub ?_)
local macro_rules | `(tactic| array_get_dec) => `(tactic| with_reducible refine i_append ?_)
local macro_rules | `(tactic| array_get_dec) => `(tactic| with_reducible refine i_pop ?_)
local macro_rules | `(tactic| array_get_dec) => `(tactic| with_reducible refine i_drop ?_)
local macro_rules | `(tactic| array_get_dec) => `(tactic| with_reducible refine i_len (by with_unfolding_all exact rfl) ?_)
local macro_rules | `(tactic| array_get_dec) => `(tactic| with_reducible refine i_notN ?_)
local macro_rules | `(tactic| array_get_dec) => `(tactic| with_reducible refine i_isN ?_)
local macro_rules | `(tactic| array_get_dec) => `(tactic| with_reducible refine i_min2 ?_)
local macro_rules | `(tactic| array_get_dec) => `(tactic| with_reducible refine i_max2 ?_)
local macro_rules | `(tactic| array_get_dec) => `(tactic| with_reducible refine i_chain ?_)
local macro_rules | `(tactic| array_get_dec) => `(tactic| with_reducible refine i_lcm3 ?_ ?_)
local macro_rules | `(tactic| array_get_dec) => `(tactic| with_reducible refine i_gcd ?_)
local macro_rules | `(tactic| array_get_dec) => `(tactic| with_reducible refine i_toint ?_)
local macro_rules | `(tactic| array_get_dec) => `(tactic| with_reducible refine i_abs ?_)
local macro_rules | `(tactic| array_get_dec) => `(tactic| with_reducible refine i_pk4 ?_)
local macro_rules | `(tactic| array_get_dec) => `(tactic| with_reducible refine i_pk3 ?_)
local macro_rules | `(tactic| array_get_dec) => `(tactic| with_reducible refine i_pk2 ?_)
local macro_rules | `(tactic| array_get_dec) => `(tactic| with_reducible refine i_pk1 ?_)
local macro_rules | `(tactic| array_get_dec) => `(tactic| with_reducible refine i_fnk ?_)
local macro_rules | `(tactic| array_get_dec) => `(tactic| with_reducible refine i_fn ?_)
local macro_rules | `(tactic| array_get_dec) => `(tactic| with_reducible refine i_call ?_)
local macro_rules | `(tactic| array_get_dec) => `(tactic| with_reducible refine i_ix (by with_unfolding_all exact rfl) (by with_unfolding_all exact rfl) ?_)
local macro_rules | `(tactic| array_get_dec) => `(tactic| with_reducible refine i_ix (by assumption) (by with_unfolding_all exact rfl) ?_)
local macro_rules | `(tactic| array_get_dec) => `(tactic| with_reducible refine i_all (by repeat constructor) (by with_unfolding_all exact Nat.le_of_ble_eq_true rfl) ?_)
local macro_rules | `(tactic| array_get_dec) => `(tactic| with_reducible refine i_lst ?_)
local macro_rules | `(tactic| array_get_dec) => `(tactic| with_reducible refine i_tup ?_)
local macro_rules | `(tactic| array_get_dec) => `(tactic| with_reducible refine i_zipL ?_)
local macro_rules | `(tactic| array_get_dec) => `(tactic| with_reducible refine i_slP ?_)
local macro_rules | `(tactic| array_get_dec) => `(tactic| with_reducible refine i_subB ?_)
local macro_rules | `(tactic| array_get_dec) => `(tactic| with_reducible refine i_notB ?_)
local macro_rules | `(tactic| array_get_dec) => `(tactic| with_reducible refine i_minT2 ?_)
local macro_rules | `(tactic| array_get_dec) => `(tactic| with_reducible refine i_maxT2 ?_)
local macro_rules | `(tactic| array_get_dec) => `(tactic| with_reducible refine i_listT ?_)
local macro_rules | `(tactic| array_get_dec) => `(tactic| with_reducible refine i_tupL ?_)
local macro_rules | `(tactic| array_get_dec) => `(tactic| with_reducible refine rvL ?_)
local macro_rules | `(tactic| array_get_dec) => `(tactic| with_reducible refine i_rev ?_)
local macro_rules | `(tactic| array_get_dec) => `(tactic| with_reducible refine slL ?_)
local macro_rules | `(tactic| array_get_dec) => `(tactic| with_reducible refine slT ?_)
local macro_rules | `(tactic| array_get_dec) => `(tactic| with_reducible refine i_oS ?_)
local macro_rules | `(tactic| array_get_dec) => `(tactic| with_reducible refine i_oN ?_)
local macro_rules | `(tactic| array_get_dec) => `(tactic| with_reducible refine i_slG ?_)
local macro_rules | `(tactic| array_get_dec) => `(tactic| with_reducible refine i_fnotG ?_)
local macro_rules | `(tactic| array_get_dec) => `(tactic| with_reducible refine i_forG ?_)
local macro_rules | `(tactic| array_get_dec) => `(tactic| with_reducible refine i_fand ?_)
local macro_rules | `(tactic| array_get_dec) => `(tactic| with_reducible refine i_fif ?_)
local macro_rules | `(tactic| array_get_dec) => `(tactic| with_reducible refine i_not2 ?_)
local macro_rules | `(tactic| array_get_dec) => `(tactic| with_reducible refine i_or2 ?_)
local macro_rules | `(tactic| array_get_dec) => `(tactic| with_reducible refine i_and2 ?_)
local macro_rules | `(tactic| array_get_dec) => `(tactic| with_reducible refine i_isr ?_)
local macro_rules | `(tactic| array_get_dec) => `(tactic| with_reducible refine i_isi ?_)
local macro_rules | `(tactic| array_get_dec) => `(tactic| with_reducible refine i_isb ?_)
local macro_rules | `(tactic| array_get_dec) => `(tactic| with_reducible refine i_val ?_)
local macro_rules | `(tactic| array_get_dec) => `(tactic| with_reducible refine i_un ?_)
local macro_rules | `(tactic| array_get_dec) => `(tactic| with_reducible refine i_nes ?_)
local macro_rules | `(tactic| array_get_dec) => `(tactic| with_reducible refine i_nesr ?_)
local macro_rules | `(tactic| array_get_dec) => `(tactic| with_reducible refine i_eqs ?_)
local macro_rules | `(tactic| array_get_dec) => `(tactic| with_reducible refine i_eqsr ?_)
local macro_rules | `(tactic| array_get_dec) => `(tactic| with_reducible refine i_nei ?_)
local macro_rules | `(tactic| array_get_dec) => `(tactic| with_reducible refine i_eqi ?_)
local macro_rules | `(tactic| array_get_dec) => `(tactic| with_reducible refine i_add ?_)
local macro_rules | `(tactic| array_get_dec) => `(tactic| with_reducible refine i_ints ?_ ?_)
local macro_rules | `(tactic| array_get_dec) => `(tactic| with_reducible refine i_ints0 ?_)
local macro_rules | `(tactic| array_get_dec) => `(tactic| with_reducible refine i_bin ?_)
local macro_rules | `(tactic| array_get_dec) => `(tactic| with_reducible refine i_nil ?_)
local macro_rules | `(tactic| array_get_dec) => `(tactic| with_reducible refine i_cons ?_)
local macro_rules | `(tactic| array_get_dec) => `(tactic| with_reducible refine i_c ?_)
local macro_rules | `(tactic| array_get_dec) => `(tactic| with_reducible refine i_var (by repeat constructor) ?_)
local macro_rules | `(tactic| array_get_dec) => `(tactic| with_reducible refine i_if ?_)
local macro_rules | `(tactic| array_get_dec) => `(tactic| with_reducible refine i_ret ?_)
local macro_rules | `(tactic| array_get_dec) => `(tactic| with_reducible refine i_trip (by repeat constructor) (by repeat constructor) (by repeat constructor) ?_)
local macro_rules | `(tactic| array_get_dec) => `(tactic| with_reducible refine i_par3 ?_ (by with_unfolding_all exact Nat.le_of_ble_eq_true rfl) (by with_unfolding_all exact Nat.le_of_ble_eq_true rfl) (by with_unfolding_all exact Nat.le_of_ble_eq_true rfl))
local macro_rules | `(tactic| array_get_dec) => `(tactic| with_reducible refine i_pair (by repeat constructor) (by repeat constructor) ?_)
local macro_rules | `(tactic| array_get_dec) => `(tactic| with_reducible refine i_par ?_ (by with_unfolding_all exact Nat.le_of_ble_eq_true rfl) (by with_unfolding_all exact Nat.le_of_ble_eq_true rfl))
local macro_rules | `(tactic| array_get_dec) => `(tactic| with_reducible refine i_set (by repeat constructor) ?_)
local macro_rules | `(tactic| array_get_dec) => `(tactic| with_reducible refine i_asgn ?_ (by with_unfolding_all exact Nat.le_of_ble_eq_true rfl))
local macro_rules | `(tactic| array_get_dec) => `(tactic| with_reducible refine i_asg2v (by repeat constructor) (by repeat constructor) (by repeat constructor) ?_)
local macro_rules | `(tactic| array_get_dec) => `(tactic| with_reducible refine i_seqg (fun _ _ => ?_))
local macro_rules
  | `(tactic| decreasing_trivial_pre_omega) => `(tactic| (apply cmB; (repeat' (first | assumption | apply Bd.add | apply Bd.sub | apply Bd.mul | apply Bd.neg)); decide))
theorem at_nat {xs : List D} {i : Nat} {y : D} (e : xs[i]? = some y) : L2.atI xs (i : Int) = some y := by
  have hl := (List.getElem?_eq_some_iff.1 e).1
  unfold L2.atI ixN
  rw [if_pos (by omega), if_pos (by omega)]
  simpa using e
abbrev Tr := Nat × Nat × Nat
abbrev t3 (t : Tr) : PyData := .tuple [.int (t.1 : Nat), .int (t.2.1 : Nat), .int (t.2.2 : Nat)]
abbrev meshD (P : List Pt) (T : List Tr) : D := .ob "Mesh" [("points", .tuple (P.map ptD)), ("triangles", .tuple (T.map t3))]
theorem get_map {α : Type} {f : α → PyData} {l : List α} {i : Nat} {x : α} (e : l[i]? = some x) : L2.atI ((l.map f).map D.d) (i : Int) = some (.d (f x)) := at_nat (by rw [List.getElem?_map, List.getElem?_map, e]; rfl)
section
variable {P : List Pt} {T : List Tr} {k a b c : Nat} {p q r : Pt} {h : Ho} {Q : KD} {E : XD}
theorem wp_corners (hk : T[k]? = some (a, b, c)) (hp : P[a]? = some p) (hq : P[b]? = some q) (hr : P[c]? = some r) (k1 : Q (.d (.tuple [ptD p, ptD q, ptD r])) h) : M__corners [meshD P T, .d (.int (k : Nat))] h Q E := by
  refine i_mir rfl (by repeat constructor) (by repeat constructor) ?_
  unfold B__corners
  array_get_dec
  refine i_asgG ?_
  repeat' array_get_dec
  refine i_ix rfl (get_map hk) ?_
  refine ⟨[some (meshD P T), some (.d (.int (k : Nat))), some (.d (.int (a : Nat))), some (.d (.int (b : Nat))), some (.d (.int (c : Nat)))], rfl, ?_⟩
  repeat' array_get_dec
  refine i_ix rfl (get_map hp) ?_
  repeat' array_get_dec
  refine i_ix rfl (get_map hq) ?_
  repeat' array_get_dec
  refine i_ix rfl (get_map hr) ?_
  repeat' array_get_dec
  exact k1
theorem wp_wedge {x y z w : Rat} {n m i j : Nat} (sx : Sz n x) (sy : Sz m y) (sz : Sz i z) (sw : Sz j w) (hb : n + j + (m + i) ≤ big) (k1 : Q (.d (fr (x * w - y * z))) h) : M_wedge [.d (.tuple [fr x, fr y]), .d (.tuple [fr z, fr w])] h Q E := by
  refine i_mir rfl (by repeat constructor) (by repeat constructor) ?_
  unfold B_wedge
  repeat' array_get_dec
  refine wp_times sx sw (by omega) ?_
  repeat' array_get_dec
  refine wp_times sy sz (by omega) ?_
  repeat' array_get_dec
  refine wp_minus (sx.mul sw) (sy.mul sz) (by omega) ?_
  repeat' array_get_dec
  exact k1
end
/-- a spot of the law over a bottom -/
structure Nr (m : Nat) (a : Zp) : Prop where
  x : a.1.natAbs < 2 ^ 12
  y : a.2.natAbs < 2 ^ 12
theorem Nr.small {m : Nat} {a : Zp} (h : Nr m a) : Small a := ⟨Nat.lt_of_lt_of_le h.x (by decide), Nat.lt_of_lt_of_le h.y (by decide)⟩
theorem Nr.sz {m : Nat} {a : Zp} (h : Nr m a) (m0 : m ≠ 0) (m1 : m < 2 ^ 7) : Sz 12 (ptOf m a).1 ∧ Sz 12 (ptOf m a).2 :=
  ⟨.mk' m0 h.x (Nat.lt_of_lt_of_le m1 (by decide)), .mk' m0 h.y (Nat.lt_of_lt_of_le m1 (by decide))⟩
def arR (m : Nat) (a b c : Zp) : Rat := mkRat (areaZ a b c) (m * m)
theorem ar_sz {m : Nat} {a b c : Zp} (m0 : m ≠ 0) (m1 : m < 2 ^ 7) (ha : Nr m a) (hb : Nr m b) (hc : Nr m c) : Sz 28 (arR m a b c) := by
  have B : ∀ {z : Zp}, Nr m z → Bd 12 z.1 ∧ Bd 12 z.2 := fun h => ⟨h.x, h.y⟩
  have h1 : Bd 27 (areaZ a b c) := (((B hb).1.sub (B ha).1).mul ((B hc).2.sub (B ha).2)).sub (((B hb).2.sub (B ha).2).mul ((B hc).1.sub (B ha).1))
  refine .mk' (Nat.mul_ne_zero m0 m0) (Nat.lt_of_lt_of_le h1 (by decide)) ?_
  have : m * m < 2 ^ 7 * 2 ^ 7 := Nat.mul_lt_mul'' m1 m1
  exact Nat.lt_of_lt_of_le this (by decide)
theorem ar_ne {m : Nat} {a b c : Zp} (m0 : m ≠ 0) (h : areaZ a b c ≠ 0) : arR m a b c ≠ 0 := by
  intro e
  unfold arR at e
  rw [Rat.mkRat_eq_zero (Nat.mul_ne_zero m0 m0)] at e
  exact h e
theorem allD_of (xs : List PyData) : AllD (xs.map D.d) xs := by
  induction xs with
  | nil => exact .nil
  | cons a l ih => exact .cons ih
section
variable {S : List Zp} {T : List Tr} {F : List Rat} {m k a b c : Nat} {A B C : Zp} {u v w : Rat} {h : Ho} {Q : KD} {E : XD}
def slR (m : Nat) (A B C : Zp) (u v w : Rat) : Rat := ((v - u) * ((ptOf m C).2 - (ptOf m A).2) - (w - u) * ((ptOf m B).2 - (ptOf m A).2)) / arR m A B C
def slU (m : Nat) (A B C : Zp) (u v w : Rat) : Rat := (((ptOf m B).1 - (ptOf m A).1) * (w - u) - ((ptOf m C).1 - (ptOf m A).1) * (v - u)) / arR m A B C
theorem sl_sz (m0 : m ≠ 0) (m1 : m < 2 ^ 7) (nA : Nr m A) (nB : Nr m B) (nC : Nr m C) (su : Sz 14 u) (sv : Sz 14 v) (sw : Sz 14 w) (ar : areaZ A B C ≠ 0) : Sz 140 (slR m A B C u v w) ∧ Sz 140 (slU m A B C u v w) := by
  obtain ⟨a1, a2⟩ := nA.sz m0 m1
  obtain ⟨b1, b2⟩ := nB.sz m0 m1
  obtain ⟨c1, c2⟩ := nC.sz m0 m1
  have hz := ar_ne (m := m) m0 ar
  have sr := ar_sz m0 m1 nA nB nC
  exact ⟨((((sv.sub su).mul (c2.sub a2)).sub ((sw.sub su).mul (b2.sub a2))).div sr hz).mono (by decide), ((((b1.sub a1).mul (sw.sub su)).sub ((c1.sub a1).mul (sv.sub su))).div sr hz).mono (by decide)⟩
theorem wp_slope (m0 : m ≠ 0) (m1 : m < 2 ^ 7) (hk : T[k]? = some (a, b, c)) (hA : S[a]? = some A) (hB : S[b]? = some B) (hC : S[c]? = some C) (hu : F[a]? = some u) (hv : F[b]? = some v) (hw : F[c]? = some w)
    (nA : Nr m A) (nB : Nr m B) (nC : Nr m C) (su : Sz 50 u) (sv : Sz 50 v) (sw : Sz 50 w) (ar : areaZ A B C ≠ 0)
    (k1 : Q (.d (.tuple [fr (slR m A B C u v w), fr (slU m A B C u v w)])) h) : M_slope [meshD (S.map (ptOf m)) T, .d (.int (k : Nat)), .d (.tuple (F.map fr))] h Q E := by
  obtain ⟨a1, a2⟩ := nA.sz m0 m1
  obtain ⟨b1, b2⟩ := nB.sz m0 m1
  obtain ⟨c1, c2⟩ := nC.sz m0 m1
  have hz := ar_ne (m := m) m0 ar
  have sr := ar_sz m0 m1 nA nB nC
  have pA : (S.map (ptOf m))[a]? = some (ptOf m A) := by rw [List.getElem?_map, hA]; rfl
  have pB : (S.map (ptOf m))[b]? = some (ptOf m B) := by rw [List.getElem?_map, hB]; rfl
  have pC : (S.map (ptOf m))[c]? = some (ptOf m C) := by rw [List.getElem?_map, hC]; rfl
  refine i_mir rfl (by repeat constructor) (by repeat constructor) ?_
  unfold B_slope
  array_get_dec
  refine i_asgG ?_
  repeat' array_get_dec
  refine wp_corners hk pA pB pC ?_
  refine ⟨[some (meshD (S.map (ptOf m)) T), some (.d (.int (k : Nat))), some (.d (.tuple (F.map fr))), some (.d (ptD (ptOf m A))), some (.d (ptD (ptOf m B))), some (.d (ptD (ptOf m C))), none, none, none, none, none, none, none], rfl, ?_⟩
  array_get_dec
  array_get_dec
  array_get_dec
  refine i_lcv ?_
  refine i_iseqG ?_
  repeat' array_get_dec
  refine i_ix rfl (get_map hk) ?_
  refine ⟨_, rfl, ?_⟩
  refine lcv_ind (hb := h) (fun k acc => acc = (([u, v, w].take k).map fr).map D.d) (fun _ => trivial) ?_ ?_ rfl
  · rintro i z acc ez rfl
    have key : ∀ (j : Nat) (q : Rat), F[j]? = some q → z = .d (.int (j : Nat)) → [u, v, w].take (i + 1) = [u, v, w].take i ++ [q] → i < 3 → ∃ ρ1 b, gNm 7 z (h ++ [O.lst ((([u, v, w].take i).map fr).map D.d)]) [some (meshD (S.map (ptOf m)) T), some (.d (.int (k : Nat))), some (.d (.tuple (F.map fr))), some (.d (ptD (ptOf m A))), some (.d (ptD (ptOf m B))), some (.d (ptD (ptOf m C))), none, none, none, none, none, none, none] = some ρ1 ∧
        (∀ P : Bool → Ho → Prop, P b (h ++ [O.lst ((([u, v, w].take i).map fr).map D.d)]) → tTrue ρ1 (h ++ [O.lst ((([u, v, w].take i).map fr).map D.d)]) P noX) ∧
        (b = true → ∃ y, (∀ P : KD, P y (h ++ [O.lst ((([u, v, w].take i).map fr).map D.d)]) → fBin rIx2 (fVar 2) (fVar 7) ρ1 (h ++ [O.lst ((([u, v, w].take i).map fr).map D.d)]) P noX) ∧ ((([u, v, w].take i).map fr).map D.d).length < sizeLine ∧ (([u, v, w].take i).map fr).map D.d ++ [y] = (([u, v, w].take (i + 1)).map fr).map D.d) ∧ (b = false → (([u, v, w].take i).map fr).map D.d = (([u, v, w].take (i + 1)).map fr).map D.d) := by
      rintro j q hj rfl et hi
      refine ⟨_, true, rfl, fun P q => q, fun _ => ⟨.d (fr q), fun P qq => ?_, ?_, ?_⟩, fun e => by cases e⟩
      · show fBin rIx2 (fVar 2) (fVar 7) [some (meshD (S.map (ptOf m)) T), some (.d (.int (k : Nat))), some (.d (.tuple (F.map fr))), some (.d (ptD (ptOf m A))), some (.d (ptD (ptOf m B))), some (.d (ptD (ptOf m C))), none, some (.d (.int (j : Nat))), none, none, none, none, none] _ _ _
        repeat' array_get_dec
        refine i_ix rfl (get_map hj) ?_
        exact qq
      · rw [List.length_map, List.length_map, List.length_take]
        show min i 3 < 2 ^ 24
        omega
      · rw [et, List.map_append, List.map_append]
        rfl
    match i, ez with
    | 0, ez => cases ez; exact key a u hu rfl rfl (by decide)
    | 1, ez => cases ez; exact key b v hv rfl rfl (by decide)
    | 2, ez => cases ez; exact key c w hw rfl rfl (by decide)
    | n + 3, ez => simp at ez
  · rintro acc rfl
    refine ⟨_, allD_of _, ?_⟩
    repeat' array_get_dec
    refine wp_minus sv su (by decide) ?_
    repeat' array_get_dec
    refine wp_minus sw su (by decide) ?_
    repeat' array_get_dec
    refine wp_minus b2 a2 (by decide) ?_
    repeat' array_get_dec
    refine wp_minus c2 a2 (by decide) ?_
    repeat' array_get_dec
    refine wp_wedge (sv.sub su) (sw.sub su) (b2.sub a2) (c2.sub a2) (by decide) ?_
    repeat' array_get_dec
    refine wp_minus b1 a1 (by decide) ?_
    repeat' array_get_dec
    refine wp_minus c1 a1 (by decide) ?_
    repeat' array_get_dec
    refine wp_wedge (b1.sub a1) (c1.sub a1) (sv.sub su) (sw.sub su) (by decide) ?_
    repeat' array_get_dec
    refine wp_darea m0 (Nat.lt_of_lt_of_le m1 (by decide)) nA.small nB.small nC.small ?_
    repeat' array_get_dec
    refine wp_over hz ((((sv.sub su).mul (c2.sub a2)).sub ((sw.sub su).mul (b2.sub a2)))) sr (by decide) ?_
    repeat' array_get_dec
    refine wp_over hz ((((b1.sub a1).mul (sw.sub su)).sub ((c1.sub a1).mul (sv.sub su)))) sr (by decide) ?_
    repeat' array_get_dec
    exact k1
end
section
variable {S : List Zp} {T : List Tr} {F : List Rat} {m k a b c : Nat} {A B C : Zp} {u v w : Rat} {h : Ho} {Q : KD} {E : XD}
def enR (m : Nat) (A B C : Zp) (u v w : Rat) : Rat := mkRat 1 4 * ((slR m A B C u v w * slR m A B C u v w + slU m A B C u v w * slU m A B C u v w) * arR m A B C)
theorem en_sz (m0 : m ≠ 0) (m1 : m < 2 ^ 7) (nA : Nr m A) (nB : Nr m B) (nC : Nr m C) (su : Sz 14 u) (sv : Sz 14 v) (sw : Sz 14 w) (ar : areaZ A B C ≠ 0) : Sz 800 (enR m A B C u v w) := by
  obtain ⟨s1, s2⟩ := sl_sz m0 m1 nA nB nC su sv sw ar
  have sr := ar_sz m0 m1 nA nB nC
  have s4 : Sz 3 (mkRat 1 4) := .mk' (by decide) (by decide) (by decide)
  exact (s4.mul (((s1.mul s1).add (s2.mul s2)).mul sr)).mono (by decide)
theorem wp_energyT (m0 : m ≠ 0) (m1 : m < 2 ^ 7) (hk : T[k]? = some (a, b, c)) (hA : S[a]? = some A) (hB : S[b]? = some B) (hC : S[c]? = some C) (hu : F[a]? = some u) (hv : F[b]? = some v) (hw : F[c]? = some w)
    (nA : Nr m A) (nB : Nr m B) (nC : Nr m C) (su : Sz 14 u) (sv : Sz 14 v) (sw : Sz 14 w) (ar : areaZ A B C ≠ 0)
    (k1 : Q (.d (fr (enR m A B C u v w))) h) : M_triangle_energy [meshD (S.map (ptOf m)) T, .d (.int (k : Nat)), .d (.tuple (F.map fr))] h Q E := by
  obtain ⟨s1, s2⟩ := sl_sz m0 m1 nA nB nC su sv sw ar
  have sr := ar_sz m0 m1 nA nB nC
  have s4 : Sz 3 (mkRat 1 4) := .mk' (by decide) (by decide) (by decide)
  have pA : (S.map (ptOf m))[a]? = some (ptOf m A) := by rw [List.getElem?_map, hA]; rfl
  have pB : (S.map (ptOf m))[b]? = some (ptOf m B) := by rw [List.getElem?_map, hB]; rfl
  have pC : (S.map (ptOf m))[c]? = some (ptOf m C) := by rw [List.getElem?_map, hC]; rfl
  refine i_mir rfl (by repeat constructor) (by repeat constructor) ?_
  unfold B_triangle_energy
  array_get_dec
  refine i_asgG ?_
  repeat' array_get_dec
  refine wp_slope m0 m1 hk hA hB hC hu hv hw nA nB nC (su.mono (by decide)) (sv.mono (by decide)) (sw.mono (by decide)) ar ?_
  refine ⟨[some (meshD (S.map (ptOf m)) T), some (.d (.int (k : Nat))), some (.d (.tuple (F.map fr))), some (.d (fr (slR m A B C u v w))), some (.d (fr (slU m A B C u v w))), none, none, none], rfl, ?_⟩
  array_get_dec
  array_get_dec
  refine i_asgG ?_
  repeat' array_get_dec
  refine wp_corners hk pA pB pC ?_
  refine ⟨[some (meshD (S.map (ptOf m)) T), some (.d (.int (k : Nat))), some (.d (.tuple (F.map fr))), some (.d (fr (slR m A B C u v w))), some (.d (fr (slU m A B C u v w))), some (.d (ptD (ptOf m A))), some (.d (ptD (ptOf m B))), some (.d (ptD (ptOf m C)))], rfl, ?_⟩
  array_get_dec
  array_get_dec
  array_get_dec
  array_get_dec
  array_get_dec
  array_get_dec
  array_get_dec
  array_get_dec
  array_get_dec
  array_get_dec
  refine wp_fraction (p := 1) (q := 4) (n := 4) (by decide) (by decide) (by decide) (by decide) ?_
  repeat' array_get_dec
  refine wp_times s1 s1 (by decide) ?_
  repeat' array_get_dec
  refine wp_times s2 s2 (by decide) ?_
  repeat' array_get_dec
  refine wp_plus (s1.mul s1) (s2.mul s2) (by decide) ?_
  repeat' array_get_dec
  refine wp_darea m0 (Nat.lt_of_lt_of_le m1 (by decide)) nA.small nB.small nC.small ?_
  repeat' array_get_dec
  refine wp_times ((s1.mul s1).add (s2.mul s2)) sr (by decide) ?_
  repeat' array_get_dec
  refine wp_times s4 (((s1.mul s1).add (s2.mul s2)).mul sr) (by decide) ?_
  repeat' array_get_dec
  exact k1
/-- a field that is linear all over -/
def linR (m : Nat) (s r u : Rat) (a : Zp) : Rat := s + (r * (ptOf m a).1 + u * (ptOf m a).2)
theorem lin_sz {s r u : Rat} (m0 : m ≠ 0) (m1 : m < 2 ^ 7) (nA : Nr m A) (ss : Sz 6 s) (sr : Sz 6 r) (su : Sz 6 u) : Sz 50 (linR m s r u A) := by
  obtain ⟨a1, a2⟩ := nA.sz m0 m1
  exact (ss.add ((sr.mul a1).add (su.mul a2))).mono (by decide)
theorem wp_linear {s r u : Rat} (m0 : m ≠ 0) (m1 : m < 2 ^ 7) (nS : ∀ a ∈ S, Nr m a) (hl : S.length ≤ 1000) (ss : Sz 6 s) (sr : Sz 6 r) (su : Sz 6 u)
    (k1 : Q (.d (.tuple ((S.map (linR m s r u)).map fr))) h) : M_linear_field [meshD (S.map (ptOf m)) T, .d (fr s), .d (fr r), .d (fr u)] h Q E := by
  refine i_mir rfl (by repeat constructor) (by repeat constructor) ?_
  unfold B_linear_field
  array_get_dec
  array_get_dec
  array_get_dec
  refine i_lcv ?_
  refine i_iseqG ?_
  repeat' array_get_dec
  refine ⟨_, rfl, ?_⟩
  refine lcv_ind (hb := h) (fun k acc => acc = (((S.take k).map (linR m s r u)).map fr).map D.d) (fun _ => trivial) ?_ ?_ rfl
  · rintro i z acc ez rfl
    rw [List.getElem?_map, List.getElem?_map, List.getElem?_map, Option.map_map, Option.map_map, Option.map_eq_some_iff] at ez
    obtain ⟨a, ea, rfl⟩ := ez
    have na := nS a (List.mem_of_getElem? ea)
    obtain ⟨a1, a2⟩ := na.sz m0 m1
    refine ⟨_, true, rfl, fun P q => q, fun _ => ⟨.d (fr (linR m s r u a)), fun P qq => ?_, ?_, ?_⟩, fun e => by cases e⟩
    · show fFn M_total_of _ [some (meshD (S.map (ptOf m)) T), some (.d (fr s)), some (.d (fr r)), some (.d (fr u)), some (.d (fr (ptOf m a).1)), some (.d (fr (ptOf m a).2))] _ _ _
      repeat' array_get_dec
      refine wp_times sr a1 (by decide) ?_
      repeat' array_get_dec
      refine wp_times su a2 (by decide) ?_
      repeat' array_get_dec
      refine wp_total (xs := [s, r * (ptOf m a).1, u * (ptOf m a).2]) (s := 20) (.inr rfl) (Nat.le_of_ble_eq_true rfl) (fun q hq => ?_) (by decide) ?_
      · simp only [List.mem_cons, List.not_mem_nil, or_false] at hq
        rcases hq with rfl | rfl | rfl
        · exact ss.mono (by decide)
        · exact (sr.mul a1).mono (by decide)
        · exact (su.mul a2).mono (by decide)
      · have e : [s, r * (ptOf m a).1, u * (ptOf m a).2].sum = linR m s r u a := by
          unfold linR
          simp [Rat.add_zero]
        rw [e]
        exact qq
    · simp only [List.length_map, List.length_take]
      show min i S.length < 2 ^ 24
      omega
    · rw [List.take_add_one, ea]
      simp
  · rintro acc rfl
    rw [List.length_map, List.length_map, List.length_map, List.take_length]
    refine ⟨_, allD_of _, ?_⟩
    repeat' array_get_dec
    exact k1
end
/-! the slope tells how the worths differ -/
def X (m : Nat) (a : Zp) : Rat := (ptOf m a).1
theorem ar_eq {m : Nat} (m0 : m ≠ 0) (A B C : Zp) : arR m A B C = ((ptOf m B).1 - (ptOf m A).1) * ((ptOf m C).2 - (ptOf m A).2) - ((ptOf m B).2 - (ptOf m A).2) * ((ptOf m C).1 - (ptOf m A).1) := by
  unfold arR ptOf areaZ
  simp only [Rat.mkRat_eq_div]
  have hm : (m : Rat) ≠ 0 := by exact_mod_cast m0
  simp only [Rat.intCast_sub, Rat.intCast_mul, Rat.natCast_mul]
  grind
theorem rise {x1 y1 x2 y2 x3 y3 u v w D : Rat} (hD : D = (x2 - x1) * (y3 - y1) - (y2 - y1) * (x3 - x1)) (h0 : D ≠ 0) :
    ((v - u) * (y3 - y1) - (w - u) * (y2 - y1)) / D * (x2 - x1) + ((x2 - x1) * (w - u) - (x3 - x1) * (v - u)) / D * (y2 - y1) = v - u := by
  grind
theorem rise3 {x1 y1 x2 y2 x3 y3 u v w D : Rat} (hD : D = (x2 - x1) * (y3 - y1) - (y2 - y1) * (x3 - x1)) (h0 : D ≠ 0) :
    ((v - u) * (y3 - y1) - (w - u) * (y2 - y1)) / D * (x3 - x1) + ((x2 - x1) * (w - u) - (x3 - x1) * (v - u)) / D * (y3 - y1) = w - u := by
  grind
theorem range_get {n k : Nat} {x : D} (e : (rangeD 0 n)[k]? = some x) : k < n ∧ x = .d (.int (k : Nat)) := by
  unfold rangeD at e
  rw [List.getElem?_map, Option.map_eq_some_iff] at e
  obtain ⟨j, e1, rfl⟩ := e
  obtain ⟨h1, e2⟩ := List.getElem?_eq_some_iff.1 e1
  rw [List.getElem_range] at e2
  subst e2
  rw [List.length_range] at h1
  exact ⟨h1, by rw [Int.zero_add]⟩
theorem range_len {n : Nat} : (rangeD 0 n).length = n := by simp [rangeD]
section
variable {x y : Rat} {h : Ho} {Q : KD} {E : XD} {n i : Nat}
theorem wp_lplus (sx : Sz n x) (sy : Sz i y) (hb : n + i ≤ 3000) (k : Q (.d (fr (x + y))) h) : M__law_plus [.d (fr x), .d (fr y)] h Q E := by
  have b1 : Bd n x.num := sx.1
  have b2 : Bd i y.num := sy.1
  have b3 : Bd n (x.den : Int) := by show (x.den : Int).natAbs < _; rw [Int.natAbs_natCast]; exact sx.2
  have b4 : Bd i (y.den : Int) := by show (y.den : Int).natAbs < _; rw [Int.natAbs_natCast]; exact sy.2
  refine i_mir rfl (by repeat constructor) (by repeat constructor) ?_
  unfold B__law_plus
  repeat' array_get_dec
  · exact cmB b1 b4 (by omega)
  · exact cmB b2 b3 (by omega)
  · exact cmB b3 b4 (by omega)
  rw [show (x.den : Int) * y.den = ((x.den * y.den : Nat) : Int) by rw [Int.natCast_mul]]
  refine wp_low (n := n + i + 1) (m := n + i + 1) (Nat.mul_ne_zero x.den_nz y.den_nz) ?_ ?_ (by omega) (by omega) ?_
  · have := (b1.mul b4).add (b2.mul b3)
    exact Nat.lt_of_lt_of_le this (Nat.pow_le_pow_right (by decide) (by omega))
  · exact Nat.lt_of_lt_of_le (Nat.mul_lt_mul'' sx.2 sy.2) (by rw [← Nat.pow_add]; exact Nat.pow_le_pow_right (by decide) (by omega))
  rw [← Rat.add_def']
  exact k
theorem wp_ltimes (sx : Sz n x) (sy : Sz i y) (hb : n + i ≤ 3000) (k : Q (.d (fr (x * y))) h) : M__law_times [.d (fr x), .d (fr y)] h Q E := by
  have b1 : Bd n x.num := sx.1
  have b2 : Bd i y.num := sy.1
  have b3 : Bd n (x.den : Int) := by show (x.den : Int).natAbs < _; rw [Int.natAbs_natCast]; exact sx.2
  have b4 : Bd i (y.den : Int) := by show (y.den : Int).natAbs < _; rw [Int.natAbs_natCast]; exact sy.2
  refine i_mir rfl (by repeat constructor) (by repeat constructor) ?_
  unfold B__law_times
  repeat' array_get_dec
  · exact cmB b1 b2 (by omega)
  · exact cmB b3 b4 (by omega)
  rw [show (x.den : Int) * y.den = ((x.den * y.den : Nat) : Int) by rw [Int.natCast_mul]]
  refine wp_low (n := n + i + 1) (m := n + i + 1) (Nat.mul_ne_zero x.den_nz y.den_nz) ?_ ?_ (by omega) (by omega) ?_
  · exact Nat.lt_of_lt_of_le (b1.mul b2) (Nat.pow_le_pow_right (by decide) (by omega))
  · exact Nat.lt_of_lt_of_le (Nat.mul_lt_mul'' sx.2 sy.2) (by rw [← Nat.pow_add]; exact Nat.pow_le_pow_right (by decide) (by omega))
  rw [← Rat.mul_def']
  exact k
theorem wp_lless (sx : Sz n x) (sy : Sz i y) (hb : n + i ≤ 3000) (k : Q (.d (fr (x - y))) h) : M__law_less [.d (fr x), .d (fr y)] h Q E := by
  refine i_mir rfl (by repeat constructor) (by repeat constructor) ?_
  unfold B__law_less
  repeat' array_get_dec
  rw [Int.zero_sub, ← neg_eq]
  refine wp_lplus sx sy.neg hb ?_
  rw [← Rat.sub_eq_add_neg]
  exact k
theorem wp_lisfr (sx : Sz n x) (hb : n ≤ 3000) (k : Q (.d (.bool true)) h) : M__law_is_fraction [.d (fr x)] h Q E := by
  have hd : 0 < x.den := x.den_pos
  refine i_mir rfl (by repeat constructor) (by repeat constructor) ?_
  unfold B__law_is_fraction
  repeat' array_get_dec
  have ii : ∀ (i : Int) (K : KD), K (.d (.bool true)) h → ∃ b, kitB (tyName (.int i)) "int" = some b ∧ K (.d (.bool b)) h := fun i K q => ⟨_, kit_int _, q⟩
  have ib : ∀ (i : Int) (K : KD), K (.d (.bool false)) h → ∃ b, kitB (tyName (.int i)) "bool" = some b ∧ K (.d (.bool b)) h := fun i K q => ⟨_, kit_bool _, q⟩
  refine i_isiD (by repeat constructor) (kit_tup _) ?_
  repeat' array_get_dec
  refine i_ifF rfl ?_
  repeat' array_get_dec
  refine i_ifF rfl ?_
  repeat' array_get_dec
  refine i_bin ?_
  repeat' array_get_dec
  refine ⟨_, kit_int _, ?_⟩
  repeat' array_get_dec
  refine i_ifF rfl ?_
  repeat' array_get_dec
  refine i_bin ?_
  repeat' array_get_dec
  refine ⟨_, kit_int _, ?_⟩
  repeat' array_get_dec
  refine i_ifF rfl ?_
  repeat' array_get_dec
  refine i_ifT (decide_eq_true (by omega)) ?_
  repeat' array_get_dec
  refine wp_common sx.1 (by rw [Int.natAbs_natCast]; exact sx.2) (by omega) ?_
  rw [Int.natAbs_natCast]
  repeat' array_get_dec
  have hc : Nat.gcd x.num.natAbs x.den = 1 := x.reduced
  refine i_ifT (by rw [hc]; rfl) ?_
  repeat' array_get_dec
  refine i_bin ?_
  repeat' array_get_dec
  refine ⟨_, kit_bool _, ?_⟩
  refine ⟨false, rfl, true, rfl, ?_⟩
  refine i_ifT rfl ?_
  repeat' array_get_dec
  refine i_bin ?_
  repeat' array_get_dec
  refine ⟨_, kit_bool _, ?_⟩
  exact ⟨false, rfl, k⟩
end
section
variable {S : List Zp} {F : List Rat} {m a b c : Nat} {A B C : Zp} {u v w R U : Rat} {h : Ho} {Q : KD} {E : XD}
theorem wp_right (m0 : m ≠ 0) (m1 : m < 2 ^ 7) (hA : S[a]? = some A) (hB : S[b]? = some B) (hC : S[c]? = some C) (hu : F[a]? = some u) (hv : F[b]? = some v) (hw : F[c]? = some w)
    (nA : Nr m A) (nB : Nr m B) (nC : Nr m C) (su : Sz 14 u) (sv : Sz 14 v) (sw : Sz 14 w) (sR : Sz 140 R) (sU : Sz 140 U)
    (e1 : R * ((ptOf m B).1 - (ptOf m A).1) + U * ((ptOf m B).2 - (ptOf m A).2) = v - u) (e2 : R * ((ptOf m C).1 - (ptOf m A).1) + U * ((ptOf m C).2 - (ptOf m A).2) = w - u)
    (k : Q (.d (.bool true)) h) : M__law_slope_right [.d (.tuple ((S.map (ptOf m)).map ptD)), .d (t3 (a, b, c)), .d (.tuple (F.map fr)), .d (.tuple [fr R, fr U])] h Q E := by
  obtain ⟨a1, a2⟩ := nA.sz m0 m1
  obtain ⟨b1, b2⟩ := nB.sz m0 m1
  obtain ⟨c1, c2⟩ := nC.sz m0 m1
  have pA : (S.map (ptOf m))[a]? = some (ptOf m A) := by rw [List.getElem?_map, hA]; rfl
  have pB : (S.map (ptOf m))[b]? = some (ptOf m B) := by rw [List.getElem?_map, hB]; rfl
  have pC : (S.map (ptOf m))[c]? = some (ptOf m C) := by rw [List.getElem?_map, hC]; rfl
  refine i_mir rfl (by repeat constructor) (by repeat constructor) ?_
  unfold B__law_slope_right
  repeat' array_get_dec
  refine i_isiD (by repeat constructor) (kit_tup _) ?_
  repeat' array_get_dec
  refine i_ifF rfl ?_
  repeat' array_get_dec
  refine i_ifF rfl ?_
  repeat' array_get_dec
  refine wp_lisfr sR (by decide) ?_
  repeat' array_get_dec
  refine i_ifF rfl ?_
  repeat' array_get_dec
  refine wp_lisfr sU (by decide) ?_
  repeat' array_get_dec
  refine i_ifF rfl ?_
  repeat' array_get_dec
  refine ⟨by decide, by decide, ?_⟩
  refine for_ind (fun i ρ h2 => h2 = h ∧ ∃ z4 z5 z6 z7 z8 z9, ρ = [some (.d (.tuple ((S.map (ptOf m)).map ptD))), some (.d (t3 (a, b, c))), some (.d (.tuple (F.map fr))), some (.d (.tuple [fr R, fr U])), z4, z5, z6, z7, z8, z9]) ?_ ?_ ⟨rfl, _, _, _, _, _, _, rfl⟩
  · rintro i x ρ h2 G ex ⟨rfl, z4, z5, z6, z7, z8, z9, rfl⟩ hG
    obtain ⟨hi, rfl⟩ := range_get ex
    have key : ∃ (p q : Nat) (V W : Zp) (f g : Rat), L2.atI [D.d (.int (a : Nat)), .d (.int (b : Nat)), .d (.int (c : Nat))] (((i : Nat) : Int) - 1) = some (.d (.int (p : Nat))) ∧ L2.atI [D.d (.int (a : Nat)), .d (.int (b : Nat)), .d (.int (c : Nat))] ((i : Nat) : Int) = some (.d (.int (q : Nat))) ∧
        (S.map (ptOf m))[p]? = some (ptOf m V) ∧ (S.map (ptOf m))[q]? = some (ptOf m W) ∧ F[p]? = some f ∧ F[q]? = some g ∧ Nr m V ∧ Nr m W ∧ Sz 14 f ∧ Sz 14 g ∧
        R * ((ptOf m W).1 - (ptOf m V).1) + U * ((ptOf m W).2 - (ptOf m V).2) = g - f := by
      match i, hi with
      | 0, _ => exact ⟨c, a, C, A, w, u, rfl, rfl, pC, pA, hw, hu, nC, nA, sw, su, by grind⟩
      | 1, _ => exact ⟨a, b, A, B, u, v, rfl, rfl, pA, pB, hu, hv, nA, nB, su, sv, e1⟩
      | 2, _ => exact ⟨b, c, B, C, v, w, rfl, rfl, pB, pC, hv, hw, nB, nC, sv, sw, by grind⟩
      | n + 3, hi => exact absurd (show n + 3 < 3 from hi) (by omega)
    obtain ⟨p, q, V, W, f, g, u1, u0, p1, p2, f1, f2, nV, nW, sf, sg, er⟩ := key
    obtain ⟨v1, v2⟩ := nV.sz m0 m1
    obtain ⟨w1, w2⟩ := nW.sz m0 m1
    refine ⟨_, rfl, ?_⟩
    show (sSeq _ _) [some (.d (.tuple ((S.map (ptOf m)).map ptD))), some (.d (t3 (a, b, c))), some (.d (.tuple (F.map fr))), some (.d (.tuple [fr R, fr U])), some (.d (.int (i : Nat))), z5, z6, z7, z8, z9] _ _
    repeat' array_get_dec
    refine i_ix rfl u1 ?_
    repeat' array_get_dec
    refine i_ix rfl u0 ?_
    repeat' array_get_dec
    refine i_ix rfl (get_map p2) ?_
    repeat' array_get_dec
    refine i_ix rfl (get_map p1) ?_
    repeat' array_get_dec
    refine wp_lless w1 v1 (by decide) ?_
    repeat' array_get_dec
    refine i_ix rfl (get_map p2) ?_
    repeat' array_get_dec
    refine i_ix rfl (get_map p1) ?_
    repeat' array_get_dec
    refine wp_lless w2 v2 (by decide) ?_
    repeat' array_get_dec
    refine wp_ltimes sR (w1.sub v1) (by decide) ?_
    repeat' array_get_dec
    refine wp_ltimes sU (w2.sub v2) (by decide) ?_
    repeat' array_get_dec
    refine wp_lplus (sR.mul (w1.sub v1)) (sU.mul (w2.sub v2)) (by decide) ?_
    repeat' array_get_dec
    refine i_ix rfl (get_map f2) ?_
    repeat' array_get_dec
    refine i_ix rfl (get_map f1) ?_
    repeat' array_get_dec
    refine wp_lless sg sf (by decide) ?_
    rw [er]
    repeat' array_get_dec
    refine i_neG rfl (by rfl) ?_
    repeat' array_get_dec
    refine i_ifF rfl ?_
    repeat' array_get_dec
    exact ⟨trivial, hG _ _ ⟨rfl, _, _, _, _, _, _, rfl⟩⟩
  · rintro ρ h2 ⟨rfl, z4, z5, z6, z7, z8, z9, rfl⟩
    repeat' array_get_dec
    exact k
end
theorem concat_at (h : Ho) (o : O) : (h ++ [o])[h.length]? = some o := List.getElem?_concat_length
theorem concat_set (h : Ho) (o o2 : O) : (h ++ [o]).set h.length o2 = h ++ [o2] := by
  rw [List.set_append_right _ _ (Nat.le_refl _), Nat.sub_self]
  rfl
def w1 (A B C : Zp) (x y z : Int) : Int := (y - x) * (C.2 - A.2) - (z - x) * (B.2 - A.2)
def w2 (A B C : Zp) (x y z : Int) : Int := (z - x) * (B.1 - A.1) - (y - x) * (C.1 - A.1)
def sq (A B C : Zp) (x y z : Int) : Int := w1 A B C x y z * w1 A B C x y z + w2 A B C x y z * w2 A B C x y z
section
variable {S : List Zp} {W : List Int} {m a b c n : Nat} {A B C : Zp} {x y z : Int} {h : Ho} {Q : KD} {E : XD}
theorem wp_lcross {m : Nat} {A B C : Zp} {h : Ho} {Q : KD} {E : XD} (nA : Nr m A) (nB : Nr m B) (nC : Nr m C) (k : Q (.d (.int (areaZ A B C))) h) : M__law_cross [.d (zD A), .d (zD B), .d (zD C)] h Q E := by
  obtain ⟨a1, a2⟩ := (⟨nA.x, nA.y⟩ : Bd 12 A.1 ∧ Bd 12 A.2)
  obtain ⟨b1, b2⟩ := (⟨nB.x, nB.y⟩ : Bd 12 B.1 ∧ Bd 12 B.2)
  obtain ⟨c1, c2⟩ := (⟨nC.x, nC.y⟩ : Bd 12 C.1 ∧ Bd 12 C.2)
  refine i_mir rfl (by repeat constructor) (by repeat constructor) ?_
  unfold B__law_cross
  repeat' array_get_dec
  · decreasing_trivial_pre_omega
  · decreasing_trivial_pre_omega
  · exact k
theorem wp_lenergy (hA : S[a]? = some A) (hB : S[b]? = some B) (hC : S[c]? = some C) (hu : W[a]? = some x) (hv : W[b]? = some y) (hw : W[c]? = some z)
    (nA : Nr m A) (nB : Nr m B) (nC : Nr m C) (bx : Bd 14 x) (by_ : Bd 14 y) (bz : Bd 14 z) (ar : areaZ A B C = (n : Nat)) (n0 : n ≠ 0)
    (k : ∀ ps : List PyData, Q (.d (fr (mkRat (sq A B C x y z) (2 * n)))) (h ++ [.lst (ps.map D.d)])) : M__law_energy [.d (.list (S.map zD)), .d (.list [t3 (a, b, c)]), .d (.list (W.map PyData.int)), .d (.list (W.map PyData.int))] h Q E := by
  have sz : sizeLine = 2 ^ 24 := rfl
  obtain ⟨a1, a2⟩ := (⟨nA.x, nA.y⟩ : Bd 12 A.1 ∧ Bd 12 A.2)
  obtain ⟨b1, b2⟩ := (⟨nB.x, nB.y⟩ : Bd 12 B.1 ∧ Bd 12 B.2)
  obtain ⟨c1, c2⟩ := (⟨nC.x, nC.y⟩ : Bd 12 C.1 ∧ Bd 12 C.2)
  refine i_mir rfl (by repeat constructor) (by repeat constructor) ?_
  unfold B__law_energy
  repeat' array_get_dec
  refine i_iseqG ?_
  repeat' array_get_dec
  refine ⟨_, rfl, ?_⟩
  refine for_ind (fun i ρ h2 => (i = 0 → h2 = h ∧ ∃ z5 z6 z7 z8 z9 z10 z11 z12 z13 z14 z15, ρ = [some (.d (.list (S.map zD))), some (.d (.list [t3 (a, b, c)])), some (.d (.list (W.map PyData.int))), some (.d (.list (W.map PyData.int))), some (.d (fr 0)), z5, z6, z7, z8, z9, z10, z11, z12, z13, z14, z15]) ∧
    (i = 1 → (∃ ps : List PyData, h2 = h ++ [.lst (ps.map D.d)]) ∧ ∃ z0 z1 z2 z3 z5 z6 z7 z8 z9 z10 z11 z12 z13 z14 z15, ρ = [z0, z1, z2, z3, some (.d (fr (mkRat (sq A B C x y z) (2 * n)))), z5, z6, z7, z8, z9, z10, z11, z12, z13, z14, z15])) ?_ ?_ ⟨fun _ => ⟨rfl, _, _, _, _, _, _, _, _, _, _, _, rfl⟩, fun e => by cases e⟩
  · rintro i q ρ h2 G ex ⟨j0, -⟩ hG
    have hi : i = 0 := by
      have := (List.getElem?_eq_some_iff.1 ex).1
      simp at this
      exact this
    subst hi
    cases ex
    obtain ⟨rfl, z5, z6, z7, z8, z9, z10, z11, z12, z13, z14, z15, rfl⟩ := j0 rfl
    refine ⟨[some (.d (.list (S.map zD))), some (.d (.list [t3 (a, b, c)])), some (.d (.list (W.map PyData.int))), some (.d (.list (W.map PyData.int))), some (.d (fr 0)), some (.d (.int (a : Nat))), some (.d (.int (b : Nat))), some (.d (.int (c : Nat))), z8, z9, z10, z11, z12, z13, z14, z15], rfl, ?_⟩
    repeat' array_get_dec
    refine i_ix rfl (get_map hA) ?_
    repeat' array_get_dec
    refine i_ix rfl (get_map hB) ?_
    repeat' array_get_dec
    refine i_ix rfl (get_map hC) ?_
    repeat' array_get_dec
    refine i_loc ?_
    array_get_dec
    refine ⟨by show 0 ≤ sizeLine; omega, ?_⟩
    repeat' array_get_dec
    refine i_iseqG ?_
    repeat' array_get_dec
    refine ⟨_, rfl, ?_⟩
    refine for_ind (fun i ρ h3 => h3 = h2 ++ [.lst ((List.replicate i (zD (w1 A B C x y z, w2 A B C x y z))).map D.d)] ∧ ∃ z12 z13 z14, ρ = [some (.d (.list (S.map zD))), some (.d (.list [t3 (a, b, c)])), some (.d (.list (W.map PyData.int))), some (.d (.list (W.map PyData.int))), some (.d (fr 0)), some (.d (.int (a : Nat))), some (.d (.int (b : Nat))), some (.d (.int (c : Nat))), some (.d (zD A)), some (.d (zD B)), some (.d (zD C)), some (.loc h2.length), z12, z13, z14, z15]) ?_ ?_ ⟨rfl, _, _, _, rfl⟩
    · rintro i q ρ h3 G2 eq2 ⟨rfl, z12, z13, z14, rfl⟩ hG2
      have hi : i < 2 := by
        have := (List.getElem?_eq_some_iff.1 eq2).1
        simpa using this
      have eq3 : q = .d (.list (W.map PyData.int)) := by
        match i, hi, eq2 with
        | 0, _, e => cases e; rfl
        | 1, _, e => cases e; rfl
      subst eq3
      refine ⟨_, rfl, ?_⟩
      show (sSeq _ _) [some (.d (.list (S.map zD))), some (.d (.list [t3 (a, b, c)])), some (.d (.list (W.map PyData.int))), some (.d (.list (W.map PyData.int))), some (.d (fr 0)), some (.d (.int (a : Nat))), some (.d (.int (b : Nat))), some (.d (.int (c : Nat))), some (.d (zD A)), some (.d (zD B)), some (.d (zD C)), some (.loc h2.length), some (.d (.list (W.map PyData.int))), z13, z14, z15] _ _
      repeat' array_get_dec
      refine i_ix rfl (get_map hv) ?_
      repeat' array_get_dec
      refine i_ix rfl (get_map hu) ?_
      repeat' array_get_dec
      refine i_ix rfl (get_map hw) ?_
      repeat' array_get_dec
      refine i_ix rfl (get_map hu) ?_
      repeat' array_get_dec
      refine appK_loc (concat_at _ _) ?_
      repeat' array_get_dec
      all_goals first | decreasing_trivial_pre_omega | skip
      refine ⟨_, _, rfl, concat_at _ _, ?_, ?_⟩
      · simp only [List.length_map, List.length_replicate]
        omega
      · refine ⟨trivial, hG2 _ _ ⟨?_, _, _, _, rfl⟩⟩
        rw [concat_set, List.replicate_succ', List.map_append]
        rfl
    · rintro ρ h3 ⟨rfl, z12, z13, z14, rfl⟩
      have hp1 : Bd 30 (w1 A B C x y z) := (((by_.sub bx).mul (c2.sub a2)).sub ((bz.sub bx).mul (b2.sub a2))).mono (by decide)
      have hp2 : Bd 30 (w2 A B C x y z) := (((bz.sub bx).mul (b1.sub a1)).sub ((by_.sub bx).mul (c1.sub a1))).mono (by decide)
      have ek : sq A B C x y z = w1 A B C x y z * w1 A B C x y z + w2 A B C x y z * w2 A B C x y z := rfl
      have hsq : Bd 61 (sq A B C x y z) := (hp1.mul hp1).add (hp2.mul hp2)
      generalize w1 A B C x y z = p1 at hp1 ek
      generalize w2 A B C x y z = p2 at hp2 ek
      have ei : V2.items (h2 ++ [O.lst ((List.replicate 2 (zD (p1, p2))).map D.d)]) (.loc h2.length) = some [.d (zD (p1, p2)), .d (zD (p1, p2))] := by
        unfold V2.items
        simp only [concat_at]
        rfl
      repeat' array_get_dec
      refine i_ix ei (y := .d (zD (p1, p2))) rfl ?_
      repeat' array_get_dec
      refine i_ix ei (y := .d (zD (p1, p2))) rfl ?_
      repeat' array_get_dec
      all_goals first | decreasing_trivial_pre_omega | skip
      refine i_ix ei (y := .d (zD (p1, p2))) rfl ?_
      repeat' array_get_dec
      refine i_ix ei (y := .d (zD (p1, p2))) rfl ?_
      repeat' array_get_dec
      all_goals first | decreasing_trivial_pre_omega | skip
      rw [← ek]
      refine wp_lcross nA nB nC ?_
      have hn : Bd 27 (areaZ A B C) := (((b1.sub a1).mul (c2.sub a2)).sub ((b2.sub a2).mul (c1.sub a1))).mono (by decide)
      rw [ar] at hn ⊢
      have hn2 : n < 2 ^ 27 := by
        have : ((n : Nat) : Int).natAbs < 2 ^ 27 := hn
        omega
      repeat' array_get_dec
      · exact cmB (show Bd 2 2 by show (2 : Int).natAbs < 4; decide) hn (by decide)
      rw [show (2 : Int) * (n : Nat) = ((2 * n : Nat) : Int) by omega]
      have s2 : Sz 64 (mkRat (sq A B C x y z) (2 * n)) := .mk' (by omega) (Nat.lt_of_lt_of_le hsq (by decide)) (by omega)
      refine wp_low (n := 64) (m := 64) (by omega) (Nat.lt_of_lt_of_le hsq (by decide)) (by omega) (by decide) (by decide) ?_
      repeat' array_get_dec
      refine wp_lplus (x := 0) (n := 1) ⟨by decide, by decide⟩ s2 (by decide) ?_
      rw [Rat.zero_add]
      repeat' array_get_dec
      exact ⟨trivial, hG _ _ ⟨fun e => absurd e (by decide), fun _ => ⟨⟨_, rfl⟩, _, _, _, _, _, _, _, _, _, _, _, _, _, _, _, rfl⟩⟩⟩
  · rintro ρ h2 ⟨-, j1⟩
    obtain ⟨⟨ps, rfl⟩, z0, z1, z2, z3, z5, z6, z7, z8, z9, z10, z11, z12, z13, z14, z15, rfl⟩ := j1 rfl
    repeat' array_get_dec
    exact k ps
end
/-! the law's triangles: lists of three numbers of spots -/
abbrev tl (t : Tr) : PyData := .list [.int (t.1 : Nat), .int (t.2.1 : Nat), .int (t.2.2 : Nat)]
def sp (S : List Zp) (i : Nat) : Zp := S.getD i (0, 0)
structure Tri (S : List Zp) (t : Tr) : Prop where
  i1 : t.1 < S.length
  i2 : t.2.1 < S.length
  i3 : t.2.2 < S.length
  pos : 0 < areaZ (sp S t.1) (sp S t.2.1) (sp S t.2.2)
theorem sp_get {S : List Zp} {i : Nat} (h : i < S.length) : S[i]? = some (sp S i) := by
  unfold sp
  rw [List.getD_eq_getElem?_getD, List.getElem?_eq_getElem h]
  rfl
theorem eqv_pair (a b c d : Int) : PyData.eqv (.tuple [.int a, .int b]) (.tuple [.int c, .int d]) = (decide (a = c) && decide (b = d)) := by
  simp only [PyData.eqv, PyData.eqvAll, Bool.and_true]
  rfl
theorem i_eqP {a b c d : Int} {h : Ho} {Q : KD} (k : Q (.d (.bool (decide (a = c) && decide (b = d)))) h) : rEq2 (.d (.tuple [.int a, .int b])) (.d (.tuple [.int c, .int d])) h Q := by
  rw [← eqv_pair] at k
  exact ⟨rfl, rfl, k⟩
section
variable {S : List Zp} {T : List Tr} {p q : Nat} {h : Ho} {Q : KD} {E : XD}
theorem wp_third (hT : ∀ t ∈ T, Tri S t) (k0 : Q (.d .none) h) (k : ∀ c : Nat, c < S.length → p < S.length → q < S.length → Q (.d (.int (c : Nat))) h) : M__law_third [.d (.list (T.map tl)), .d (.int (p : Nat)), .d (.int (q : Nat))] h Q E := by
  refine i_mir rfl (by repeat constructor) (by repeat constructor) ?_
  unfold B__law_third
  array_get_dec
  array_get_dec
  refine i_iseqG ?_
  repeat' array_get_dec
  refine ⟨_, rfl, ?_⟩
  refine for_ind (fun i ρ h2 => h2 = h ∧ ∃ z3 z4 z5, ρ = [some (.d (.list (T.map tl))), some (.d (.int (p : Nat))), some (.d (.int (q : Nat))), z3, z4, z5]) ?_ ?_ ⟨rfl, _, _, _, rfl⟩
  · rintro i x ρ h2 G ex ⟨rfl, z3, z4, z5, rfl⟩ hG
    rw [List.getElem?_map, List.getElem?_map, Option.map_map, Option.map_eq_some_iff] at ex
    obtain ⟨⟨a, b, c⟩, et, rfl⟩ := ex
    obtain ⟨i1, i2, i3, -⟩ := hT _ (List.mem_of_getElem? et)
    dsimp only at i1 i2 i3
    refine ⟨[some (.d (.list (T.map tl))), some (.d (.int (p : Nat))), some (.d (.int (q : Nat))), some (.d (.int (a : Nat))), some (.d (.int (b : Nat))), some (.d (.int (c : Nat)))], rfl, ?_⟩
    have eq2 : ∀ {x y : Nat}, (decide ((x : Int) = p) && decide ((y : Int) = q)) = true → x = p ∧ y = q := by
      intro x y e
      rw [Bool.and_eq_true, decide_eq_true_eq, decide_eq_true_eq] at e
      omega
    repeat' array_get_dec
    refine i_eqP ?_
    repeat' array_get_dec
    refine i_ite (fun e => ?_) (fun _ => ?_)
    · obtain ⟨rfl, rfl⟩ := eq2 e
      repeat' array_get_dec
      exact k c i3 i1 i2
    repeat' array_get_dec
    refine i_eqP ?_
    repeat' array_get_dec
    refine i_ite (fun e => ?_) (fun _ => ?_)
    · obtain ⟨rfl, rfl⟩ := eq2 e
      repeat' array_get_dec
      exact k a i1 i2 i3
    repeat' array_get_dec
    refine i_eqP ?_
    repeat' array_get_dec
    refine i_ite (fun e => ?_) (fun _ => ?_)
    · obtain ⟨rfl, rfl⟩ := eq2 e
      repeat' array_get_dec
      exact k b i2 i3 i1
    repeat' array_get_dec
    exact ⟨trivial, hG _ _ ⟨rfl, _, _, _, rfl⟩⟩
  · rintro ρ h2 ⟨rfl, z3, z4, z5, rfl⟩
    repeat' array_get_dec
    exact k0
end
theorem lay_ints : ∀ ns : List Int, PyData.canLayAll0 (ns.map PyData.int) = true
  | [] => rfl
  | n :: ns => by
    have := lay_ints ns
    simp only [List.map_cons, PyData.canLayAll0, this, Bool.and_true]
    rfl
theorem dep_ints : ∀ ns : List Int, PyData.depthAll (ns.map PyData.int) = 0
  | [] => rfl
  | n :: ns => by
    have := dep_ints ns
    simp only [List.map_cons, PyData.depthAll, PyData.depth, this]
    rfl
theorem shaped_ints (ns : List Int) : SeqAt.shaped (.list (ns.map PyData.int)) = true := by
  unfold SeqAt.shaped
  simp only [PyData.depth, dep_ints, Bool.and_eq_true]
  refine ⟨?_, by decide⟩
  exact lay_ints ns
theorem shaped_two (ns ms : List Int) : SeqAt.shaped (.list [.list (ns.map PyData.int), .list (ms.map PyData.int)]) = true := by
  unfold SeqAt.shaped
  simp only [PyData.depth, PyData.depthAll, dep_ints, Bool.and_eq_true]
  refine ⟨?_, by decide⟩
  have h1 := lay_ints ns
  have h2 := lay_ints ms
  show PyData.canLayAll0 [.list (ns.map PyData.int), .list (ms.map PyData.int)] = true
  have e1 : (PyData.list (ns.map PyData.int)).canLay0 = true := h1
  have e2 : (PyData.list (ms.map PyData.int)).canLay0 = true := h2
  simp only [PyData.canLayAll0, e1, e2, Bool.and_true]
section
variable {S : List Zp} {T : List Tr} {m p q : Nat} {h : Ho} {Q : KD} {E : XD}
def srt (ns : List Int) : List Int := ns.mergeSort fun a b => decide (a ≤ b)
theorem i_sortI {ns : List Int} (k : Q (.d (.list ((srt ns).map PyData.int))) h) : rSortI2 [.d (.list (ns.map PyData.int))] h Q :=
  ⟨_, ns, rfl, by show some ((ns.map PyData.int).map D.d) = _; rw [List.map_map]; rfl, fun ns' hp hs => by
    have e : ns' = srt ns := by
      refine List.Perm.eq_of_pairwise (le := (· ≤ ·)) (fun a b _ _ h1 h2 => Int.le_antisymm h1 h2) hs ?_ (hp.trans (List.mergeSort_perm _ _).symm)
      have := List.pairwise_mergeSort (le := fun a b : Int => decide (a ≤ b)) (fun a b c h1 h2 => by rw [decide_eq_true_eq] at *; omega) (fun a b => by rw [Bool.or_eq_true, decide_eq_true_eq, decide_eq_true_eq]; omega) ns
      exact this.imp fun h => of_decide_eq_true h
    rw [e]
    exact k⟩
theorem wp_other (hT : ∀ t ∈ T, Tri S t) (nS : ∀ a ∈ S, Nr m a) (hl : T.length ≤ 1000) (k0 : Q (.d .none) h) (k : ∀ T' : List Tr, (∀ t ∈ T', Tri S t) → T'.length ≤ T.length + 2 → T' ≠ [] → Q (.d (.list (T'.map tl))) h) : M__law_other [.d (.list (S.map zD)), .d (.list (T.map tl)), .d (.int (p : Nat)), .d (.int (q : Nat))] h Q E := by
  have sz : sizeLine = 2 ^ 24 := rfl
  have ns : ∀ i, i < S.length → Nr m (sp S i) := fun i hi => nS _ (by
    have := sp_get hi
    exact List.mem_of_getElem? this)
  refine i_mir rfl (by repeat constructor) (by repeat constructor) ?_
  unfold B__law_other
  repeat' array_get_dec
  refine wp_third hT ?_ fun l hl1 hp hq => ?_
  · repeat' array_get_dec
    refine wp_third hT ?_ fun r _ _ _ => ?_
    · repeat' array_get_dec
      refine i_ifT rfl ?_
      repeat' array_get_dec
      exact k0
    · repeat' array_get_dec
      refine i_ifT rfl ?_
      repeat' array_get_dec
      exact k0
  repeat' array_get_dec
  refine wp_third hT ?_ fun r hr1 _ _ => ?_
  · repeat' array_get_dec
    refine i_ifF rfl ?_
    repeat' array_get_dec
    refine i_ifT rfl ?_
    repeat' array_get_dec
    exact k0
  repeat' array_get_dec
  refine i_ifF rfl ?_
  repeat' array_get_dec
  refine i_ifF rfl ?_
  repeat' array_get_dec
  refine i_ix rfl (get_map (sp_get hr1)) ?_
  repeat' array_get_dec
  refine i_ix rfl (get_map (sp_get hq)) ?_
  repeat' array_get_dec
  refine i_ix rfl (get_map (sp_get hl1)) ?_
  repeat' array_get_dec
  refine wp_lcross (ns _ hr1) (ns _ hq) (ns _ hl1) ?_
  repeat' array_get_dec
  refine i_ite (fun _ => ?_) (fun c1 => ?_)
  · repeat' array_get_dec
    exact k0
  have c1 := of_decide_eq_false c1
  repeat' array_get_dec
  refine i_ix rfl (get_map (sp_get hr1)) ?_
  repeat' array_get_dec
  refine i_ix rfl (get_map (sp_get hl1)) ?_
  repeat' array_get_dec
  refine i_ix rfl (get_map (sp_get hp)) ?_
  repeat' array_get_dec
  refine wp_lcross (ns _ hr1) (ns _ hl1) (ns _ hp) ?_
  repeat' array_get_dec
  refine i_ite (fun _ => ?_) (fun c2 => ?_)
  · repeat' array_get_dec
    exact k0
  have c2 := of_decide_eq_false c2
  repeat' array_get_dec
  refine i_sortI (ns := [(p : Nat), (q : Nat), (l : Nat)]) ?_
  generalize srt [(p : Int), (q : Int), (l : Int)] = n1
  repeat' array_get_dec
  refine i_sortI (ns := [(p : Nat), (q : Nat), (r : Nat)]) ?_
  generalize srt [(p : Int), (q : Int), (r : Int)] = n2
  repeat' array_get_dec
  refine i_lcv ?_
  refine i_iseqG ?_
  repeat' array_get_dec
  refine ⟨_, rfl, ?_⟩
  refine lcv_ind (hb := h) (fun k acc => ∃ T' : List Tr, acc = (T'.map tl).map D.d ∧ (∀ t ∈ T', t ∈ T) ∧ T'.length ≤ k ∧ k ≤ T.length) (fun _ => trivial) ?_ ?_ ⟨[], rfl, by simp, Nat.le_refl _, Nat.zero_le _⟩
  · rintro i z acc ez ⟨T', rfl, hm, hlen, hk⟩
    rw [List.getElem?_map, List.getElem?_map, Option.map_map, Option.map_eq_some_iff] at ez
    obtain ⟨t, et, rfl⟩ := ez
    have hi : i < T.length := (List.getElem?_eq_some_iff.1 et).1
    refine ⟨[some (.d (.list (S.map zD))), some (.d (.list (T.map tl))), some (.d (.int (p : Nat))), some (.d (.int (q : Nat))), some (.d (.int (l : Nat))), some (.d (.int (r : Nat))), some (.d (.list [.list (n1.map PyData.int), .list (n2.map PyData.int)])), some (.d (tl t))], !([PyData.list (n1.map PyData.int), PyData.list (n2.map PyData.int)].any fun z => PyData.eqv z (.list ((srt [(t.1 : Int), (t.2.1 : Int), (t.2.2 : Int)]).map PyData.int))), rfl, fun P qq => ?_, fun _ => ⟨.d (tl t), fun P qq => ?_, ?_, T' ++ [t], ?_, ?_, ?_, hi⟩, fun _ => ⟨T', rfl, hm, by omega, hi⟩⟩
    · repeat' array_get_dec
      refine i_sortI (ns := [(t.1 : Nat), (t.2.1 : Nat), (t.2.2 : Nat)]) ?_
      repeat' array_get_dec
      refine i_inL (shaped_ints _) (by simp only [PyData.depth, dep_ints]; decide) (shaped_two _ _) ?_
      exact ⟨_, rfl, qq⟩
    · repeat' array_get_dec
      exact qq
    · rw [List.length_map, List.length_map]
      omega
    · rw [List.map_append, List.map_append]
      rfl
    · intro x hx
      rw [List.mem_append, List.mem_singleton] at hx
      rcases hx with hx | rfl
      · exact hm x hx
      · exact List.mem_of_getElem? et
    · rw [List.length_append, List.length_singleton]
      omega
  · rintro acc ⟨T', rfl, hm, hlen, -⟩
    rw [List.length_map, List.length_map] at hlen
    refine ⟨_, allD_of _, ?_⟩
    repeat' array_get_dec
    have e : T'.map tl ++ [tl (r, q, l), tl (r, l, p)] = (T' ++ [(r, q, l), (r, l, p)]).map tl := by rw [List.map_append]; rfl
    refine ⟨by rw [List.length_map]; show T'.length + 2 ≤ 2 ^ 24; omega, ?_⟩
    show Q (.d (.list (T'.map tl ++ [tl (r, q, l), tl (r, l, p)]))) h
    rw [e]
    refine k _ (fun t ht => ?_) (by rw [List.length_append]; show T'.length + 2 ≤ _; omega) (by simp)
    rw [List.mem_append] at ht
    rcases ht with ht | ht
    · exact hT t (hm t ht)
    · simp only [List.mem_cons, List.not_mem_nil, or_false] at ht
      rcases ht with rfl | rfl
      · exact ⟨hr1, hq, hl1, by show 0 < areaZ (sp S r) (sp S q) (sp S l); omega⟩
      · exact ⟨hr1, hl1, hp, by show 0 < areaZ (sp S r) (sp S l) (sp S p); omega⟩
end
section
variable {S : List Zp} {T : List Tr} {m : Nat} {t : Tr} {h : Ho} {Q : KD} {E : XD}
theorem wp_flipped (hT : ∀ t ∈ T, Tri S t) (nS : ∀ a ∈ S, Nr m a) (hl : T.length ≤ 1000) (hn : T ≠ []) (k : ∀ T' : List Tr, (∀ t ∈ T', Tri S t) → T'.length ≤ T.length + 2 → T' ≠ [] → Q (.d (.list (T'.map tl))) h) : M__law_flipped [.d (.list (S.map zD)), .d (.list (T.map tl)), .d (tl t)] h Q E := by
  refine i_mir rfl (by repeat constructor) (by repeat constructor) ?_
  unfold B__law_flipped
  repeat' array_get_dec
  refine wp_other hT nS hl ?_ fun T' h1 h2 h3 => ?_
  · repeat' array_get_dec
    refine i_ifT rfl ?_
    repeat' array_get_dec
    exact k T hT (by omega) hn
  · repeat' array_get_dec
    refine i_ifF rfl ?_
    repeat' array_get_dec
    exact k T' h1 h2 h3
/-- a point put into a triangle, nearer to a: all of it a multiple of g -/
theorem area_new {A B C N : Zp} (hx : 4 * N.1 = 2 * A.1 + B.1 + C.1) (hy : 4 * N.2 = 2 * A.2 + B.2 + C.2) : 4 * areaZ A B N = areaZ A B C ∧ 4 * areaZ B C N = 2 * areaZ A B C ∧ 4 * areaZ C A N = areaZ A B C := by
  unfold areaZ
  refine ⟨?_, ?_, ?_⟩
  · have e : 4 * ((B.1 - A.1) * (N.2 - A.2) - (B.2 - A.2) * (N.1 - A.1)) = (B.1 - A.1) * (4 * N.2 - 4 * A.2) - (B.2 - A.2) * (4 * N.1 - 4 * A.1) := by grind
    rw [e, hx, hy]; grind
  · have e : 4 * ((C.1 - B.1) * (N.2 - B.2) - (C.2 - B.2) * (N.1 - B.1)) = (C.1 - B.1) * (4 * N.2 - 4 * B.2) - (C.2 - B.2) * (4 * N.1 - 4 * B.1) := by grind
    rw [e, hx, hy]; grind
  · have e : 4 * ((A.1 - C.1) * (N.2 - C.2) - (A.2 - C.2) * (N.1 - C.1)) = (A.1 - C.1) * (4 * N.2 - 4 * C.2) - (A.2 - C.2) * (4 * N.1 - 4 * C.1) := by grind
    rw [e, hx, hy]; grind
def Mul (g : Int) (a : Zp) : Prop := g ∣ a.1 ∧ g ∣ a.2
end
theorem sp_app {S : List Zp} {N : Zp} {i : Nat} (h : i < S.length) : sp (S ++ [N]) i = sp S i := by
  unfold sp
  rw [List.getD_eq_getElem?_getD, List.getD_eq_getElem?_getD, List.getElem?_append_left h]
theorem sp_new {S : List Zp} {N : Zp} : sp (S ++ [N]) S.length = N := by
  unfold sp
  rw [List.getD_eq_getElem?_getD, List.getElem?_append_right (Nat.le_refl _)]
  simp
theorem Tri.app {S : List Zp} {t : Tr} (h : Tri S t) (N : Zp) : Tri (S ++ [N]) t := by
  obtain ⟨h1, h2, h3, h4⟩ := h
  have len : (S ++ [N]).length = S.length + 1 := by simp
  refine ⟨by omega, by omega, by omega, ?_⟩
  rw [sp_app h1, sp_app h2, sp_app h3]
  exact h4
theorem area_rot (a b c : Zp) : areaZ b c a = areaZ a b c := by unfold areaZ; grind
theorem Tri.rot {S : List Zp} {a b c : Nat} (h : Tri S (a, b, c)) : Tri S (b, c, a) := ⟨h.i2, h.i3, h.i1, by
  have := h.pos
  rw [← area_rot] at this
  exact this⟩
theorem cut_n0 {α : Type} (ps : List α) (i : Nat) : cut ps (some (i : Int)) none = ps.drop i := by
  unfold cut
  rw [HT.sIx_nat]
  show (ps.drop (min i ps.length)).take (ps.length - min i ps.length) = _
  by_cases c : i ≤ ps.length
  · rw [Nat.min_eq_left c, List.take_of_length_le (by simp)]
  · rw [Nat.min_eq_right (by omega), List.drop_of_length_le (by omega), List.drop_of_length_le (by omega)]
    simp
theorem cut_0n {α : Type} (ps : List α) (j : Nat) : cut ps none (some (j : Int)) = ps.take j := by
  unfold cut
  rw [HT.sIx_nat]
  show (ps.drop 0).take (min j ps.length - 0) = _
  rw [List.drop_zero, Nat.sub_zero]
  by_cases c : j ≤ ps.length
  · rw [Nat.min_eq_left c]
  · rw [Nat.min_eq_right (by omega), List.take_of_length_le (by omega), List.take_of_length_le (by omega)]
theorem i_addLLe {ps qs rs : List PyData} {h : Ho} {Q : KD} (e : ps ++ qs = rs) (hl : rs.length ≤ sizeLine) (k : Q (.d (.list rs)) h) : rAdd2 (.d (.list ps)) (.d (.list qs)) h Q := by
  subst e
  exact ⟨by rw [List.length_append] at hl; exact hl, k⟩
theorem divq {s g : Int} (h : 4 * g ∣ s) : ∃ n, s.fdiv 4 = n ∧ 4 * n = s ∧ g ∣ n := by
  obtain ⟨u, rfl⟩ := h
  refine ⟨g * u, ?_, by rw [Int.mul_assoc], ⟨u, rfl⟩⟩
  rw [Int.fdiv_eq_ediv_of_nonneg _ (by decide), Int.mul_assoc]
  exact Int.mul_ediv_cancel_left _ (by decide)
structure Gm (r : Int) (ns nt : Nat) (S : List Zp) (T : List Tr) : Prop where
  tri : ∀ t ∈ T, Tri S t
  near : ∀ p ∈ S, (-r ≤ p.1 ∧ p.1 ≤ r) ∧ (-r ≤ p.2 ∧ p.2 ≤ r)
  fs : S.length ≤ ns
  ft : T.length ≤ nt
  ne : T ≠ []
theorem Gm.nr {r : Int} {ns nt m : Nat} {S : List Zp} {T : List Tr} (g : Gm r ns nt S T) (hr : r < 4096) : ∀ a ∈ S, Nr m a := fun a ha => by
  obtain ⟨⟨h1, h2⟩, h3, h4⟩ := g.near a ha
  exact ⟨by show _ < 4096; omega, by show _ < 4096; omega⟩
theorem rot3 {S : List Zp} {t : Tr} (ht : Tri S t) {f : Nat} (hf : f < 3) : ∃ a b c : Nat, Tri S (a, b, c) ∧ ([PyData.int (t.1 : Nat), .int (t.2.1 : Nat), .int (t.2.2 : Nat)].drop f ++ [PyData.int (t.1 : Nat), .int (t.2.1 : Nat), .int (t.2.2 : Nat)].take f) = [.int (a : Nat), .int (b : Nat), .int (c : Nat)] := by
  obtain ⟨a, b, c⟩ := t
  match f, hf with
  | 0, _ => exact ⟨a, b, c, ht, rfl⟩
  | 1, _ => exact ⟨b, c, a, ht.rot, rfl⟩
  | 2, _ => exact ⟨c, a, b, ht.rot.rot, rfl⟩
section
variable {S : List Zp} {T : List Tr} {rest h : Ho} {Q : KD} {E : XD}
theorem wp_split {r : Int} {ns nt : Nat} {g : Int} (G : Gm r ns nt S T) (hr : r < 4096) (hn : ns ≤ 100) (hm : nt ≤ 100) (hg : ∀ p ∈ S, Mul (4 * g) p) (dh : Deal rest h)
    (k : ∀ S' T' h', Deal rest h' → Gm r (ns + 1) (nt + 2) S' T' → (∀ p ∈ S', Mul g p) → Q (.d (.tuple [.list (S'.map zD), .list (T'.map tl)])) h') : M__law_split [.loc 1, .d (.list (S.map zD)), .d (.list (T.map tl))] h Q E := by
  have sz : sizeLine = 2 ^ 24 := rfl
  have ft := G.ft
  have fs := G.fs
  have n0 : 0 < T.length := List.length_pos_iff.2 G.ne
  refine i_mir rfl (by repeat constructor) (by repeat constructor) ?_
  unfold B__law_split
  repeat' array_get_dec
  rw [List.length_map, List.length_map]
  refine wp_any (by omega) (by omega) dh fun v h1 v0 v1 dh => ?_
  obtain ⟨t, rfl⟩ : ∃ t : Nat, v = t := ⟨v.toNat, by omega⟩
  repeat' array_get_dec
  refine wp_any (by decide) (by decide) dh fun w h2 w0 w1 dh => ?_
  obtain ⟨f, rfl⟩ : ∃ f : Nat, w = f := ⟨w.toNat, by omega⟩
  have ht : t < T.length := by omega
  have hT := G.tri T[t] (List.getElem_mem ht)
  obtain ⟨a, b, c, hr3, el⟩ := rot3 hT (show f < 3 by omega)
  have et : T[t]? = some T[t] := List.getElem?_eq_getElem ht
  array_get_dec
  array_get_dec
  array_get_dec
  refine i_asgG ?_
  repeat' array_get_dec
  refine i_ix rfl (get_map et) ?_
  repeat' array_get_dec
  refine i_ix rfl (get_map et) ?_
  repeat' array_get_dec
  rw [cut_n0, cut_0n]
  refine i_addLLe el (by show 3 ≤ sizeLine; decide) ?_
  refine ⟨[some (.loc 1), some (.d (.list (S.map zD))), some (.d (.list (T.map tl))), some (.d (.int (t : Nat))), some (.d (.int (f : Nat))), some (.d (.int (a : Nat))), some (.d (.int (b : Nat))), some (.d (.int (c : Nat))), none, none, none], rfl, ?_⟩
  have nrr : ∀ i, i < S.length → Nr 1 (sp S i) := fun i hi => G.nr hr _ (List.mem_of_getElem? (sp_get hi))
  have mm : ∀ i, i < S.length → Mul (4 * g) (sp S i) := fun i hi => hg _ (List.mem_of_getElem? (sp_get hi))
  have nn : ∀ i, i < S.length → (-r ≤ (sp S i).1 ∧ (sp S i).1 ≤ r) ∧ (-r ≤ (sp S i).2 ∧ (sp S i).2 ≤ r) := fun i hi => G.near _ (List.mem_of_getElem? (sp_get hi))
  have i1 : a < S.length := hr3.i1
  have i2 : b < S.length := hr3.i2
  have i3 : c < S.length := hr3.i3
  obtain ⟨a1, a2⟩ := (⟨(nrr a i1).x, (nrr a i1).y⟩ : Bd 12 (sp S a).1 ∧ Bd 12 (sp S a).2)
  obtain ⟨b1, b2⟩ := (⟨(nrr b i2).x, (nrr b i2).y⟩ : Bd 12 (sp S b).1 ∧ Bd 12 (sp S b).2)
  obtain ⟨c1, c2⟩ := (⟨(nrr c i3).x, (nrr c i3).y⟩ : Bd 12 (sp S c).1 ∧ Bd 12 (sp S c).2)
  have two : Bd 2 2 := by show (2 : Int).natAbs < 4; decide
  array_get_dec
  array_get_dec
  array_get_dec
  repeat' array_get_dec
  refine i_ix rfl (get_map (sp_get i1)) ?_
  repeat' array_get_dec
  · exact cmB two a1 (by decide)
  refine i_ix rfl (get_map (sp_get i2)) ?_
  repeat' array_get_dec
  refine i_ix rfl (get_map (sp_get i3)) ?_
  repeat' array_get_dec
  · exact ⟨by decide, by decide⟩
  refine i_ix rfl (get_map (sp_get i1)) ?_
  repeat' array_get_dec
  · exact cmB two a2 (by decide)
  refine i_ix rfl (get_map (sp_get i2)) ?_
  repeat' array_get_dec
  refine i_ix rfl (get_map (sp_get i3)) ?_
  repeat' array_get_dec
  · exact ⟨by decide, by decide⟩
  obtain ⟨N1, e1, f1, g1⟩ := divq (s := 2 * (sp S a).1 + (sp S b).1 + (sp S c).1) (g := g) (Int.dvd_add (Int.dvd_add (Int.dvd_mul_of_dvd_right (mm a i1).1) (mm b i2).1) (mm c i3).1)
  obtain ⟨N2, e2, f2, g2⟩ := divq (s := 2 * (sp S a).2 + (sp S b).2 + (sp S c).2) (g := g) (Int.dvd_add (Int.dvd_add (Int.dvd_mul_of_dvd_right (mm a i1).2) (mm b i2).2) (mm c i3).2)
  rw [e1, e2]
  refine i_addLLe (rs := (S ++ [(N1, N2)]).map zD) (by rw [List.map_append]; rfl) (by rw [List.length_map, List.length_append]; show S.length + 1 ≤ _; omega) ?_
  repeat' array_get_dec
  rw [cut_0n, show ((t : Nat) : Int) + 1 = ((t + 1 : Nat) : Int) by omega, cut_n0]
  refine i_addLLe (rs := (T.take t ++ T.drop (t + 1)).map tl) (by rw [List.map_append, List.map_take, List.map_drop]) (by rw [List.length_map, List.length_append, List.length_take, List.length_drop]; omega) ?_
  repeat' array_get_dec
  rw [List.length_map, List.length_map]
  refine i_addLLe (rs := (T.take t ++ T.drop (t + 1) ++ [(a, b, S.length), (b, c, S.length), (c, a, S.length)]).map tl) (by simp only [List.map_append]; rfl) (by rw [List.length_map, List.length_append, List.length_append, List.length_take, List.length_drop]; show _ + 3 ≤ _; omega) ?_
  repeat' array_get_dec
  obtain ⟨p1, p2, p3⟩ := area_new (A := sp S a) (B := sp S b) (C := sp S c) (N := (N1, N2)) f1 f2
  have pos := hr3.pos
  have pos : 0 < areaZ (sp S a) (sp S b) (sp S c) := pos
  have len : (S ++ [(N1, N2)]).length = S.length + 1 := by simp
  have na := nn a i1
  have nb := nn b i2
  have nc := nn c i3
  refine k (S ++ [(N1, N2)]) _ h2 dh ⟨fun x hx => ?_, fun p hp => ?_, by omega, ?_, by simp⟩ fun p hp => ?_
  · rw [List.mem_append] at hx
    rcases hx with hx | hx
    · refine (G.tri x ?_).app _
      rw [List.mem_append] at hx
      rcases hx with hx | hx
      · exact List.mem_of_mem_take hx
      · exact List.mem_of_mem_drop hx
    · simp only [List.mem_cons, List.not_mem_nil, or_false] at hx
      rcases hx with rfl | rfl | rfl
      · exact ⟨by dsimp only; omega, by dsimp only; omega, by dsimp only; omega, by dsimp only; rw [sp_app i1, sp_app i2, sp_new]; omega⟩
      · exact ⟨by dsimp only; omega, by dsimp only; omega, by dsimp only; omega, by dsimp only; rw [sp_app i2, sp_app i3, sp_new]; omega⟩
      · exact ⟨by dsimp only; omega, by dsimp only; omega, by dsimp only; omega, by dsimp only; rw [sp_app i3, sp_app i1, sp_new]; omega⟩
  · rw [List.mem_append, List.mem_singleton] at hp
    rcases hp with hp | rfl
    · exact G.near p hp
    · dsimp only
      omega
  · rw [List.length_append, List.length_append, List.length_take, List.length_drop]
    show _ + 3 ≤ _
    omega
  · rw [List.mem_append, List.mem_singleton] at hp
    rcases hp with hp | rfl
    · obtain ⟨d1, d2⟩ := hg p hp
      exact ⟨Int.dvd_trans ⟨4, by rw [Int.mul_comm]⟩ d1, Int.dvd_trans ⟨4, by rw [Int.mul_comm]⟩ d2⟩
    · exact ⟨g1, g2⟩
end
def gq (m i : Nat) : Int := ((max 1 (m / 4 ^ i) : Nat) : Int)
section
variable {rest h : Ho} {Q : KD} {E : XD} {m : Nat}
theorem wp_parted (hm : m = 1 ∨ m = 4 ∨ m = 16 ∨ m = 64) (dh : Deal rest h) (k : ∀ S T h', Deal rest h' → Gm 320 6 7 S T → Q (.d (.tuple [.list (S.map zD), .list (T.map tl)])) h') : M__law_parted [.loc 1, .d (.int (m : Nat))] h Q E := by
  have sz : sizeLine = 2 ^ 24 := rfl
  have m64 : m ≤ 64 := by omega
  have m0 : 1 ≤ m := by omega
  have bm : Bd 7 ((m : Nat) : Int) := by show ((m : Nat) : Int).natAbs < 128; omega
  refine i_mir rfl (by repeat constructor) (by repeat constructor) ?_
  unfold B__law_parted
  repeat' array_get_dec
  refine wp_any (by decide) (by decide) dh fun x h1 x0 x1 dh => ?_
  repeat' array_get_dec
  · exact cmB bm (show Bd 4 (2 + x) by show (2 + x).natAbs < 16; omega) (by decide)
  refine wp_any (by decide) (by decide) dh fun y h2 y0 y1 dh => ?_
  repeat' array_get_dec
  · exact cmB bm (show Bd 4 y by show y.natAbs < 16; omega) (by decide)
  refine wp_any (by decide) (by decide) dh fun z h3 z0 z1 dh => ?_
  repeat' array_get_dec
  · exact cmB bm (show Bd 4 z by show z.natAbs < 16; omega) (by decide)
  refine wp_any (by decide) (by decide) dh fun w h4 w0 w1 dh => ?_
  repeat' array_get_dec
  · exact cmB bm (show Bd 4 (2 + w) by show (2 + w).natAbs < 16; omega) (by decide)
  refine ⟨by decide, by decide, ?_⟩
  have f1 : ((m : Nat) : Int) * (2 + x) ≤ m * 5 := Int.mul_le_mul_of_nonneg_left (by omega) (by omega)
  have f2 : ((m : Nat) : Int) * y ≤ m * 1 := Int.mul_le_mul_of_nonneg_left (by omega) (by omega)
  have f3 : ((m : Nat) : Int) * z ≤ m * 2 := Int.mul_le_mul_of_nonneg_left (by omega) (by omega)
  have f4 : ((m : Nat) : Int) * (2 + w) ≤ m * 5 := Int.mul_le_mul_of_nonneg_left (by omega) (by omega)
  have g1 : (m : Int) * 2 ≤ ((m : Nat) : Int) * (2 + x) := Int.mul_le_mul_of_nonneg_left (by omega) (by omega)
  have g2 : 0 ≤ ((m : Nat) : Int) * y := Int.mul_nonneg (by omega) y0
  have g3 : 0 ≤ ((m : Nat) : Int) * z := Int.mul_nonneg (by omega) z0
  have g4 : (m : Int) * 2 ≤ ((m : Nat) : Int) * (2 + w) := Int.mul_le_mul_of_nonneg_left (by omega) (by omega)
  refine for_ind (fun i ρ h' => Deal rest h' ∧ ∃ (S : List Zp) (T : List Tr) (z4 : Option D), Gm 320 (3 + i) (1 + 2 * i) S T ∧ (∀ p ∈ S, Mul (gq m i) p) ∧ ρ = [some (.loc 1), some (.d (.int (m : Nat))), some (.d (.list (S.map zD))), some (.d (.list (T.map tl))), z4]) ?_ ?_ ⟨dh, [(0, 0), ((m : Int) * (2 + x), (m : Int) * y), ((m : Int) * z, (m : Int) * (2 + w))], [(0, 1, 2)], none, ⟨?_, ?_, Nat.le_of_ble_eq_true rfl, by decide, by simp⟩, ?_, rfl⟩
  · rintro i q ρ h' G ex ⟨dh, S, T, z4, gm, hmul, rfl⟩ hG
    obtain ⟨hi, rfl⟩ := range_get ex
    have hi : i < 3 := hi
    refine ⟨_, rfl, ?_⟩
    show (sIf _ _ _) [some (.loc 1), some (.d (.int (m : Nat))), some (.d (.list (S.map zD))), some (.d (.list (T.map tl))), some (.d (.int (i : Nat)))] _ _
    have nx : ∀ S' T' h'' , Deal rest h'' → Gm 320 (3 + i + 1) (1 + 2 * i + 2) S' T' → (∀ p ∈ S', Mul (gq m (i + 1)) p) → G [some (.loc 1), some (.d (.int (m : Nat))), some (.d (.list (S'.map zD))), some (.d (.list (T'.map tl))), some (.d (.int (i : Nat)))] h'' := fun S' T' h'' d g u =>
      hG _ _ ⟨d, S', T', _, ⟨g.tri, g.near, by have := g.fs; omega, by have := g.ft; omega, g.ne⟩, u, rfl⟩
    have tab : (4 ^ (i + 1) ≤ m → gq m i = 4 * gq m (i + 1)) ∧ (¬ 4 ^ (i + 1) ≤ m → gq m (i + 1) = 1) ∧ L2.atI [D.d (.int 4), .d (.int 16), .d (.int 64)] ((i : Nat) : Int) = some (.d (.int ((4 ^ (i + 1) : Nat) : Int))) := by
      match i, hi with
      | 0, _ => rcases hm with rfl | rfl | rfl | rfl <;> exact ⟨by decide, by decide, rfl⟩
      | 1, _ => rcases hm with rfl | rfl | rfl | rfl <;> exact ⟨by decide, by decide, rfl⟩
      | 2, _ => rcases hm with rfl | rfl | rfl | rfl <;> exact ⟨by decide, by decide, rfl⟩
    obtain ⟨t1, t2, t3⟩ := tab
    repeat' array_get_dec
    refine i_ix rfl t3 ?_
    repeat' array_get_dec
    refine i_ite (fun c => ?_) (fun c => ?_)
    · have c : 4 ^ (i + 1) ≤ m := by have := of_decide_eq_true c; omega
      refine i_asgG ?_
      repeat' array_get_dec
      refine wp_split (g := gq m (i + 1)) gm (by decide) (by omega) (by omega) (fun p hp => by rw [← t1 c]; exact hmul p hp) dh fun S' T' h'' d g u => ?_
      exact ⟨_, rfl, trivial, nx S' T' h'' d g u⟩
    · have c : ¬ 4 ^ (i + 1) ≤ m := by have := of_decide_eq_false c; omega
      repeat' array_get_dec
      refine ⟨trivial, nx S T h' dh ⟨gm.tri, gm.near, by have := gm.fs; omega, by have := gm.ft; omega, gm.ne⟩ fun p hp => ?_⟩
      rw [t2 c]
      exact ⟨Int.one_dvd _, Int.one_dvd _⟩
  · rintro ρ h' ⟨dh, S, T, z4, gm, _, rfl⟩
    repeat' array_get_dec
    exact k S T h' dh gm
  · intro t ht
    rw [List.mem_singleton] at ht
    subst ht
    refine ⟨by show 0 < 3; decide, by show 1 < 3; decide, by show 2 < 3; decide, ?_⟩
    show 0 < ((m : Int) * (2 + x) - 0) * ((m : Int) * (2 + w) - 0) - ((m : Int) * y - 0) * ((m : Int) * z - 0)
    rw [Int.sub_zero, Int.sub_zero, Int.sub_zero, Int.sub_zero]
    have q1 : (m : Int) * 2 * ((m : Int) * 2) ≤ (m : Int) * (2 + x) * ((m : Int) * (2 + w)) := Int.mul_le_mul g1 g4 (by omega) (by omega)
    have q2 : (m : Int) * y * ((m : Int) * z) ≤ (m : Int) * 1 * ((m : Int) * 2) := Int.mul_le_mul f2 f3 g3 (by omega)
    have q3 : 0 < (m : Int) * m := Int.mul_pos (by omega) (by omega)
    have q4 : (m : Int) * 2 * ((m : Int) * 2) = 4 * ((m : Int) * m) := by grind
    have q5 : (m : Int) * 1 * ((m : Int) * 2) = 2 * ((m : Int) * m) := by grind
    omega
  · intro p hp
    simp only [List.mem_cons, List.not_mem_nil, or_false] at hp
    rcases hp with rfl | rfl | rfl
    · decide
    · dsimp only; omega
    · dsimp only; omega
  · intro p hp
    have e : gq m 0 = (m : Int) := by unfold gq; rw [Nat.pow_zero, Nat.div_one]; omega
    rw [e]
    simp only [List.mem_cons, List.not_mem_nil, or_false] at hp
    rcases hp with rfl | rfl | rfl
    · exact ⟨Int.dvd_zero _, Int.dvd_zero _⟩
    · exact ⟨Int.dvd_mul_right _ _, Int.dvd_mul_right _ _⟩
    · exact ⟨Int.dvd_mul_right _ _, Int.dvd_mul_right _ _⟩
end
def fw : List Zp := [(3, 0), (2, 2), (0, 3), (-2, 2), (-3, 0), (-2, -2), (0, -3), (2, -2)]
def fwa (j : Nat) : Zp := fw.getD j (0, 0)
theorem range_get1 {n k : Nat} {x : D} (e : (rangeD 1 n)[k]? = some x) : k < n ∧ x = .d (.int ((k : Nat) + 1)) := by
  unfold rangeD at e
  rw [List.getElem?_map, Option.map_eq_some_iff] at e
  obtain ⟨j, e1, rfl⟩ := e
  obtain ⟨h1, e2⟩ := List.getElem?_eq_some_iff.1 e1
  rw [List.getElem_range] at e2
  subst e2
  rw [List.length_range] at h1
  exact ⟨h1, by rw [Int.add_comm]⟩
theorem area_form (m X Y a b c d : Int) : areaZ (X, Y) (m * a, m * b) (m * c, m * d) = m * ((a * d - b * c) * m + X * (b - d) + Y * (c - a)) := by
  unfold areaZ
  grind
theorem fan_pos {m X Y : Int} (m0 : 1 ≤ m) (cx : -m ≤ 2 * X ∧ 2 * X ≤ m + 1) (cy : -m ≤ 2 * Y ∧ 2 * Y ≤ m + 1) {j : Nat} (hj : j < 8) {s t : Int} (s1 : 1 ≤ s) (s2 : s ≤ 4) (t1 : 1 ≤ t) (t2 : t ≤ 4) :
    0 < areaZ (X, Y) (m * s * (fwa j).1, m * s * (fwa j).2) (m * t * (fwa ((j + 1) % 8)).1, m * t * (fwa ((j + 1) % 8)).2) := by
  rw [Int.mul_assoc, Int.mul_assoc, Int.mul_assoc, Int.mul_assoc, area_form]
  refine Int.mul_pos (by omega) ?_
  have hs : s = 1 ∨ s = 2 ∨ s = 3 ∨ s = 4 := by omega
  have ht : t = 1 ∨ t = 2 ∨ t = 3 ∨ t = 4 := by omega
  match j, hj with
  | 0, _ => rcases hs with rfl | rfl | rfl | rfl <;> rcases ht with rfl | rfl | rfl | rfl <;> (simp only [fwa, fw, List.getD_cons_zero, List.getD_cons_succ]; omega)
  | 1, _ => rcases hs with rfl | rfl | rfl | rfl <;> rcases ht with rfl | rfl | rfl | rfl <;> (simp only [fwa, fw, List.getD_cons_zero, List.getD_cons_succ]; omega)
  | 2, _ => rcases hs with rfl | rfl | rfl | rfl <;> rcases ht with rfl | rfl | rfl | rfl <;> (simp only [fwa, fw, List.getD_cons_zero, List.getD_cons_succ]; omega)
  | 3, _ => rcases hs with rfl | rfl | rfl | rfl <;> rcases ht with rfl | rfl | rfl | rfl <;> (simp only [fwa, fw, List.getD_cons_zero, List.getD_cons_succ]; omega)
  | 4, _ => rcases hs with rfl | rfl | rfl | rfl <;> rcases ht with rfl | rfl | rfl | rfl <;> (simp only [fwa, fw, List.getD_cons_zero, List.getD_cons_succ]; omega)
  | 5, _ => rcases hs with rfl | rfl | rfl | rfl <;> rcases ht with rfl | rfl | rfl | rfl <;> (simp only [fwa, fw, List.getD_cons_zero, List.getD_cons_succ]; omega)
  | 6, _ => rcases hs with rfl | rfl | rfl | rfl <;> rcases ht with rfl | rfl | rfl | rfl <;> (simp only [fwa, fw, List.getD_cons_zero, List.getD_cons_succ]; omega)
  | 7, _ => rcases hs with rfl | rfl | rfl | rfl <;> rcases ht with rfl | rfl | rfl | rfl <;> (simp only [show (7 + 1) % 8 = 0 from rfl, fwa, fw, List.getD_cons_zero, List.getD_cons_succ]; omega)
/-- the corners so far: each so many times its way -/
def Pf (m : Nat) (L : List Zp) : Prop := ∀ j, j < L.length → ∃ s : Int, 1 ≤ s ∧ s ≤ 4 ∧ sp L j = ((m : Int) * s * (fwa j).1, (m : Int) * s * (fwa j).2)
theorem Pf.snoc {m : Nat} {L : List Zp} (h : Pf m L) {s : Int} (h1 : 1 ≤ s) (h2 : s ≤ 4) : Pf m (L ++ [((m : Int) * s * (fwa L.length).1, (m : Int) * s * (fwa L.length).2)]) := by
  intro j hj
  rw [List.length_append, List.length_singleton] at hj
  by_cases c : j < L.length
  · obtain ⟨s, a, b, e⟩ := h j c
    exact ⟨s, a, b, by rw [sp_app c]; exact e⟩
  · have e : j = L.length := by omega
    rw [e]
    exact ⟨s, h1, h2, sp_new⟩
section
variable {rest h : Ho} {Q : KD} {E : XD} {m : Nat}
theorem wp_fan (m0 : 1 ≤ m) (m1 : m ≤ 30) (dh : Deal rest h) (nr : noRef (rest.length + 2) rest = true) (k : ∀ S T h', Deal rest h' → Gm 400 9 8 S T → Q (.d (.tuple [.list (S.map zD), .list (T.map tl)])) h') : M__law_fan [.loc 1, .d (.int (m : Nat))] h Q E := by
  have sz : sizeLine = 2 ^ 24 := rfl
  have bm : Bd 5 ((m : Nat) : Int) := by show ((m : Nat) : Int).natAbs < 32; omega
  show mir 7 2 B__law_fan [.loc 1, .d (.int (m : Nat))] h (frzK Q h.length) E
  refine i_mir rfl (by repeat constructor) (by repeat constructor) ?_
  unfold B__law_fan
  repeat' array_get_dec
  refine i_loc ?_
  repeat' array_get_dec
  refine wp_any (by omega) (by omega) dh fun x h1 x0 x1 dh => ?_
  repeat' array_get_dec
  · exact ⟨by decide, by decide⟩
  refine wp_any (by omega) (by omega) dh fun y h2 y0 y1 dh => ?_
  repeat' array_get_dec
  · exact ⟨by decide, by decide⟩
  refine ⟨by show 1 ≤ sizeLine; decide, ?_⟩
  have ed : ((m : Nat) : Int).fdiv 2 = ((m : Nat) : Int) / 2 := Int.fdiv_eq_ediv_of_nonneg _ (by decide)
  rw [ed]
  have cx : -((m : Nat) : Int) ≤ 2 * (x - ((m : Nat) : Int) / 2) ∧ 2 * (x - ((m : Nat) : Int) / 2) ≤ m + 1 := by omega
  have cy : -((m : Nat) : Int) ≤ 2 * (y - ((m : Nat) : Int) / 2) ∧ 2 * (y - ((m : Nat) : Int) / 2) ≤ m + 1 := by omega
  generalize x - ((m : Nat) : Int) / 2 = X at cx
  generalize y - ((m : Nat) : Int) / 2 = Y at cy
  repeat' array_get_dec
  rw [dh.len]
  have d2 := dh.snoc (.lst (([(X, Y)].map zD).map D.d))
  refine i_iseq (by repeat constructor) rfl ?_
  refine for_ind (fun i ρ h' => ∃ L : List Zp, L.length = i ∧ Pf m L ∧ Deal (rest ++ [.lst ((((X, Y) :: L).map zD).map D.d)]) h' ∧ ∃ z4 z5, ρ = [some (.loc 1), some (.d (.int (m : Nat))), some (.d (.list (fw.map zD))), some (.loc (rest.length + 2)), z4, z5, none]) ?_ ?_ ⟨[], rfl, fun j hj => absurd hj (Nat.not_lt_zero _), d2, _, _, rfl⟩
  · rintro i q ρ h' G ex ⟨L, hl, hp, d, z4, z5, rfl⟩ hG
    have hi : i < 8 := by
      have := (List.getElem?_eq_some_iff.1 ex).1
      simpa using this
    have eq : q = .d (zD (fwa i)) := by
      match i, hi, ex with
      | 0, _, e => cases e; rfl
      | 1, _, e => cases e; rfl
      | 2, _, e => cases e; rfl
      | 3, _, e => cases e; rfl
      | 4, _, e => cases e; rfl
      | 5, _, e => cases e; rfl
      | 6, _, e => cases e; rfl
      | 7, _, e => cases e; rfl
    subst eq
    have fb : (fwa i).1.natAbs < 4 ∧ (fwa i).2.natAbs < 4 := by
      match i, hi with
      | 0, _ => decide
      | 1, _ => decide
      | 2, _ => decide
      | 3, _ => decide
      | 4, _ => decide
      | 5, _ => decide
      | 6, _ => decide
      | 7, _ => decide
    refine ⟨_, rfl, ?_⟩
    show (sSeq _ _) [some (.loc 1), some (.d (.int (m : Nat))), some (.d (.list (fw.map zD))), some (.loc (rest.length + 2)), some (.d (zD (fwa i))), z5, none] _ _
    repeat' array_get_dec
    refine wp_any (by decide) (by decide) d fun w h3 w0 w1 d => ?_
    repeat' array_get_dec
    have bs : Bd 3 (1 + w) := by show (1 + w).natAbs < 8; omega
    · exact cmB bm bs (by decide)
    have bs : Bd 3 (1 + w) := by show (1 + w).natAbs < 8; omega
    have bms : Bd 8 ((m : Int) * (1 + w)) := bm.mul bs
    refine appK_loc (d.at' List.getElem?_concat_length) ?_
    repeat' array_get_dec
    · exact cmB bms (show Bd 2 (fwa i).1 from fb.1) (by decide)
    · exact cmB bms (show Bd 2 (fwa i).2 from fb.2) (by decide)
    refine ⟨_, _, rfl, d.at' List.getElem?_concat_length, ?_, ?_⟩
    · simp only [List.length_map, List.length_cons]
      omega
    · have d3 := d.put rest.length (.lst ((((X, Y) :: L).map zD).map D.d ++ [.d (.tuple [.int ((m : Int) * (1 + w) * (fwa i).1), .int ((m : Int) * (1 + w) * (fwa i).2)])]))
      rw [List.set_append_right _ _ (Nat.le_refl _), Nat.sub_self, List.set_cons_zero] at d3
      have hp2 := hp.snoc (s := 1 + w) (by omega) (by omega)
      rw [hl] at hp2
      refine ⟨trivial, hG _ _ ⟨L ++ [((m : Int) * (1 + w) * (fwa i).1, (m : Int) * (1 + w) * (fwa i).2)], by rw [List.length_append, hl]; rfl, hp2, ?_, _, _, rfl⟩⟩
      rw [← List.cons_append, List.map_append, List.map_append]
      exact d3
  · rintro ρ h' ⟨L, hl, hp, d, z4, z5, rfl⟩
    have hl : L.length = 8 := hl
    repeat' array_get_dec
    obtain ⟨cs, mix, eh, q1, q2, q3, q4⟩ := d.is
    refine i_cons ?_
    repeat' array_get_dec
    refine i_lcv ?_
    repeat' array_get_dec
    refine ⟨by decide, ?_⟩
    refine lcv_ind (hb := h') (fun k acc => acc = (((List.range k).map fun t => ((0, t + 1, 1 + (t + 1) % 8) : Tr)).map tl).map D.d) (fun _ => trivial) ?_ ?_ rfl
    · rintro i z acc ez rfl
      obtain ⟨hi, rfl⟩ := range_get1 ez
      have hi : i < 8 := hi
      refine ⟨_, true, rfl, fun P q => q, fun _ => ⟨.d (tl (0, i + 1, 1 + (i + 1) % 8)), fun P qq => ?_, ?_, ?_⟩, fun e => by cases e⟩
      · show fLst _ [some (.loc 1), some (.d (.int (m : Nat))), some (.d (.list (fw.map zD))), some (.loc (rest.length + 2)), z4, z5, some (.d (.int ((i : Nat) + 1)))] _ _ _
        repeat' array_get_dec
        · decide
        have e : (1 : Int) + (((i : Nat) : Int) + 1) % 8 = ((1 + (i + 1) % 8 : Nat) : Int) := by omega
        rw [e]
        exact qq
      · simp only [List.length_map, List.length_range]
        omega
      · rw [List.range_succ]
        simp
    · rintro acc rfl
      refine ⟨_, allD_of _, ?_⟩
      repeat' array_get_dec
      have er : (rangeD 1 ((9 : Int) - 1).toNat).length = 8 := by decide
      rw [er]
      have hlen := dh.len
      have hh2 : h.length ≤ rest.length + 2 := by
        have := (‹Deal rest h›).len
        omega
      have good : Gm 400 9 8 ((X, Y) :: L) ((List.range 8).map fun t => ((0, t + 1, 1 + (t + 1) % 8) : Tr)) := by
        have hs : ((X, Y) :: L).length = 9 := by rw [List.length_cons, hl]
        refine ⟨fun t ht => ?_, fun p hp' => ?_, by omega, by simp, by simp⟩
        · obtain ⟨j, hj, rfl⟩ := List.mem_map.1 ht
          rw [List.mem_range] at hj
          obtain ⟨s, s1, s2, es⟩ := hp j (by omega)
          obtain ⟨u, u1, u2, eu⟩ := hp ((j + 1) % 8) (by omega)
          have e1 : sp ((X, Y) :: L) (j + 1) = sp L j := by unfold sp; rw [List.getD_cons_succ]
          have e2 : sp ((X, Y) :: L) (1 + (j + 1) % 8) = sp L ((j + 1) % 8) := by unfold sp; rw [Nat.add_comm, List.getD_cons_succ]
          refine ⟨by dsimp only; omega, by dsimp only; omega, by dsimp only; omega, ?_⟩
          dsimp only
          rw [e1, e2, es, eu]
          exact fan_pos (by omega) cx cy hj s1 s2 u1 u2
        · rcases List.mem_cons.1 hp' with rfl | hp'
          · dsimp only; omega
          · obtain ⟨j, hj, rfl⟩ := List.mem_iff_getElem.1 hp'
            obtain ⟨s, s1, s2, es⟩ := hp j hj
            have eg : sp L j = L[j] := by unfold sp; rw [List.getD_eq_getElem?_getD, List.getElem?_eq_getElem hj]; rfl
            rw [← eg, es]
            have ms : (m : Int) * 1 ≤ m * s ∧ (m : Int) * s ≤ m * 4 := ⟨Int.mul_le_mul_of_nonneg_left s1 (by omega), Int.mul_le_mul_of_nonneg_left s2 (by omega)⟩
            generalize (m : Int) * s = q at ms
            rw [hl] at hj
            match j, hj with
            | 0, _ => simp only [fwa, fw, List.getD_cons_zero, List.getD_cons_succ]; omega
            | 1, _ => simp only [fwa, fw, List.getD_cons_zero, List.getD_cons_succ]; omega
            | 2, _ => simp only [fwa, fw, List.getD_cons_zero, List.getD_cons_succ]; omega
            | 3, _ => simp only [fwa, fw, List.getD_cons_zero, List.getD_cons_succ]; omega
            | 4, _ => simp only [fwa, fw, List.getD_cons_zero, List.getD_cons_succ]; omega
            | 5, _ => simp only [fwa, fw, List.getD_cons_zero, List.getD_cons_succ]; omega
            | 6, _ => simp only [fwa, fw, List.getD_cons_zero, List.getD_cons_succ]; omega
            | 7, _ => simp only [fwa, fw, List.getD_cons_zero, List.getD_cons_succ]; omega
      show frzK Q h.length (.pr (rest.length + 2) _) h'
      refine ⟨.lst (cs.map cell) :: .lst [.loc 0, cell mix] :: rest, ((X, Y) :: L).map zD, by rw [eh]; rfl, rfl, hh2, ?_, k _ _ _ ⟨cs, mix, rfl, q1, q2, q3, q4⟩ good⟩
      unfold noRef at nr ⊢
      rw [List.all_cons, List.all_cons, nr, Bool.and_true, Bool.and_eq_true]
      refine ⟨?_, ?_⟩
      · rw [List.all_eq_true]
        intro x hx
        obtain ⟨c, _, rfl⟩ := List.mem_map.1 hx
        rfl
      · show ((0 != rest.length + 2) && true && true) = true
        simp
end
/-- rising from 0, by 1 to 4 each time -/
structure Asc (n : Nat) (xs : List Int) : Prop where
  len : xs.length = n + 1
  zero : xs.getD 0 0 = 0
  step : ∀ i, i < n → xs.getD i 0 + 1 ≤ xs.getD (i + 1) 0 ∧ xs.getD (i + 1) 0 ≤ xs.getD i 0 + 4
theorem Asc.one : Asc 0 [0] := ⟨rfl, rfl, fun i h => absurd h (Nat.not_lt_zero _)⟩
theorem getD_app {xs : List Int} {y : Int} {i : Nat} (h : i < xs.length) : (xs ++ [y]).getD i 0 = xs.getD i 0 := by
  rw [List.getD_eq_getElem?_getD, List.getD_eq_getElem?_getD, List.getElem?_append_left h]
theorem getD_new {xs : List Int} {y : Int} : (xs ++ [y]).getD xs.length 0 = y := by
  rw [List.getD_eq_getElem?_getD, List.getElem?_append_right (Nat.le_refl _)]
  simp
theorem Asc.snoc {n : Nat} {xs : List Int} (h : Asc n xs) {v : Int} (v0 : 0 ≤ v) (v1 : v < 4) : Asc (n + 1) (xs ++ [xs.getD n 0 + 1 + v]) := by
  have hl := h.len
  refine ⟨by rw [List.length_append, hl]; rfl, by rw [getD_app (by omega)]; exact h.zero, fun i hi => ?_⟩
  by_cases c : i < n
  · rw [getD_app (by omega), getD_app (by omega)]
    exact h.step i c
  · have e : i = n := by omega
    subst e
    rw [getD_app (by omega)]
    have : (xs ++ [xs.getD i 0 + 1 + v]).getD (i + 1) 0 = xs.getD i 0 + 1 + v := by rw [← hl]; exact getD_new
    rw [this]
    omega
theorem Asc.bd {n : Nat} {xs : List Int} (h : Asc n xs) : ∀ i, i ≤ n → 0 ≤ xs.getD i 0 ∧ xs.getD i 0 ≤ 4 * i
  | 0, _ => by rw [h.zero]; decide
  | i + 1, hi => by
    have := Asc.bd h i (by omega)
    have := h.step i (by omega)
    omega
theorem Asc.last {n : Nat} {xs : List Int} (h : Asc n xs) : L2.atI ((xs.map PyData.int).map D.d) (-1) = some (.d (.int (xs.getD n 0))) := by
  have hl := h.len
  obtain ⟨ys, y, rfl⟩ : ∃ ys y, xs = ys ++ [y] := by
    rcases List.eq_nil_or_concat xs with rfl | ⟨ys, y, e⟩
    · simp at hl
    · exact ⟨ys, y, by rw [e, List.concat_eq_append]⟩
  rw [List.length_append, List.length_singleton] at hl
  have e : ys.length = n := by omega
  have e2 : (ys ++ [y]).getD n 0 = y := by rw [← e]; exact getD_new
  rw [List.map_append, List.map_append, e2]
  exact atI_last
abbrev iL (xs : List Int) : O := .lst ((xs.map PyData.int).map D.d)
section
variable {rest h : Ho} {Q : KD} {E : XD}
theorem two_at0 {o1 o2 : O} : (rest ++ [o1, o2])[rest.length]? = some o1 := by
  rw [List.getElem?_append_right (Nat.le_refl _)]; simp
theorem two_at1 {o1 o2 : O} : (rest ++ [o1, o2])[rest.length + 1]? = some o2 := by
  rw [List.getElem?_append_right (by omega)]; simp
theorem two_set0 {o1 o2 o : O} : (rest ++ [o1, o2]).set rest.length o = rest ++ [o, o2] := by
  rw [List.set_append_right _ _ (Nat.le_refl _)]; simp
theorem two_set1 {o1 o2 o : O} : (rest ++ [o1, o2]).set (rest.length + 1) o = rest ++ [o1, o] := by
  rw [List.set_append_right _ _ (by omega)]; simp
/-- the corners of a lattice, row by row -/
structure Gd (wide high : Nat) (xs ys : List Int) (S : List Zp) (T : List Tr) : Prop where
  ax : Asc wide xs
  ay : Asc high ys
  len : S.length = (wide + 1) * (high + 1)
  at_ : ∀ r p, r ≤ high → p ≤ wide → sp S (r * (wide + 1) + p) = (xs.getD p 0, ys.getD r 0)
  tri : ∀ t ∈ T, ∃ r p, r < high ∧ p < wide ∧ (t = (r * (wide + 1) + p, r * (wide + 1) + p + 1, r * (wide + 1) + p + wide + 2) ∨ t = (r * (wide + 1) + p, r * (wide + 1) + p + wide + 2, r * (wide + 1) + p + wide + 1) ∨
    t = (r * (wide + 1) + p, r * (wide + 1) + p + 1, r * (wide + 1) + p + wide + 1) ∨ t = (r * (wide + 1) + p + 1, r * (wide + 1) + p + wide + 2, r * (wide + 1) + p + wide + 1))
  few : T.length ≤ 2 * (wide * high)
  ne : T ≠ []
theorem wp_grid41 {wide high : Nat} {gap : Int} (w0 : 1 ≤ wide) (w1 : wide ≤ 3) (h0 : 1 ≤ high) (h1 : high ≤ 3) (hg : gap ≠ 0) (g1 : gap.natAbs < 100) (dh : Deal rest h)
    (k : ∀ S T xs ys h', Deal (rest ++ [iL xs, iL ys]) h' → Gd wide high xs ys S T → Q (.d (.tuple [.list (S.map zD), .list (T.map tl)])) h') : M__law_grid [.loc 1, .d (.int (wide : Nat)), .d (.int (high : Nat)), .d (.int gap)] h Q E := by
  have sz : sizeLine = 2 ^ 24 := rfl
  refine i_mir rfl (by repeat constructor) (by repeat constructor) ?_
  unfold B__law_grid
  repeat' array_get_dec
  refine i_loc ?_
  repeat' array_get_dec
  refine ⟨by show 1 ≤ sizeLine; decide, ?_⟩
  repeat' array_get_dec
  refine i_loc ?_
  repeat' array_get_dec
  refine ⟨by show 1 ≤ sizeLine; decide, ?_⟩
  repeat' array_get_dec
  refine ⟨by omega, by omega, ?_⟩
  have hlen := dh.len
  have d2 : Deal (rest ++ [iL [0], iL [0]]) (h ++ [iL [0]] ++ [iL [0]]) := by
    have := (dh.snoc (iL [0])).snoc (iL [0])
    rw [List.append_assoc] at this
    exact this
  rw [List.length_append, List.length_singleton, hlen]
  refine for_ind (fun i ρ h' => ∃ xs, Asc i xs ∧ Deal (rest ++ [iL xs, iL [0]]) h' ∧ ∃ z6, ρ = [some (.loc 1), some (.d (.int (wide : Nat))), some (.d (.int (high : Nat))), some (.d (.int gap)), some (.loc (rest.length + 2)), some (.loc (rest.length + 2 + 1)), z6, none, none, none, none, none, none, none, none, none]) ?_ ?_ ⟨[0], .one, d2, _, rfl⟩
  · rintro i q ρ h' G ex ⟨xs, hx, d, z6, rfl⟩ hG
    obtain ⟨hi, rfl⟩ := range_get ex
    rw [Int.toNat_natCast] at hi
    have hl := hx.len
    refine ⟨_, rfl, ?_⟩
    show (sDrop _) [some (.loc 1), some (.d (.int (wide : Nat))), some (.d (.int (high : Nat))), some (.d (.int gap)), some (.loc (rest.length + 2)), some (.loc (rest.length + 2 + 1)), some (.d (.int (i : Nat))), none, none, none, none, none, none, none, none, none] _ _
    repeat' array_get_dec
    refine appK_loc (d.at' two_at0) ?_
    repeat' array_get_dec
    refine i_ix (d.items two_at0) hx.last ?_
    repeat' array_get_dec
    refine wp_any (by decide) (by decide) d fun v h2 v0 v1 d => ?_
    repeat' array_get_dec
    refine ⟨_, _, rfl, d.at' two_at0, by rw [List.length_map, List.length_map]; omega, trivial, hG _ _ ⟨_, hx.snoc v0 v1, ?_, _, rfl⟩⟩
    have d3 := d.put rest.length (.lst ((xs.map PyData.int).map D.d ++ [.d (.int (xs.getD i 0 + 1 + v))]))
    rw [two_set0] at d3
    show Deal (rest ++ [.lst (((xs ++ [xs.getD i 0 + 1 + v]).map PyData.int).map D.d), iL [0]]) _
    rw [List.map_append, List.map_append]
    exact d3
  rintro ρ h' ⟨xs, hx, d, z6, rfl⟩
  rw [Int.toNat_natCast, range_len] at hx
  repeat' array_get_dec
  refine ⟨by omega, by omega, ?_⟩
  refine for_ind (fun i ρ h' => ∃ ys, Asc i ys ∧ Deal (rest ++ [iL xs, iL ys]) h' ∧ ∃ z6, ρ = [some (.loc 1), some (.d (.int (wide : Nat))), some (.d (.int (high : Nat))), some (.d (.int gap)), some (.loc (rest.length + 2)), some (.loc (rest.length + 2 + 1)), z6, none, none, none, none, none, none, none, none, none]) ?_ ?_ ⟨[0], .one, d, _, rfl⟩
  · rintro i q ρ h' G ex ⟨ys, hy, d, z6, rfl⟩ hG
    obtain ⟨hi, rfl⟩ := range_get ex
    rw [Int.toNat_natCast] at hi
    have hl := hy.len
    refine ⟨_, rfl, ?_⟩
    show (sDrop _) [some (.loc 1), some (.d (.int (wide : Nat))), some (.d (.int (high : Nat))), some (.d (.int gap)), some (.loc (rest.length + 2)), some (.loc (rest.length + 2 + 1)), some (.d (.int (i : Nat))), none, none, none, none, none, none, none, none, none] _ _
    repeat' array_get_dec
    refine appK_loc (d.at' two_at1) ?_
    repeat' array_get_dec
    refine i_ix (d.items two_at1) hy.last ?_
    repeat' array_get_dec
    refine wp_any (by decide) (by decide) d fun v h2 v0 v1 d => ?_
    repeat' array_get_dec
    refine ⟨_, _, rfl, d.at' two_at1, by rw [List.length_map, List.length_map]; omega, trivial, hG _ _ ⟨_, hy.snoc v0 v1, ?_, _, rfl⟩⟩
    have d3 := d.put (rest.length + 1) (.lst ((ys.map PyData.int).map D.d ++ [.d (.int (ys.getD i 0 + 1 + v))]))
    rw [two_set1] at d3
    show Deal (rest ++ [iL xs, .lst (((ys ++ [ys.getD i 0 + 1 + v]).map PyData.int).map D.d)]) _
    rw [List.map_append, List.map_append]
    exact d3
  rintro ρ h' ⟨ys, hy, d, z6, rfl⟩
  rw [Int.toNat_natCast, range_len] at hy
  repeat' array_get_dec
  refine i_iseqG ?_
  repeat' array_get_dec
  refine ⟨_, d.items two_at1, ?_⟩
  refine for_ind (fun i ρ h2 => h2 = h' ∧ ∃ (S : List Zp) (z9 z10 : Option D), S.length = i * (wide + 1) ∧ (∀ r p, r < i → p ≤ wide → sp S (r * (wide + 1) + p) = (xs.getD p 0, ys.getD r 0)) ∧ ρ = [some (.loc 1), some (.d (.int (wide : Nat))), some (.d (.int (high : Nat))), some (.d (.int gap)), some (.loc (rest.length + 2)), some (.loc (rest.length + 2 + 1)), z6, some (.d (.list (S.map zD))), some (.d (.list [])), z9, z10, none, none, none, none, none]) ?_ ?_ ⟨rfl, [], _, _, by simp, fun r p hr => absurd hr (Nat.not_lt_zero _), rfl⟩
  · rintro i q ρ h2 G ex ⟨rfl, S, z9, z10, hS, hat, rfl⟩ hG
    have hi : i < ys.length := by
      have := (List.getElem?_eq_some_iff.1 ex).1
      simpa using this
    have hy1 := hy.len
    have eq : q = .d (.int (ys.getD i 0)) := by
      rw [List.getElem?_map, List.getElem?_map, List.getElem?_eq_getElem hi] at ex
      cases ex
      rw [List.getD_eq_getElem?_getD, List.getElem?_eq_getElem hi]
      rfl
    subst eq
    refine ⟨_, rfl, ?_⟩
    show (sAsg _ _) [some (.loc 1), some (.d (.int (wide : Nat))), some (.d (.int (high : Nat))), some (.d (.int gap)), some (.loc (rest.length + 2)), some (.loc (rest.length + 2 + 1)), z6, some (.d (.list (S.map zD))), some (.d (.list [])), some (.d (.int (ys.getD i 0))), z10, none, none, none, none, none] _ _
    repeat' array_get_dec
    refine i_lcv ?_
    refine i_iseqG ?_
    repeat' array_get_dec
    refine ⟨_, d.items two_at0, ?_⟩
    have hxl := hx.len
    have ex0 := d.at' (two_at0 (rest := rest) (o1 := iL xs) (o2 := iL ys))
    refine lcv_indS (hb := h2) (fun k acc => acc = (((xs.take k).map fun x => zD (x, ys.getD i 0)).map D.d)) (fun acc => ?_) ?_ ?_ rfl
    · show (h2 ++ [O.lst acc])[rest.length + 2]? = some _
      rw [List.getElem?_append_left (List.getElem?_eq_some_iff.1 ex0).1]
      exact ex0
    · rintro j q acc eq2 rfl
      rw [List.getElem?_map, List.getElem?_map, Option.map_map, Option.map_eq_some_iff] at eq2
      obtain ⟨x, e1, rfl⟩ := eq2
      refine ⟨[some (.loc 1), some (.d (.int (wide : Nat))), some (.d (.int (high : Nat))), some (.d (.int gap)), some (.loc (rest.length + 2)), some (.loc (rest.length + 2 + 1)), z6, some (.d (.list (S.map zD))), some (.d (.list [])), some (.d (.int (ys.getD i 0))), some (.d (.int x)), none, none, none, none, none], .d (zD (x, ys.getD i 0)), rfl, fun P qq => ?_, ?_, ?_⟩
      · repeat' array_get_dec
        exact qq
      · simp only [List.length_map, List.length_take]
        omega
      · rw [List.take_add_one, e1, List.map_append, List.map_append]
        rfl
    · rintro acc rfl
      rw [List.length_map, List.length_map, List.take_length]
      refine ⟨_, allD_of _, ?_⟩
      have er : S.map zD ++ xs.map (fun x => zD (x, ys.getD i 0)) = (S ++ xs.map fun x => (x, ys.getD i 0)).map zD := by
        rw [List.map_append, List.map_map]
        rfl
      have hlt : i * (wide + 1) ≤ 4 * 4 := Nat.mul_le_mul (by omega) (by omega)
      refine i_addLLe er (by rw [List.length_map, List.length_append, List.length_map]; omega) ?_
      repeat' array_get_dec
      refine ⟨d.at' two_at1, hG _ _ ⟨rfl, S ++ xs.map (fun x => (x, ys.getD i 0)), _, _, ?_, ?_, rfl⟩⟩
      · rw [List.length_append, List.length_map, hS, hxl, Nat.succ_mul]
      · intro r p hr hp
        unfold sp
        by_cases c : r < i
        · have := hat r p c hp
          unfold sp at this
          have lt : r * (wide + 1) + p < S.length := by
            rw [hS]
            have : (r + 1) * (wide + 1) ≤ i * (wide + 1) := Nat.mul_le_mul_right _ (by omega)
            rw [Nat.succ_mul] at this
            omega
          rw [List.getD_eq_getElem?_getD, List.getElem?_append_left lt, ← List.getD_eq_getElem?_getD]
          exact this
        · have e : r = i := by omega
          subst e
          rw [List.getD_eq_getElem?_getD, List.getElem?_append_right (by omega), hS, Nat.add_sub_cancel_left, List.getElem?_map, List.getElem?_eq_getElem (by omega)]
          refine Prod.ext ?_ rfl
          show xs[p]'_ = xs.getD p 0
          rw [List.getD_eq_getElem?_getD, List.getElem?_eq_getElem (by omega)]
          rfl
  · rintro ρ h2 ⟨rfl, S, z9, z10, hS, hat, rfl⟩
    rw [List.length_map, List.length_map, hy.len] at hS hat
    repeat' array_get_dec
    · exact cmB (show Bd 3 ((wide : Nat) : Int) by show ((wide : Nat) : Int).natAbs < 8; omega) (show Bd 3 ((high : Nat) : Int) by show ((high : Nat) : Int).natAbs < 8; omega) (by decide)
    have hwh : wide * high ≤ 3 * 3 := Nat.mul_le_mul w1 h1
    have hwh0 : 0 < wide * high := Nat.mul_pos w0 h0
    rw [show ((wide : Nat) : Int) * (high : Nat) = ((wide * high : Nat) : Int) by rw [Int.natCast_mul]]
    refine ⟨by omega, by omega, ?_⟩
    refine for_ind (fun i ρ h3 => Deal (rest ++ [iL xs, iL ys]) h3 ∧ ∃ (T : List Tr) (z11 z12 z13 z14 z15 : Option D), T.length ≤ 2 * i ∧ (1 ≤ i → T ≠ []) ∧
      (∀ t ∈ T, ∃ r p, r < high ∧ p < wide ∧ (t = (r * (wide + 1) + p, r * (wide + 1) + p + 1, r * (wide + 1) + p + wide + 2) ∨ t = (r * (wide + 1) + p, r * (wide + 1) + p + wide + 2, r * (wide + 1) + p + wide + 1) ∨
        t = (r * (wide + 1) + p, r * (wide + 1) + p + 1, r * (wide + 1) + p + wide + 1) ∨ t = (r * (wide + 1) + p + 1, r * (wide + 1) + p + wide + 2, r * (wide + 1) + p + wide + 1))) ∧
      ρ = [some (.loc 1), some (.d (.int (wide : Nat))), some (.d (.int (high : Nat))), some (.d (.int gap)), some (.loc (rest.length + 2)), some (.loc (rest.length + 2 + 1)), z6, some (.d (.list (S.map zD))), some (.d (.list (T.map tl))), z9, z10, z11, z12, z13, z14, z15]) ?_ ?_ ⟨d, [], _, _, _, _, _, by simp, fun h => absurd h (by decide), by simp, rfl⟩
    · rintro i q ρ h3 G ex ⟨d, T, z11, z12, z13, z14, z15, ht1, ht2, ht3, rfl⟩ hG
      obtain ⟨hi, rfl⟩ := range_get ex
      rw [Int.toNat_natCast] at hi
      have hr : i / wide < high := Nat.div_lt_of_lt_mul hi
      have hp : i % wide < wide := Nat.mod_lt _ (by omega)
      refine ⟨_, rfl, ?_⟩
      show (sSeq _ _) [some (.loc 1), some (.d (.int (wide : Nat))), some (.d (.int (high : Nat))), some (.d (.int gap)), some (.loc (rest.length + 2)), some (.loc (rest.length + 2 + 1)), z6, some (.d (.list (S.map zD))), some (.d (.list (T.map tl))), z9, z10, some (.d (.int (i : Nat))), z12, z13, z14, z15] _ _
      have efd : ((i : Nat) : Int).fdiv ((wide : Nat) : Int) = ((i / wide : Nat) : Int) := by rw [Int.fdiv_eq_ediv_of_nonneg _ (by omega), Int.natCast_ediv]
      have emd : ((i : Nat) : Int) % ((wide : Nat) : Int) = ((i % wide : Nat) : Int) := by rw [Int.natCast_emod]
      repeat' array_get_dec
      · exact cdiv_nat (n := 3) (by omega) (by decide) (by omega) (by decide)
      · rw [efd]
        exact cmB (show Bd 3 ((i / wide : Nat) : Int) by show ((i / wide : Nat) : Int).natAbs < 8; rw [Int.natAbs_natCast]; exact Nat.lt_of_lt_of_le hr (by omega)) (show Bd 3 (((wide : Nat) : Int) + 1) by show (((wide : Nat) : Int) + 1).natAbs < 8; omega) (by decide)
      · omega
      have ea : ((i : Nat) : Int).fdiv ((wide : Nat) : Int) * (((wide : Nat) : Int) + 1) + ((i : Nat) : Int) % ((wide : Nat) : Int) = ((i / wide * (wide + 1) + i % wide : Nat) : Int) := by
        rw [efd, emd, Int.natCast_add, Int.natCast_mul]
        rfl
      rw [ea]
      generalize hA : i / wide * (wide + 1) + i % wide = A
      have eb : ((A : Nat) : Int) + 1 = ((A + 1 : Nat) : Int) := rfl
      have ec : ((A : Nat) : Int) + ((wide : Nat) : Int) + 2 = ((A + wide + 2 : Nat) : Int) := by omega
      have ed : ((A : Nat) : Int) + ((wide : Nat) : Int) + 1 = ((A + wide + 1 : Nat) : Int) := by omega
      rw [eb, ec, ed]
      refine i_ite (fun c => ?_) (fun c => ?_)
      · repeat' array_get_dec
        refine wp_any (by decide) (by decide) d fun v h4 v0 v1 d => ?_
        repeat' array_get_dec
        have nx : ∀ (t u : Tr), (t = (A, A + 1, A + wide + 2) ∨ t = (A, A + wide + 2, A + wide + 1) ∨ t = (A, A + 1, A + wide + 1) ∨ t = (A + 1, A + wide + 2, A + wide + 1)) → (u = (A, A + 1, A + wide + 2) ∨ u = (A, A + wide + 2, A + wide + 1) ∨ u = (A, A + 1, A + wide + 1) ∨ u = (A + 1, A + wide + 2, A + wide + 1)) →
            G [some (.loc 1), some (.d (.int (wide : Nat))), some (.d (.int (high : Nat))), some (.d (.int gap)), some (.loc (rest.length + 2)), some (.loc (rest.length + 2 + 1)), z6, some (.d (.list (S.map zD))), some (.d (.list ((T ++ [t, u]).map tl))), z9, z10, some (.d (.int (i : Nat))), some (.d (.int (A : Nat))), some (.d (.int (A + 1 : Nat))), some (.d (.int (A + wide + 2 : Nat))), some (.d (.int (A + wide + 1 : Nat)))] h4 := fun t u e1 e2 =>
          hG _ _ ⟨d, T ++ [t, u], _, _, _, _, _, by rw [List.length_append]; show T.length + 2 ≤ _; omega, fun _ => by simp, fun x hx' => by
            rw [List.mem_append] at hx'
            rcases hx' with hx' | hx'
            · exact ht3 x hx'
            · simp only [List.mem_cons, List.not_mem_nil, or_false] at hx'
              refine ⟨i / wide, i % wide, hr, hp, ?_⟩
              rw [hA]
              rcases hx' with rfl | rfl
              · exact e1
              · exact e2, rfl⟩
        refine i_ite (fun _ => ?_) (fun _ => ?_)
        · repeat' array_get_dec
          refine i_addLLe (rs := (T ++ [(A, A + 1, A + wide + 2), (A, A + wide + 2, A + wide + 1)]).map tl) (by rw [List.map_append]; rfl) (by rw [List.length_map, List.length_append]; show T.length + 2 ≤ _; omega) ?_
          repeat' array_get_dec
          exact ⟨trivial, nx _ _ (.inl rfl) (.inr (.inl rfl))⟩
        · repeat' array_get_dec
          refine i_addLLe (rs := (T ++ [(A, A + 1, A + wide + 1), (A + 1, A + wide + 2, A + wide + 1)]).map tl) (by rw [List.map_append]; rfl) (by rw [List.length_map, List.length_append]; show T.length + 2 ≤ _; omega) ?_
          repeat' array_get_dec
          exact ⟨trivial, nx _ _ (.inr (.inr (.inl rfl))) (.inr (.inr (.inr rfl)))⟩
      · repeat' array_get_dec
        have ig : (i : Int) = gap := by
          rw [Bool.not_eq_false', decide_eq_true_eq] at c
          exact c
        exact ⟨trivial, hG _ _ ⟨d, T, _, _, _, _, _, by omega, fun _ => ht2 (by omega), ht3, rfl⟩⟩
    · rintro ρ h3 ⟨d, T, z11, z12, z13, z14, z15, ht1, ht2, ht3, rfl⟩
      rw [Int.toNat_natCast, range_len] at ht1 ht2
      repeat' array_get_dec
      exact k S T xs ys h3 d ⟨hx, hy, by rw [hS, Nat.mul_comm], fun r p hr hp => hat r p (by omega) hp, ht3, ht1, ht2 hwh0⟩
end
/-! a lattice that is grown and moved a little: all its triangles are turned left -/
theorem pos4 {p q e a b s r : Int} (he : 0 ≤ e) (hp : 8 * e ≤ p) (hq : 8 * e ≤ q) (p0 : 0 < p) (q0 : 0 < q) (ha : p - 2 * e ≤ a) (hb : q - 2 * e ≤ b) (hs : s ≤ 2 * e) (hs2 : -(2 * e) ≤ s) (hr : r ≤ p + 2 * e) (hr2 : -(p + 2 * e) ≤ r) : 0 < a * b - s * r := by
  have h1 : (p - 2 * e) * (q - 2 * e) ≤ a * b := Int.mul_le_mul ha hb (by omega) (by omega)
  have h2 : s * r ≤ 2 * e * (p + 2 * e) := by
    by_cases c : 0 ≤ r
    · have k1 : s * r ≤ 2 * e * r := Int.mul_le_mul_of_nonneg_right hs c
      have k2 : 2 * e * r ≤ 2 * e * (p + 2 * e) := Int.mul_le_mul_of_nonneg_left hr (by omega)
      omega
    · have k1 : (-s) * (-r) ≤ 2 * e * (-r) := Int.mul_le_mul_of_nonneg_right (by omega) (by omega)
      have k2 : 2 * e * (-r) ≤ 2 * e * (p + 2 * e) := Int.mul_le_mul_of_nonneg_left (by omega) (by omega)
      rw [Int.neg_mul_neg] at k1
      omega
  have h3 : 0 ≤ p * (q - 8 * e) := Int.mul_nonneg (by omega) (by omega)
  have h4 : 0 < q * (p - 4 * e) := Int.mul_pos q0 (by omega)
  have h5 : 2 * ((p - 2 * e) * (q - 2 * e) - 2 * e * (p + 2 * e)) = p * (q - 8 * e) + q * (p - 4 * e) := by grind
  omega
/-- the four corners of a cell, each moved by e at most -/
theorem cell_pos {p q e : Int} {A B C D : Zp} (he : 0 ≤ e) (hp : 8 * e ≤ p) (hq : 8 * e ≤ q) (p0 : 0 < p) (q0 : 0 < q)
    (b1 : p - 2 * e ≤ B.1 - A.1 ∧ B.1 - A.1 ≤ p + 2 * e) (b2 : -(2 * e) ≤ B.2 - A.2 ∧ B.2 - A.2 ≤ 2 * e) (c1 : p - 2 * e ≤ C.1 - A.1 ∧ C.1 - A.1 ≤ p + 2 * e) (c2 : q - 2 * e ≤ C.2 - A.2 ∧ C.2 - A.2 ≤ q + 2 * e)
    (d1 : -(2 * e) ≤ D.1 - A.1 ∧ D.1 - A.1 ≤ 2 * e) (d2 : q - 2 * e ≤ D.2 - A.2 ∧ D.2 - A.2 ≤ q + 2 * e)
    (x1 : -(2 * e) ≤ C.1 - B.1 ∧ C.1 - B.1 ≤ 2 * e) (x2 : q - 2 * e ≤ C.2 - B.2 ∧ C.2 - B.2 ≤ q + 2 * e) (y1 : p - 2 * e ≤ B.1 - D.1 ∧ B.1 - D.1 ≤ p + 2 * e) (y2 : q - 2 * e ≤ D.2 - B.2 ∧ D.2 - B.2 ≤ q + 2 * e) :
    0 < areaZ A B C ∧ 0 < areaZ A C D ∧ 0 < areaZ A B D ∧ 0 < areaZ B C D := by
  refine ⟨?_, ?_, ?_, ?_⟩
  · exact pos4 he hp hq p0 q0 b1.1 c2.1 b2.2 b2.1 c1.2 (by omega)
  · have h := pos4 (a := D.2 - A.2) (b := C.1 - A.1) (s := D.1 - A.1) (r := C.2 - A.2) he hq hp q0 p0 d2.1 c1.1 d1.2 d1.1 c2.2 (by omega)
    have e1 : areaZ A C D = (D.2 - A.2) * (C.1 - A.1) - (D.1 - A.1) * (C.2 - A.2) := by unfold areaZ; grind
    rw [e1]
    exact h
  · exact pos4 he hp hq p0 q0 b1.1 d2.1 b2.2 b2.1 (by omega) (by omega)
  · have h := pos4 (a := C.2 - B.2) (b := B.1 - D.1) (s := -(C.1 - B.1)) (r := D.2 - B.2) he hq hp q0 p0 x2.1 y1.1 (by omega) (by omega) y2.2 (by omega)
    have e1 : areaZ B C D = (C.2 - B.2) * (B.1 - D.1) - -(C.1 - B.1) * (D.2 - B.2) := by unfold areaZ; grind
    rw [e1]
    exact h
/-- each spot near m times that of the lattice -/
def Off (m : Nat) (e : Int) (S S' : List Zp) : Prop := S'.length = S.length ∧ ∀ i, i < S.length → ((m : Int) * (sp S i).1 - e ≤ (sp S' i).1 ∧ (sp S' i).1 ≤ (m : Int) * (sp S i).1 + e) ∧ ((m : Int) * (sp S i).2 - e ≤ (sp S' i).2 ∧ (sp S' i).2 ≤ (m : Int) * (sp S i).2 + e)
theorem grid_tri {wide high m : Nat} {e : Int} {xs ys : List Int} {S S' : List Zp} {T : List Tr} (g : Gd wide high xs ys S T) (m0 : 1 ≤ m) (he : 0 ≤ e) (hm : 8 * e ≤ m) (o : Off m e S S') : ∀ t ∈ T, Tri S' t := by
  intro t ht
  obtain ⟨r, p, hr, hp, hc⟩ := g.tri t ht
  obtain ⟨ol, o⟩ := o
  have sl := g.len
  have row : (r + 1) * (wide + 1) + (wide + 1) ≤ (wide + 1) * (high + 1) := by
    have : (r + 1 + 1) * (wide + 1) ≤ (high + 1) * (wide + 1) := Nat.mul_le_mul_right _ (by omega)
    rw [Nat.succ_mul, Nat.mul_comm (high + 1)] at this
    exact this
  have rw1 : (r + 1) * (wide + 1) = r * (wide + 1) + (wide + 1) := Nat.succ_mul _ _
  have ia : r * (wide + 1) + p < S.length := by omega
  have ib : r * (wide + 1) + p + 1 < S.length := by omega
  have ic : r * (wide + 1) + p + wide + 2 < S.length := by omega
  have id : r * (wide + 1) + p + wide + 1 < S.length := by omega
  have ea := g.at_ r p (by omega) (by omega)
  have eb := g.at_ r (p + 1) (by omega) (by omega)
  have ec := g.at_ (r + 1) (p + 1) (by omega) (by omega)
  have ed := g.at_ (r + 1) p (by omega) (by omega)
  rw [show r * (wide + 1) + (p + 1) = r * (wide + 1) + p + 1 by omega] at eb
  rw [show (r + 1) * (wide + 1) + (p + 1) = r * (wide + 1) + p + wide + 2 by omega] at ec
  rw [show (r + 1) * (wide + 1) + p = r * (wide + 1) + p + wide + 1 by omega] at ed
  have oa := o _ ia
  have ob := o _ ib
  have oc := o _ ic
  have od := o _ id
  rw [ea] at oa
  rw [eb] at ob
  rw [ec] at oc
  rw [ed] at od
  have hx := (g.ax.step p hp).1
  have hy := (g.ay.step r hr).1
  generalize xs.getD p 0 = x1 at *
  generalize xs.getD (p + 1) 0 = x2 at *
  generalize ys.getD r 0 = y1 at *
  generalize ys.getD (r + 1) 0 = y2 at *
  have px : (m : Int) * 1 ≤ m * (x2 - x1) := Int.mul_le_mul_of_nonneg_left (by omega) (by omega)
  have py : (m : Int) * 1 ≤ m * (y2 - y1) := Int.mul_le_mul_of_nonneg_left (by omega) (by omega)
  rw [Int.mul_sub] at px py
  dsimp only at oa ob oc od
  obtain ⟨q1, q2, q3, q4⟩ := cell_pos (p := (m : Int) * x2 - m * x1) (q := (m : Int) * y2 - m * y1) (e := e) (A := sp S' (r * (wide + 1) + p)) (B := sp S' (r * (wide + 1) + p + 1)) (C := sp S' (r * (wide + 1) + p + wide + 2)) (D := sp S' (r * (wide + 1) + p + wide + 1)) he (by omega) (by omega) (by omega) (by omega)
    (by omega) (by omega) (by omega) (by omega) (by omega) (by omega) (by omega) (by omega) (by omega) (by omega)
  rcases hc with rfl | rfl | rfl | rfl
  · exact ⟨by dsimp only; omega, by dsimp only; omega, by dsimp only; omega, q1⟩
  · exact ⟨by dsimp only; omega, by dsimp only; omega, by dsimp only; omega, q2⟩
  · exact ⟨by dsimp only; omega, by dsimp only; omega, by dsimp only; omega, q3⟩
  · exact ⟨by dsimp only; omega, by dsimp only; omega, by dsimp only; omega, q4⟩
/-- moved so far: all near, those from an index on not at all -/
structure Mvd (e : Int) (b : Nat) (S S' : List Zp) : Prop where
  len : S'.length = S.length
  near : ∀ i, i < S.length → ((sp S i).1 - e ≤ (sp S' i).1 ∧ (sp S' i).1 ≤ (sp S i).1 + e) ∧ ((sp S i).2 - e ≤ (sp S' i).2 ∧ (sp S' i).2 ≤ (sp S i).2 + e)
  rest : ∀ i, b ≤ i → sp S' i = sp S i
theorem sp_set {S : List Zp} {p : Zp} {i j : Nat} : sp (S.set i p) j = if i = j ∧ i < S.length then p else sp S j := by
  unfold sp
  rw [List.getD_eq_getElem?_getD, List.getD_eq_getElem?_getD, List.getElem?_set]
  by_cases c : i = j
  · subst c
    by_cases d : i < S.length
    · rw [if_pos rfl, if_pos d, if_pos ⟨rfl, d⟩]; rfl
    · rw [if_pos rfl, if_neg d, if_neg (fun z => d z.2), List.getElem?_eq_none (by omega)]
  · rw [if_neg c, if_neg (fun z => c z.1)]
theorem Mvd.mono {e : Int} {b c : Nat} {S S' : List Zp} (h : Mvd e b S S') (hc : b ≤ c) : Mvd e c S S' := ⟨h.len, h.near, fun i hi => h.rest i (by omega)⟩
theorem Mvd.set {e : Int} {b : Nat} {S S' : List Zp} (h : Mvd e b S S') {x y : Int} (hb : b < S.length) (hx : -e ≤ x ∧ x ≤ e) (hy : -e ≤ y ∧ y ≤ e) : Mvd e (b + 1) S (S'.set b ((sp S' b).1 + x, (sp S' b).2 + y)) := by
  have hr := h.rest b (Nat.le_refl _)
  refine ⟨by rw [List.length_set]; exact h.len, fun i hi => ?_, fun i hi => ?_⟩
  · rw [sp_set]
    by_cases c : b = i ∧ b < S'.length
    · rw [if_pos c, ← c.1, hr]
      dsimp only
      omega
    · rw [if_neg c]
      exact h.near i hi
  · rw [sp_set, if_neg (by omega)]
    exact h.rest i (by omega)
section
variable {rest h : Ho} {Q : KD} {E : XD} {S : List Zp}
theorem wp_moved {m wide high : Nat} (m0 : 1 ≤ m) (m1 : m ≤ 30) (w1 : wide ≤ 3) (h1 : high ≤ 3) (hl : S.length = (wide + 1) * (high + 1)) (hb : ∀ p ∈ S, (-1000 ≤ p.1 ∧ p.1 ≤ 1000) ∧ (-1000 ≤ p.2 ∧ p.2 ≤ 1000)) (dh : Deal rest h) (nr : noRef (rest.length + 2) rest = true)
    (k : ∀ S' h', Deal rest h' → S'.length = S.length → (∀ i, i < S.length → ((sp S i).1 - m / 8 ≤ (sp S' i).1 ∧ (sp S' i).1 ≤ (sp S i).1 + m / 8) ∧ ((sp S i).2 - m / 8 ≤ (sp S' i).2 ∧ (sp S' i).2 ≤ (sp S i).2 + m / 8)) → Q (.d (.list (S'.map zD))) h') :
    M__law_moved [.loc 1, .d (.int (m : Nat)), .d (.list (S.map zD)), .d (.int (wide : Nat)), .d (.int (high : Nat))] h Q E := by
  have sz : sizeLine = 2 ^ 24 := rfl
  show mir 10 5 B__law_moved _ h (frzK Q h.length) E
  refine i_mir rfl (by repeat constructor) (by repeat constructor) ?_
  unfold B__law_moved
  repeat' array_get_dec
  refine ⟨_, _, rfl, rfl, ?_⟩
  repeat' array_get_dec
  · exact ⟨by decide, by decide⟩
  have ef : ((m : Nat) : Int).fdiv 8 = ((m : Nat) : Int) / 8 := Int.fdiv_eq_ediv_of_nonneg _ (by decide)
  rw [ef]
  have e0 : 0 ≤ ((m : Nat) : Int) / 8 := by omega
  have e3 : ((m : Nat) : Int) / 8 ≤ 3 := by omega
  generalize ((m : Nat) : Int) / 8 = e at *
  have d2 := dh.snoc (.lst ((S.map zD).map D.d))
  rw [dh.len]
  repeat' array_get_dec
  refine ⟨⟨by decide, by decide, by omega, by omega⟩, ?_⟩
  refine for_ind (fun j ρ h' => ∃ (S' : List Zp) (z7 z8 z9 : Option D), Mvd e ((j + 1) * (wide + 1)) S S' ∧ Deal (rest ++ [.lst ((S'.map zD).map D.d)]) h' ∧ ρ = [some (.loc 1), some (.d (.int (m : Nat))), some (.d (.list (S.map zD))), some (.d (.int (wide : Nat))), some (.d (.int (high : Nat))), some (.loc (rest.length + 2)), some (.d (.int e)), z7, z8, z9]) ?_ ?_ ⟨S, _, _, _, ⟨rfl, fun i hi => by omega, fun i _ => rfl⟩, d2, rfl⟩
  · rintro j q ρ h' G ex ⟨S', z7, z8, z9, mv, d, rfl⟩ hG
    obtain ⟨hj, rfl⟩ := range_get1 ex
    have hj2 : j + 1 < high := by omega
    refine ⟨_, rfl, ?_⟩
    show (sFor _ _ _) [some (.loc 1), some (.d (.int (m : Nat))), some (.d (.list (S.map zD))), some (.d (.int (wide : Nat))), some (.d (.int (high : Nat))), some (.loc (rest.length + 2)), some (.d (.int e)), some (.d (.int ((j : Nat) + 1))), z8, z9] _ _
    have hrow : (j + 2) * (wide + 1) ≤ (high + 1) * (wide + 1) := Nat.mul_le_mul_right _ (by omega)
    have hr2 : (j + 2) * (wide + 1) = (j + 1) * (wide + 1) + (wide + 1) := Nat.succ_mul _ _
    have hsl : (high + 1) * (wide + 1) = S.length := by rw [hl, Nat.mul_comm]
    repeat' array_get_dec
    refine ⟨⟨by decide, by decide, by omega, by omega⟩, ?_⟩
    refine for_ind (fun l ρ h' => ∃ (S' : List Zp) (z8 z9 : Option D), Mvd e ((j + 1) * (wide + 1) + (l + 1)) S S' ∧ Deal (rest ++ [.lst ((S'.map zD).map D.d)]) h' ∧ ρ = [some (.loc 1), some (.d (.int (m : Nat))), some (.d (.list (S.map zD))), some (.d (.int (wide : Nat))), some (.d (.int (high : Nat))), some (.loc (rest.length + 2)), some (.d (.int e)), some (.d (.int ((j : Nat) + 1))), z8, z9]) ?_ ?_ ⟨S', _, _, mv.mono (by omega), d, rfl⟩
    · rintro l q ρ h' G2 ex2 ⟨S', z8, z9, mv, d, rfl⟩ hG2
      obtain ⟨hl2, rfl⟩ := range_get1 ex2
      have hl3 : l + 1 < wide := by omega
      have hat : (j + 1) * (wide + 1) + (l + 1) < S.length := by omega
      have mvl := mv.len
      refine ⟨_, rfl, ?_⟩
      show (sSeq _ _) [some (.loc 1), some (.d (.int (m : Nat))), some (.d (.list (S.map zD))), some (.d (.int (wide : Nat))), some (.d (.int (high : Nat))), some (.loc (rest.length + 2)), some (.d (.int e)), some (.d (.int ((j : Nat) + 1))), some (.d (.int ((l : Nat) + 1))), z9] _ _
      have eat : (((j : Nat) : Int) + 1) * (((wide : Nat) : Int) + 1) + (((l : Nat) : Int) + 1) = (((j + 1) * (wide + 1) + (l + 1) : Nat) : Int) := by
        rw [Int.natCast_add, Int.natCast_mul]
        rfl
      have ins : rest.length < (rest ++ [O.lst ((S'.map zD).map D.d)]).length := by simp
      have bj : Bd 3 (((j : Nat) : Int) + 1) := by show (((j : Nat) : Int) + 1).natAbs < 8; omega
      have bw : Bd 3 (((wide : Nat) : Int) + 1) := by show (((wide : Nat) : Int) + 1).natAbs < 8; omega
      repeat' array_get_dec
      · exact cmB bj bw (by decide)
      rw [eat]
      generalize hA : (j + 1) * (wide + 1) + (l + 1) = at_ at mv hat ⊢
      have g1 : S'[at_]? = some (sp S' at_) := sp_get (by omega)
      have a0 : ∀ o : O, (rest ++ [o])[rest.length]? = some o := fun o => List.getElem?_concat_length
      refine i_ix (d.items (a0 _)) (get_map g1) ?_
      repeat' array_get_dec
      · exact cmB (show Bd 2 2 by show (2 : Int).natAbs < 4; decide) (show Bd 2 e by show e.natAbs < 4; omega) (by decide)
      refine wp_any (by omega) (by omega) d fun v h2 v0 v1 d => ?_
      repeat' array_get_dec
      refine i_ix (d.items (a0 _)) (get_map g1) ?_
      repeat' array_get_dec
      · exact cmB (show Bd 2 2 by show (2 : Int).natAbs < 4; decide) (show Bd 2 e by show e.natAbs < 4; omega) (by decide)
      refine wp_any (by omega) (by omega) d fun w h3 w0 w1 d => ?_
      repeat' array_get_dec
      refine subK_loc (j := at_) (d.at' (a0 _)) ?_ rfl ?_
      · unfold ixN
        rw [List.length_map, List.length_map, if_pos (by omega), if_pos (by omega), Int.toNat_natCast]
      have mv2 := mv.set (x := v - e) (y := w - e) hat (by omega) (by omega)
      have d3 := d.put rest.length (.lst (((S'.map zD).map D.d).set at_ (.d (.tuple [.int ((sp S' at_).1 + v - e), .int ((sp S' at_).2 + w - e)]))))
      rw [List.set_append_right _ _ (Nat.le_refl _), Nat.sub_self, List.set_cons_zero] at d3
      refine ⟨trivial, hG2 _ _ ⟨S'.set at_ ((sp S' at_).1 + (v - e), (sp S' at_).2 + (w - e)), _, _, mv2.mono (by rw [← hA]; omega), ?_, rfl⟩⟩
      rw [List.map_set, List.map_set]
      show Deal (rest ++ [O.lst (((S'.map zD).map D.d).set at_ (.d (.tuple [.int ((sp S' at_).1 + (v - e)), .int ((sp S' at_).2 + (w - e))])))]) _
      rw [show (sp S' at_).1 + (v - e) = (sp S' at_).1 + v - e by omega, show (sp S' at_).2 + (w - e) = (sp S' at_).2 + w - e by omega]
      exact d3
    · rintro ρ h' ⟨S', z8, z9, mv, d, rfl⟩
      exact ⟨trivial, hG _ _ ⟨S', _, _, _, mv.mono (by
        have : (rangeD 1 (((wide : Nat) : Int) - 1).toNat).length ≤ wide := by unfold rangeD; rw [List.length_map, List.length_range]; omega
        rw [show j + 1 + 1 = j + 2 from rfl, hr2]
        omega), d, rfl⟩⟩
  · rintro ρ h' ⟨S', z7, z8, z9, mv, d, rfl⟩
    repeat' array_get_dec
    obtain ⟨cs, mix, eh, q1, q2, q3, q4⟩ := d.is
    have hh2 : h.length ≤ rest.length + 2 := by have := dh.len; omega
    refine ⟨.lst (cs.map cell) :: .lst [.loc 0, cell mix] :: rest, S'.map zD, by rw [eh]; rfl, rfl, hh2, ?_, k S' _ ⟨cs, mix, rfl, q1, q2, q3, q4⟩ mv.len mv.near⟩
    unfold noRef at nr ⊢
    rw [List.all_cons, List.all_cons, nr, Bool.and_true, Bool.and_eq_true]
    refine ⟨?_, ?_⟩
    · rw [List.all_eq_true]
      intro x hx
      obtain ⟨c, _, rfl⟩ := List.mem_map.1 hx
      rfl
    · show ((0 != rest.length + 2) && true && true) = true
      simp
end
section
variable {rest h : Ho} {Q : KD} {E : XD} {S : List Zp}
theorem wp_worths {r : Int} (hr : r ≤ 1300) (hb : ∀ p ∈ S, (-r ≤ p.1 ∧ p.1 ≤ r) ∧ (-r ≤ p.2 ∧ p.2 ≤ r)) (hl : S.length ≤ 100) (h0 : 0 < S.length) (dh : Deal rest h) (nr : noRef (rest.length + 2) rest = true)
    (k : ∀ (W : List Int) h', Deal rest h' → W.length = S.length → (∀ x ∈ W, Bd 14 x) → Q (.d (.list (W.map PyData.int))) h') : M__law_worths [.loc 1, .d (.list (S.map zD))] h Q E := by
  have sz : sizeLine = 2 ^ 24 := rfl
  have bx : ∀ p ∈ S, Bd 12 p.1 ∧ Bd 12 p.2 := fun p hp => by
    obtain ⟨⟨a, b⟩, c, d⟩ := hb p hp
    exact ⟨by show _ < 4096; omega, by show _ < 4096; omega⟩
  refine i_mir rfl (by repeat constructor) (by repeat constructor) ?_
  unfold B__law_worths
  repeat' array_get_dec
  refine wp_any (by decide) (by decide) dh fun v h1 v0 v1 dh => ?_
  repeat' array_get_dec
  refine i_ite (fun _ => ?_) (fun _ => ?_)
  · repeat' array_get_dec
    refine i_lcv ?_
    refine i_iseqG ?_
    repeat' array_get_dec
    refine ⟨_, rfl, ?_⟩
    refine lcv_ind (hb := h1) (fun k acc => acc = ((List.replicate k (7 : Int)).map PyData.int).map D.d ∧ k ≤ S.length) (fun _ => trivial) ?_ ?_ ⟨rfl, Nat.zero_le _⟩
    · rintro i z acc ez ⟨rfl, hk⟩
      have hi : i < S.length := by
        have := (List.getElem?_eq_some_iff.1 ez).1
        simpa using this
      refine ⟨_, true, rfl, fun P q => q, fun _ => ⟨.d (.int 7), fun P qq => ?_, ?_, ?_, hi⟩, fun e => by cases e⟩
      · repeat' array_get_dec
        exact qq
      · simp only [List.length_map, List.length_replicate]
        omega
      · rw [List.replicate_succ', List.map_append, List.map_append]
        rfl
    · rintro acc ⟨rfl, -⟩
      rw [List.length_map, List.length_map]
      refine ⟨_, allD_of _, ?_⟩
      repeat' array_get_dec
      exact k _ h1 dh (by simp) (fun x hx => by rw [(List.mem_replicate.1 hx).2]; show (7 : Int).natAbs < 2 ^ 14; decide)
  repeat' array_get_dec
  refine i_ite (fun _ => ?_) (fun _ => ?_)
  · array_get_dec
    refine i_asgG ?_
    repeat' array_get_dec
    refine wp_any (by decide) (by decide) dh fun a h2 a0 a1 dh => ?_
    repeat' array_get_dec
    refine wp_any (by decide) (by decide) dh fun b h3 b0 b1 dh => ?_
    repeat' array_get_dec
    refine ⟨[some (.loc 1), some (.d (.list (S.map zD))), some (.d (.int v)), none, some (.d (.int (a - 3))), some (.d (.int (b - 3))), none, none, none, none], rfl, ?_⟩
    repeat' array_get_dec
    have ba : Bd 2 (a - 3) := by show (a - 3).natAbs < 4; omega
    have bb : Bd 2 (b - 3) := by show (b - 3).natAbs < 4; omega
    refine i_lcv ?_
    refine i_iseqG ?_
    repeat' array_get_dec
    refine ⟨_, rfl, ?_⟩
    refine lcv_ind (hb := h3) (fun k acc => acc = (((S.take k).map fun p => (a - 3) * p.1 + (b - 3) * p.2 + 1).map PyData.int).map D.d) (fun _ => trivial) ?_ ?_ rfl
    · rintro i z acc ez rfl
      rw [List.getElem?_map, List.getElem?_map, Option.map_map, Option.map_eq_some_iff] at ez
      obtain ⟨p, ep, rfl⟩ := ez
      obtain ⟨p1, p2⟩ := bx p (List.mem_of_getElem? ep)
      refine ⟨_, true, rfl, fun P q => q, fun _ => ⟨.d (.int ((a - 3) * p.1 + (b - 3) * p.2 + 1)), fun P qq => ?_, ?_, ?_⟩, fun e => by cases e⟩
      · show fBin rAdd2 _ _ [_, _, _, _, some (.d (.int (a - 3))), some (.d (.int (b - 3))), some (.d (.int p.1)), some (.d (.int p.2)), _, _] _ _ _
        repeat' array_get_dec
        · exact cmB ba p1 (by decide)
        · exact cmB bb p2 (by decide)
        exact qq
      · simp only [List.length_map, List.length_take]
        omega
      · rw [List.take_add_one, ep]
        simp
    · rintro acc rfl
      rw [List.length_map, List.length_map, List.take_length]
      refine ⟨_, allD_of _, ?_⟩
      repeat' array_get_dec
      refine k _ h3 dh (by simp) (fun x hx => ?_)
      obtain ⟨p, hp, rfl⟩ := List.mem_map.1 hx
      obtain ⟨⟨c1, c2⟩, c3, c4⟩ := hb p hp
      have q1 := Nat.mul_le_mul (show (a - 3).natAbs ≤ 3 by omega) (show p.1.natAbs ≤ 1300 by omega)
      have q2 := Nat.mul_le_mul (show (b - 3).natAbs ≤ 3 by omega) (show p.2.natAbs ≤ 1300 by omega)
      rw [← Int.natAbs_mul] at q1 q2
      show _ < 16384
      omega
  repeat' array_get_dec
  refine i_ite (fun _ => ?_) (fun _ => ?_)
  · repeat' array_get_dec
    rw [List.length_map, List.length_map]
    refine wp_any (by omega) (by omega) dh fun a h2 a0 a1 dh => ?_
    repeat' array_get_dec
    refine i_lcv ?_
    repeat' array_get_dec
    rw [List.length_map, List.length_map]
    refine ⟨by omega, by omega, ?_⟩
    refine lcv_ind (hb := h2) (fun k acc => acc = (((List.range k).map fun i => if ((i : Nat) : Int) = a then (1 : Int) else 0).map PyData.int).map D.d) (fun _ => trivial) ?_ ?_ rfl
    · rintro i z acc ez rfl
      obtain ⟨hi, rfl⟩ := range_get ez
      rw [Int.toNat_natCast] at hi
      refine ⟨_, true, rfl, fun P q => q, fun _ => ⟨.d (.int (if ((i : Nat) : Int) = a then 1 else 0)), fun P qq => ?_, ?_, ?_⟩, fun e => by cases e⟩
      · show fIf _ _ _ [_, _, _, _, _, _, _, _, some (.d (.int a)), some (.d (.int (i : Nat)))] _ _ _
        repeat' array_get_dec
        refine i_ite (fun c => ?_) (fun c => ?_)
        · rw [if_pos (of_decide_eq_true c)] at qq
          repeat' array_get_dec
          exact qq
        · rw [if_neg (of_decide_eq_false c)] at qq
          repeat' array_get_dec
          exact qq
      · simp only [List.length_map, List.length_range]
        omega
      · rw [List.range_succ]
        simp
    · rintro acc rfl
      rw [Int.toNat_natCast, range_len]
      refine ⟨_, allD_of _, ?_⟩
      repeat' array_get_dec
      refine k _ h2 dh (by simp) (fun x hx => ?_)
      obtain ⟨i, _, rfl⟩ := List.mem_map.1 hx
      show _ < 16384
      split <;> decide
  · repeat' array_get_dec
    refine i_lcv ?_
    refine i_iseqG ?_
    repeat' array_get_dec
    refine ⟨_, rfl, ?_⟩
    refine lcd_ind dh nr (fun k acc => ∃ W : List Int, acc = W.map PyData.int ∧ W.length = k ∧ ∀ x ∈ W, Bd 14 x) (fun _ => trivial) ?_ ?_ ⟨[], rfl, rfl, by simp⟩
    · rintro j z acc h3 G ez ⟨W, rfl, hW, hB⟩ d2 hG
      have hi : j < S.length := by
        have := (List.getElem?_eq_some_iff.1 ez).1
        simpa using this
      refine ⟨_, rfl, by rw [List.length_map]; omega, ?_⟩
      show fBin rSub2 _ _ [some (.loc 1), some (.d (.list (S.map zD))), some (.d (.int v)), some z, none, none, none, none, none, none] _ _ _
      repeat' array_get_dec
      refine wp_any (by decide) (by decide) d2 fun w h4 w0 w1 d3 => ?_
      repeat' array_get_dec
      refine hG _ _ ⟨W ++ [w - 10], by rw [List.map_append]; rfl, by rw [List.length_append, hW]; rfl, fun x hx => ?_⟩ d3
      rw [List.mem_append, List.mem_singleton] at hx
      rcases hx with hx | rfl
      · exact hB x hx
      · show (w - 10).natAbs < 16384
        omega
    · rintro acc h3 ⟨W, rfl, hW, hB⟩ d2
      rw [List.length_map, List.length_map] at hW
      repeat' array_get_dec
      exact k W h3 d2 hW hB
end
theorem i_cutg {ρ : En} {h : Ho} {nx : En → Ho → Prop} {rt : KD} {bk ct : En → Ho → Prop} {ex : Ex → En → Ho → Prop} {f g : WS} (S : En → Ho → Prop) (tail : ∀ ρ h, S ρ h → g ρ h ⟨nx, rt, bk, ct, ex⟩) (k : ∀ nx', (∀ ρ h, S ρ h → nx' ρ h) → f ρ h ⟨nx', rt, bk, ct, ex⟩) : sSeq f g ρ h ⟨nx, rt, bk, ct, ex⟩ := i_seq (k _ tail)
def NoR (rest : Ho) : Prop := ∀ n, noRef n rest = true
theorem NoR.two {rest : Ho} (h : NoR rest) (xs ys : List Int) : NoR (rest ++ [iL xs, iL ys]) := fun n => by
  have e : ∀ zs : List Int, (((zs.map PyData.int).map D.d).all (noRefD n)) = true := fun zs => by
    rw [List.all_eq_true]
    intro x hx
    obtain ⟨p, _, rfl⟩ := List.mem_map.1 hx
    rfl
  unfold noRef
  rw [List.all_append]
  have := h n
  unfold noRef at this
  rw [this]
  simp only [List.all_cons, List.all_nil, e, Bool.and_true]
theorem Gm.mono {r s : Int} {a b c d : Nat} {S : List Zp} {T : List Tr} (g : Gm r a b S T) (h : r ≤ s) (h1 : a ≤ c) (h2 : b ≤ d) : Gm s c d S T :=
  ⟨g.tri, fun p hp => by have := g.near p hp; omega, Nat.le_trans g.fs h1, Nat.le_trans g.ft h2, g.ne⟩
/-- grown by a bottom -/
theorem grown {S : List Zp} {m i : Nat} (h : i < S.length) : sp (S.map fun p => ((m : Int) * p.1, (m : Int) * p.2)) i = ((m : Int) * (sp S i).1, (m : Int) * (sp S i).2) := by
  unfold sp
  rw [List.getD_eq_getElem?_getD, List.getD_eq_getElem?_getD, List.getElem?_map, List.getElem?_eq_getElem h]
  rfl
theorem sheared {S : List Zp} {s : Int} {i : Nat} (h : i < S.length) : sp (S.map fun p => (p.1 + s * p.2, p.2)) i = ((sp S i).1 + s * (sp S i).2, (sp S i).2) := by
  unfold sp
  rw [List.getD_eq_getElem?_getD, List.getD_eq_getElem?_getD, List.getElem?_map, List.getElem?_eq_getElem h]
  rfl
theorem Tri.shear {S : List Zp} {t : Tr} (h : Tri S t) (s : Int) : Tri (S.map fun p => (p.1 + s * p.2, p.2)) t := by
  obtain ⟨h1, h2, h3, h4⟩ := h
  refine ⟨by rw [List.length_map]; exact h1, by rw [List.length_map]; exact h2, by rw [List.length_map]; exact h3, ?_⟩
  rw [sheared h1, sheared h2, sheared h3]
  have e : areaZ ((sp S t.1).1 + s * (sp S t.1).2, (sp S t.1).2) ((sp S t.2.1).1 + s * (sp S t.2.1).2, (sp S t.2.1).2) ((sp S t.2.2).1 + s * (sp S t.2.2).2, (sp S t.2.2).2) = areaZ (sp S t.1) (sp S t.2.1) (sp S t.2.2) := by
    unfold areaZ
    grind
  rw [e]
  exact h4
/-- the spots of a lattice are near -/
theorem grid_near {wide high : Nat} {xs ys : List Int} {S : List Zp} {T : List Tr} (g : Gd wide high xs ys S T) (w1 : wide ≤ 3) (h1 : high ≤ 3) : ∀ i, i < S.length → (0 ≤ (sp S i).1 ∧ (sp S i).1 ≤ 12) ∧ (0 ≤ (sp S i).2 ∧ (sp S i).2 ≤ 12) := by
  intro i hi
  have hl := g.len
  have e := g.at_ (i / (wide + 1)) (i % (wide + 1)) (by
    have : i / (wide + 1) < high + 1 := Nat.div_lt_of_lt_mul (by omega)
    omega) (by
    have := Nat.mod_lt i (show 0 < wide + 1 by omega)
    omega)
  rw [Nat.mul_comm, Nat.div_add_mod] at e
  rw [e]
  have hr : i / (wide + 1) ≤ high := by
    have : i / (wide + 1) < high + 1 := Nat.div_lt_of_lt_mul (by omega)
    omega
  have hp : i % (wide + 1) ≤ wide := by
    have := Nat.mod_lt i (show 0 < wide + 1 by omega)
    omega
  have b1 := g.ax.bd _ hp
  have b2 := g.ay.bd _ hr
  dsimp only
  omega
theorem sp_get' {S : List Zp} {i : Nat} (h : i < S.length) : sp S i = S[i] := by
  unfold sp
  rw [List.getD_eq_getElem?_getD, List.getElem?_eq_getElem h]
  rfl
section
variable {h : Ho} {Q : KD} {E : XD}
/-- what is drawn, ahead of the slant -/
structure Dn (rest : Ho) (h : Ho) (m : Nat) (S : List Zp) (T : List Tr) : Prop where
  d : Deal rest h
  n : NoR rest
  m0 : 1 ≤ m
  m1 : m ≤ 64
  g : Gm 400 16 18 S T
theorem wp_mesh (dh : Deal [] h) (k : ∀ rest m S T h', Deal rest h' → NoR rest → 1 ≤ m → m ≤ 64 → Gm 1300 16 26 S T → Q (.d (.tuple [.int (m : Nat), .list (S.map zD), .list (T.map tl)])) h') : M__law_mesh [.loc 1] h Q E := by
  have sz : sizeLine = 2 ^ 24 := rfl
  refine i_mir rfl (by repeat constructor) (by repeat constructor) ?_
  unfold B__law_mesh
  array_get_dec
  refine i_asgG ?_
  repeat' array_get_dec
  refine wp_any (by decide) (by decide) dh fun v h1 v0 v1 dh => ?_
  repeat' array_get_dec
  refine wp_of (by simp) (by simp) dh fun y h2 hy dh => ?_
  obtain ⟨m, rfl, m0, m1⟩ : ∃ m : Nat, y = .int (m : Nat) ∧ 1 ≤ m ∧ m ≤ 30 := by
    simp only [List.mem_cons, List.not_mem_nil, or_false] at hy
    rcases hy with rfl | rfl | rfl | rfl | rfl
    · exact ⟨1, rfl, by decide, by decide⟩
    · exact ⟨2, rfl, by decide, by decide⟩
    · exact ⟨9, rfl, by decide, by decide⟩
    · exact ⟨16, rfl, by decide, by decide⟩
    · exact ⟨30, rfl, by decide, by decide⟩
  repeat' array_get_dec
  refine ⟨[some (.loc 1), some (.d (.int v)), some (.d (.int (m : Nat))), none, none, none, none, none, none, none, none, none], rfl, ?_⟩
  array_get_dec
  refine i_cutg (fun ρ' h' => ∃ (rest : Ho) (m : Nat) (S : List Zp) (T : List Tr) (z1 z5 z6 z7 z8 : Option D), Dn rest h' m S T ∧ ρ' = [some (.loc 1), z1, some (.d (.int (m : Nat))), some (.d (.list (S.map zD))), some (.d (.list (T.map tl))), z5, z6, z7, z8, none, none, none]) ?tail ?work
  case work =>
    intro nx' tl'
    repeat' array_get_dec
    refine i_ite (fun _ => ?_) (fun _ => ?_)
    · refine i_asgG ?_
      repeat' array_get_dec
      refine wp_fan m0 m1 dh rfl fun S T h3 d g => ?_
      exact ⟨_, rfl, tl' _ _ ⟨[], m, S, T, _, _, _, _, _, ⟨d, fun _ => rfl, m0, by omega, g.mono (by decide) (by decide) (by decide)⟩, rfl⟩⟩
    repeat' array_get_dec
    refine i_ite (fun c => ?_) (fun c => ?_)
    · have c := of_decide_eq_true c
      repeat' array_get_dec
      refine wp_any (by decide) (by decide) dh fun w h3 w0 w1 dh => ?_
      repeat' array_get_dec
      refine i_ite (fun _ => ?_) (fun _ => ?_)
      · array_get_dec
        refine i_asgG ?_
        repeat' array_get_dec
        refine wp_grid41 (rest := []) (wide := 3) (high := 3) (by decide) (by decide) (by decide) (by decide) (by decide) (by decide) dh fun S T xs ys hX d g => ?_
        have gnear := grid_near g (by decide) (by decide)
        have hS16 : S.length ≤ 16 := by have := g.len; omega
        refine ⟨[some (.loc 1), some (.d (.int v)), some (.d (.int (m : Nat))), some (.d (.list (S.map zD))), some (.d (.list (T.map tl))), none, none, none, none, none, none, none], rfl, ?_⟩
        repeat' array_get_dec
        refine i_lcv ?_
        refine i_iseqG ?_
        repeat' array_get_dec
        refine ⟨_, rfl, ?_⟩
        refine lcv_ind (hb := hX) (fun k acc => acc = (((S.take k).map fun p => (((m : Int) * p.1, (m : Int) * p.2) : Zp)).map zD).map D.d) (fun _ => trivial) ?_ ?_ rfl
        · rintro i z acc ez rfl
          rw [List.getElem?_map, List.getElem?_map, Option.map_map, Option.map_eq_some_iff] at ez
          obtain ⟨p, ep, rfl⟩ := ez
          have hi := (List.getElem?_eq_some_iff.1 ep).1
          have gn := gnear i hi
          have ee : sp S i = p := by rw [sp_get hi] at ep; exact Option.some.inj ep
          rw [ee] at gn
          have bm : Bd 5 ((m : Nat) : Int) := by show ((m : Nat) : Int).natAbs < 32; omega
          refine ⟨_, true, rfl, fun P q => q, fun _ => ⟨.d (zD ((m : Int) * p.1, (m : Int) * p.2)), fun P qq => ?_, ?_, ?_⟩, fun e => by cases e⟩
          · show fTup _ [_, _, some (.d (.int (m : Nat))), _, _, some (.d (.int p.1)), some (.d (.int p.2)), _, _, _, _, _] _ _ _
            repeat' array_get_dec
            · exact cmB bm (show Bd 4 p.1 by show p.1.natAbs < 16; omega) (by decide)
            · exact cmB bm (show Bd 4 p.2 by show p.2.natAbs < 16; omega) (by decide)
            exact qq
          · simp only [List.length_map, List.length_take]
            omega
          · rw [List.take_add_one, ep]
            simp
        rintro acc rfl
        rw [List.length_map, List.length_map, List.take_length]
        refine ⟨_, allD_of _, ?_⟩
        have gl := g.len
        have mulb : ∀ i, i < S.length → (0 ≤ (m : Int) * (sp S i).1 ∧ (m : Int) * (sp S i).1 ≤ 360) ∧ (0 ≤ (m : Int) * (sp S i).2 ∧ (m : Int) * (sp S i).2 ≤ 360) := fun i hi => by
          have gn := gnear i hi
          have q1 : (m : Int) * (sp S i).1 ≤ m * 12 := Int.mul_le_mul_of_nonneg_left gn.1.2 (by omega)
          have q2 : (m : Int) * (sp S i).2 ≤ m * 12 := Int.mul_le_mul_of_nonneg_left gn.2.2 (by omega)
          have q3 : 0 ≤ (m : Int) * (sp S i).1 := Int.mul_nonneg (by omega) gn.1.1
          have q4 : 0 ≤ (m : Int) * (sp S i).2 := Int.mul_nonneg (by omega) gn.2.1
          omega
        have o : Off m 0 S (S.map fun p => (((m : Int) * p.1, (m : Int) * p.2) : Zp)) := ⟨by rw [List.length_map], fun i hi => by rw [grown hi]; dsimp only; omega⟩
        repeat' array_get_dec
        refine tl' _ _ ⟨[iL xs, iL ys], m, _, T, _, _, _, _, _, ⟨d, (show NoR [] from fun _ => rfl).two xs ys, m0, by omega, ⟨grid_tri g m0 (by decide) (by omega) o, fun p hp => ?_, ?_, ?_, g.ne⟩⟩, rfl⟩
        · obtain ⟨i, hi, rfl⟩ := List.mem_iff_getElem.1 hp
          rw [List.length_map] at hi
          have e := grown (m := m) hi
          rw [sp_get' (by rw [List.length_map]; exact hi)] at e
          rw [e]
          have := mulb i hi
          dsimp only
          omega
        · rw [List.length_map, gl]; decide
        · exact Nat.le_trans g.few (by decide)
      · repeat' array_get_dec
        refine i_ifT (decide_eq_true c) ?_
        repeat' array_get_dec
        refine wp_any (by decide) (by decide) dh fun a h4 a0 a1 dh => ?_
        repeat' array_get_dec
        refine wp_any (by decide) (by decide) dh fun b h5 b0 b1 dh => ?_
        obtain ⟨wd, ewd⟩ : ∃ wd : Nat, (1 : Int) + a = wd := ⟨(1 + a).toNat, by omega⟩
        obtain ⟨hg, ehg⟩ : ∃ hg : Nat, (1 : Int) + b = hg := ⟨(1 + b).toNat, by omega⟩
        repeat' array_get_dec
        rw [ewd, ehg]
        refine i_asgG ?_
        repeat' array_get_dec
        refine wp_grid41 (rest := []) (wide := wd) (high := hg) (by omega) (by omega) (by omega) (by omega) (by decide) (by decide) dh fun S T xs ys hX d g => ?_
        have gnear := grid_near g (by omega) (by omega)
        have hS12 : (wd + 1) * (hg + 1) ≤ 4 * 3 := Nat.mul_le_mul (by omega) (by omega)
        have hS16 : S.length ≤ 16 := by have := g.len; omega
        refine ⟨[some (.loc 1), some (.d (.int v)), some (.d (.int (m : Nat))), some (.d (.list (S.map zD))), some (.d (.list (T.map tl))), none, none, some (.d (.int (wd : Nat))), some (.d (.int (hg : Nat))), none, none, none], rfl, ?_⟩
        repeat' array_get_dec
        refine i_lcv ?_
        refine i_iseqG ?_
        repeat' array_get_dec
        refine ⟨_, rfl, ?_⟩
        refine lcv_ind (hb := hX) (fun k acc => acc = (((S.take k).map fun p => (((m : Int) * p.1, (m : Int) * p.2) : Zp)).map zD).map D.d) (fun _ => trivial) ?_ ?_ rfl
        · rintro i z acc ez rfl
          rw [List.getElem?_map, List.getElem?_map, Option.map_map, Option.map_eq_some_iff] at ez
          obtain ⟨p, ep, rfl⟩ := ez
          have hi := (List.getElem?_eq_some_iff.1 ep).1
          have gn := gnear i hi
          have ee : sp S i = p := by rw [sp_get hi] at ep; exact Option.some.inj ep
          rw [ee] at gn
          have bm : Bd 5 ((m : Nat) : Int) := by show ((m : Nat) : Int).natAbs < 32; omega
          refine ⟨_, true, rfl, fun P q => q, fun _ => ⟨.d (zD ((m : Int) * p.1, (m : Int) * p.2)), fun P qq => ?_, ?_, ?_⟩, fun e => by cases e⟩
          · show fTup _ [_, _, some (.d (.int (m : Nat))), _, _, some (.d (.int p.1)), some (.d (.int p.2)), _, _, _, _, _] _ _ _
            repeat' array_get_dec
            · exact cmB bm (show Bd 4 p.1 by show p.1.natAbs < 16; omega) (by decide)
            · exact cmB bm (show Bd 4 p.2 by show p.2.natAbs < 16; omega) (by decide)
            exact qq
          · simp only [List.length_map, List.length_take]
            omega
          · rw [List.take_add_one, ep]
            simp
        rintro acc rfl
        rw [List.length_map, List.length_map, List.take_length]
        refine ⟨_, allD_of _, ?_⟩
        have gl := g.len
        have mulb : ∀ i, i < S.length → (0 ≤ (m : Int) * (sp S i).1 ∧ (m : Int) * (sp S i).1 ≤ 360) ∧ (0 ≤ (m : Int) * (sp S i).2 ∧ (m : Int) * (sp S i).2 ≤ 360) := fun i hi => by
          have gn := gnear i hi
          have q1 : (m : Int) * (sp S i).1 ≤ m * 12 := Int.mul_le_mul_of_nonneg_left gn.1.2 (by omega)
          have q2 : (m : Int) * (sp S i).2 ≤ m * 12 := Int.mul_le_mul_of_nonneg_left gn.2.2 (by omega)
          have q3 : 0 ≤ (m : Int) * (sp S i).1 := Int.mul_nonneg (by omega) gn.1.1
          have q4 : 0 ≤ (m : Int) * (sp S i).2 := Int.mul_nonneg (by omega) gn.2.1
          omega
        repeat' array_get_dec
        refine wp_moved (wide := wd) (high := hg) (S := S.map fun p => (((m : Int) * p.1, (m : Int) * p.2) : Zp)) m0 m1 (by omega) (by omega) (by rw [List.length_map]; exact gl) (fun p hp => ?_) d ((show NoR [] from fun _ => rfl).two xs ys _) fun S' h6 d hl' hn' => ?_
        · obtain ⟨i, hi, rfl⟩ := List.mem_iff_getElem.1 hp
          rw [List.length_map] at hi
          have e := grown (m := m) hi
          rw [sp_get' (by rw [List.length_map]; exact hi)] at e
          rw [e]
          have := mulb i hi
          dsimp only
          omega
        rw [List.length_map] at hl' hn'
        have o : Off m ((m : Int) / 8) S S' := ⟨hl', fun i hi => by
          have := hn' i hi
          rw [grown hi] at this
          exact this⟩
        repeat' array_get_dec
        refine tl' _ _ ⟨[iL xs, iL ys], m, S', T, _, _, _, _, _, ⟨d, (show NoR [] from fun _ => rfl).two xs ys, m0, by omega, ⟨grid_tri g m0 (by omega) (by omega) o, fun p hp => ?_, by omega, ?_, g.ne⟩⟩, rfl⟩
        · obtain ⟨i, hi, rfl⟩ := List.mem_iff_getElem.1 hp
          have e := hn' i (by omega)
          rw [grown (by omega), sp_get' hi] at e
          have := mulb i (by omega)
          dsimp only at e
          omega
        · have h6 : wd * hg ≤ 3 * 2 := Nat.mul_le_mul (by omega) (by omega)
          have := g.few
          omega
    · refine i_ifF rfl ?_
      repeat' array_get_dec
      refine i_ifF c ?_
      repeat' array_get_dec
      refine wp_of (by simp) (by simp) dh fun y h3 hy dh => ?_
      obtain ⟨m, rfl, hm⟩ : ∃ m : Nat, y = .int (m : Nat) ∧ (m = 1 ∨ m = 4 ∨ m = 16 ∨ m = 64) := by
        simp only [List.mem_cons, List.not_mem_nil, or_false] at hy
        rcases hy with rfl | rfl | rfl | rfl
        · exact ⟨1, rfl, by decide⟩
        · exact ⟨4, rfl, by decide⟩
        · exact ⟨16, rfl, by decide⟩
        · exact ⟨64, rfl, by decide⟩
      array_get_dec
      array_get_dec
      refine i_asgG ?_
      repeat' array_get_dec
      refine wp_parted hm dh fun S T h4 d g => ?_
      exact ⟨_, rfl, tl' _ _ ⟨[], m, S, T, _, _, _, _, _, ⟨d, fun _ => rfl, by omega, by omega, g.mono (by decide) (by decide) (by decide)⟩, rfl⟩⟩
  case tail =>
  rintro ρ h' ⟨rest, m, S, T, z1, z5, z6, z7, z8, dn, rfl⟩
  obtain ⟨d, nR, m0, m1, g⟩ := dn
  repeat' array_get_dec
  refine wp_any (by decide) (by decide) d fun w h3 w0 w1 d => ?_
  repeat' array_get_dec
  have sl0 : -2 ≤ w - 2 ∧ w - 2 ≤ 2 := by omega
  generalize w - 2 = sl at sl0
  have bsl : Bd 2 sl := by show sl.natAbs < 4; omega
  have fs := g.fs
  refine i_lcv ?_
  refine i_iseqG ?_
  repeat' array_get_dec
  refine ⟨_, rfl, ?_⟩
  refine lcv_ind (hb := h3) (fun k acc => acc = (((S.take k).map fun p => ((p.1 + sl * p.2, p.2) : Zp)).map zD).map D.d) (fun _ => trivial) ?_ ?_ rfl
  · rintro i z acc ez rfl
    rw [List.getElem?_map, List.getElem?_map, Option.map_map, Option.map_eq_some_iff] at ez
    obtain ⟨p, ep, rfl⟩ := ez
    obtain ⟨⟨c1, c2⟩, c3, c4⟩ := g.near p (List.mem_of_getElem? ep)
    refine ⟨_, true, rfl, fun P q => q, fun _ => ⟨.d (zD (p.1 + sl * p.2, p.2)), fun P qq => ?_, ?_, ?_⟩, fun e => by cases e⟩
    · show fTup _ [_, _, _, _, _, some (.d (.int p.1)), some (.d (.int p.2)), _, _, some (.d (.int sl)), _, _] _ _ _
      repeat' array_get_dec
      · exact cmB bsl (show Bd 12 p.2 by show _ < 4096; omega) (by decide)
      exact qq
    · simp only [List.length_map, List.length_take]
      omega
    · rw [List.take_add_one, ep]
      simp
  rintro acc rfl
  rw [List.length_map, List.length_map, List.take_length]
  refine ⟨_, allD_of _, ?_⟩
  have g2 : Gm 1300 16 18 (S.map fun p => ((p.1 + sl * p.2, p.2) : Zp)) T := by
    refine ⟨fun t ht => (g.tri t ht).shear sl, fun p hp => ?_, by rw [List.length_map]; exact g.fs, g.ft, g.ne⟩
    obtain ⟨q, hq, rfl⟩ := List.mem_map.1 hp
    obtain ⟨⟨c1, c2⟩, c3, c4⟩ := g.near q hq
    have e : sl = -2 ∨ sl = -1 ∨ sl = 0 ∨ sl = 1 ∨ sl = 2 := by omega
    dsimp only
    rcases e with rfl | rfl | rfl | rfl | rfl <;> omega
  generalize (S.map fun p => ((p.1 + sl * p.2, p.2) : Zp)) = S2 at g2
  repeat' array_get_dec
  refine wp_any (by decide) (by decide) d fun f h4 f0 f1 d => ?_
  repeat' array_get_dec
  refine ⟨by omega, by omega, ?_⟩
  refine for_ind (fun i ρ h5 => Deal rest h5 ∧ ∃ (T : List Tr) (z10 z11 : Option D), Gm 1300 16 (18 + 2 * i) S2 T ∧ ρ = [some (.loc 1), z1, some (.d (.int (m : Nat))), some (.d (.list (S2.map zD))), some (.d (.list (T.map tl))), z5, z6, z7, z8, some (.d (.int sl)), z10, z11]) ?_ ?_ ⟨d, T, _, _, g2, rfl⟩
  · rintro i q ρ h5 G ex ⟨d, T, z10, z11, g, rfl⟩ hG
    obtain ⟨hi, rfl⟩ := range_get ex
    have hi3 : i < 3 := by omega
    have ft := g.ft
    refine ⟨_, rfl, ?_⟩
    show (sSeq _ _) [some (.loc 1), z1, some (.d (.int (m : Nat))), some (.d (.list (S2.map zD))), some (.d (.list (T.map tl))), z5, z6, z7, z8, some (.d (.int sl)), some (.d (.int (i : Nat))), z11] _ _
    repeat' array_get_dec
    refine wp_of (xs := T.map tl) (by simpa using g.ne) (by rw [List.length_map]; omega) d fun x h6 hx d => ?_
    obtain ⟨t, ht, rfl⟩ := List.mem_map.1 hx
    repeat' array_get_dec
    refine wp_flipped (m := 1) g.tri (g.nr (by decide)) (by omega) g.ne fun T' q1 q2 q3 => ?_
    repeat' array_get_dec
    exact ⟨trivial, hG _ _ ⟨d, T', _, _, ⟨q1, g.near, g.fs, by omega, q3⟩, rfl⟩⟩
  · rintro ρ h5 ⟨d, T, z10, z11, g, rfl⟩
    repeat' array_get_dec
    refine k rest m S2 T h5 d nR m0 m1 (g.mono (Int.le_refl _) (Nat.le_refl _) ?_)
    have : (rangeD 0 f.toNat).length ≤ 3 := by rw [range_len]; omega
    omega
end
/-! the mesh as it is told: points over the bottom, each triple begun at its least number, sorted -/
theorem i_minI3 {a b c : Nat} {h : Ho} {Q : KD} (k : Q (.d (.int ((min a (min b c) : Nat) : Int))) h) : rMinL [.d (tl (a, b, c))] h Q := by
  refine ⟨_, [(a : Int), (b : Int), (c : Int)], rfl, rfl, Nat.le_of_ble_eq_true rfl, fun m hm hall => ?_⟩
  have h1 := hall a (by simp)
  have h2 := hall b (by simp)
  have h3 := hall c (by simp)
  have e : m = ((min a (min b c) : Nat) : Int) := by
    simp only [List.mem_cons, List.not_mem_nil, or_false] at hm
    omega
  rw [e]
  exact k
theorem i_sortD {x : D} {ds : List PyData} {h : Ho} {Q : KD} (e : litems h x = some (ds.map D.d)) (ha : PySem.W.AllAlike ds) (hs : PySem.W.Sortable ds) (hd : ∀ d ∈ ds, d.depth ≤ 60) (k : Q (.d (.list (ds.mergeSort (PySem.W.dataLe false id)))) h) : rSortD [x] h Q := ⟨x, ds, rfl, e, ha, hs, hd, k⟩
theorem lit_last (h : Ho) (xs : List D) : litems (h ++ [O.lst xs]) (.loc h.length) = some xs := by
  unfold litems
  dsimp only
  rw [concat_at]
theorem alike_t3 (a b : Tr) : PySem.W.alike (t3 a) (t3 b) = true := by
  obtain ⟨a1, a2, a3⟩ := a
  obtain ⟨b1, b2, b3⟩ := b
  simp [PySem.W.alike, PySem.W.alikeAll]
theorem dep_t3 {T : List Tr} {d : PyData} (h : d ∈ T.map t3) : d.depth ≤ 60 := by
  obtain ⟨t, _, rfl⟩ := List.mem_map.1 h
  simp [PyData.depth, PyData.depthAll]
def srtT (T : List Tr) : List Tr := T.mergeSort fun a b => PySem.W.dataLe false id (t3 a) (t3 b)
theorem sorted_t3 (T : List Tr) : (T.map t3).mergeSort (PySem.W.dataLe false id) = (srtT T).map t3 := (List.map_mergeSort (r := fun a b => PySem.W.dataLe false id (t3 a) (t3 b)) fun _ _ _ _ => rfl).symm
theorem eqv_int (x y : Int) : PyData.eqv (.int x) (.int y) = decide (x = y) := by
  rw [PyData.eqv, Bool.eq_iff_iff, beq_iff_eq, decide_eq_true_iff]
theorem idx3 {a b c : Nat} {h : Ho} {Q : KD} (k : ∀ j : Nat, (j = 0 ∧ a ≤ b ∧ a ≤ c) ∨ (j = 1 ∧ b < a ∧ b ≤ c) ∨ (j = 2 ∧ c < a ∧ c < b) → Q (.d (.int (j : Nat))) h) :
    idxK Q [.int (a : Int), .int (b : Int), .int (c : Int)] (.int ((min a (min b c) : Nat) : Int)) h := by
  refine ⟨rfl, Nat.le_of_ble_eq_true rfl, ?_⟩
  by_cases c1 : a ≤ b ∧ a ≤ c
  · refine ⟨0, _, rfl, ?_, fun m z hm => absurd hm (Nat.not_lt_zero m), k 0 (.inl ⟨rfl, c1⟩)⟩
    rw [eqv_int, decide_eq_true_iff]
    omega
  · by_cases c2 : b < a ∧ b ≤ c
    · refine ⟨1, _, rfl, ?_, fun m z hm hz => ?_, k 1 (.inr (.inl ⟨rfl, c2⟩))⟩
      · rw [eqv_int, decide_eq_true_iff]
        omega
      · obtain rfl : m = 0 := by omega
        cases hz
        rw [eqv_int, decide_eq_false_iff_not]
        omega
    · refine ⟨2, _, rfl, ?_, fun m z hm hz => ?_, k 2 (.inr (.inr ⟨rfl, by omega, by omega⟩))⟩
      · rw [eqv_int, decide_eq_true_iff]
        omega
      · obtain rfl | rfl : m = 0 ∨ m = 1 := by omega
        · cases hz
          rw [eqv_int, decide_eq_false_iff_not]
          omega
        · cases hz
          rw [eqv_int, decide_eq_false_iff_not]
          omega
theorem tup3 {x y z : PyData} {h : Ho} {Q : KD} (k : Q (.d (.tuple [x, y, z])) h) : rTup1 [.d (.list [x, y, z])] h Q := k
section
variable {rest h : Ho} {Q : KD} {E : XD} {S : List Zp} {T : List Tr} {m : Nat}
theorem wp_made {r : Int} {ns nt : Nat} (g : Gm r ns nt S T) (hr : r < 4096) (hn : ns ≤ 100) (ht : nt ≤ 100) (m0 : 1 ≤ m) (m1 : m ≤ 64)
    (k : ∀ (T' : List Tr) (ps : List PyData), (∀ t ∈ T', Tri S t) → T'.length = T.length → Q (.d (.tuple [.tuple ((S.map (ptOf m)).map ptD), .tuple (T'.map t3)])) (h ++ [.lst (ps.map D.d)])) : M__law_made [.d (.list (S.map zD)), .d (.list (T.map tl)), .d (.int (m : Nat))] h Q E := by
  have sz : sizeLine = 2 ^ 24 := rfl
  have ft := g.ft
  have fs := g.fs
  refine i_mir rfl (by repeat constructor) (by repeat constructor) ?_
  unfold B__law_made
  repeat' array_get_dec
  refine i_loc ?_
  array_get_dec
  refine ⟨by show 0 ≤ sizeLine; omega, ?_⟩
  repeat' array_get_dec
  refine i_iseqG ?_
  repeat' array_get_dec
  refine ⟨_, rfl, ?_⟩
  refine for_ind (fun i ρ h2 => ∃ (T' : List Tr) (z4 z5 z6 z7 z8 : Option D), (∀ t ∈ T', Tri S t) ∧ T'.length = i ∧ h2 = h ++ [.lst ((T'.map t3).map D.d)] ∧ ρ = [some (.d (.list (S.map zD))), some (.d (.list (T.map tl))), some (.d (.int (m : Nat))), some (.loc h.length), z4, z5, z6, z7, z8]) ?_ ?_ ⟨[], _, _, _, _, _, by simp, rfl, rfl, rfl⟩
  · rintro i q ρ h2 G ex ⟨T', z4, z5, z6, z7, z8, hT', hl', rfl, rfl⟩ hG
    rw [List.getElem?_map, List.getElem?_map, Option.map_map, Option.map_eq_some_iff] at ex
    obtain ⟨⟨a, b, c⟩, et, rfl⟩ := ex
    have tri := g.tri _ (List.mem_of_getElem? et)
    have hi := (List.getElem?_eq_some_iff.1 et).1
    refine ⟨_, rfl, ?_⟩
    show (sSeq _ _) [some (.d (.list (S.map zD))), some (.d (.list (T.map tl))), some (.d (.int (m : Nat))), some (.loc h.length), some (.d (tl (a, b, c))), z5, z6, z7, z8] _ _
    array_get_dec
    array_get_dec
    refine i_idxD ?_
    array_get_dec
    refine ⟨rfl, ?_⟩
    repeat' array_get_dec
    refine i_minI3 ?_
    array_get_dec
    refine idx3 fun j hj => ?_
    repeat' array_get_dec
    refine appK_loc (concat_at _ _) ?_
    repeat' array_get_dec
    have fin : ∀ t : Tr, Tri S t → (h ++ [O.lst (List.map D.d (List.map t3 T'))]).set h.length (.lst (List.map D.d (List.map t3 T') ++ [.d (t3 t)])) = h ++ [.lst (((T' ++ [t]).map t3).map D.d)] := by
      intro t _
      simp
    have all : ∀ t : Tr, Tri S t → ∀ y ∈ T' ++ [t], Tri S y := by
      intro t ht y hy
      rcases List.mem_append.1 hy with e | e
      · exact hT' y e
      · rw [List.mem_singleton.1 e]
        exact ht
    have go : ∀ t : Tr, Tri S t → cut [PyData.int (a : Int), .int (b : Int), .int (c : Int)] (some (j : Int)) none ++ cut [PyData.int (a : Int), .int (b : Int), .int (c : Int)] none (some (j : Int)) = [.int (t.1 : Int), .int (t.2.1 : Int), .int (t.2.2 : Int)] → G [some (D.d (PyData.list (List.map zD S))), some (D.d (PyData.list (List.map tl T))), some (D.d (PyData.int (m : Nat))), some (D.loc (List.length h)), some (D.d (tl (a, b, c))), some (D.d (PyData.int (j : Nat))), z6, z7, z8] ((h ++ [O.lst (List.map D.d (List.map t3 T'))]).set h.length (.lst (List.map D.d (List.map t3 T') ++ [.d (t3 t)]))) := by
      intro t ht _
      rw [fin t ht]
      exact hG _ _ ⟨T' ++ [t], _, _, _, _, _, all t ht, by rw [List.length_append, hl']; rfl, rfl, rfl⟩
    obtain ⟨rfl, hj⟩ | ⟨rfl, hj⟩ | ⟨rfl, hj⟩ := hj
    · refine i_addLL (by show 3 + 0 ≤ sizeLine; omega) ?_
      array_get_dec
      have e : cut [PyData.int (a : Int), .int (b : Int), .int (c : Int)] (some ((0 : Nat) : Int)) none ++ cut [PyData.int (a : Int), .int (b : Int), .int (c : Int)] none (some ((0 : Nat) : Int)) = [.int (a : Int), .int (b : Int), .int (c : Int)] := rfl
      rw [e]
      refine tup3 ?_
      array_get_dec
      refine ⟨_, _, rfl, concat_at _ _, by rw [List.length_map, List.length_map]; omega, (by trivial), ?_⟩
      exact go (a, b, c) tri e
    · refine i_addLL (by show 2 + 1 ≤ sizeLine; omega) ?_
      array_get_dec
      have e : cut [PyData.int (a : Int), .int (b : Int), .int (c : Int)] (some ((1 : Nat) : Int)) none ++ cut [PyData.int (a : Int), .int (b : Int), .int (c : Int)] none (some ((1 : Nat) : Int)) = [.int (b : Int), .int (c : Int), .int (a : Int)] := rfl
      rw [e]
      refine tup3 ?_
      array_get_dec
      refine ⟨_, _, rfl, concat_at _ _, by rw [List.length_map, List.length_map]; omega, (by trivial), ?_⟩
      exact go (b, c, a) tri.rot e
    · refine i_addLL (by show 1 + 2 ≤ sizeLine; omega) ?_
      array_get_dec
      have e : cut [PyData.int (a : Int), .int (b : Int), .int (c : Int)] (some ((2 : Nat) : Int)) none ++ cut [PyData.int (a : Int), .int (b : Int), .int (c : Int)] none (some ((2 : Nat) : Int)) = [.int (c : Int), .int (a : Int), .int (b : Int)] := rfl
      rw [e]
      refine tup3 ?_
      array_get_dec
      refine ⟨_, _, rfl, concat_at _ _, by rw [List.length_map, List.length_map]; omega, (by trivial), ?_⟩
      exact go (c, a, b) tri.rot.rot e
  · rintro ρ h2 ⟨T', z4, z5, z6, z7, z8, hT', hl', rfl, rfl⟩
    rw [List.length_map, List.length_map] at hl'
    have nr := g.nr (m := m) hr
    repeat' array_get_dec
    refine i_lcv ?_
    refine i_iseqG ?_
    repeat' array_get_dec
    refine ⟨_, rfl, ?_⟩
    refine lcv_ind (hb := h ++ [.lst ((T'.map t3).map D.d)]) (fun k acc => acc = (((S.take k).map (ptOf m)).map ptD).map D.d) (fun _ => trivial) ?_ ?_ rfl
    · rintro i z acc ez rfl
      rw [List.getElem?_map, List.getElem?_map, Option.map_map, Option.map_eq_some_iff] at ez
      obtain ⟨a, ea, rfl⟩ := ez
      have na := nr a (List.mem_of_getElem? ea)
      have hi := (List.getElem?_eq_some_iff.1 ea).1
      refine ⟨_, true, rfl, fun P q => q, fun _ => ⟨.d (ptD (ptOf m a)), fun P qq => ?_, ?_, ?_⟩, fun e => by cases e⟩
      · show fTup _ [some (.d (.list (S.map zD))), some (.d (.list (T.map tl))), some (.d (.int (m : Nat))), some (.loc h.length), z4, z5, z6, some (.d (.int a.1)), some (.d (.int a.2))] _ _ _
        repeat' array_get_dec
        refine wp_low (n := 12) (m := 7) (by omega) na.x (by omega) (by decide) (by decide) ?_
        repeat' array_get_dec
        refine wp_low (n := 12) (m := 7) (by omega) na.y (by omega) (by decide) (by decide) ?_
        repeat' array_get_dec
        exact qq
      · simp only [List.length_map, List.length_take]
        omega
      · rw [List.take_add_one, ea]
        simp
    rintro acc rfl
    rw [List.length_map, List.length_map, List.take_length]
    refine ⟨_, allD_of _, ?_⟩
    repeat' array_get_dec
    refine i_sortD (ds := T'.map t3) (lit_last h _) (PySem.W.AllAlike.of fun b b' => alike_t3 b b') (PySem.W.Sortable.tuples fun b => ⟨_, _, rfl⟩) (fun d hd => dep_t3 hd) ?_
    rw [sorted_t3]
    repeat' array_get_dec
    refine k _ _ (fun t ht => hT' t ((List.mergeSort_perm _ _).mem_iff.1 ht)) (by unfold srtT; rw [List.length_mergeSort, hl'])
end
/-! tools for the law's own walk: the drawn numbers with what else lies there, shown tuples, what can be compared, the energy -/
theorem NoR.app {a b : Ho} (h : NoR a) (k : NoR b) : NoR (a ++ b) := fun n => by
  have h := h n
  have k := k n
  unfold noRef at *
  rw [List.all_append, h, k]
  rfl
theorem NoR.data (ps : List PyData) : NoR [.lst (ps.map D.d)] := fun n => by
  unfold noRef
  rw [List.all_cons, List.all_nil, Bool.and_true, List.all_eq_true]
  intro x hx
  obtain ⟨p, _, rfl⟩ := List.mem_map.1 hx
  rfl
def Dl (h : Ho) : Prop := ∃ rest, Deal rest h ∧ NoR rest
theorem deal_app {rest h j : Ho} (d : Deal rest h) : Deal (rest ++ j) (h ++ j) := by
  obtain ⟨cs, mix, rfl, h1, h2, h3, h4⟩ := d.is
  exact ⟨cs, mix, rfl, h1, h2, h3, h4⟩
theorem Dl.more {h : Ho} (d : Dl h) (ps : List PyData) : Dl (h ++ [.lst (ps.map D.d)]) := by
  obtain ⟨rest, d, n⟩ := d
  exact ⟨_, deal_app d, n.app (NoR.data ps)⟩
theorem Dl.nr {h : Ho} (d : Dl h) : noRef h.length h = true := by
  obtain ⟨rest, d, n⟩ := d
  obtain ⟨cs, mix, rfl, h1, h2, h3, h4⟩ := d.is
  have n1 := n (rest.length + 2)
  unfold noRef at *
  simp only [List.all_cons, List.length_cons]
  rw [n1]
  simp [noRefD, cell]
section
variable {h : Ho} {Q : KD} {E : XD}
theorem dl_any {n : Int} (hn : 0 < n) (hb : n < 2 ^ 100) (dh : Dl h) (k : ∀ v h', 0 ≤ v → v < n → Dl h' → h'.length = h.length → Q (.d (.int v)) h') : M__law_any [.loc 1, .d (.int n)] h Q E := by
  obtain ⟨rest, d, nr⟩ := dh
  exact wp_any hn hb d fun v h' v0 v1 d' => k v h' v0 v1 ⟨rest, d', nr⟩ (by rw [d.len, d'.len])
theorem dl_of {xs : List PyData} (hn : xs ≠ []) (hb : xs.length < 2 ^ 100) (dh : Dl h) (k : ∀ x h', x ∈ xs → Dl h' → h'.length = h.length → Q (.d x) h') : M__law_of [.loc 1, .d (.list xs)] h Q E := by
  obtain ⟨rest, d, nr⟩ := dh
  exact wp_of hn hb d fun v h' v0 d' => k v h' v0 ⟨rest, d', nr⟩ (by rw [d.len, d'.len])
end
theorem fr_sh {q : Rat} (s : Sz 1000 q) : Sh 2 (fr q) :=
  ⟨fr_showable (by decide) (by decide) s, by show 1 ≤ 2; decide, fr_leaves (by decide) s, by simp only [PyData.bulk, PyData.bulkAll]; decide⟩
theorem all_sh {k : Nat} : ∀ {ps : List PyData}, (∀ p ∈ ps, Sh k p) → PyData.showableAll ps = true ∧ PyData.depthAll ps ≤ k ∧ PyData.leavesShortAll 1001 ps = true ∧ PyData.bulkAll ps ≤ ps.length * (4 ^ k + 1)
  | [], _ => ⟨rfl, Nat.zero_le _, rfl, Nat.zero_le _⟩
  | p :: ps, h => by
    obtain ⟨i1, i2, i3, i4⟩ := all_sh (fun q hq => h q (List.mem_cons_of_mem _ hq))
    obtain ⟨a1, a2, a3, a4⟩ := h p (List.mem_cons_self ..)
    refine ⟨?_, ?_, ?_, ?_⟩
    · simp only [PyData.showableAll, a1, i1, Bool.and_self]
    · simp only [PyData.depthAll]; omega
    · simp only [PyData.leavesShortAll, a3, i3, Bool.and_self]
    · simp only [PyData.bulkAll, List.length_cons]
      rw [Nat.add_mul]
      omega
theorem long_show {ps : List PyData} {k : Nat} (hk : k ≤ 3) (hl : ps.length ≤ 50) (h : ∀ p ∈ ps, Sh k p) : (PyData.tuple ps).showable = true ∧ (PyData.tuple ps).depth < 60 ∧ (PyData.tuple ps).shown.length ≤ sizeLine := by
  obtain ⟨h1, h2, h3, h4⟩ := all_sh h
  refine ⟨by simp only [PyData.showable]; exact h1, by simp only [PyData.depth]; omega, ?_⟩
  have b := PyData.shown_le_bulk 1001 (by decide) (.tuple ps) (by simp only [PyData.leavesShort]; exact h3)
  have e : (PyData.tuple ps).bulk = PyData.bulkAll ps := by simp only [PyData.bulk]
  rw [e] at b
  have sz : sizeLine = 2 ^ 24 := rfl
  have h5 : 4 ^ k ≤ 4 ^ 3 := Nat.pow_le_pow_right (by decide) hk
  have h6 : ps.length * (4 ^ k + 1) ≤ 50 * (4 ^ 3 + 1) := Nat.mul_le_mul hl (by omega)
  have h8 : (4 : Nat) ^ 3 = 64 := by decide
  omega
theorem frs_show {F : List Rat} (h : ∀ q ∈ F, Sz 1000 q) (hl : F.length ≤ 50) : (PyData.tuple (F.map fr)).showable = true ∧ (PyData.tuple (F.map fr)).depth < 60 ∧ (PyData.tuple (F.map fr)).shown.length ≤ sizeLine :=
  long_show (k := 2) (by decide) (by rw [List.length_map]; exact hl) fun p hp => by
    obtain ⟨q, hq, rfl⟩ := List.mem_map.1 hp
    exact fr_sh (h q hq)
theorem lay_all : ∀ {ps : List PyData}, (∀ p ∈ ps, p.canLay0 = true ∧ p.depth ≤ 3) → PyData.canLayAll0 ps = true ∧ PyData.depthAll ps ≤ 3
  | [], _ => ⟨rfl, Nat.zero_le _⟩
  | p :: ps, h => by
    obtain ⟨i1, i2⟩ := lay_all fun q hq => h q (List.mem_cons_of_mem _ hq)
    obtain ⟨a1, a2⟩ := h p (List.mem_cons_self ..)
    exact ⟨by simp only [PyData.canLayAll0, a1, i1, Bool.and_self], by simp only [PyData.depthAll]; omega⟩
theorem shapedT {ps : List PyData} (h : ∀ p ∈ ps, p.canLay0 = true ∧ p.depth ≤ 3) : SeqAt.shaped (.tuple ps) = true := by
  obtain ⟨h1, h2⟩ := lay_all h
  unfold SeqAt.shaped
  simp only [PyData.canLay0, PyData.depth, Bool.and_eq_true]
  exact ⟨h1, decide_eq_true (by omega)⟩
theorem shaped_frs (F : List Rat) : SeqAt.shaped (.tuple (F.map fr)) = true := shapedT fun p hp => by
  obtain ⟨q, _, rfl⟩ := List.mem_map.1 hp
  exact ⟨rfl, by show 1 ≤ 3; decide⟩
theorem shaped_pts (P : List Pt) : SeqAt.shaped (.tuple (P.map ptD)) = true := shapedT fun p hp => by
  obtain ⟨q, _, rfl⟩ := List.mem_map.1 hp
  exact ⟨rfl, by show 2 ≤ 3; decide⟩
theorem shaped_t3s (T : List Tr) : SeqAt.shaped (.tuple (T.map t3)) = true := shapedT fun p hp => by
  obtain ⟨q, _, rfl⟩ := List.mem_map.1 hp
  exact ⟨rfl, by show 1 ≤ 3; decide⟩
theorem low_again {t : Rat} {l : Nat} (l0 : l ≠ 0) : mkRat t.num (2 * t.den * l * l) = t / (2 * l * l) := by
  have e : t = (t.num : Rat) / (t.den : Rat) := by rw [← Rat.mkRat_eq_div, Rat.mkRat_self]
  have hd : (t.den : Rat) ≠ 0 := by exact_mod_cast t.den_nz
  have hl : (l : Rat) ≠ 0 := by exact_mod_cast l0
  rw [Rat.mkRat_eq_div]
  simp only [Rat.natCast_mul]
  generalize (t.num : Rat) = a at *
  generalize (t.den : Rat) = d at *
  subst e
  show a / (2 * d * l * l) = _
  grind
theorem en_eq {m l n : Nat} {A B C : Zp} {x y z : Int} (m0 : m ≠ 0) (l0 : l ≠ 0) (n0 : n ≠ 0) (ar : areaZ A B C = (n : Nat)) :
    enR m A B C (mkRat x l) (mkRat y l) (mkRat z l) = mkRat (sq A B C x y z) (2 * n) / (2 * l * l) := by
  have hm : (m : Rat) ≠ 0 := by exact_mod_cast m0
  have hl : (l : Rat) ≠ 0 := by exact_mod_cast l0
  have hn : (n : Rat) ≠ 0 := by exact_mod_cast n0
  have ea : arR m A B C = (n : Rat) / (m * m) := by
    unfold arR
    rw [ar, Rat.mkRat_eq_div]
    simp only [Rat.natCast_mul, Rat.intCast_natCast]
  have e1 : slR m A B C (mkRat x l) (mkRat y l) (mkRat z l) = (w1 A B C x y z : Int) * m / (l * n) := by
    unfold slR
    rw [ea]
    unfold ptOf w1
    simp only [Rat.mkRat_eq_div, Rat.intCast_sub, Rat.intCast_mul]
    grind
  have e2 : slU m A B C (mkRat x l) (mkRat y l) (mkRat z l) = (w2 A B C x y z : Int) * m / (l * n) := by
    unfold slU
    rw [ea]
    unfold ptOf w2
    simp only [Rat.mkRat_eq_div, Rat.intCast_sub, Rat.intCast_mul]
    grind
  unfold enR sq
  rw [e1, e2, ea]
  generalize w1 A B C x y z = p
  generalize w2 A B C x y z = q
  simp only [Rat.mkRat_eq_div, Rat.intCast_add, Rat.intCast_mul, Rat.natCast_mul]
  show (1 : Rat) / 4 * _ = (_ : Rat) / (2 * (n : Rat)) / _
  grind
end LW
set_option Elab.async false
set_option linter.all false
set_option maxRecDepth 100000
set_option maxHeartbeats 8000000
namespace LW
open PySem PySem.Spec PyProof.Rows L2 V2
open PySem.W (Frag)
def top (i : Nat) : Stmt := PySem.Challenge.pw_leastfield_k41_slopes_on_triangles.main.body.getD i (.Pass ⟨0, 0, 0, 0⟩)
abbrev s_fraction : Stmt := top 6
abbrev s_plus : Stmt := top 7
abbrev s_minus : Stmt := top 8
abbrev s_times : Stmt := top 9
abbrev s_over : Stmt := top 10
abbrev s_negative : Stmt := top 11
abbrev s_total_of : Stmt := top 12
abbrev s_on_grid : Stmt := top 14
abbrev s_whole_area : Stmt := top 16
abbrev s_doubled_area : Stmt := top 17
abbrev s__corners : Stmt := top 19
abbrev s_wedge : Stmt := top 20
abbrev s_slope : Stmt := top 21
abbrev s_linear_field : Stmt := top 22
abbrev s_triangle_energy : Stmt := top 23
abbrev s__law_source : Stmt := top 27
abbrev s__law_any : Stmt := top 28
abbrev s__law_of : Stmt := top 29
abbrev s__law_common : Stmt := top 30
abbrev s__law_low : Stmt := top 31
abbrev s__law_same : Stmt := top 32
abbrev s__law_cross : Stmt := top 33
abbrev s__law_split : Stmt := top 34
abbrev s__law_grid : Stmt := top 35
abbrev s__law_third : Stmt := top 36
abbrev s__law_other : Stmt := top 37
abbrev s__law_moved : Stmt := top 38
abbrev s__law_fan : Stmt := top 39
abbrev s__law_parted : Stmt := top 40
abbrev s__law_mesh : Stmt := top 41
abbrev s__law_flipped : Stmt := top 42
abbrev s__law_made : Stmt := top 44
abbrev s__law_plus : Stmt := top 46
abbrev s__law_worths : Stmt := top 47
abbrev s__law_energy : Stmt := top 48
abbrev s__law_times : Stmt := top 49
abbrev s__law_less : Stmt := top 50
abbrev s__law_is_fraction : Stmt := top 51
abbrev s__law_slope_right : Stmt := top 52
abbrev s_law : Stmt := top 53
def si_Mesh : Stmt := match top 25 with
  | .ClassDef _ _ _ body _ _ _ _ _ _ _ => body.getD 0 (.Pass ⟨0, 0, 0, 0⟩)
  | s => s
def se_Mesh : Stmt := match top 25 with
  | .ClassDef _ _ _ body _ _ _ _ _ _ _ => body.getD 1 (.Pass ⟨0, 0, 0, 0⟩)
  | s => s
structure Ad where
  a_fraction : Addr
  fd_fraction : FuncData
  a_plus : Addr
  fd_plus : FuncData
  a_minus : Addr
  fd_minus : FuncData
  a_times : Addr
  fd_times : FuncData
  a_over : Addr
  fd_over : FuncData
  a_negative : Addr
  fd_negative : FuncData
  a_total_of : Addr
  fd_total_of : FuncData
  a_on_grid : Addr
  fd_on_grid : FuncData
  a_whole_area : Addr
  fd_whole_area : FuncData
  a_doubled_area : Addr
  fd_doubled_area : FuncData
  a__corners : Addr
  fd__corners : FuncData
  a_wedge : Addr
  fd_wedge : FuncData
  a_slope : Addr
  fd_slope : FuncData
  a_linear_field : Addr
  fd_linear_field : FuncData
  a_triangle_energy : Addr
  fd_triangle_energy : FuncData
  a__law_source : Addr
  fd__law_source : FuncData
  a__law_any : Addr
  fd__law_any : FuncData
  a__law_of : Addr
  fd__law_of : FuncData
  a__law_common : Addr
  fd__law_common : FuncData
  a__law_low : Addr
  fd__law_low : FuncData
  a__law_same : Addr
  fd__law_same : FuncData
  a__law_cross : Addr
  fd__law_cross : FuncData
  a__law_split : Addr
  fd__law_split : FuncData
  a__law_grid : Addr
  fd__law_grid : FuncData
  a__law_third : Addr
  fd__law_third : FuncData
  a__law_other : Addr
  fd__law_other : FuncData
  a__law_moved : Addr
  fd__law_moved : FuncData
  a__law_fan : Addr
  fd__law_fan : FuncData
  a__law_parted : Addr
  fd__law_parted : FuncData
  a__law_mesh : Addr
  fd__law_mesh : FuncData
  a__law_flipped : Addr
  fd__law_flipped : FuncData
  a__law_made : Addr
  fd__law_made : FuncData
  a__law_plus : Addr
  fd__law_plus : FuncData
  a__law_worths : Addr
  fd__law_worths : FuncData
  a__law_energy : Addr
  fd__law_energy : FuncData
  a__law_times : Addr
  fd__law_times : FuncData
  a__law_less : Addr
  fd__law_less : FuncData
  a__law_is_fraction : Addr
  fd__law_is_fraction : FuncData
  a__law_slope_right : Addr
  fd__law_slope_right : FuncData
  a_law : Addr
  fd_law : FuncData
  c_InvalidSize : Addr
  i_InvalidSize : Addr
  c_Mesh : Addr
  j_Mesh : Addr
  fj_Mesh : FuncData
  e_Mesh : Addr
  fe_Mesh : FuncData
  k_ZERO : Addr
structure Txt (K : Frag) (mg : Str → Option Value) (z : Ad) : Prop where
  d_fraction : DefAt K mg "fraction" s_fraction z.a_fraction z.fd_fraction
  b_fraction : Binds K z.fd_fraction ["top", "bottom"] []
  d_plus : DefAt K mg "plus" s_plus z.a_plus z.fd_plus
  b_plus : Binds K z.fd_plus ["one", "other"] []
  d_minus : DefAt K mg "minus" s_minus z.a_minus z.fd_minus
  b_minus : Binds K z.fd_minus ["one", "other"] []
  d_times : DefAt K mg "times" s_times z.a_times z.fd_times
  b_times : Binds K z.fd_times ["one", "other"] []
  d_over : DefAt K mg "over" s_over z.a_over z.fd_over
  b_over : Binds K z.fd_over ["one", "other"] []
  d_negative : DefAt K mg "negative" s_negative z.a_negative z.fd_negative
  b_negative : Binds K z.fd_negative ["one"] []
  d_total_of : DefAt K mg "total_of" s_total_of z.a_total_of z.fd_total_of
  b_total_of : Binds K z.fd_total_of ["some"] []
  d_on_grid : DefAt K mg "on_grid" s_on_grid z.a_on_grid z.fd_on_grid
  b_on_grid : Binds K z.fd_on_grid ["points"] []
  d_whole_area : DefAt K mg "whole_area" s_whole_area z.a_whole_area z.fd_whole_area
  b_whole_area : Binds K z.fd_whole_area ["a", "b", "c"] []
  d_doubled_area : DefAt K mg "doubled_area" s_doubled_area z.a_doubled_area z.fd_doubled_area
  b_doubled_area : Binds K z.fd_doubled_area ["a", "b", "c"] []
  d__corners : DefAt K mg "_corners" s__corners z.a__corners z.fd__corners
  b__corners : Binds K z.fd__corners ["mesh", "number"] []
  d_wedge : DefAt K mg "wedge" s_wedge z.a_wedge z.fd_wedge
  b_wedge : Binds K z.fd_wedge ["one", "other"] []
  d_slope : DefAt K mg "slope" s_slope z.a_slope z.fd_slope
  b_slope : Binds K z.fd_slope ["mesh", "number", "field"] []
  k_slope_field_number_mesh : KwB K z.fd_slope ["mesh", "number", "field"] ["field", "number", "mesh"] [2, 1, 0]
  d_linear_field : DefAt K mg "linear_field" s_linear_field z.a_linear_field z.fd_linear_field
  b_linear_field : Binds K z.fd_linear_field ["mesh", "start", "right", "up"] []
  k_linear_field_up_right_start_mesh : KwB K z.fd_linear_field ["mesh", "start", "right", "up"] ["up", "right", "start", "mesh"] [3, 2, 1, 0]
  d_triangle_energy : DefAt K mg "triangle_energy" s_triangle_energy z.a_triangle_energy z.fd_triangle_energy
  b_triangle_energy : Binds K z.fd_triangle_energy ["mesh", "number", "field"] []
  k_triangle_energy_field_number_mesh : KwB K z.fd_triangle_energy ["mesh", "number", "field"] ["field", "number", "mesh"] [2, 1, 0]
  d__law_source : DefAt K mg "_law_source" s__law_source z.a__law_source z.fd__law_source
  b__law_source : Binds K z.fd__law_source ["_law_script"] []
  d__law_any : DefAt K mg "_law_any" s__law_any z.a__law_any z.fd__law_any
  b__law_any : Binds K z.fd__law_any ["_law_deal", "_law_bound"] []
  d__law_of : DefAt K mg "_law_of" s__law_of z.a__law_of z.fd__law_of
  b__law_of : Binds K z.fd__law_of ["_law_deal", "_law_some"] []
  d__law_common : DefAt K mg "_law_common" s__law_common z.a__law_common z.fd__law_common
  b__law_common : Binds K z.fd__law_common ["_law_one", "_law_other_here"] []
  d__law_low : DefAt K mg "_law_low" s__law_low z.a__law_low z.fd__law_low
  b__law_low : Binds K z.fd__law_low ["_law_top", "_law_bottom"] []
  d__law_same : DefAt K mg "_law_same" s__law_same z.a__law_same z.fd__law_same
  b__law_same : Binds K z.fd__law_same ["_law_told", "_law_due"] []
  d__law_cross : DefAt K mg "_law_cross" s__law_cross z.a__law_cross z.fd__law_cross
  b__law_cross : Binds K z.fd__law_cross ["_law_a", "_law_b", "_law_c"] []
  d__law_split : DefAt K mg "_law_split" s__law_split z.a__law_split z.fd__law_split
  b__law_split : Binds K z.fd__law_split ["_law_deal", "_law_spots", "_law_triples"] []
  d__law_grid : DefAt K mg "_law_grid" s__law_grid z.a__law_grid z.fd__law_grid
  b__law_grid : Binds K z.fd__law_grid ["_law_deal", "_law_wide", "_law_high", "_law_gap"] []
  d__law_third : DefAt K mg "_law_third" s__law_third z.a__law_third z.fd__law_third
  b__law_third : Binds K z.fd__law_third ["_law_triples", "_law_one", "_law_other_here"] []
  d__law_other : DefAt K mg "_law_other" s__law_other z.a__law_other z.fd__law_other
  b__law_other : Binds K z.fd__law_other ["_law_spots", "_law_triples", "_law_one", "_law_other_here"] []
  d__law_moved : DefAt K mg "_law_moved" s__law_moved z.a__law_moved z.fd__law_moved
  b__law_moved : Binds K z.fd__law_moved ["_law_deal", "_law_bottom", "_law_spots", "_law_wide", "_law_high"] []
  d__law_fan : DefAt K mg "_law_fan" s__law_fan z.a__law_fan z.fd__law_fan
  b__law_fan : Binds K z.fd__law_fan ["_law_deal", "_law_bottom"] []
  d__law_parted : DefAt K mg "_law_parted" s__law_parted z.a__law_parted z.fd__law_parted
  b__law_parted : Binds K z.fd__law_parted ["_law_deal", "_law_bottom"] []
  d__law_mesh : DefAt K mg "_law_mesh" s__law_mesh z.a__law_mesh z.fd__law_mesh
  b__law_mesh : Binds K z.fd__law_mesh ["_law_deal"] []
  d__law_flipped : DefAt K mg "_law_flipped" s__law_flipped z.a__law_flipped z.fd__law_flipped
  b__law_flipped : Binds K z.fd__law_flipped ["_law_spots", "_law_triples", "_law_triple"] []
  d__law_made : DefAt K mg "_law_made" s__law_made z.a__law_made z.fd__law_made
  b__law_made : Binds K z.fd__law_made ["_law_spots", "_law_triples", "_law_bottom"] []
  d__law_plus : DefAt K mg "_law_plus" s__law_plus z.a__law_plus z.fd__law_plus
  b__law_plus : Binds K z.fd__law_plus ["_law_one", "_law_other_here"] []
  d__law_worths : DefAt K mg "_law_worths" s__law_worths z.a__law_worths z.fd__law_worths
  b__law_worths : Binds K z.fd__law_worths ["_law_deal", "_law_spots"] []
  d__law_energy : DefAt K mg "_law_energy" s__law_energy z.a__law_energy z.fd__law_energy
  b__law_energy : Binds K z.fd__law_energy ["_law_spots", "_law_triples", "_law_worths_here", "_law_others"] []
  d__law_times : DefAt K mg "_law_times" s__law_times z.a__law_times z.fd__law_times
  b__law_times : Binds K z.fd__law_times ["_law_one", "_law_other_here"] []
  d__law_less : DefAt K mg "_law_less" s__law_less z.a__law_less z.fd__law_less
  b__law_less : Binds K z.fd__law_less ["_law_one", "_law_other_here"] []
  d__law_is_fraction : DefAt K mg "_law_is_fraction" s__law_is_fraction z.a__law_is_fraction z.fd__law_is_fraction
  b__law_is_fraction : Binds K z.fd__law_is_fraction ["_law_value"] []
  d__law_slope_right : DefAt K mg "_law_slope_right" s__law_slope_right z.a__law_slope_right z.fd__law_slope_right
  b__law_slope_right : Binds K z.fd__law_slope_right ["_law_points", "_law_triangle", "_law_field", "_law_told"] []
  d_law : DefAt K mg "law" s_law z.a_law z.fd_law
  b_law : Binds K z.fd_law ["_law_script"] []
  n_abs : mg "abs" = none
  n_bool : mg "bool" = none
  m_gcd : mg "gcd" = some (.builtin "math.gcd")
  n_int : mg "int" = none
  n_isinstance : mg "isinstance" = none
  m_lcm : mg "lcm" = some (.builtin "math.lcm")
  n_len : mg "len" = none
  n_list : mg "list" = none
  n_min : mg "min" = none
  n_range : mg "range" = none
  n_repr : mg "repr" = none
  n_sorted : mg "sorted" = none
  n_tuple : mg "tuple" = none
  n_zip : mg "zip" = none
  g_InvalidSize : mg "InvalidSize" = some (.ref z.c_InvalidSize)
  g_Mesh : mg "Mesh" = some (.ref z.c_Mesh)
  o_Mesh : ClsN K "Mesh" z.c_Mesh ["points", "triangles"]
  mk_Mesh : Mk K z.c_Mesh z.j_Mesh
  fi_Mesh : Fun K "__init__" "Mesh.__init__" si_Mesh z.j_Mesh z.fj_Mesh
  bi_Mesh : Binds K z.fj_Mesh ["self", "points", "triangles"] []
  ec_Mesh : EqC K z.c_Mesh z.e_Mesh
  fe_Mesh : Fun K "__eq__" "Mesh.__eq__" se_Mesh z.e_Mesh z.fe_Mesh
  be_Mesh : Binds K z.fe_Mesh ["self", "other"] []
  ic_Mesh : InC K z.c_Mesh
  x_InvalidSize : XOwn K mg "InvalidSize" z.c_InvalidSize z.i_InvalidSize "word"
  m_ZERO : mg "ZERO" = some (.ref z.k_ZERO)
  c_ZERO : ∀ as H, Dv K as H (.ref z.k_ZERO) (.tuple [(.int 0), (.int 1)])
section
variable {P : Program} {w : World} {K : Frag} {mg : Str → Option Value} {base : Heap} {z : Ad}
theorem so_Mesh : FnScope ["self", "points", "triangles"] ["self", "points", "triangles"] (defScope si_Mesh) := ⟨rfl, rfl, rfl, by decide +kernel, rfl, by decide +kernel, by decide +kernel⟩
theorem oi_Mesh (T : Txt K mg z) : FnOk P w K mg base CX0 1 z.j_Mesh z.fj_Mesh ["self", "points", "triangles"] (spIn2 K z.c_Mesh "points" "triangles") :=
  init2 T.o_Mesh (by decide) (by decide) T.fi_Mesh so_Mesh rfl (.inl rfl) (.inl rfl) (.inl rfl) (by decide) (by decide) (by decide) (by decide) (fun _ => rfl) (fun _ => rfl)
theorem sq_Mesh : FnScope ["self", "other"] ["self", "other"] (defScope se_Mesh) := ⟨rfl, rfl, rfl, by decide +kernel, rfl, by decide +kernel, by decide +kernel⟩
theorem ge_Mesh (T : Txt K mg z) : FnG P w K mg base 1 z.e_Mesh z.fe_Mesh ["self", "other"] M_eq_Mesh := by
  refine fnG_of (N := ["self", "other"]) T.fe_Mesh sq_Mesh fun cdv A outer s H E hr hgu => ?_
  have hu := hr.units
  exact (SB.one (SS.ret (SE.and (SE.isiO (p2 := ⟨0, 0, 0, 0⟩) T.o_Mesh T.ic_Mesh (by rfl) T.n_isinstance (by rfl) T.g_Mesh (SE.var 1)) (SE.and (SE.eq hu (SE.fld T.o_Mesh (by decide) (SE.var 0)) (SE.fld T.o_Mesh (by decide) (SE.var 1))) (SE.one (SE.eq hu (SE.fld T.o_Mesh (by decide) (SE.var 0)) (SE.fld T.o_Mesh (by decide) (SE.var 1))))))))
theorem sc_fraction : FnScope ["top", "bottom", "common"] ["top", "bottom"] (defScope s_fraction) := ⟨rfl, rfl, rfl, by decide +kernel, rfl, by decide +kernel, by decide +kernel⟩
theorem g_fraction (T : Txt K mg z) : FnG P w K mg base 1 z.a_fraction z.fd_fraction ["top", "bottom"] M_fraction := by
  refine fnG_of (N := ["top", "bottom", "common"]) T.d_fraction.F sc_fraction fun cdv A outer s H E hr hgu => ?_
  have hu := hr.units
  exact (SB.cons (SS.ifS (ST.eq hu (SE.var 1) SE.int) (SB.one (SS.raise (by rfl) T.x_InvalidSize hr tkD (SA.cons SE.str SA.nil) (by rfl))) SB.nil)
    (SB.cons (SS.set 2 sc_fraction.nd (by rfl) (Or.inl (by rfl)) (SE.gcd (by rfl) T.m_gcd (SA.cons (SE.var 0) (SA.cons (SE.var 1) SA.nil))))
    (SB.cons (SS.ifS (ST.lt (SE.var 1) SE.int) (SB.one (SS.set 2 sc_fraction.nd (by rfl) (Or.inl (by rfl)) (SE.neg (SE.var 2)))) SB.nil)
    (SB.one (SS.ret (SE.tup (SA.cons (SE.div (SE.var 0) (SE.var 2)) (SA.cons (SE.div (SE.var 1) (SE.var 2)) SA.nil))))))))
theorem sc_plus : FnScope ["one", "other", "top", "bottom", "more", "under", "common", "rest", "total", "left"] ["one", "other"] (defScope s_plus) := ⟨rfl, rfl, rfl, by decide +kernel, rfl, by decide +kernel, by decide +kernel⟩
theorem g_plus (T : Txt K mg z) : FnG P w K mg base 1 z.a_plus z.fd_plus ["one", "other"] M_plus := by
  refine fnG_of (N := ["one", "other", "top", "bottom", "more", "under", "common", "rest", "total", "left"]) T.d_plus.F sc_plus fun cdv A outer s H E hr hgu => ?_
  have hu := hr.units
  exact (SB.cons (SS.asg (SE.var 0) (SG.tup (by rfl) (SGs.cons (SG.name 2 sc_plus.nd (by rfl) (Or.inl (by rfl))) (SGs.cons (SG.name 3 sc_plus.nd (by rfl) (Or.inl (by rfl))) SGs.nil))))
    (SB.cons (SS.asg (SE.var 1) (SG.tup (by rfl) (SGs.cons (SG.name 4 sc_plus.nd (by rfl) (Or.inl (by rfl))) (SGs.cons (SG.name 5 sc_plus.nd (by rfl) (Or.inl (by rfl))) SGs.nil))))
    (SB.cons (SS.set 6 sc_plus.nd (by rfl) (Or.inl (by rfl)) (SE.gcd (by rfl) T.m_gcd (SA.cons (SE.var 3) (SA.cons (SE.var 5) SA.nil))))
    (SB.cons (SS.set 7 sc_plus.nd (by rfl) (Or.inl (by rfl)) (SE.div (SE.var 3) (SE.var 6)))
    (SB.cons (SS.set 8 sc_plus.nd (by rfl) (Or.inl (by rfl)) (SE.add (SE.mul (SE.var 2) (SE.div (SE.var 5) (SE.var 6))) (SE.mul (SE.var 4) (SE.var 7))))
    (SB.cons (SS.set 9 sc_plus.nd (by rfl) (Or.inl (by rfl)) (SE.gcd (by rfl) T.m_gcd (SA.cons (SE.var 8) (SA.cons (SE.var 6) SA.nil))))
    (SB.one (SS.ret (SE.tup (SA.cons (SE.div (SE.var 8) (SE.var 9)) (SA.cons (SE.mul (SE.var 7) (SE.div (SE.var 5) (SE.var 9))) SA.nil)))))))))))
theorem sc_times : FnScope ["one", "other", "top", "bottom", "more", "under", "first", "second"] ["one", "other"] (defScope s_times) := ⟨rfl, rfl, rfl, by decide +kernel, rfl, by decide +kernel, by decide +kernel⟩
theorem g_times (T : Txt K mg z) : FnG P w K mg base 1 z.a_times z.fd_times ["one", "other"] M_times := by
  refine fnG_of (N := ["one", "other", "top", "bottom", "more", "under", "first", "second"]) T.d_times.F sc_times fun cdv A outer s H E hr hgu => ?_
  have hu := hr.units
  exact (SB.cons (SS.asg (SE.var 0) (SG.tup (by rfl) (SGs.cons (SG.name 2 sc_times.nd (by rfl) (Or.inl (by rfl))) (SGs.cons (SG.name 3 sc_times.nd (by rfl) (Or.inl (by rfl))) SGs.nil))))
    (SB.cons (SS.asg (SE.var 1) (SG.tup (by rfl) (SGs.cons (SG.name 4 sc_times.nd (by rfl) (Or.inl (by rfl))) (SGs.cons (SG.name 5 sc_times.nd (by rfl) (Or.inl (by rfl))) SGs.nil))))
    (SB.cons (SS.par 6 7 (by rfl) sc_times.nd (by rfl) (by rfl) (by decide) (by rfl) (by rfl) (SA.cons (SE.gcd (by rfl) T.m_gcd (SA.cons (SE.var 2) (SA.cons (SE.var 5) SA.nil))) (SA.cons (SE.gcd (by rfl) T.m_gcd (SA.cons (SE.var 4) (SA.cons (SE.var 3) SA.nil))) SA.nil)) (by rfl))
    (SB.one (SS.ret (SE.tup (SA.cons (SE.mul (SE.div (SE.var 2) (SE.var 6)) (SE.div (SE.var 4) (SE.var 7))) (SA.cons (SE.mul (SE.div (SE.var 3) (SE.var 7)) (SE.div (SE.var 5) (SE.var 6))) SA.nil))))))))
theorem sc_negative : FnScope ["one"] ["one"] (defScope s_negative) := ⟨rfl, rfl, rfl, by decide +kernel, rfl, by decide +kernel, by decide +kernel⟩
theorem g_negative (T : Txt K mg z) : FnG P w K mg base 1 z.a_negative z.fd_negative ["one"] M_negative := by
  refine fnG_of (N := ["one"]) T.d_negative.F sc_negative fun cdv A outer s H E hr hgu => ?_
  have hu := hr.units
  exact (SB.one (SS.ret (SE.tup (SA.cons (SE.neg (SE.ix (SE.var 0) SE.int)) (SA.cons (SE.ix (SE.var 0) SE.int) SA.nil)))))
theorem sc_on_grid : FnScope ["points", "bottom", "_", "first", "second", "x", "right", "y", "up"] ["points"] (defScope s_on_grid) := ⟨rfl, rfl, rfl, by decide +kernel, rfl, by decide +kernel, by decide +kernel⟩
theorem g_on_grid (T : Txt K mg z) : FnG P w K mg base 1 z.a_on_grid z.fd_on_grid ["points"] M_on_grid := by
  refine fnG_of (N := ["points", "bottom", "_", "first", "second", "x", "right", "y", "up"]) T.d_on_grid.F sc_on_grid fun cdv A outer s H E hr hgu => ?_
  have hu := hr.units
  exact (SB.cons (SS.set 1 sc_on_grid.nd (by rfl) (Or.inr (by rfl)) SE.int)
    (SB.cons (SS.forS poD (by rfl) (SI.seq (SE.var 0)) (SG.tup (by rfl) (SGs.cons (SG.tup (by rfl) (SGs.cons (SG.name 2 sc_on_grid.nd (by rfl) (Or.inl (by rfl))) (SGs.cons (SG.name 3 sc_on_grid.nd (by rfl) (Or.inl (by rfl))) SGs.nil))) (SGs.cons (SG.tup (by rfl) (SGs.cons (SG.name 2 sc_on_grid.nd (by rfl) (Or.inl (by rfl))) (SGs.cons (SG.name 4 sc_on_grid.nd (by rfl) (Or.inl (by rfl))) SGs.nil))) SGs.nil))) (SB.one (SS.set 1 sc_on_grid.nd (by rfl) (Or.inr (by rfl)) (SE.lcm3 (by rfl) T.m_lcm (SA.cons (SE.var 1) (SA.cons (SE.var 3) (SA.cons (SE.var 4) SA.nil)))))))
    (SB.one (SS.ret (SE.tup (SA.cons (SE.var 1) (SA.cons (SE.lcV (own := [("x", 5), ("right", 6), ("y", 7), ("up", 8)]) (by rfl) sc_on_grid.nd (SI.seq (SE.var 0)) (blkOk_by (N := ["points", "bottom", "_", "first", "second", "x", "right", "y", "up"]) (sc := defScope s_on_grid) (by decide +kernel)) (by decide) (fun _ _ _ _ _ => (SG.tup (by rfl) (SGs.cons (SG.tup (by rfl) (SGs.cons (SG.name 5 sc_on_grid.nd (by rfl) (Or.inl (by rfl))) (SGs.cons (SG.name 6 sc_on_grid.nd (by rfl) (Or.inl (by rfl))) SGs.nil))) (SGs.cons (SG.tup (by rfl) (SGs.cons (SG.name 7 sc_on_grid.nd (by rfl) (Or.inl (by rfl))) (SGs.cons (SG.name 8 sc_on_grid.nd (by rfl) (Or.inl (by rfl))) SGs.nil))) SGs.nil)))) (fun _ _ _ _ _ => STs.nil) (fun _ _ _ _ _ => (SE.tup (SA.cons (SE.mul (SE.var 5) (SE.div (SE.var 1) (SE.var 6))) (SA.cons (SE.mul (SE.var 7) (SE.div (SE.var 1) (SE.var 8))) SA.nil))))) SA.nil)))))))
theorem sc_whole_area : FnScope ["a", "b", "c"] ["a", "b", "c"] (defScope s_whole_area) := ⟨rfl, rfl, rfl, by decide +kernel, rfl, by decide +kernel, by decide +kernel⟩
theorem g_whole_area (T : Txt K mg z) : FnG P w K mg base 1 z.a_whole_area z.fd_whole_area ["a", "b", "c"] M_whole_area := by
  refine fnG_of (N := ["a", "b", "c"]) T.d_whole_area.F sc_whole_area fun cdv A outer s H E hr hgu => ?_
  have hu := hr.units
  exact (SB.one (SS.ret (SE.sub (SE.mul (SE.sub (SE.ix (SE.var 1) SE.int) (SE.ix (SE.var 0) SE.int)) (SE.sub (SE.ix (SE.var 2) SE.int) (SE.ix (SE.var 0) SE.int))) (SE.mul (SE.sub (SE.ix (SE.var 1) SE.int) (SE.ix (SE.var 0) SE.int)) (SE.sub (SE.ix (SE.var 2) SE.int) (SE.ix (SE.var 0) SE.int))))))
theorem sc__corners : FnScope ["mesh", "number", "a", "b", "c"] ["mesh", "number"] (defScope s__corners) := ⟨rfl, rfl, rfl, by decide +kernel, rfl, by decide +kernel, by decide +kernel⟩
theorem g__corners (T : Txt K mg z) : FnG P w K mg base 1 z.a__corners z.fd__corners ["mesh", "number"] M__corners := by
  refine fnG_of (N := ["mesh", "number", "a", "b", "c"]) T.d__corners.F sc__corners fun cdv A outer s H E hr hgu => ?_
  have hu := hr.units
  exact (SB.cons (SS.asg (SE.ix (SE.fld T.o_Mesh (by decide) (SE.var 0)) (SE.var 1)) (SG.tup (by rfl) (SGs.cons (SG.name 2 sc__corners.nd (by rfl) (Or.inl (by rfl))) (SGs.cons (SG.name 3 sc__corners.nd (by rfl) (Or.inl (by rfl))) (SGs.cons (SG.name 4 sc__corners.nd (by rfl) (Or.inl (by rfl))) SGs.nil)))))
    (SB.one (SS.ret (SE.tup (SA.cons (SE.ix (SE.fld T.o_Mesh (by decide) (SE.var 0)) (SE.var 2)) (SA.cons (SE.ix (SE.fld T.o_Mesh (by decide) (SE.var 0)) (SE.var 3)) (SA.cons (SE.ix (SE.fld T.o_Mesh (by decide) (SE.var 0)) (SE.var 4)) SA.nil)))))))
theorem sc__law_source : FnScope ["_law_script", "_law_cells", "_law_cell", "_law_blend"] ["_law_script"] (defScope s__law_source) := ⟨rfl, rfl, rfl, by decide +kernel, rfl, by decide +kernel, by decide +kernel⟩
theorem g__law_source (T : Txt K mg z) : FnG P w K mg base 1 z.a__law_source z.fd__law_source ["_law_script"] M__law_source := by
  refine fnG_of (N := ["_law_script", "_law_cells", "_law_cell", "_law_blend"]) T.d__law_source.F sc__law_source fun cdv A outer s H E hr hgu => ?_
  have hu := hr.units
  exact (SB.cons (SS.setLcV (i := 1) (own := [("_law_cell", 2)]) (by rfl) sc__law_source.nd (SI.seq (SE.slice (SE.var 0) SO.none (SO.some SE.int))) (blkOk_by (N := ["_law_script", "_law_cells", "_law_cell", "_law_blend"]) (sc := defScope s__law_source) (by decide +kernel)) (by decide) (fun _ _ _ _ _ => (SG.name 2 sc__law_source.nd (by rfl) (Or.inl (by rfl)))) (fun _ _ _ _ _ => STs.nil) (fun _ _ _ _ _ => (SE.abs (by rfl) T.n_abs (SA.cons (SE.int1 (by rfl) T.n_int (SA.cons (SE.var 2) SA.nil)) SA.nil))) (by rfl) (by rfl) (sw_true (by rfl) (by rfl) (by rfl) (by decide +kernel)))
    (SB.cons (SS.set 3 sc__law_source.nd (by rfl) (Or.inl (by rfl)) SE.int)
    (SB.cons (SS.forS poD (by rfl) (SI.seq (SE.var 1)) (SG.name 2 sc__law_source.nd (by rfl) (Or.inl (by rfl))) (SB.one (SS.set 3 sc__law_source.nd (by rfl) (Or.inl (by rfl)) (SE.mod (SE.int1 (by rfl) T.n_int (SA.cons (SE.add (SE.add (SE.mul (SE.var 3) SE.int) (SE.mod (SE.var 2) SE.int)) SE.int) SA.nil)) SE.int))))
    (SB.one (SS.ret (SE.loc (SA.cons (SE.revLoc (SE.lcV (own := [("_law_cell", 2)]) (by rfl) sc__law_source.nd (SI.seq (SE.var 1)) (blkOk_by (N := ["_law_script", "_law_cells", "_law_cell", "_law_blend"]) (sc := defScope s__law_source) (by decide +kernel)) (by decide) (fun _ _ _ _ _ => (SG.name 2 sc__law_source.nd (by rfl) (Or.inl (by rfl)))) (fun _ _ _ _ _ => (STs.one (ST.ge (SE.var 2) (SE.pow SE.int SE.int)))) (fun _ _ _ _ _ => (SE.var 2)))) (SA.cons (SE.var 3) SA.nil))))))))
theorem sc__law_any : FnScope ["_law_deal", "_law_bound", "_law_rest"] ["_law_deal", "_law_bound"] (defScope s__law_any) := ⟨rfl, rfl, rfl, by decide +kernel, rfl, by decide +kernel, by decide +kernel⟩
theorem g__law_any (T : Txt K mg z) : FnG P w K mg base 1 z.a__law_any z.fd__law_any ["_law_deal", "_law_bound"] M__law_any := by
  refine fnG_of (N := ["_law_deal", "_law_bound", "_law_rest"]) T.d__law_any.F sc__law_any fun cdv A outer s H E hr hgu => ?_
  have hu := hr.units
  exact (SB.cons (SS.whileS poD (SW.pt (SW.and (ST.ne hu (SE.ix (SE.var 0) SE.int) (SE.lst SA.nil)) (SW.and1 (ST.eq hu (SE.ix (SE.ix (SE.var 0) SE.int) (SE.neg SE.int)) SE.int)))) (SB.one (SS.expr (SE.pop (SE.ix (SE.var 0) SE.int)))))
    (SB.cons (SS.ifS (ST.ne hu (SE.ix (SE.var 0) SE.int) (SE.lst SA.nil)) (SB.cons (SS.set 2 sc__law_any.nd (by rfl) (Or.inl (by rfl)) (SE.int1 (by rfl) T.n_int (SA.cons (SE.pop (SE.ix (SE.var 0) SE.int)) SA.nil)))
    (SB.cons (SS.expr (SE.append (SE.ix (SE.var 0) SE.int) (SA.cons (SE.div (SE.var 2) (SE.var 1)) SA.nil)))
    (SB.one (SS.ret (SE.mod (SE.var 2) (SE.var 1)))))) SB.nil)
    (SB.cons (SS.sub (SE.mod (SE.int1 (by rfl) T.n_int (SA.cons (SE.add (SE.mul (SE.ix (SE.var 0) SE.int) SE.int) SE.int) SA.nil)) SE.int) (SE.var 0) SE.int)
    (SB.one (SS.ret (SE.mod (SE.int1 (by rfl) T.n_int (SA.cons (SE.div (SE.ix (SE.var 0) SE.int) SE.int) SA.nil)) (SE.var 1)))))))
theorem sc__law_common : FnScope ["_law_one", "_law_other_here", "_law_step"] ["_law_one", "_law_other_here"] (defScope s__law_common) := ⟨rfl, rfl, rfl, by decide +kernel, rfl, by decide +kernel, by decide +kernel⟩
theorem g__law_common (T : Txt K mg z) : FnG P w K mg base 1 z.a__law_common z.fd__law_common ["_law_one", "_law_other_here"] M__law_common := by
  refine fnG_of (N := ["_law_one", "_law_other_here", "_law_step"]) T.d__law_common.F sc__law_common fun cdv A outer s H E hr hgu => ?_
  have hu := hr.units
  exact (SB.cons (SS.par 0 1 (by rfl) sc__law_common.nd (by rfl) (by rfl) (by decide) (by rfl) (by rfl) (SA.cons (SE.abs (by rfl) T.n_abs (SA.cons (SE.int1 (by rfl) T.n_int (SA.cons (SE.var 0) SA.nil)) SA.nil)) (SA.cons (SE.abs (by rfl) T.n_abs (SA.cons (SE.int1 (by rfl) T.n_int (SA.cons (SE.var 1) SA.nil)) SA.nil)) SA.nil)) (by rfl))
    (SB.cons (SS.forS poD (by rfl) (SI.range1 (by rfl) T.n_range (SA.cons SE.int SA.nil)) (SG.name 2 sc__law_common.nd (by rfl) (Or.inl (by rfl))) (SB.cons (SS.ifS (ST.eq hu (SE.var 1) SE.int) (SB.one SS.brk) SB.nil)
    (SB.one (SS.par 0 1 (by rfl) sc__law_common.nd (by rfl) (by rfl) (by decide) (by rfl) (by rfl) (SA.cons (SE.var 1) (SA.cons (SE.mod (SE.int1 (by rfl) T.n_int (SA.cons (SE.var 0) SA.nil)) (SE.var 1)) SA.nil)) (by rfl)))))
    (SB.one (SS.ret (SE.var 0)))))
theorem sc__law_same : FnScope ["_law_told", "_law_due"] ["_law_told", "_law_due"] (defScope s__law_same) := ⟨rfl, rfl, rfl, by decide +kernel, rfl, by decide +kernel, by decide +kernel⟩
theorem g__law_same (T : Txt K mg z) : FnG P w K mg base 1 z.a__law_same z.fd__law_same ["_law_told", "_law_due"] M__law_same := by
  refine fnG_of (N := ["_law_told", "_law_due"]) T.d__law_same.F sc__law_same fun cdv A outer s H E hr hgu => ?_
  have hu := hr.units
  exact (SB.one (SS.ret (SE.eq hu (SE.repr hgu hu (by rfl) T.n_repr (SA.cons (SE.var 0) SA.nil)) (SE.repr hgu hu (by rfl) T.n_repr (SA.cons (SE.var 1) SA.nil)))))
theorem sc__law_cross : FnScope ["_law_a", "_law_b", "_law_c"] ["_law_a", "_law_b", "_law_c"] (defScope s__law_cross) := ⟨rfl, rfl, rfl, by decide +kernel, rfl, by decide +kernel, by decide +kernel⟩
theorem g__law_cross (T : Txt K mg z) : FnG P w K mg base 1 z.a__law_cross z.fd__law_cross ["_law_a", "_law_b", "_law_c"] M__law_cross := by
  refine fnG_of (N := ["_law_a", "_law_b", "_law_c"]) T.d__law_cross.F sc__law_cross fun cdv A outer s H E hr hgu => ?_
  have hu := hr.units
  exact (SB.one (SS.ret (SE.sub (SE.mul (SE.sub (SE.ix (SE.var 1) SE.int) (SE.ix (SE.var 0) SE.int)) (SE.sub (SE.ix (SE.var 2) SE.int) (SE.ix (SE.var 0) SE.int))) (SE.mul (SE.sub (SE.ix (SE.var 1) SE.int) (SE.ix (SE.var 0) SE.int)) (SE.sub (SE.ix (SE.var 2) SE.int) (SE.ix (SE.var 0) SE.int))))))
theorem sc__law_third : FnScope ["_law_triples", "_law_one", "_law_other_here", "_law_a", "_law_b", "_law_c"] ["_law_triples", "_law_one", "_law_other_here"] (defScope s__law_third) := ⟨rfl, rfl, rfl, by decide +kernel, rfl, by decide +kernel, by decide +kernel⟩
theorem g__law_third (T : Txt K mg z) : FnG P w K mg base 1 z.a__law_third z.fd__law_third ["_law_triples", "_law_one", "_law_other_here"] M__law_third := by
  refine fnG_of (N := ["_law_triples", "_law_one", "_law_other_here", "_law_a", "_law_b", "_law_c"]) T.d__law_third.F sc__law_third fun cdv A outer s H E hr hgu => ?_
  have hu := hr.units
  exact (SB.cons (SS.forS poD (by rfl) (SI.seq (SE.var 0)) (SG.tup (by rfl) (SGs.cons (SG.name 3 sc__law_third.nd (by rfl) (Or.inl (by rfl))) (SGs.cons (SG.name 4 sc__law_third.nd (by rfl) (Or.inl (by rfl))) (SGs.cons (SG.name 5 sc__law_third.nd (by rfl) (Or.inl (by rfl))) SGs.nil)))) (SB.cons (SS.ifS (ST.eq hu (SE.tup (SA.cons (SE.var 3) (SA.cons (SE.var 4) SA.nil))) (SE.tup (SA.cons (SE.var 1) (SA.cons (SE.var 2) SA.nil)))) (SB.one (SS.ret (SE.var 5))) SB.nil)
    (SB.cons (SS.ifS (ST.eq hu (SE.tup (SA.cons (SE.var 4) (SA.cons (SE.var 5) SA.nil))) (SE.tup (SA.cons (SE.var 1) (SA.cons (SE.var 2) SA.nil)))) (SB.one (SS.ret (SE.var 3))) SB.nil)
    (SB.one (SS.ifS (ST.eq hu (SE.tup (SA.cons (SE.var 5) (SA.cons (SE.var 3) SA.nil))) (SE.tup (SA.cons (SE.var 1) (SA.cons (SE.var 2) SA.nil)))) (SB.one (SS.ret (SE.var 4))) SB.nil)))))
    (SB.one (SS.ret SE.non)))
theorem sc_minus : FnScope ["one", "other"] ["one", "other"] (defScope s_minus) := ⟨rfl, rfl, rfl, by decide +kernel, rfl, by decide +kernel, by decide +kernel⟩
theorem g_minus (T : Txt K mg z) : FnG P w K mg base 2 z.a_minus z.fd_minus ["one", "other"] M_minus := by
  refine fnG_of (N := ["one", "other"]) T.d_minus.F sc_minus fun cdv A outer s H E hr hgu => ?_
  have hu := hr.units
  exact (SB.one (SS.ret (SE.fn T.d_plus (g_plus T) mir_len hr (by decide) hgu tkD (by rfl) T.b_plus (SA.cons (SE.var 0) (SA.cons (SE.fn T.d_negative (g_negative T) mir_len hr (by decide) hgu tkD (by rfl) T.b_negative (SA.cons (SE.var 1) SA.nil)) SA.nil)))))
theorem sc_over : FnScope ["one", "other", "top", "bottom"] ["one", "other"] (defScope s_over) := ⟨rfl, rfl, rfl, by decide +kernel, rfl, by decide +kernel, by decide +kernel⟩
theorem g_over (T : Txt K mg z) : FnG P w K mg base 2 z.a_over z.fd_over ["one", "other"] M_over := by
  refine fnG_of (N := ["one", "other", "top", "bottom"]) T.d_over.F sc_over fun cdv A outer s H E hr hgu => ?_
  have hu := hr.units
  exact (SB.cons (SS.asg (SE.var 1) (SG.tup (by rfl) (SGs.cons (SG.name 2 sc_over.nd (by rfl) (Or.inl (by rfl))) (SGs.cons (SG.name 3 sc_over.nd (by rfl) (Or.inl (by rfl))) SGs.nil))))
    (SB.cons (SS.ifS (ST.eq hu (SE.var 2) SE.int) (SB.one (SS.raise (by rfl) T.x_InvalidSize hr tkD (SA.cons SE.str SA.nil) (by rfl))) SB.nil)
    (SB.cons (SS.ifS (ST.lt (SE.var 2) SE.int) (SB.one (SS.par 2 3 (by rfl) sc_over.nd (by rfl) (by rfl) (by decide) (by rfl) (by rfl) (SA.cons (SE.neg (SE.var 2)) (SA.cons (SE.neg (SE.var 3)) SA.nil)) (by rfl))) SB.nil)
    (SB.one (SS.ret (SE.fn T.d_times (g_times T) mir_len hr (by decide) hgu tkD (by rfl) T.b_times (SA.cons (SE.var 0) (SA.cons (SE.tup (SA.cons (SE.var 3) (SA.cons (SE.var 2) SA.nil))) SA.nil))))))))
theorem sc_total_of : FnScope ["some", "parts", "rest", "one", "other"] ["some"] (defScope s_total_of) := ⟨rfl, rfl, rfl, by decide +kernel, rfl, by decide +kernel, by decide +kernel⟩
theorem g_total_of (T : Txt K mg z) : FnG P w K mg base 2 z.a_total_of z.fd_total_of ["some"] M_total_of := by
  refine fnG_of (N := ["some", "parts", "rest", "one", "other"]) T.d_total_of.F sc_total_of fun cdv A outer s H E hr hgu => ?_
  have hu := hr.units
  exact (SB.cons (SS.set 1 sc_total_of.nd (by rfl) (Or.inl (by rfl)) (SE.list1 (by rfl) T.n_list (SA.cons (SE.var 0) SA.nil)))
    (SB.cons (SS.ifS (ST.not (ST.tru (SE.var 1))) (SB.one (SS.ret (SE.glob (v := .ref z.k_ZERO) (by rfl) T.m_ZERO rfl T.c_ZERO))) SB.nil)
    (SB.cons (SS.whileS poD (ST.gt (SE.len (by rfl) T.n_len (SA.cons (SE.var 1) SA.nil)) SE.int) (SB.cons (SS.set 2 sc_total_of.nd (by rfl) (Or.inl (by rfl)) (SE.slice (SE.var 1) (SO.some (SE.mul (SE.div (SE.len (by rfl) T.n_len (SA.cons (SE.var 1) SA.nil)) SE.int) SE.int)) SO.none))
    (SB.one (SS.set 1 sc_total_of.nd (by rfl) (Or.inl (by rfl)) (SE.add (SE.lcV (own := [("one", 3), ("other", 4)]) (by rfl) sc_total_of.nd (SI.zip (by rfl) T.n_zip (SA.cons (SE.slL (by decide) (SE.var 1) SO.none SO.none stepc_int) (SA.cons (SE.slL (by decide) (SE.var 1) (SO.some SE.int) SO.none stepc_int) SA.nil))) (blkOk_by (N := ["some", "parts", "rest", "one", "other"]) (sc := defScope s_total_of) (by decide +kernel)) (by decide) (fun _ _ _ _ _ => (SG.tup (by rfl) (SGs.cons (SG.name 3 sc_total_of.nd (by rfl) (Or.inl (by rfl))) (SGs.cons (SG.name 4 sc_total_of.nd (by rfl) (Or.inl (by rfl))) SGs.nil)))) (fun _ _ _ _ _ => STs.nil) (fun _ _ _ _ _ => (SE.fn T.d_plus (g_plus T) mir_len hr (by decide) hgu tk0 (by rfl) T.b_plus (SA.cons (SE.var 3) (SA.cons (SE.var 4) SA.nil))))) (SE.var 2))))))
    (SB.one (SS.ret (SE.ix (SE.var 1) SE.int))))))
theorem sc_doubled_area : FnScope ["a", "b", "c", "bottom", "p", "q", "r"] ["a", "b", "c"] (defScope s_doubled_area) := ⟨rfl, rfl, rfl, by decide +kernel, rfl, by decide +kernel, by decide +kernel⟩
theorem g_doubled_area (T : Txt K mg z) : FnG P w K mg base 2 z.a_doubled_area z.fd_doubled_area ["a", "b", "c"] M_doubled_area := by
  refine fnG_of (N := ["a", "b", "c", "bottom", "p", "q", "r"]) T.d_doubled_area.F sc_doubled_area fun cdv A outer s H E hr hgu => ?_
  have hu := hr.units
  exact (SB.cons (SS.asg (SE.fn T.d_on_grid (g_on_grid T) mir_len hr (by decide) hgu tkD (by rfl) T.b_on_grid (SA.cons (SE.tup (SA.cons (SE.var 0) (SA.cons (SE.var 1) (SA.cons (SE.var 2) SA.nil)))) SA.nil)) (SG.tup (by rfl) (SGs.cons (SG.name 3 sc_doubled_area.nd (by rfl) (Or.inl (by rfl))) (SGs.cons (SG.tup (by rfl) (SGs.cons (SG.name 4 sc_doubled_area.nd (by rfl) (Or.inl (by rfl))) (SGs.cons (SG.name 5 sc_doubled_area.nd (by rfl) (Or.inl (by rfl))) (SGs.cons (SG.name 6 sc_doubled_area.nd (by rfl) (Or.inl (by rfl))) SGs.nil)))) SGs.nil))))
    (SB.one (SS.ret (SE.fn T.d_fraction (g_fraction T) mir_len hr (by decide) hgu tkD (by rfl) T.b_fraction (SA.cons (SE.fn T.d_whole_area (g_whole_area T) mir_len hr (by decide) hgu tkD (by rfl) T.b_whole_area (SA.cons (SE.var 4) (SA.cons (SE.var 5) (SA.cons (SE.var 6) SA.nil)))) (SA.cons (SE.mul (SE.var 3) (SE.var 3)) SA.nil))))))
theorem sc__law_of : FnScope ["_law_deal", "_law_some"] ["_law_deal", "_law_some"] (defScope s__law_of) := ⟨rfl, rfl, rfl, by decide +kernel, rfl, by decide +kernel, by decide +kernel⟩
theorem g__law_of (T : Txt K mg z) : FnG P w K mg base 2 z.a__law_of z.fd__law_of ["_law_deal", "_law_some"] M__law_of := by
  refine fnG_of (N := ["_law_deal", "_law_some"]) T.d__law_of.F sc__law_of fun cdv A outer s H E hr hgu => ?_
  have hu := hr.units
  exact (SB.one (SS.ret (SE.ix (SE.var 1) (SE.fn T.d__law_any (g__law_any T) mir_len hr (by decide) hgu tkD (by rfl) T.b__law_any (SA.cons (SE.var 0) (SA.cons (SE.len (by rfl) T.n_len (SA.cons (SE.var 1) SA.nil)) SA.nil))))))
theorem sc__law_low : FnScope ["_law_top", "_law_bottom", "_law_common_here"] ["_law_top", "_law_bottom"] (defScope s__law_low) := ⟨rfl, rfl, rfl, by decide +kernel, rfl, by decide +kernel, by decide +kernel⟩
theorem g__law_low (T : Txt K mg z) : FnG P w K mg base 2 z.a__law_low z.fd__law_low ["_law_top", "_law_bottom"] M__law_low := by
  refine fnG_of (N := ["_law_top", "_law_bottom", "_law_common_here"]) T.d__law_low.F sc__law_low fun cdv A outer s H E hr hgu => ?_
  have hu := hr.units
  exact (SB.cons (SS.set 2 sc__law_low.nd (by rfl) (Or.inl (by rfl)) (SE.fn T.d__law_common (g__law_common T) mir_len hr (by decide) hgu tkD (by rfl) T.b__law_common (SA.cons (SE.var 0) (SA.cons (SE.var 1) SA.nil))))
    (SB.one (SS.ret (SE.tup (SA.cons (SE.div (SE.int1 (by rfl) T.n_int (SA.cons (SE.var 0) SA.nil)) (SE.var 2)) (SA.cons (SE.div (SE.int1 (by rfl) T.n_int (SA.cons (SE.var 1) SA.nil)) (SE.var 2)) SA.nil))))))
theorem sc__law_split : FnScope ["_law_deal", "_law_spots", "_law_triples", "_law_at", "_law_first", "_law_a", "_law_b", "_law_c", "_law_x", "_law_y", "_law_new"] ["_law_deal", "_law_spots", "_law_triples"] (defScope s__law_split) := ⟨rfl, rfl, rfl, by decide +kernel, rfl, by decide +kernel, by decide +kernel⟩
theorem g__law_split (T : Txt K mg z) : FnG P w K mg base 2 z.a__law_split z.fd__law_split ["_law_deal", "_law_spots", "_law_triples"] M__law_split := by
  refine fnG_of (N := ["_law_deal", "_law_spots", "_law_triples", "_law_at", "_law_first", "_law_a", "_law_b", "_law_c", "_law_x", "_law_y", "_law_new"]) T.d__law_split.F sc__law_split fun cdv A outer s H E hr hgu => ?_
  have hu := hr.units
  exact (SB.cons (SS.par 3 4 (by rfl) sc__law_split.nd (by rfl) (by rfl) (by decide) (by rfl) (by rfl) (SA.cons (SE.fn T.d__law_any (g__law_any T) mir_len hr (by decide) hgu tkD (by rfl) T.b__law_any (SA.cons (SE.var 0) (SA.cons (SE.len (by rfl) T.n_len (SA.cons (SE.var 2) SA.nil)) SA.nil))) (SA.cons (SE.fn T.d__law_any (g__law_any T) mir_len hr (by decide) hgu tkD (by rfl) T.b__law_any (SA.cons (SE.var 0) (SA.cons SE.int SA.nil))) SA.nil)) (by rfl))
    (SB.cons (SS.asg (SE.add (SE.slice (SE.ix (SE.var 2) (SE.var 3)) (SO.some (SE.var 4)) SO.none) (SE.slice (SE.ix (SE.var 2) (SE.var 3)) SO.none (SO.some (SE.var 4)))) (SG.tup (by rfl) (SGs.cons (SG.name 5 sc__law_split.nd (by rfl) (Or.inl (by rfl))) (SGs.cons (SG.name 6 sc__law_split.nd (by rfl) (Or.inl (by rfl))) (SGs.cons (SG.name 7 sc__law_split.nd (by rfl) (Or.inl (by rfl))) SGs.nil)))))
    (SB.cons (SS.set 8 sc__law_split.nd (by rfl) (Or.inl (by rfl)) (SE.div (SE.add (SE.add (SE.mul SE.int (SE.ix (SE.ix (SE.var 1) (SE.var 5)) SE.int)) (SE.ix (SE.ix (SE.var 1) (SE.var 6)) SE.int)) (SE.ix (SE.ix (SE.var 1) (SE.var 7)) SE.int)) SE.int))
    (SB.cons (SS.set 9 sc__law_split.nd (by rfl) (Or.inl (by rfl)) (SE.div (SE.add (SE.add (SE.mul SE.int (SE.ix (SE.ix (SE.var 1) (SE.var 5)) SE.int)) (SE.ix (SE.ix (SE.var 1) (SE.var 6)) SE.int)) (SE.ix (SE.ix (SE.var 1) (SE.var 7)) SE.int)) SE.int))
    (SB.cons (SS.set 10 sc__law_split.nd (by rfl) (Or.inl (by rfl)) (SE.len (by rfl) T.n_len (SA.cons (SE.var 1) SA.nil)))
    (SB.one (SS.ret (SE.tup (SA.cons (SE.add (SE.var 1) (SE.lst (SA.cons (SE.tup (SA.cons (SE.var 8) (SA.cons (SE.var 9) SA.nil))) SA.nil))) (SA.cons (SE.add (SE.add (SE.slice (SE.var 2) SO.none (SO.some (SE.var 3))) (SE.slice (SE.var 2) (SO.some (SE.add (SE.var 3) SE.int)) SO.none)) (SE.lst (SA.cons (SE.lst (SA.cons (SE.var 5) (SA.cons (SE.var 6) (SA.cons (SE.var 10) SA.nil)))) (SA.cons (SE.lst (SA.cons (SE.var 6) (SA.cons (SE.var 7) (SA.cons (SE.var 10) SA.nil)))) (SA.cons (SE.lst (SA.cons (SE.var 7) (SA.cons (SE.var 5) (SA.cons (SE.var 10) SA.nil)))) SA.nil))))) SA.nil))))))))))
theorem sc__law_grid : FnScope ["_law_deal", "_law_wide", "_law_high", "_law_gap", "_law_xs", "_law_ys", "_law_step", "_law_spots", "_law_triples", "_law_y", "_law_x", "_law_cell", "_law_a", "_law_b", "_law_c", "_law_d"] ["_law_deal", "_law_wide", "_law_high", "_law_gap"] (defScope s__law_grid) := ⟨rfl, rfl, rfl, by decide +kernel, rfl, by decide +kernel, by decide +kernel⟩
theorem g__law_grid (T : Txt K mg z) : FnG P w K mg base 2 z.a__law_grid z.fd__law_grid ["_law_deal", "_law_wide", "_law_high", "_law_gap"] M__law_grid := by
  refine fnG_of (N := ["_law_deal", "_law_wide", "_law_high", "_law_gap", "_law_xs", "_law_ys", "_law_step", "_law_spots", "_law_triples", "_law_y", "_law_x", "_law_cell", "_law_a", "_law_b", "_law_c", "_law_d"]) T.d__law_grid.F sc__law_grid fun cdv A outer s H E hr hgu => ?_
  have hu := hr.units
  exact (SB.cons (SS.par 4 5 (by rfl) sc__law_grid.nd (by rfl) (by rfl) (by decide) (by rfl) (by rfl) (SA.cons (SE.loc (SA.cons SE.int SA.nil)) (SA.cons (SE.loc (SA.cons SE.int SA.nil)) SA.nil)) (by rfl))
    (SB.cons (SS.forS poD (by rfl) (SI.range1 (by rfl) T.n_range (SA.cons (SE.var 1) SA.nil)) (SG.name 6 sc__law_grid.nd (by rfl) (Or.inl (by rfl))) (SB.one (SS.expr (SE.append (SE.var 4) (SA.cons (SE.add (SE.add (SE.ix (SE.var 4) (SE.neg SE.int)) SE.int) (SE.fn T.d__law_any (g__law_any T) mir_len hr (by decide) hgu tkD (by rfl) T.b__law_any (SA.cons (SE.var 0) (SA.cons SE.int SA.nil)))) SA.nil)))))
    (SB.cons (SS.forS poD (by rfl) (SI.range1 (by rfl) T.n_range (SA.cons (SE.var 2) SA.nil)) (SG.name 6 sc__law_grid.nd (by rfl) (Or.inl (by rfl))) (SB.one (SS.expr (SE.append (SE.var 5) (SA.cons (SE.add (SE.add (SE.ix (SE.var 5) (SE.neg SE.int)) SE.int) (SE.fn T.d__law_any (g__law_any T) mir_len hr (by decide) hgu tkD (by rfl) T.b__law_any (SA.cons (SE.var 0) (SA.cons SE.int SA.nil)))) SA.nil)))))
    (SB.cons (SS.par 7 8 (by rfl) sc__law_grid.nd (by rfl) (by rfl) (by decide) (by rfl) (by rfl) (SA.cons (SE.lst SA.nil) (SA.cons (SE.lst SA.nil) SA.nil)) (by rfl))
    (SB.cons (SS.forS poD (by rfl) (SI.seq (SE.var 5)) (SG.name 9 sc__law_grid.nd (by rfl) (Or.inr (by rfl))) (SB.one (SS.set 7 sc__law_grid.nd (by rfl) (Or.inl (by rfl)) (SE.add (SE.var 7) (SE.lcV (own := [("_law_x", 10)]) (by rfl) sc__law_grid.nd (SI.seq (SE.var 4)) (blkOk_by (N := ["_law_deal", "_law_wide", "_law_high", "_law_gap", "_law_xs", "_law_ys", "_law_step", "_law_spots", "_law_triples", "_law_y", "_law_x", "_law_cell", "_law_a", "_law_b", "_law_c", "_law_d"]) (sc := defScope s__law_grid) (by decide +kernel)) (by decide) (fun _ _ _ _ _ => (SG.name 10 sc__law_grid.nd (by rfl) (Or.inl (by rfl)))) (fun _ _ _ _ _ => STs.nil) (fun _ _ _ _ _ => (SE.tup (SA.cons (SE.var 10) (SA.cons (SE.var 9) SA.nil)))))))))
    (SB.cons (SS.forS poD (by rfl) (SI.range1 (by rfl) T.n_range (SA.cons (SE.mul (SE.var 1) (SE.var 2)) SA.nil)) (SG.name 11 sc__law_grid.nd (by rfl) (Or.inl (by rfl))) (SB.cons (SS.set 12 sc__law_grid.nd (by rfl) (Or.inl (by rfl)) (SE.add (SE.mul (SE.div (SE.var 11) (SE.var 1)) (SE.add (SE.var 1) SE.int)) (SE.mod (SE.int1 (by rfl) T.n_int (SA.cons (SE.var 11) SA.nil)) (SE.var 1))))
    (SB.cons (SS.par3 13 14 15 (by rfl) sc__law_grid.nd (by rfl) (by rfl) (by rfl) (by decide) (by decide) (by decide) (by rfl) (by rfl) (by rfl) (SA.cons (SE.add (SE.var 12) SE.int) (SA.cons (SE.add (SE.add (SE.var 12) (SE.var 1)) SE.int) (SA.cons (SE.add (SE.add (SE.var 12) (SE.var 1)) SE.int) SA.nil))) (by rfl))
    (SB.one (SS.ifS (ST.ne hu (SE.var 11) (SE.var 3)) (SB.one (SS.set 8 sc__law_grid.nd (by rfl) (Or.inl (by rfl)) (SE.add (SE.var 8) (SE.ifExp (ST.eq hu (SE.fn T.d__law_any (g__law_any T) mir_len hr (by decide) hgu tkD (by rfl) T.b__law_any (SA.cons (SE.var 0) (SA.cons SE.int SA.nil))) SE.int) (SE.lst (SA.cons (SE.lst (SA.cons (SE.var 12) (SA.cons (SE.var 13) (SA.cons (SE.var 14) SA.nil)))) (SA.cons (SE.lst (SA.cons (SE.var 12) (SA.cons (SE.var 14) (SA.cons (SE.var 15) SA.nil)))) SA.nil))) (SE.lst (SA.cons (SE.lst (SA.cons (SE.var 12) (SA.cons (SE.var 13) (SA.cons (SE.var 15) SA.nil)))) (SA.cons (SE.lst (SA.cons (SE.var 13) (SA.cons (SE.var 14) (SA.cons (SE.var 15) SA.nil)))) SA.nil))))))) SB.nil)))))
    (SB.one (SS.ret (SE.tup (SA.cons (SE.var 7) (SA.cons (SE.var 8) SA.nil)))))))))))
theorem sc__law_other : FnScope ["_law_spots", "_law_triples", "_law_one", "_law_other_here", "_law_left", "_law_right", "_law_gone", "_law_triple"] ["_law_spots", "_law_triples", "_law_one", "_law_other_here"] (defScope s__law_other) := ⟨rfl, rfl, rfl, by decide +kernel, rfl, by decide +kernel, by decide +kernel⟩
theorem g__law_other (T : Txt K mg z) : FnG P w K mg base 2 z.a__law_other z.fd__law_other ["_law_spots", "_law_triples", "_law_one", "_law_other_here"] M__law_other := by
  refine fnG_of (N := ["_law_spots", "_law_triples", "_law_one", "_law_other_here", "_law_left", "_law_right", "_law_gone", "_law_triple"]) T.d__law_other.F sc__law_other fun cdv A outer s H E hr hgu => ?_
  have hu := hr.units
  exact (SB.cons (SS.par 4 5 (by rfl) sc__law_other.nd (by rfl) (by rfl) (by decide) (by rfl) (by rfl) (SA.cons (SE.fn T.d__law_third (g__law_third T) mir_len hr (by decide) hgu tkD (by rfl) T.b__law_third (SA.cons (SE.var 1) (SA.cons (SE.var 2) (SA.cons (SE.var 3) SA.nil)))) (SA.cons (SE.fn T.d__law_third (g__law_third T) mir_len hr (by decide) hgu tkD (by rfl) T.b__law_third (SA.cons (SE.var 1) (SA.cons (SE.var 3) (SA.cons (SE.var 2) SA.nil)))) SA.nil)) (by rfl))
    (SB.cons (SS.ifS (SW.pt (SW.or (ST.isN (SE.var 4) SE.non) (SW.or1 (ST.isN (SE.var 5) SE.non)))) (SB.one (SS.ret SE.non)) SB.nil)
    (SB.cons (SS.ifS (SW.pt (SW.or (ST.le (SE.fn T.d__law_cross (g__law_cross T) mir_len hr (by decide) hgu tkD (by rfl) T.b__law_cross (SA.cons (SE.ix (SE.var 0) (SE.var 5)) (SA.cons (SE.ix (SE.var 0) (SE.var 3)) (SA.cons (SE.ix (SE.var 0) (SE.var 4)) SA.nil)))) SE.int) (SW.or1 (ST.le (SE.fn T.d__law_cross (g__law_cross T) mir_len hr (by decide) hgu tkD (by rfl) T.b__law_cross (SA.cons (SE.ix (SE.var 0) (SE.var 5)) (SA.cons (SE.ix (SE.var 0) (SE.var 4)) (SA.cons (SE.ix (SE.var 0) (SE.var 2)) SA.nil)))) SE.int)))) (SB.one (SS.ret SE.non)) SB.nil)
    (SB.cons (SS.set 6 sc__law_other.nd (by rfl) (Or.inr (by rfl)) (SE.lst (SA.cons (SE.sortI (by rfl) T.n_sorted (SA.cons (SE.lst (SA.cons (SE.var 2) (SA.cons (SE.var 3) (SA.cons (SE.var 4) SA.nil)))) SA.nil)) (SA.cons (SE.sortI (by rfl) T.n_sorted (SA.cons (SE.lst (SA.cons (SE.var 2) (SA.cons (SE.var 3) (SA.cons (SE.var 5) SA.nil)))) SA.nil)) SA.nil))))
    (SB.one (SS.ret (SE.add (SE.lcV (own := [("_law_triple", 7)]) (by rfl) sc__law_other.nd (SI.seq (SE.var 1)) (blkOk_by (N := ["_law_spots", "_law_triples", "_law_one", "_law_other_here", "_law_left", "_law_right", "_law_gone", "_law_triple"]) (sc := defScope s__law_other) (by decide +kernel)) (by decide) (fun _ _ _ _ _ => (SG.name 7 sc__law_other.nd (by rfl) (Or.inl (by rfl)))) (fun _ _ _ _ _ => (STs.one (ST.notInL hu (SE.sortI (by rfl) T.n_sorted (SA.cons (SE.var 7) SA.nil)) (SE.var 6)))) (fun _ _ _ _ _ => (SE.var 7))) (SE.lst (SA.cons (SE.lst (SA.cons (SE.var 5) (SA.cons (SE.var 3) (SA.cons (SE.var 4) SA.nil)))) (SA.cons (SE.lst (SA.cons (SE.var 5) (SA.cons (SE.var 4) (SA.cons (SE.var 2) SA.nil)))) SA.nil))))))))))
theorem sc__law_moved : FnScope ["_law_deal", "_law_bottom", "_law_spots", "_law_wide", "_law_high", "_law_found", "_law_near", "_law_row", "_law_place", "_law_at"] ["_law_deal", "_law_bottom", "_law_spots", "_law_wide", "_law_high"] (defScope s__law_moved) := ⟨rfl, rfl, rfl, by decide +kernel, rfl, by decide +kernel, by decide +kernel⟩
theorem g__law_moved (T : Txt K mg z) : FnG P w K mg base 2 z.a__law_moved z.fd__law_moved ["_law_deal", "_law_bottom", "_law_spots", "_law_wide", "_law_high"] M__law_moved := by
  refine FnG.frz <| fnG_of (N := ["_law_deal", "_law_bottom", "_law_spots", "_law_wide", "_law_high", "_law_found", "_law_near", "_law_row", "_law_place", "_law_at"]) T.d__law_moved.F sc__law_moved fun cdv A outer s H E hr hgu => ?_
  have hu := hr.units
  exact (SB.cons (SS.par 5 6 (by rfl) sc__law_moved.nd (by rfl) (by rfl) (by decide) (by rfl) (by rfl) (SA.cons (SE.listLoc (by rfl) T.n_list (SA.cons (SE.var 2) SA.nil)) (SA.cons (SE.div (SE.var 1) SE.int) SA.nil)) (by rfl))
    (SB.cons (SS.forS poD (by rfl) (SI.range2 (by rfl) T.n_range (SA.cons SE.int (SA.cons (SE.var 4) SA.nil))) (SG.name 7 sc__law_moved.nd (by rfl) (Or.inl (by rfl))) (SB.one (SS.forS poD (by rfl) (SI.range2 (by rfl) T.n_range (SA.cons SE.int (SA.cons (SE.var 3) SA.nil))) (SG.name 8 sc__law_moved.nd (by rfl) (Or.inl (by rfl))) (SB.cons (SS.set 9 sc__law_moved.nd (by rfl) (Or.inl (by rfl)) (SE.add (SE.mul (SE.var 7) (SE.add (SE.var 3) SE.int)) (SE.var 8)))
    (SB.one (SS.sub (SE.tup (SA.cons (SE.sub (SE.add (SE.ix (SE.ix (SE.var 5) (SE.var 9)) SE.int) (SE.fn T.d__law_any (g__law_any T) mir_len hr (by decide) hgu tkD (by rfl) T.b__law_any (SA.cons (SE.var 0) (SA.cons (SE.add (SE.mul SE.int (SE.var 6)) SE.int) SA.nil)))) (SE.var 6)) (SA.cons (SE.sub (SE.add (SE.ix (SE.ix (SE.var 5) (SE.var 9)) SE.int) (SE.fn T.d__law_any (g__law_any T) mir_len hr (by decide) hgu tkD (by rfl) T.b__law_any (SA.cons (SE.var 0) (SA.cons (SE.add (SE.mul SE.int (SE.var 6)) SE.int) SA.nil)))) (SE.var 6)) SA.nil))) (SE.var 5) (SE.var 9)))))))
    (SB.one (SS.ret (SE.var 5)))))
theorem sc__law_fan : FnScope ["_law_deal", "_law_bottom", "_law_ways", "_law_spots", "_law_way", "_law_size", "_law_at"] ["_law_deal", "_law_bottom"] (defScope s__law_fan) := ⟨rfl, rfl, rfl, by decide +kernel, rfl, by decide +kernel, by decide +kernel⟩
theorem g__law_fan (T : Txt K mg z) : FnG P w K mg base 2 z.a__law_fan z.fd__law_fan ["_law_deal", "_law_bottom"] M__law_fan := by
  refine FnG.frz <| fnG_of (N := ["_law_deal", "_law_bottom", "_law_ways", "_law_spots", "_law_way", "_law_size", "_law_at"]) T.d__law_fan.F sc__law_fan fun cdv A outer s H E hr hgu => ?_
  have hu := hr.units
  exact (SB.cons (SS.set 2 sc__law_fan.nd (by rfl) (Or.inl (by rfl)) (SE.lst (SA.cons (SE.tup (SA.cons SE.int (SA.cons SE.int SA.nil))) (SA.cons (SE.tup (SA.cons SE.int (SA.cons SE.int SA.nil))) (SA.cons (SE.tup (SA.cons SE.int (SA.cons SE.int SA.nil))) (SA.cons (SE.tup (SA.cons (SE.neg SE.int) (SA.cons SE.int SA.nil))) (SA.cons (SE.tup (SA.cons (SE.neg SE.int) (SA.cons SE.int SA.nil))) (SA.cons (SE.tup (SA.cons (SE.neg SE.int) (SA.cons (SE.neg SE.int) SA.nil))) (SA.cons (SE.tup (SA.cons SE.int (SA.cons (SE.neg SE.int) SA.nil))) (SA.cons (SE.tup (SA.cons SE.int (SA.cons (SE.neg SE.int) SA.nil))) SA.nil))))))))))
    (SB.cons (SS.set 3 sc__law_fan.nd (by rfl) (Or.inl (by rfl)) (SE.loc (SA.cons (SE.tup (SA.cons (SE.sub (SE.fn T.d__law_any (g__law_any T) mir_len hr (by decide) hgu tkD (by rfl) T.b__law_any (SA.cons (SE.var 0) (SA.cons (SE.add (SE.var 1) SE.int) SA.nil))) (SE.div (SE.var 1) SE.int)) (SA.cons (SE.sub (SE.fn T.d__law_any (g__law_any T) mir_len hr (by decide) hgu tkD (by rfl) T.b__law_any (SA.cons (SE.var 0) (SA.cons (SE.add (SE.var 1) SE.int) SA.nil))) (SE.div (SE.var 1) SE.int)) SA.nil))) SA.nil)))
    (SB.cons (SS.forS poD (by rfl) (SI.seq (SE.var 2)) (SG.name 4 sc__law_fan.nd (by rfl) (Or.inl (by rfl))) (SB.cons (SS.set 5 sc__law_fan.nd (by rfl) (Or.inl (by rfl)) (SE.mul (SE.var 1) (SE.add SE.int (SE.fn T.d__law_any (g__law_any T) mir_len hr (by decide) hgu tkD (by rfl) T.b__law_any (SA.cons (SE.var 0) (SA.cons SE.int SA.nil))))))
    (SB.one (SS.expr (SE.append (SE.var 3) (SA.cons (SE.tup (SA.cons (SE.mul (SE.var 5) (SE.ix (SE.var 4) SE.int)) (SA.cons (SE.mul (SE.var 5) (SE.ix (SE.var 4) SE.int)) SA.nil))) SA.nil))))))
    (SB.one (SS.ret (SE.pr (SA.cons (SE.var 3) (SA.cons (SE.lcV (own := [("_law_at", 6)]) (by rfl) sc__law_fan.nd (SI.range2 (by rfl) T.n_range (SA.cons SE.int (SA.cons SE.int SA.nil))) (blkOk_by (N := ["_law_deal", "_law_bottom", "_law_ways", "_law_spots", "_law_way", "_law_size", "_law_at"]) (sc := defScope s__law_fan) (by decide +kernel)) (by decide) (fun _ _ _ _ _ => (SG.name 6 sc__law_fan.nd (by rfl) (Or.inl (by rfl)))) (fun _ _ _ _ _ => STs.nil) (fun _ _ _ _ _ => (SE.lst (SA.cons SE.int (SA.cons (SE.var 6) (SA.cons (SE.add SE.int (SE.mod (SE.int1 (by rfl) T.n_int (SA.cons (SE.var 6) SA.nil)) SE.int)) SA.nil)))))) SA.nil))))))))
theorem sc__law_worths : FnScope ["_law_deal", "_law_spots", "_law_form", "_law_spot", "_law_right", "_law_up", "_law_x", "_law_y", "_law_point", "_law_at"] ["_law_deal", "_law_spots"] (defScope s__law_worths) := ⟨rfl, rfl, rfl, by decide +kernel, rfl, by decide +kernel, by decide +kernel⟩
theorem g__law_worths (T : Txt K mg z) : FnG P w K mg base 2 z.a__law_worths z.fd__law_worths ["_law_deal", "_law_spots"] M__law_worths := by
  refine fnG_of (N := ["_law_deal", "_law_spots", "_law_form", "_law_spot", "_law_right", "_law_up", "_law_x", "_law_y", "_law_point", "_law_at"]) T.d__law_worths.F sc__law_worths fun cdv A outer s H E hr hgu => ?_
  have hu := hr.units
  exact (SB.cons (SS.set 2 sc__law_worths.nd (by rfl) (Or.inl (by rfl)) (SE.fn T.d__law_any (g__law_any T) mir_len hr (by decide) hgu tkD (by rfl) T.b__law_any (SA.cons (SE.var 0) (SA.cons SE.int SA.nil))))
    (SB.cons (SS.ifS (ST.eq hu (SE.var 2) SE.int) (SB.one (SS.ret (SE.lcV (own := [("_law_spot", 3)]) (by rfl) sc__law_worths.nd (SI.seq (SE.var 1)) (blkOk_by (N := ["_law_deal", "_law_spots", "_law_form", "_law_spot", "_law_right", "_law_up", "_law_x", "_law_y", "_law_point", "_law_at"]) (sc := defScope s__law_worths) (by decide +kernel)) (by decide) (fun _ _ _ _ _ => (SG.name 3 sc__law_worths.nd (by rfl) (Or.inl (by rfl)))) (fun _ _ _ _ _ => STs.nil) (fun _ _ _ _ _ => SE.int)))) SB.nil)
    (SB.cons (SS.ifS (ST.eq hu (SE.var 2) SE.int) (SB.cons (SS.asg (SE.tup (SA.cons (SE.sub (SE.fn T.d__law_any (g__law_any T) mir_len hr (by decide) hgu tkD (by rfl) T.b__law_any (SA.cons (SE.var 0) (SA.cons SE.int SA.nil))) SE.int) (SA.cons (SE.sub (SE.fn T.d__law_any (g__law_any T) mir_len hr (by decide) hgu tkD (by rfl) T.b__law_any (SA.cons (SE.var 0) (SA.cons SE.int SA.nil))) SE.int) SA.nil))) (SG.tup (by rfl) (SGs.cons (SG.name 4 sc__law_worths.nd (by rfl) (Or.inr (by rfl))) (SGs.cons (SG.name 5 sc__law_worths.nd (by rfl) (Or.inr (by rfl))) SGs.nil))))
    (SB.one (SS.ret (SE.lcV (own := [("_law_x", 6), ("_law_y", 7)]) (by rfl) sc__law_worths.nd (SI.seq (SE.var 1)) (blkOk_by (N := ["_law_deal", "_law_spots", "_law_form", "_law_spot", "_law_right", "_law_up", "_law_x", "_law_y", "_law_point", "_law_at"]) (sc := defScope s__law_worths) (by decide +kernel)) (by decide) (fun _ _ _ _ _ => (SG.tup (by rfl) (SGs.cons (SG.name 6 sc__law_worths.nd (by rfl) (Or.inl (by rfl))) (SGs.cons (SG.name 7 sc__law_worths.nd (by rfl) (Or.inl (by rfl))) SGs.nil)))) (fun _ _ _ _ _ => STs.nil) (fun _ _ _ _ _ => (SE.add (SE.add (SE.mul (SE.var 4) (SE.var 6)) (SE.mul (SE.var 5) (SE.var 7))) SE.int)))))) SB.nil)
    (SB.cons (SS.ifS (ST.eq hu (SE.var 2) SE.int) (SB.cons (SS.set 8 sc__law_worths.nd (by rfl) (Or.inr (by rfl)) (SE.fn T.d__law_any (g__law_any T) mir_len hr (by decide) hgu tkD (by rfl) T.b__law_any (SA.cons (SE.var 0) (SA.cons (SE.len (by rfl) T.n_len (SA.cons (SE.var 1) SA.nil)) SA.nil))))
    (SB.one (SS.ret (SE.lcV (own := [("_law_at", 9)]) (by rfl) sc__law_worths.nd (SI.range1 (by rfl) T.n_range (SA.cons (SE.len (by rfl) T.n_len (SA.cons (SE.var 1) SA.nil)) SA.nil)) (blkOk_by (N := ["_law_deal", "_law_spots", "_law_form", "_law_spot", "_law_right", "_law_up", "_law_x", "_law_y", "_law_point", "_law_at"]) (sc := defScope s__law_worths) (by decide +kernel)) (by decide) (fun _ _ _ _ _ => (SG.name 9 sc__law_worths.nd (by rfl) (Or.inl (by rfl)))) (fun _ _ _ _ _ => STs.nil) (fun _ _ _ _ _ => (SE.ifExp (ST.eq hu (SE.var 9) (SE.var 8)) SE.int SE.int)))))) SB.nil)
    (SB.one (SS.ret (SE.lcV (own := [("_law_spot", 3)]) (by rfl) sc__law_worths.nd (SI.seq (SE.var 1)) (blkOk_by (N := ["_law_deal", "_law_spots", "_law_form", "_law_spot", "_law_right", "_law_up", "_law_x", "_law_y", "_law_point", "_law_at"]) (sc := defScope s__law_worths) (by decide +kernel)) (by decide) (fun _ _ _ _ _ => (SG.name 3 sc__law_worths.nd (by rfl) (Or.inl (by rfl)))) (fun _ _ _ _ _ => STs.nil) (fun _ _ _ _ _ => (SE.sub (SE.fn T.d__law_any (g__law_any T) mir_len hr (by decide) hgu tk0 (by rfl) T.b__law_any (SA.cons (SE.var 0) (SA.cons SE.int SA.nil))) SE.int)))))))))
theorem sc__law_is_fraction : FnScope ["_law_value"] ["_law_value"] (defScope s__law_is_fraction) := ⟨rfl, rfl, rfl, by decide +kernel, rfl, by decide +kernel, by decide +kernel⟩
theorem g__law_is_fraction (T : Txt K mg z) : FnG P w K mg base 2 z.a__law_is_fraction z.fd__law_is_fraction ["_law_value"] M__law_is_fraction := by
  refine fnG_of (N := ["_law_value"]) T.d__law_is_fraction.F sc__law_is_fraction fun cdv A outer s H E hr hgu => ?_
  have hu := hr.units
  exact (SB.cons (SS.ifS (SW.pt (SW.or (ST.not (ST.val (SE.isi (p2 := ⟨0, 0, 0, 0⟩) (T := "tuple") (by rfl) T.n_isinstance (by rfl) T.n_tuple (by decide +kernel) (SE.var 0)))) (SW.or (ST.ne hu (SE.len (by rfl) T.n_len (SA.cons (SE.var 0) SA.nil)) SE.int) (SW.or (ST.not (ST.val (SE.isi (p2 := ⟨0, 0, 0, 0⟩) (T := "int") (by rfl) T.n_isinstance (by rfl) T.n_int (by decide +kernel) (SE.ix (SE.var 0) SE.int)))) (SW.or1 (ST.not (ST.val (SE.isi (p2 := ⟨0, 0, 0, 0⟩) (T := "int") (by rfl) T.n_isinstance (by rfl) T.n_int (by decide +kernel) (SE.ix (SE.var 0) SE.int))))))))) (SB.one (SS.ret SE.bl)) SB.nil)
    (SB.one (SS.ret (SE.and (SE.gt (SE.ix (SE.var 0) SE.int) SE.int) (SE.and (SE.eq hu (SE.fn T.d__law_common (g__law_common T) mir_len hr (by decide) hgu tkD (by rfl) T.b__law_common (SA.cons (SE.ix (SE.var 0) SE.int) (SA.cons (SE.ix (SE.var 0) SE.int) SA.nil))) SE.int) (SE.and (SE.not (SE.isi (p2 := ⟨0, 0, 0, 0⟩) (T := "bool") (by rfl) T.n_isinstance (by rfl) T.n_bool (by decide +kernel) (SE.ix (SE.var 0) SE.int))) (SE.one (SE.not (SE.isi (p2 := ⟨0, 0, 0, 0⟩) (T := "bool") (by rfl) T.n_isinstance (by rfl) T.n_bool (by decide +kernel) (SE.ix (SE.var 0) SE.int))))))))))
theorem sc_wedge : FnScope ["one", "other"] ["one", "other"] (defScope s_wedge) := ⟨rfl, rfl, rfl, by decide +kernel, rfl, by decide +kernel, by decide +kernel⟩
theorem g_wedge (T : Txt K mg z) : FnG P w K mg base 3 z.a_wedge z.fd_wedge ["one", "other"] M_wedge := by
  refine fnG_of (N := ["one", "other"]) T.d_wedge.F sc_wedge fun cdv A outer s H E hr hgu => ?_
  have hu := hr.units
  exact (SB.one (SS.ret (SE.fn T.d_minus (g_minus T) mir_len hr (by decide) hgu tkD (by rfl) T.b_minus (SA.cons (SE.fn T.d_times (g_times T) mir_len hr (by decide) hgu tkD (by rfl) T.b_times (SA.cons (SE.ix (SE.var 0) SE.int) (SA.cons (SE.ix (SE.var 1) SE.int) SA.nil))) (SA.cons (SE.fn T.d_times (g_times T) mir_len hr (by decide) hgu tkD (by rfl) T.b_times (SA.cons (SE.ix (SE.var 0) SE.int) (SA.cons (SE.ix (SE.var 1) SE.int) SA.nil))) SA.nil)))))
theorem sc_linear_field : FnScope ["mesh", "start", "right", "up", "x", "y"] ["mesh", "start", "right", "up"] (defScope s_linear_field) := ⟨rfl, rfl, rfl, by decide +kernel, rfl, by decide +kernel, by decide +kernel⟩
theorem g_linear_field (T : Txt K mg z) : FnG P w K mg base 3 z.a_linear_field z.fd_linear_field ["mesh", "start", "right", "up"] M_linear_field := by
  refine fnG_of (N := ["mesh", "start", "right", "up", "x", "y"]) T.d_linear_field.F sc_linear_field fun cdv A outer s H E hr hgu => ?_
  have hu := hr.units
  exact (SB.one (SS.ret (SE.tup1 (by rfl) T.n_tuple (SA.cons (SE.lcV (own := [("x", 4), ("y", 5)]) (by rfl) sc_linear_field.nd (SI.seq (SE.fld T.o_Mesh (by decide) (SE.var 0))) (blkOk_by (N := ["mesh", "start", "right", "up", "x", "y"]) (sc := defScope s_linear_field) (by decide +kernel)) (by decide) (fun _ _ _ _ _ => (SG.tup (by rfl) (SGs.cons (SG.name 4 sc_linear_field.nd (by rfl) (Or.inl (by rfl))) (SGs.cons (SG.name 5 sc_linear_field.nd (by rfl) (Or.inl (by rfl))) SGs.nil)))) (fun _ _ _ _ _ => STs.nil) (fun _ _ _ _ _ => (SE.fn T.d_total_of (g_total_of T) mir_len hr (by decide) hgu tk0 (by rfl) T.b_total_of (SA.cons (SE.tup (SA.cons (SE.var 1) (SA.cons (SE.fn T.d_times (g_times T) mir_len hr (by decide) hgu tk0 (by rfl) T.b_times (SA.cons (SE.var 2) (SA.cons (SE.var 4) SA.nil))) (SA.cons (SE.fn T.d_times (g_times T) mir_len hr (by decide) hgu tk0 (by rfl) T.b_times (SA.cons (SE.var 3) (SA.cons (SE.var 5) SA.nil))) SA.nil)))) SA.nil)))) SA.nil))))
theorem sc__law_parted : FnScope ["_law_deal", "_law_bottom", "_law_spots", "_law_triples", "_law_step"] ["_law_deal", "_law_bottom"] (defScope s__law_parted) := ⟨rfl, rfl, rfl, by decide +kernel, rfl, by decide +kernel, by decide +kernel⟩
theorem g__law_parted (T : Txt K mg z) : FnG P w K mg base 3 z.a__law_parted z.fd__law_parted ["_law_deal", "_law_bottom"] M__law_parted := by
  refine fnG_of (N := ["_law_deal", "_law_bottom", "_law_spots", "_law_triples", "_law_step"]) T.d__law_parted.F sc__law_parted fun cdv A outer s H E hr hgu => ?_
  have hu := hr.units
  exact (SB.cons (SS.set 2 sc__law_parted.nd (by rfl) (Or.inl (by rfl)) (SE.lst (SA.cons (SE.tup (SA.cons SE.int (SA.cons SE.int SA.nil))) (SA.cons (SE.tup (SA.cons (SE.mul (SE.var 1) (SE.add SE.int (SE.fn T.d__law_any (g__law_any T) mir_len hr (by decide) hgu tkD (by rfl) T.b__law_any (SA.cons (SE.var 0) (SA.cons SE.int SA.nil))))) (SA.cons (SE.mul (SE.var 1) (SE.fn T.d__law_any (g__law_any T) mir_len hr (by decide) hgu tkD (by rfl) T.b__law_any (SA.cons (SE.var 0) (SA.cons SE.int SA.nil)))) SA.nil))) (SA.cons (SE.tup (SA.cons (SE.mul (SE.var 1) (SE.fn T.d__law_any (g__law_any T) mir_len hr (by decide) hgu tkD (by rfl) T.b__law_any (SA.cons (SE.var 0) (SA.cons SE.int SA.nil)))) (SA.cons (SE.mul (SE.var 1) (SE.add SE.int (SE.fn T.d__law_any (g__law_any T) mir_len hr (by decide) hgu tkD (by rfl) T.b__law_any (SA.cons (SE.var 0) (SA.cons SE.int SA.nil))))) SA.nil))) SA.nil)))))
    (SB.cons (SS.set 3 sc__law_parted.nd (by rfl) (Or.inl (by rfl)) (SE.lst (SA.cons (SE.lst (SA.cons SE.int (SA.cons SE.int (SA.cons SE.int SA.nil)))) SA.nil)))
    (SB.cons (SS.forS poD (by rfl) (SI.range1 (by rfl) T.n_range (SA.cons SE.int SA.nil)) (SG.name 4 sc__law_parted.nd (by rfl) (Or.inl (by rfl))) (SB.one (SS.ifS (ST.ge (SE.var 1) (SE.ix (SE.lst (SA.cons SE.int (SA.cons SE.int (SA.cons SE.int SA.nil)))) (SE.var 4))) (SB.one (SS.asg (SE.fn T.d__law_split (g__law_split T) mir_len hr (by decide) hgu tkD (by rfl) T.b__law_split (SA.cons (SE.var 0) (SA.cons (SE.var 2) (SA.cons (SE.var 3) SA.nil)))) (SG.tup (by rfl) (SGs.cons (SG.name 2 sc__law_parted.nd (by rfl) (Or.inl (by rfl))) (SGs.cons (SG.name 3 sc__law_parted.nd (by rfl) (Or.inl (by rfl))) SGs.nil))))) SB.nil)))
    (SB.one (SS.ret (SE.tup (SA.cons (SE.var 2) (SA.cons (SE.var 3) SA.nil))))))))
theorem sc__law_flipped : FnScope ["_law_spots", "_law_triples", "_law_triple", "_law_found"] ["_law_spots", "_law_triples", "_law_triple"] (defScope s__law_flipped) := ⟨rfl, rfl, rfl, by decide +kernel, rfl, by decide +kernel, by decide +kernel⟩
theorem g__law_flipped (T : Txt K mg z) : FnG P w K mg base 3 z.a__law_flipped z.fd__law_flipped ["_law_spots", "_law_triples", "_law_triple"] M__law_flipped := by
  refine fnG_of (N := ["_law_spots", "_law_triples", "_law_triple", "_law_found"]) T.d__law_flipped.F sc__law_flipped fun cdv A outer s H E hr hgu => ?_
  have hu := hr.units
  exact (SB.cons (SS.set 3 sc__law_flipped.nd (by rfl) (Or.inl (by rfl)) (SE.fn T.d__law_other (g__law_other T) mir_len hr (by decide) hgu tkD (by rfl) T.b__law_other (SA.cons (SE.var 0) (SA.cons (SE.var 1) (SA.cons (SE.ix (SE.var 2) SE.int) (SA.cons (SE.ix (SE.var 2) SE.int) SA.nil))))))
    (SB.one (SS.ret (SE.ifExp (ST.isN (SE.var 3) SE.non) (SE.var 1) (SE.var 3)))))
theorem sc__law_made : FnScope ["_law_spots", "_law_triples", "_law_bottom", "_law_found", "_law_triple", "_law_at", "_law_points", "_law_x", "_law_y"] ["_law_spots", "_law_triples", "_law_bottom"] (defScope s__law_made) := ⟨rfl, rfl, rfl, by decide +kernel, rfl, by decide +kernel, by decide +kernel⟩
theorem g__law_made (T : Txt K mg z) : FnG P w K mg base 3 z.a__law_made z.fd__law_made ["_law_spots", "_law_triples", "_law_bottom"] M__law_made := by
  refine fnG_of (N := ["_law_spots", "_law_triples", "_law_bottom", "_law_found", "_law_triple", "_law_at", "_law_points", "_law_x", "_law_y"]) T.d__law_made.F sc__law_made fun cdv A outer s H E hr hgu => ?_
  have hu := hr.units
  exact (SB.cons (SS.set 3 sc__law_made.nd (by rfl) (Or.inl (by rfl)) (SE.loc SA.nil))
    (SB.cons (SS.forS poD (by rfl) (SI.seq (SE.var 1)) (SG.name 4 sc__law_made.nd (by rfl) (Or.inl (by rfl))) (SB.cons (SS.set 5 sc__law_made.nd (by rfl) (Or.inl (by rfl)) (SE.idxD hu (SE.var 4) (SA.cons (SE.minL (by rfl) T.n_min (by rfl) (SA.cons (SE.var 4) SA.nil)) SA.nil)))
    (SB.one (SS.expr (SE.append (SE.var 3) (SA.cons (SE.tup1 (by rfl) T.n_tuple (SA.cons (SE.add (SE.slice (SE.var 4) (SO.some (SE.var 5)) SO.none) (SE.slice (SE.var 4) SO.none (SO.some (SE.var 5)))) SA.nil)) SA.nil))))))
    (SB.cons (SS.setLcV (i := 6) (own := [("_law_x", 7), ("_law_y", 8)]) (by rfl) sc__law_made.nd (SI.seq (SE.var 0)) (blkOk_by (N := ["_law_spots", "_law_triples", "_law_bottom", "_law_found", "_law_triple", "_law_at", "_law_points", "_law_x", "_law_y"]) (sc := defScope s__law_made) (by decide +kernel)) (by decide) (fun _ _ _ _ _ => (SG.tup (by rfl) (SGs.cons (SG.name 7 sc__law_made.nd (by rfl) (Or.inl (by rfl))) (SGs.cons (SG.name 8 sc__law_made.nd (by rfl) (Or.inl (by rfl))) SGs.nil)))) (fun _ _ _ _ _ => STs.nil) (fun _ _ _ _ _ => (SE.tup (SA.cons (SE.fn T.d__law_low (g__law_low T) mir_len hr (by decide) hgu tk0 (by rfl) T.b__law_low (SA.cons (SE.var 7) (SA.cons (SE.var 2) SA.nil))) (SA.cons (SE.fn T.d__law_low (g__law_low T) mir_len hr (by decide) hgu tk0 (by rfl) T.b__law_low (SA.cons (SE.var 8) (SA.cons (SE.var 2) SA.nil))) SA.nil)))) (by rfl) (by rfl) (sw_true (by rfl) (by rfl) (by rfl) (by decide +kernel)))
    (SB.one (SS.ret (SE.tup (SA.cons (SE.tup1 (by rfl) T.n_tuple (SA.cons (SE.var 6) SA.nil)) (SA.cons (SE.tup1 (by rfl) T.n_tuple (SA.cons (SE.sortD (by rfl) T.n_sorted hu (SA.cons (SE.var 3) SA.nil)) SA.nil)) SA.nil))))))))
theorem sc__law_plus : FnScope ["_law_one", "_law_other_here"] ["_law_one", "_law_other_here"] (defScope s__law_plus) := ⟨rfl, rfl, rfl, by decide +kernel, rfl, by decide +kernel, by decide +kernel⟩
theorem g__law_plus (T : Txt K mg z) : FnG P w K mg base 3 z.a__law_plus z.fd__law_plus ["_law_one", "_law_other_here"] M__law_plus := by
  refine fnG_of (N := ["_law_one", "_law_other_here"]) T.d__law_plus.F sc__law_plus fun cdv A outer s H E hr hgu => ?_
  have hu := hr.units
  exact (SB.one (SS.ret (SE.fn T.d__law_low (g__law_low T) mir_len hr (by decide) hgu tkD (by rfl) T.b__law_low (SA.cons (SE.add (SE.mul (SE.ix (SE.var 0) SE.int) (SE.ix (SE.var 1) SE.int)) (SE.mul (SE.ix (SE.var 1) SE.int) (SE.ix (SE.var 0) SE.int))) (SA.cons (SE.mul (SE.ix (SE.var 0) SE.int) (SE.ix (SE.var 1) SE.int)) SA.nil)))))
theorem sc__law_times : FnScope ["_law_one", "_law_other_here"] ["_law_one", "_law_other_here"] (defScope s__law_times) := ⟨rfl, rfl, rfl, by decide +kernel, rfl, by decide +kernel, by decide +kernel⟩
theorem g__law_times (T : Txt K mg z) : FnG P w K mg base 3 z.a__law_times z.fd__law_times ["_law_one", "_law_other_here"] M__law_times := by
  refine fnG_of (N := ["_law_one", "_law_other_here"]) T.d__law_times.F sc__law_times fun cdv A outer s H E hr hgu => ?_
  have hu := hr.units
  exact (SB.one (SS.ret (SE.fn T.d__law_low (g__law_low T) mir_len hr (by decide) hgu tkD (by rfl) T.b__law_low (SA.cons (SE.mul (SE.ix (SE.var 0) SE.int) (SE.ix (SE.var 1) SE.int)) (SA.cons (SE.mul (SE.ix (SE.var 0) SE.int) (SE.ix (SE.var 1) SE.int)) SA.nil)))))
theorem sc_slope : FnScope ["mesh", "number", "field", "a", "b", "c", "worths", "corner", "first", "second", "right", "up", "area"] ["mesh", "number", "field"] (defScope s_slope) := ⟨rfl, rfl, rfl, by decide +kernel, rfl, by decide +kernel, by decide +kernel⟩
theorem g_slope (T : Txt K mg z) : FnG P w K mg base 4 z.a_slope z.fd_slope ["mesh", "number", "field"] M_slope := by
  refine fnG_of (N := ["mesh", "number", "field", "a", "b", "c", "worths", "corner", "first", "second", "right", "up", "area"]) T.d_slope.F sc_slope fun cdv A outer s H E hr hgu => ?_
  have hu := hr.units
  exact (SB.cons (SS.asg (SE.fn T.d__corners (g__corners T) mir_len hr (by decide) hgu tkD (by rfl) T.b__corners (SA.cons (SE.var 0) (SA.cons (SE.var 1) SA.nil))) (SG.tup (by rfl) (SGs.cons (SG.name 3 sc_slope.nd (by rfl) (Or.inl (by rfl))) (SGs.cons (SG.name 4 sc_slope.nd (by rfl) (Or.inl (by rfl))) (SGs.cons (SG.name 5 sc_slope.nd (by rfl) (Or.inl (by rfl))) SGs.nil)))))
    (SB.cons (SS.setLcV (i := 6) (own := [("corner", 7)]) (by rfl) sc_slope.nd (SI.seq (SE.ix (SE.fld T.o_Mesh (by decide) (SE.var 0)) (SE.var 1))) (blkOk_by (N := ["mesh", "number", "field", "a", "b", "c", "worths", "corner", "first", "second", "right", "up", "area"]) (sc := defScope s_slope) (by decide +kernel)) (by decide) (fun _ _ _ _ _ => (SG.name 7 sc_slope.nd (by rfl) (Or.inl (by rfl)))) (fun _ _ _ _ _ => STs.nil) (fun _ _ _ _ _ => (SE.ix (SE.var 2) (SE.var 7))) (by rfl) (by rfl) (sw_true (by rfl) (by rfl) (by rfl) (by decide +kernel)))
    (SB.cons (SS.par 8 9 (by rfl) sc_slope.nd (by rfl) (by rfl) (by decide) (by rfl) (by rfl) (SA.cons (SE.fn T.d_minus (g_minus T) mir_len hr (by decide) hgu tkD (by rfl) T.b_minus (SA.cons (SE.ix (SE.var 6) SE.int) (SA.cons (SE.ix (SE.var 6) SE.int) SA.nil))) (SA.cons (SE.fn T.d_minus (g_minus T) mir_len hr (by decide) hgu tkD (by rfl) T.b_minus (SA.cons (SE.ix (SE.var 6) SE.int) (SA.cons (SE.ix (SE.var 6) SE.int) SA.nil))) SA.nil)) (by rfl))
    (SB.cons (SS.set 10 sc_slope.nd (by rfl) (Or.inl (by rfl)) (SE.fn T.d_wedge (g_wedge T) mir_len hr (by decide) hgu tkD (by rfl) T.b_wedge (SA.cons (SE.tup (SA.cons (SE.var 8) (SA.cons (SE.var 9) SA.nil))) (SA.cons (SE.tup (SA.cons (SE.fn T.d_minus (g_minus T) mir_len hr (by decide) hgu tkD (by rfl) T.b_minus (SA.cons (SE.ix (SE.var 4) SE.int) (SA.cons (SE.ix (SE.var 3) SE.int) SA.nil))) (SA.cons (SE.fn T.d_minus (g_minus T) mir_len hr (by decide) hgu tkD (by rfl) T.b_minus (SA.cons (SE.ix (SE.var 5) SE.int) (SA.cons (SE.ix (SE.var 3) SE.int) SA.nil))) SA.nil))) SA.nil))))
    (SB.cons (SS.set 11 sc_slope.nd (by rfl) (Or.inl (by rfl)) (SE.fn T.d_wedge (g_wedge T) mir_len hr (by decide) hgu tkD (by rfl) T.b_wedge (SA.cons (SE.tup (SA.cons (SE.fn T.d_minus (g_minus T) mir_len hr (by decide) hgu tkD (by rfl) T.b_minus (SA.cons (SE.ix (SE.var 4) SE.int) (SA.cons (SE.ix (SE.var 3) SE.int) SA.nil))) (SA.cons (SE.fn T.d_minus (g_minus T) mir_len hr (by decide) hgu tkD (by rfl) T.b_minus (SA.cons (SE.ix (SE.var 5) SE.int) (SA.cons (SE.ix (SE.var 3) SE.int) SA.nil))) SA.nil))) (SA.cons (SE.tup (SA.cons (SE.var 8) (SA.cons (SE.var 9) SA.nil))) SA.nil))))
    (SB.cons (SS.set 12 sc_slope.nd (by rfl) (Or.inl (by rfl)) (SE.fn T.d_doubled_area (g_doubled_area T) mir_len hr (by decide) hgu tkD (by rfl) T.b_doubled_area (SA.cons (SE.var 3) (SA.cons (SE.var 4) (SA.cons (SE.var 5) SA.nil)))))
    (SB.one (SS.ret (SE.tup (SA.cons (SE.fn T.d_over (g_over T) mir_len hr (by decide) hgu tkD (by rfl) T.b_over (SA.cons (SE.var 10) (SA.cons (SE.var 12) SA.nil))) (SA.cons (SE.fn T.d_over (g_over T) mir_len hr (by decide) hgu tkD (by rfl) T.b_over (SA.cons (SE.var 11) (SA.cons (SE.var 12) SA.nil))) SA.nil)))))))))))
theorem sc__law_mesh : FnScope ["_law_deal", "_law_form", "_law_bottom", "_law_spots", "_law_triples", "_law_x", "_law_y", "_law_wide", "_law_high", "_law_slant", "_law_step", "_law_triple"] ["_law_deal"] (defScope s__law_mesh) := ⟨rfl, rfl, rfl, by decide +kernel, rfl, by decide +kernel, by decide +kernel⟩
theorem g__law_mesh (T : Txt K mg z) : FnG P w K mg base 4 z.a__law_mesh z.fd__law_mesh ["_law_deal"] M__law_mesh := by
  refine fnG_of (N := ["_law_deal", "_law_form", "_law_bottom", "_law_spots", "_law_triples", "_law_x", "_law_y", "_law_wide", "_law_high", "_law_slant", "_law_step", "_law_triple"]) T.d__law_mesh.F sc__law_mesh fun cdv A outer s H E hr hgu => ?_
  have hu := hr.units
  exact (SB.cons (SS.asg (SE.tup (SA.cons (SE.fn T.d__law_any (g__law_any T) mir_len hr (by decide) hgu tkD (by rfl) T.b__law_any (SA.cons (SE.var 0) (SA.cons SE.int SA.nil))) (SA.cons (SE.fn T.d__law_of (g__law_of T) mir_len hr (by decide) hgu tkD (by rfl) T.b__law_of (SA.cons (SE.var 0) (SA.cons (SE.lst (SA.cons SE.int (SA.cons SE.int (SA.cons SE.int (SA.cons SE.int (SA.cons SE.int SA.nil)))))) SA.nil))) SA.nil))) (SG.tup (by rfl) (SGs.cons (SG.name 1 sc__law_mesh.nd (by rfl) (Or.inl (by rfl))) (SGs.cons (SG.name 2 sc__law_mesh.nd (by rfl) (Or.inr (by rfl))) SGs.nil))))
    (SB.cons (SS.ifS (ST.eq hu (SE.var 1) SE.int) (SB.one (SS.asg (SE.fn T.d__law_fan (g__law_fan T) frz_len hr (by decide) hgu tkD (by rfl) T.b__law_fan (SA.cons (SE.var 0) (SA.cons (SE.var 2) SA.nil))) (SG.tup (by rfl) (SGs.cons (SG.name 3 sc__law_mesh.nd (by rfl) (Or.inl (by rfl))) (SGs.cons (SG.name 4 sc__law_mesh.nd (by rfl) (Or.inl (by rfl))) SGs.nil))))) (SB.one (SS.ifS (SW.pt (SW.and (ST.eq hu (SE.var 1) SE.int) (SW.and1 (ST.eq hu (SE.fn T.d__law_any (g__law_any T) mir_len hr (by decide) hgu tkD (by rfl) T.b__law_any (SA.cons (SE.var 0) (SA.cons SE.int SA.nil))) SE.int)))) (SB.cons (SS.asg (SE.fn T.d__law_grid (g__law_grid T) mir_len hr (by decide) hgu tkD (by rfl) T.b__law_grid (SA.cons (SE.var 0) (SA.cons SE.int (SA.cons SE.int (SA.cons SE.int SA.nil))))) (SG.tup (by rfl) (SGs.cons (SG.name 3 sc__law_mesh.nd (by rfl) (Or.inl (by rfl))) (SGs.cons (SG.name 4 sc__law_mesh.nd (by rfl) (Or.inl (by rfl))) SGs.nil))))
    (SB.one (SS.setLcV (i := 3) (own := [("_law_x", 5), ("_law_y", 6)]) (by rfl) sc__law_mesh.nd (SI.seq (SE.var 3)) (blkOk_by (N := ["_law_deal", "_law_form", "_law_bottom", "_law_spots", "_law_triples", "_law_x", "_law_y", "_law_wide", "_law_high", "_law_slant", "_law_step", "_law_triple"]) (sc := defScope s__law_mesh) (by decide +kernel)) (by decide) (fun _ _ _ _ _ => (SG.tup (by rfl) (SGs.cons (SG.name 5 sc__law_mesh.nd (by rfl) (Or.inl (by rfl))) (SGs.cons (SG.name 6 sc__law_mesh.nd (by rfl) (Or.inl (by rfl))) SGs.nil)))) (fun _ _ _ _ _ => STs.nil) (fun _ _ _ _ _ => (SE.tup (SA.cons (SE.mul (SE.var 2) (SE.var 5)) (SA.cons (SE.mul (SE.var 2) (SE.var 6)) SA.nil)))) (by rfl) (by rfl) (sw_true (by rfl) (by rfl) (by rfl) (by decide +kernel))))) (SB.one (SS.ifS (ST.eq hu (SE.var 1) SE.int) (SB.cons (SS.par 7 8 (by rfl) sc__law_mesh.nd (by rfl) (by rfl) (by decide) (by rfl) (by rfl) (SA.cons (SE.add SE.int (SE.fn T.d__law_any (g__law_any T) mir_len hr (by decide) hgu tkD (by rfl) T.b__law_any (SA.cons (SE.var 0) (SA.cons SE.int SA.nil)))) (SA.cons (SE.add SE.int (SE.fn T.d__law_any (g__law_any T) mir_len hr (by decide) hgu tkD (by rfl) T.b__law_any (SA.cons (SE.var 0) (SA.cons SE.int SA.nil)))) SA.nil)) (by rfl))
    (SB.cons (SS.asg (SE.fn T.d__law_grid (g__law_grid T) mir_len hr (by decide) hgu tkD (by rfl) T.b__law_grid (SA.cons (SE.var 0) (SA.cons (SE.var 7) (SA.cons (SE.var 8) (SA.cons (SE.neg SE.int) SA.nil))))) (SG.tup (by rfl) (SGs.cons (SG.name 3 sc__law_mesh.nd (by rfl) (Or.inl (by rfl))) (SGs.cons (SG.name 4 sc__law_mesh.nd (by rfl) (Or.inl (by rfl))) SGs.nil))))
    (SB.one (SS.set 3 sc__law_mesh.nd (by rfl) (Or.inl (by rfl)) (SE.fn T.d__law_moved (g__law_moved T) frz_len hr (by decide) hgu tkD (by rfl) T.b__law_moved (SA.cons (SE.var 0) (SA.cons (SE.var 2) (SA.cons (SE.lcV (own := [("_law_x", 5), ("_law_y", 6)]) (by rfl) sc__law_mesh.nd (SI.seq (SE.var 3)) (blkOk_by (N := ["_law_deal", "_law_form", "_law_bottom", "_law_spots", "_law_triples", "_law_x", "_law_y", "_law_wide", "_law_high", "_law_slant", "_law_step", "_law_triple"]) (sc := defScope s__law_mesh) (by decide +kernel)) (by decide) (fun _ _ _ _ _ => (SG.tup (by rfl) (SGs.cons (SG.name 5 sc__law_mesh.nd (by rfl) (Or.inl (by rfl))) (SGs.cons (SG.name 6 sc__law_mesh.nd (by rfl) (Or.inl (by rfl))) SGs.nil)))) (fun _ _ _ _ _ => STs.nil) (fun _ _ _ _ _ => (SE.tup (SA.cons (SE.mul (SE.var 2) (SE.var 5)) (SA.cons (SE.mul (SE.var 2) (SE.var 6)) SA.nil))))) (SA.cons (SE.var 7) (SA.cons (SE.var 8) SA.nil)))))))))) (SB.cons (SS.set 2 sc__law_mesh.nd (by rfl) (Or.inr (by rfl)) (SE.fn T.d__law_of (g__law_of T) mir_len hr (by decide) hgu tkD (by rfl) T.b__law_of (SA.cons (SE.var 0) (SA.cons (SE.lst (SA.cons SE.int (SA.cons SE.int (SA.cons SE.int (SA.cons SE.int SA.nil))))) SA.nil))))
    (SB.one (SS.asg (SE.fn T.d__law_parted (g__law_parted T) mir_len hr (by decide) hgu tkD (by rfl) T.b__law_parted (SA.cons (SE.var 0) (SA.cons (SE.var 2) SA.nil))) (SG.tup (by rfl) (SGs.cons (SG.name 3 sc__law_mesh.nd (by rfl) (Or.inl (by rfl))) (SGs.cons (SG.name 4 sc__law_mesh.nd (by rfl) (Or.inl (by rfl))) SGs.nil)))))))))))
    (SB.cons (SS.set 9 sc__law_mesh.nd (by rfl) (Or.inr (by rfl)) (SE.sub (SE.fn T.d__law_any (g__law_any T) mir_len hr (by decide) hgu tkD (by rfl) T.b__law_any (SA.cons (SE.var 0) (SA.cons SE.int SA.nil))) SE.int))
    (SB.cons (SS.setLcV (i := 3) (own := [("_law_x", 5), ("_law_y", 6)]) (by rfl) sc__law_mesh.nd (SI.seq (SE.var 3)) (blkOk_by (N := ["_law_deal", "_law_form", "_law_bottom", "_law_spots", "_law_triples", "_law_x", "_law_y", "_law_wide", "_law_high", "_law_slant", "_law_step", "_law_triple"]) (sc := defScope s__law_mesh) (by decide +kernel)) (by decide) (fun _ _ _ _ _ => (SG.tup (by rfl) (SGs.cons (SG.name 5 sc__law_mesh.nd (by rfl) (Or.inl (by rfl))) (SGs.cons (SG.name 6 sc__law_mesh.nd (by rfl) (Or.inl (by rfl))) SGs.nil)))) (fun _ _ _ _ _ => STs.nil) (fun _ _ _ _ _ => (SE.tup (SA.cons (SE.add (SE.var 5) (SE.mul (SE.var 9) (SE.var 6))) (SA.cons (SE.var 6) SA.nil)))) (by rfl) (by rfl) (sw_true (by rfl) (by rfl) (by rfl) (by decide +kernel)))
    (SB.cons (SS.forS poD (by rfl) (SI.range1 (by rfl) T.n_range (SA.cons (SE.fn T.d__law_any (g__law_any T) mir_len hr (by decide) hgu tkD (by rfl) T.b__law_any (SA.cons (SE.var 0) (SA.cons SE.int SA.nil))) SA.nil)) (SG.name 10 sc__law_mesh.nd (by rfl) (Or.inl (by rfl))) (SB.cons (SS.set 11 sc__law_mesh.nd (by rfl) (Or.inl (by rfl)) (SE.fn T.d__law_of (g__law_of T) mir_len hr (by decide) hgu tkD (by rfl) T.b__law_of (SA.cons (SE.var 0) (SA.cons (SE.var 4) SA.nil))))
    (SB.one (SS.set 4 sc__law_mesh.nd (by rfl) (Or.inl (by rfl)) (SE.fn T.d__law_flipped (g__law_flipped T) mir_len hr (by decide) hgu tkD (by rfl) T.b__law_flipped (SA.cons (SE.var 3) (SA.cons (SE.var 4) (SA.cons (SE.var 11) SA.nil))))))))
    (SB.one (SS.ret (SE.tup (SA.cons (SE.var 2) (SA.cons (SE.var 3) (SA.cons (SE.var 4) SA.nil)))))))))))
theorem sc__law_energy : FnScope ["_law_spots", "_law_triples", "_law_worths_here", "_law_others", "_law_found", "_law_a", "_law_b", "_law_c", "_law_p", "_law_q", "_law_r", "_law_ways", "_law_some", "_law_one", "_law_two", "_law_product"] ["_law_spots", "_law_triples", "_law_worths_here", "_law_others"] (defScope s__law_energy) := ⟨rfl, rfl, rfl, by decide +kernel, rfl, by decide +kernel, by decide +kernel⟩
theorem g__law_energy (T : Txt K mg z) : FnG P w K mg base 4 z.a__law_energy z.fd__law_energy ["_law_spots", "_law_triples", "_law_worths_here", "_law_others"] M__law_energy := by
  refine fnG_of (N := ["_law_spots", "_law_triples", "_law_worths_here", "_law_others", "_law_found", "_law_a", "_law_b", "_law_c", "_law_p", "_law_q", "_law_r", "_law_ways", "_law_some", "_law_one", "_law_two", "_law_product"]) T.d__law_energy.F sc__law_energy fun cdv A outer s H E hr hgu => ?_
  have hu := hr.units
  exact (SB.cons (SS.set 4 sc__law_energy.nd (by rfl) (Or.inl (by rfl)) (SE.tup (SA.cons SE.int (SA.cons SE.int SA.nil))))
    (SB.cons (SS.forS poD (by rfl) (SI.seq (SE.var 1)) (SG.tup (by rfl) (SGs.cons (SG.name 5 sc__law_energy.nd (by rfl) (Or.inl (by rfl))) (SGs.cons (SG.name 6 sc__law_energy.nd (by rfl) (Or.inl (by rfl))) (SGs.cons (SG.name 7 sc__law_energy.nd (by rfl) (Or.inl (by rfl))) SGs.nil)))) (SB.cons (SS.par3 8 9 10 (by rfl) sc__law_energy.nd (by rfl) (by rfl) (by rfl) (by decide) (by decide) (by decide) (by rfl) (by rfl) (by rfl) (SA.cons (SE.ix (SE.var 0) (SE.var 5)) (SA.cons (SE.ix (SE.var 0) (SE.var 6)) (SA.cons (SE.ix (SE.var 0) (SE.var 7)) SA.nil))) (by rfl))
    (SB.cons (SS.set 11 sc__law_energy.nd (by rfl) (Or.inl (by rfl)) (SE.loc SA.nil))
    (SB.cons (SS.forS poD (by rfl) (SI.seq (SE.tup (SA.cons (SE.var 2) (SA.cons (SE.var 3) SA.nil)))) (SG.name 12 sc__law_energy.nd (by rfl) (Or.inl (by rfl))) (SB.cons (SS.par 13 14 (by rfl) sc__law_energy.nd (by rfl) (by rfl) (by decide) (by rfl) (by rfl) (SA.cons (SE.sub (SE.ix (SE.var 12) (SE.var 6)) (SE.ix (SE.var 12) (SE.var 5))) (SA.cons (SE.sub (SE.ix (SE.var 12) (SE.var 7)) (SE.ix (SE.var 12) (SE.var 5))) SA.nil)) (by rfl))
    (SB.one (SS.expr (SE.append (SE.var 11) (SA.cons (SE.tup (SA.cons (SE.sub (SE.mul (SE.var 13) (SE.sub (SE.ix (SE.var 10) SE.int) (SE.ix (SE.var 8) SE.int))) (SE.mul (SE.var 14) (SE.sub (SE.ix (SE.var 9) SE.int) (SE.ix (SE.var 8) SE.int)))) (SA.cons (SE.sub (SE.mul (SE.var 14) (SE.sub (SE.ix (SE.var 9) SE.int) (SE.ix (SE.var 8) SE.int))) (SE.mul (SE.var 13) (SE.sub (SE.ix (SE.var 10) SE.int) (SE.ix (SE.var 8) SE.int)))) SA.nil))) SA.nil))))))
    (SB.cons (SS.set 15 sc__law_energy.nd (by rfl) (Or.inl (by rfl)) (SE.add (SE.mul (SE.ix (SE.ix (SE.var 11) SE.int) SE.int) (SE.ix (SE.ix (SE.var 11) SE.int) SE.int)) (SE.mul (SE.ix (SE.ix (SE.var 11) SE.int) SE.int) (SE.ix (SE.ix (SE.var 11) SE.int) SE.int))))
    (SB.one (SS.set 4 sc__law_energy.nd (by rfl) (Or.inl (by rfl)) (SE.fn T.d__law_plus (g__law_plus T) mir_len hr (by decide) hgu tkD (by rfl) T.b__law_plus (SA.cons (SE.var 4) (SA.cons (SE.fn T.d__law_low (g__law_low T) mir_len hr (by decide) hgu tkD (by rfl) T.b__law_low (SA.cons (SE.var 15) (SA.cons (SE.mul SE.int (SE.fn T.d__law_cross (g__law_cross T) mir_len hr (by decide) hgu tkD (by rfl) T.b__law_cross (SA.cons (SE.var 8) (SA.cons (SE.var 9) (SA.cons (SE.var 10) SA.nil))))) SA.nil))) SA.nil))))))))))
    (SB.one (SS.ret (SE.var 4)))))
theorem sc__law_less : FnScope ["_law_one", "_law_other_here"] ["_law_one", "_law_other_here"] (defScope s__law_less) := ⟨rfl, rfl, rfl, by decide +kernel, rfl, by decide +kernel, by decide +kernel⟩
theorem g__law_less (T : Txt K mg z) : FnG P w K mg base 4 z.a__law_less z.fd__law_less ["_law_one", "_law_other_here"] M__law_less := by
  refine fnG_of (N := ["_law_one", "_law_other_here"]) T.d__law_less.F sc__law_less fun cdv A outer s H E hr hgu => ?_
  have hu := hr.units
  exact (SB.one (SS.ret (SE.fn T.d__law_plus (g__law_plus T) mir_len hr (by decide) hgu tkD (by rfl) T.b__law_plus (SA.cons (SE.var 0) (SA.cons (SE.tup (SA.cons (SE.sub SE.int (SE.ix (SE.var 1) SE.int)) (SA.cons (SE.ix (SE.var 1) SE.int) SA.nil))) SA.nil)))))
theorem sc_triangle_energy : FnScope ["mesh", "number", "field", "right", "up", "a", "b", "c"] ["mesh", "number", "field"] (defScope s_triangle_energy) := ⟨rfl, rfl, rfl, by decide +kernel, rfl, by decide +kernel, by decide +kernel⟩
theorem g_triangle_energy (T : Txt K mg z) : FnG P w K mg base 5 z.a_triangle_energy z.fd_triangle_energy ["mesh", "number", "field"] M_triangle_energy := by
  refine fnG_of (N := ["mesh", "number", "field", "right", "up", "a", "b", "c"]) T.d_triangle_energy.F sc_triangle_energy fun cdv A outer s H E hr hgu => ?_
  have hu := hr.units
  exact (SB.cons (SS.asg (SE.fn T.d_slope (g_slope T) mir_len hr (by decide) hgu tkD (by rfl) T.b_slope (SA.cons (SE.var 0) (SA.cons (SE.var 1) (SA.cons (SE.var 2) SA.nil)))) (SG.tup (by rfl) (SGs.cons (SG.name 3 sc_triangle_energy.nd (by rfl) (Or.inl (by rfl))) (SGs.cons (SG.name 4 sc_triangle_energy.nd (by rfl) (Or.inl (by rfl))) SGs.nil))))
    (SB.cons (SS.asg (SE.fn T.d__corners (g__corners T) mir_len hr (by decide) hgu tkD (by rfl) T.b__corners (SA.cons (SE.var 0) (SA.cons (SE.var 1) SA.nil))) (SG.tup (by rfl) (SGs.cons (SG.name 5 sc_triangle_energy.nd (by rfl) (Or.inl (by rfl))) (SGs.cons (SG.name 6 sc_triangle_energy.nd (by rfl) (Or.inl (by rfl))) (SGs.cons (SG.name 7 sc_triangle_energy.nd (by rfl) (Or.inl (by rfl))) SGs.nil)))))
    (SB.one (SS.ret (SE.fn T.d_times (g_times T) mir_len hr (by decide) hgu tkD (by rfl) T.b_times (SA.cons (SE.fn T.d_fraction (g_fraction T) mir_len hr (by decide) hgu tkD (by rfl) T.b_fraction (SA.cons SE.int (SA.cons SE.int SA.nil))) (SA.cons (SE.fn T.d_times (g_times T) mir_len hr (by decide) hgu tkD (by rfl) T.b_times (SA.cons (SE.fn T.d_plus (g_plus T) mir_len hr (by decide) hgu tkD (by rfl) T.b_plus (SA.cons (SE.fn T.d_times (g_times T) mir_len hr (by decide) hgu tkD (by rfl) T.b_times (SA.cons (SE.var 3) (SA.cons (SE.var 3) SA.nil))) (SA.cons (SE.fn T.d_times (g_times T) mir_len hr (by decide) hgu tkD (by rfl) T.b_times (SA.cons (SE.var 4) (SA.cons (SE.var 4) SA.nil))) SA.nil))) (SA.cons (SE.fn T.d_doubled_area (g_doubled_area T) mir_len hr (by decide) hgu tkD (by rfl) T.b_doubled_area (SA.cons (SE.var 5) (SA.cons (SE.var 6) (SA.cons (SE.var 7) SA.nil)))) SA.nil))) SA.nil)))))))
theorem sc__law_slope_right : FnScope ["_law_points", "_law_triangle", "_law_field", "_law_told", "_law_at", "_law_one", "_law_other_here", "_law_right", "_law_up", "_law_rise"] ["_law_points", "_law_triangle", "_law_field", "_law_told"] (defScope s__law_slope_right) := ⟨rfl, rfl, rfl, by decide +kernel, rfl, by decide +kernel, by decide +kernel⟩
theorem g__law_slope_right (T : Txt K mg z) : FnG P w K mg base 5 z.a__law_slope_right z.fd__law_slope_right ["_law_points", "_law_triangle", "_law_field", "_law_told"] M__law_slope_right := by
  refine fnG_of (N := ["_law_points", "_law_triangle", "_law_field", "_law_told", "_law_at", "_law_one", "_law_other_here", "_law_right", "_law_up", "_law_rise"]) T.d__law_slope_right.F sc__law_slope_right fun cdv A outer s H E hr hgu => ?_
  have hu := hr.units
  exact (SB.cons (SS.ifS (SW.pt (SW.or (ST.not (ST.val (SE.isi (p2 := ⟨0, 0, 0, 0⟩) (T := "tuple") (by rfl) T.n_isinstance (by rfl) T.n_tuple (by decide +kernel) (SE.var 3)))) (SW.or (ST.ne hu (SE.len (by rfl) T.n_len (SA.cons (SE.var 3) SA.nil)) SE.int) (SW.or (ST.not (ST.val (SE.fn T.d__law_is_fraction (g__law_is_fraction T) mir_len hr (by decide) hgu tkD (by rfl) T.b__law_is_fraction (SA.cons (SE.ix (SE.var 3) SE.int) SA.nil)))) (SW.or1 (ST.not (ST.val (SE.fn T.d__law_is_fraction (g__law_is_fraction T) mir_len hr (by decide) hgu tkD (by rfl) T.b__law_is_fraction (SA.cons (SE.ix (SE.var 3) SE.int) SA.nil))))))))) (SB.one (SS.ret SE.bl)) SB.nil)
    (SB.cons (SS.forS poD (by rfl) (SI.range1 (by rfl) T.n_range (SA.cons SE.int SA.nil)) (SG.name 4 sc__law_slope_right.nd (by rfl) (Or.inl (by rfl))) (SB.cons (SS.par 5 6 (by rfl) sc__law_slope_right.nd (by rfl) (by rfl) (by decide) (by rfl) (by rfl) (SA.cons (SE.ix (SE.var 1) (SE.sub (SE.var 4) SE.int)) (SA.cons (SE.ix (SE.var 1) (SE.var 4)) SA.nil)) (by rfl))
    (SB.cons (SS.par 7 8 (by rfl) sc__law_slope_right.nd (by rfl) (by rfl) (by decide) (by rfl) (by rfl) (SA.cons (SE.fn T.d__law_less (g__law_less T) mir_len hr (by decide) hgu tkD (by rfl) T.b__law_less (SA.cons (SE.ix (SE.ix (SE.var 0) (SE.var 6)) SE.int) (SA.cons (SE.ix (SE.ix (SE.var 0) (SE.var 5)) SE.int) SA.nil))) (SA.cons (SE.fn T.d__law_less (g__law_less T) mir_len hr (by decide) hgu tkD (by rfl) T.b__law_less (SA.cons (SE.ix (SE.ix (SE.var 0) (SE.var 6)) SE.int) (SA.cons (SE.ix (SE.ix (SE.var 0) (SE.var 5)) SE.int) SA.nil))) SA.nil)) (by rfl))
    (SB.cons (SS.set 9 sc__law_slope_right.nd (by rfl) (Or.inl (by rfl)) (SE.fn T.d__law_plus (g__law_plus T) mir_len hr (by decide) hgu tkD (by rfl) T.b__law_plus (SA.cons (SE.fn T.d__law_times (g__law_times T) mir_len hr (by decide) hgu tkD (by rfl) T.b__law_times (SA.cons (SE.ix (SE.var 3) SE.int) (SA.cons (SE.var 7) SA.nil))) (SA.cons (SE.fn T.d__law_times (g__law_times T) mir_len hr (by decide) hgu tkD (by rfl) T.b__law_times (SA.cons (SE.ix (SE.var 3) SE.int) (SA.cons (SE.var 8) SA.nil))) SA.nil))))
    (SB.one (SS.ifS (ST.ne hu (SE.var 9) (SE.fn T.d__law_less (g__law_less T) mir_len hr (by decide) hgu tkD (by rfl) T.b__law_less (SA.cons (SE.ix (SE.var 2) (SE.var 6)) (SA.cons (SE.ix (SE.var 2) (SE.var 5)) SA.nil)))) (SB.one (SS.ret SE.bl)) SB.nil))))))
    (SB.one (SS.ret SE.bl))))
theorem sc_law : FnScope ["_law_script", "_law_deal", "_law_bottom", "_law_spots", "_law_triples", "_law_points", "_law_triangles", "_law_mesh_here", "_law_low_here", "_law_worths_here", "_law_field", "_law_one", "_law_shown", "_law_number", "_law_told", "_law_twice", "_law_due", "_law_start", "_law_right", "_law_up", "_law_part", "_law_x", "_law_y"] ["_law_script"] (defScope s_law) := ⟨rfl, rfl, rfl, by decide +kernel, rfl, by decide +kernel, by decide +kernel⟩
theorem g_law (T : Txt K mg z) : FnG P w K mg base 6 z.a_law z.fd_law ["_law_script"] M_law := by
  refine fnG_of (N := ["_law_script", "_law_deal", "_law_bottom", "_law_spots", "_law_triples", "_law_points", "_law_triangles", "_law_mesh_here", "_law_low_here", "_law_worths_here", "_law_field", "_law_one", "_law_shown", "_law_number", "_law_told", "_law_twice", "_law_due", "_law_start", "_law_right", "_law_up", "_law_part", "_law_x", "_law_y"]) T.d_law.F sc_law fun cdv A outer s H E hr hgu => ?_
  have hu := hr.units
  exact (SB.cons (SS.set 1 sc_law.nd (by rfl) (Or.inr (by rfl)) (SE.fn T.d__law_source (g__law_source T) mir_len hr (by decide) hgu tkD (by rfl) T.b__law_source (SA.cons (SE.var 0) SA.nil)))
    (SB.cons (SS.asg (SE.fn T.d__law_mesh (g__law_mesh T) mir_len hr (by decide) hgu tkD (by rfl) T.b__law_mesh (SA.cons (SE.var 1) SA.nil)) (SG.tup (by rfl) (SGs.cons (SG.name 2 sc_law.nd (by rfl) (Or.inl (by rfl))) (SGs.cons (SG.name 3 sc_law.nd (by rfl) (Or.inl (by rfl))) (SGs.cons (SG.name 4 sc_law.nd (by rfl) (Or.inl (by rfl))) SGs.nil)))))
    (SB.cons (SS.asg (SE.fn T.d__law_made (g__law_made T) mir_len hr (by decide) hgu tkD (by rfl) T.b__law_made (SA.cons (SE.var 3) (SA.cons (SE.var 4) (SA.cons (SE.var 2) SA.nil)))) (SG.tup (by rfl) (SGs.cons (SG.name 5 sc_law.nd (by rfl) (Or.inl (by rfl))) (SGs.cons (SG.name 6 sc_law.nd (by rfl) (Or.inl (by rfl))) SGs.nil))))
    (SB.cons (SS.asgT (n := 2) (by rfl) (SA.cons (SE.make2 T.o_Mesh T.mk_Mesh (oi_Mesh T) (by decide) (hr.mono (by decide)) (by rfl) T.g_Mesh T.bi_Mesh (SA.cons (SE.var 5) (SA.cons (SE.var 6) SA.nil))) (SA.cons (SE.fn T.d__law_of (g__law_of T) mir_len hr (by decide) hgu tkD (by rfl) T.b__law_of (SA.cons (SE.var 1) (SA.cons (SE.lst (SA.cons SE.int (SA.cons SE.int (SA.cons (SE.add SE.int (SE.fn T.d__law_any (g__law_any T) mir_len hr (by decide) hgu tkD (by rfl) T.b__law_any (SA.cons (SE.var 1) (SA.cons SE.int SA.nil)))) SA.nil)))) SA.nil))) SA.nil)) (SGs.cons (SG.name 7 sc_law.nd (by rfl) (Or.inl (by rfl))) (SGs.cons (SG.name 8 sc_law.nd (by rfl) (Or.inr (by rfl))) SGs.nil)))
    (SB.cons (SS.set 9 sc_law.nd (by rfl) (Or.inl (by rfl)) (SE.fn T.d__law_worths (g__law_worths T) mir_len hr (by decide) hgu tkD (by rfl) T.b__law_worths (SA.cons (SE.var 1) (SA.cons (SE.var 3) SA.nil))))
    (SB.cons (SS.set 10 sc_law.nd (by rfl) (Or.inl (by rfl)) (SE.tup1 (by rfl) T.n_tuple (SA.cons (SE.lcV (own := [("_law_one", 11)]) (by rfl) sc_law.nd (SI.seq (SE.var 9)) (blkOk_by (N := ["_law_script", "_law_deal", "_law_bottom", "_law_spots", "_law_triples", "_law_points", "_law_triangles", "_law_mesh_here", "_law_low_here", "_law_worths_here", "_law_field", "_law_one", "_law_shown", "_law_number", "_law_told", "_law_twice", "_law_due", "_law_start", "_law_right", "_law_up", "_law_part", "_law_x", "_law_y"]) (sc := defScope s_law) (by decide +kernel)) (by decide) (fun _ _ _ _ _ => (SG.name 11 sc_law.nd (by rfl) (Or.inl (by rfl)))) (fun _ _ _ _ _ => STs.nil) (fun _ _ _ _ _ => (SE.fn T.d__law_low (g__law_low T) mir_len hr (by decide) hgu tk0 (by rfl) T.b__law_low (SA.cons (SE.var 11) (SA.cons (SE.var 8) SA.nil))))) SA.nil)))
    (SB.cons (SS.set 12 sc_law.nd (by rfl) (Or.inl (by rfl)) (SE.repr hgu hu (by rfl) T.n_repr (SA.cons (SE.var 10) SA.nil)))
    (SB.cons (SS.forS poD (by rfl) (SI.range1 (by rfl) T.n_range (SA.cons (SE.len (by rfl) T.n_len (SA.cons (SE.var 6) SA.nil)) SA.nil)) (SG.name 13 sc_law.nd (by rfl) (Or.inl (by rfl))) (SB.cons (SS.set 14 sc_law.nd (by rfl) (Or.inl (by rfl)) (SE.fn T.d_slope (g_slope T) mir_len hr (by decide) hgu tkD (by rfl) T.b_slope (SA.cons (SE.var 7) (SA.cons (SE.var 13) (SA.cons (SE.var 10) SA.nil)))))
    (SB.cons (SS.ifS (SW.pt (SW.or (ST.not (ST.val (SE.fn T.d__law_slope_right (g__law_slope_right T) mir_len hr (by decide) hgu tkD (by rfl) T.b__law_slope_right (SA.cons (SE.var 5) (SA.cons (SE.ix (SE.var 6) (SE.var 13)) (SA.cons (SE.var 10) (SA.cons (SE.var 14) SA.nil))))))) (SW.or1 (ST.ne hu (SE.fnK T.d_slope (g_slope T) mir_len hr (by decide) hgu tkD (by rfl) T.k_slope_field_number_mesh (SKw.cons (SE.var 10) (SKw.cons (SE.var 13) (SKw.cons (SE.var 7) SKw.nil)))) (SE.var 14))))) (SB.one (SS.ret SE.bl)) SB.nil)
    (SB.cons (SS.set 15 sc_law.nd (by rfl) (Or.inl (by rfl)) (SE.fn T.d__law_energy (g__law_energy T) mir_len hr (by decide) hgu tkD (by rfl) T.b__law_energy (SA.cons (SE.var 3) (SA.cons (SE.lst (SA.cons (SE.ix (SE.var 6) (SE.var 13)) SA.nil)) (SA.cons (SE.var 9) (SA.cons (SE.var 9) SA.nil))))))
    (SB.cons (SS.set 16 sc_law.nd (by rfl) (Or.inl (by rfl)) (SE.fn T.d__law_low (g__law_low T) mir_len hr (by decide) hgu tkD (by rfl) T.b__law_low (SA.cons (SE.ix (SE.var 15) SE.int) (SA.cons (SE.mul (SE.mul (SE.mul SE.int (SE.ix (SE.var 15) SE.int)) (SE.var 8)) (SE.var 8)) SA.nil))))
    (SB.cons (SS.ifS (ST.not (ST.val (SE.fn T.d__law_same (g__law_same T) mir_len hr (by decide) hgu tkD (by rfl) T.b__law_same (SA.cons (SE.fn T.d_triangle_energy (g_triangle_energy T) mir_len hr (by decide) hgu tkD (by rfl) T.b_triangle_energy (SA.cons (SE.var 7) (SA.cons (SE.var 13) (SA.cons (SE.var 10) SA.nil)))) (SA.cons (SE.var 16) SA.nil))))) (SB.one (SS.ret SE.bl)) SB.nil)
    (SB.one (SS.ifS (SW.pt (SW.or (ST.ne hu (SE.fnK T.d_triangle_energy (g_triangle_energy T) mir_len hr (by decide) hgu tkD (by rfl) T.k_triangle_energy_field_number_mesh (SKw.cons (SE.var 10) (SKw.cons (SE.var 13) (SKw.cons (SE.var 7) SKw.nil)))) (SE.var 16)) (SW.or1 (ST.ne hu (SE.repr hgu hu (by rfl) T.n_repr (SA.cons (SE.var 10) SA.nil)) (SE.var 12))))) (SB.one (SS.ret SE.bl)) SB.nil))))))))
    (SB.cons (SS.asg (SE.lcV (own := [("_law_part", 20)]) (by rfl) sc_law.nd (SI.range1 (by rfl) T.n_range (SA.cons SE.int SA.nil)) (blkOk_by (N := ["_law_script", "_law_deal", "_law_bottom", "_law_spots", "_law_triples", "_law_points", "_law_triangles", "_law_mesh_here", "_law_low_here", "_law_worths_here", "_law_field", "_law_one", "_law_shown", "_law_number", "_law_told", "_law_twice", "_law_due", "_law_start", "_law_right", "_law_up", "_law_part", "_law_x", "_law_y"]) (sc := defScope s_law) (by decide +kernel)) (by decide) (fun _ _ _ _ _ => (SG.name 20 sc_law.nd (by rfl) (Or.inl (by rfl)))) (fun _ _ _ _ _ => STs.nil) (fun _ _ _ _ _ => (SE.fn T.d__law_low (g__law_low T) mir_len hr (by decide) hgu tk0 (by rfl) T.b__law_low (SA.cons (SE.sub (SE.fn T.d__law_any (g__law_any T) mir_len hr (by decide) hgu tk0 (by rfl) T.b__law_any (SA.cons (SE.var 1) (SA.cons SE.int SA.nil))) SE.int) (SA.cons (SE.add SE.int (SE.fn T.d__law_any (g__law_any T) mir_len hr (by decide) hgu tk0 (by rfl) T.b__law_any (SA.cons (SE.var 1) (SA.cons SE.int SA.nil)))) SA.nil))))) (SG.tup (by rfl) (SGs.cons (SG.name 17 sc_law.nd (by rfl) (Or.inr (by rfl))) (SGs.cons (SG.name 18 sc_law.nd (by rfl) (Or.inr (by rfl))) (SGs.cons (SG.name 19 sc_law.nd (by rfl) (Or.inr (by rfl))) SGs.nil)))))
    (SB.cons (SS.set 16 sc_law.nd (by rfl) (Or.inl (by rfl)) (SE.tup1 (by rfl) T.n_tuple (SA.cons (SE.lcV (own := [("_law_x", 21), ("_law_y", 22)]) (by rfl) sc_law.nd (SI.seq (SE.var 5)) (blkOk_by (N := ["_law_script", "_law_deal", "_law_bottom", "_law_spots", "_law_triples", "_law_points", "_law_triangles", "_law_mesh_here", "_law_low_here", "_law_worths_here", "_law_field", "_law_one", "_law_shown", "_law_number", "_law_told", "_law_twice", "_law_due", "_law_start", "_law_right", "_law_up", "_law_part", "_law_x", "_law_y"]) (sc := defScope s_law) (by decide +kernel)) (by decide) (fun _ _ _ _ _ => (SG.tup (by rfl) (SGs.cons (SG.name 21 sc_law.nd (by rfl) (Or.inl (by rfl))) (SGs.cons (SG.name 22 sc_law.nd (by rfl) (Or.inl (by rfl))) SGs.nil)))) (fun _ _ _ _ _ => STs.nil) (fun _ _ _ _ _ => (SE.fn T.d__law_plus (g__law_plus T) mir_len hr (by decide) hgu tk0 (by rfl) T.b__law_plus (SA.cons (SE.var 17) (SA.cons (SE.fn T.d__law_plus (g__law_plus T) mir_len hr (by decide) hgu tk0 (by rfl) T.b__law_plus (SA.cons (SE.fn T.d__law_times (g__law_times T) mir_len hr (by decide) hgu tk0 (by rfl) T.b__law_times (SA.cons (SE.var 18) (SA.cons (SE.var 21) SA.nil))) (SA.cons (SE.fn T.d__law_times (g__law_times T) mir_len hr (by decide) hgu tk0 (by rfl) T.b__law_times (SA.cons (SE.var 19) (SA.cons (SE.var 22) SA.nil))) SA.nil))) SA.nil))))) SA.nil)))
    (SB.cons (SS.set 14 sc_law.nd (by rfl) (Or.inl (by rfl)) (SE.fn T.d_linear_field (g_linear_field T) mir_len hr (by decide) hgu tkD (by rfl) T.b_linear_field (SA.cons (SE.var 7) (SA.cons (SE.var 17) (SA.cons (SE.var 18) (SA.cons (SE.var 19) SA.nil))))))
    (SB.cons (SS.ifS (SW.pt (SW.or (ST.not (ST.val (SE.fn T.d__law_same (g__law_same T) mir_len hr (by decide) hgu tkD (by rfl) T.b__law_same (SA.cons (SE.var 14) (SA.cons (SE.var 16) SA.nil))))) (SW.or1 (ST.ne hu (SE.fnK T.d_linear_field (g_linear_field T) mir_len hr (by decide) hgu tkD (by rfl) T.k_linear_field_up_right_start_mesh (SKw.cons (SE.var 19) (SKw.cons (SE.var 18) (SKw.cons (SE.var 17) (SKw.cons (SE.var 7) SKw.nil))))) (SE.var 16))))) (SB.one (SS.ret SE.bl)) SB.nil)
    (SB.cons (SS.set 13 sc_law.nd (by rfl) (Or.inl (by rfl)) (SE.fn T.d__law_any (g__law_any T) mir_len hr (by decide) hgu tkD (by rfl) T.b__law_any (SA.cons (SE.var 1) (SA.cons (SE.len (by rfl) T.n_len (SA.cons (SE.var 6) SA.nil)) SA.nil))))
    (SB.one (SS.ret (SE.and (SE.fn T.d__law_same (g__law_same T) mir_len hr (by decide) hgu tkD (by rfl) T.b__law_same (SA.cons (SE.fn T.d_slope (g_slope T) mir_len hr (by decide) hgu tkD (by rfl) T.b_slope (SA.cons (SE.var 7) (SA.cons (SE.var 13) (SA.cons (SE.var 16) SA.nil)))) (SA.cons (SE.tup (SA.cons (SE.var 18) (SA.cons (SE.var 19) SA.nil))) SA.nil))) (SE.one (SE.eqO T.o_Mesh T.ec_Mesh (ge_Mesh T) (by rfl) hr (by decide) hgu tkD T.be_Mesh (SE.var 7) (SE.make2 T.o_Mesh T.mk_Mesh (oi_Mesh T) (by decide) (hr.mono (by decide)) (by rfl) T.g_Mesh T.bi_Mesh (SA.cons (SE.var 5) (SA.cons (SE.var 6) SA.nil)))))))))))))))))))))
end
end LW
set_option Elab.async false
set_option linter.all false
set_option maxRecDepth 100000
set_option maxHeartbeats 40000000
namespace LW
open PySem PySem.Spec PyProof.Rows L2 V2
local macro_rules | `(tactic| array_get_dec) => `(tactic| with_reducible refine i_go (by assumption) ?_)
local macro_rules | `(tactic| array_get_dec) => `(tactic| with_reducible refine i_next ?_)
local macro_rules | `(tactic| array_get_dec) => `(tactic| with_reducible refine i_idxT ?_)
local macro_rules | `(tactic| array_get_dec) => `(tactic| with_reducible refine i_unT ?_)
local macro_rules | `(tactic| array_get_dec) => `(tactic| with_reducible refine i_make2 ?_)
local macro_rules | `(tactic| array_get_dec) => `(tactic| with_reducible refine fld1 (by with_unfolding_all exact rfl) ?_)
local macro_rules | `(tactic| array_get_dec) => `(tactic| with_reducible refine i_fld ?_)
local macro_rules | `(tactic| array_get_dec) => `(tactic| with_reducible refine i_isr2 ?_)
local macro_rules | `(tactic| array_get_dec) => `(tactic| with_reducible refine i_range2 ?_)
local macro_rules | `(tactic| array_get_dec) => `(tactic| with_reducible refine i_range1 ?_)
local macro_rules | `(tactic| array_get_dec) => `(tactic| with_reducible refine i_for ?_)
local macro_rules | `(tactic| array_get_dec) => `(tactic| with_reducible refine i_brk ?_)
local macro_rules | `(tactic| array_get_dec) => `(tactic| with_reducible refine i_zip2 ?_)
local macro_rules | `(tactic| array_get_dec) => `(tactic| with_reducible refine i_enum1 ?_)
local macro_rules | `(tactic| array_get_dec) => `(tactic| with_reducible refine i_one ?_)
local macro_rules | `(tactic| array_get_dec) => `(tactic| with_reducible refine i_raise ?_)
local macro_rules | `(tactic| array_get_dec) => `(tactic| with_reducible refine i_sub ?_)
local macro_rules | `(tactic| array_get_dec) => `(tactic| with_reducible refine i_append ?_)
local macro_rules | `(tactic| array_get_dec) => `(tactic| with_reducible refine i_pop ?_)
local macro_rules | `(tactic| array_get_dec) => `(tactic| with_reducible refine i_drop ?_)
local macro_rules | `(tactic| array_get_dec) => `(tactic| with_reducible refine i_len (by with_unfolding_all exact rfl) ?_)
local macro_rules | `(tactic| array_get_dec) => `(tactic| with_reducible refine i_notN ?_)
local macro_rules | `(tactic| array_get_dec) => `(tactic| with_reducible refine i_isN ?_)
local macro_rules | `(tactic| array_get_dec) => `(tactic| with_reducible refine i_min2 ?_)
local macro_rules | `(tactic| array_get_dec) => `(tactic| with_reducible refine i_max2 ?_)
local macro_rules | `(tactic| array_get_dec) => `(tactic| with_reducible refine i_chain ?_)
local macro_rules | `(tactic| array_get_dec) => `(tactic| with_reducible refine i_lcm3 ?_ ?_)
local macro_rules | `(tactic| array_get_dec) => `(tactic| with_reducible refine i_gcd ?_)
local macro_rules | `(tactic| array_get_dec) => `(tactic| with_reducible refine i_toint ?_)
local macro_rules | `(tactic| array_get_dec) => `(tactic| with_reducible refine i_abs ?_)
local macro_rules | `(tactic| array_get_dec) => `(tactic| with_reducible refine i_pk4 ?_)
local macro_rules | `(tactic| array_get_dec) => `(tactic| with_reducible refine i_pk3 ?_)
local macro_rules | `(tactic| array_get_dec) => `(tactic| with_reducible refine i_pk2 ?_)
local macro_rules | `(tactic| array_get_dec) => `(tactic| with_reducible refine i_pk1 ?_)
local macro_rules | `(tactic| array_get_dec) => `(tactic| with_reducible refine i_fnk ?_)
local macro_rules | `(tactic| array_get_dec) => `(tactic| with_reducible refine i_fn ?_)
local macro_rules | `(tactic| array_get_dec) => `(tactic| with_reducible refine i_call ?_)
local macro_rules | `(tactic| array_get_dec) => `(tactic| with_reducible refine i_ix (by with_unfolding_all exact rfl) (by with_unfolding_all exact rfl) ?_)
local macro_rules | `(tactic| array_get_dec) => `(tactic| with_reducible refine i_ix (by assumption) (by with_unfolding_all exact rfl) ?_)
local macro_rules | `(tactic| array_get_dec) => `(tactic| with_reducible refine i_all (by repeat constructor) (by with_unfolding_all exact Nat.le_of_ble_eq_true rfl) ?_)
local macro_rules | `(tactic| array_get_dec) => `(tactic| with_reducible refine i_lst ?_)
local macro_rules | `(tactic| array_get_dec) => `(tactic| with_reducible refine i_tup ?_)
local macro_rules | `(tactic| array_get_dec) => `(tactic| with_reducible refine i_zipL ?_)
local macro_rules | `(tactic| array_get_dec) => `(tactic| with_reducible refine i_slP ?_)
local macro_rules | `(tactic| array_get_dec) => `(tactic| with_reducible refine i_subB ?_)
local macro_rules | `(tactic| array_get_dec) => `(tactic| with_reducible refine i_notB ?_)
local macro_rules | `(tactic| array_get_dec) => `(tactic| with_reducible refine i_minT2 ?_)
local macro_rules | `(tactic| array_get_dec) => `(tactic| with_reducible refine i_maxT2 ?_)
local macro_rules | `(tactic| array_get_dec) => `(tactic| with_reducible refine i_listT ?_)
local macro_rules | `(tactic| array_get_dec) => `(tactic| with_reducible refine i_tupL ?_)
local macro_rules | `(tactic| array_get_dec) => `(tactic| with_reducible refine rvL ?_)
local macro_rules | `(tactic| array_get_dec) => `(tactic| with_reducible refine i_rev ?_)
local macro_rules | `(tactic| array_get_dec) => `(tactic| with_reducible refine slL ?_)
local macro_rules | `(tactic| array_get_dec) => `(tactic| with_reducible refine slT ?_)
local macro_rules | `(tactic| array_get_dec) => `(tactic| with_reducible refine i_oS ?_)
local macro_rules | `(tactic| array_get_dec) => `(tactic| with_reducible refine i_oN ?_)
local macro_rules | `(tactic| array_get_dec) => `(tactic| with_reducible refine i_slG ?_)
local macro_rules | `(tactic| array_get_dec) => `(tactic| with_reducible refine i_fnotG ?_)
local macro_rules | `(tactic| array_get_dec) => `(tactic| with_reducible refine i_forG ?_)
local macro_rules | `(tactic| array_get_dec) => `(tactic| with_reducible refine i_fand ?_)
local macro_rules | `(tactic| array_get_dec) => `(tactic| with_reducible refine i_fif ?_)
local macro_rules | `(tactic| array_get_dec) => `(tactic| with_reducible refine i_not2 ?_)
local macro_rules | `(tactic| array_get_dec) => `(tactic| with_reducible refine i_or2 ?_)
local macro_rules | `(tactic| array_get_dec) => `(tactic| with_reducible refine i_and2 ?_)
local macro_rules | `(tactic| array_get_dec) => `(tactic| with_reducible refine i_isr ?_)
local macro_rules | `(tactic| array_get_dec) => `(tactic| with_reducible refine i_isi ?_)
local macro_rules | `(tactic| array_get_dec) => `(tactic| with_reducible refine i_isb ?_)
local macro_rules | `(tactic| array_get_dec) => `(tactic| with_reducible refine i_val ?_)
local macro_rules | `(tactic| array_get_dec) => `(tactic| with_reducible refine i_un ?_)
local macro_rules | `(tactic| array_get_dec) => `(tactic| with_reducible refine i_nes ?_)
local macro_rules | `(tactic| array_get_dec) => `(tactic| with_reducible refine i_nesr ?_)
local macro_rules | `(tactic| array_get_dec) => `(tactic| with_reducible refine i_eqs ?_)
local macro_rules | `(tactic| array_get_dec) => `(tactic| with_reducible refine i_eqsr ?_)
local macro_rules | `(tactic| array_get_dec) => `(tactic| with_reducible refine i_nei ?_)
local macro_rules | `(tactic| array_get_dec) => `(tactic| with_reducible refine i_eqi ?_)
local macro_rules | `(tactic| array_get_dec) => `(tactic| with_reducible refine i_add ?_)
local macro_rules | `(tactic| array_get_dec) => `(tactic| with_reducible refine i_ints ?_ ?_)
local macro_rules | `(tactic| array_get_dec) => `(tactic| with_reducible refine i_ints0 ?_)
local macro_rules | `(tactic| array_get_dec) => `(tactic| with_reducible refine i_bin ?_)
local macro_rules | `(tactic| array_get_dec) => `(tactic| with_reducible refine i_nil ?_)
local macro_rules | `(tactic| array_get_dec) => `(tactic| with_reducible refine i_cons ?_)
local macro_rules | `(tactic| array_get_dec) => `(tactic| with_reducible refine i_c ?_)
local macro_rules | `(tactic| array_get_dec) => `(tactic| with_reducible refine i_var (by repeat constructor) ?_)
local macro_rules | `(tactic| array_get_dec) => `(tactic| with_reducible refine i_if ?_)
local macro_rules | `(tactic| array_get_dec) => `(tactic| with_reducible refine i_ret ?_)
local macro_rules | `(tactic| array_get_dec) => `(tactic| with_reducible refine i_trip (by repeat constructor) (by repeat constructor) (by repeat constructor) ?_)
local macro_rules | `(tactic| array_get_dec) => `(tactic| with_reducible refine i_par3 ?_ (by with_unfolding_all exact Nat.le_of_ble_eq_true rfl) (by with_unfolding_all exact Nat.le_of_ble_eq_true rfl) (by with_unfolding_all exact Nat.le_of_ble_eq_true rfl))
local macro_rules | `(tactic| array_get_dec) => `(tactic| with_reducible refine i_pair (by repeat constructor) (by repeat constructor) ?_)
local macro_rules | `(tactic| array_get_dec) => `(tactic| with_reducible refine i_par ?_ (by with_unfolding_all exact Nat.le_of_ble_eq_true rfl) (by with_unfolding_all exact Nat.le_of_ble_eq_true rfl))
local macro_rules | `(tactic| array_get_dec) => `(tactic| with_reducible refine i_set (by repeat constructor) ?_)
local macro_rules | `(tactic| array_get_dec) => `(tactic| with_reducible refine i_asgn ?_ (by with_unfolding_all exact Nat.le_of_ble_eq_true rfl))
local macro_rules | `(tactic| array_get_dec) => `(tactic| with_reducible refine i_asg2v (by repeat constructor) (by repeat constructor) (by repeat constructor) ?_)
local macro_rules | `(tactic| array_get_dec) => `(tactic| with_reducible refine i_seqg (fun _ _ => ?_))
local macro_rules
  | `(tactic| decreasing_trivial_pre_omega) => `(tactic| (apply cmB; (repeat' (first | assumption | apply Bd.add | apply Bd.sub | apply Bd.mul | apply Bd.neg)); decide))
theorem lin_slope {m : Nat} {A B C : Zp} {s r u : Rat} (m0 : m ≠ 0) (ar : areaZ A B C ≠ 0) : slR m A B C (linR m s r u A) (linR m s r u B) (linR m s r u C) = r ∧ slU m A B C (linR m s r u A) (linR m s r u B) (linR m s r u C) = u := by
  have h0 := ar_ne (m := m) m0 ar
  have e := ar_eq m0 A B C
  unfold slR slU linR
  generalize (ptOf m A).1 = x1 at *
  generalize (ptOf m A).2 = y1 at *
  generalize (ptOf m B).1 = x2 at *
  generalize (ptOf m B).2 = y2 at *
  generalize (ptOf m C).1 = x3 at *
  generalize (ptOf m C).2 = y3 at *
  generalize arR m A B C = D at *
  constructor <;> grind
theorem wp_eqMesh {P : List Pt} {T : List Tr} {h : Ho} {Q : KD} (k : Q (.d (.bool true)) h) : M_eq_Mesh [meshD P T, meshD P T] h Q noX := by
  refine i_mir rfl (by repeat constructor) (by repeat constructor) ?_
  unfold B_eq_Mesh
  repeat' array_get_dec
  refine i_isiO ?_
  array_get_dec
  refine isi1 ⟨_, rfl, ?_⟩
  refine i_ifT rfl ?_
  repeat' array_get_dec
  refine i_eqG rfl (shaped_pts P) ⟨_, rfl, ?_⟩
  refine i_ifT rfl ?_
  repeat' array_get_dec
  refine i_eqG rfl (shaped_t3s T) ?_
  repeat' array_get_dec
  exact k
theorem sq_sz {m n : Nat} {A B C : Zp} {x y z : Int} (bx : Bd 14 x) (by_ : Bd 14 y) (bz : Bd 14 z) (nA : Nr m A) (nB : Nr m B) (nC : Nr m C) (en : areaZ A B C = (n : Nat)) (n0 : n ≠ 0) : Sz 61 (mkRat (sq A B C x y z) (2 * n)) := by
  have a1 : Bd 12 A.1 := nA.x
  have a2 : Bd 12 A.2 := nA.y
  have b1 : Bd 12 B.1 := nB.x
  have b2 : Bd 12 B.2 := nB.y
  have c1 : Bd 12 C.1 := nC.x
  have c2 : Bd 12 C.2 := nC.y
  have h1 : Bd 29 (w1 A B C x y z) := (((by_.sub bx).mul (c2.sub a2)).sub ((bz.sub bx).mul (b2.sub a2))).mono (by decide)
  have h2 : Bd 29 (w2 A B C x y z) := (((bz.sub bx).mul (b1.sub a1)).sub ((by_.sub bx).mul (c1.sub a1))).mono (by decide)
  have h3 : Bd 61 (sq A B C x y z) := ((h1.mul h1).add (h2.mul h2)).mono (by decide)
  have h4 : Bd 29 (areaZ A B C) := (((b1.sub a1).mul (c2.sub a2)).sub ((b2.sub a2).mul (c1.sub a1))).mono (by decide)
  rw [en] at h4
  have h5 : n < 2 ^ 29 := by simpa [Bd] using h4
  exact Sz.mk' (by omega) h3 (by omega)
theorem says (ns : List Int) (hl : ns.length ≤ 63) {P : Prop} (hb : P) : V2.Says M_law ns := by
  have sz : sizeLine = 2 ^ 24 := rfl
  unfold Says scriptD
  refine i_mir rfl (by repeat constructor) (by repeat constructor) ?_
  unfold B_law
  repeat' array_get_dec
  refine wp_source hl fun h0 d0 => ?_
  repeat' array_get_dec
  refine i_asgG ?_
  repeat' array_get_dec
  refine wp_mesh d0 fun rest m S T h1 d1 nR m0 m1 g => ?_
  have dh : Dl h1 := ⟨rest, d1, nR⟩
  refine ⟨[some (.d (.list (ns.map PyData.int))), some (.loc 1), some (.d (.int (m : Nat))), some (.d (.list (S.map zD))), some (.d (.list (T.map tl))), none, none, none, none, none, none, none, none, none, none, none, none, none, none, none, none, none, none], rfl, ?_⟩
  array_get_dec
  array_get_dec
  refine i_asgG ?_
  repeat' array_get_dec
  refine wp_made g (by decide) (by decide) (by decide) m0 m1 fun T' ps hT hlen => ?_
  have dh := dh.more ps
  generalize h1 ++ [O.lst (ps.map D.d)] = h2 at dh
  refine ⟨[some (.d (.list (ns.map PyData.int))), some (.loc 1), some (.d (.int (m : Nat))), some (.d (.list (S.map zD))), some (.d (.list (T.map tl))), some (.d (.tuple ((S.map (ptOf m)).map ptD))), some (.d (.tuple (T'.map t3))), none, none, none, none, none, none, none, none, none, none, none, none, none, none, none, none], rfl, ?_⟩
  array_get_dec
  array_get_dec
  refine i_asgT ?_
  repeat' array_get_dec
  refine dl_any (by decide) (by decide) dh fun v h3 v0 v1 dh _ => ?_
  repeat' array_get_dec
  refine dl_of (xs := [.int 1, .int 1, .int (1 + v)]) (by simp) (by show 3 < 2 ^ 100; decide) dh fun x h4 hx dh _ => ?_
  obtain ⟨l, rfl, l0, l1⟩ : ∃ l : Nat, x = .int (l : Nat) ∧ 1 ≤ l ∧ l ≤ 20 := by
    simp only [List.mem_cons, List.not_mem_nil, or_false] at hx
    rcases hx with rfl | rfl | rfl
    · exact ⟨1, rfl, by decide, by decide⟩
    · exact ⟨1, rfl, by decide, by decide⟩
    · exact ⟨(1 + v).toNat, by rw [Int.toNat_of_nonneg (by omega)], by omega, by omega⟩
  refine ⟨rfl, by decide, [some (.d (.list (ns.map PyData.int))), some (.loc 1), some (.d (.int (m : Nat))), some (.d (.list (S.map zD))), some (.d (.list (T.map tl))), some (.d (.tuple ((S.map (ptOf m)).map ptD))), some (.d (.tuple (T'.map t3))), some (meshD (S.map (ptOf m)) T'), some (.d (.int (l : Nat))), none, none, none, none, none, none, none, none, none, none, none, none, none, none], rfl, ?_⟩
  array_get_dec
  repeat' array_get_dec
  have spos : 0 < S.length := by
    obtain ⟨t, ht⟩ := List.exists_mem_of_ne_nil _ g.ne
    have := (g.tri t ht).i1
    omega
  have s16 := g.fs
  have t26 := g.ft
  obtain ⟨rest4, d4, nR4⟩ := dh
  refine wp_worths (r := 1300) (by decide) g.near (by omega) spos d4 (nR4 _) fun W h5 d5 hW bW => ?_
  have dh : Dl h5 := ⟨_, d5, nR4⟩
  repeat' array_get_dec
  refine i_lcv ?_
  refine i_iseqG ?_
  repeat' array_get_dec
  refine ⟨_, rfl, ?_⟩
  refine lcv_ind (hb := h5) (fun k acc => acc = (((W.take k).map fun x => mkRat x l).map fr).map D.d) (fun _ => trivial) ?_ ?_ rfl
  · rintro i z acc ez rfl
    rw [List.getElem?_map, List.getElem?_map, Option.map_map, Option.map_eq_some_iff] at ez
    obtain ⟨x, ex, rfl⟩ := ez
    have hx := bW x (List.mem_of_getElem? ex)
    refine ⟨_, true, rfl, fun P q => q, fun _ => ⟨.d (fr (mkRat x l)), fun P qq => ?_, ?_, ?_⟩, fun e => by cases e⟩
    · show fFn M__law_low _ [_, _, _, _, _, _, _, _, some (.d (.int (l : Nat))), _, _, some (.d (.int x)), _, _, _, _, _, _, _, _, _, _, _] _ _ _
      repeat' array_get_dec
      refine wp_low (n := 14) (m := 5) (by omega) hx (by omega) (by decide) (by decide) ?_
      exact qq
    · simp only [List.length_map, List.length_take]
      omega
    · rw [List.take_add_one, ex]
      simp
  rintro acc rfl
  rw [List.length_map, List.length_map, List.take_length]
  refine ⟨_, allD_of _, ?_⟩
  repeat' array_get_dec
  obtain ⟨F, eF⟩ : ∃ F : List Rat, F = W.map fun x => mkRat x l := ⟨_, rfl⟩
  rw [← eF]
  have lF : F.length = S.length := by rw [eF, List.length_map, hW]
  have gF : ∀ (i : Nat) (x : Int), W[i]? = some x → F[i]? = some (mkRat x l) := fun i x e => by rw [eF, List.getElem?_map, e]; rfl
  have sF : ∀ q ∈ F, Sz 14 q := fun q hq => by
    rw [eF] at hq
    obtain ⟨x, hx, rfl⟩ := List.mem_map.1 hq
    exact Sz.mk' (by omega) (bW x hx) (by omega)
  obtain ⟨f1, f2, f3⟩ := frs_show (F := F) (fun q hq => (sF q hq).mono (by decide)) (by omega)
  refine i_repr f1 f2 f3 ?_
  repeat' array_get_dec
  rw [List.length_map, List.length_map]
  refine ⟨by omega, by omega, ?_⟩
  have nr := g.nr (m := m) (by decide)
  have m7 : m < 2 ^ 7 := by omega
  have mz : m ≠ 0 := by omega
  refine for_ind (fun i ρ h' => Dl h' ∧ ∃ z13 z14 z15 z16 : Option D, ρ = [some (.d (.list (ns.map PyData.int))), some (.loc 1), some (.d (.int (m : Nat))), some (.d (.list (S.map zD))), some (.d (.list (T.map tl))), some (.d (.tuple ((S.map (ptOf m)).map ptD))), some (.d (.tuple (T'.map t3))), some (meshD (S.map (ptOf m)) T'), some (.d (.int (l : Nat))), some (.d (.list (W.map PyData.int))), some (.d (.tuple (F.map fr))), none, some (.d (.str (PyData.tuple (F.map fr)).shown)), z13, z14, z15, z16, none, none, none, none, none, none]) ?_ ?_ ⟨dh, _, _, _, _, rfl⟩
  · rintro i q ρ h' G ex ⟨dh, z13, z14, z15, z16, rfl⟩ hG
    obtain ⟨hi, rfl⟩ := range_get ex
    obtain ⟨⟨a, b, c⟩, et⟩ : ∃ t, T'[i]? = some t := ⟨_, List.getElem?_eq_getElem (by omega)⟩
    have tri := hT _ (List.mem_of_getElem? et)
    have hA := sp_get tri.i1
    have hB := sp_get tri.i2
    have hC := sp_get tri.i3
    have ar := tri.pos
    dsimp only at hA hB hC ar
    generalize sp S a = A at *
    generalize sp S b = B at *
    generalize sp S c = C at *
    obtain ⟨x, hx⟩ : ∃ x, W[a]? = some x := ⟨_, List.getElem?_eq_getElem (by have := tri.i1; dsimp only at this; omega)⟩
    obtain ⟨y, hy⟩ : ∃ x, W[b]? = some x := ⟨_, List.getElem?_eq_getElem (by have := tri.i2; dsimp only at this; omega)⟩
    obtain ⟨z, hz⟩ : ∃ x, W[c]? = some x := ⟨_, List.getElem?_eq_getElem (by have := tri.i3; dsimp only at this; omega)⟩
    have hu := gF _ _ hx
    have hv := gF _ _ hy
    have hw := gF _ _ hz
    have su := sF _ (List.mem_of_getElem? hu)
    have sv := sF _ (List.mem_of_getElem? hv)
    have sw := sF _ (List.mem_of_getElem? hw)
    have nA := nr A (List.mem_of_getElem? hA)
    have nB := nr B (List.mem_of_getElem? hB)
    have nC := nr C (List.mem_of_getElem? hC)
    obtain ⟨n, en⟩ : ∃ n : Nat, areaZ A B C = (n : Nat) := ⟨(areaZ A B C).toNat, by rw [Int.toNat_of_nonneg (by omega)]⟩
    have n0 : n ≠ 0 := by omega
    have az : areaZ A B C ≠ 0 := by omega
    obtain ⟨zR, zU⟩ := sl_sz mz m7 nA nB nC su sv sw az
    have a0 := ar_ne (m := m) mz az
    have r1 := rise (u := mkRat x l) (v := mkRat y l) (w := mkRat z l) (ar_eq mz A B C) a0
    have r2 := rise3 (u := mkRat x l) (v := mkRat y l) (w := mkRat z l) (ar_eq mz A B C) a0
    have ene := en_eq (x := x) (y := y) (z := z) (l := l) mz (by omega) n0 en
    refine ⟨_, rfl, ?_⟩
    show (sSeq _ _) [some (.d (.list (ns.map PyData.int))), some (.loc 1), some (.d (.int (m : Nat))), some (.d (.list (S.map zD))), some (.d (.list (T.map tl))), some (.d (.tuple ((S.map (ptOf m)).map ptD))), some (.d (.tuple (T'.map t3))), some (meshD (S.map (ptOf m)) T'), some (.d (.int (l : Nat))), some (.d (.list (W.map PyData.int))), some (.d (.tuple (F.map fr))), none, some (.d (.str (PyData.tuple (F.map fr)).shown)), some (.d (.int (i : Nat))), z14, z15, z16, none, none, none, none, none, none] _ _
    repeat' array_get_dec
    refine wp_slope mz m7 et hA hB hC hu hv hw nA nB nC (su.mono (by decide)) (sv.mono (by decide)) (sw.mono (by decide)) az ?_
    repeat' array_get_dec
    refine i_ix rfl (get_map et) ?_
    repeat' array_get_dec
    refine wp_right mz m7 hA hB hC hu hv hw nA nB nC su sv sw zR zU r1 r2 ?_
    repeat' array_get_dec
    refine i_ifF rfl ?_
    repeat' array_get_dec
    refine wp_slope mz m7 et hA hB hC hu hv hw nA nB nC (su.mono (by decide)) (sv.mono (by decide)) (sw.mono (by decide)) az ?_
    repeat' array_get_dec
    refine i_neG rfl rfl ?_
    repeat' array_get_dec
    refine i_ifF rfl ?_
    repeat' array_get_dec
    refine i_ix rfl (get_map et) ?_
    repeat' array_get_dec
    refine wp_lenergy hA hB hC hx hy hz nA nB nC (bW _ (List.mem_of_getElem? hx)) (bW _ (List.mem_of_getElem? hy)) (bW _ (List.mem_of_getElem? hz)) en n0 fun ps => ?_
    have dh := dh.more ps
    generalize h' ++ [O.lst (ps.map D.d)] = h6 at dh
    have bl : Bd 5 ((l : Nat) : Int) := by show _ < 32; omega
    have bt := sq_sz (bW _ (List.mem_of_getElem? hx)) (bW _ (List.mem_of_getElem? hy)) (bW _ (List.mem_of_getElem? hz)) nA nB nC en n0
    have b1 : Bd 62 (2 * (((mkRat (sq A B C x y z) (2 * n)).den : Nat) : Int)) := by
      have := bt.2
      show _ < 2 ^ 62
      omega
    repeat' array_get_dec
    · exact cmB (show Bd 2 2 by show (2 : Int).natAbs < 2 ^ 2; decide) (show Bd 61 _ by have := bt.2; show _ < 2 ^ 61; omega) (by decide)
    · exact cmB b1 bl (by decide)
    · exact cmB (b1.mul bl) bl (by decide)
    have ec : 2 * (((mkRat (sq A B C x y z) (2 * n)).den : Nat) : Int) * (l : Nat) * (l : Nat) = ((2 * (mkRat (sq A B C x y z) (2 * n)).den * l * l : Nat) : Int) := by
      simp only [Int.natCast_mul]
      rfl
    have b3 : Bd 72 (2 * (((mkRat (sq A B C x y z) (2 * n)).den : Nat) : Int) * (l : Nat) * (l : Nat)) := (b1.mul bl).mul bl
    rw [ec] at b3 ⊢
    have q0 : 2 * (mkRat (sq A B C x y z) (2 * n)).den * l * l ≠ 0 := by
      have := (mkRat (sq A B C x y z) (2 * n)).den_pos
      exact Nat.mul_ne_zero (Nat.mul_ne_zero (by omega) (by omega)) (by omega)
    refine wp_low (n := 61) (m := 72) q0 bt.1 (by have := b3; unfold Bd at this; rw [Int.natAbs_natCast] at this; exact this) (by decide) (by decide) ?_
    rw [low_again (by omega), ← ene]
    repeat' array_get_dec
    refine wp_energyT mz m7 et hA hB hC hu hv hw nA nB nC su sv sw az ?_
    repeat' array_get_dec
    refine wp_sameF (n := 800) (en_sz mz m7 nA nB nC su sv sw az) (by decide) ?_
    repeat' array_get_dec
    refine i_ifF rfl ?_
    repeat' array_get_dec
    refine wp_energyT mz m7 et hA hB hC hu hv hw nA nB nC su sv sw az ?_
    repeat' array_get_dec
    refine i_neG rfl rfl ⟨_, rfl, ?_⟩
    refine i_ifF rfl ?_
    repeat' array_get_dec
    refine i_repr f1 f2 f3 ?_
    repeat' array_get_dec
    refine i_ifF rfl ?_
    repeat' array_get_dec
    exact ⟨trivial, hG _ _ ⟨dh, _, _, _, _, rfl⟩⟩
  · rintro ρ h' ⟨dh, z13, z14, z15, z16, rfl⟩
    clear h0 d0 d1 d4 d5 nR nR4
    obtain ⟨rest5, d5, nR5⟩ := dh
    array_get_dec
    refine i_asgG ?_
    refine i_lcv ?_
    repeat' array_get_dec
    refine ⟨by decide, by decide, ?_⟩
    refine lcd_ind d5 (nR5 _) (fun k acc => ∃ R : List Rat, acc = R.map fr ∧ R.length = k ∧ ∀ x ∈ R, Sz 6 x) (fun _ => trivial) ?_ ?_ ⟨[], rfl, rfl, by simp⟩
    · rintro j z acc h3 G ez ⟨R, rfl, hR, hB⟩ d2 hG
      obtain ⟨hj, rfl⟩ := range_get ez
      refine ⟨_, rfl, by rw [List.length_map]; omega, ?_⟩
      show fFn M__law_low _ [_, some (.loc 1), _, _, _, _, _, _, _, _, _, _, _, _, _, _, _, _, _, _, _, _, _] _ _ _
      repeat' array_get_dec
      refine wp_any (by decide) (by decide) d2 fun v h4 v0 v1 d3 => ?_
      repeat' array_get_dec
      refine wp_any (by decide) (by decide) d3 fun w h5 w0 w1 d4 => ?_
      repeat' array_get_dec
      obtain ⟨q, hq⟩ : ∃ q : Nat, (1 : Int) + w = (q : Nat) := ⟨(1 + w).toNat, by rw [Int.toNat_of_nonneg (by omega)]⟩
      rw [hq]
      have sq : Sz 6 (mkRat (v - 20) q) := Sz.mk' (by omega) (by omega) (by omega)
      refine wp_low (n := 6) (m := 6) (by omega) (by omega) (by omega) (by decide) (by decide) ?_
      refine hG _ _ ⟨R ++ [mkRat (v - 20) q], by rw [List.map_append]; rfl, by rw [List.length_append, hR]; rfl, fun x hx => ?_⟩ d4
      rw [List.mem_append, List.mem_singleton] at hx
      rcases hx with hx | rfl
      · exact hB x hx
      · exact sq
    rintro acc h3 ⟨R, rfl, hR, hB⟩ d2
    have dh : Dl h3 := ⟨_, d2, nR5⟩
    have hR3 : R.length = 3 := hR
    obtain ⟨s, r, u, rfl⟩ : ∃ s r u, R = [s, r, u] := match R, hR3 with | [s, r, u], _ => ⟨s, r, u, rfl⟩
    have ss := hB s (by simp)
    have sr := hB r (by simp)
    have su := hB u (by simp)
    refine ⟨[some (.d (.list (ns.map PyData.int))), some (.loc 1), some (.d (.int (m : Nat))), some (.d (.list (S.map zD))), some (.d (.list (T.map tl))), some (.d (.tuple ((S.map (ptOf m)).map ptD))), some (.d (.tuple (T'.map t3))), some (meshD (S.map (ptOf m)) T'), some (.d (.int (l : Nat))), some (.d (.list (W.map PyData.int))), some (.d (.tuple (F.map fr))), none, some (.d (.str (PyData.tuple (F.map fr)).shown)), z13, z14, z15, z16, some (.d (fr s)), some (.d (fr r)), some (.d (fr u)), none, none, none], rfl, ?_⟩
    array_get_dec
    array_get_dec
    array_get_dec
    refine i_lcv ?_
    refine i_iseqG ?_
    repeat' array_get_dec
    refine ⟨_, rfl, ?_⟩
    refine lcv_ind (hb := h3) (fun k acc => acc = (((S.take k).map (linR m s r u)).map fr).map D.d) (fun _ => trivial) ?_ ?_ rfl
    · rintro i z acc ez rfl
      rw [List.getElem?_map, List.getElem?_map, List.getElem?_map, Option.map_map, Option.map_map, Option.map_eq_some_iff] at ez
      obtain ⟨a, ea, rfl⟩ := ez
      have na := nr a (List.mem_of_getElem? ea)
      have hi := (List.getElem?_eq_some_iff.1 ea).1
      obtain ⟨a1, a2⟩ := na.sz mz m7
      refine ⟨_, true, rfl, fun P q => q, fun _ => ⟨.d (fr (linR m s r u a)), fun P qq => ?_, ?_, ?_⟩, fun e => by cases e⟩
      · show fFn M__law_plus _ [_, _, _, _, _, _, _, _, _, _, _, _, _, _, _, _, _, some (.d (fr s)), some (.d (fr r)), some (.d (fr u)), _, some (.d (fr (ptOf m a).1)), some (.d (fr (ptOf m a).2))] _ _ _
        repeat' array_get_dec
        refine wp_ltimes sr a1 (by decide) ?_
        repeat' array_get_dec
        refine wp_ltimes su a2 (by decide) ?_
        repeat' array_get_dec
        refine wp_lplus (sr.mul a1) (su.mul a2) (by decide) ?_
        repeat' array_get_dec
        refine wp_lplus ss ((sr.mul a1).add (su.mul a2)) (by decide) ?_
        exact qq
      · simp only [List.length_map, List.length_take]
        omega
      · rw [List.take_add_one, ea]
        simp
    rintro acc rfl
    rw [List.length_map, List.length_map, List.length_map, List.take_length]
    refine ⟨_, allD_of _, ?_⟩
    repeat' array_get_dec
    refine wp_linear mz m7 nr (by omega) ss sr su ?_
    have sL : ∀ q ∈ S.map (linR m s r u), Sz 50 q := fun q hq => by
      obtain ⟨a, ha, rfl⟩ := List.mem_map.1 hq
      exact lin_sz mz m7 (nr a ha) ss sr su
    obtain ⟨L, eL⟩ : ∃ L : List Rat, L = S.map (linR m s r u) := ⟨_, rfl⟩
    have gL : ∀ (i : Nat) (a : Zp), S[i]? = some a → L[i]? = some (linR m s r u a) := fun i a e => by rw [eL, List.getElem?_map, e]; rfl
    rw [← eL] at sL ⊢
    have lL : L.length = S.length := by rw [eL, List.length_map]
    obtain ⟨g1, g2, g3⟩ := frs_show (F := L) (fun q hq => (sL q hq).mono (by decide)) (by omega)
    repeat' array_get_dec
    refine wp_same g1 g2 g3 ?_
    repeat' array_get_dec
    refine i_ifF rfl ?_
    repeat' array_get_dec
    refine wp_linear mz m7 nr (by omega) ss sr su ?_
    rw [← eL]
    repeat' array_get_dec
    refine i_neG rfl (shaped_frs L) ⟨_, rfl, ?_⟩
    refine i_ifF rfl ?_
    repeat' array_get_dec
    rw [List.length_map, List.length_map]
    refine dl_any (by have := List.length_pos_iff.2 g.ne; omega) (by omega) dh fun i h4 i0 i1 dh _ => ?_
    obtain ⟨j, rfl⟩ : ∃ j : Nat, i = (j : Nat) := ⟨i.toNat, by rw [Int.toNat_of_nonneg i0]⟩
    obtain ⟨⟨a, b, c⟩, et⟩ : ∃ t, T'[j]? = some t := ⟨_, List.getElem?_eq_getElem (by omega)⟩
    have tri := hT _ (List.mem_of_getElem? et)
    have hA := sp_get tri.i1
    have hB' := sp_get tri.i2
    have hC := sp_get tri.i3
    have ar := tri.pos
    dsimp only at hA hB' hC ar
    generalize sp S a = A at *
    generalize sp S b = B at *
    generalize sp S c = C at *
    have hu := gL _ _ hA
    have hv := gL _ _ hB'
    have hw := gL _ _ hC
    have az : areaZ A B C ≠ 0 := by omega
    obtain ⟨e1, e2⟩ := lin_slope (m := m) (s := s) (r := r) (u := u) mz az
    repeat' array_get_dec
    refine wp_slope mz m7 et hA hB' hC hu hv hw (nr A (List.mem_of_getElem? hA)) (nr B (List.mem_of_getElem? hB')) (nr C (List.mem_of_getElem? hC)) (sL _ (List.mem_of_getElem? hu)) (sL _ (List.mem_of_getElem? hv)) (sL _ (List.mem_of_getElem? hw)) az ?_
    rw [e1, e2]
    repeat' array_get_dec
    obtain ⟨k1, k2, k3⟩ := frs_show (F := [r, u]) (fun q hq => by
      simp only [List.mem_cons, List.not_mem_nil, or_false] at hq
      rcases hq with rfl | rfl
      · exact sr.mono (by decide)
      · exact su.mono (by decide)) (by show 2 ≤ 50; decide)
    refine wp_same k1 k2 k3 ⟨_, rfl, ?_⟩
    refine i_ifT rfl ?_
    repeat' array_get_dec
    refine i_eqO (wp_eqMesh ⟨⟨_, rfl⟩, ?_⟩)
    rfl
end LW
set_option Elab.async false
set_option linter.all false
set_option maxRecDepth 100000
set_option maxHeartbeats 8000000
namespace LW
open PySem PySem.Spec PyProof.Rows L2 V2
open PySem.W (Frag)
theorem all_mk {l : PySem.W.OpenLaw} {w : World} {K : Frag} {h : Heap} {mg : Str → Option Value} {fa : Addr} (X : K.In h) (G : h.Ns mainGlobals mg) (hfa : mg "law" = some (.ref fa))
    {f0 : Addr} {od0 an0 : Option Addr} {sl0 : Array (Option Value)} {oc0 kV0 dc0 pm0 cd0 ct0 : Value}
    {f1 : Addr} {od1 an1 : Option Addr} {sl1 : Array (Option Value)} {oc1 kV1 dc1 pm1 cd1 ct1 : Value}
    {f2 : Addr} {od2 an2 : Option Addr} {sl2 : Array (Option Value)} {oc2 kV2 dc2 pm2 cd2 ct2 : Value}
    {f3 : Addr} {od3 an3 : Option Addr} {sl3 : Array (Option Value)} {oc3 kV3 dc3 pm3 cd3 ct3 : Value}
    {f4 : Addr} {od4 an4 : Option Addr} {sl4 : Array (Option Value)} {oc4 kV4 dc4 pm4 cd4 ct4 : Value}
    {f5 : Addr} {od5 an5 : Option Addr} {sl5 : Array (Option Value)} {oc5 kV5 dc5 pm5 cd5 ct5 : Value}
    {f6 : Addr} {od6 an6 : Option Addr} {sl6 : Array (Option Value)} {oc6 kV6 dc6 pm6 cd6 ct6 : Value}
    {f7 : Addr} {od7 an7 : Option Addr} {sl7 : Array (Option Value)} {oc7 kV7 dc7 pm7 cd7 ct7 : Value}
    {f8 : Addr} {od8 an8 : Option Addr} {sl8 : Array (Option Value)} {oc8 kV8 dc8 pm8 cd8 ct8 : Value}
    {f9 : Addr} {od9 an9 : Option Addr} {sl9 : Array (Option Value)} {oc9 kV9 dc9 pm9 cd9 ct9 : Value}
    {f10 : Addr} {od10 an10 : Option Addr} {sl10 : Array (Option Value)} {oc10 kV10 dc10 pm10 cd10 ct10 : Value}
    {f11 : Addr} {od11 an11 : Option Addr} {sl11 : Array (Option Value)} {oc11 kV11 dc11 pm11 cd11 ct11 : Value}
    {f12 : Addr} {od12 an12 : Option Addr} {sl12 : Array (Option Value)} {oc12 kV12 dc12 pm12 cd12 ct12 : Value}
    {f13 : Addr} {od13 an13 : Option Addr} {sl13 : Array (Option Value)} {oc13 kV13 dc13 pm13 cd13 ct13 : Value}
    {f14 : Addr} {od14 an14 : Option Addr} {sl14 : Array (Option Value)} {oc14 kV14 dc14 pm14 cd14 ct14 : Value}
    {f15 : Addr} {od15 an15 : Option Addr} {sl15 : Array (Option Value)} {oc15 kV15 dc15 pm15 cd15 ct15 : Value}
    {f16 : Addr} {od16 an16 : Option Addr} {sl16 : Array (Option Value)} {oc16 kV16 dc16 pm16 cd16 ct16 : Value}
    {f17 : Addr} {od17 an17 : Option Addr} {sl17 : Array (Option Value)} {oc17 kV17 dc17 pm17 cd17 ct17 : Value}
    {f18 : Addr} {od18 an18 : Option Addr} {sl18 : Array (Option Value)} {oc18 kV18 dc18 pm18 cd18 ct18 : Value}
    {f19 : Addr} {od19 an19 : Option Addr} {sl19 : Array (Option Value)} {oc19 kV19 dc19 pm19 cd19 ct19 : Value}
    {f20 : Addr} {od20 an20 : Option Addr} {sl20 : Array (Option Value)} {oc20 kV20 dc20 pm20 cd20 ct20 : Value}
    {f21 : Addr} {od21 an21 : Option Addr} {sl21 : Array (Option Value)} {oc21 kV21 dc21 pm21 cd21 ct21 : Value}
    {f22 : Addr} {od22 an22 : Option Addr} {sl22 : Array (Option Value)} {oc22 kV22 dc22 pm22 cd22 ct22 : Value}
    {f23 : Addr} {od23 an23 : Option Addr} {sl23 : Array (Option Value)} {oc23 kV23 dc23 pm23 cd23 ct23 : Value}
    {f24 : Addr} {od24 an24 : Option Addr} {sl24 : Array (Option Value)} {oc24 kV24 dc24 pm24 cd24 ct24 : Value}
    {f25 : Addr} {od25 an25 : Option Addr} {sl25 : Array (Option Value)} {oc25 kV25 dc25 pm25 cd25 ct25 : Value}
    {f26 : Addr} {od26 an26 : Option Addr} {sl26 : Array (Option Value)} {oc26 kV26 dc26 pm26 cd26 ct26 : Value}
    {f27 : Addr} {od27 an27 : Option Addr} {sl27 : Array (Option Value)} {oc27 kV27 dc27 pm27 cd27 ct27 : Value}
    {f28 : Addr} {od28 an28 : Option Addr} {sl28 : Array (Option Value)} {oc28 kV28 dc28 pm28 cd28 ct28 : Value}
    {f29 : Addr} {od29 an29 : Option Addr} {sl29 : Array (Option Value)} {oc29 kV29 dc29 pm29 cd29 ct29 : Value}
    {f30 : Addr} {od30 an30 : Option Addr} {sl30 : Array (Option Value)} {oc30 kV30 dc30 pm30 cd30 ct30 : Value}
    {f31 : Addr} {od31 an31 : Option Addr} {sl31 : Array (Option Value)} {oc31 kV31 dc31 pm31 cd31 ct31 : Value}
    {f32 : Addr} {od32 an32 : Option Addr} {sl32 : Array (Option Value)} {oc32 kV32 dc32 pm32 cd32 ct32 : Value}
    {f33 : Addr} {od33 an33 : Option Addr} {sl33 : Array (Option Value)} {oc33 kV33 dc33 pm33 cd33 ct33 : Value}
    {f34 : Addr} {od34 an34 : Option Addr} {sl34 : Array (Option Value)} {oc34 kV34 dc34 pm34 cd34 ct34 : Value}
    {f35 : Addr} {od35 an35 : Option Addr} {sl35 : Array (Option Value)} {oc35 kV35 dc35 pm35 cd35 ct35 : Value}
    {f36 : Addr} {od36 an36 : Option Addr} {sl36 : Array (Option Value)} {oc36 kV36 dc36 pm36 cd36 ct36 : Value}
    {f37 : Addr} {od37 an37 : Option Addr} {sl37 : Array (Option Value)} {oc37 kV37 dc37 pm37 cd37 ct37 : Value}
    {f38 : Addr} {od38 an38 : Option Addr} {sl38 : Array (Option Value)} {oc38 kV38 dc38 pm38 cd38 ct38 : Value}
    {f39 : Addr} {od39 an39 : Option Addr} {sl39 : Array (Option Value)} {oc39 kV39 dc39 pm39 cd39 ct39 : Value}
    {C_InvalidSize : Addr}
    {I_InvalidSize N_InvalidSize : Addr} {nm_InvalidSize qn_InvalidSize : Str} {bs_InvalidSize bm_InvalidSize sub_InvalidSize : List Value} {sn_InvalidSize : List Str} {ab_InvalidSize : Bool} {co_InvalidSize : Option Bool} {dd_InvalidSize od_InvalidSize an_InvalidSize : Option Addr} {m0_InvalidSize m1_InvalidSize m2_InvalidSize m3_InvalidSize m5_InvalidSize : Option Value} {oc_InvalidSize dc_InvalidSize pm_InvalidSize cd_InvalidSize ct_InvalidSize : Value} {sl_InvalidSize : Array (Option Value)}
    {C_Mesh : Addr}
    {J_Mesh : Addr} {jd_Mesh jan_Mesh : Option Addr} {jsl_Mesh : Array (Option Value)} {joc_Mesh jkV_Mesh jdc_Mesh jpm_Mesh jcd_Mesh jct_Mesh : Value}
    {E_Mesh : Addr} {ed_Mesh ean_Mesh : Option Addr} {esl_Mesh : Array (Option Value)} {eoc_Mesh ekV_Mesh edc_Mesh epm_Mesh ecd_Mesh ect_Mesh : Value}
    {Q_ZERO : Addr} {qd_ZERO : Option Addr} {qs_ZERO : Array (Option Value)} {qn_c_ZERO : Nat} {qt0_ZERO : Tok} {qt1_ZERO : Tok}
    (a0 : PySem.W.nsIn K mainGlobals "fraction" = some (some (.ref f0)))
    (l0 : K.lookup f0 = some ⟨oc0, od0, .func (PySem.W.fnOf "fraction" "fraction" (defArgs s_fraction) (defBody s_fraction) (defScope s_fraction) .none kV0 dc0 pm0 an0 cd0 ct0), sl0⟩)
    (c0 : PySem.W.codeIn K cd0 "fraction" = true)
    (k0 : PySem.W.keepIn K (.ref f0) = true)
    (a1 : PySem.W.nsIn K mainGlobals "plus" = some (some (.ref f1)))
    (l1 : K.lookup f1 = some ⟨oc1, od1, .func (PySem.W.fnOf "plus" "plus" (defArgs s_plus) (defBody s_plus) (defScope s_plus) .none kV1 dc1 pm1 an1 cd1 ct1), sl1⟩)
    (c1 : PySem.W.codeIn K cd1 "plus" = true)
    (k1 : PySem.W.keepIn K (.ref f1) = true)
    (a2 : PySem.W.nsIn K mainGlobals "minus" = some (some (.ref f2)))
    (l2 : K.lookup f2 = some ⟨oc2, od2, .func (PySem.W.fnOf "minus" "minus" (defArgs s_minus) (defBody s_minus) (defScope s_minus) .none kV2 dc2 pm2 an2 cd2 ct2), sl2⟩)
    (c2 : PySem.W.codeIn K cd2 "minus" = true)
    (k2 : PySem.W.keepIn K (.ref f2) = true)
    (a3 : PySem.W.nsIn K mainGlobals "times" = some (some (.ref f3)))
    (l3 : K.lookup f3 = some ⟨oc3, od3, .func (PySem.W.fnOf "times" "times" (defArgs s_times) (defBody s_times) (defScope s_times) .none kV3 dc3 pm3 an3 cd3 ct3), sl3⟩)
    (c3 : PySem.W.codeIn K cd3 "times" = true)
    (k3 : PySem.W.keepIn K (.ref f3) = true)
    (a4 : PySem.W.nsIn K mainGlobals "over" = some (some (.ref f4)))
    (l4 : K.lookup f4 = some ⟨oc4, od4, .func (PySem.W.fnOf "over" "over" (defArgs s_over) (defBody s_over) (defScope s_over) .none kV4 dc4 pm4 an4 cd4 ct4), sl4⟩)
    (c4 : PySem.W.codeIn K cd4 "over" = true)
    (k4 : PySem.W.keepIn K (.ref f4) = true)
    (a5 : PySem.W.nsIn K mainGlobals "negative" = some (some (.ref f5)))
    (l5 : K.lookup f5 = some ⟨oc5, od5, .func (PySem.W.fnOf "negative" "negative" (defArgs s_negative) (defBody s_negative) (defScope s_negative) .none kV5 dc5 pm5 an5 cd5 ct5), sl5⟩)
    (c5 : PySem.W.codeIn K cd5 "negative" = true)
    (k5 : PySem.W.keepIn K (.ref f5) = true)
    (a6 : PySem.W.nsIn K mainGlobals "total_of" = some (some (.ref f6)))
    (l6 : K.lookup f6 = some ⟨oc6, od6, .func (PySem.W.fnOf "total_of" "total_of" (defArgs s_total_of) (defBody s_total_of) (defScope s_total_of) .none kV6 dc6 pm6 an6 cd6 ct6), sl6⟩)
    (c6 : PySem.W.codeIn K cd6 "total_of" = true)
    (k6 : PySem.W.keepIn K (.ref f6) = true)
    (a7 : PySem.W.nsIn K mainGlobals "on_grid" = some (some (.ref f7)))
    (l7 : K.lookup f7 = some ⟨oc7, od7, .func (PySem.W.fnOf "on_grid" "on_grid" (defArgs s_on_grid) (defBody s_on_grid) (defScope s_on_grid) .none kV7 dc7 pm7 an7 cd7 ct7), sl7⟩)
    (c7 : PySem.W.codeIn K cd7 "on_grid" = true)
    (k7 : PySem.W.keepIn K (.ref f7) = true)
    (a8 : PySem.W.nsIn K mainGlobals "whole_area" = some (some (.ref f8)))
    (l8 : K.lookup f8 = some ⟨oc8, od8, .func (PySem.W.fnOf "whole_area" "whole_area" (defArgs s_whole_area) (defBody s_whole_area) (defScope s_whole_area) .none kV8 dc8 pm8 an8 cd8 ct8), sl8⟩)
    (c8 : PySem.W.codeIn K cd8 "whole_area" = true)
    (k8 : PySem.W.keepIn K (.ref f8) = true)
    (a9 : PySem.W.nsIn K mainGlobals "doubled_area" = some (some (.ref f9)))
    (l9 : K.lookup f9 = some ⟨oc9, od9, .func (PySem.W.fnOf "doubled_area" "doubled_area" (defArgs s_doubled_area) (defBody s_doubled_area) (defScope s_doubled_area) .none kV9 dc9 pm9 an9 cd9 ct9), sl9⟩)
    (c9 : PySem.W.codeIn K cd9 "doubled_area" = true)
    (k9 : PySem.W.keepIn K (.ref f9) = true)
    (a10 : PySem.W.nsIn K mainGlobals "_corners" = some (some (.ref f10)))
    (l10 : K.lookup f10 = some ⟨oc10, od10, .func (PySem.W.fnOf "_corners" "_corners" (defArgs s__corners) (defBody s__corners) (defScope s__corners) .none kV10 dc10 pm10 an10 cd10 ct10), sl10⟩)
    (c10 : PySem.W.codeIn K cd10 "_corners" = true)
    (k10 : PySem.W.keepIn K (.ref f10) = true)
    (a11 : PySem.W.nsIn K mainGlobals "wedge" = some (some (.ref f11)))
    (l11 : K.lookup f11 = some ⟨oc11, od11, .func (PySem.W.fnOf "wedge" "wedge" (defArgs s_wedge) (defBody s_wedge) (defScope s_wedge) .none kV11 dc11 pm11 an11 cd11 ct11), sl11⟩)
    (c11 : PySem.W.codeIn K cd11 "wedge" = true)
    (k11 : PySem.W.keepIn K (.ref f11) = true)
    (a12 : PySem.W.nsIn K mainGlobals "slope" = some (some (.ref f12)))
    (l12 : K.lookup f12 = some ⟨oc12, od12, .func (PySem.W.fnOf "slope" "slope" (defArgs s_slope) (defBody s_slope) (defScope s_slope) .none kV12 dc12 pm12 an12 cd12 ct12), sl12⟩)
    (c12 : PySem.W.codeIn K cd12 "slope" = true)
    (k12 : PySem.W.keepIn K (.ref f12) = true)
    (a13 : PySem.W.nsIn K mainGlobals "linear_field" = some (some (.ref f13)))
    (l13 : K.lookup f13 = some ⟨oc13, od13, .func (PySem.W.fnOf "linear_field" "linear_field" (defArgs s_linear_field) (defBody s_linear_field) (defScope s_linear_field) .none kV13 dc13 pm13 an13 cd13 ct13), sl13⟩)
    (c13 : PySem.W.codeIn K cd13 "linear_field" = true)
    (k13 : PySem.W.keepIn K (.ref f13) = true)
    (a14 : PySem.W.nsIn K mainGlobals "triangle_energy" = some (some (.ref f14)))
    (l14 : K.lookup f14 = some ⟨oc14, od14, .func (PySem.W.fnOf "triangle_energy" "triangle_energy" (defArgs s_triangle_energy) (defBody s_triangle_energy) (defScope s_triangle_energy) .none kV14 dc14 pm14 an14 cd14 ct14), sl14⟩)
    (c14 : PySem.W.codeIn K cd14 "triangle_energy" = true)
    (k14 : PySem.W.keepIn K (.ref f14) = true)
    (a15 : PySem.W.nsIn K mainGlobals "_law_source" = some (some (.ref f15)))
    (l15 : K.lookup f15 = some ⟨oc15, od15, .func (PySem.W.fnOf "_law_source" "_law_source" (defArgs s__law_source) (defBody s__law_source) (defScope s__law_source) .none kV15 dc15 pm15 an15 cd15 ct15), sl15⟩)
    (c15 : PySem.W.codeIn K cd15 "_law_source" = true)
    (k15 : PySem.W.keepIn K (.ref f15) = true)
    (a16 : PySem.W.nsIn K mainGlobals "_law_any" = some (some (.ref f16)))
    (l16 : K.lookup f16 = some ⟨oc16, od16, .func (PySem.W.fnOf "_law_any" "_law_any" (defArgs s__law_any) (defBody s__law_any) (defScope s__law_any) .none kV16 dc16 pm16 an16 cd16 ct16), sl16⟩)
    (c16 : PySem.W.codeIn K cd16 "_law_any" = true)
    (k16 : PySem.W.keepIn K (.ref f16) = true)
    (a17 : PySem.W.nsIn K mainGlobals "_law_of" = some (some (.ref f17)))
    (l17 : K.lookup f17 = some ⟨oc17, od17, .func (PySem.W.fnOf "_law_of" "_law_of" (defArgs s__law_of) (defBody s__law_of) (defScope s__law_of) .none kV17 dc17 pm17 an17 cd17 ct17), sl17⟩)
    (c17 : PySem.W.codeIn K cd17 "_law_of" = true)
    (k17 : PySem.W.keepIn K (.ref f17) = true)
    (a18 : PySem.W.nsIn K mainGlobals "_law_common" = some (some (.ref f18)))
    (l18 : K.lookup f18 = some ⟨oc18, od18, .func (PySem.W.fnOf "_law_common" "_law_common" (defArgs s__law_common) (defBody s__law_common) (defScope s__law_common) .none kV18 dc18 pm18 an18 cd18 ct18), sl18⟩)
    (c18 : PySem.W.codeIn K cd18 "_law_common" = true)
    (k18 : PySem.W.keepIn K (.ref f18) = true)
    (a19 : PySem.W.nsIn K mainGlobals "_law_low" = some (some (.ref f19)))
    (l19 : K.lookup f19 = some ⟨oc19, od19, .func (PySem.W.fnOf "_law_low" "_law_low" (defArgs s__law_low) (defBody s__law_low) (defScope s__law_low) .none kV19 dc19 pm19 an19 cd19 ct19), sl19⟩)
    (c19 : PySem.W.codeIn K cd19 "_law_low" = true)
    (k19 : PySem.W.keepIn K (.ref f19) = true)
    (a20 : PySem.W.nsIn K mainGlobals "_law_same" = some (some (.ref f20)))
    (l20 : K.lookup f20 = some ⟨oc20, od20, .func (PySem.W.fnOf "_law_same" "_law_same" (defArgs s__law_same) (defBody s__law_same) (defScope s__law_same) .none kV20 dc20 pm20 an20 cd20 ct20), sl20⟩)
    (c20 : PySem.W.codeIn K cd20 "_law_same" = true)
    (k20 : PySem.W.keepIn K (.ref f20) = true)
    (a21 : PySem.W.nsIn K mainGlobals "_law_cross" = some (some (.ref f21)))
    (l21 : K.lookup f21 = some ⟨oc21, od21, .func (PySem.W.fnOf "_law_cross" "_law_cross" (defArgs s__law_cross) (defBody s__law_cross) (defScope s__law_cross) .none kV21 dc21 pm21 an21 cd21 ct21), sl21⟩)
    (c21 : PySem.W.codeIn K cd21 "_law_cross" = true)
    (k21 : PySem.W.keepIn K (.ref f21) = true)
    (a22 : PySem.W.nsIn K mainGlobals "_law_split" = some (some (.ref f22)))
    (l22 : K.lookup f22 = some ⟨oc22, od22, .func (PySem.W.fnOf "_law_split" "_law_split" (defArgs s__law_split) (defBody s__law_split) (defScope s__law_split) .none kV22 dc22 pm22 an22 cd22 ct22), sl22⟩)
    (c22 : PySem.W.codeIn K cd22 "_law_split" = true)
    (k22 : PySem.W.keepIn K (.ref f22) = true)
    (a23 : PySem.W.nsIn K mainGlobals "_law_grid" = some (some (.ref f23)))
    (l23 : K.lookup f23 = some ⟨oc23, od23, .func (PySem.W.fnOf "_law_grid" "_law_grid" (defArgs s__law_grid) (defBody s__law_grid) (defScope s__law_grid) .none kV23 dc23 pm23 an23 cd23 ct23), sl23⟩)
    (c23 : PySem.W.codeIn K cd23 "_law_grid" = true)
    (k23 : PySem.W.keepIn K (.ref f23) = true)
    (a24 : PySem.W.nsIn K mainGlobals "_law_third" = some (some (.ref f24)))
    (l24 : K.lookup f24 = some ⟨oc24, od24, .func (PySem.W.fnOf "_law_third" "_law_third" (defArgs s__law_third) (defBody s__law_third) (defScope s__law_third) .none kV24 dc24 pm24 an24 cd24 ct24), sl24⟩)
    (c24 : PySem.W.codeIn K cd24 "_law_third" = true)
    (k24 : PySem.W.keepIn K (.ref f24) = true)
    (a25 : PySem.W.nsIn K mainGlobals "_law_other" = some (some (.ref f25)))
    (l25 : K.lookup f25 = some ⟨oc25, od25, .func (PySem.W.fnOf "_law_other" "_law_other" (defArgs s__law_other) (defBody s__law_other) (defScope s__law_other) .none kV25 dc25 pm25 an25 cd25 ct25), sl25⟩)
    (c25 : PySem.W.codeIn K cd25 "_law_other" = true)
    (k25 : PySem.W.keepIn K (.ref f25) = true)
    (a26 : PySem.W.nsIn K mainGlobals "_law_moved" = some (some (.ref f26)))
    (l26 : K.lookup f26 = some ⟨oc26, od26, .func (PySem.W.fnOf "_law_moved" "_law_moved" (defArgs s__law_moved) (defBody s__law_moved) (defScope s__law_moved) .none kV26 dc26 pm26 an26 cd26 ct26), sl26⟩)
    (c26 : PySem.W.codeIn K cd26 "_law_moved" = true)
    (k26 : PySem.W.keepIn K (.ref f26) = true)
    (a27 : PySem.W.nsIn K mainGlobals "_law_fan" = some (some (.ref f27)))
    (l27 : K.lookup f27 = some ⟨oc27, od27, .func (PySem.W.fnOf "_law_fan" "_law_fan" (defArgs s__law_fan) (defBody s__law_fan) (defScope s__law_fan) .none kV27 dc27 pm27 an27 cd27 ct27), sl27⟩)
    (c27 : PySem.W.codeIn K cd27 "_law_fan" = true)
    (k27 : PySem.W.keepIn K (.ref f27) = true)
    (a28 : PySem.W.nsIn K mainGlobals "_law_parted" = some (some (.ref f28)))
    (l28 : K.lookup f28 = some ⟨oc28, od28, .func (PySem.W.fnOf "_law_parted" "_law_parted" (defArgs s__law_parted) (defBody s__law_parted) (defScope s__law_parted) .none kV28 dc28 pm28 an28 cd28 ct28), sl28⟩)
    (c28 : PySem.W.codeIn K cd28 "_law_parted" = true)
    (k28 : PySem.W.keepIn K (.ref f28) = true)
    (a29 : PySem.W.nsIn K mainGlobals "_law_mesh" = some (some (.ref f29)))
    (l29 : K.lookup f29 = some ⟨oc29, od29, .func (PySem.W.fnOf "_law_mesh" "_law_mesh" (defArgs s__law_mesh) (defBody s__law_mesh) (defScope s__law_mesh) .none kV29 dc29 pm29 an29 cd29 ct29), sl29⟩)
    (c29 : PySem.W.codeIn K cd29 "_law_mesh" = true)
    (k29 : PySem.W.keepIn K (.ref f29) = true)
    (a30 : PySem.W.nsIn K mainGlobals "_law_flipped" = some (some (.ref f30)))
    (l30 : K.lookup f30 = some ⟨oc30, od30, .func (PySem.W.fnOf "_law_flipped" "_law_flipped" (defArgs s__law_flipped) (defBody s__law_flipped) (defScope s__law_flipped) .none kV30 dc30 pm30 an30 cd30 ct30), sl30⟩)
    (c30 : PySem.W.codeIn K cd30 "_law_flipped" = true)
    (k30 : PySem.W.keepIn K (.ref f30) = true)
    (a31 : PySem.W.nsIn K mainGlobals "_law_made" = some (some (.ref f31)))
    (l31 : K.lookup f31 = some ⟨oc31, od31, .func (PySem.W.fnOf "_law_made" "_law_made" (defArgs s__law_made) (defBody s__law_made) (defScope s__law_made) .none kV31 dc31 pm31 an31 cd31 ct31), sl31⟩)
    (c31 : PySem.W.codeIn K cd31 "_law_made" = true)
    (k31 : PySem.W.keepIn K (.ref f31) = true)
    (a32 : PySem.W.nsIn K mainGlobals "_law_plus" = some (some (.ref f32)))
    (l32 : K.lookup f32 = some ⟨oc32, od32, .func (PySem.W.fnOf "_law_plus" "_law_plus" (defArgs s__law_plus) (defBody s__law_plus) (defScope s__law_plus) .none kV32 dc32 pm32 an32 cd32 ct32), sl32⟩)
    (c32 : PySem.W.codeIn K cd32 "_law_plus" = true)
    (k32 : PySem.W.keepIn K (.ref f32) = true)
    (a33 : PySem.W.nsIn K mainGlobals "_law_worths" = some (some (.ref f33)))
    (l33 : K.lookup f33 = some ⟨oc33, od33, .func (PySem.W.fnOf "_law_worths" "_law_worths" (defArgs s__law_worths) (defBody s__law_worths) (defScope s__law_worths) .none kV33 dc33 pm33 an33 cd33 ct33), sl33⟩)
    (c33 : PySem.W.codeIn K cd33 "_law_worths" = true)
    (k33 : PySem.W.keepIn K (.ref f33) = true)
    (a34 : PySem.W.nsIn K mainGlobals "_law_energy" = some (some (.ref f34)))
    (l34 : K.lookup f34 = some ⟨oc34, od34, .func (PySem.W.fnOf "_law_energy" "_law_energy" (defArgs s__law_energy) (defBody s__law_energy) (defScope s__law_energy) .none kV34 dc34 pm34 an34 cd34 ct34), sl34⟩)
    (c34 : PySem.W.codeIn K cd34 "_law_energy" = true)
    (k34 : PySem.W.keepIn K (.ref f34) = true)
    (a35 : PySem.W.nsIn K mainGlobals "_law_times" = some (some (.ref f35)))
    (l35 : K.lookup f35 = some ⟨oc35, od35, .func (PySem.W.fnOf "_law_times" "_law_times" (defArgs s__law_times) (defBody s__law_times) (defScope s__law_times) .none kV35 dc35 pm35 an35 cd35 ct35), sl35⟩)
    (c35 : PySem.W.codeIn K cd35 "_law_times" = true)
    (k35 : PySem.W.keepIn K (.ref f35) = true)
    (a36 : PySem.W.nsIn K mainGlobals "_law_less" = some (some (.ref f36)))
    (l36 : K.lookup f36 = some ⟨oc36, od36, .func (PySem.W.fnOf "_law_less" "_law_less" (defArgs s__law_less) (defBody s__law_less) (defScope s__law_less) .none kV36 dc36 pm36 an36 cd36 ct36), sl36⟩)
    (c36 : PySem.W.codeIn K cd36 "_law_less" = true)
    (k36 : PySem.W.keepIn K (.ref f36) = true)
    (a37 : PySem.W.nsIn K mainGlobals "_law_is_fraction" = some (some (.ref f37)))
    (l37 : K.lookup f37 = some ⟨oc37, od37, .func (PySem.W.fnOf "_law_is_fraction" "_law_is_fraction" (defArgs s__law_is_fraction) (defBody s__law_is_fraction) (defScope s__law_is_fraction) .none kV37 dc37 pm37 an37 cd37 ct37), sl37⟩)
    (c37 : PySem.W.codeIn K cd37 "_law_is_fraction" = true)
    (k37 : PySem.W.keepIn K (.ref f37) = true)
    (a38 : PySem.W.nsIn K mainGlobals "_law_slope_right" = some (some (.ref f38)))
    (l38 : K.lookup f38 = some ⟨oc38, od38, .func (PySem.W.fnOf "_law_slope_right" "_law_slope_right" (defArgs s__law_slope_right) (defBody s__law_slope_right) (defScope s__law_slope_right) .none kV38 dc38 pm38 an38 cd38 ct38), sl38⟩)
    (c38 : PySem.W.codeIn K cd38 "_law_slope_right" = true)
    (k38 : PySem.W.keepIn K (.ref f38) = true)
    (a39 : PySem.W.nsIn K mainGlobals "law" = some (some (.ref f39)))
    (l39 : K.lookup f39 = some ⟨oc39, od39, .func (PySem.W.fnOf "law" "law" (defArgs s_law) (defBody s_law) (defScope s_law) .none kV39 dc39 pm39 an39 cd39 ct39), sl39⟩)
    (c39 : PySem.W.codeIn K cd39 "law" = true)
    (k39 : PySem.W.keepIn K (.ref f39) = true)
    (z_abs : PySem.W.nsIn K mainGlobals "abs" = some none)
    (z_bool : PySem.W.nsIn K mainGlobals "bool" = some none)
    (m_gcd : PySem.W.nsIn K mainGlobals "gcd" = some (some (.builtin "math.gcd")))
    (z_int : PySem.W.nsIn K mainGlobals "int" = some none)
    (z_isinstance : PySem.W.nsIn K mainGlobals "isinstance" = some none)
    (m_lcm : PySem.W.nsIn K mainGlobals "lcm" = some (some (.builtin "math.lcm")))
    (z_len : PySem.W.nsIn K mainGlobals "len" = some none)
    (z_list : PySem.W.nsIn K mainGlobals "list" = some none)
    (z_min : PySem.W.nsIn K mainGlobals "min" = some none)
    (z_range : PySem.W.nsIn K mainGlobals "range" = some none)
    (z_repr : PySem.W.nsIn K mainGlobals "repr" = some none)
    (z_sorted : PySem.W.nsIn K mainGlobals "sorted" = some none)
    (z_tuple : PySem.W.nsIn K mainGlobals "tuple" = some none)
    (z_zip : PySem.W.nsIn K mainGlobals "zip" = some none)
    (g_InvalidSize : PySem.W.nsIn K mainGlobals "InvalidSize" = some (some (.ref C_InvalidSize)))
    (xl_InvalidSize : K.lookup C_InvalidSize = some (excClassObj nm_InvalidSize qn_InvalidSize C_InvalidSize N_InvalidSize bs_InvalidSize bm_InvalidSize true sn_InvalidSize sub_InvalidSize ab_InvalidSize co_InvalidSize dd_InvalidSize m0_InvalidSize m1_InvalidSize m2_InvalidSize m3_InvalidSize m5_InvalidSize "Exception.__new__"))
    (xr_InvalidSize : Refs bm_InvalidSize)
    (xk_InvalidSize : PySem.W.keepIn K (.ref C_InvalidSize) = true)
    (xe_InvalidSize : PySem.W.subIn K (.ref C_InvalidSize) (.type "BaseException") = some true)
    (xt_InvalidSize : PySem.W.typeIn K (.ref C_InvalidSize) = some (.type "type"))
    (xh_InvalidSize : PySem.W.hasDictIn K C_InvalidSize = true)
    (xs_InvalidSize : PySem.W.findIn K (.ref C_InvalidSize) "__setattr__" = some (some (.builtin "object.__setattr__")))
    (xn_InvalidSize : PySem.W.findIn K (.ref C_InvalidSize) "word" = some none)
    (xi_InvalidSize : PySem.W.findIn K (.ref C_InvalidSize) "__init__" = some (some (.ref I_InvalidSize)))
    (xu_InvalidSize : PySem.W.typeIn K (.ref I_InvalidSize) = some (.type "function"))
    (xf_InvalidSize : K.lookup I_InvalidSize = some ⟨oc_InvalidSize, od_InvalidSize, .func (PySem.W.fnOf "__init__" "InvalidSize.__init__" (XI.iA "word" ⟨7, 17, 7, 21⟩ ⟨7, 23, 7, 27⟩) (XI.iB "word" ⟨8, 8, 8, 12⟩ ⟨8, 8, 8, 17⟩ ⟨8, 20, 8, 24⟩ ⟨8, 8, 8, 24⟩) (XI.iS "word") .none .none dc_InvalidSize pm_InvalidSize an_InvalidSize cd_InvalidSize ct_InvalidSize), sl_InvalidSize⟩)
    (xc_InvalidSize : PySem.W.codeIn K cd_InvalidSize "InvalidSize.__init__" = true)
    (g_Mesh : PySem.W.nsIn K mainGlobals "Mesh" = some (some (.ref C_Mesh)))
    (on_Mesh : nmIn K C_Mesh = some "Mesh")
    (ou_Mesh : onlyNm K "Mesh" C_Mesh = true)
    (op_Mesh : PySem.W.plainGet K C_Mesh Str.empty = true)
    (oh_Mesh : PySem.W.hasDictIn K C_Mesh = true)
    (ov_Mesh : PySem.W.plainOver K C_Mesh = true)
    (os_Mesh : PySem.W.findIn K (.ref C_Mesh) "__setattr__" = some (some (.builtin "object.__setattr__")))
    (of_Mesh_points : PySem.W.findIn K (.ref C_Mesh) "points" = some none)
    (of_Mesh_triangles : PySem.W.findIn K (.ref C_Mesh) "triangles" = some none)
    (jm_Mesh : PySem.W.makesIn K C_Mesh = true)
    (ji_Mesh : PySem.W.findIn K (.ref C_Mesh) "__init__" = some (some (.ref J_Mesh)))
    (jf_Mesh : PySem.W.isFn K (.ref J_Mesh) = true)
    (jk_Mesh : PySem.W.keepIn K (.ref C_Mesh) = true)
    (jl_Mesh : K.lookup J_Mesh = some ⟨joc_Mesh, jd_Mesh, .func (PySem.W.fnOf "__init__" "Mesh.__init__" (defArgs si_Mesh) (defBody si_Mesh) (defScope si_Mesh) .none jkV_Mesh jdc_Mesh jpm_Mesh jan_Mesh jcd_Mesh jct_Mesh), jsl_Mesh⟩)
    (jc_Mesh : PySem.W.codeIn K jcd_Mesh "Mesh.__init__" = true)
    (jq_Mesh : PySem.W.keepIn K (.ref J_Mesh) = true)
    (wf_Mesh : PySem.W.findIn K (.ref C_Mesh) "__eq__" = some (some (.ref E_Mesh)))
    (wi_Mesh : PySem.W.isFn K (.ref E_Mesh) = true)
    (wl_Mesh : K.lookup E_Mesh = some ⟨eoc_Mesh, ed_Mesh, .func (PySem.W.fnOf "__eq__" "Mesh.__eq__" (defArgs se_Mesh) (defBody se_Mesh) (defScope se_Mesh) .none ekV_Mesh edc_Mesh epm_Mesh ean_Mesh ecd_Mesh ect_Mesh), esl_Mesh⟩)
    (wc_Mesh : PySem.W.codeIn K ecd_Mesh "Mesh.__eq__" = true)
    (wq_Mesh : PySem.W.keepIn K (.ref E_Mesh) = true)
    (va_Mesh : PySem.W.findIn K (.ref C_Mesh) "__class__" = some (some (.builtin "object.__class__")))
    (vm_Mesh : PySem.W.mroIn K C_Mesh (.type "object") = some true)
    (vo_Mesh : PySem.W.kitOne K (.ref C_Mesh) (.ref C_Mesh) = some true)
    (oc_get : PySem.W.specialIn K (.builtin "object.__class__") "__get__" = some (some (.builtin "getset_descriptor.__get__")))
    (oc_tak : PySem.W.takesIn K (.builtin "object.__class__") = some true)
    (q_ZERO : PySem.W.nsIn K mainGlobals "ZERO" = some (some (.ref Q_ZERO)))
    (ql_ZERO : K.lookup Q_ZERO = some ⟨.type "tuple", qd_ZERO, .seq #[.int 0 qt0_ZERO, .int 1 qt1_ZERO] qn_c_ZERO, qs_ZERO⟩) :
    ∃ fd : FuncData, (∀ (s : Shared) (v : Value), BindsTo s fd ⟨[v], []⟩ [("_law_script", v)]) ∧ ∀ base : Heap, K.In base → base.Ns mainGlobals mg → FnG l.prog w K mg base 6 fa fd ["_law_script"] M_law := by
  have e := hfa.symm.trans (PySem.W.mg_of X G a39)
  cases e
  have F0 := fun_mk (st := s_fraction) l0 c0 k0
  have F1 := fun_mk (st := s_plus) l1 c1 k1
  have F2 := fun_mk (st := s_minus) l2 c2 k2
  have F3 := fun_mk (st := s_times) l3 c3 k3
  have F4 := fun_mk (st := s_over) l4 c4 k4
  have F5 := fun_mk (st := s_negative) l5 c5 k5
  have F6 := fun_mk (st := s_total_of) l6 c6 k6
  have F7 := fun_mk (st := s_on_grid) l7 c7 k7
  have F8 := fun_mk (st := s_whole_area) l8 c8 k8
  have F9 := fun_mk (st := s_doubled_area) l9 c9 k9
  have F10 := fun_mk (st := s__corners) l10 c10 k10
  have F11 := fun_mk (st := s_wedge) l11 c11 k11
  have F12 := fun_mk (st := s_slope) l12 c12 k12
  have F13 := fun_mk (st := s_linear_field) l13 c13 k13
  have F14 := fun_mk (st := s_triangle_energy) l14 c14 k14
  have F15 := fun_mk (st := s__law_source) l15 c15 k15
  have F16 := fun_mk (st := s__law_any) l16 c16 k16
  have F17 := fun_mk (st := s__law_of) l17 c17 k17
  have F18 := fun_mk (st := s__law_common) l18 c18 k18
  have F19 := fun_mk (st := s__law_low) l19 c19 k19
  have F20 := fun_mk (st := s__law_same) l20 c20 k20
  have F21 := fun_mk (st := s__law_cross) l21 c21 k21
  have F22 := fun_mk (st := s__law_split) l22 c22 k22
  have F23 := fun_mk (st := s__law_grid) l23 c23 k23
  have F24 := fun_mk (st := s__law_third) l24 c24 k24
  have F25 := fun_mk (st := s__law_other) l25 c25 k25
  have F26 := fun_mk (st := s__law_moved) l26 c26 k26
  have F27 := fun_mk (st := s__law_fan) l27 c27 k27
  have F28 := fun_mk (st := s__law_parted) l28 c28 k28
  have F29 := fun_mk (st := s__law_mesh) l29 c29 k29
  have F30 := fun_mk (st := s__law_flipped) l30 c30 k30
  have F31 := fun_mk (st := s__law_made) l31 c31 k31
  have F32 := fun_mk (st := s__law_plus) l32 c32 k32
  have F33 := fun_mk (st := s__law_worths) l33 c33 k33
  have F34 := fun_mk (st := s__law_energy) l34 c34 k34
  have F35 := fun_mk (st := s__law_times) l35 c35 k35
  have F36 := fun_mk (st := s__law_less) l36 c36 k36
  have F37 := fun_mk (st := s__law_is_fraction) l37 c37 k37
  have F38 := fun_mk (st := s__law_slope_right) l38 c38 k38
  have F39 := fun_mk (st := s_law) l39 c39 k39
  have FJ_Mesh := fun_mk (st := si_Mesh) jl_Mesh jc_Mesh jq_Mesh
  have FE_Mesh := fun_mk (st := se_Mesh) wl_Mesh wc_Mesh wq_Mesh
  have X_InvalidSize : XCls K mg "InvalidSize" C_InvalidSize := ⟨PySem.W.mg_of X G g_InvalidSize, ⟨nm_InvalidSize, qn_InvalidSize, N_InvalidSize, bs_InvalidSize, _, sn_InvalidSize, sub_InvalidSize, ab_InvalidSize, co_InvalidSize, dd_InvalidSize, m0_InvalidSize, m1_InvalidSize, m2_InvalidSize, m3_InvalidSize, m5_InvalidSize, xl_InvalidSize, xr_InvalidSize⟩, xk_InvalidSize, xe_InvalidSize, xt_InvalidSize, xh_InvalidSize⟩
  have T : Txt K mg { a_fraction := f0, fd_fraction := _, a_plus := f1, fd_plus := _, a_minus := f2, fd_minus := _, a_times := f3, fd_times := _, a_over := f4, fd_over := _, a_negative := f5, fd_negative := _, a_total_of := f6, fd_total_of := _, a_on_grid := f7, fd_on_grid := _, a_whole_area := f8, fd_whole_area := _, a_doubled_area := f9, fd_doubled_area := _, a__corners := f10, fd__corners := _, a_wedge := f11, fd_wedge := _, a_slope := f12, fd_slope := _, a_linear_field := f13, fd_linear_field := _, a_triangle_energy := f14, fd_triangle_energy := _, a__law_source := f15, fd__law_source := _, a__law_any := f16, fd__law_any := _, a__law_of := f17, fd__law_of := _, a__law_common := f18, fd__law_common := _, a__law_low := f19, fd__law_low := _, a__law_same := f20, fd__law_same := _, a__law_cross := f21, fd__law_cross := _, a__law_split := f22, fd__law_split := _, a__law_grid := f23, fd__law_grid := _, a__law_third := f24, fd__law_third := _, a__law_other := f25, fd__law_other := _, a__law_moved := f26, fd__law_moved := _, a__law_fan := f27, fd__law_fan := _, a__law_parted := f28, fd__law_parted := _, a__law_mesh := f29, fd__law_mesh := _, a__law_flipped := f30, fd__law_flipped := _, a__law_made := f31, fd__law_made := _, a__law_plus := f32, fd__law_plus := _, a__law_worths := f33, fd__law_worths := _, a__law_energy := f34, fd__law_energy := _, a__law_times := f35, fd__law_times := _, a__law_less := f36, fd__law_less := _, a__law_is_fraction := f37, fd__law_is_fraction := _, a__law_slope_right := f38, fd__law_slope_right := _, a_law := fa, fd_law := _, c_InvalidSize := C_InvalidSize, i_InvalidSize := I_InvalidSize, c_Mesh := C_Mesh, j_Mesh := J_Mesh, fj_Mesh := _, e_Mesh := E_Mesh, fe_Mesh := _, k_ZERO := Q_ZERO } := {
    d_fraction := ⟨F0, PySem.W.mg_of X G a0, k0⟩
    b_fraction := F0.binds fun _ _ _ _ _ _  us hl => match us, hl with | [_, _], _ => rfl
    d_plus := ⟨F1, PySem.W.mg_of X G a1, k1⟩
    b_plus := F1.binds fun _ _ _ _ _ _  us hl => match us, hl with | [_, _], _ => rfl
    d_minus := ⟨F2, PySem.W.mg_of X G a2, k2⟩
    b_minus := F2.binds fun _ _ _ _ _ _  us hl => match us, hl with | [_, _], _ => rfl
    d_times := ⟨F3, PySem.W.mg_of X G a3, k3⟩
    b_times := F3.binds fun _ _ _ _ _ _  us hl => match us, hl with | [_, _], _ => rfl
    d_over := ⟨F4, PySem.W.mg_of X G a4, k4⟩
    b_over := F4.binds fun _ _ _ _ _ _  us hl => match us, hl with | [_, _], _ => rfl
    d_negative := ⟨F5, PySem.W.mg_of X G a5, k5⟩
    b_negative := F5.binds fun _ _ _ _ _ _  us hl => match us, hl with | [_], _ => rfl
    d_total_of := ⟨F6, PySem.W.mg_of X G a6, k6⟩
    b_total_of := F6.binds fun _ _ _ _ _ _  us hl => match us, hl with | [_], _ => rfl
    d_on_grid := ⟨F7, PySem.W.mg_of X G a7, k7⟩
    b_on_grid := F7.binds fun _ _ _ _ _ _  us hl => match us, hl with | [_], _ => rfl
    d_whole_area := ⟨F8, PySem.W.mg_of X G a8, k8⟩
    b_whole_area := F8.binds fun _ _ _ _ _ _  us hl => match us, hl with | [_, _, _], _ => rfl
    d_doubled_area := ⟨F9, PySem.W.mg_of X G a9, k9⟩
    b_doubled_area := F9.binds fun _ _ _ _ _ _  us hl => match us, hl with | [_, _, _], _ => rfl
    d__corners := ⟨F10, PySem.W.mg_of X G a10, k10⟩
    b__corners := F10.binds fun _ _ _ _ _ _  us hl => match us, hl with | [_, _], _ => rfl
    d_wedge := ⟨F11, PySem.W.mg_of X G a11, k11⟩
    b_wedge := F11.binds fun _ _ _ _ _ _  us hl => match us, hl with | [_, _], _ => rfl
    d_slope := ⟨F12, PySem.W.mg_of X G a12, k12⟩
    b_slope := F12.binds fun _ _ _ _ _ _  us hl => match us, hl with | [_, _, _], _ => rfl
    k_slope_field_number_mesh := fun s us _ hl => match us, hl with | [_, _, _], _ => .of_eq rfl
    d_linear_field := ⟨F13, PySem.W.mg_of X G a13, k13⟩
    b_linear_field := F13.binds fun _ _ _ _ _ _  us hl => match us, hl with | [_, _, _, _], _ => rfl
    k_linear_field_up_right_start_mesh := fun s us _ hl => match us, hl with | [_, _, _, _], _ => .of_eq rfl
    d_triangle_energy := ⟨F14, PySem.W.mg_of X G a14, k14⟩
    b_triangle_energy := F14.binds fun _ _ _ _ _ _  us hl => match us, hl with | [_, _, _], _ => rfl
    k_triangle_energy_field_number_mesh := fun s us _ hl => match us, hl with | [_, _, _], _ => .of_eq rfl
    d__law_source := ⟨F15, PySem.W.mg_of X G a15, k15⟩
    b__law_source := F15.binds fun _ _ _ _ _ _  us hl => match us, hl with | [_], _ => rfl
    d__law_any := ⟨F16, PySem.W.mg_of X G a16, k16⟩
    b__law_any := F16.binds fun _ _ _ _ _ _  us hl => match us, hl with | [_, _], _ => rfl
    d__law_of := ⟨F17, PySem.W.mg_of X G a17, k17⟩
    b__law_of := F17.binds fun _ _ _ _ _ _  us hl => match us, hl with | [_, _], _ => rfl
    d__law_common := ⟨F18, PySem.W.mg_of X G a18, k18⟩
    b__law_common := F18.binds fun _ _ _ _ _ _  us hl => match us, hl with | [_, _], _ => rfl
    d__law_low := ⟨F19, PySem.W.mg_of X G a19, k19⟩
    b__law_low := F19.binds fun _ _ _ _ _ _  us hl => match us, hl with | [_, _], _ => rfl
    d__law_same := ⟨F20, PySem.W.mg_of X G a20, k20⟩
    b__law_same := F20.binds fun _ _ _ _ _ _  us hl => match us, hl with | [_, _], _ => rfl
    d__law_cross := ⟨F21, PySem.W.mg_of X G a21, k21⟩
    b__law_cross := F21.binds fun _ _ _ _ _ _  us hl => match us, hl with | [_, _, _], _ => rfl
    d__law_split := ⟨F22, PySem.W.mg_of X G a22, k22⟩
    b__law_split := F22.binds fun _ _ _ _ _ _  us hl => match us, hl with | [_, _, _], _ => rfl
    d__law_grid := ⟨F23, PySem.W.mg_of X G a23, k23⟩
    b__law_grid := F23.binds fun _ _ _ _ _ _  us hl => match us, hl with | [_, _, _, _], _ => rfl
    d__law_third := ⟨F24, PySem.W.mg_of X G a24, k24⟩
    b__law_third := F24.binds fun _ _ _ _ _ _  us hl => match us, hl with | [_, _, _], _ => rfl
    d__law_other := ⟨F25, PySem.W.mg_of X G a25, k25⟩
    b__law_other := F25.binds fun _ _ _ _ _ _  us hl => match us, hl with | [_, _, _, _], _ => rfl
    d__law_moved := ⟨F26, PySem.W.mg_of X G a26, k26⟩
    b__law_moved := F26.binds fun _ _ _ _ _ _  us hl => match us, hl with | [_, _, _, _, _], _ => rfl
    d__law_fan := ⟨F27, PySem.W.mg_of X G a27, k27⟩
    b__law_fan := F27.binds fun _ _ _ _ _ _  us hl => match us, hl with | [_, _], _ => rfl
    d__law_parted := ⟨F28, PySem.W.mg_of X G a28, k28⟩
    b__law_parted := F28.binds fun _ _ _ _ _ _  us hl => match us, hl with | [_, _], _ => rfl
    d__law_mesh := ⟨F29, PySem.W.mg_of X G a29, k29⟩
    b__law_mesh := F29.binds fun _ _ _ _ _ _  us hl => match us, hl with | [_], _ => rfl
    d__law_flipped := ⟨F30, PySem.W.mg_of X G a30, k30⟩
    b__law_flipped := F30.binds fun _ _ _ _ _ _  us hl => match us, hl with | [_, _, _], _ => rfl
    d__law_made := ⟨F31, PySem.W.mg_of X G a31, k31⟩
    b__law_made := F31.binds fun _ _ _ _ _ _  us hl => match us, hl with | [_, _, _], _ => rfl
    d__law_plus := ⟨F32, PySem.W.mg_of X G a32, k32⟩
    b__law_plus := F32.binds fun _ _ _ _ _ _  us hl => match us, hl with | [_, _], _ => rfl
    d__law_worths := ⟨F33, PySem.W.mg_of X G a33, k33⟩
    b__law_worths := F33.binds fun _ _ _ _ _ _  us hl => match us, hl with | [_, _], _ => rfl
    d__law_energy := ⟨F34, PySem.W.mg_of X G a34, k34⟩
    b__law_energy := F34.binds fun _ _ _ _ _ _  us hl => match us, hl with | [_, _, _, _], _ => rfl
    d__law_times := ⟨F35, PySem.W.mg_of X G a35, k35⟩
    b__law_times := F35.binds fun _ _ _ _ _ _  us hl => match us, hl with | [_, _], _ => rfl
    d__law_less := ⟨F36, PySem.W.mg_of X G a36, k36⟩
    b__law_less := F36.binds fun _ _ _ _ _ _  us hl => match us, hl with | [_, _], _ => rfl
    d__law_is_fraction := ⟨F37, PySem.W.mg_of X G a37, k37⟩
    b__law_is_fraction := F37.binds fun _ _ _ _ _ _  us hl => match us, hl with | [_], _ => rfl
    d__law_slope_right := ⟨F38, PySem.W.mg_of X G a38, k38⟩
    b__law_slope_right := F38.binds fun _ _ _ _ _ _  us hl => match us, hl with | [_, _, _, _], _ => rfl
    d_law := ⟨F39, PySem.W.mg_of X G a39, k39⟩
    b_law := F39.binds fun _ _ _ _ _ _  us hl => match us, hl with | [_], _ => rfl
    n_abs := PySem.W.mg_none_of X G z_abs
    n_bool := PySem.W.mg_none_of X G z_bool
    m_gcd := PySem.W.mg_of X G m_gcd
    n_int := PySem.W.mg_none_of X G z_int
    n_isinstance := PySem.W.mg_none_of X G z_isinstance
    m_lcm := PySem.W.mg_of X G m_lcm
    n_len := PySem.W.mg_none_of X G z_len
    n_list := PySem.W.mg_none_of X G z_list
    n_min := PySem.W.mg_none_of X G z_min
    n_range := PySem.W.mg_none_of X G z_range
    n_repr := PySem.W.mg_none_of X G z_repr
    n_sorted := PySem.W.mg_none_of X G z_sorted
    n_tuple := PySem.W.mg_none_of X G z_tuple
    n_zip := PySem.W.mg_none_of X G z_zip
    g_InvalidSize := PySem.W.mg_of X G g_InvalidSize
    g_Mesh := PySem.W.mg_of X G g_Mesh
    o_Mesh := ⟨on_Mesh, onlyNm_eq ou_Mesh, ⟨op_Mesh, oh_Mesh, ov_Mesh, os_Mesh⟩, fun f hf => by
      simp only [List.mem_cons, List.not_mem_nil, or_false] at hf
      rcases hf with rfl | rfl
      · exact of_Mesh_points
      · exact of_Mesh_triangles⟩
    mk_Mesh := ⟨jm_Mesh, ji_Mesh, jf_Mesh, jk_Mesh⟩
    fi_Mesh := FJ_Mesh
    bi_Mesh := FJ_Mesh.binds fun _ _ _ _ _ _  us hl => match us, hl with | [_, _, _], _ => rfl
    ec_Mesh := ⟨wf_Mesh, wi_Mesh⟩
    fe_Mesh := FE_Mesh
    be_Mesh := FE_Mesh.binds fun _ _ _ _ _ _  us hl => match us, hl with | [_, _], _ => rfl
    ic_Mesh := ⟨va_Mesh, oc_get, oc_tak, vm_Mesh, vo_Mesh⟩
    x_InvalidSize := XOwn.mk' X_InvalidSize xs_InvalidSize xn_InvalidSize xi_InvalidSize xu_InvalidSize ⟨_, _, _, _, _, _, _, _, _, _, _, _, _, _, xf_InvalidSize, xc_InvalidSize⟩ xbind_word (by decide) (by decide)
    m_ZERO := PySem.W.mg_of X G q_ZERO
    c_ZERO := fun as H => .tup (xs := [.int 0, .int 1]) (.inr ⟨_, _, _, ql_ZERO, rfl, rfl, Nat.le_of_ble_eq_true rfl, (.cons ⟨_, rfl⟩ (.cons ⟨_, rfl⟩ .nil))⟩) (.cons (.int _) (.cons (.int _) .nil)) }
  exact ⟨PySem.W.fnOf "law" "law" (defArgs s_law) (defBody s_law) (defScope s_law) .none kV39 dc39 pm39 an39 cd39 ct39, fun s v => .of_eq rfl, fun base _ _ => g_law T⟩
end LW
open PySem PySem.W PyProof.Rows
set_option maxRecDepth 100000 in
set_option maxHeartbeats 0 in
theorem PySem.Challenge.cw_leastfield_k41_slopes_on_triangles_holds : PySem.Challenge.rw_leastfield_k41_slopes_on_triangles.Holds := by
  w_on; o_law; k_head; (case hw => w_witness2)
  k_fill
  refine V2.walkG (l := PySem.Challenge.rw_leastfield_k41_slopes_on_triangles) (k := 6) (n := 63) (x := "_law_script") (F := LW.M_law) rfl (by decide) rfl ⟨rfl, by decide, by decide⟩ (fun w h Y => PySem.W.kIn_of Y) ?F (fun ns hl hb => LW.says ns hl hb)
  case F =>
    intro w mg fa h KX G hmg
    refine' LW.all_mk KX G hmg ?a0 ?l0 ?c0 ?k0 ?a1 ?l1 ?c1 ?k1 ?a2 ?l2 ?c2 ?k2 ?a3 ?l3 ?c3 ?k3 ?a4 ?l4 ?c4 ?k4 ?a5 ?l5 ?c5 ?k5 ?a6 ?l6 ?c6 ?k6 ?a7 ?l7 ?c7 ?k7 ?a8 ?l8 ?c8 ?k8 ?a9 ?l9 ?c9 ?k9 ?a10 ?l10 ?c10 ?k10 ?a11 ?l11 ?c11 ?k11 ?a12 ?l12 ?c12 ?k12 ?a13 ?l13 ?c13 ?k13 ?a14 ?l14 ?c14 ?k14 ?a15 ?l15 ?c15 ?k15 ?a16 ?l16 ?c16 ?k16 ?a17 ?l17 ?c17 ?k17 ?a18 ?l18 ?c18 ?k18 ?a19 ?l19 ?c19 ?k19 ?a20 ?l20 ?c20 ?k20 ?a21 ?l21 ?c21 ?k21 ?a22 ?l22 ?c22 ?k22 ?a23 ?l23 ?c23 ?k23 ?a24 ?l24 ?c24 ?k24 ?a25 ?l25 ?c25 ?k25 ?a26 ?l26 ?c26 ?k26 ?a27 ?l27 ?c27 ?k27 ?a28 ?l28 ?c28 ?k28 ?a29 ?l29 ?c29 ?k29 ?a30 ?l30 ?c30 ?k30 ?a31 ?l31 ?c31 ?k31 ?a32 ?l32 ?c32 ?k32 ?a33 ?l33 ?c33 ?k33 ?a34 ?l34 ?c34 ?k34 ?a35 ?l35 ?c35 ?k35 ?a36 ?l36 ?c36 ?k36 ?a37 ?l37 ?c37 ?k37 ?a38 ?l38 ?c38 ?k38 ?a39 ?l39 ?c39 ?k39 ?z_abs ?z_bool ?m_gcd ?z_int ?z_isinstance ?m_lcm ?z_len ?z_list ?z_min ?z_range ?z_repr ?z_sorted ?z_tuple ?z_zip ?g_InvalidSize ?xl_InvalidSize ?xr_InvalidSize ?xk_InvalidSize ?xe_InvalidSize ?xt_InvalidSize ?xh_InvalidSize ?xs_InvalidSize ?xn_InvalidSize ?xi_InvalidSize ?xu_InvalidSize ?xf_InvalidSize ?xc_InvalidSize ?g_Mesh ?on_Mesh ?ou_Mesh ?op_Mesh ?oh_Mesh ?ov_Mesh ?os_Mesh ?of_Mesh_points ?of_Mesh_triangles ?jm_Mesh ?ji_Mesh ?jf_Mesh ?jk_Mesh ?jl_Mesh ?jc_Mesh ?jq_Mesh ?wf_Mesh ?wi_Mesh ?wl_Mesh ?wc_Mesh ?wq_Mesh ?va_Mesh ?vm_Mesh ?vo_Mesh ?oc_get ?oc_tak ?q_ZERO ?ql_ZERO
    (case a0 => first | k_is | rfl)
    (case l0 => first | k_is | rfl)
    (case c0 => first | k_is | rfl)
    (case k0 => first | k_is | rfl)
    (case a1 => first | k_is | rfl)
    (case l1 => first | k_is | rfl)
    (case c1 => first | k_is | rfl)
    (case k1 => first | k_is | rfl)
    (case a2 => first | k_is | rfl)
    (case l2 => first | k_is | rfl)
    (case c2 => first | k_is | rfl)
    (case k2 => first | k_is | rfl)
    (case a3 => first | k_is | rfl)
    (case l3 => first | k_is | rfl)
    (case c3 => first | k_is | rfl)
    (case k3 => first | k_is | rfl)
    (case a4 => first | k_is | rfl)
    (case l4 => first | k_is | rfl)
    (case c4 => first | k_is | rfl)
    (case k4 => first | k_is | rfl)
    (case a5 => first | k_is | rfl)
    (case l5 => first | k_is | rfl)
    (case c5 => first | k_is | rfl)
    (case k5 => first | k_is | rfl)
    (case a6 => first | k_is | rfl)
    (case l6 => first | k_is | rfl)
    (case c6 => first | k_is | rfl)
    (case k6 => first | k_is | rfl)
    (case a7 => first | k_is | rfl)
    (case l7 => first | k_is | rfl)
    (case c7 => first | k_is | rfl)
    (case k7 => first | k_is | rfl)
    (case a8 => first | k_is | rfl)
    (case l8 => first | k_is | rfl)
    (case c8 => first | k_is | rfl)
    (case k8 => first | k_is | rfl)
    (case a9 => first | k_is | rfl)
    (case l9 => first | k_is | rfl)
    (case c9 => first | k_is | rfl)
    (case k9 => first | k_is | rfl)
    (case a10 => first | k_is | rfl)
    (case l10 => first | k_is | rfl)
    (case c10 => first | k_is | rfl)
    (case k10 => first | k_is | rfl)
    (case a11 => first | k_is | rfl)
    (case l11 => first | k_is | rfl)
    (case c11 => first | k_is | rfl)
    (case k11 => first | k_is | rfl)
    (case a12 => first | k_is | rfl)
    (case l12 => first | k_is | rfl)
    (case c12 => first | k_is | rfl)
    (case k12 => first | k_is | rfl)
    (case a13 => first | k_is | rfl)
    (case l13 => first | k_is | rfl)
    (case c13 => first | k_is | rfl)
    (case k13 => first | k_is | rfl)
    (case a14 => first | k_is | rfl)
    (case l14 => first | k_is | rfl)
    (case c14 => first | k_is | rfl)
    (case k14 => first | k_is | rfl)
    (case a15 => first | k_is | rfl)
    (case l15 => first | k_is | rfl)
    (case c15 => first | k_is | rfl)
    (case k15 => first | k_is | rfl)
    (case a16 => first | k_is | rfl)
    (case l16 => first | k_is | rfl)
    (case c16 => first | k_is | rfl)
    (case k16 => first | k_is | rfl)
    (case a17 => first | k_is | rfl)
    (case l17 => first | k_is | rfl)
    (case c17 => first | k_is | rfl)
    (case k17 => first | k_is | rfl)
    (case a18 => first | k_is | rfl)
    (case l18 => first | k_is | rfl)
    (case c18 => first | k_is | rfl)
    (case k18 => first | k_is | rfl)
    (case a19 => first | k_is | rfl)
    (case l19 => first | k_is | rfl)
    (case c19 => first | k_is | rfl)
    (case k19 => first | k_is | rfl)
    (case a20 => first | k_is | rfl)
    (case l20 => first | k_is | rfl)
    (case c20 => first | k_is | rfl)
    (case k20 => first | k_is | rfl)
    (case a21 => first | k_is | rfl)
    (case l21 => first | k_is | rfl)
    (case c21 => first | k_is | rfl)
    (case k21 => first | k_is | rfl)
    (case a22 => first | k_is | rfl)
    (case l22 => first | k_is | rfl)
    (case c22 => first | k_is | rfl)
    (case k22 => first | k_is | rfl)
    (case a23 => first | k_is | rfl)
    (case l23 => first | k_is | rfl)
    (case c23 => first | k_is | rfl)
    (case k23 => first | k_is | rfl)
    (case a24 => first | k_is | rfl)
    (case l24 => first | k_is | rfl)
    (case c24 => first | k_is | rfl)
    (case k24 => first | k_is | rfl)
    (case a25 => first | k_is | rfl)
    (case l25 => first | k_is | rfl)
    (case c25 => first | k_is | rfl)
    (case k25 => first | k_is | rfl)
    (case a26 => first | k_is | rfl)
    (case l26 => first | k_is | rfl)
    (case c26 => first | k_is | rfl)
    (case k26 => first | k_is | rfl)
    (case a27 => first | k_is | rfl)
    (case l27 => first | k_is | rfl)
    (case c27 => first | k_is | rfl)
    (case k27 => first | k_is | rfl)
    (case a28 => first | k_is | rfl)
    (case l28 => first | k_is | rfl)
    (case c28 => first | k_is | rfl)
    (case k28 => first | k_is | rfl)
    (case a29 => first | k_is | rfl)
    (case l29 => first | k_is | rfl)
    (case c29 => first | k_is | rfl)
    (case k29 => first | k_is | rfl)
    (case a30 => first | k_is | rfl)
    (case l30 => first | k_is | rfl)
    (case c30 => first | k_is | rfl)
    (case k30 => first | k_is | rfl)
    (case a31 => first | k_is | rfl)
    (case l31 => first | k_is | rfl)
    (case c31 => first | k_is | rfl)
    (case k31 => first | k_is | rfl)
    (case a32 => first | k_is | rfl)
    (case l32 => first | k_is | rfl)
    (case c32 => first | k_is | rfl)
    (case k32 => first | k_is | rfl)
    (case a33 => first | k_is | rfl)
    (case l33 => first | k_is | rfl)
    (case c33 => first | k_is | rfl)
    (case k33 => first | k_is | rfl)
    (case a34 => first | k_is | rfl)
    (case l34 => first | k_is | rfl)
    (case c34 => first | k_is | rfl)
    (case k34 => first | k_is | rfl)
    (case a35 => first | k_is | rfl)
    (case l35 => first | k_is | rfl)
    (case c35 => first | k_is | rfl)
    (case k35 => first | k_is | rfl)
    (case a36 => first | k_is | rfl)
    (case l36 => first | k_is | rfl)
    (case c36 => first | k_is | rfl)
    (case k36 => first | k_is | rfl)
    (case a37 => first | k_is | rfl)
    (case l37 => first | k_is | rfl)
    (case c37 => first | k_is | rfl)
    (case k37 => first | k_is | rfl)
    (case a38 => first | k_is | rfl)
    (case l38 => first | k_is | rfl)
    (case c38 => first | k_is | rfl)
    (case k38 => first | k_is | rfl)
    (case a39 => first | k_is | rfl)
    (case l39 => first | k_is | rfl)
    (case c39 => first | k_is | rfl)
    (case k39 => first | k_is | rfl)
    (case z_abs => first | k_is | rfl)
    (case z_bool => first | k_is | rfl)
    (case m_gcd => first | k_is | rfl)
    (case z_int => first | k_is | rfl)
    (case z_isinstance => first | k_is | rfl)
    (case m_lcm => first | k_is | rfl)
    (case z_len => first | k_is | rfl)
    (case z_list => first | k_is | rfl)
    (case z_min => first | k_is | rfl)
    (case z_range => first | k_is | rfl)
    (case z_repr => first | k_is | rfl)
    (case z_sorted => first | k_is | rfl)
    (case z_tuple => first | k_is | rfl)
    (case z_zip => first | k_is | rfl)
    (case g_InvalidSize => first | k_is | rfl)
    (case xl_InvalidSize => first | k_is | rfl)
    (case xr_InvalidSize => repeat constructor)
    (case xk_InvalidSize => first | k_is | rfl)
    (case xe_InvalidSize => first | k_is | rfl)
    (case xt_InvalidSize => first | k_is | rfl)
    (case xh_InvalidSize => first | k_is | rfl)
    (case xs_InvalidSize => first | k_is | rfl)
    (case xn_InvalidSize => first | k_is | rfl)
    (case xi_InvalidSize => first | k_is | rfl)
    (case xu_InvalidSize => first | k_is | rfl)
    (case xf_InvalidSize => first | k_is | rfl)
    (case xc_InvalidSize => first | k_is | rfl)
    (case g_Mesh => first | k_is | rfl)
    (case on_Mesh => first | k_is | rfl)
    (case ou_Mesh => first | k_is | rfl)
    (case op_Mesh => first | k_is | rfl)
    (case oh_Mesh => first | k_is | rfl)
    (case ov_Mesh => first | k_is | rfl)
    (case os_Mesh => first | k_is | rfl)
    (case of_Mesh_points => first | k_is | rfl)
    (case of_Mesh_triangles => first | k_is | rfl)
    (case jm_Mesh => first | k_is | rfl)
    (case ji_Mesh => first | k_is | rfl)
    (case jf_Mesh => first | k_is | rfl)
    (case jk_Mesh => first | k_is | rfl)
    (case jl_Mesh => first | k_is | rfl)
    (case jc_Mesh => first | k_is | rfl)
    (case jq_Mesh => first | k_is | rfl)
    (case wf_Mesh => first | k_is | rfl)
    (case wi_Mesh => first | k_is | rfl)
    (case wl_Mesh => first | k_is | rfl)
    (case wc_Mesh => first | k_is | rfl)
    (case wq_Mesh => first | k_is | rfl)
    (case va_Mesh => first | k_is | rfl)
    (case vm_Mesh => first | k_is | rfl)
    (case vo_Mesh => first | k_is | rfl)
    (case oc_get => first | k_is | rfl)
    (case oc_tak => first | k_is | rfl)
    (case q_ZERO => first | k_is | rfl)
    (case ql_ZERO => first | k_is | rfl)
#print axioms PySem.Challenge.cw_leastfield_k41_slopes_on_triangles_holds
